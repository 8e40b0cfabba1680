/- The document's answer: what is told of a symbol and of symbols one behind the other, walked. -/
import Derived.Test.YtgifhgnccmnbiaaRfRules
import Derived.Deep.RegionHeld3
set_option linter.unusedVariables false
set_option linter.unusedSimpArgs false
namespace Go.Proofs.Ytgifhgnccmnbiaa
open Go.RowKit Go.IntWalk

def PI.arr (p : PI) : Array Value := #[.int .i64 (p.long : Int), .int .i64 (p.ends : Int), .int .i64 (p.tail : Int), .slice none 0 0, .slice none 0 0, .int .i64 0]
def PI.val (p : PI) : Value := .agg p.arr
def PI.cells (p : PI) : List Value := [.int .i64 (p.long : Int), .int .i64 (p.ends : Int), .int .i64 (p.tail : Int), .slice none 0 0, .slice none 0 0, .int .i64 0]
def piCells (l : List PI) : List Value := l.flatMap PI.cells
structure PIsmall (p : PI) : Prop where
  long : p.long ≤ 1099511627777
  ends : p.ends ≤ 1099511627777
  tail : p.tail ≤ 1099511627777
theorem piOf_small (t : List Nat) : PIsmall (piOf t) := ⟨capL_le _, capL_le _, capL_le _⟩
theorem capS_le (a b : Nat) : capS a b ≤ 1099511627777 := by rw [capS_eq]; exact capL_le _
theorem joinedP_small {a b : PI} (hb : PIsmall b) : PIsmall (joinedP a b) := ⟨capS_le _ _, capS_le _ _, by unfold joinedP; simp only []; split; exact capS_le _ _; exact hb.tail⟩
theorem piCells_length : ∀ l : List PI, (piCells l).length = l.length * 6
  | [] => rfl
  | x :: l => by
    have := piCells_length l
    simp only [piCells, List.flatMap_cons, List.length_append, List.length_cons, PI.cells, List.length_nil] at this ⊢
    omega
theorem piCells_get : ∀ (l : List PI) (i j : Nat) (x : PI), l[i]? = some x → j < 6 → (piCells l)[i * 6 + j]? = x.cells[j]?
  | [], i, j, x, h, _ => by simp at h
  | y :: l, 0, j, x, h, hj => by
    simp only [List.getElem?_cons_zero, Option.some.injEq] at h
    subst h
    show (y.cells ++ piCells l)[0 * 6 + j]? = _
    rw [List.getElem?_append_left (by simp [PI.cells]; omega)]
    congr 1; omega
  | y :: l, i + 1, j, x, h, hj => by
    rw [List.getElem?_cons_succ] at h
    show (y.cells ++ piCells l)[(i + 1) * 6 + j]? = _
    rw [List.getElem?_append_right (by simp [PI.cells]; omega), show (i + 1) * 6 + j - y.cells.length = i * 6 + j by simp [PI.cells]; omega]
    exact piCells_get l i j x h hj
theorem piCells_snoc (l : List PI) (x : PI) : piCells (l ++ [x]) = piCells l ++ x.cells := by simp [piCells]

set_option maxHeartbeats 400000 in
theorem pboth_any (a b : Nat) (ha : a ≤ 1099511627777) (hb : b ≤ 1099511627777) (w : World) : Calls Try.prog 115 #[.int .i64 (a : Int), .int .i64 (b : Int)] w fun e w' => e = .returned (.int .i64 (capS a b : Int)) ∧ w' = w := by
  unfold capS
  by_cases h : (1099511627776 : Int) < (a : Int) + (b : Int)
  · rw [if_pos (by omega)]
    go_enter Try.func115, Try.ntmps115
    go_wp2
    go_ret
    exact ⟨rfl, rfl⟩
  · rw [if_neg (by omega)]
    go_enter Try.func115, Try.ntmps115
    go_wp2
    go_ret
    exact ⟨ret_int (by omega), rfl⟩

theorem size_piece : (Try.prog.info? 91).map (·.size) = some 6 := by kernel_rfl
theorem results_piece {fn : Func} {r : Tmp} (h : fn.results = #[.cell r 91]) (tmps : Array Value) (w : World) (g : Nat) (p : PI)
    (hp : tmps.getD r undef = .pointer (some ⟨g, 0, none⟩)) (hg : Blk w g p.arr 91) : (results fn tmps).run Try.prog w = .ok p.val w :=
  results_cell_row h tmps w g _ _ _ _ hp hg Try.underlying91 rfl size_piece

set_option maxHeartbeats 1000000 in
set_option maxRecDepth 100000 in
theorem psize_any {w : World} {b B : Nat} {kv nv rv tv pv : Value} {ps : List PI} (hb : Blk w b #[kv, nv, rv, tv, pv] 95) (hp : w.ownsRow B 91 6 pv ps.length (piCells ps)) (s : Nat) (hs : s < 256 + ps.length) (hl : ps.length ≤ 1000) :
    Calls Try.prog 77 #[.pointer (some ⟨b, 0, none⟩), .int .i64 (s : Int)] w fun e w' => e = .returned (sizeP ps s).val ∧ Kept [] w w' := by
  have hk : Hid (∀ o1, Kept [] w (w.alloc o1)) := fun o1 => (Kept.refl [] w).alloc _
  unfold sizeP
  by_cases h1 : s = 10
  · subst h1
    rw [if_pos rfl]
    unfold PI.val PI.arr
    clear hb hp
    go_enter Try.func77, Try.ntmps77
    go_wp2
    refine bodyPost_ret (v := .agg #[.int .i64 1, .int .i64 1, .int .i64 0, .slice none 0 0, .slice none 0 0, .int .i64 0]) (by simp [results, Try.results77, go_sem]) rfl ⟨rfl, hk.out _⟩
  · rw [if_neg h1]
    have e1 : ((s : Int) == 10) = false := beq_eq_false_iff_ne.2 (by omega)
    clear h1
    by_cases h2 : (s : Int) < 256
    · rw [if_pos (by omega)]
      unfold PI.val PI.arr
      clear hb hp
      go_enter Try.func77, Try.ntmps77
      go_wp2
      refine bodyPost_ret (v := .agg #[.int .i64 1, .int .i64 0, .int .i64 1, .slice none 0 0, .slice none 0 0, .int .i64 0]) (by simp [results, Try.results77, go_sem]) rfl ⟨rfl, hk.out _⟩
    · rw [if_neg (by omega)]
      obtain ⟨k, rfl⟩ : ∃ k : Nat, s = k + 256 := ⟨s - 256, by omega⟩
      rw [Nat.add_sub_cancel]
      have hkl : k < ps.length := by omega
      have c4 : w.cell? ⟨b, 4, none⟩ = some pv := hb.cell 4
      have hbw : b < w.heap.size := hb.lt
      obtain ⟨x, hx⟩ : ∃ x, ps[k]? = some x := ⟨_, List.getElem?_eq_getElem hkl⟩
      rw [show ps.getD k {} = x by rw [List.getD, hx]; rfl]
      obtain ⟨g, cap, rfl⟩ := own_form hp (by omega)
      have hgw : g < w.heap.size := (hp.lt g rfl).2
      have hc : ∀ j, j < 6 → w.cell? ⟨g, k * 6 + j, none⟩ = x.cells[j]? := fun j hj => by
        obtain ⟨u, hu⟩ : ∃ u, x.cells[j]? = some u := ⟨_, List.getElem?_eq_getElem (by simp [PI.cells]; omega)⟩
        have := hp.cells (g := g) rfl (k * 6 + j) u (by rw [piCells_get _ _ _ _ hx hj]; exact hu)
        rw [ptr_add] at this
        rw [this, hu]
      obtain ⟨p1, p2, p3⟩ := x
      have d0 : w.cell? ⟨g, k * 6, none⟩ = some (.int .i64 (p1 : Int)) := hc 0 (by omega)
      have d1 : w.cell? ⟨g, k * 6 + 1, none⟩ = some (.int .i64 (p2 : Int)) := hc 1 (by omega)
      have d2 : w.cell? ⟨g, k * 6 + 2, none⟩ = some (.int .i64 (p3 : Int)) := hc 2 (by omega)
      have d3 : w.cell? ⟨g, k * 6 + 3, none⟩ = some (.slice none 0 0) := hc 3 (by omega)
      have d4 : w.cell? ⟨g, k * 6 + 4, none⟩ = some (.slice none 0 0) := hc 4 (by omega)
      have d5 : w.cell? ⟨g, k * 6 + 5, none⟩ = some (.int .i64 0) := hc 5 (by omega)
      unfold PI.val PI.arr
      simp only []
      generalize ps.length = n at *
      have lt : (k : Int) < (n : Int) := by omega
      clear hp hb hc hx hkl
      go_enter Try.func77, Try.ntmps77
      go_wp2
      refine bodyPost_ret (v := .agg #[.int .i64 p1, .int .i64 p2, .int .i64 p3, .slice none 0 0, .slice none 0 0, .int .i64 0]) (by simp [results, Try.results77, go_sem]) rfl ⟨rfl, hk.out _⟩

def set6W (w : World) (g : Nat) (u0 u1 u2 u3 u4 u5 : Value) : World := ((((((w.setCell ⟨g, 0, none⟩ u0).setCell ⟨g, 1, none⟩ u1).setCell ⟨g, 2, none⟩ u2).setCell ⟨g, 3, none⟩ u3).setCell ⟨g, 4, none⟩ u4).setCell ⟨g, 5, none⟩ u5)
theorem set6 {w : World} {g : Nat} {E : TypeId} {a0 a1 a2 a3 a4 a5 : Value} (h : Blk w g #[a0, a1, a2, a3, a4, a5] E) (u0 u1 u2 u3 u4 u5 : Value) : Blk (set6W w g u0 u1 u2 u3 u4 u5) g #[u0, u1, u2, u3, u4, u5] E :=
  (((((h.set 0 u0).set 1 u1).set 2 u2).set 3 u3).set 4 u4).set 5 u5
theorem kept6 {w w1 : World} (k : Kept [] w w1) {g : Nat} (hg : w.heap.size ≤ g) (u0 u1 u2 u3 u4 u5 : Value) : Kept [] w (set6W w1 g u0 u1 u2 u3 u4 u5) :=
  (((((k.setCell (Or.inr hg) _).setCell (Or.inr hg) _).setCell (Or.inr hg) _).setCell (Or.inr hg) _).setCell (Or.inr hg) _).setCell (Or.inr hg) _

set_option maxHeartbeats 4000000 in
set_option maxRecDepth 100000 in
theorem joined_any (a b : PI) (ha : PIsmall a) (hb : PIsmall b) (w : World) : Calls Try.prog 78 #[a.val, b.val] w fun e w' => e = .returned (joinedP a b).val ∧ Kept [] w w' := by
  obtain ⟨a1, a2, a3⟩ := a
  obtain ⟨b1, b2, b3⟩ := b
  obtain ⟨ha1, ha2, ha3⟩ := ha
  obtain ⟨hb1, hb2, hb3⟩ := hb
  simp only [] at ha1 ha2 ha3 hb1 hb2 hb3
  unfold joinedP PI.val PI.arr
  simp only []
  have g1 : Hid (∀ w, Calls _ _ _ w _) := fun w => pboth_any a1 b1 ha1 hb1 w
  have g2 : Hid (∀ w, Calls _ _ _ w _) := fun w => pboth_any a2 b2 ha2 hb2 w
  have g3 : Hid (∀ w, Calls _ _ _ w _) := fun w => pboth_any a3 b1 ha3 hb1 w
  generalize capS a1 b1 = L1 at *
  generalize capS a2 b2 = L2 at *
  generalize capS a3 b1 = L3 at *
  obtain ⟨T, hT⟩ : ∃ T, T = if b2 = 0 then L3 else b3 := ⟨_, rfl⟩
  rw [← hT]
  have hTH : Hid (T = _) := hT
  clear hT
  go_enter Try.func78, Try.ntmps78
  go_upto_region 1 with fail
  obtain ⟨W, hW⟩ : ∃ W, W = ((w.alloc (.cells #[.int .i64 (a1 : Int), .int .i64 (a2 : Int), .int .i64 (a3 : Int), .slice none 0 0, .slice none 0 0, .int .i64 0] 91)).alloc (.cells #[.int .i64 (b1 : Int), .int .i64 (b2 : Int), .int .i64 (b3 : Int), .slice none 0 0, .slice none 0 0, .int .i64 0] 91)).alloc (.cells #[.int .i64 0, .int .i64 0, .int .i64 0, .slice none 0 0, .slice none 0 0, .int .i64 0] 91) := ⟨_, rfl⟩
  rw [← hW]
  have hB0 : Blk W w.heap.size #[.int .i64 (a1 : Int), .int .i64 (a2 : Int), .int .i64 (a3 : Int), .slice none 0 0, .slice none 0 0, .int .i64 0] 91 := by rw [hW]; exact ((Blk.new w _ _).alloc _).alloc _
  have hB1 : Blk W (w.heap.size + 1) #[.int .i64 (b1 : Int), .int .i64 (b2 : Int), .int .i64 (b3 : Int), .slice none 0 0, .slice none 0 0, .int .i64 0] 91 := by
    rw [hW]
    have e : (w.alloc (.cells #[.int .i64 (a1 : Int), .int .i64 (a2 : Int), .int .i64 (a3 : Int), .slice none 0 0, .slice none 0 0, .int .i64 0] 91)).heap.size = w.heap.size + 1 := by simp
    rw [← e]
    exact (Blk.new _ _ _).alloc _
  have hB2 : Blk W (w.heap.size + 2) #[.int .i64 0, .int .i64 0, .int .i64 0, .slice none 0 0, .slice none 0 0, .int .i64 0] 91 := by
    rw [hW]
    have e : ((w.alloc (.cells #[.int .i64 (a1 : Int), .int .i64 (a2 : Int), .int .i64 (a3 : Int), .slice none 0 0, .slice none 0 0, .int .i64 0] 91)).alloc (.cells #[.int .i64 (b1 : Int), .int .i64 (b2 : Int), .int .i64 (b3 : Int), .slice none 0 0, .slice none 0 0, .int .i64 0] 91)).heap.size = w.heap.size + 2 := by simp
    rw [← e]
    exact Blk.new _ _ _
  have hWk : Hid (Kept [] w W) := by show Kept [] w W; rw [hW]; exact (((Kept.refl [] w).alloc _).alloc _).alloc _
  have hB0H : Hid (Blk _ _ _ _) := hB0
  have hB1H : Hid (Blk _ _ _ _) := hB1
  have hB2H : Hid (Blk _ _ _ _) := hB2
  have c1 : W.cell? ⟨w.heap.size, 0, none⟩ = some (.int .i64 (a1 : Int)) := hB0.cell 0
  have c2 : W.cell? ⟨w.heap.size, 1, none⟩ = some (.int .i64 (a2 : Int)) := hB0.cell 1
  have c3 : W.cell? ⟨w.heap.size + 1, 0, none⟩ = some (.int .i64 (b1 : Int)) := hB1.cell 0
  have c4 : W.cell? ⟨w.heap.size + 1, 1, none⟩ = some (.int .i64 (b2 : Int)) := hB1.cell 1
  have c5 : W.cell? ⟨w.heap.size + 1, 2, none⟩ = some (.int .i64 (b3 : Int)) := hB1.cell 2
  clear hB0 hB1 hB2 hW
  have n1 := World.new_ne W _ c1
  have n3 := World.new_ne W _ c3
  go_cut [5] (fun s5 wx => s5 = .pointer (some ⟨W.heap.size, 0, none⟩) ∧ ∃ y, y = wx ∧ Blk y W.heap.size #[.int .i64 (L1 : Int), .int .i64 (L2 : Int), .int .i64 (b3 : Int), .slice none 0 0, .slice none 0 0, .int .i64 0] 91 ∧ Kept [] W y)
  case first =>
    go_region_held3 (fun w' => w'.cell? ⟨w.heap.size, 0, none⟩ = some (.int .i64 (a1 : Int)) ∧ w'.cell? ⟨w.heap.size, 1, none⟩ = some (.int .i64 (a2 : Int)) ∧ w'.cell? ⟨w.heap.size + 1, 0, none⟩ = some (.int .i64 (b1 : Int)) ∧ w'.cell? ⟨w.heap.size + 1, 1, none⟩ = some (.int .i64 (b2 : Int)) ∧ w'.cell? ⟨w.heap.size + 1, 2, none⟩ = some (.int .i64 (b3 : Int))) (go_keep)
        (first | (go_at_call_of 115 (Value.int IntKind.i64 (a1 : Int)); refine (g1.out _).mono ?_; rintro _ _ ⟨rfl, rfl⟩) | (go_at_call_of 115 (Value.int IntKind.i64 (a2 : Int)); refine (g2.out _).mono ?_; rintro _ _ ⟨rfl, rfl⟩))
    all_goals
      go_wp2_with fail
      go_meet
      exact ⟨rfl, _, rfl, Blk.new _ _ _, (Kept.refl _ _).drew.alloc _⟩
  case rest =>
    obtain ⟨rfl, wx, hwx, hBx, hkx⟩ := hcut
    subst hwx
    have hB0 := hB0H.out.kept hkx (by simp)
    have hB1 := hB1H.out.kept hkx (by simp)
    have hB2 := hB2H.out.kept hkx (by simp)
    obtain ⟨N, hN⟩ : ∃ N, N = W.heap.size := ⟨_, rfl⟩
    rw [← hN] at hBx ⊢
    have hNl : w.heap.size + 2 < N := by rw [hN]; exact hB2H.out.lt
    have hNx : N < wx.heap.size := hBx.lt
    have m1 : N ≠ w.heap.size + 2 := by omega
    have m2 : w.heap.size + 2 ≠ N := by omega
    have hkw : Kept [] w wx := hWk.out.trans hkx
    have x2 : wx.cell? ⟨w.heap.size, 2, none⟩ = some (.int .i64 (a3 : Int)) := hB0.cell 2
    have y0 : wx.cell? ⟨w.heap.size + 1, 0, none⟩ = some (.int .i64 (b1 : Int)) := hB1.cell 0
    have y1 : wx.cell? ⟨w.heap.size + 1, 1, none⟩ = some (.int .i64 (b2 : Int)) := hB1.cell 1
    have z0 : wx.cell? ⟨w.heap.size + 2, 0, none⟩ = some (.int .i64 0) := hB2.cell 0
    have z1 : wx.cell? ⟨w.heap.size + 2, 1, none⟩ = some (.int .i64 0) := hB2.cell 1
    have z2 : wx.cell? ⟨w.heap.size + 2, 2, none⟩ = some (.int .i64 0) := hB2.cell 2
    have z3 : wx.cell? ⟨w.heap.size + 2, 3, none⟩ = some (.slice none 0 0) := hB2.cell 3
    have z4 : wx.cell? ⟨w.heap.size + 2, 4, none⟩ = some (.slice none 0 0) := hB2.cell 4
    have z5 : wx.cell? ⟨w.heap.size + 2, 5, none⟩ = some (.int .i64 0) := hB2.cell 5
    have f0 : wx.frozen? ⟨w.heap.size + 2, 0, none⟩ = false := hB2.frozen 0
    have f1 : wx.frozen? ⟨w.heap.size + 2, 1, none⟩ = false := hB2.frozen 1
    have f2 : wx.frozen? ⟨w.heap.size + 2, 2, none⟩ = false := hB2.frozen 2
    have f3 : wx.frozen? ⟨w.heap.size + 2, 3, none⟩ = false := hB2.frozen 3
    have f4 : wx.frozen? ⟨w.heap.size + 2, 4, none⟩ = false := hB2.frozen 4
    have f5 : wx.frozen? ⟨w.heap.size + 2, 5, none⟩ = false := hB2.frozen 5
    have x0 : wx.cell? ⟨N, 0, none⟩ = some (.int .i64 (L1 : Int)) := hBx.cell 0
    have x1 : wx.cell? ⟨N, 1, none⟩ = some (.int .i64 (L2 : Int)) := hBx.cell 1
    have xx2 : wx.cell? ⟨N, 2, none⟩ = some (.int .i64 (b3 : Int)) := hBx.cell 2
    have x3 : wx.cell? ⟨N, 3, none⟩ = some (.slice none 0 0) := hBx.cell 3
    have x4 : wx.cell? ⟨N, 4, none⟩ = some (.slice none 0 0) := hBx.cell 4
    have x5 : wx.cell? ⟨N, 5, none⟩ = some (.int .i64 0) := hBx.cell 5
    have xf : wx.frozen? ⟨N, 2, none⟩ = false := hBx.frozen 2
    have hw2 : w.heap.size + 2 < wx.heap.size := hB2.lt
    have hfin : Hid (∀ v u0 u1 u2 u3 u4 u5, Blk (set6W (wx.setCell ⟨N, 2, none⟩ v) (w.heap.size + 2) u0 u1 u2 u3 u4 u5) (w.heap.size + 2) #[u0, u1, u2, u3, u4, u5] 91 ∧ Kept [] w (set6W (wx.setCell ⟨N, 2, none⟩ v) (w.heap.size + 2) u0 u1 u2 u3 u4 u5)) := fun v u0 u1 u2 u3 u4 u5 =>
      ⟨set6 (hB2.kept ((Kept.refl [N] wx).setCell (Or.inl (by simp)) v) (by simp; omega)) u0 u1 u2 u3 u4 u5, kept6 (hkw.setCell (Or.inr (by show w.heap.size ≤ N; omega)) v) (by omega) u0 u1 u2 u3 u4 u5⟩
    have hfin0 : Hid (∀ u0 u1 u2 u3 u4 u5, Blk (set6W wx (w.heap.size + 2) u0 u1 u2 u3 u4 u5) (w.heap.size + 2) #[u0, u1, u2, u3, u4, u5] 91 ∧ Kept [] w (set6W wx (w.heap.size + 2) u0 u1 u2 u3 u4 u5)) := fun u0 u1 u2 u3 u4 u5 =>
      ⟨set6 hB2 u0 u1 u2 u3 u4 u5, kept6 hkw (by omega) u0 u1 u2 u3 u4 u5⟩
    unfold set6W at hfin hfin0
    clear hB0 hB1 hB2 hBx hkx hkw hN hB0H hB1H hB2H hWk c1 c2 c3 c4 c5 n1 n3 g1 g2
    by_cases h : b2 = 0
    · have e1 : ((b2 : Int) == 0) = true := by rw [h]; rfl
      have hT1 : T = L3 := hTH.out.trans (if_pos h)
      clear h hTH
      subst hT1
      go_wp2_with fail
      refine (g3.out _).mono ?_
      rintro e w2 ⟨rfl, rfl⟩
      clear g3
      go_wp2
      exact bodyPost_ret (v := .agg #[(.int .i64 L1), (.int .i64 L2), (.int .i64 T), .slice none 0 0, .slice none 0 0, .int .i64 0]) (results_piece Try.results78 _ _ (w.heap.size + 2) ⟨L1, L2, T⟩ rfl (hfin.out _ _ _ _ _ _ _).1) rfl ⟨rfl, (hfin.out _ _ _ _ _ _ _).2⟩
    · have e1 : ((b2 : Int) == 0) = false := beq_eq_false_iff_ne.2 (by omega)
      have hT1 : T = b3 := hTH.out.trans (if_neg h)
      clear h g3 hTH
      subst hT1
      go_wp2
      exact bodyPost_ret (v := .agg #[.int .i64 L1, .int .i64 L2, .int .i64 T, .slice none 0 0, .slice none 0 0, .int .i64 0]) (results_piece Try.results78 _ _ (w.heap.size + 2) ⟨L1, L2, T⟩ rfl (hfin0.out _ _ _ _ _ _).1) rfl ⟨rfl, (hfin0.out _ _ _ _ _ _).2⟩

end Go.Proofs.Ytgifhgnccmnbiaa
