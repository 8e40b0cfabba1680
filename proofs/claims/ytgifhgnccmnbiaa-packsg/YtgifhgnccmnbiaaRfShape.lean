/- The document's answer: Shape, walked. -/
import Derived.Test.YtgifhgnccmnbiaaRfOpenW
import Derived.Test.YtgifhgnccmnbiaaShapeS
set_option linter.unusedVariables false
set_option linter.unusedSimpArgs false
namespace Go.Proofs.Ytgifhgnccmnbiaa
open Go.RowKit Go.IntWalk

structure ShapeR (f : ByteArray) (w w' : World) (e : Ending) : Prop where
  kept : Kept [] w w'
  out : (∃ n r, ZGood f n r ∧ e = .returned (.tuple #[.agg (infoV 90 n (wholeR [] (bytesN r.out)).long (linesR (wholeR [] (bytesN r.out)))), .int .i64 0])) ∨
    (ZNo f ∧ ¬ GOk f ∧ e = .returned (.tuple #[.agg zero4, .int .i64 4])) ∨
    (ZNo f ∧ GOk f ∧ 1099511627776 < (gAll f).long ∧ e = .returned (.tuple #[.agg zero4, .int .i64 5])) ∨
    (ZNo f ∧ GOk f ∧ (gAll f).long ≤ 1099511627776 ∧ e = .returned (.tuple #[.agg (infoV 71 (gN f) (gAll f).long (linesR (gAll f))), .int .i64 0]))
theorem bytesN_lt (s : ByteArray) : ∀ x, x ∈ bytesN s → x < 256 := fun x hx => by
  unfold bytesN at hx
  obtain ⟨z, _, rfl⟩ := List.mem_map.1 hx
  exact z.toNat_lt
/-- The two ways in which a file opens. -/
theorem OpenedR.two {f : ByteArray} {w w' : World} {e : Ending} (h : OpenedR f w w' e) :
    (∃ c : Int, c ≠ 0 ∧ 0 ≤ c ∧ c ≤ 5 ∧ e = .returned (.tuple #[.pointer none, .int .i64 c]) ∧ ∀ w2, Kept [] w w2 → ShapeR f w w2 (.returned (.tuple #[.agg zero4, .int .i64 c]))) ∨
    ∃ b B C kind n rl top ps rv tv pv, GM w' b B C kind n rl top ps rv tv pv ∧ ps.length ≤ 1000 ∧ top.length ≤ 100000000 ∧ (∀ s, s ∈ top → s < 256 + ps.length) ∧ e = .returned (.tuple #[.pointer (some ⟨b, 0, none⟩), .int .i64 0]) ∧
      ∀ w2, Kept [] w w2 → ShapeR f w w2 (.returned (.tuple #[.agg (infoV kind n (wholeR ps top).long (linesR (wholeR ps top))), .int .i64 0])) := by
  rcases h.out with ⟨n, r, b, B, C, tv, hz, hG, he⟩ | ⟨a, c, he⟩ | ⟨a, c, d, he⟩ | ⟨a, c, d, b, B, C, rv, tv, pv, hG, he⟩
  · refine Or.inr ⟨b, B, C, 90, n, [], _, [], _, _, _, hG, by simp, by rw [bytesN_len]; have := hz.size; omega, fun s hs => by have := bytesN_lt _ s hs; simp; omega, he, fun w2 k => ⟨k, Or.inl ⟨n, r, hz, rfl⟩⟩⟩
  · exact Or.inl ⟨4, by omega, by omega, by omega, he, fun w2 k => ⟨k, Or.inr (Or.inl ⟨a, c, rfl⟩)⟩⟩
  · exact Or.inl ⟨5, by omega, by omega, by omega, he, fun w2 k => ⟨k, Or.inr (Or.inr (Or.inl ⟨a, c, d, rfl⟩))⟩⟩
  · refine Or.inr ⟨b, B, C, 71, gN f, _, _, _, _, _, _, hG, by rw [gPs_len]; have := c.r; omega, by rw [gTop_len]; have := c.n; omega, fun s hs => by rw [gPs_len]; exact c.top _ (Nat.le_refl _) s hs, he, fun w2 k => ⟨k, Or.inr (Or.inr (Or.inr ⟨a, c, d, rfl⟩))⟩⟩

set_option maxHeartbeats 4000000 in
set_option maxRecDepth 100000 in
theorem shapeR_any (f : ByteArray) (hf : f.size ≤ maxLen) (w : World) :
    Calls Try.prog 26 #[.string f] w fun e w' => ShapeR f w w' e := by
  have hk0 : Hid (Kept [] w (w.alloc (.cells zero4 41))) := (Kept.refl [] w).alloc _
  have hz0 : Hid (Blk (w.alloc (.cells zero4 41)) w.heap.size zero4 41) := Blk.new w _ _
  have hc : Hid (Calls _ _ _ (w.alloc (.cells zero4 41)) _) := opened_any f hf _
  unfold zero4 at hc hk0 hz0
  have hsame : Hid (∀ w1 e, OpenedR f (w.alloc (.cells #[.int .i64 0, .int .i64 0, .int .i64 0, .int .i64 0] 41)) w1 e → OpenedR f w w1 e) := fun w1 e h => ⟨hk0.out.trans h.kept, h.out⟩
  go_enter Try.func26, Try.ntmps26
  go_wp2_with fail
  refine hc.out.mono ?_
  rintro e w1 hout
  have hz1 := hz0.out.kept hout.kept (by simp)
  have hk1 : Hid (Kept [] w w1) := hk0.out.trans hout.kept
  have y0 : w1.cell? ⟨w.heap.size, 0, none⟩ = some (.int .i64 0) := hz1.cell 0
  have y1 : w1.cell? ⟨w.heap.size, 1, none⟩ = some (.int .i64 0) := hz1.cell 1
  have y2 : w1.cell? ⟨w.heap.size, 2, none⟩ = some (.int .i64 0) := hz1.cell 2
  have y3 : w1.cell? ⟨w.heap.size, 3, none⟩ = some (.int .i64 0) := hz1.cell 3
  have f0 : w1.frozen? ⟨w.heap.size, 0, none⟩ = false := hz1.frozen 0
  have f1 : w1.frozen? ⟨w.heap.size, 1, none⟩ = false := hz1.frozen 1
  have f2 : w1.frozen? ⟨w.heap.size, 2, none⟩ = false := hz1.frozen 2
  have f3 : w1.frozen? ⟨w.heap.size, 3, none⟩ = false := hz1.frozen 3
  have hlt1 : w.heap.size < w1.heap.size := hz1.lt
  have hz1H : Hid (Blk _ _ _ _) := hz1
  rcases (hsame.out _ _ hout).two with ⟨c, c0, c1, c2, rfl, hfin⟩ | ⟨b, B, C, kind, n, rl, top, ps, rv, tv, pv, hG, hl, htl, hs, rfl, hfin⟩
  · have hfinH : Hid (∀ w2, _) := hfin
    have cne : (c != 0) = true := by simp [c0]
    have hS : Hid (∀ u0 u1 u2 u3, Blk ((((w1.setCell ⟨w.heap.size, 0, none⟩ u0).setCell ⟨w.heap.size, 1, none⟩ u1).setCell ⟨w.heap.size, 2, none⟩ u2).setCell ⟨w.heap.size, 3, none⟩ u3) w.heap.size #[u0, u1, u2, u3] 41 ∧ Kept [] w ((((w1.setCell ⟨w.heap.size, 0, none⟩ u0).setCell ⟨w.heap.size, 1, none⟩ u1).setCell ⟨w.heap.size, 2, none⟩ u2).setCell ⟨w.heap.size, 3, none⟩ u3)) := fun u0 u1 u2 u3 => ⟨set4 hz1 u0 u1 u2 u3, kept4 hk1.out (Nat.le_refl _) u0 u1 u2 u3⟩
    clear hfin hout hc hsame hz1 hk0 hz0 hz1H c0
    go_wp2
    exact bodyPost_ret (v := .tuple #[.agg zero4, .int .i64 c]) (results_info Try.results26 _ _ w.heap.size zero4 rfl _ rfl rfl (hS.out _ _ _ _).1) rfl (hfinH.out _ (hS.out _ _ _ _).2)
  · have hfinH : Hid (∀ w2, _) := hfin
    have hwh : Hid (Calls _ _ _ _ _) := whole_any hG hs hl htl
    have hsmall := wholeR_small hG.small top
    have hGH : Hid (GM _ _ _ _ _ _ _ _ _ _ _ _) := hG
    clear hfin hout hc hsame hz1 hk0 hz0 hG hs hl htl
    generalize wholeR ps top = D at *
    obtain ⟨D1, D2, D3⟩ := D
    obtain ⟨l1, l2, l3⟩ := hsmall
    simp only [] at l1 l2 l3
    unfold PI.val PI.arr at hwh
    simp only [] at hwh
    go_wp2_with fail
    refine hwh.out.mono ?_
    rintro e w9 ⟨rfl, k9⟩
    have hz9 := hz1H.out.kept k9 (by simp)
    have hG9 := hGH.out.kept k9
    have hk9 : Kept [] w w9 := hk1.out.trans k9
    have g0 : w9.cell? ⟨b, 0, none⟩ = some (.int .i64 kind) := hG9.blk.cell 0
    have g1 : w9.cell? ⟨b, 1, none⟩ = some (.int .i64 (n : Int)) := hG9.blk.cell 1
    have hb9 : b < w9.heap.size := hG9.blk.lt
    have hlt9 : w.heap.size < w9.heap.size := hz9.lt
    clear hwh y0 y1 y2 y3 f0 f1 f2 f3
    go_wp2_with fail
    obtain ⟨W, hW⟩ : ∃ W, W = w9.alloc (.cells #[.int .i64 (D1 : Int), .int .i64 (D2 : Int), .int .i64 (D3 : Int), .slice none 0 0, .slice none 0 0, .int .i64 0] 91) := ⟨_, rfl⟩
    rw [← hW]
    have hD : Blk W w9.heap.size #[.int .i64 (D1 : Int), .int .i64 (D2 : Int), .int .i64 (D3 : Int), .slice none 0 0, .slice none 0 0, .int .i64 0] 91 := by rw [hW]; exact Blk.new _ _ _
    have hzW : Hid (Blk _ _ _ _) := hz9.alloc (.cells #[.int .i64 (D1 : Int), .int .i64 (D2 : Int), .int .i64 (D3 : Int), .slice none 0 0, .slice none 0 0, .int .i64 0] 91)
    have hkW : Hid (Kept [] w _) := hk9.alloc (.cells #[.int .i64 (D1 : Int), .int .i64 (D2 : Int), .int .i64 (D3 : Int), .slice none 0 0, .slice none 0 0, .int .i64 0] 91)
    have hGW := (hG9.kept ((Kept.refl [] w9).alloc (.cells #[.int .i64 (D1 : Int), .int .i64 (D2 : Int), .int .i64 (D3 : Int), .slice none 0 0, .slice none 0 0, .int .i64 0] 91))).blk
    rw [← hW] at hzW hkW hGW
    have hDH : Hid (Blk _ _ _ _) := hD
    have s0 : W.cell? ⟨w9.heap.size, 0, none⟩ = some (.int .i64 (D1 : Int)) := hD.cell 0
    have s1 : W.cell? ⟨w9.heap.size, 1, none⟩ = some (.int .i64 (D2 : Int)) := hD.cell 1
    have t0 : W.cell? ⟨b, 0, none⟩ = some (.int .i64 kind) := hGW.cell 0
    have t1 : W.cell? ⟨b, 1, none⟩ = some (.int .i64 (n : Int)) := hGW.cell 1
    have hbW : b < W.heap.size := hGW.lt
    have n1 := World.new_ne W _ s0
    have n2 := World.new_ne W _ t0
    clear hD hW hGW k9 hz9 hG9 hk9 g0 g1 hb9 hlt9 hGH hz1H hk1 hlt1
    go_cut [7] (fun s7 wx => s7 = .pointer (some ⟨W.heap.size, 0, none⟩) ∧ ∃ y, y = wx ∧ Blk y W.heap.size #[.int .i64 kind, .int .i64 (n : Int), .int .i64 (D1 : Int), .int .i64 (D2 : Int)] 41 ∧ Kept [] W y)
    case first =>
      go_region_held3 (fun w' => w'.cell? ⟨w9.heap.size, 0, none⟩ = some (.int .i64 (D1 : Int)) ∧ w'.cell? ⟨w9.heap.size, 1, none⟩ = some (.int .i64 (D2 : Int)) ∧ w'.cell? ⟨b, 0, none⟩ = some (.int .i64 kind) ∧ w'.cell? ⟨b, 1, none⟩ = some (.int .i64 (n : Int))) (go_keep) (fail)
      all_goals
        go_wp2_with fail
        go_meet
        exact ⟨rfl, _, rfl, Blk.new _ _ _, (Kept.refl _ _).drew.alloc _⟩
    case rest =>
      obtain ⟨rfl, wx, hwx, hBx, hkx⟩ := hcut
      subst hwx
      have hD := hDH.out.kept hkx (by simp)
      have hzx := hzW.out.kept hkx (by simp)
      have hkw := hkW.out.trans hkx
      obtain ⟨N, hN⟩ : ∃ N, N = W.heap.size := ⟨_, rfl⟩
      rw [← hN] at hBx ⊢
      have hNl : w.heap.size < N := by rw [hN]; exact hzW.out.lt
      have m1 : N ≠ w.heap.size := by omega
      have m2 : w.heap.size ≠ N := by omega
      have hNx : N < wx.heap.size := hBx.lt
      have hwx : w.heap.size < wx.heap.size := hzx.lt
      have s2 : wx.cell? ⟨w9.heap.size, 2, none⟩ = some (.int .i64 (D3 : Int)) := hD.cell 2
      have s1' : wx.cell? ⟨w9.heap.size, 1, none⟩ = some (.int .i64 (D2 : Int)) := hD.cell 1
      have y0 : wx.cell? ⟨w.heap.size, 0, none⟩ = some (.int .i64 0) := hzx.cell 0
      have y1 : wx.cell? ⟨w.heap.size, 1, none⟩ = some (.int .i64 0) := hzx.cell 1
      have y2 : wx.cell? ⟨w.heap.size, 2, none⟩ = some (.int .i64 0) := hzx.cell 2
      have y3 : wx.cell? ⟨w.heap.size, 3, none⟩ = some (.int .i64 0) := hzx.cell 3
      have f0 : wx.frozen? ⟨w.heap.size, 0, none⟩ = false := hzx.frozen 0
      have f1 : wx.frozen? ⟨w.heap.size, 1, none⟩ = false := hzx.frozen 1
      have f2 : wx.frozen? ⟨w.heap.size, 2, none⟩ = false := hzx.frozen 2
      have f3 : wx.frozen? ⟨w.heap.size, 3, none⟩ = false := hzx.frozen 3
      have x0 : wx.cell? ⟨N, 0, none⟩ = some (.int .i64 kind) := hBx.cell 0
      have x1 : wx.cell? ⟨N, 1, none⟩ = some (.int .i64 (n : Int)) := hBx.cell 1
      have x2 : wx.cell? ⟨N, 2, none⟩ = some (.int .i64 (D1 : Int)) := hBx.cell 2
      have x3 : wx.cell? ⟨N, 3, none⟩ = some (.int .i64 (D2 : Int)) := hBx.cell 3
      have xf : wx.frozen? ⟨N, 3, none⟩ = false := hBx.frozen 3
      have hS0 : Hid (∀ u0 u1 u2 u3, Blk ((((wx.setCell ⟨w.heap.size, 0, none⟩ u0).setCell ⟨w.heap.size, 1, none⟩ u1).setCell ⟨w.heap.size, 2, none⟩ u2).setCell ⟨w.heap.size, 3, none⟩ u3) w.heap.size #[u0, u1, u2, u3] 41 ∧ Kept [] w ((((wx.setCell ⟨w.heap.size, 0, none⟩ u0).setCell ⟨w.heap.size, 1, none⟩ u1).setCell ⟨w.heap.size, 2, none⟩ u2).setCell ⟨w.heap.size, 3, none⟩ u3)) := fun u0 u1 u2 u3 => ⟨set4 hzx u0 u1 u2 u3, kept4 hkw (Nat.le_refl _) u0 u1 u2 u3⟩
      have hS1 : Hid (∀ v u0 u1 u2 u3, Blk (((((wx.setCell ⟨N, 3, none⟩ v).setCell ⟨w.heap.size, 0, none⟩ u0).setCell ⟨w.heap.size, 1, none⟩ u1).setCell ⟨w.heap.size, 2, none⟩ u2).setCell ⟨w.heap.size, 3, none⟩ u3) w.heap.size #[u0, u1, u2, u3] 41 ∧ Kept [] w (((((wx.setCell ⟨N, 3, none⟩ v).setCell ⟨w.heap.size, 0, none⟩ u0).setCell ⟨w.heap.size, 1, none⟩ u1).setCell ⟨w.heap.size, 2, none⟩ u2).setCell ⟨w.heap.size, 3, none⟩ u3)) := fun v u0 u1 u2 u3 =>
        ⟨set4 (hzx.kept ((Kept.refl [N] wx).setCell (Or.inl (by simp)) v) (by simp; omega)) u0 u1 u2 u3, kept4 (hkw.setCell (Or.inr (by show w.heap.size ≤ N; omega)) v) (Nat.le_refl _) u0 u1 u2 u3⟩
      clear hD hzx hkw hBx hkx hN hzW hkW hDH s0 s1 t0 t1 n1 n2 hbW
      unfold linesR at hfinH
      simp only [] at hfinH
      by_cases h : 0 < D3
      · have hp : (0 : Int) < (D3 : Int) := by omega
        rw [if_pos h] at hfinH
        have e3 : ((D2 + 1 : Nat) : Int) = (D2 : Int) + 1 := by omega
        unfold infoV at hfinH
        rw [e3] at hfinH
        clear h e3 hS0
        go_wp2
        exact bodyPost_ret (v := .tuple #[.agg #[.int .i64 kind, .int .i64 (n : Int), .int .i64 (D1 : Int), .int .i64 ((D2 : Int) + 1)], .int .i64 0]) (results_info Try.results26 _ _ w.heap.size _ rfl _ rfl rfl (hS1.out _ _ _ _ _).1) rfl (hfinH.out _ (hS1.out _ _ _ _ _).2)
      · have hp : ¬ (0 : Int) < (D3 : Int) := by omega
        rw [if_neg h] at hfinH
        unfold infoV at hfinH
        clear h hS1
        go_wp2
        exact bodyPost_ret (v := .tuple #[.agg #[.int .i64 kind, .int .i64 (n : Int), .int .i64 (D1 : Int), .int .i64 (D2 : Int)], .int .i64 0]) (results_info Try.results26 _ _ w.heap.size _ rfl _ rfl rfl (hS0.out _ _ _ _).1) rfl (hfinH.out _ (hS0.out _ _ _ _).2)

end Go.Proofs.Ytgifhgnccmnbiaa
