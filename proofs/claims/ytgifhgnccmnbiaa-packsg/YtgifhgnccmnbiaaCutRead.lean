/- Package packed: a text that is only read: its rules, what a symbol stands for. -/
import Derived.Test.YtgifhgnccmnbiaaPkFile
import Derived.Test.YtgifhgnccmnbiaaCutPure
set_option linter.unusedVariables false
set_option linter.unusedSimpArgs false
namespace Go.Proofs.Ytgifhgnccmnbiaa
open Go.RowKit Go.IntWalk

/-- A text in block b, its lists somewhere: all below n. -/
structure TR (w : World) (n b : Nat) (t : TT) (rv sv : Value) : Prop where
  blk : Blk w b (t.cells rv sv) 81
  rules : w.ownsRow 0 178 6 rv t.rules.length (ruCells t.rules)
  start : w.ownsRow 0 3 1 sv t.start.length (symCells t.start)
  low : b < n
  rlow : ∀ g, rv.ownBlock = some g → g < n
  slow : ∀ g, sv.ownBlock = some g → g < n

theorem row_under {w w' : World} {n m base e z k : Nat} {v : Value} {xs : List Value} (h : w.ownsRow base e z v k xs) (hl : ∀ g, v.ownBlock = some g → g < n) (b : Below m w w') (hn : n ≤ m) : w'.ownsRow base e z v k xs := by
  refine ⟨h.1, ?_⟩
  rcases h.2 with h1 | ⟨g, cap, cur, h1, h2, h3, h4⟩
  · exact Or.inl h1
  · exact Or.inr ⟨g, cap, cur, h1, h2, (b.block g (by have := hl g (by rw [h1]; rfl); omega)).trans h3, h4⟩
section
variable {w w' : World} {n b : Nat} {t : TT} {rv sv : Value}
theorem TR.cell (h : TR w n b t rv sv) (j : Nat) : w.cell? ⟨b, j, none⟩ = (t.cells rv sv)[j]? := h.blk.cell j
theorem TR.under (h : TR w n b t rv sv) {m : Nat} (k : Below m w w') (hn : n ≤ m) : TR w' n b t rv sv :=
  ⟨(k.block b (by have := h.low; omega)).trans h.blk, row_under h.rules h.rlow k hn, row_under h.start h.slow k hn, h.low, h.rlow, h.slow⟩
theorem TR.kept (h : TR w n b t rv sv) (k : Kept [] w w') : TR w' n b t rv sv :=
  ⟨h.blk.kept k (by simp), row_stay (S := []) h.rules k (fun _ _ => by simp), row_stay (S := []) h.start k (fun _ _ => by simp), h.low, h.rlow, h.slow⟩
end

set_option maxHeartbeats 1000000 in
set_option maxRecDepth 100000 in
theorem ruleT_any {w : World} {n b : Nat} {t : TT} {rv sv : Value} (h : TR w n b t rv sv) (s : Nat) (hs : s ≤ 100000) (hl : t.rules.length ≤ 100000) :
    Calls Try.prog 117 #[.pointer (some ⟨b, 0, none⟩), .int .i64 (s : Int)] w fun e w' => e = .returned (ruleAt t.rules s).val ∧ Kept [] w w' := by
  have hk : Hid (∀ o1, Kept [] w (w.alloc o1)) := fun o1 => (Kept.refl [] w).alloc _
  have c2 : w.cell? ⟨b, 2, none⟩ = some rv := h.cell 2
  have hbw : b < w.heap.size := h.blk.lt
  by_cases h1 : (s : Int) - 256 < 0
  · have e : ruleAt t.rules s = ⟨0, 0, {}⟩ := by unfold ruleAt; rw [if_neg (by omega)]
    rw [e]
    unfold RU.val RU.cells
    clear h e c2
    go_enter Try.func117, Try.ntmps117
    go_wp2
    refine bodyPost_ret (v := .agg #[.int .i64 0, .int .i64 0, .int .i64 0, .int .i64 0, .int .i64 0, .int .i64 0]) (by simp [results, Try.results117, go_sem]) rfl ⟨rfl, hk.out _⟩
  · obtain ⟨k, rfl⟩ : ∃ k : Nat, s = k + 256 := ⟨s - 256, by omega⟩
    have hn : Hid (∀ x, t.rules[k]? = x → ruleAt t.rules ((k + 256 : Nat) : Int) = x.getD ⟨0, 0, {}⟩) := fun x hx => by
      unfold ruleAt; rw [if_pos (by omega), show (((k + 256 : Nat) : Int) - 256).toNat = k by omega, hx]
    clear h1
    by_cases h2 : k < t.rules.length
    · obtain ⟨x, hx⟩ : ∃ x, t.rules[k]? = some x := ⟨_, List.getElem?_eq_getElem h2⟩
      rw [hn.out _ hx]
      obtain ⟨g, cap, rfl⟩ := own_form h.rules (by omega)
      have hgw : g < w.heap.size := (h.rules.lt g rfl).2
      have hc : ∀ j, j < 6 → w.cell? ⟨g, k * 6 + j, none⟩ = x.cells[j]? := fun j hj => by
        obtain ⟨u, hu⟩ : ∃ u, x.cells[j]? = some u := ⟨_, List.getElem?_eq_getElem (by simp [RU.cells]; omega)⟩
        have := h.rules.cells (g := g) rfl (k * 6 + j) u (by rw [ruCells_get _ _ _ _ hx hj]; exact hu)
        rw [ptr_add] at this
        rw [this, hu]
      obtain ⟨l, r, ⟨p1, p2, p3, p4⟩⟩ := x
      have d0 : w.cell? ⟨g, k * 6, none⟩ = some (.int .i64 l) := hc 0 (by omega)
      have d1 : w.cell? ⟨g, k * 6 + 1, none⟩ = some (.int .i64 r) := hc 1 (by omega)
      have d2 : w.cell? ⟨g, k * 6 + 2, none⟩ = some (.int .i64 p1) := hc 2 (by omega)
      have d3 : w.cell? ⟨g, k * 6 + 3, none⟩ = some (.int .i64 p2) := hc 3 (by omega)
      have d4 : w.cell? ⟨g, k * 6 + 4, none⟩ = some (.int .i64 p3) := hc 4 (by omega)
      have d5 : w.cell? ⟨g, k * 6 + 5, none⟩ = some (.int .i64 p4) := hc 5 (by omega)
      show Calls _ _ _ _ (fun e w' => e = .returned (.agg #[.int .i64 l, .int .i64 r, .int .i64 p1, .int .i64 p2, .int .i64 p3, .int .i64 p4]) ∧ Kept [] w w')
      generalize t.rules.length = n0 at *
      have lt : (k : Int) < (n0 : Int) := by omega
      clear h hc hx hn
      go_enter Try.func117, Try.ntmps117
      go_wp2
      refine bodyPost_ret (v := .agg #[.int .i64 l, .int .i64 r, .int .i64 p1, .int .i64 p2, .int .i64 p3, .int .i64 p4]) (by simp [results, Try.results117, go_sem]) rfl ⟨rfl, hk.out _⟩
    · rw [hn.out none (List.getElem?_eq_none (by omega))]
      show Calls _ _ _ _ (fun e w' => e = .returned (.agg #[.int .i64 0, .int .i64 0, .int .i64 0, .int .i64 0, .int .i64 0, .int .i64 0]) ∧ Kept [] w w')
      have hv : ∃ a cap, rv = .slice a t.rules.length cap := by
        rcases h.rules.2 with ⟨h3, h4⟩ | ⟨g, cap, _, h3, _⟩
        · exact ⟨none, 0, by rw [h3, h4]⟩
        · exact ⟨_, cap, h3⟩
      obtain ⟨a, cap, rfl⟩ := hv
      generalize t.rules.length = n0 at *
      have lt : ¬ (k : Int) < (n0 : Int) := by omega
      clear h hn h2
      go_enter Try.func117, Try.ntmps117
      go_wp2
      refine bodyPost_ret (v := .agg #[.int .i64 0, .int .i64 0, .int .i64 0, .int .i64 0, .int .i64 0, .int .i64 0]) (by simp [results, Try.results117, go_sem]) rfl ⟨rfl, hk.out _⟩

set_option maxHeartbeats 1000000 in
set_option maxRecDepth 100000 in
theorem partT_any {w : World} {n b : Nat} {t : TT} {rv sv : Value} (h : TR w n b t rv sv) (s : Nat) (hs : s ≤ 100000) (hl : t.rules.length ≤ 100000) :
    Calls Try.prog 116 #[.pointer (some ⟨b, 0, none⟩), .int .i64 (s : Int)] w fun e w' => e = .returned (partAt t.rules s).val ∧ Kept [] w w' := by
  have hk : Kept [] w (w.alloc (.cells zero4 79)) := (Kept.refl [] w).alloc _
  have hfin : Hid (∀ w1, Kept [] (w.alloc (.cells zero4 79)) w1 → Blk w1 w.heap.size zero4 79 ∧ (∀ u0 u1 u2 u3, Blk ((((w1.setCell ⟨w.heap.size, 0, none⟩ u0).setCell ⟨w.heap.size, 1, none⟩ u1).setCell ⟨w.heap.size, 2, none⟩ u2).setCell ⟨w.heap.size, 3, none⟩ u3) w.heap.size #[u0, u1, u2, u3] 79) ∧ ∀ u0 u1 u2 u3, Kept [] w ((((w1.setCell ⟨w.heap.size, 0, none⟩ u0).setCell ⟨w.heap.size, 1, none⟩ u1).setCell ⟨w.heap.size, 2, none⟩ u2).setCell ⟨w.heap.size, 3, none⟩ u3)) := fun w1 k1 =>
    ⟨(Blk.new w _ _).kept k1 (by simp), fun u0 u1 u2 u3 => set4 ((Blk.new w _ _).kept k1 (by simp)) u0 u1 u2 u3, fun u0 u1 u2 u3 => kept4 (hk.trans k1) (Nat.le_refl _) u0 u1 u2 u3⟩
  by_cases h1 : (s : Int) < 256
  · have e : partAt t.rules s = byteP s := by unfold partAt; rw [if_pos (by omega)]
    rw [e]
    have hb : Hid (∀ w, Calls _ _ _ w _) := fun w => partOfByte_any s w
    clear e h hk
    generalize byteP s = p at *
    obtain ⟨p1, p2, p3, p4⟩ := p
    unfold PT.val PT.arr at hb ⊢
    unfold zero4 at hfin
    simp only [] at hb ⊢
    go_enter Try.func116, Try.ntmps116
    go_wp2_with fail
    refine (hb.out _).mono ?_
    rintro e w1 ⟨rfl, k1⟩
    obtain ⟨hb1, hS, hK⟩ := hfin.out _ k1
    have hS : Hid (∀ u0 u1 u2 u3, _) := hS
    have hK : Hid (∀ u0 u1 u2 u3, _) := hK
    have c0 : w1.cell? ⟨w.heap.size, 0, none⟩ = some (.int .i64 0) := hb1.cell 0
    have c1 : w1.cell? ⟨w.heap.size, 1, none⟩ = some (.int .i64 0) := hb1.cell 1
    have c2 : w1.cell? ⟨w.heap.size, 2, none⟩ = some (.int .i64 0) := hb1.cell 2
    have c3 : w1.cell? ⟨w.heap.size, 3, none⟩ = some (.int .i64 0) := hb1.cell 3
    have f0 : w1.frozen? ⟨w.heap.size, 0, none⟩ = false := hb1.frozen 0
    have f1 : w1.frozen? ⟨w.heap.size, 1, none⟩ = false := hb1.frozen 1
    have f2 : w1.frozen? ⟨w.heap.size, 2, none⟩ = false := hb1.frozen 2
    have f3 : w1.frozen? ⟨w.heap.size, 3, none⟩ = false := hb1.frozen 3
    clear hb1 k1 hb hfin
    go_wp2
    exact bodyPost_ret (v := .agg #[.int .i64 p1, .int .i64 p2, .int .i64 p3, .int .i64 p4]) (results_ppart Try.results116 _ _ w.heap.size ⟨p1, p2, p3, p4⟩ rfl (hS.out _ _ _ _)) rfl ⟨rfl, hK.out _ _ _ _⟩
  · have e : (ruleAt t.rules s).pt = partAt t.rules s := by
      unfold ruleAt partAt
      rw [if_pos (by omega), if_neg (by omega), show ((s : Int) - 256).toNat = s - 256 by omega]
      cases t.rules[s - 256]? <;> rfl
    have hr : Hid (Calls _ _ _ (w.alloc (.cells zero4 79)) _) := ruleT_any (h.kept hk) s hs hl
    rw [← e]
    clear e h hk
    generalize ruleAt t.rules (s : Int) = x at *
    obtain ⟨l, r, ⟨p1, p2, p3, p4⟩⟩ := x
    unfold RU.val RU.cells at hr
    unfold PT.val PT.arr
    unfold zero4 at hfin hr
    simp only [] at hr ⊢
    have hfp := field_part
    go_enter Try.func116, Try.ntmps116
    go_wp2_with fail
    refine hr.out.mono ?_
    rintro e w1 ⟨rfl, k1⟩
    obtain ⟨hb1, hS, hK⟩ := hfin.out _ k1
    have hS : Hid (∀ u0 u1 u2 u3, _) := hS
    have hK : Hid (∀ u0 u1 u2 u3, _) := hK
    have c0 : w1.cell? ⟨w.heap.size, 0, none⟩ = some (.int .i64 0) := hb1.cell 0
    have c1 : w1.cell? ⟨w.heap.size, 1, none⟩ = some (.int .i64 0) := hb1.cell 1
    have c2 : w1.cell? ⟨w.heap.size, 2, none⟩ = some (.int .i64 0) := hb1.cell 2
    have c3 : w1.cell? ⟨w.heap.size, 3, none⟩ = some (.int .i64 0) := hb1.cell 3
    have f0 : w1.frozen? ⟨w.heap.size, 0, none⟩ = false := hb1.frozen 0
    have f1 : w1.frozen? ⟨w.heap.size, 1, none⟩ = false := hb1.frozen 1
    have f2 : w1.frozen? ⟨w.heap.size, 2, none⟩ = false := hb1.frozen 2
    have f3 : w1.frozen? ⟨w.heap.size, 3, none⟩ = false := hb1.frozen 3
    clear hb1 k1 hr hfin
    go_wp2
    exact bodyPost_ret (v := .agg #[.int .i64 p1, .int .i64 p2, .int .i64 p3, .int .i64 p4]) (results_ppart Try.results116 _ _ w.heap.size ⟨p1, p2, p3, p4⟩ rfl (hS.out _ _ _ _)) rfl ⟨rfl, hK.out _ _ _ _⟩

end Go.Proofs.Ytgifhgnccmnbiaa
