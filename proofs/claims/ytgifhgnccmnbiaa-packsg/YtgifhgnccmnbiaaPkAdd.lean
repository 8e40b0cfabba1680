/- Package packed: what is told of a symbol; one rule more, one symbol more. -/
import Derived.Test.YtgifhgnccmnbiaaPkText
set_option linter.unusedVariables false
set_option linter.unusedSimpArgs false
namespace Go.Proofs.Ytgifhgnccmnbiaa
open Go.RowKit Go.IntWalk

theorem TM.part_small {w : World} {b E B : Nat} {pre post : Array Value} {t : TT} {rv sv : Value} (h : TM w b pre post E B t rv sv) (s : Nat) : PTsmall (partAt t.rules s) := by
  unfold partAt
  split
  · exact byteP_small s
  · cases hx : t.rules[s - 256]? with
    | none => exact ⟨by simp, by simp⟩
    | some x => exact h.small x (List.mem_of_getElem? hx)

theorem kept4 {w w1 : World} (k : Kept [] w w1) {g : Nat} (hg : w.heap.size ≤ g) (u0 u1 u2 u3 : Value) :
    Kept [] w ((((w1.setCell ⟨g, 0, none⟩ u0).setCell ⟨g, 1, none⟩ u1).setCell ⟨g, 2, none⟩ u2).setCell ⟨g, 3, none⟩ u3) :=
  (((k.setCell (Or.inr hg) _).setCell (Or.inr hg) _).setCell (Or.inr hg) _).setCell (Or.inr hg) _
def zero4 : Array Value := #[.int .i64 0, .int .i64 0, .int .i64 0, .int .i64 0]
theorem set4 {w : World} {g : Nat} {E : TypeId} (h : Blk w g zero4 E) (u0 u1 u2 u3 : Value) :
    Blk ((((w.setCell ⟨g, 0, none⟩ u0).setCell ⟨g, 1, none⟩ u1).setCell ⟨g, 2, none⟩ u2).setCell ⟨g, 3, none⟩ u3) g #[u0, u1, u2, u3] E :=
  (((h.set 0 u0).set 1 u1).set 2 u2).set 3 u3
theorem size_ppart : (Try.prog.info? 79).map (·.size) = some 4 := by kernel_rfl
theorem field_part (l r p1 p2 p3 p4 : Value) (w : World) : (Instr.field 178 (.agg #[l, r, p1, p2, p3, p4]) 2).run Try.prog w = .ok (.agg #[p1, p2, p3, p4]) w := by kernel_rfl
theorem results_ppart {fn : Func} {r : Tmp} (h : fn.results = #[.cell r 79]) (tmps : Array Value) (w : World) (g : Nat) (p : PT)
    (hp : tmps.getD r undef = .pointer (some ⟨g, 0, none⟩)) (hg : Blk w g p.arr 79) : (results fn tmps).run Try.prog w = .ok p.val w :=
  results_cell_row h tmps w g _ _ _ _ hp hg Try.underlying79 rfl size_ppart

set_option maxHeartbeats 1000000 in
set_option maxRecDepth 100000 in
theorem part_any {w : World} {b E B : Nat} {pre post : Array Value} {t : TT} {rv sv : Value} (h : TM w b pre post E B t rv sv) {o : Nat} (ho : o = pre.size) (s : Nat) (hs : s ≤ 100000) (hl : t.rules.length ≤ 100000) :
    Calls Try.prog 116 #[.pointer (some ⟨b, o, none⟩), .int .i64 (s : Int)] w fun e w' => e = .returned (partAt t.rules s).val ∧ Kept [] w w' := by
  have hk : Kept [] w (w.alloc (.cells zero4 79)) := (Kept.refl [] w).alloc _
  have hfin : Hid (∀ w1, Kept [] (w.alloc (.cells zero4 79)) w1 → Blk w1 w.heap.size zero4 79 ∧ (∀ u0 u1 u2 u3, Blk ((((w1.setCell ⟨w.heap.size, 0, none⟩ u0).setCell ⟨w.heap.size, 1, none⟩ u1).setCell ⟨w.heap.size, 2, none⟩ u2).setCell ⟨w.heap.size, 3, none⟩ u3) w.heap.size #[u0, u1, u2, u3] 79) ∧ ∀ u0 u1 u2 u3, Kept [] w ((((w1.setCell ⟨w.heap.size, 0, none⟩ u0).setCell ⟨w.heap.size, 1, none⟩ u1).setCell ⟨w.heap.size, 2, none⟩ u2).setCell ⟨w.heap.size, 3, none⟩ u3)) := fun w1 k1 =>
    ⟨(Blk.new w _ _).kept k1 (by simp), fun u0 u1 u2 u3 => set4 ((Blk.new w _ _).kept k1 (by simp)) u0 u1 u2 u3, fun u0 u1 u2 u3 => kept4 (hk.trans k1) (Nat.le_refl _) u0 u1 u2 u3⟩
  by_cases h1 : (s : Int) < 256
  · have e : partAt t.rules s = byteP s := by unfold partAt; rw [if_pos (by omega)]
    rw [e]
    have hb : Hid (∀ w, Calls _ _ _ w _) := fun w => partOfByte_any s w
    clear e h ho hk
    generalize byteP s = p at *
    obtain ⟨p1, p2, p3, p4⟩ := p
    unfold PT.val PT.arr at hb ⊢
    unfold zero4 at hfin
    simp only [] at hb ⊢
    go_enter Try.func116, Try.ntmps116
    go_wp2_with fail
    refine (hb.out _).mono ?_
    rintro e w1 ⟨rfl, k1⟩
    obtain ⟨hb1, hS, hK⟩ := hfin.out _ k1
    have hS : Hid (∀ u0 u1 u2 u3, _) := hS
    have hK : Hid (∀ u0 u1 u2 u3, _) := hK
    have c0 : w1.cell? ⟨w.heap.size, 0, none⟩ = some (.int .i64 0) := hb1.cell 0
    have c1 : w1.cell? ⟨w.heap.size, 1, none⟩ = some (.int .i64 0) := hb1.cell 1
    have c2 : w1.cell? ⟨w.heap.size, 2, none⟩ = some (.int .i64 0) := hb1.cell 2
    have c3 : w1.cell? ⟨w.heap.size, 3, none⟩ = some (.int .i64 0) := hb1.cell 3
    have f0 : w1.frozen? ⟨w.heap.size, 0, none⟩ = false := hb1.frozen 0
    have f1 : w1.frozen? ⟨w.heap.size, 1, none⟩ = false := hb1.frozen 1
    have f2 : w1.frozen? ⟨w.heap.size, 2, none⟩ = false := hb1.frozen 2
    have f3 : w1.frozen? ⟨w.heap.size, 3, none⟩ = false := hb1.frozen 3
    clear hb1 k1 hb hfin
    go_wp2
    exact bodyPost_ret (v := .agg #[.int .i64 p1, .int .i64 p2, .int .i64 p3, .int .i64 p4]) (results_ppart Try.results116 _ _ w.heap.size ⟨p1, p2, p3, p4⟩ rfl (hS.out _ _ _ _)) rfl ⟨rfl, hK.out _ _ _ _⟩
  · have e : (ruleAt t.rules s).pt = partAt t.rules s := by
      unfold ruleAt partAt
      rw [if_pos (by omega), if_neg (by omega), show ((s : Int) - 256).toNat = s - 256 by omega]
      cases t.rules[s - 256]? <;> rfl
    have hr : Hid (Calls _ _ _ (w.alloc (.cells zero4 79)) _) := rule_any (h.kept hk) ho s hs hl
    rw [← e]
    clear e h hk ho
    generalize ruleAt t.rules (s : Int) = x at *
    obtain ⟨l, r, ⟨p1, p2, p3, p4⟩⟩ := x
    unfold RU.val RU.cells at hr
    unfold PT.val PT.arr
    unfold zero4 at hfin hr
    simp only [] at hr ⊢
    have hfp := field_part
    go_enter Try.func116, Try.ntmps116
    go_wp2_with fail
    refine hr.out.mono ?_
    rintro e w1 ⟨rfl, k1⟩
    obtain ⟨hb1, hS, hK⟩ := hfin.out _ k1
    have hS : Hid (∀ u0 u1 u2 u3, _) := hS
    have hK : Hid (∀ u0 u1 u2 u3, _) := hK
    have c0 : w1.cell? ⟨w.heap.size, 0, none⟩ = some (.int .i64 0) := hb1.cell 0
    have c1 : w1.cell? ⟨w.heap.size, 1, none⟩ = some (.int .i64 0) := hb1.cell 1
    have c2 : w1.cell? ⟨w.heap.size, 2, none⟩ = some (.int .i64 0) := hb1.cell 2
    have c3 : w1.cell? ⟨w.heap.size, 3, none⟩ = some (.int .i64 0) := hb1.cell 3
    have f0 : w1.frozen? ⟨w.heap.size, 0, none⟩ = false := hb1.frozen 0
    have f1 : w1.frozen? ⟨w.heap.size, 1, none⟩ = false := hb1.frozen 1
    have f2 : w1.frozen? ⟨w.heap.size, 2, none⟩ = false := hb1.frozen 2
    have f3 : w1.frozen? ⟨w.heap.size, 3, none⟩ = false := hb1.frozen 3
    clear hb1 k1 hr hfin
    go_wp2
    exact bodyPost_ret (v := .agg #[.int .i64 p1, .int .i64 p2, .int .i64 p3, .int .i64 p4]) (results_ppart Try.results116 _ _ w.heap.size ⟨p1, p2, p3, p4⟩ rfl (hS.out _ _ _ _)) rfl ⟨rfl, hK.out _ _ _ _⟩

section
variable {w w0 w1 : World} {b E B : Nat} {pre post : Array Value} {t : TT} {rv sv : Value}
theorem TM.grow_rules (h : TM w0 b pre post E B t rv sv) (g : w0.grownBy w1 rv.ownBlock) : Blk w1 b (pre ++ t.cells rv sv ++ post) E ∧ w1.ownsRow B 3 1 sv t.start.length (symCells t.start) ∧ Fra B b w0 w1 := by
  have hlow : ∀ k, k < B → some k ≠ rv.ownBlock := fun k hk hc => by have := (h.rules.lt k hc.symm).1; omega
  refine ⟨(g.block b h.blk.lt (hlow b h.lt)).trans h.blk, World.ownsRow.kept h.start g (own_ne h.start h.rules (by decide)), ⟨g.os, g.tape, g.output, g.size, fun k hk _ => g.block k (Nat.lt_of_lt_of_le hk h.up) (hlow k hk)⟩⟩
theorem TM.grow_start (h : TM w0 b pre post E B t rv sv) (g : w0.grownBy w1 sv.ownBlock) : Blk w1 b (pre ++ t.cells rv sv ++ post) E ∧ w1.ownsRow B 178 6 rv t.rules.length (ruCells t.rules) ∧ Fra B b w0 w1 := by
  have hlow : ∀ k, k < B → some k ≠ sv.ownBlock := fun k hk hc => by have := (h.start.lt k hc.symm).1; omega
  refine ⟨(g.block b h.blk.lt (hlow b h.lt)).trans h.blk, World.ownsRow.kept h.rules g (own_ne h.rules h.start (by decide)), ⟨g.os, g.tape, g.output, g.size, fun k hk _ => g.block k (Nat.lt_of_lt_of_le hk h.up) (hlow k hk)⟩⟩
theorem row_set {e z n : Nat} {v : Value} {xs : List Value} (h : w.ownsRow B e z v n xs) (hb : b < B) (j : Nat) (u : Value) : (w.setCell ⟨b, j, none⟩ u).ownsRow B e z v n xs :=
  row_stay (S := [b]) h ((Kept.refl [b] w).setCell (Or.inl (by simp)) u) (fun g hg hc => by simp at hc; have := (h.lt g hg).1; omega)
theorem text_set {cs cs' : Array Value} (hb : Blk w b (pre ++ cs ++ post) E) {o j : Nat} (ho : o = pre.size) (hj : j < cs.size) (u : Value) (e : cs.setIfInBounds j u = cs') : Blk (w.setCell ⟨b, o + j, none⟩ u) b (pre ++ cs' ++ post) E := by
  have h := hb.set (o + j) u
  rwa [show (pre ++ cs ++ post).setIfInBounds (o + j) u = pre ++ cs' ++ post by
    subst ho
    rw [← e]
    apply Array.ext'
    simp only [Array.toList_setIfInBounds, Array.toList_append, List.append_assoc]
    rw [List.set_append, if_neg (by simp), List.set_append, if_pos (by simp; omega)]
    simp] at h

end

end Go.Proofs.Ytgifhgnccmnbiaa
