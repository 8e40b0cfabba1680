/- Package packed: one rule more, one symbol more. -/
import Derived.Test.YtgifhgnccmnbiaaPkAdd
set_option linter.unusedVariables false
set_option linter.unusedSimpArgs false
namespace Go.Proofs.Ytgifhgnccmnbiaa
open Go.RowKit Go.IntWalk

theorem infoRule : (Try.prog.info? 178).map (fun i => (i.zero, i.size, i.bytes)) =
    some (some (.agg #[.int .i64 0, .int .i64 0, .int .i64 0, .int .i64 0, .int .i64 0, .int .i64 0]), 6, 48) := by kernel_rfl
theorem infoInt : (Try.prog.info? 3).map (fun i => (i.zero, i.size, i.bytes)) = some (some (.int .i64 0), 1, 8) := by kernel_rfl

section
variable {w0 w1 : World} {b E B : Nat} {pre post : Array Value} {t : TT} {rv sv : Value}
/-- What is left behind the append to the rules and the store. -/
theorem rule_fin (h : TM w0 b pre post E B t rv sv) (g : w0.grownBy w1 rv.ownBlock) {v' : Value} {x : RU} (hx : PTsmall x.pt) (hown : w1.ownsRow B 178 6 v' (t.rules.length + 1) (ruCells t.rules ++ x.cells)) {o : Nat} (ho : o = pre.size) :
    w1.cell? ⟨b, o + 2, none⟩ = some rv ∧ w1.frozen? ⟨b, o + 2, none⟩ = false ∧ b < w1.heap.size ∧
    TM (w1.setCell ⟨b, o + 2, none⟩ v') b pre post E B { t with rules := t.rules ++ [x] } v' sv ∧ Fra B b w0 (w1.setCell ⟨b, o + 2, none⟩ v') := by
  obtain ⟨hb, hs, hf⟩ := h.grow_rules g
  have hc : w1.cell? ⟨b, o + 2, none⟩ = some rv := by
    rw [hb.cell, ho, Array.append_assoc, Array.getElem?_append_right (by omega), Array.getElem?_append_left (by simp [TT.cells]), Nat.add_sub_cancel_left]; rfl
  refine ⟨hc, hb.frozen _, hb.lt, ⟨?_, h.lt, ?_, ?_, ?_, ?_, h.whole⟩, ?_⟩
  · exact text_set (cs := t.cells rv sv) (cs' := TT.cells { t with rules := t.rules ++ [x] } v' sv) hb ho (by simp [TT.cells]) v' rfl
  · have := hf.size; have := h.up; simp [World.setCell]; omega
  · rw [show ({ t with rules := t.rules ++ [x] } : TT).rules = t.rules ++ [x] from rfl, ruCells_snoc, List.length_append]
    exact row_set hown h.lt _ _
  · exact row_set hs h.lt _ _
  · intro y hy
    rcases List.mem_append.1 hy with hy | hy
    · exact h.small y hy
    · simp at hy; subst hy; exact hx
  · exact hf.set (Or.inl rfl) _
end

set_option maxHeartbeats 2000000 in
set_option maxRecDepth 100000 in
theorem addRule_any {w : World} {b E B : Nat} {pre post : Array Value} {t : TT} {rv sv : Value} (h : TM w b pre post E B t rv sv) {o : Nat} (ho : o = pre.size) (l r : Nat) (hl : l ≤ 100000) (hr : r ≤ 100000) (hlen : t.rules.length ≤ 90000) :
    Calls Try.prog 106 #[.pointer (some ⟨b, o, none⟩), .int .i64 (l : Int), .int .i64 (r : Int)] w fun e w' => e = .returned (.tuple #[]) ∧ Fra B b w w' ∧ ∃ v', TM w' b pre post E B { t with rules := t.rules ++ [ruleP t.rules l r] } v' sv := by
  obtain ⟨i0, hi0, hz0, hz1, hz2⟩ := info_parts infoRule
  have h1 : Hid (∀ w', Kept [] w w' → Calls _ _ _ w' _) := fun w' k => part_any (h.kept k) ho l hl (by omega)
  have h2 : Hid (∀ w', Kept [] w w' → Calls _ _ _ w' _) := fun w' k => part_any (h.kept k) ho r hr (by omega)
  have hj : Hid (∀ w, Calls _ _ _ w _) := fun w => pjoin_any (partAt t.rules l) (partAt t.rules r) (h.part_small l) (h.part_small r) w
  have hsm : PTsmall (ruleP t.rules l r).pt := joinP_small (h.part_small l) (h.part_small r)
  obtain ⟨x, hx⟩ : ∃ x, x = ruleP t.rules l r := ⟨_, rfl⟩
  have hp : joinP (partAt t.rules l) (partAt t.rules r) = x.pt := by rw [hx]; rfl
  have hxl : x.l = l := by rw [hx]; rfl
  have hxr : x.r = r := by rw [hx]; rfl
  rw [← hx] at hsm ⊢
  rw [hp] at hj
  clear hp hx
  obtain ⟨l', r', ⟨p1, p2, p3, p4⟩⟩ := x
  simp only [] at hxl hxr
  subst hxl hxr
  generalize partAt t.rules l' = pa at *
  generalize partAt t.rules r' = pb at *
  obtain ⟨a1, a2, a3, a4⟩ := pa
  obtain ⟨b1, b2, b3, b4⟩ := pb
  unfold PT.val PT.arr at h1 h2 hj
  simp only [] at h1 h2 hj
  have k0 : Hid (Kept [] w w) := Kept.refl _ _
  have hoH : Hid (o = pre.size) := ho
  clear ho
  go_enter Try.func106, Try.ntmps106
  go_wp2_with fail
  refine (h1.out _ k0.out).mono ?_
  rintro e w1 ⟨rfl, k1⟩
  have k1H : Hid (∀ o, Kept [] w (w1.alloc o)) := fun o => (k0.out.trans k1).alloc o
  clear k1
  go_wp2_with fail
  refine (h2.out _ (k1H.out _)).mono ?_
  rintro e w2 ⟨rfl, k2⟩
  have hA : Blk w2 w1.heap.size #[.int .i64 a1, .int .i64 a2, .int .i64 a3, .int .i64 a4] 79 := (Blk.new w1 _ _).kept k2 (by simp)
  have d0 : w2.cell? ⟨w1.heap.size, 0, none⟩ = some (.int .i64 a1) := hA.cell 0
  have d1 : w2.cell? ⟨w1.heap.size, 1, none⟩ = some (.int .i64 a2) := hA.cell 1
  have d2 : w2.cell? ⟨w1.heap.size, 2, none⟩ = some (.int .i64 a3) := hA.cell 2
  have d3 : w2.cell? ⟨w1.heap.size, 3, none⟩ = some (.int .i64 a4) := hA.cell 3
  have hA1 : w1.heap.size < w2.heap.size := hA.lt
  have k2H : Hid (∀ o, Kept [] w (w2.alloc o)) := fun o => ((k1H.out _).trans k2).alloc o
  clear k2 hA k1H h1 h2
  go_wp2_with fail
  refine (hj.out _).mono ?_
  rintro e w3 ⟨rfl, k3⟩
  have k3' := (k2H.out _).trans k3
  have hT := h.kept k3'
  have c2 : w3.cell? ⟨b, o + 2, none⟩ = some rv := hT.cell hoH.out 2 (by omega)
  have hbw : b < w3.heap.size := hT.blk.lt
  have hbup : b + 1 ≤ w3.heap.size := hbw
  have k3H : Hid (∀ o1 o2, Kept [] w ((w3.alloc o1).alloc o2).drew) := fun o1 o2 => ((k3'.alloc o1).alloc o2).drew
  clear k3 k3' k2H hj d0 d1 d2 d3 hT
  go_wp2_with fail
  have own : ∀ o1 o2, ((w3.alloc o1).alloc o2).ownsRow B 178 6 rv t.rules.length (ruCells t.rules) := fun o1 o2 => (h.kept (k3H.out o1 o2)).rules
  have up : ∀ o1 o2, B ≤ ((w3.alloc o1).alloc o2).heap.size := fun o1 o2 => (h.kept (k3H.out o1 o2)).up
  have mb : t.rules.length + 1 ≤ maxLen := by unfold maxLen; omega
  go_region_law (refine step_append_owned rfl (.tmp 25) (.tmp 27) 76 rfl 178 i0 _ 6 48 Try.underlying76 hi0 hz0 hz1 hz2 rfl (by decide) B rv t.rules.length (ruCells t.rules) (by simp [Act.eval, Act.put]) (by exact own _ _) ⟨w3.heap.size + 1, 0, none⟩ 1 1 [.int .i64 l', .int .i64 r', .int .i64 p1, .int .i64 p2, .int .i64 p3, .int .i64 p4] (by simp [Act.eval, Act.put]) rfl (by exact cells_new _ _ _ _ (by simp)) (by simp [Value.oneCell']) mb (by omega) (by exact up _ _) ?_; intro v' w4 hown hgrow; obtain ⟨g, cap, rfl⟩ := own_form hown (by omega); obtain ⟨e2, f2, b2, hT2, hF2⟩ := rule_fin (x := ⟨l', r', ⟨p1, p2, p3, p4⟩⟩) (h.kept (k3H.out _ _)) hgrow hsm hown hoH.out)
  all_goals
    have hT3 : Hid (TM _ _ _ _ _ _ _ _ _) := hT2
    have hF3 : Hid (Fra B b w _) := (Fra.of_kept (k3H.out _ _) h.up).trans hF2
    clear hT2 hF2 hown hgrow own up
    go_wp2
    go_end0
    exact ⟨rfl, hF3.out, _, hT3.out⟩

section
variable {w0 w1 : World} {b E B : Nat} {pre post : Array Value} {t : TT} {rv sv : Value}
/-- What is left behind the append to the symbols and the store. -/
theorem start_fin (h : TM w0 b pre post E B t rv sv) (g : w0.grownBy w1 sv.ownBlock) {v' : Value} {x : Nat} (hown : w1.ownsRow B 3 1 v' (t.start.length + 1) (symCells t.start ++ [.int .i64 (x : Int)])) {o : Nat} (ho : o = pre.size) :
    w1.cell? ⟨b, o + 3, none⟩ = some sv ∧ w1.frozen? ⟨b, o + 3, none⟩ = false ∧ b < w1.heap.size ∧ (∀ j, j < 8 → w1.cell? ⟨b, o + j, none⟩ = (t.cells rv sv)[j]?) ∧
    TM (w1.setCell ⟨b, o + 3, none⟩ v') b pre post E B { t with start := t.start ++ [x] } rv v' ∧ Fra B b w0 (w1.setCell ⟨b, o + 3, none⟩ v') := by
  obtain ⟨hb, hs, hf⟩ := h.grow_start g
  have hc : w1.cell? ⟨b, o + 3, none⟩ = some sv := by
    rw [hb.cell, ho, Array.append_assoc, Array.getElem?_append_right (by omega), Array.getElem?_append_left (by simp [TT.cells]), Nat.add_sub_cancel_left]; rfl
  refine ⟨hc, hb.frozen _, hb.lt, fun j hj => ?_, ⟨?_, h.lt, ?_, ?_, ?_, h.small, h.whole⟩, ?_⟩
  · rw [hb.cell, ho, Array.append_assoc, Array.getElem?_append_right (by omega), Array.getElem?_append_left (by simp [TT.cells]; omega), Nat.add_sub_cancel_left]
  · exact text_set (cs := t.cells rv sv) (cs' := TT.cells { t with start := t.start ++ [x] } rv v') hb ho (by simp [TT.cells]) v' rfl
  · have := hf.size; have := h.up; simp [World.setCell]; omega
  · exact row_set hs h.lt _ _
  · rw [show ({ t with start := t.start ++ [x] } : TT).start = t.start ++ [x] from rfl, symCells_snoc, List.length_append]
    exact row_set hown h.lt _ _
  · exact hf.set (Or.inl rfl) _
/-- The store of what is told of the whole. -/
theorem whole_fin (h : TM w0 b pre post E B t rv sv) {p : PT} (hp : PTsmall p) {o : Nat} (ho : o = pre.size) :
    TM ((((w0.setCell ⟨b, o + 4, none⟩ (.int .i64 p.len)).setCell ⟨b, o + 5, none⟩ (.int .i64 p.nl)).setCell ⟨b, o + 6, none⟩ (.int .i64 p.first)).setCell ⟨b, o + 7, none⟩ (.int .i64 p.last)) b pre post E B { t with whole := p } rv sv ∧
    Fra B b w0 ((((w0.setCell ⟨b, o + 4, none⟩ (.int .i64 p.len)).setCell ⟨b, o + 5, none⟩ (.int .i64 p.nl)).setCell ⟨b, o + 6, none⟩ (.int .i64 p.first)).setCell ⟨b, o + 7, none⟩ (.int .i64 p.last)) := by
  refine ⟨⟨?_, h.lt, by have := h.up; simp [World.setCell]; omega, ?_, ?_, h.small, hp⟩, ?_⟩
  · have h4 := text_set (cs := t.cells rv sv) (cs' := #[.int .i64 t.kind, .int .i64 t.syms, rv, sv, .int .i64 p.len, .int .i64 t.whole.nl, .int .i64 t.whole.first, .int .i64 t.whole.last]) h.blk ho (j := 4) (by simp [TT.cells]) (.int .i64 p.len) rfl
    have h5 := text_set (cs' := #[.int .i64 t.kind, .int .i64 t.syms, rv, sv, .int .i64 p.len, .int .i64 p.nl, .int .i64 t.whole.first, .int .i64 t.whole.last]) h4 ho (j := 5) (by simp) (.int .i64 p.nl) rfl
    have h6 := text_set (cs' := #[.int .i64 t.kind, .int .i64 t.syms, rv, sv, .int .i64 p.len, .int .i64 p.nl, .int .i64 p.first, .int .i64 t.whole.last]) h5 ho (j := 6) (by simp) (.int .i64 p.first) rfl
    exact text_set (cs' := TT.cells { t with whole := p } rv sv) h6 ho (j := 7) (by simp) (.int .i64 p.last) rfl
  · exact row_set (row_set (row_set (row_set h.rules h.lt _ _) h.lt _ _) h.lt _ _) h.lt _ _
  · exact row_set (row_set (row_set (row_set h.start h.lt _ _) h.lt _ _) h.lt _ _) h.lt _ _
  · exact ((((Fra.refl B b w0).set (Or.inl rfl) _).set (Or.inl rfl) _).set (Or.inl rfl) _).set (Or.inl rfl) _
end

set_option maxHeartbeats 2000000 in
set_option maxRecDepth 100000 in
theorem addToStart_any {w : World} {b E B : Nat} {pre post : Array Value} {t : TT} {rv sv : Value} (h : TM w b pre post E B t rv sv) {o : Nat} (ho : o = pre.size) (s : Nat) (hs : s ≤ 100000) (hlen : t.rules.length ≤ 90000) (hst : t.start.length ≤ 90000) :
    Calls Try.prog 107 #[.pointer (some ⟨b, o, none⟩), .int .i64 (s : Int)] w fun e w' => e = .returned (.tuple #[]) ∧ Fra B b w w' ∧ ∃ v', TM w' b pre post E B { t with start := t.start ++ [s], whole := joinP t.whole (partAt t.rules s) } rv v' := by
  obtain ⟨i0, hi0, hz0, hz1, hz2⟩ := info_parts infoInt
  have h1 : Hid (Calls _ _ _ w _) := part_any h ho s hs (by omega)
  have hj : Hid (∀ w, Calls _ _ _ w _) := fun w => pjoin_any t.whole (partAt t.rules s) h.whole (h.part_small s) w
  have hsm : PTsmall (joinP t.whole (partAt t.rules s)) := joinP_small h.whole (h.part_small s)
  generalize joinP t.whole (partAt t.rules s) = x at *
  obtain ⟨p1, p2, p3, p4⟩ := x
  generalize partAt t.rules s = pa at *
  obtain ⟨a1, a2, a3, a4⟩ := pa
  unfold PT.val PT.arr at h1 hj
  simp only [] at h1 hj
  have hoH : Hid (o = pre.size) := ho
  clear ho
  go_enter Try.func107, Try.ntmps107
  go_wp2_with fail
  refine h1.out.mono ?_
  rintro e w1 ⟨rfl, k1⟩
  have hT := h.kept k1
  have c3 : w1.cell? ⟨b, o + 3, none⟩ = some sv := hT.cell hoH.out 3 (by omega)
  have hbw : b < w1.heap.size := hT.blk.lt
  have own : ∀ o1 o2, ((w1.alloc o1).alloc o2).ownsRow B 3 1 sv t.start.length (symCells t.start) := fun o1 o2 => (h.kept ((k1.alloc o1).alloc o2)).start
  have up : ∀ o1 o2, B ≤ ((w1.alloc o1).alloc o2).heap.size := fun o1 o2 => (h.kept ((k1.alloc o1).alloc o2)).up
  have mb : t.start.length + 1 ≤ maxLen := by unfold maxLen; omega
  have k1H : Hid (∀ o1 o2, Kept [] w ((w1.alloc o1).alloc o2)) := fun o1 o2 => (k1.alloc o1).alloc o2
  have hw1 : w.heap.size ≤ w1.heap.size := k1.size
  clear hT k1 h1
  go_wp2_with (at_builtin; refine wpList_append_own _ rfl (.tmp 12) (.tmp 14) 77 rfl B 3 i0 _ 1 8 Try.underlying77 hi0 hz0 hz1 hz2 rfl (by decide) sv t.start.length (symCells t.start) rfl ?own ⟨w1.heap.size + 1, 0, none⟩ 1 1 [.int .i64 (s : Int)] rfl rfl ?c1 ?c2 ?b1 ?b2 ?b3 ?k)
  case own => exact own _ _
  case c1 => exact cells_new _ _ _ _ (by simp)
  case c2 => simp [Value.oneCell']
  case b1 => exact mb
  case b2 => omega
  case b3 => exact up _ _
  case k =>
    intro v' w3 hown hgrow _
    obtain ⟨g, cap, rfl⟩ := own_form hown (by omega)
    have hT1 := h.kept (k1H.out (.cells #[.int .i64 a1, .int .i64 a2, .int .i64 a3, .int .i64 a4] 79) (.cells #[.int .i64 s] 3))
    obtain ⟨e3, f3, b3, hcs, hT2, hF2⟩ := start_fin (x := s) hT1 hgrow hown hoH.out
    have hA : Blk w3 w1.heap.size #[.int .i64 a1, .int .i64 a2, .int .i64 a3, .int .i64 a4] 79 :=
      (hgrow.block _ (by simp; omega) (fun hc => by have := (h.start.lt _ hc.symm).2; omega)).trans ((Blk.new w1 _ _).alloc _)
    have hF2H : Hid (Fra B b w _) := (Fra.of_kept (k1H.out _ _) h.up).trans hF2
    have hT2H : Hid (TM _ _ _ _ _ _ _ _ _) := hT2
    have hb3 : w1.heap.size < w3.heap.size := hA.lt
    have d0 : w3.cell? ⟨w1.heap.size, 0, none⟩ = some (.int .i64 a1) := hA.cell 0
    have d1 : w3.cell? ⟨w1.heap.size, 1, none⟩ = some (.int .i64 a2) := hA.cell 1
    have d2 : w3.cell? ⟨w1.heap.size, 2, none⟩ = some (.int .i64 a3) := hA.cell 2
    have d3 : w3.cell? ⟨w1.heap.size, 3, none⟩ = some (.int .i64 a4) := hA.cell 3
    have g4 : w3.cell? ⟨b, o + 4, none⟩ = some (.int .i64 t.whole.len) := hcs 4 (by omega)
    have g5 : w3.cell? ⟨b, o + 4 + 1, none⟩ = some (.int .i64 t.whole.nl) := hcs 5 (by omega)
    have g6 : w3.cell? ⟨b, o + 4 + 2, none⟩ = some (.int .i64 t.whole.first) := hcs 6 (by omega)
    have g7 : w3.cell? ⟨b, o + 4 + 3, none⟩ = some (.int .i64 t.whole.last) := hcs 7 (by omega)
    have hne : b ≠ w1.heap.size := by omega
    clear hT1 hgrow hown hcs hA hT2 hF2 own up k1H c3
    go_wp2_with fail
    go_region_law (go_simp; go_at_call 140; refine (hj.out _).mono ?_; rintro _ w5 ⟨rfl, k5⟩; have hT5 := (hT2H.out.kept ((Kept.refl [] _).drew)).kept k5; have r4 : w5.cell? ⟨b, o + 4, none⟩ = some (.int .i64 t.whole.len) := hT5.cell hoH.out 4 (by omega); have r5 : w5.cell? ⟨b, o + 4 + 1, none⟩ = some (.int .i64 t.whole.nl) := hT5.cell hoH.out 5 (by omega); have r6 : w5.cell? ⟨b, o + 4 + 2, none⟩ = some (.int .i64 t.whole.first) := hT5.cell hoH.out 6 (by omega); have r7 : w5.cell? ⟨b, o + 4 + 3, none⟩ = some (.int .i64 t.whole.last) := hT5.cell hoH.out 7 (by omega); have q4 : w5.frozen? ⟨b, o + 4, none⟩ = false := hT5.blk.frozen _; have q5 : w5.frozen? ⟨b, o + 4 + 1, none⟩ = false := hT5.blk.frozen _; have q6 : w5.frozen? ⟨b, o + 4 + 2, none⟩ = false := hT5.blk.frozen _; have q7 : w5.frozen? ⟨b, o + 4 + 3, none⟩ = false := hT5.blk.frozen _; have q8 := hT5.blk.lt)
    all_goals
      obtain ⟨hT6, hF6⟩ := whole_fin hT5 hsm hoH.out
      have hT7 : Hid (TM _ _ _ _ _ _ _ _ _) := hT6
      have hF7 : Hid (Fra B b w _) := (hF2H.out.trans ((Fra.of_kept ((Kept.refl [] _).drew.trans k5) hT2H.out.up).trans hF6))
      clear hT6 hF6 hT5
      go_wp2
      go_end0
      exact ⟨rfl, hF7.out, _, hT7.out⟩

end Go.Proofs.Ytgifhgnccmnbiaa
