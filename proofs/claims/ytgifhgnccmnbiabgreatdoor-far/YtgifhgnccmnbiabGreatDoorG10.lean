/- Package packed: one rule more, one symbol more. -/
import Derived.Test.YtgifhgnccmnbiabGreatDoorG09
set_option linter.unusedVariables false
set_option linter.unusedSimpArgs false
namespace Go.Proofs.YtgifhgnccmnbiabGreatDoor
open Go.RowKit Go.IntWalk

theorem infoRule : (Tryz.prog.info? 221).map (fun i => (i.zero, i.size, i.bytes)) =
    some (some (.agg #[.int .i64 0, .int .i64 0, .int .i64 0, .int .i64 0, .int .i64 0, .int .i64 0]), 6, 48) := by kernel_rfl
theorem infoInt : (Tryz.prog.info? 3).map (fun i => (i.zero, i.size, i.bytes)) = some (some (.int .i64 0), 1, 8) := by kernel_rfl

section
variable {w0 w1 : World} {b E B : Nat} {pre post : Array Value} {t : TT} {rv sv : Value}
/-- What is left behind the append to the rules and the store. -/
theorem rule_fin (h : TM w0 b pre post E B t rv sv) (g : w0.grownBy w1 rv.ownBlock) {v' : Value} {x : RU} (hx : PTsmall x.pt) (hown : w1.ownsRow B 221 6 v' (t.rules.length + 1) (ruCells t.rules ++ x.cells)) {o : Nat} (ho : o = pre.size) :
    w1.cell? ⟨b, o + 2, none⟩ = some rv ∧ w1.frozen? ⟨b, o + 2, none⟩ = false ∧ b < w1.heap.size ∧
    TM (w1.setCell ⟨b, o + 2, none⟩ v') b pre post E B { t with rules := t.rules ++ [x] } v' sv ∧ Fra B b w0 (w1.setCell ⟨b, o + 2, none⟩ v') := by
  obtain ⟨hb, hs, hf⟩ := h.grow_rules g
  have hc : w1.cell? ⟨b, o + 2, none⟩ = some rv := by
    rw [hb.cell, ho, Array.append_assoc, Array.getElem?_append_right (by omega), Array.getElem?_append_left (by simp [TT.cells]), Nat.add_sub_cancel_left]; rfl
  refine ⟨hc, hb.frozen _, hb.lt, ⟨?_, h.lt, ?_, ?_, ?_, ?_, h.whole⟩, ?_⟩
  · exact text_set (cs := t.cells rv sv) (cs' := TT.cells { t with rules := t.rules ++ [x] } v' sv) hb ho (by simp [TT.cells]) v' rfl
  · have := hf.size; have := h.up; simp [World.setCell]; omega
  · rw [show ({ t with rules := t.rules ++ [x] } : TT).rules = t.rules ++ [x] from rfl, ruCells_snoc, List.length_append]
    exact row_set hown h.lt _ _
  · exact row_set hs h.lt _ _
  · intro y hy
    rcases List.mem_append.1 hy with hy | hy
    · exact h.small y hy
    · simp at hy; subst hy; exact hx
  · exact hf.set (Or.inl rfl) _
end

set_option maxHeartbeats 2000000 in
set_option maxRecDepth 100000 in
theorem addRule_any {w : World} {b E B : Nat} {pre post : Array Value} {t : TT} {rv sv : Value} (h : TM w b pre post E B t rv sv) {o : Nat} (ho : o = pre.size) (l r : Nat) (hl : l ≤ 100000) (hr : r ≤ 100000) (hlen : t.rules.length ≤ 90000) :
    Calls Tryz.prog 129 #[.pointer (some ⟨b, o, none⟩), .int .i64 (l : Int), .int .i64 (r : Int)] w fun e w' => e = .returned (.tuple #[]) ∧ Fra B b w w' ∧ ∃ v', TM w' b pre post E B { t with rules := t.rules ++ [ruleP t.rules l r] } v' sv := by
  obtain ⟨i0, hi0, hz0, hz1, hz2⟩ := info_parts infoRule
  have h1 : Hid (∀ w', Kept [] w w' → Calls _ _ _ w' _) := fun w' k => part_any (h.kept k) ho l hl (by omega)
  have h2 : Hid (∀ w', Kept [] w w' → Calls _ _ _ w' _) := fun w' k => part_any (h.kept k) ho r hr (by omega)
  have hj : Hid (∀ w, Calls _ _ _ w _) := fun w => pjoin_any (partAt t.rules l) (partAt t.rules r) (h.part_small l) (h.part_small r) w
  have hsm : PTsmall (ruleP t.rules l r).pt := joinP_small (h.part_small l) (h.part_small r)
  obtain ⟨x, hx⟩ : ∃ x, x = ruleP t.rules l r := ⟨_, rfl⟩
  have hp : joinP (partAt t.rules l) (partAt t.rules r) = x.pt := by rw [hx]; rfl
  have hxl : x.l = l := by rw [hx]; rfl
  have hxr : x.r = r := by rw [hx]; rfl
  rw [← hx] at hsm ⊢
  rw [hp] at hj
  clear hp hx
  obtain ⟨l', r', ⟨p1, p2, p3, p4⟩⟩ := x
  simp only [] at hxl hxr
  subst hxl hxr
  generalize partAt t.rules l' = pa at *
  generalize partAt t.rules r' = pb at *
  obtain ⟨a1, a2, a3, a4⟩ := pa
  obtain ⟨b1, b2, b3, b4⟩ := pb
  unfold PT.val PT.arr at h1 h2 hj
  simp only [] at h1 h2 hj
  have k0 : Hid (Kept [] w w) := Kept.refl _ _
  have hoH : Hid (o = pre.size) := ho
  clear ho
  go_enter Tryz.func129, Tryz.ntmps129
  go_wp2_with fail
  refine (h1.out _ k0.out).mono ?_
  rintro e w1 ⟨rfl, k1⟩
  have k1H : Hid (∀ o, Kept [] w (w1.alloc o)) := fun o => (k0.out.trans k1).alloc o
  clear k1
  go_wp2_with fail
  refine (h2.out _ (k1H.out _)).mono ?_
  rintro e w2 ⟨rfl, k2⟩
  have hA : Blk w2 w1.heap.size #[.int .i64 a1, .int .i64 a2, .int .i64 a3, .int .i64 a4] 84 := (Blk.new w1 _ _).kept k2 (by simp)
  have d0 : w2.cell? ⟨w1.heap.size, 0, none⟩ = some (.int .i64 a1) := hA.cell 0
  have d1 : w2.cell? ⟨w1.heap.size, 1, none⟩ = some (.int .i64 a2) := hA.cell 1
  have d2 : w2.cell? ⟨w1.heap.size, 2, none⟩ = some (.int .i64 a3) := hA.cell 2
  have d3 : w2.cell? ⟨w1.heap.size, 3, none⟩ = some (.int .i64 a4) := hA.cell 3
  have hA1 : w1.heap.size < w2.heap.size := hA.lt
  have k2H : Hid (∀ o, Kept [] w (w2.alloc o)) := fun o => ((k1H.out _).trans k2).alloc o
  clear k2 hA k1H h1 h2
  go_wp2_with fail
  refine (hj.out _).mono ?_
  rintro e w3 ⟨rfl, k3⟩
  have k3' := (k2H.out _).trans k3
  have hT := h.kept k3'
  have c2 : w3.cell? ⟨b, o + 2, none⟩ = some rv := hT.cell hoH.out 2 (by omega)
  have hbw : b < w3.heap.size := hT.blk.lt
  have hbup : b + 1 ≤ w3.heap.size := hbw
  have k3H : Hid (∀ o1 o2, Kept [] w ((w3.alloc o1).alloc o2).drew) := fun o1 o2 => ((k3'.alloc o1).alloc o2).drew
  clear k3 k3' k2H hj d0 d1 d2 d3 hT
  go_wp2_with fail
  have own : ∀ o1 o2, ((w3.alloc o1).alloc o2).ownsRow B 221 6 rv t.rules.length (ruCells t.rules) := fun o1 o2 => (h.kept (k3H.out o1 o2)).rules
  have up : ∀ o1 o2, B ≤ ((w3.alloc o1).alloc o2).heap.size := fun o1 o2 => (h.kept (k3H.out o1 o2)).up
  have mb : t.rules.length + 1 ≤ maxLen := by unfold maxLen; omega
  go_region_law (refine step_append_owned rfl (.tmp 25) (.tmp 27) 82 rfl 221 i0 _ 6 48 Tryz.underlying82 hi0 hz0 hz1 hz2 rfl (by decide) B rv t.rules.length (ruCells t.rules) (by simp [Act.eval, Act.put]) (by exact own _ _) ⟨w3.heap.size + 1, 0, none⟩ 1 1 [.int .i64 l', .int .i64 r', .int .i64 p1, .int .i64 p2, .int .i64 p3, .int .i64 p4] (by simp [Act.eval, Act.put]) rfl (by exact cells_new _ _ _ _ (by simp)) (by simp [Value.oneCell']) mb (by omega) (by exact up _ _) ?_; intro v' w4 hown hgrow; obtain ⟨g, cap, rfl⟩ := own_form hown (by omega); obtain ⟨e2, f2, b2, hT2, hF2⟩ := rule_fin (x := ⟨l', r', ⟨p1, p2, p3, p4⟩⟩) (h.kept (k3H.out _ _)) hgrow hsm hown hoH.out)
  all_goals
    have hT3 : Hid (TM _ _ _ _ _ _ _ _ _) := hT2
    have hF3 : Hid (Fra B b w _) := (Fra.of_kept (k3H.out _ _) h.up).trans hF2
    clear hT2 hF2 hown hgrow own up
    go_wp2
    go_end0
    exact ⟨rfl, hF3.out, _, hT3.out⟩

section
variable {w0 w1 : World} {b E B : Nat} {pre post : Array Value} {t : TT} {rv sv : Value}
/-- What is left behind the append to the symbols and the store. -/
theorem start_fin (h : TM w0 b pre post E B t rv sv) (g : w0.grownBy w1 sv.ownBlock) {v' : Value} {x : Nat} (hown : w1.ownsRow B 3 1 v' (t.start.length + 1) (symCells t.start ++ [.int .i64 (x : Int)])) {o : Nat} (ho : o = pre.size) :
    w1.cell? ⟨b, o + 3, none⟩ = some sv ∧ w1.frozen? ⟨b, o + 3, none⟩ = false ∧ b < w1.heap.size ∧ (∀ j, j < 8 → w1.cell? ⟨b, o + j, none⟩ = (t.cells rv sv)[j]?) ∧
    TM (w1.setCell ⟨b, o + 3, none⟩ v') b pre post E B { t with start := t.start ++ [x] } rv v' ∧ Fra B b w0 (w1.setCell ⟨b, o + 3, none⟩ v') := by
  obtain ⟨hb, hs, hf⟩ := h.grow_start g
  have hc : w1.cell? ⟨b, o + 3, none⟩ = some sv := by
    rw [hb.cell, ho, Array.append_assoc, Array.getElem?_append_right (by omega), Array.getElem?_append_left (by simp [TT.cells]), Nat.add_sub_cancel_left]; rfl
  refine ⟨hc, hb.frozen _, hb.lt, fun j hj => ?_, ⟨?_, h.lt, ?_, ?_, ?_, h.small, h.whole⟩, ?_⟩
  · rw [hb.cell, ho, Array.append_assoc, Array.getElem?_append_right (by omega), Array.getElem?_append_left (by simp [TT.cells]; omega), Nat.add_sub_cancel_left]
  · exact text_set (cs := t.cells rv sv) (cs' := TT.cells { t with start := t.start ++ [x] } rv v') hb ho (by simp [TT.cells]) v' rfl
  · have := hf.size; have := h.up; simp [World.setCell]; omega
  · exact row_set hs h.lt _ _
  · rw [show ({ t with start := t.start ++ [x] } : TT).start = t.start ++ [x] from rfl, symCells_snoc, List.length_append]
    exact row_set hown h.lt _ _
  · exact hf.set (Or.inl rfl) _
/-- The store of what is told of the whole. -/
theorem whole_fin (h : TM w0 b pre post E B t rv sv) {p : PT} (hp : PTsmall p) {o : Nat} (ho : o = pre.size) :
    TM ((((w0.setCell ⟨b, o + 4, none⟩ (.int .i64 p.len)).setCell ⟨b, o + 5, none⟩ (.int .i64 p.nl)).setCell ⟨b, o + 6, none⟩ (.int .i64 p.first)).setCell ⟨b, o + 7, none⟩ (.int .i64 p.last)) b pre post E B { t with whole := p } rv sv ∧
    Fra B b w0 ((((w0.setCell ⟨b, o + 4, none⟩ (.int .i64 p.len)).setCell ⟨b, o + 5, none⟩ (.int .i64 p.nl)).setCell ⟨b, o + 6, none⟩ (.int .i64 p.first)).setCell ⟨b, o + 7, none⟩ (.int .i64 p.last)) := by
  refine ⟨⟨?_, h.lt, by have := h.up; simp [World.setCell]; omega, ?_, ?_, h.small, hp⟩, ?_⟩
  · have h4 := text_set (cs := t.cells rv sv) (cs' := #[.int .i64 t.kind, .int .i64 t.syms, rv, sv, .int .i64 p.len, .int .i64 t.whole.nl, .int .i64 t.whole.first, .int .i64 t.whole.last]) h.blk ho (j := 4) (by simp [TT.cells]) (.int .i64 p.len) rfl
    have h5 := text_set (cs' := #[.int .i64 t.kind, .int .i64 t.syms, rv, sv, .int .i64 p.len, .int .i64 p.nl, .int .i64 t.whole.first, .int .i64 t.whole.last]) h4 ho (j := 5) (by simp) (.int .i64 p.nl) rfl
    have h6 := text_set (cs' := #[.int .i64 t.kind, .int .i64 t.syms, rv, sv, .int .i64 p.len, .int .i64 p.nl, .int .i64 p.first, .int .i64 t.whole.last]) h5 ho (j := 6) (by simp) (.int .i64 p.first) rfl
    exact text_set (cs' := TT.cells { t with whole := p } rv sv) h6 ho (j := 7) (by simp) (.int .i64 p.last) rfl
  · exact row_set (row_set (row_set (row_set h.rules h.lt _ _) h.lt _ _) h.lt _ _) h.lt _ _
  · exact row_set (row_set (row_set (row_set h.start h.lt _ _) h.lt _ _) h.lt _ _) h.lt _ _
  · exact ((((Fra.refl B b w0).set (Or.inl rfl) _).set (Or.inl rfl) _).set (Or.inl rfl) _).set (Or.inl rfl) _
end

set_option maxHeartbeats 2000000 in
set_option maxRecDepth 100000 in
theorem addToStart_any {w : World} {b E B : Nat} {pre post : Array Value} {t : TT} {rv sv : Value} (h : TM w b pre post E B t rv sv) {o : Nat} (ho : o = pre.size) (s : Nat) (hs : s ≤ 100000) (hlen : t.rules.length ≤ 90000) (hst : t.start.length ≤ 90000) :
    Calls Tryz.prog 130 #[.pointer (some ⟨b, o, none⟩), .int .i64 (s : Int)] w fun e w' => e = .returned (.tuple #[]) ∧ Fra B b w w' ∧ ∃ v', TM w' b pre post E B { t with start := t.start ++ [s], whole := joinP t.whole (partAt t.rules s) } rv v' := by
  obtain ⟨i0, hi0, hz0, hz1, hz2⟩ := info_parts infoInt
  have h1 : Hid (Calls _ _ _ w _) := part_any h ho s hs (by omega)
  have hj : Hid (∀ w, Calls _ _ _ w _) := fun w => pjoin_any t.whole (partAt t.rules s) h.whole (h.part_small s) w
  have hsm : PTsmall (joinP t.whole (partAt t.rules s)) := joinP_small h.whole (h.part_small s)
  generalize joinP t.whole (partAt t.rules s) = x at *
  obtain ⟨p1, p2, p3, p4⟩ := x
  generalize partAt t.rules s = pa at *
  obtain ⟨a1, a2, a3, a4⟩ := pa
  unfold PT.val PT.arr at h1 hj
  simp only [] at h1 hj
  have hoH : Hid (o = pre.size) := ho
  clear ho
  go_enter Tryz.func130, Tryz.ntmps130
  go_wp2_with fail
  refine h1.out.mono ?_
  rintro e w1 ⟨rfl, k1⟩
  have hT := h.kept k1
  have c3 : w1.cell? ⟨b, o + 3, none⟩ = some sv := hT.cell hoH.out 3 (by omega)
  have hbw : b < w1.heap.size := hT.blk.lt
  have own : ∀ o1 o2, ((w1.alloc o1).alloc o2).ownsRow B 3 1 sv t.start.length (symCells t.start) := fun o1 o2 => (h.kept ((k1.alloc o1).alloc o2)).start
  have up : ∀ o1 o2, B ≤ ((w1.alloc o1).alloc o2).heap.size := fun o1 o2 => (h.kept ((k1.alloc o1).alloc o2)).up
  have mb : t.start.length + 1 ≤ maxLen := by unfold maxLen; omega
  have k1H : Hid (∀ o1 o2, Kept [] w ((w1.alloc o1).alloc o2)) := fun o1 o2 => (k1.alloc o1).alloc o2
  have hw1 : w.heap.size ≤ w1.heap.size := k1.size
  clear hT k1 h1
  go_wp2_with (at_builtin; refine wpList_append_own _ rfl (.tmp 12) (.tmp 14) 68 rfl B 3 i0 _ 1 8 Tryz.underlying68 hi0 hz0 hz1 hz2 rfl (by decide) sv t.start.length (symCells t.start) rfl ?own ⟨w1.heap.size + 1, 0, none⟩ 1 1 [.int .i64 (s : Int)] rfl rfl ?c1 ?c2 ?b1 ?b2 ?b3 ?k)
  case own => exact own _ _
  case c1 => exact cells_new _ _ _ _ (by simp)
  case c2 => simp [Value.oneCell']
  case b1 => exact mb
  case b2 => omega
  case b3 => exact up _ _
  case k =>
    intro v' w3 hown hgrow _
    obtain ⟨g, cap, rfl⟩ := own_form hown (by omega)
    have hT1 := h.kept (k1H.out (.cells #[.int .i64 a1, .int .i64 a2, .int .i64 a3, .int .i64 a4] 84) (.cells #[.int .i64 s] 3))
    obtain ⟨e3, f3, b3, hcs, hT2, hF2⟩ := start_fin (x := s) hT1 hgrow hown hoH.out
    have hA : Blk w3 w1.heap.size #[.int .i64 a1, .int .i64 a2, .int .i64 a3, .int .i64 a4] 84 :=
      (hgrow.block _ (by simp; omega) (fun hc => by have := (h.start.lt _ hc.symm).2; omega)).trans ((Blk.new w1 _ _).alloc _)
    have hF2H : Hid (Fra B b w _) := (Fra.of_kept (k1H.out _ _) h.up).trans hF2
    have hT2H : Hid (TM _ _ _ _ _ _ _ _ _) := hT2
    have hb3 : w1.heap.size < w3.heap.size := hA.lt
    have d0 : w3.cell? ⟨w1.heap.size, 0, none⟩ = some (.int .i64 a1) := hA.cell 0
    have d1 : w3.cell? ⟨w1.heap.size, 1, none⟩ = some (.int .i64 a2) := hA.cell 1
    have d2 : w3.cell? ⟨w1.heap.size, 2, none⟩ = some (.int .i64 a3) := hA.cell 2
    have d3 : w3.cell? ⟨w1.heap.size, 3, none⟩ = some (.int .i64 a4) := hA.cell 3
    have g4 : w3.cell? ⟨b, o + 4, none⟩ = some (.int .i64 t.whole.len) := hcs 4 (by omega)
    have g5 : w3.cell? ⟨b, o + 4 + 1, none⟩ = some (.int .i64 t.whole.nl) := hcs 5 (by omega)
    have g6 : w3.cell? ⟨b, o + 4 + 2, none⟩ = some (.int .i64 t.whole.first) := hcs 6 (by omega)
    have g7 : w3.cell? ⟨b, o + 4 + 3, none⟩ = some (.int .i64 t.whole.last) := hcs 7 (by omega)
    have hne : b ≠ w1.heap.size := by omega
    clear hT1 hgrow hown hcs hA hT2 hF2 own up k1H c3
    go_wp2_with fail
    go_region_law (go_simp; go_at_call 163; refine (hj.out _).mono ?_; rintro _ w5 ⟨rfl, k5⟩; have hT5 := (hT2H.out.kept ((Kept.refl [] _).drew)).kept k5; have r4 : w5.cell? ⟨b, o + 4, none⟩ = some (.int .i64 t.whole.len) := hT5.cell hoH.out 4 (by omega); have r5 : w5.cell? ⟨b, o + 4 + 1, none⟩ = some (.int .i64 t.whole.nl) := hT5.cell hoH.out 5 (by omega); have r6 : w5.cell? ⟨b, o + 4 + 2, none⟩ = some (.int .i64 t.whole.first) := hT5.cell hoH.out 6 (by omega); have r7 : w5.cell? ⟨b, o + 4 + 3, none⟩ = some (.int .i64 t.whole.last) := hT5.cell hoH.out 7 (by omega); have q4 : w5.frozen? ⟨b, o + 4, none⟩ = false := hT5.blk.frozen _; have q5 : w5.frozen? ⟨b, o + 4 + 1, none⟩ = false := hT5.blk.frozen _; have q6 : w5.frozen? ⟨b, o + 4 + 2, none⟩ = false := hT5.blk.frozen _; have q7 : w5.frozen? ⟨b, o + 4 + 3, none⟩ = false := hT5.blk.frozen _; have q8 := hT5.blk.lt)
    all_goals
      obtain ⟨hT6, hF6⟩ := whole_fin hT5 hsm hoH.out
      have hT7 : Hid (TM _ _ _ _ _ _ _ _ _) := hT6
      have hF7 : Hid (Fra B b w _) := (hF2H.out.trans ((Fra.of_kept ((Kept.refl [] _).drew.trans k5) hT2H.out.up).trans hF6))
      clear hT6 hF6 hT5
      go_wp2
      go_end0
      exact ⟨rfl, hF7.out, _, hT7.out⟩

end Go.Proofs.YtgifhgnccmnbiabGreatDoor

set_option linter.unusedVariables false
set_option linter.unusedSimpArgs false
namespace Go.Proofs.YtgifhgnccmnbiabGreatDoor
open Go.RowKit Go.IntWalk

/-- The byte at a place; 0 behind the last one. -/
def bt (f : ByteArray) (i : Nat) : Nat := if h : i < f.size then f[i].toNat else 0
theorem bt_lt {f : ByteArray} {i : Nat} (h : i < f.size) : bt f i = f[i].toNat := dif_pos h
theorem bt_bd (f : ByteArray) (i : Nat) : bt f i < 256 := by
  unfold bt; split
  · exact f[i].toNat_lt
  · omega

def RG (w : World) (b : Nat) (f : ByteArray) (s : RS) : Prop := Blk w b #[.string f, .int .i64 (s.1 : Int), .bool s.2] 208
def nextG (f : ByteArray) (s : RS) : Nat × RS := if s.1 < f.size then (bt f s.1, (s.1 + 1, s.2)) else (0, (s.1, true))
/-- A number of so many bytes, the low one first. -/
def numG (f : ByteArray) (s : RS) : Nat → Nat × RS
  | 0 => (0, s)
  | i + 1 => ((numG f s i).1 + (nextG f (numG f s i).2).1 * 256 ^ i, (nextG f (numG f s i).2).2)
def countG (f : ByteArray) (bytes most : Nat) (s : RS) : Nat × RS := if most < (numG f s bytes).1 then (0, ((numG f s bytes).2.1, true)) else numG f s bytes
theorem nextG_ge (f : ByteArray) (s : RS) : s.1 ≤ (nextG f s).2.1 ∧ (nextG f s).2.1 ≤ s.1 + 1 := by unfold nextG; split <;> simp

set_option maxHeartbeats 1000000 in
set_option maxRecDepth 100000 in
theorem gnext_any (w : World) (b : Nat) (f : ByteArray) (s : RS) (h : RG w b f s) (hf : f.size ≤ 100000) (hs : s.1 ≤ 100000) :
    Calls Tryz.prog 193 #[.pointer (some ⟨b, 0, none⟩)] w fun e w' => e = .returned (.int .i64 ((nextG f s).1 : Int)) ∧ RG w' b f (nextG f s).2 ∧ Kept [b] w w' := by
  obtain ⟨p, bad⟩ := s
  have c0 : w.cell? ⟨b, 0, none⟩ = some (.string f) := h.cell 0
  have c1 : w.cell? ⟨b, 1, none⟩ = some (.int .i64 (p : Int)) := h.cell 1
  have c2 : w.cell? ⟨b, 2, none⟩ = some (.bool bad) := h.cell 2
  have f1 : w.frozen? ⟨b, 1, none⟩ = false := h.frozen 1
  have f2 : w.frozen? ⟨b, 2, none⟩ = false := h.frozen 2
  simp only [] at hs
  have g0 : ¬ (p : Int) < 0 := by omega
  by_cases hp : p < f.size
  · have e : nextG f (p, bad) = (f[p].toNat, (p + 1, bad)) := by unfold nextG; rw [if_pos hp, bt_lt hp]
    rw [e]
    have hH : Hid (RG w b f (p, bad)) := h
    have g1 : ¬ (f.size : Int) ≤ (p : Int) := by omega
    have g2 : (p : Int) < (f.size : Int) := by omega
    clear h e
    go_enter Tryz.func193, Tryz.ntmps193
    go_wp2_with fail
    go_quiet (fail)
    go_wp2_with fail
    go_quiet (fail)
    go_wp2
    go_ret
    exact ⟨ret_int (by have := f[p].toNat_lt; exact wrap64_in _ (by omega)), Blk.set hH.out 1 _, ((Kept.refl [b] w).drewN _).setCell (p := ⟨b, 1, none⟩) (by simp) _⟩
  · have e : nextG f (p, bad) = (0, (p, true)) := by unfold nextG; rw [if_neg hp]
    rw [e]
    have hH : Hid (RG w b f (p, bad)) := h
    have g1 : (f.size : Int) ≤ (p : Int) := by omega
    clear h e
    go_enter Tryz.func193, Tryz.ntmps193
    go_wp2_with fail
    go_quiet (fail)
    go_wp2
    go_ret
    exact ⟨rfl, Blk.set hH.out 2 _, ((Kept.refl [b] w).drewN _).setCell (p := ⟨b, 2, none⟩) (by simp) _⟩

theorem nextG_lt (f : ByteArray) (s : RS) : (nextG f s).1 < 256 := by
  unfold nextG; split
  · exact bt_bd f s.1
  · omega

theorem numG_ge (f : ByteArray) (s : RS) : ∀ i, s.1 ≤ (numG f s i).2.1 ∧ (numG f s i).2.1 ≤ s.1 + i
  | 0 => ⟨Nat.le_refl _, Nat.le_refl _⟩
  | i + 1 => by
    have h1 := numG_ge f s i
    have h2 := nextG_ge f (numG f s i).2
    show s.1 ≤ (nextG f (numG f s i).2).2.1 ∧ (nextG f (numG f s i).2).2.1 ≤ s.1 + (i + 1)
    omega
theorem numG_two_lt (f : ByteArray) (s : RS) : (numG f s 1).1 < 256 ∧ (numG f s 2).1 < 65536 := by
  have h1 := nextG_lt f s
  have h2 := nextG_lt f (nextG f s).2
  have e1 : (numG f s 1).1 = 0 + (nextG f s).1 * 256 ^ 0 := rfl
  have e2 : (numG f s 2).1 = (0 + (nextG f s).1 * 256 ^ 0) + (nextG f (nextG f s).2).1 * 256 ^ 1 := rfl
  rw [e1, e2]
  omega

set_option maxHeartbeats 1000000 in
set_option maxRecDepth 100000 in
theorem rnumber_any (w : World) (b : Nat) (f : ByteArray) (s : RS) (h : RG w b f s) (hf : f.size ≤ 100000) (hs : s.1 ≤ 99000) (n : Nat) (hn : n = 1 ∨ n = 2) :
    Calls Tryz.prog 162 #[.pointer (some ⟨b, 0, none⟩), .int .i64 (n : Int)] w fun e w' => e = .returned (.int .i64 ((numG f s n).1 : Int)) ∧ RG w' b f (numG f s n).2 ∧ Kept [b] w w' := by
  have hx : Hid (∀ w s, RG w b f s → s.1 ≤ 100000 → Calls _ _ _ w _) := fun w s h hs => gnext_any w b f s h hf hs
  have hnH : Hid (n = 1 ∨ n = 2) := hn
  clear hn
  go_enter Tryz.func162, Tryz.ntmps162
  go_wp2_with fail
  go_loopw [5, 6] (fun nv iv wr => ∃ q : Nat, iv = .int .i64 (q : Int) ∧ q ≤ n ∧ nv = .int .i64 ((numG f s q).1 : Int) ∧ RG wr b f (numG f s q).2 ∧ Kept [b] w wr) (fun _ iv _ => ((n : Int) - intOf iv).toNat)
  case atStart => exact ⟨0, rfl, Nat.zero_le _, rfl, h, Kept.refl _ _⟩
  case round =>
    obtain ⟨q, rfl, hq, rfl, hr, hk⟩ := hrel
    clear h
    by_cases hlt : (q : Int) < (n : Int)
    · have hq2 : q = 0 ∨ q = 1 := by have := hnH.out; omega
      have hge := (numG_ge f s q).2
      have hc : Hid (Calls _ _ _ _ _) := hx.out _ _ hr (by omega)
      have hb := nextG_lt f (numG f s q).2
      have hacc : (numG f s q).1 < 65536 := by
        have := numG_two_lt f s
        rcases hq2 with rfl | rfl
        · show 0 < 65536; omega
        · omega
      have e1 : Hid (numG f s (q + 1) = ((numG f s q).1 + (nextG f (numG f s q).2).1 * 256 ^ q, (nextG f (numG f s q).2).2)) := rfl
      generalize (numG f s q).1 = A at *
      generalize nextG f (numG f s q).2 = N at *
      obtain ⟨c, s2⟩ := N
      simp only [] at hb
      clear hx hr hge
      rcases hq2 with rfl | rfl
      · go_wp2_with fail
        refine hc.out.mono ?_
        rintro e w2 ⟨rfl, r2, k2⟩
        have k2 : Hid (Kept _ _ _) := hk.trans k2
        have r2 : Hid (RG _ _ _ _) := r2
        clear hk hc
        go_wp2
        refine ⟨⟨1, rfl, by omega, by rw [e1.out]; simp only [Nat.pow_zero, Nat.mul_one, Int.natCast_add], by rw [e1.out]; exact r2.out, k2.out⟩, ?_⟩
        simp only [intOf]; omega
      · go_wp2_with fail
        refine hc.out.mono ?_
        rintro e w2 ⟨rfl, r2, k2⟩
        have k2 : Hid (Kept _ _ _) := hk.trans k2
        have r2 : Hid (RG _ _ _ _) := r2
        clear hk hc
        go_wp2
        refine ⟨⟨2, rfl, by omega, by rw [e1.out]; simp only [Nat.pow_one, Int.natCast_add, Int.natCast_mul]; rfl, by rw [e1.out]; exact r2.out, k2.out⟩, ?_⟩
        simp only [intOf]; omega
    · have hqn : q = n := by omega
      subst hqn
      have hk : Hid (Kept _ _ _) := hk
      have hr : Hid (RG _ _ _ _) := hr
      clear hx
      go_wp2
      go_ret
      exact ⟨rfl, hr.out, hk.out⟩

theorem RG.mark {w : World} {b : Nat} {f : ByteArray} {s : RS} (h : RG w b f s) : RG (w.setCell ⟨b, 2, none⟩ (.bool true)) b f (s.1, true) := h.set 2 _
theorem countG_ge (f : ByteArray) (n m : Nat) (s : RS) : s.1 ≤ (countG f n m s).2.1 ∧ (countG f n m s).2.1 ≤ s.1 + n := by
  have := numG_ge f s n
  unfold countG; split
  · exact this
  · exact this
theorem countG_le (f : ByteArray) (n m : Nat) (s : RS) : (countG f n m s).1 ≤ m := by
  unfold countG; split
  · omega
  · rename_i h; omega

set_option maxHeartbeats 1000000 in
set_option maxRecDepth 100000 in
theorem rcount_any (w : World) (b : Nat) (f : ByteArray) (s : RS) (h : RG w b f s) (hf : f.size ≤ 100000) (hs : s.1 ≤ 99000) (n : Nat) (hn : n = 1 ∨ n = 2) (m : Nat) (hm : m ≤ 100000) :
    Calls Tryz.prog 127 #[.pointer (some ⟨b, 0, none⟩), .int .i64 (n : Int), .int .i64 (m : Int)] w fun e w' => e = .returned (.int .i64 ((countG f n m s).1 : Int)) ∧ RG w' b f (countG f n m s).2 ∧ Kept [b] w w' := by
  have hx : Hid (Calls _ _ _ w _) := rnumber_any w b f s h hf hs n hn
  have hlt : (numG f s n).1 < 65536 := by
    have := numG_two_lt f s
    rcases hn with rfl | rfl <;> omega
  unfold countG
  generalize numG f s n = N at *
  obtain ⟨c, s2⟩ := N
  simp only [] at hlt hx ⊢
  clear h hn
  by_cases hc : (m : Int) < (c : Int)
  · rw [if_pos (by omega)]
    go_enter Tryz.func127, Tryz.ntmps127
    go_wp2_with fail
    refine hx.out.mono ?_
    rintro e w2 ⟨rfl, r2, k2⟩
    have c2 : w2.cell? ⟨b, 2, none⟩ = some (.bool s2.2) := r2.cell 2
    have f2 : w2.frozen? ⟨b, 2, none⟩ = false := r2.frozen 2
    have hR : Hid (RG _ _ _ _) := r2.mark
    have hK : Hid (Kept [b] w (w2.setCell ⟨b, 2, none⟩ (.bool true))) := k2.setCell (by simp) _
    clear r2 k2 hx
    go_wp2
    go_ret
    exact ⟨rfl, hR.out, hK.out⟩
  · rw [if_neg (by omega)]
    go_enter Tryz.func127, Tryz.ntmps127
    go_wp2_with fail
    refine hx.out.mono ?_
    rintro e w2 ⟨rfl, r2, k2⟩
    have hR : Hid (RG _ _ _ _) := r2
    have hK : Hid (Kept _ _ _) := k2
    clear r2 k2 hx
    go_wp2
    go_ret
    exact ⟨rfl, hR.out, hK.out⟩

set_option maxHeartbeats 1000000 in
set_option maxRecDepth 100000 in
theorem rsymbol_any (w : World) (b : Nat) (f : ByteArray) (s : RS) (h : RG w b f s) (hf : f.size ≤ 100000) (hs : s.1 ≤ 99000) (r : Nat) (hr : r ≤ 1000) :
    Calls Tryz.prog 128 #[.pointer (some ⟨b, 0, none⟩), .int .i64 (r : Int)] w fun e w' => e = .returned (.int .i64 ((countG f 2 (255 + r) s).1 : Int)) ∧ RG w' b f (countG f 2 (255 + r) s).2 ∧ Kept [b] w w' := by
  have hx := rcount_any w b f s h hf hs 2 (Or.inr rfl) (255 + r) (by omega)
  have e : ((255 + r : Nat) : Int) = 256 + (r : Int) - 1 := by omega
  rw [e] at hx
  have hx : Hid (Calls _ _ _ _ _) := hx
  generalize countG f 2 (255 + r) s = N at *
  clear e h
  go_enter Tryz.func128, Tryz.ntmps128
  go_wp2_with fail
  refine hx.out.mono ?_
  rintro e w2 ⟨rfl, r2, k2⟩
  have hR : Hid (RG _ _ _ _) := r2
  have hK : Hid (Kept _ _ _) := k2
  clear r2 k2 hx
  go_wp2
  go_ret
  exact ⟨rfl, hR.out, hK.out⟩

end Go.Proofs.YtgifhgnccmnbiabGreatDoor

set_option linter.unusedVariables false
set_option linter.unusedSimpArgs false
namespace Go.Proofs.YtgifhgnccmnbiabGreatDoor
open Go.RowKit Go.IntWalk

def ruG (f : ByteArray) (s : RS) : Nat → List RU × RS
  | 0 => ([], s)
  | i + 1 =>
    ((ruG f s i).1 ++ [ruleP (ruG f s i).1 (countG f 2 (255 + i) (ruG f s i).2).1 (countG f 2 (255 + i) (countG f 2 (255 + i) (ruG f s i).2).2).1],
     (countG f 2 (255 + i) (countG f 2 (255 + i) (ruG f s i).2).2).2)
def syG (f : ByteArray) (m : Nat) (s : RS) : Nat → List Nat × RS
  | 0 => ([], s)
  | i + 1 => ((syG f m s i).1 ++ [(countG f 2 m (syG f m s i).2).1], (countG f 2 m (syG f m s i).2).2)
def wholeP (rs : List RU) (l : List Nat) : PT := l.foldl (fun p s => joinP p (partAt rs s)) {}
def sgR (f : ByteArray) : Nat × RS := countG f 1 100 (2, false)
def sgG (f : ByteArray) : List RU × RS := ruG f (sgR f).2 (sgR f).1
def sgN (f : ByteArray) : Nat × RS := countG f 2 1000 (sgG f).2
def sgS (f : ByteArray) : List Nat × RS := syG f (255 + (sgR f).1) (sgN f).2 (sgN f).1
def sgOk (f : ByteArray) : Bool := !(sgS f).2.2 && decide (f.size ≤ (sgS f).2.1)
def sgT (f : ByteArray) : TT := { kind := 71, syms := (sgN f).1, rules := (sgG f).1, start := (sgS f).1, whole := wholeP (sgG f).1 (sgS f).1 }

theorem nextG_bad {f : ByteArray} {s : RS} (h : s.2 = true) : (nextG f s).2.2 = true := by unfold nextG; split <;> simp [h]
theorem numG_bad {f : ByteArray} {s : RS} (h : s.2 = true) : ∀ i, (numG f s i).2.2 = true
  | 0 => h
  | i + 1 => nextG_bad (numG_bad h i)
theorem countG_bad {f : ByteArray} {n m : Nat} {s : RS} (h : s.2 = true) : (countG f n m s).2.2 = true := by
  unfold countG; split
  · rfl
  · exact numG_bad h n
theorem ruG_bad {f : ByteArray} {s : RS} {i : Nat} (h : (ruG f s i).2.2 = true) : ∀ j, (ruG f s (i + j)).2.2 = true
  | 0 => h
  | j + 1 => countG_bad (countG_bad (ruG_bad h j))
theorem syG_bad {f : ByteArray} {m : Nat} {s : RS} {i : Nat} (h : (syG f m s i).2.2 = true) : ∀ j, (syG f m s (i + j)).2.2 = true
  | 0 => h
  | j + 1 => countG_bad (syG_bad h j)
theorem ruG_len (f : ByteArray) (s : RS) : ∀ i, (ruG f s i).1.length = i
  | 0 => rfl
  | i + 1 => by
    show (_ ++ [_]).length = i + 1
    rw [List.length_append, ruG_len f s i]; rfl
theorem ruG_at (f : ByteArray) (s : RS) : ∀ i, (ruG f s i).2.1 ≤ s.1 + 4 * i
  | 0 => Nat.le_refl _
  | i + 1 => by
    have h0 := ruG_at f s i
    have h1 := (countG_ge f 2 (255 + i) (ruG f s i).2).2
    have h2 := (countG_ge f 2 (255 + i) (countG f 2 (255 + i) (ruG f s i).2).2).2
    show (countG f 2 (255 + i) (countG f 2 (255 + i) (ruG f s i).2).2).2.1 ≤ s.1 + 4 * (i + 1)
    omega
theorem sgOk_S {f : ByteArray} (h : (sgS f).2.2 = true) : sgOk f = false := by unfold sgOk; rw [h]; rfl
theorem sgOk_N {f : ByteArray} (h : (sgN f).2.2 = true) : sgOk f = false := by
  refine sgOk_S ?_
  have := syG_bad (f := f) (m := 255 + (sgR f).1) (s := (sgN f).2) (i := 0) h (sgN f).1
  rwa [Nat.zero_add] at this
theorem sgOk_G {f : ByteArray} (h : (sgG f).2.2 = true) : sgOk f = false := sgOk_N (countG_bad h)
theorem sgOk_g {f : ByteArray} {i : Nat} (hi : i ≤ (sgR f).1) (h : (ruG f (sgR f).2 i).2.2 = true) : sgOk f = false := by
  refine sgOk_G ?_
  have := ruG_bad h ((sgR f).1 - i)
  rwa [show i + ((sgR f).1 - i) = (sgR f).1 by omega] at this
theorem sgOk_s {f : ByteArray} {i : Nat} (hi : i ≤ (sgN f).1) (h : (syG f (255 + (sgR f).1) (sgN f).2 i).2.2 = true) : sgOk f = false := by
  refine sgOk_S ?_
  have := syG_bad h ((sgN f).1 - i)
  rwa [show i + ((sgN f).1 - i) = (sgN f).1 by omega] at this
theorem wholeP_snoc (rs : List RU) (l : List Nat) (s : Nat) : wholeP rs (l ++ [s]) = joinP (wholeP rs l) (partAt rs s) := by unfold wholeP; rw [List.foldl_append]; rfl

/-- The state of the reader behind the rules. -/
structure AfterRules (f : ByteArray) (rs : List RU) (s : RS) : Prop where
  bad : s.2 = true → sgOk f = false
  good : s.2 = false → rs = (sgG f).1 ∧ s = (sgG f).2
  len : rs.length ≤ 100
  at_ : s.1 ≤ 1000
/-- The state of the reader among the symbols. -/
structure AmongSyms (f : ByteArray) (rs : List RU) (n j : Nat) (l : List Nat) (p : PT) (s : RS) : Prop where
  bad : s.2 = true → sgOk f = false
  good : s.2 = false → rs = (sgG f).1 ∧ n = (sgN f).1 ∧ l = (syG f (255 + (sgR f).1) (sgN f).2 j).1 ∧ s = (syG f (255 + (sgR f).1) (sgN f).2 j).2 ∧ p = wholeP rs l
  len : rs.length ≤ 100
  llen : l.length = j
  at_ : s.1 ≤ 2000 + 2 * j
  up : n ≤ 1000
theorem sgR_bd (f : ByteArray) : (sgR f).1 ≤ 100 ∧ (sgR f).2.1 ≤ 3 := ⟨countG_le _ _ _ _, (countG_ge f 1 100 (2, false)).2⟩
theorem AfterRules.of {f : ByteArray} {q : Nat} (hq : q ≤ (sgR f).1) (h : (ruG f (sgR f).2 q).2.2 = true ∨ q = (sgR f).1) : AfterRules f (ruG f (sgR f).2 q).1 (ruG f (sgR f).2 q).2 := by
  have hb := sgR_bd f
  have ha := ruG_at f (sgR f).2 q
  refine ⟨fun hx => sgOk_g hq hx, fun hx => ?_, by rw [ruG_len]; omega, by omega⟩
  rcases h with h | h
  · rw [hx] at h; cases h
  · subst h; exact ⟨rfl, rfl⟩
theorem AfterRules.count {f : ByteArray} {rs : List RU} {s : RS} (h : AfterRules f rs s) : AmongSyms f rs (countG f 2 1000 s).1 0 [] {} (countG f 2 1000 s).2 := by
  have h1 := countG_ge f 2 1000 s
  refine ⟨fun hx => ?_, fun hx => ?_, h.len, rfl, by have := h.at_; omega, countG_le _ _ _ _⟩
  · cases hs : s.2 with
    | true => exact h.bad hs
    | false => obtain ⟨_, rfl⟩ := h.good hs; exact sgOk_N hx
  · cases hs : s.2 with
    | true => rw [countG_bad hs] at hx; cases hx
    | false => obtain ⟨h2, rfl⟩ := h.good hs; exact ⟨h2, rfl, rfl, rfl, rfl⟩
theorem AmongSyms.next {f : ByteArray} {rs : List RU} {n j : Nat} {l : List Nat} {p : PT} {s : RS} (h : AmongSyms f rs n j l p s) (hj : j < n) (hs : s.2 = false) :
    AmongSyms f rs n (j + 1) (l ++ [(countG f 2 (255 + (sgR f).1) s).1]) (joinP p (partAt rs (countG f 2 (255 + (sgR f).1) s).1)) (countG f 2 (255 + (sgR f).1) s).2 := by
  have h1 := countG_ge f 2 (255 + (sgR f).1) s
  obtain ⟨g1, g2, g3, g4, g5⟩ := h.good hs
  refine ⟨fun hx => ?_, fun hx => ⟨g1, g2, ?_, ?_, ?_⟩, h.len, by rw [List.length_append, h.llen]; rfl, by have := h.at_; omega, h.up⟩
  · rw [g4] at hx
    exact sgOk_s (i := j + 1) (by omega) hx
  · rw [g3, g4]; rfl
  · rw [g4]; rfl
  · rw [g5, wholeP_snoc]
theorem AmongSyms.fin {f : ByteArray} {rs : List RU} {n : Nat} {l : List Nat} {p : PT} {s : RS} (h : AmongSyms f rs n n l p s) (hs : s.2 = false) :
    sgOk f = decide (f.size ≤ s.1) ∧ ({ kind := 71, syms := n, rules := rs, start := l, whole := p } : TT) = sgT f := by
  obtain ⟨g1, g2, g3, g4, g5⟩ := h.good hs
  subst g2
  have e : (sgS f).2 = s := g4.symm
  refine ⟨by unfold sgOk; rw [e, hs]; rfl, ?_⟩
  unfold sgT
  rw [g5, g3, g1]; rfl

end Go.Proofs.YtgifhgnccmnbiabGreatDoor
