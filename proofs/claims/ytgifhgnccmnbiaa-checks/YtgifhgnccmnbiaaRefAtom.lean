/- The document's answer: an atom. -/
import Derived.Test.YtgifhgnccmnbiaaRefMem
import Derived.Test.YtgifhgnccmnbiaaGoPure
set_option linter.unusedVariables false
set_option linter.unusedSimpArgs false
namespace Go.Proofs.Ytgifhgnccmnbiaa
open Go.RowKit Go.IntWalk

section
variable {t : ByteArray} {st : RP} {r r1 : Nat × RP} {cur : List Nat}
theorem EvR.plain (h : (tkS t (openR t st.1)).1 ≠ 40) : EvR t 3 [] st (plainR t (tkS t (openR t st.1)).1 ((tkS t (openR t st.1)).2, st.2)) :=
  ev_succ ⟨0, fun f _ => by rw [goR, if_neg (by decide), if_neg (by decide), if_neg (by decide), if_pos rfl, if_neg h]⟩
theorem EvR.group (h : (tkS t (openR t st.1)).1 = 40) (h1 : EvR t 0 [] ((tkS t (openR t st.1)).2, st.2) r1) : EvR t 3 [] st (closeR t r1) :=
  ev_succ (by obtain ⟨a, h2⟩ := h1; exact ⟨a, fun f hf => by rw [goR, if_neg (by decide), if_neg (by decide), if_neg (by decide), if_pos rfl, if_pos h, h2 f hf]⟩)
theorem EvR.piece (h1 : EvR t 3 [] st r1) (h2 : EvR t 4 [r1.1] r1.2 r) : EvR t 2 [] st r :=
  ev_succ (by obtain ⟨a, h⟩ := ev_max h1 h2; exact ⟨a, fun f hf => by obtain ⟨x, y⟩ := h f hf; rw [goR, if_neg (by decide), if_neg (by decide), if_pos rfl, x, y]⟩)
theorem EvR.repEnd {x : Nat} (h : st.1.2 = true ∨ stB t st.1 [42, 43, 63, 123] = false) : EvR t 4 [x] st (x, st) :=
  ev_succ ⟨0, fun f _ => by rw [goR, if_neg (by decide), if_neg (by decide), if_neg (by decide), if_neg (by decide), if_pos h]; rfl⟩
theorem EvR.rep {x : Nat} (hb : st.1.2 = false) (h : stB t st.1 [42, 43, 63, 123] = true)
    (h1 : EvR t 4 [(pushP { kind := 6, kids := [x], least := (repR t st.1).1.1, most := (repR t st.1).1.2 } ((repR t st.1).2, st.2)).1] (pushP { kind := 6, kids := [x], least := (repR t st.1).1.1, most := (repR t st.1).1.2 } ((repR t st.1).2, st.2)).2 r) : EvR t 4 [x] st r :=
  ev_succ (by obtain ⟨a, h2⟩ := h1; exact ⟨a, fun f hf => by rw [goR, if_neg (by decide), if_neg (by decide), if_neg (by decide), if_neg (by decide), if_neg (by rw [hb, h]; decide)]; exact h2 f hf⟩)
theorem EvR.branchEnd (h : moreR t st.1 = false) : EvR t 1 cur st (pushP { kind := 4, kids := cur } st) :=
  ev_succ ⟨0, fun f _ => by rw [goR, if_neg (by decide), if_pos rfl, if_neg (by rw [h]; decide)]⟩
theorem EvR.branchOn (h : moreR t st.1 = true) (h1 : EvR t 2 [] st r1) (h2 : EvR t 1 (cur ++ [r1.1]) r1.2 r) : EvR t 1 cur st r :=
  ev_succ (by obtain ⟨a, h3⟩ := ev_max h1 h2; exact ⟨a, fun f hf => by obtain ⟨x, y⟩ := h3 f hf; rw [goR, if_neg (by decide), if_pos rfl, if_pos h, x, y]⟩)
theorem EvR.choiceEnd (h1 : EvR t 1 [] st r1) (h : (takeS t 124 r1.2.1).1 = false ∨ (takeS t 124 r1.2.1).2.2 = true) : EvR t 0 cur st (pushP { kind := 5, kids := cur ++ [r1.1] } ((takeS t 124 r1.2.1).2, r1.2.2)) :=
  ev_succ (by obtain ⟨a, h2⟩ := h1; exact ⟨a, fun f hf => by rw [goR, if_pos rfl]; simp only []; rw [h2 f hf, if_pos h]⟩)
theorem EvR.choiceOn (h1 : EvR t 1 [] st r1) (h : ¬ ((takeS t 124 r1.2.1).1 = false ∨ (takeS t 124 r1.2.1).2.2 = true)) (h2 : EvR t 0 (cur ++ [r1.1]) ((takeS t 124 r1.2.1).2, r1.2.2) r) : EvR t 0 cur st r :=
  ev_succ (by obtain ⟨a, h3⟩ := ev_max h1 h2; exact ⟨a, fun f hf => by obtain ⟨x, y⟩ := h3 f hf; rw [goR, if_pos rfl]; simp only []; rw [x, if_neg h, y]⟩)
end

theorem stands4 (b : Nat) (t : ByteArray) (s : RS) (w : World) (h : RR w b t s) :
    Calls Try.prog 91 #[.pointer (some ⟨b, 0, none⟩), .string ⟨#[42, 43, 63, 123]⟩] w fun e w' => e = .returned (.bool (stB t s [42, 43, 63, 123])) ∧ RR w' b t s ∧ Kept [b] w w' := stands_any b t s _ w h (by decide)

theorem infoBool : (Try.prog.info? 4).map (fun i => (i.zero, i.size, i.bytes)) = some (some (.bool false), 1, 1) := by kernel_rfl

theorem made_bools : madeCells (Value.bool false).cells 256 = boolCells (fun _ => false) := by
  apply Array.ext
  · simp [madeCells, boolCells]
  · intro i h1 h2
    simp [madeCells, boolCells, Value.cells, Nat.mod_one]
theorem make_bools (w : World) : (Instr.makeSlice 89 (.int .i64 256) (.int .i64 256)).run Try.prog w = .ok (.slice (some ⟨w.heap.size, 0, none⟩) 256 256) (w.alloc (.cells (boolCells (fun _ => false)) 4)) := by
  obtain ⟨i0, hi0, hz0, hz1, hz2⟩ := info_parts infoBool
  have h := run_make (P := Try.prog) w 89 4 i0 (.bool false) Try.underlying89 hi0 hz0 .i64 .i64 256 256 (by omega) (by omega) (by rw [hz2]; omega) (by omega)
  rw [hz1] at h
  have e : (256 : Int).toNat * 1 = 256 := rfl
  rw [e, made_bools] at h
  exact h

theorem kept_drop {b a g : Nat} {w w3 w4 : World} (k1 : Kept [b] w w3) (k2 : Kept [b, a, g] w3 w4) (ha : w.heap.size ≤ a) (hg : w.heap.size ≤ g) : Kept [b] w w4 :=
  ⟨k2.os.trans k1.os, k2.tape.trans k1.tape, k2.output.trans k1.output, Nat.le_trans k1.size k2.size, fun k hk hs =>
    (k2.block k (Nat.lt_of_lt_of_le hk k1.size) (by simp at hs ⊢; omega)).trans (k1.block k hk hs)⟩

/-- A leaf: a part without kids. -/
theorem leaf_mem {w w' : World} {b a g : Nat} {t : ByteArray} {s s' : RS} {ps : List PN} {adrs : List Nat} {F : Nat → Prop} {p : PN} (h : RM w b t s ps adrs F) (r : RR w' b t s') (k : Kept [b] w w')
    (hp : p.kids = [] ∧ p.kind ≤ 3 ∧ p.least = 0 ∧ p.most = 0) (ha : w.heap.size ≤ a) (hg : w.heap.size ≤ g)
    (hpa : Blk w' a #[.int .i64 p.kind, .slice (some ⟨g, 0, none⟩) 256 256, .bool p.neg, .slice none 0 0, .int .i64 0, .int .i64 0] 160) (hpg : Blk w' g (boolCells p.ins) 4) :
    RMem w w' b t adrs F (pushP p (s', ps)) (.pointer (some ⟨a, 0, none⟩)) := by
  obtain ⟨e1, e2, e3, e4⟩ := hp
  have hb := h.rr.blk.lt
  refine ⟨⟨[a], fun k => F k ∨ k = a ∨ k = g, RM.push (h.scan r k) (fun k hk => Or.inl hk) (fun x hx => ?_) (fun x hx => by rw [e1] at hx; cases hx) (iv := (some ⟨g, 0, none⟩, 256, 256)) (kv := (none, 0, 0)) ⟨?_, Or.inr (Or.inl rfl), Or.inl ⟨e2, g, rfl, Or.inr (Or.inr rfl), hpg⟩, ?_, fun x hx => by cases hx⟩, fun k hk => Or.inl hk, fun x hx => ?_, ?_⟩, k, ?_⟩
  · rcases hx with hx | rfl | rfl
    · exact ⟨Nat.lt_of_lt_of_le (h.old x hx).1 k.size, (h.old x hx).2⟩
    · exact ⟨hpa.lt, by omega⟩
    · exact ⟨hpg.lt, by omega⟩
  · rw [e3, e4]; exact hpa
  · rw [e1]; exact World.ownsRow_nil _ _ _ _
  · rcases hx with hx | rfl | rfl
    · exact Or.inl hx
    · exact Or.inr ha
    · exact Or.inr hg
  · simp [pushP, ptrTo, List.getD, ← h.len]
  · simp [pushP]

def RAtomC (t : ByteArray) (b : Nat) (s : RS) (ps : List PN) (adrs : List Nat) (F : Nat → Prop) (w : World) : Prop :=
  Calls Try.prog 128 #[.pointer (some ⟨b, 0, none⟩)] w fun e w' => ∃ r pv, e = .returned pv ∧ EvR t 3 [] (s, ps) r ∧ RMem w w' b t adrs F r pv ∧ s.1 < r.2.1.1

theorem openR_1 (t : ByteArray) (s : RS) : (openR t s).1 = s.1 := by unfold openR; split <;> rfl
theorem one_set {c : Int} {f : Nat → Bool} {i : Nat} (hi : (i : Int) = c) (hf : f = fun _ => false) : ∀ j, j < 256 → one c j = if j = i then true else f j := by
  intro j hj
  unfold one
  rw [hf]
  by_cases h : j = i
  · rw [if_pos h, decide_eq_true (by omega)]
  · rw [if_neg h, decide_eq_false (by omega)]

theorem itemsG_ge (t : ByteArray) : ∀ (n : Nat) (s : RS) (f : Nat → Bool), s.1 ≤ (itemsG t n s f).1.1
  | 0, s, f => Nat.le_refl _
  | n + 1, s, f => by
    rw [itemsG]
    split
    · exact Nat.le_refl _
    · split
      · exact Nat.le_trans itemR_ge take_ge
      · exact Nat.le_trans (Nat.le_trans itemR_ge take_ge) (itemsG_ge t n _ _)
theorem itemsR_ge {t : ByteArray} {s : RS} {f : Nat → Bool} : s.1 ≤ (itemsR t s f).1.1 := itemsG_ge t _ s f

set_option maxHeartbeats 4000000 in
set_option maxRecDepth 100000 in
theorem ratom_plain (b : Nat) (t : ByteArray) (s : RS) (ps : List PN) (adrs : List Nat) (F : Nat → Prop) (w : World) (h : RM w b t s ps adrs F) (hp : s.1 < t.size) (hc : (tkS t (openR t s)).1 ≠ 40) : RAtomC t b s ps adrs F w := by
  have ev : Hid (EvR t 3 [] (s, ps) _) := EvR.plain (st := (s, ps)) hc
  have hmk := make_bools
  have hb := h.rr.blk.lt
  have hcb : ((tkS t (openR t s)).1 == 40) = false := by simpa using hc
  have hcbd := tk_bd t (openR t s)
  have hprog : s.1 < (tkS t (openR t s)).2.1 := by
    have : (tkS t (openR t s)).2.1 = (openR t s).1 + 1 := by unfold tkS; rw [if_pos (by rw [openR_1]; exact hp)]
    rw [this, openR_1]; omega
  clear hc
  unfold RAtomC
  go_enter Try.func128, Try.ntmps128
  go_wp2_with fail
  refine (stands4 b t s _ h.rr).mono ?_
  rintro e w1 ⟨rfl, h1, k1⟩
  have c1 := h1.c1
  have f1 := h1.f 1
  go_upto_if 9 with fail
  go_cut [] (fun wx => RR wx b t (openR t s) ∧ Kept [b] w wx)
  case first =>
    go_wp2_with fail
    · have hq : stB t s [42, 43, 63, 123] = true := by assumption
      have e : Hid (openR t s = markS s) := if_pos hq
      go_meet
      rw [e.out]
      exact ⟨h1.mark, k1.setCell (by simp) _⟩
    · have hq : stB t s [42, 43, 63, 123] = false := by assumption
      have e : Hid (openR t s = s) := if_neg (by rw [hq]; decide)
      go_meet
      rw [e.out]
      exact ⟨h1, k1⟩
  case rest =>
    obtain ⟨r2, k2⟩ := hcut
    clear h1 k1 c1 f1
    go_wp2_with fail
    have hsz := k2.size
    have ra : ∀ o1 o2, RR ((wc.alloc o1).alloc o2) b t (openR t s) := fun o1 o2 => r2.kept (((Kept.refl [] wc).alloc o1).alloc o2) (by simp)
    have ka : ∀ o1 o2, Kept [b] w ((wc.alloc o1).alloc o2) := fun o1 o2 => (k2.alloc o1).alloc o2
    refine (rtake_any b t _ _ (ra _ _)).mono ?_
    rintro e w3 ⟨rfl, r3, k3⟩
    have bg : Blk w3 wc.heap.size (boolCells (fun _ => false)) 4 := Blk.kept ((Blk.new wc _ _).alloc _) k3 (by simp; omega)
    have ba : Blk w3 (wc.heap.size + 1) #[.int .i64 1, .slice (some ⟨wc.heap.size, 0, none⟩) 256 256, .bool false, .slice none 0 0, .int .i64 0, .int .i64 0] 160 := by
      have h0 := Blk.new (wc.alloc (.cells (boolCells (fun _ => false)) 4)) #[.int .i64 1, .slice (some ⟨wc.heap.size, 0, none⟩) 256 256, .bool false, .slice none 0 0, .int .i64 0, .int .i64 0] 160
      have e : (wc.alloc (.cells (boolCells (fun _ => false)) 4)).heap.size = wc.heap.size + 1 := by simp
      rw [e] at h0
      exact h0.kept k3 (by simp; omega)
    have k4 : Kept [b] w w3 := (ka _ _).trans k3
    clear k2 k3 ra ka r2
    have hbw : b < wc.heap.size := by omega
    obtain ⟨g, hg⟩ : ∃ g, g = wc.heap.size := ⟨_, rfl⟩
    rw [← hg] at bg ba hbw hsz ⊢
    generalize hcc : (tkS t (openR t s)) = c at *
    obtain ⟨c, s2⟩ := c
    simp only [] at hcb hcbd hprog r3
    have hgH : Hid (_ = _) := hg
    have hccH : Hid (_ = _) := hcc
    clear hg hcc
    have a0 := ba.cell 0
    have a1 := ba.cell 1
    have a2 := ba.cell 2
    have f0 := ba.frozen 0
    have f2 := ba.frozen 2
    have cell1 : ∀ n : Nat, n < 256 → w3.cell? ⟨g, n, none⟩ = some (.bool false) ∧ w3.frozen? ⟨g, n, none⟩ = false := fun n hn => ⟨by rw [bg.cell, boolCells_get _ hn], bg.frozen n⟩
    have hrr : ∀ (k : Int) (n : Nat), RR ((w3.setCell ⟨g + 1, 0, none⟩ (.int .i64 k)).setCell ⟨g, n, none⟩ (.bool true)) b t s2 := fun k n =>
      ⟨Blk.other (Blk.other r3.blk _ _ (by omega)) _ _ (by omega), r3.fits, r3.small⟩
    -- a byte's truth is laid, the kind being set or not
    have fin1 : ∀ (n : Nat), n < 256 → plainR t c (s2, ps) = pushP { kind := 1, ins := one n } (s2, ps) → RMem w (w3.setCell ⟨g, n, none⟩ (.bool true)) b t adrs F (plainR t c (s2, ps)) (.pointer (some ⟨g + 1, 0, none⟩)) := by
      intro n hn e
      rw [e]
      exact leaf_mem (g := g) h ⟨Blk.other r3.blk _ _ (by omega), r3.fits, r3.small⟩ (k4.setCell (Or.inr (by show w.heap.size ≤ g; omega)) _) ⟨rfl, by show (1 : Int) ≤ 3; decide, rfl, rfl⟩ (by omega) (by omega)
        (Blk.other ba _ _ (by omega)) (by have := bg.set n (.bool true); rwa [boolCells_set _ (one n) n (one_set rfl rfl)] at this)
    have fin2 : ∀ (n : Nat) (k : Int), n < 256 → k ≤ 3 → plainR t c (s2, ps) = pushP { kind := k, ins := one n } (s2, ps) →
        RMem w ((w3.setCell ⟨g + 1, 0, none⟩ (.int .i64 k)).setCell ⟨g, n, none⟩ (.bool true)) b t adrs F (plainR t c (s2, ps)) (.pointer (some ⟨g + 1, 0, none⟩)) := by
      intro n k hn hk e
      rw [e]
      exact leaf_mem (g := g) h (hrr k n) ((k4.setCell (Or.inr (by show w.heap.size ≤ g + 1; omega)) _).setCell (Or.inr (by show w.heap.size ≤ g; omega)) _) ⟨rfl, hk, rfl, rfl⟩ (by omega) (by omega)
        (Blk.other (ba.set 0 _) _ _ (by omega)) (by have := (Blk.other bg 0 (.int .i64 k) (show g ≠ g + 1 by omega)).set n (.bool true); rwa [boolCells_set _ (one n) n (one_set rfl rfl)] at this)
    have fin1H : Hid (∀ (n : Nat), _) := fin1
    have fin2H : Hid (∀ (n : Nat) (k : Int), _) := fin2
    have cell1H : Hid (∀ (n : Nat), _) := cell1
    clear hrr fin1 fin2 cell1
    by_cases c1 : c = 91
    · subst c1
      have e : Hid (plainR t 91 (s2, ps) = _) := show plainR t 91 (s2, ps) = pushP { kind := 1, ins := (itemsR t (takeS t 94 s2).2 (fun _ => false)).2, neg := (takeS t 94 s2).1 } ((itemsR t (takeS t 94 s2).2 (fun _ => false)).1, ps) from rfl
      go_wp2_with fail
      refine (rlist_any b (g + 1) g t s2 _ r3 ba bg (by omega) (by omega) (by omega)).mono ?_
      rintro e5 w5 ⟨rfl, m5⟩
      go_wp2
      go_ret
      refine ⟨_, _, rfl, ev.out, ?_, ?_⟩
      · show RMem w w5 b t adrs F (plainR t 91 (s2, ps)) _
        rw [e.out]
        exact leaf_mem (g := g) h m5.rr (kept_drop k4 m5.kept (by omega) (by omega)) ⟨rfl, by show (1 : Int) ≤ 3; decide, rfl, rfl⟩ (by omega) (by omega) m5.part m5.ins
      · show s.1 < (plainR t 91 (s2, ps)).2.1.1
        rw [e.out]
        exact Nat.lt_of_lt_of_le hprog (Nat.le_trans take_ge itemsR_ge)
    by_cases c2 : c = 94
    · subst c2
      have m := fin2H.out 94 2 (by omega) (by omega) rfl
      obtain ⟨d1, d2⟩ := cell1H.out 94 (by omega)
      have m : Hid (RMem _ _ _ _ _ _ _ _) := m
      go_wp2
      go_ret
      exact ⟨_, _, rfl, ev.out, m.out, hprog⟩
    by_cases c3 : c = 36
    · subst c3
      have m := fin2H.out 36 3 (by omega) (by omega) rfl
      obtain ⟨d1, d2⟩ := cell1H.out 36 (by omega)
      have m : Hid (RMem _ _ _ _ _ _ _ _) := m
      go_wp2
      go_ret
      exact ⟨_, _, rfl, ev.out, m.out, hprog⟩
    by_cases c4 : c = 46
    · subst c4
      have m : RMem w (w3.setCell ⟨g + 1, 2, none⟩ (.bool true)) b t adrs F (plainR t 46 (s2, ps)) (.pointer (some ⟨g + 1, 0, none⟩)) := by
        show RMem w _ b t adrs F (pushP { kind := 1, neg := true } (s2, ps)) _
        exact leaf_mem (g := g) h ⟨Blk.other r3.blk _ _ (by omega), r3.fits, r3.small⟩ (k4.setCell (Or.inr (by show w.heap.size ≤ g + 1; omega)) _) ⟨rfl, by show (1 : Int) ≤ 3; decide, rfl, rfl⟩ (by omega) (by omega)
          (ba.set 2 _) (Blk.other bg _ _ (by omega))
      have m : Hid (RMem _ _ _ _ _ _ _ _) := m
      go_wp2
      go_ret
      exact ⟨_, _, rfl, ev.out, m.out, hprog⟩
    by_cases c5 : c = 92
    · subst c5
      have bd2 := tk_bd t s2
      go_wp2_with fail
      refine (rtake_any b t _ _ r3).mono ?_
      generalize hdd : (tkS t s2) = d at *
      obtain ⟨d, s4⟩ := d
      simp only [] at bd2
      obtain ⟨n, rfl⟩ := Int.eq_ofNat_of_zero_le bd2.1
      rintro e6 w5 ⟨rfl, r5, k5⟩
      have hn : n < 256 := by omega
      have bg5 := bg.kept k5 (by simp; omega)
      have ba5 := ba.kept k5 (by simp; omega)
      have d1 : w5.cell? ⟨g, n, none⟩ = some (.bool false) := by rw [bg5.cell, boolCells_get _ hn]
      have d2 := bg5.frozen n
      have d3 := ba5.cell 1
      have hge := tk_ge (t := t) (s := s2)
      rw [hdd] at hge
      have m : RMem w (w5.setCell ⟨g, n, none⟩ (.bool true)) b t adrs F (pushP { kind := 1, ins := one n } (s4, ps)) (.pointer (some ⟨g + 1, 0, none⟩)) :=
        leaf_mem (g := g) h ⟨Blk.other r5.blk _ _ (by omega), r5.fits, r5.small⟩ ((k4.trans k5).setCell (Or.inr (by show w.heap.size ≤ g; omega)) _) ⟨rfl, by show (1 : Int) ≤ 3; decide, rfl, rfl⟩ (by omega) (by omega)
          (Blk.other ba5 _ _ (by omega)) (by have := bg5.set n (.bool true); rwa [boolCells_set _ (one n) n (one_set rfl rfl)] at this)
      have e : Hid (plainR t 92 (s2, ps) = pushP { kind := 1, ins := one n } (s4, ps)) := by
        show pushP { kind := 1, ins := one (tkS t s2).1 } ((tkS t s2).2, ps) = _
        rw [hdd]
      have m : Hid (RMem _ _ _ _ _ _ _ _) := m
      clear hdd
      go_wp2
      go_ret
      refine ⟨_, _, rfl, ev.out, ?_, ?_⟩
      · show RMem w _ b t adrs F (plainR t 92 (s2, ps)) _
        rw [e.out]; exact m.out
      · show s.1 < (plainR t 92 (s2, ps)).2.1.1
        rw [e.out]
        exact Nat.lt_of_lt_of_le hprog hge
    · have e1 := beq_eq_false_iff_ne.2 c1
      have e2 := beq_eq_false_iff_ne.2 c2
      have e3 := beq_eq_false_iff_ne.2 c3
      have e4 := beq_eq_false_iff_ne.2 c4
      have e5 := beq_eq_false_iff_ne.2 c5
      obtain ⟨n, rfl⟩ := Int.eq_ofNat_of_zero_le hcbd.1
      have m := fin1H.out n (by omega) (by unfold plainR; rw [if_neg c1, if_neg c2, if_neg c3, if_neg c4, if_neg c5])
      obtain ⟨d1, d2⟩ := cell1H.out n (by omega)
      have m : Hid (RMem _ _ _ _ _ _ _ _) := m
      have hn : n < 256 := by omega
      have hpr : s.1 < (plainR t (n : Int) (s2, ps)).2.1.1 := by unfold plainR; rw [if_neg c1, if_neg c2, if_neg c3, if_neg c4, if_neg c5]; exact hprog
      clear c1 c2 c3 c4 c5
      go_wp2
      go_ret
      exact ⟨_, _, rfl, ev.out, m.out, hpr⟩

end Go.Proofs.Ytgifhgnccmnbiaa
