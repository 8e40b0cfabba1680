/- The document's answer: a group; a piece. -/
import Derived.Test.YtgifhgnccmnbiaaRefAtom
set_option linter.unusedVariables false
set_option linter.unusedSimpArgs false
namespace Go.Proofs.Ytgifhgnccmnbiaa
open Go.RowKit Go.IntWalk

/-- The contract of a choice, where fewer than m bytes are left. -/
def RChC (t : ByteArray) (m : Nat) : Prop :=
  ∀ (b : Nat) (s : RS) (ps : List PN) (adrs : List Nat) (F : Nat → Prop) (w : World), t.size - s.1 < m → RM w b t s ps adrs F →
    Calls Try.prog 63 #[.pointer (some ⟨b, 0, none⟩)] w fun e w' => ∃ r pv, e = .returned pv ∧ EvR t 0 [] (s, ps) r ∧ RMem w w' b t adrs F r pv ∧ s.1 ≤ r.2.1.1

theorem RMem.scan {w w' w2 : World} {b : Nat} {t : ByteArray} {adrs : List Nat} {F : Nat → Prop} {r : Nat × RP} {pv : Value} {s' : RS} (h : RMem w w' b t adrs F r pv) (r2 : RR w2 b t s') (k : Kept [b] w' w2) :
    RMem w w2 b t adrs F (r.1, (s', r.2.2)) pv := by
  obtain ⟨⟨more, F', h1, h2, h3, h4⟩, h5, h6⟩ := h
  exact ⟨⟨more, F', h1.scan r2 k, h2, h3, h4⟩, h5.trans k, h6⟩
theorem RMem.from {w0 w w' : World} {b : Nat} {t : ByteArray} {adrs : List Nat} {F : Nat → Prop} {r : Nat × RP} {pv : Value} (h : RMem w w' b t adrs F r pv) (k : Kept [b] w0 w) : RMem w0 w' b t adrs F r pv := by
  obtain ⟨⟨more, F', h1, h2, h3, h4⟩, h5, h6⟩ := h
  exact ⟨⟨more, F', h1, h2, fun x hx => (h3 x hx).imp id (fun hx => Nat.le_trans k.size hx), h4⟩, k.trans h5, h6⟩
theorem RMem.rr {w w' : World} {b : Nat} {t : ByteArray} {adrs : List Nat} {F : Nat → Prop} {r : Nat × RP} {pv : Value} (h : RMem w w' b t adrs F r pv) : RR w' b t r.2.1 := by
  obtain ⟨⟨more, F', h1, _⟩, _⟩ := h; exact h1.rr
theorem RMem.ptr {w w' : World} {b : Nat} {t : ByteArray} {adrs : List Nat} {F : Nat → Prop} {r : Nat × RP} {pv : Value} (h : RMem w w' b t adrs F r pv) : ∃ x, pv = .pointer (some ⟨x, 0, none⟩) := by
  obtain ⟨⟨more, F', _, _, _, h4⟩, _⟩ := h; exact ⟨_, h4⟩

set_option maxHeartbeats 4000000 in
set_option maxRecDepth 100000 in
theorem ratom_group (m : Nat) (b : Nat) (t : ByteArray) (s : RS) (ps : List PN) (adrs : List Nat) (F : Nat → Prop) (w : World) (H : RChC t m) (h : RM w b t s ps adrs F) (hp : s.1 < t.size) (hpm : t.size - s.1 ≤ m) (hc : (tkS t (openR t s)).1 = 40) : RAtomC t b s ps adrs F w := by
  have ev : Hid (∀ r1, EvR t 0 [] ((tkS t (openR t s)).2, ps) r1 → EvR t 3 [] (s, ps) (closeR t r1)) := fun r1 h1 => EvR.group (st := (s, ps)) hc h1
  have hmk := make_bools
  have hb := h.rr.blk.lt
  have hprog : s.1 < (tkS t (openR t s)).2.1 := by
    have : (tkS t (openR t s)).2.1 = (openR t s).1 + 1 := by unfold tkS; rw [if_pos (by rw [openR_1]; exact hp)]
    rw [this, openR_1]; omega
  unfold RAtomC
  go_enter Try.func128, Try.ntmps128
  go_wp2_with fail
  refine (stands4 b t s _ h.rr).mono ?_
  rintro e w1 ⟨rfl, h1, k1⟩
  have c1 := h1.c1
  have f1 := h1.f 1
  go_upto_if 9 with fail
  go_cut [] (fun wx => RR wx b t (openR t s) ∧ Kept [b] w wx)
  case first =>
    go_wp2_with fail
    · have hq : stB t s [42, 43, 63, 123] = true := by assumption
      have e : Hid (openR t s = markS s) := if_pos hq
      go_meet
      rw [e.out]
      exact ⟨h1.mark, k1.setCell (by simp) _⟩
    · have hq : stB t s [42, 43, 63, 123] = false := by assumption
      have e : Hid (openR t s = s) := if_neg (by rw [hq]; decide)
      go_meet
      rw [e.out]
      exact ⟨h1, k1⟩
  case rest =>
    obtain ⟨r2, k2⟩ := hcut
    clear h1 k1 c1 f1
    go_wp2_with fail
    have hsz := k2.size
    have ra : ∀ o1 o2, RR ((wc.alloc o1).alloc o2) b t (openR t s) := fun o1 o2 => r2.kept (((Kept.refl [] wc).alloc o1).alloc o2) (by simp)
    have ka : ∀ o1 o2, Kept [b] w ((wc.alloc o1).alloc o2) := fun o1 o2 => (k2.alloc o1).alloc o2
    refine (rtake_any b t _ _ (ra _ _)).mono ?_
    rintro e w3 ⟨rfl, r3, k3⟩
    have bg : Blk w3 wc.heap.size (boolCells (fun _ => false)) 4 := Blk.kept ((Blk.new wc _ _).alloc _) k3 (by simp; omega)
    have ba : Blk w3 (wc.heap.size + 1) #[.int .i64 1, .slice (some ⟨wc.heap.size, 0, none⟩) 256 256, .bool false, .slice none 0 0, .int .i64 0, .int .i64 0] 160 := by
      have h0 := Blk.new (wc.alloc (.cells (boolCells (fun _ => false)) 4)) #[.int .i64 1, .slice (some ⟨wc.heap.size, 0, none⟩) 256 256, .bool false, .slice none 0 0, .int .i64 0, .int .i64 0] 160
      have e : (wc.alloc (.cells (boolCells (fun _ => false)) 4)).heap.size = wc.heap.size + 1 := by simp
      rw [e] at h0
      exact h0.kept k3 (by simp; omega)
    have k4 : Kept [b] w w3 := (ka _ _).trans k3
    clear k2 k3 ra ka r2
    have hbw : b < wc.heap.size := by omega
    obtain ⟨g, hg⟩ : ∃ g, g = wc.heap.size := ⟨_, rfl⟩
    rw [← hg] at bg ba hbw hsz ⊢
    have hm3 := h.scan r3 k4
    generalize hcc : (tkS t (openR t s)) = c at *
    obtain ⟨c, s2⟩ := c
    simp only [] at hc hprog r3 hm3
    subst hc
    have hH : Hid (Calls _ _ _ _ _) := H b s2 ps adrs F w3 (by omega) hm3
    clear hcc hg bg ba
    go_wp2_with fail
    refine hH.out.mono ?_
    clear hH
    rintro e4 w4 ⟨r, pv, rfl, ev4, m4, hge⟩
    obtain ⟨x, rfl⟩ := m4.ptr
    have rr4 := m4.rr
    cases hcl : (takeS t 41 r.2.1).1 with
    | true =>
      have e : Hid (closeR t r = (r.1, ((takeS t 41 r.2.1).2, r.2.2))) := by show closeR t r = _; unfold closeR; rw [if_pos hcl]
      go_wp2_with fail
      refine (rnext_any b 41 t _ _ rr4 (by omega) (by omega)).mono ?_
      rintro e5 w5 ⟨rfl, r5, k5⟩
      have m5 : Hid (RMem _ _ _ _ _ _ _ _) := (m4.scan r5 k5).from k4
      go_wp2
      go_ret
      refine ⟨closeR t r, _, rfl, ev.out r ev4, by rw [e.out]; exact m5.out, ?_⟩
      rw [e.out]
      exact Nat.lt_of_lt_of_le hprog (Nat.le_trans hge take_ge)
    | false =>
      have e : Hid (closeR t r = (r.1, (markS (takeS t 41 r.2.1).2, r.2.2))) := by show closeR t r = _; unfold closeR; rw [if_neg (by rw [hcl]; decide)]
      go_wp2_with fail
      refine (rnext_any b 41 t _ _ rr4 (by omega) (by omega)).mono ?_
      rintro e5 w5 ⟨rfl, r5, k5⟩
      have c5 := r5.c1
      have f5 := r5.f 1
      have m5 : Hid (RMem _ _ _ _ _ _ _ _) := (m4.scan (s' := markS (takeS t 41 r.2.1).2) (w2 := w5.setCell ⟨b, 1, none⟩ (.bool true)) r5.mark (k5.setCell (by simp) _)).from k4
      go_wp2
      go_ret
      refine ⟨closeR t r, _, rfl, ev.out r ev4, by rw [e.out]; exact m5.out, ?_⟩
      rw [e.out]
      exact Nat.lt_of_lt_of_le hprog (Nat.le_trans hge take_ge)

theorem ratom_any (m : Nat) (b : Nat) (t : ByteArray) (s : RS) (ps : List PN) (adrs : List Nat) (F : Nat → Prop) (w : World) (H : RChC t m) (h : RM w b t s ps adrs F) (hp : s.1 < t.size) (hpm : t.size - s.1 ≤ m) : RAtomC t b s ps adrs F w := by
  by_cases hc : (tkS t (openR t s)).1 = 40
  · exact ratom_group m b t s ps adrs F w H h hp hpm hc
  · exact ratom_plain b t s ps adrs F w h hp hc

end Go.Proofs.Ytgifhgnccmnbiaa
