/- The reader of patterns: Read; package sift: Check. -/
import Derived.Test.YtgifhgnccmnbiaaParse
set_option linter.unusedVariables false
set_option linter.unusedSimpArgs false
namespace Go.Proofs.Ytgifhgnccmnbiaa
open Go.RowKit Go.IntWalk

/-- The text as it begins. -/
def st0 : PS := ((0, false), [])
/-- Not read from its first byte to its last. -/
def BadR (t : ByteArray) (r : Nat × PS) : Prop := r.2.1.2 = true ∨ r.2.1.1 < t.size

def ReadOut (t : ByteArray) (w w' : World) (e : Ending) : Prop :=
  Below w.heap.size w w' ∧ ∃ r : Nat × PS, Ev t 0 0 st0 r ∧ r.1 < r.2.2.length ∧
    ((BadR t r ∧ e = .returned (.tuple #[.agg #[.slice none 0 0, .int .i64 0], .int .i64 2])) ∨
     (¬ BadR t r ∧ 60 < sizeAt r.2.2 r.1 ∧ e = .returned (.tuple #[.agg #[.slice none 0 0, .int .i64 0], .int .i64 3])) ∨
     (¬ BadR t r ∧ sizeAt r.2.2 r.1 ≤ 60 ∧ ∃ b ao n c xs, w.heap.size ≤ b ∧ NV w' b t r.2.1 r.2.2 (.slice ao n c) xs ∧ e = .returned (.tuple #[.agg #[.slice ao n c, .int .i64 (sizeAt r.2.2 r.1)], .int .i64 0])))

theorem NV.start (w : World) (t : ByteArray) (h : t.size ≤ 40) (k : Nat) (hk : k = w.heap.size) : NV (w.alloc (.cells #[.string t, .int .i64 0, .slice none 0 0, .bool false] 103)) k t (0, false) [] (.slice none 0 0) [] := by
  subst hk
  exact ⟨⟨Blk.new _ _ _, Nat.zero_le _, h⟩, World.ownsRow_nil _ _ _ _, rfl, fun i n x hn => by simp at hn, fun n hn => by simp at hn⟩

set_option maxHeartbeats 1000000 in
theorem read_long (t : ByteArray) (w : World) (h : 40 < t.size) (hs : t.size ≤ maxLen) :
    Calls Try.prog 40 #[.string t] w fun e w' => e = .returned (.tuple #[.agg #[.slice none 0 0, .int .i64 0], .int .i64 3]) ∧ Below w.heap.size w w' := by
  unfold maxLen at hs
  go_enter Try.func40, Try.ntmps40
  go_wp2
  refine bodyPost_ret (v := .tuple #[.agg #[.slice none 0 0, .int .i64 0], .int .i64 3]) (by simp [results, Try.results40, go_sem]) rfl ⟨rfl, ?_⟩
  exact (Below.refl _ _).alloc (Nat.le_refl _) _

/-- The result's own block, behind its two stores. -/
theorem res_two {w x : World} {T : TypeId} {c0 c1 : Value} (h : Blk x w.heap.size #[c0, c1] T) (hb : Below w.heap.size w x) (u0 u1 : Value) :
    ((x.setCell ⟨w.heap.size, 0, none⟩ u0).setCell ⟨w.heap.size, 1, none⟩ u1).cell? ⟨w.heap.size, 0, none⟩ = some u0 ∧
    ((x.setCell ⟨w.heap.size, 0, none⟩ u0).setCell ⟨w.heap.size, 1, none⟩ u1).cell? ⟨w.heap.size, 1, none⟩ = some u1 ∧
    Below w.heap.size w ((x.setCell ⟨w.heap.size, 0, none⟩ u0).setCell ⟨w.heap.size, 1, none⟩ u1) := by
  have h2 := (h.set 0 u0).set 1 u1
  refine ⟨by rw [h2.cell]; rfl, by rw [h2.cell]; rfl, (hb.setCell (Nat.le_refl _) _).setCell (Nat.le_refl _) _⟩

theorem NV.other {w : World} {b k : Nat} {t : ByteArray} {s : RS} {ns : List AN} {v : Value} {xs : List IV} (h : NV w b t s ns v xs) (hk : k < b) (j : Nat) (u : Value) : NV (w.setCell ⟨k, j, none⟩ u) b t s ns v xs := by
  have gr : w.grownBy (w.setCell ⟨k, j, none⟩ u) (some k) := ⟨rfl, rfl, rfl, by simp [World.setCell], fun i hi hne => Below.heap_setCell _ _ _ _ (by rintro rfl; exact hne rfl)⟩
  have keep : ∀ {e z m : Nat} {y : Value} {ys : List Value}, w.ownsRow (b + 1) e z y m ys → (w.setCell ⟨k, j, none⟩ u).ownsRow (b + 1) e z y m ys := fun {e z m y ys} hy => by
    refine hy.kept gr ?_
    cases hv : y.ownBlock with
    | none => exact Or.inl rfl
    | some g => refine Or.inr ?_; have := own_ge hy hv; simp; omega
  exact ⟨⟨Blk.other h.rd.blk _ _ (by omega), h.rd.fits, h.rd.small⟩, keep h.row, h.len, fun i n x a c => keep (h.items i n x a c), h.sized⟩

set_option maxHeartbeats 2000000 in
theorem read_any (t : ByteArray) (w : World) (h : t.size ≤ 40) :
    Calls Try.prog 40 #[.string t] w fun e w' => ReadOut t w w' e := by
  have hP : Hid (∀ (w1 : World) (k : Nat) (hk : NV w1 k t (0, false) [] (.slice none 0 0) []), _) := fun w1 k hk => pattern_any t (t.size + 1) k (0, false) [] (.slice none 0 0) [] w1 (by simp only []; omega) hk (by simp)
  have nv := fun o => NV.start (w.alloc o) t h (w.heap.size + 1) (by simp)
  have bz : ∀ o, Blk ((w.alloc (.cells #[.slice none 0 0, .int .i64 0] 57)).alloc o) w.heap.size #[.slice none 0 0, .int .i64 0] 57 := fun o => (Blk.new _ _ _).alloc o
  have bw : ∀ o1 o2, Below w.heap.size w ((w.alloc o1).alloc o2) := fun o1 o2 => ((Below.refl _ _).alloc (Nat.le_refl _) _).alloc (by simp) _
  go_enter Try.func40, Try.ntmps40
  go_wp2_with fail
  refine (hP.out _ _ (nv _)).mono ?_
  rintro e w1 ⟨r, rfl, o⟩
  obtain ⟨v1, xs1, n1⟩ := o.ns
  clear hP nv
  have blw : Below w.heap.size w w1 := (bw _ _).trans (o.bel.mono (by omega))
  have bl1 : Blk w1 w.heap.size #[.slice none 0 0, .int .i64 0] 57 := (o.bel.block w.heap.size (by omega)).trans (bz _)
  have hev := o.ev
  have hidx := o.idx
  have hcnt := o.cnt
  simp only [] at hcnt
  have hfit := n1.rd.fits
  simp only [Fits] at hfit
  clear bz bw o
  have c1 := n1.rd.c1
  by_cases hlt : r.2.1.1 < t.size
  · go_wp2_with fail
    refine (fail_any _ t _ v1 _ n1.rd).mono ?_
    rintro e w2 ⟨rfl, h2, k2⟩
    have d3 := h2.c3
    have bl2 := bl1.kept k2 (by simp)
    have blw2 : Below w.heap.size w w2 := blw.trans (k2.below (by have := n1.rd.blk.lt; omega) (by simp))
    have g0 := bl2.frozen 0
    have g1 := bl2.frozen 1
    have g2 := bl2.cell 0
    have g3 := bl2.cell 1
    obtain ⟨q0, q1, q2⟩ := res_two bl2 blw2 (.slice none 0 0) (.int .i64 0)
    clear bl1 bl2
    simp only [failS] at d3
    go_wp2
    refine bodyPost_ret (v := .tuple #[.agg #[.slice none 0 0, .int .i64 0], .int .i64 2]) (by simp [results, Try.results40, go_sem, q0, q1]) rfl ?_
    exact ⟨q2, r, hev, hidx, Or.inl ⟨Or.inr hlt, rfl⟩⟩
  have c3 := n1.rd.c3
  have g0 := bl1.frozen 0
  have g1 := bl1.frozen 1
  have g2 := bl1.cell 0
  have g3 := bl1.cell 1
  by_cases hbad : r.2.1.2 = true
  · obtain ⟨q0, q1, q2⟩ := res_two bl1 blw (.slice none 0 0) (.int .i64 0)
    clear bl1
    rw [hbad] at c3
    have hbad : Hid (r.2.1.2 = true) := hbad
    go_wp2
    refine bodyPost_ret (v := .tuple #[.agg #[.slice none 0 0, .int .i64 0], .int .i64 2]) (by simp [results, Try.results40, go_sem, q0, q1]) rfl ?_
    exact ⟨q2, r, hev, hidx, Or.inl ⟨Or.inl hbad.out, rfl⟩⟩
  have hnb : Hid (¬ BadR t r) := fun hc => by rcases hc with hc | hc; exact hbad hc; exact hlt hc
  have hbad : r.2.1.2 = false := by simpa using hbad
  rw [hbad] at c3
  clear hbad
  have hbd := sizeAt_bd n1.sized r.1
  have hsz : Hid (r.2.2.length ≤ 1000) := by show _ ≤ _; simp at hcnt; omega
  by_cases hbig : 60 < sizeAt r.2.2 r.1
  · obtain ⟨q0, q1, q2⟩ := res_two bl1 blw (.slice none 0 0) (.int .i64 0)
    clear bl1
    go_wp2_with fail
    refine (size_any _ r.1 t _ _ v1 xs1 _ n1 hidx hsz.out).mono ?_
    rintro e w2 ⟨rfl, rfl⟩
    go_wp2
    refine bodyPost_ret (v := .tuple #[.agg #[.slice none 0 0, .int .i64 0], .int .i64 3]) (by simp [results, Try.results40, go_sem, q0, q1]) rfl ?_
    exact ⟨q2, r, hev, hidx, Or.inr (Or.inl ⟨hnb.out, hbig, rfl⟩)⟩
  · obtain ⟨g, cap, rfl⟩ := own_form n1.row (by omega)
    have c2 := n1.rd.c2
    obtain ⟨q0, q1, q2⟩ := res_two bl1 blw (.slice (some ⟨g, 0, none⟩) r.2.2.length cap) (.int .i64 (sizeAt r.2.2 r.1))
    have n3 := (n1.other (k := w.heap.size) (by omega) 0 (.slice (some ⟨g, 0, none⟩) r.2.2.length cap)).other (k := w.heap.size) (by omega) 1 (.int .i64 (sizeAt r.2.2 r.1))
    clear bl1
    go_wp2_with fail
    refine (size_any _ r.1 t _ _ _ xs1 _ n1 hidx hsz.out).mono ?_
    rintro e w2 ⟨rfl, rfl⟩
    go_wp2
    refine bodyPost_ret (v := .tuple #[.agg #[.slice (some ⟨g, 0, none⟩) r.2.2.length cap, .int .i64 (sizeAt r.2.2 r.1)], .int .i64 0]) (by simp [results, Try.results40, go_sem, q0, q1]) rfl ?_
    exact ⟨q2, r, hev, hidx, Or.inr (Or.inr ⟨hnb.out, by omega, w.heap.size + 1, _, _, _, xs1, by omega, n3, rfl⟩)⟩

set_option maxHeartbeats 1000000 in
theorem check_long (t : ByteArray) (w : World) (h : 40 < t.size) (hs : t.size ≤ maxLen) :
    Calls Try.prog 15 #[.string t] w fun e w' => e = .returned (.tuple #[.int .i64 0, .int .i64 3]) ∧ Below w.heap.size w w' := by
  go_enter Try.func15, Try.ntmps15
  go_wp2_with fail
  refine (read_long t _ h hs).mono ?_
  rintro e w1 ⟨rfl, b1⟩
  go_wp2
  go_ret2
  exact ⟨rfl, b1.alloc b1.size _⟩

/-- What Check comes to. -/
def CheckOut (t : ByteArray) (w w' : World) (e : Ending) : Prop :=
  Below w.heap.size w w' ∧ ∃ r : Nat × PS, Ev t 0 0 st0 r ∧ r.1 < r.2.2.length ∧
    ((BadR t r ∧ e = .returned (.tuple #[.int .i64 0, .int .i64 2])) ∨
     (¬ BadR t r ∧ 60 < sizeAt r.2.2 r.1 ∧ e = .returned (.tuple #[.int .i64 0, .int .i64 3])) ∨
     (¬ BadR t r ∧ sizeAt r.2.2 r.1 ≤ 60 ∧ e = .returned (.tuple #[.int .i64 (sizeAt r.2.2 r.1), .int .i64 0])))

set_option maxHeartbeats 1000000 in
theorem check_any (t : ByteArray) (w : World) (h : t.size ≤ 40) :
    Calls Try.prog 15 #[.string t] w fun e w' => CheckOut t w w' e := by
  go_enter Try.func15, Try.ntmps15
  go_wp2_with fail
  refine (read_any t _ h).mono ?_
  rintro e w1 ⟨b1, r, hev, hidx, ⟨hb, rfl⟩ | ⟨hb, hz, rfl⟩ | ⟨hb, hz, b, ao, n, c, xs, hbb, hn, rfl⟩⟩
  · have hh : Hid (∀ o, CheckOut t w (w1.alloc o) (.returned (.tuple #[.int .i64 0, .int .i64 2]))) := fun o => ⟨b1.alloc b1.size o, r, hev, hidx, Or.inl ⟨hb, rfl⟩⟩
    clear hev hidx hb
    go_wp2
    go_ret2
    exact hh.out _
  · have hh : Hid (∀ o, CheckOut t w (w1.alloc o) (.returned (.tuple #[.int .i64 0, .int .i64 3]))) := fun o => ⟨b1.alloc b1.size o, r, hev, hidx, Or.inr (Or.inl ⟨hb, hz, rfl⟩)⟩
    clear hev hidx hb
    go_wp2
    go_ret2
    exact hh.out _
  · have hh : Hid (∀ o, CheckOut t w (w1.alloc o) (.returned (.tuple #[.int .i64 (sizeAt r.2.2 r.1), .int .i64 0]))) := fun o => ⟨b1.alloc b1.size o, r, hev, hidx, Or.inr (Or.inr ⟨hb, hz, rfl⟩)⟩
    clear hev hidx hb
    go_wp2
    go_ret2
    exact hh.out _

end Go.Proofs.Ytgifhgnccmnbiaa
