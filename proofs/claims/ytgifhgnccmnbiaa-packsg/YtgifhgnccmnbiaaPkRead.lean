/- Package packed: the reader of files of rules, its small functions. -/
import Derived.Test.YtgifhgnccmnbiaaPkAdd2
set_option linter.unusedVariables false
set_option linter.unusedSimpArgs false
namespace Go.Proofs.Ytgifhgnccmnbiaa
open Go.RowKit Go.IntWalk

/-- The byte at a place; 0 behind the last one. -/
def bt (f : ByteArray) (i : Nat) : Nat := if h : i < f.size then f[i].toNat else 0
theorem bt_lt {f : ByteArray} {i : Nat} (h : i < f.size) : bt f i = f[i].toNat := dif_pos h
theorem bt_bd (f : ByteArray) (i : Nat) : bt f i < 256 := by
  unfold bt; split
  · exact f[i].toNat_lt
  · omega

def RG (w : World) (b : Nat) (f : ByteArray) (s : RS) : Prop := Blk w b #[.string f, .int .i64 (s.1 : Int), .bool s.2] 169
def nextG (f : ByteArray) (s : RS) : Nat × RS := if s.1 < f.size then (bt f s.1, (s.1 + 1, s.2)) else (0, (s.1, true))
/-- A number of so many bytes, the low one first. -/
def numG (f : ByteArray) (s : RS) : Nat → Nat × RS
  | 0 => (0, s)
  | i + 1 => ((numG f s i).1 + (nextG f (numG f s i).2).1 * 256 ^ i, (nextG f (numG f s i).2).2)
def countG (f : ByteArray) (bytes most : Nat) (s : RS) : Nat × RS := if most < (numG f s bytes).1 then (0, ((numG f s bytes).2.1, true)) else numG f s bytes
theorem nextG_ge (f : ByteArray) (s : RS) : s.1 ≤ (nextG f s).2.1 ∧ (nextG f s).2.1 ≤ s.1 + 1 := by unfold nextG; split <;> simp

set_option maxHeartbeats 1000000 in
set_option maxRecDepth 100000 in
theorem rnext_any (w : World) (b : Nat) (f : ByteArray) (s : RS) (h : RG w b f s) (hf : f.size ≤ 100000) (hs : s.1 ≤ 100000) :
    Calls Try.prog 154 #[.pointer (some ⟨b, 0, none⟩)] w fun e w' => e = .returned (.int .i64 ((nextG f s).1 : Int)) ∧ RG w' b f (nextG f s).2 ∧ Kept [b] w w' := by
  obtain ⟨p, bad⟩ := s
  have c0 : w.cell? ⟨b, 0, none⟩ = some (.string f) := h.cell 0
  have c1 : w.cell? ⟨b, 1, none⟩ = some (.int .i64 (p : Int)) := h.cell 1
  have c2 : w.cell? ⟨b, 2, none⟩ = some (.bool bad) := h.cell 2
  have f1 : w.frozen? ⟨b, 1, none⟩ = false := h.frozen 1
  have f2 : w.frozen? ⟨b, 2, none⟩ = false := h.frozen 2
  simp only [] at hs
  have g0 : ¬ (p : Int) < 0 := by omega
  by_cases hp : p < f.size
  · have e : nextG f (p, bad) = (f[p].toNat, (p + 1, bad)) := by unfold nextG; rw [if_pos hp, bt_lt hp]
    rw [e]
    have hH : Hid (RG w b f (p, bad)) := h
    have g1 : ¬ (f.size : Int) ≤ (p : Int) := by omega
    have g2 : (p : Int) < (f.size : Int) := by omega
    clear h e
    go_enter Try.func154, Try.ntmps154
    go_wp2_with fail
    go_quiet (fail)
    go_wp2_with fail
    go_quiet (fail)
    go_wp2
    go_ret
    exact ⟨ret_int (by have := f[p].toNat_lt; exact wrap64_in _ (by omega)), Blk.set hH.out 1 _, ((Kept.refl [b] w).drewN _).setCell (p := ⟨b, 1, none⟩) (by simp) _⟩
  · have e : nextG f (p, bad) = (0, (p, true)) := by unfold nextG; rw [if_neg hp]
    rw [e]
    have hH : Hid (RG w b f (p, bad)) := h
    have g1 : (f.size : Int) ≤ (p : Int) := by omega
    clear h e
    go_enter Try.func154, Try.ntmps154
    go_wp2_with fail
    go_quiet (fail)
    go_wp2
    go_ret
    exact ⟨rfl, Blk.set hH.out 2 _, ((Kept.refl [b] w).drewN _).setCell (p := ⟨b, 2, none⟩) (by simp) _⟩

theorem nextG_lt (f : ByteArray) (s : RS) : (nextG f s).1 < 256 := by
  unfold nextG; split
  · exact bt_bd f s.1
  · omega

theorem numG_ge (f : ByteArray) (s : RS) : ∀ i, s.1 ≤ (numG f s i).2.1 ∧ (numG f s i).2.1 ≤ s.1 + i
  | 0 => ⟨Nat.le_refl _, Nat.le_refl _⟩
  | i + 1 => by
    have h1 := numG_ge f s i
    have h2 := nextG_ge f (numG f s i).2
    show s.1 ≤ (nextG f (numG f s i).2).2.1 ∧ (nextG f (numG f s i).2).2.1 ≤ s.1 + (i + 1)
    omega
theorem numG_two_lt (f : ByteArray) (s : RS) : (numG f s 1).1 < 256 ∧ (numG f s 2).1 < 65536 := by
  have h1 := nextG_lt f s
  have h2 := nextG_lt f (nextG f s).2
  have e1 : (numG f s 1).1 = 0 + (nextG f s).1 * 256 ^ 0 := rfl
  have e2 : (numG f s 2).1 = (0 + (nextG f s).1 * 256 ^ 0) + (nextG f (nextG f s).2).1 * 256 ^ 1 := rfl
  rw [e1, e2]
  omega

set_option maxHeartbeats 1000000 in
set_option maxRecDepth 100000 in
theorem rnumber_any (w : World) (b : Nat) (f : ByteArray) (s : RS) (h : RG w b f s) (hf : f.size ≤ 100000) (hs : s.1 ≤ 99000) (n : Nat) (hn : n = 1 ∨ n = 2) :
    Calls Try.prog 139 #[.pointer (some ⟨b, 0, none⟩), .int .i64 (n : Int)] w fun e w' => e = .returned (.int .i64 ((numG f s n).1 : Int)) ∧ RG w' b f (numG f s n).2 ∧ Kept [b] w w' := by
  have hx : Hid (∀ w s, RG w b f s → s.1 ≤ 100000 → Calls _ _ _ w _) := fun w s h hs => rnext_any w b f s h hf hs
  have hnH : Hid (n = 1 ∨ n = 2) := hn
  clear hn
  go_enter Try.func139, Try.ntmps139
  go_wp2_with fail
  go_loopw [5, 6] (fun nv iv wr => ∃ q : Nat, iv = .int .i64 (q : Int) ∧ q ≤ n ∧ nv = .int .i64 ((numG f s q).1 : Int) ∧ RG wr b f (numG f s q).2 ∧ Kept [b] w wr) (fun _ iv _ => ((n : Int) - intOf iv).toNat)
  case atStart => exact ⟨0, rfl, Nat.zero_le _, rfl, h, Kept.refl _ _⟩
  case round =>
    obtain ⟨q, rfl, hq, rfl, hr, hk⟩ := hrel
    clear h
    by_cases hlt : (q : Int) < (n : Int)
    · have hq2 : q = 0 ∨ q = 1 := by have := hnH.out; omega
      have hge := (numG_ge f s q).2
      have hc : Hid (Calls _ _ _ _ _) := hx.out _ _ hr (by omega)
      have hb := nextG_lt f (numG f s q).2
      have hacc : (numG f s q).1 < 65536 := by
        have := numG_two_lt f s
        rcases hq2 with rfl | rfl
        · show 0 < 65536; omega
        · omega
      have e1 : Hid (numG f s (q + 1) = ((numG f s q).1 + (nextG f (numG f s q).2).1 * 256 ^ q, (nextG f (numG f s q).2).2)) := rfl
      generalize (numG f s q).1 = A at *
      generalize nextG f (numG f s q).2 = N at *
      obtain ⟨c, s2⟩ := N
      simp only [] at hb
      clear hx hr hge
      rcases hq2 with rfl | rfl
      · go_wp2_with fail
        refine hc.out.mono ?_
        rintro e w2 ⟨rfl, r2, k2⟩
        have k2 : Hid (Kept _ _ _) := hk.trans k2
        have r2 : Hid (RG _ _ _ _) := r2
        clear hk hc
        go_wp2
        refine ⟨⟨1, rfl, by omega, by rw [e1.out]; simp only [Nat.pow_zero, Nat.mul_one, Int.natCast_add], by rw [e1.out]; exact r2.out, k2.out⟩, ?_⟩
        simp only [intOf]; omega
      · go_wp2_with fail
        refine hc.out.mono ?_
        rintro e w2 ⟨rfl, r2, k2⟩
        have k2 : Hid (Kept _ _ _) := hk.trans k2
        have r2 : Hid (RG _ _ _ _) := r2
        clear hk hc
        go_wp2
        refine ⟨⟨2, rfl, by omega, by rw [e1.out]; simp only [Nat.pow_one, Int.natCast_add, Int.natCast_mul]; rfl, by rw [e1.out]; exact r2.out, k2.out⟩, ?_⟩
        simp only [intOf]; omega
    · have hqn : q = n := by omega
      subst hqn
      have hk : Hid (Kept _ _ _) := hk
      have hr : Hid (RG _ _ _ _) := hr
      clear hx
      go_wp2
      go_ret
      exact ⟨rfl, hr.out, hk.out⟩

theorem RG.mark {w : World} {b : Nat} {f : ByteArray} {s : RS} (h : RG w b f s) : RG (w.setCell ⟨b, 2, none⟩ (.bool true)) b f (s.1, true) := h.set 2 _
theorem countG_ge (f : ByteArray) (n m : Nat) (s : RS) : s.1 ≤ (countG f n m s).2.1 ∧ (countG f n m s).2.1 ≤ s.1 + n := by
  have := numG_ge f s n
  unfold countG; split
  · exact this
  · exact this
theorem countG_le (f : ByteArray) (n m : Nat) (s : RS) : (countG f n m s).1 ≤ m := by
  unfold countG; split
  · omega
  · rename_i h; omega

set_option maxHeartbeats 1000000 in
set_option maxRecDepth 100000 in
theorem rcount_any (w : World) (b : Nat) (f : ByteArray) (s : RS) (h : RG w b f s) (hf : f.size ≤ 100000) (hs : s.1 ≤ 99000) (n : Nat) (hn : n = 1 ∨ n = 2) (m : Nat) (hm : m ≤ 100000) :
    Calls Try.prog 104 #[.pointer (some ⟨b, 0, none⟩), .int .i64 (n : Int), .int .i64 (m : Int)] w fun e w' => e = .returned (.int .i64 ((countG f n m s).1 : Int)) ∧ RG w' b f (countG f n m s).2 ∧ Kept [b] w w' := by
  have hx : Hid (Calls _ _ _ w _) := rnumber_any w b f s h hf hs n hn
  have hlt : (numG f s n).1 < 65536 := by
    have := numG_two_lt f s
    rcases hn with rfl | rfl <;> omega
  unfold countG
  generalize numG f s n = N at *
  obtain ⟨c, s2⟩ := N
  simp only [] at hlt hx ⊢
  clear h hn
  by_cases hc : (m : Int) < (c : Int)
  · rw [if_pos (by omega)]
    go_enter Try.func104, Try.ntmps104
    go_wp2_with fail
    refine hx.out.mono ?_
    rintro e w2 ⟨rfl, r2, k2⟩
    have c2 : w2.cell? ⟨b, 2, none⟩ = some (.bool s2.2) := r2.cell 2
    have f2 : w2.frozen? ⟨b, 2, none⟩ = false := r2.frozen 2
    have hR : Hid (RG _ _ _ _) := r2.mark
    have hK : Hid (Kept [b] w (w2.setCell ⟨b, 2, none⟩ (.bool true))) := k2.setCell (by simp) _
    clear r2 k2 hx
    go_wp2
    go_ret
    exact ⟨rfl, hR.out, hK.out⟩
  · rw [if_neg (by omega)]
    go_enter Try.func104, Try.ntmps104
    go_wp2_with fail
    refine hx.out.mono ?_
    rintro e w2 ⟨rfl, r2, k2⟩
    have hR : Hid (RG _ _ _ _) := r2
    have hK : Hid (Kept _ _ _) := k2
    clear r2 k2 hx
    go_wp2
    go_ret
    exact ⟨rfl, hR.out, hK.out⟩

set_option maxHeartbeats 1000000 in
set_option maxRecDepth 100000 in
theorem rsymbol_any (w : World) (b : Nat) (f : ByteArray) (s : RS) (h : RG w b f s) (hf : f.size ≤ 100000) (hs : s.1 ≤ 99000) (r : Nat) (hr : r ≤ 1000) :
    Calls Try.prog 105 #[.pointer (some ⟨b, 0, none⟩), .int .i64 (r : Int)] w fun e w' => e = .returned (.int .i64 ((countG f 2 (255 + r) s).1 : Int)) ∧ RG w' b f (countG f 2 (255 + r) s).2 ∧ Kept [b] w w' := by
  have hx := rcount_any w b f s h hf hs 2 (Or.inr rfl) (255 + r) (by omega)
  have e : ((255 + r : Nat) : Int) = 256 + (r : Int) - 1 := by omega
  rw [e] at hx
  have hx : Hid (Calls _ _ _ _ _) := hx
  generalize countG f 2 (255 + r) s = N at *
  clear e h
  go_enter Try.func105, Try.ntmps105
  go_wp2_with fail
  refine hx.out.mono ?_
  rintro e w2 ⟨rfl, r2, k2⟩
  have hR : Hid (RG _ _ _ _) := r2
  have hK : Hid (Kept _ _ _) := k2
  clear r2 k2 hx
  go_wp2
  go_ret
  exact ⟨rfl, hR.out, hK.out⟩

end Go.Proofs.Ytgifhgnccmnbiaa
