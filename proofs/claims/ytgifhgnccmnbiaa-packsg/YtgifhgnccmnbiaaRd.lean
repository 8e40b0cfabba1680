/- The reader of patterns: the reader's small functions: what each hands back, and where the reader then stands. -/
import Derived.Test.YtgifhgnccmnbiaaBase
import Derived.Test.YtgifhgnccmnbiaaRdPure
set_option linter.unusedVariables false
set_option linter.unusedSimpArgs false
namespace Go.Proofs.Ytgifhgnccmnbiaa
open Go.RowKit Go.IntWalk

/-- The reader behind a pointer: its text, its place and mark, its nodes. -/
structure RD (w : World) (b : Nat) (t : ByteArray) (s : RS) (v : Value) : Prop where
  blk : Blk w b #[.string t, .int .i64 (s.1 : Int), v, .bool s.2] 103
  fits : Fits t s
  small : t.size ≤ 40

section
variable {w w' : World} {b p : Nat} {t : ByteArray} {s : RS} {v : Value} {bad : Bool}
theorem RD.c0 (h : RD w b t s v) : w.cell? ⟨b, 0, none⟩ = some (.string t) := by rw [Blk.cell h.blk]; rfl
theorem RD.c1 (h : RD w b t s v) : w.cell? ⟨b, 1, none⟩ = some (.int .i64 (s.1 : Int)) := by rw [Blk.cell h.blk]; rfl
theorem RD.c2 (h : RD w b t s v) : w.cell? ⟨b, 2, none⟩ = some v := by rw [Blk.cell h.blk]; rfl
theorem RD.c3 (h : RD w b t s v) : w.cell? ⟨b, 3, none⟩ = some (.bool s.2) := by rw [Blk.cell h.blk]; rfl
theorem RD.f (h : RD w b t s v) (j : Nat) : w.frozen? ⟨b, j, none⟩ = false := Blk.frozen h.blk j
theorem RD.upto (h : RD w b t s v) (p : Nat) (hp : p ≤ t.size) : RD (w.setCell ⟨b, 1, none⟩ (.int .i64 (p : Int))) b t (p, s.2) v := ⟨Blk.set h.blk 1 _, hp, h.small⟩
theorem RD.mark (h : RD w b t s v) : RD (w.setCell ⟨b, 3, none⟩ (.bool true)) b t (s.1, true) v := ⟨Blk.set h.blk 3 _, h.fits, h.small⟩
theorem RD.kept {S : List Nat} (h : RD w b t s v) (k : Kept S w w') (hb : ¬ b ∈ S) : RD w' b t s v := ⟨Blk.kept h.blk k hb, h.fits, h.small⟩
end

set_option maxHeartbeats 400000 in
theorem peek_any (b k : Nat) (t : ByteArray) (s : RS) (v : Value) (w : World) (h : RD w b t s v) (hk : k ≤ 1) :
    Calls Try.prog 127 #[.pointer (some ⟨b, 0, none⟩), .int .i64 (k : Int)] w fun e w' => e = .returned (.int .i64 (pk t (s.1 + k))) ∧ w' = w := by
  have h0 := h.c0
  have h1 := h.c1
  have hp := h.fits
  have hs := h.small
  obtain ⟨p, bad⟩ := s
  simp only [Fits] at hp
  clear h
  by_cases hlt : p + k < t.size
  · go_enter Try.func127, Try.ntmps127
    go_wp2
    go_ret
    exact ⟨ret_int (by rw [pk_lt hlt]; have := t[p + k].toNat_lt; exact wrap64_in _ (by omega)), rfl⟩
  · go_enter Try.func127, Try.ntmps127
    go_wp2
    go_ret
    exact ⟨ret_int (by rw [pk_ge hlt]), rfl⟩

theorem peek0 (b : Nat) (t : ByteArray) (s : RS) (v : Value) (w : World) (h : RD w b t s v) :
    Calls Try.prog 127 #[.pointer (some ⟨b, 0, none⟩), .int .i64 0] w fun e w' => e = .returned (.int .i64 (pk t s.1)) ∧ w' = w := peek_any b 0 t s v w h (by omega)
theorem peek1 (b : Nat) (t : ByteArray) (s : RS) (v : Value) (w : World) (h : RD w b t s v) :
    Calls Try.prog 127 #[.pointer (some ⟨b, 0, none⟩), .int .i64 1] w fun e w' => e = .returned (.int .i64 (pk t (s.1 + 1))) ∧ w' = w := peek_any b 1 t s v w h (by omega)

set_option maxHeartbeats 400000 in
theorem fail_any (b : Nat) (t : ByteArray) (s : RS) (v : Value) (w : World) (h : RD w b t s v) :
    Calls Try.prog 61 #[.pointer (some ⟨b, 0, none⟩)] w fun e w' => e = .returned (.tuple #[]) ∧ RD w' b t (failS t) v ∧ Kept [b] w w' := by
  have h0 := h.c0
  have h1 := h.c1
  have h3 := h.c3
  have f1 := h.f 1
  have f3 := h.f 3
  have hs := h.small
  go_enter Try.func61, Try.ntmps61
  go_wp2
  go_end0
  exact ⟨rfl, h.mark.upto _ (Nat.le_refl _), ((Kept.refl _ _).setCell (by simp) _).setCell (by simp) _⟩

set_option maxHeartbeats 400000 in
theorem next_any (b : Nat) (t : ByteArray) (s : RS) (v : Value) (w : World) (h : RD w b t s v) :
    Calls Try.prog 156 #[.pointer (some ⟨b, 0, none⟩)] w fun e w' => e = .returned (.int .i64 (nextS t s).1) ∧ RD w' b t (nextS t s).2 v ∧ Kept [b] w w' := by
  have h1 := h.c1
  have f1 := h.f 1
  have hp := h.fits
  have hs := h.small
  simp only [Fits] at hp
  by_cases hn : pk t s.1 = -1
  · have hb : (pk t s.1 == -1) = true := by rw [hn]; rfl
    have e : nextS t s = (0, failS t) := if_pos hn
    rw [e]
    clear hn e
    go_enter Try.func156, Try.ntmps156
    go_wp2_with (first | (go_at_call 127; refine (peek0 b t s v _ h).mono ?_; rintro e w' ⟨rfl, rfl⟩) | (go_at_call 61; refine (fail_any b t s v _ h).mono ?_; rintro e w' ⟨rfl, h', k'⟩))
    go_ret
    exact ⟨rfl, h', k'⟩
  · have hb : (pk t s.1 == -1) = false := by simpa using hn
    have e : nextS t s = (pk t s.1, (s.1 + 1, s.2)) := if_neg hn
    have hl : s.1 < t.size := by rw [pk_none] at hn; omega
    rw [e]
    clear hn e
    go_enter Try.func156, Try.ntmps156
    go_wp2_with (first | (go_at_call 127; refine (peek0 b t s v _ h).mono ?_; rintro e w' ⟨rfl, rfl⟩))
    go_ret
    exact ⟨rfl, h.upto (s.1 + 1) (by omega), (Kept.refl _ _).setCell (by simp) _⟩

set_option maxHeartbeats 400000 in
theorem take_any (b : Nat) (c : Int) (t : ByteArray) (s : RS) (v : Value) (w : World) (h : RD w b t s v) (hc : 0 ≤ c) (hc' : c ≤ 255) :
    Calls Try.prog 89 #[.pointer (some ⟨b, 0, none⟩), .int .i64 c] w fun e w' => e = .returned (.bool (takeS t c s).1) ∧ RD w' b t (takeS t c s).2 v ∧ Kept [b] w w' := by
  have h1 := h.c1
  have f1 := h.f 1
  have hp := h.fits
  have hs := h.small
  simp only [Fits] at hp
  by_cases hn : pk t s.1 = c
  · have hb : (pk t s.1 != c) = false := by rw [hn]; simp
    have e : takeS t c s = (true, (s.1 + 1, s.2)) := if_pos hn
    have hl : s.1 < t.size := pk_some (by omega)
    rw [e]
    clear hn e
    go_enter Try.func89, Try.ntmps89
    go_wp2_with (first | (go_at_call 127; refine (peek0 b t s v _ h).mono ?_; rintro e w' ⟨rfl, rfl⟩))
    go_ret
    exact ⟨rfl, h.upto (s.1 + 1) (by omega), (Kept.refl _ _).setCell (by simp) _⟩
  · have hb : (pk t s.1 != c) = true := by simpa using hn
    have e : takeS t c s = (false, s) := if_neg hn
    rw [e]
    clear hn e
    go_enter Try.func89, Try.ntmps89
    go_wp2_with (first | (go_at_call 127; refine (peek0 b t s v _ h).mono ?_; rintro e w' ⟨rfl, rfl⟩))
    go_ret
    exact ⟨rfl, h, Kept.refl _ _⟩

end Go.Proofs.Ytgifhgnccmnbiaa
