/- The document's answer: its reader's small functions. -/
import Derived.Test.YtgifhgnccmnbiaaBase
import Derived.Test.YtgifhgnccmnbiaaRefPure
set_option linter.unusedVariables false
set_option linter.unusedSimpArgs false
namespace Go.Proofs.Ytgifhgnccmnbiaa
open Go.RowKit Go.IntWalk

/-- What is left of a text from a place on. -/
def sfx (t : ByteArray) (p : Nat) : ByteArray := t.extract p t.size
theorem sfx_size {t : ByteArray} {p : Nat} : (sfx t p).size = t.size - p := by simp [sfx, ByteArray.size_extract]
theorem sfx_get {t : ByteArray} {p k : Nat} (h : p + k < t.size) (h' : k < (sfx t p).size) : (sfx t p)[k] = t[p + k] := by
  simp only [sfx]
  rw [ByteArray.getElem_extract]
theorem sfx_sfx {t : ByteArray} {p : Nat} (h : p ≤ t.size) : (sfx t p).extract 1 (sfx t p).size = sfx t (p + 1) := by
  rw [sfx_size]
  unfold sfx
  rw [ByteArray.extract_extract]
  congr 1
  omega

/-- The document's reader behind a pointer. -/
structure RR (w : World) (b : Nat) (t : ByteArray) (s : RS) : Prop where
  blk : Blk w b #[.string (sfx t s.1), .bool s.2] 107
  fits : Fits t s
  small : t.size ≤ 40
section
variable {w w' : World} {b : Nat} {t : ByteArray} {s : RS}
theorem RR.c0 (h : RR w b t s) : w.cell? ⟨b, 0, none⟩ = some (.string (sfx t s.1)) := by rw [Blk.cell h.blk]; rfl
theorem RR.c1 (h : RR w b t s) : w.cell? ⟨b, 1, none⟩ = some (.bool s.2) := by rw [Blk.cell h.blk]; rfl
theorem RR.f (h : RR w b t s) (j : Nat) : w.frozen? ⟨b, j, none⟩ = false := Blk.frozen h.blk j
theorem RR.on (h : RR w b t s) (hp : s.1 < t.size) : RR (w.setCell ⟨b, 0, none⟩ (.string (sfx t (s.1 + 1)))) b t (s.1 + 1, s.2) := ⟨Blk.set h.blk 0 _, hp, h.small⟩
theorem RR.mark (h : RR w b t s) : RR (w.setCell ⟨b, 1, none⟩ (.bool true)) b t (s.1, true) := ⟨Blk.set h.blk 1 _, h.fits, h.small⟩
theorem RR.kept {S : List Nat} (h : RR w b t s) (k : Kept S w w') (hb : ¬ b ∈ S) : RR w' b t s := ⟨Blk.kept h.blk k hb, h.fits, h.small⟩
theorem RR.drewN (h : RR w b t s) (n : Nat) : RR (w.drewN n) b t s := ⟨h.blk, h.fits, h.small⟩
end

set_option maxHeartbeats 400000 in
theorem rtake_any (b : Nat) (t : ByteArray) (s : RS) (w : World) (h : RR w b t s) :
    Calls Try.prog 129 #[.pointer (some ⟨b, 0, none⟩)] w fun e w' => e = .returned (.int .u8 (tkS t s).1) ∧ RR w' b t (tkS t s).2 ∧ Kept [b] w w' := by
  have h0 := h.c0
  have f0 := h.f 0
  have h1 := h.c1
  have f1 := h.f 1
  by_cases hp : s.1 < t.size
  · have e : tkS t s = (pk t s.1, (s.1 + 1, s.2)) := if_pos hp
    have hz : (((sfx t s.1).size : Int) == 0) = false := by rw [sfx_size]; simp; omega
    have hl : 0 < (sfx t s.1).size := by rw [sfx_size]; omega
    have hg := sfx_get (t := t) (p := s.1) (k := 0) (by omega) hl
    have hx : Hid (_ = _) := sfx_sfx (t := t) (p := s.1) (by omega)
    have hon := h.on hp
    rw [e]
    clear e
    go_enter Try.func129, Try.ntmps129
    go_wp2
    rw [hx.out]
    go_ret
    exact ⟨by rw [pk_lt hp]; rfl, hon, (Kept.refl _ _).setCell (by simp) _⟩
  · have e : tkS t s = (0, (s.1, true)) := if_neg hp
    have hz : (((sfx t s.1).size : Int) == 0) = true := by rw [sfx_size]; simp; omega
    have hon := h.mark
    rw [e]
    clear e
    go_enter Try.func129, Try.ntmps129
    go_wp2
    go_ret
    exact ⟨rfl, hon, (Kept.refl _ _).setCell (by simp) _⟩

theorem byte_eq {t : ByteArray} {p : Nat} (h : p < t.size) (c : Int) : ((t[p].toNat : Int) == c) = (pk t p == c) := by rw [pk_lt h]

set_option maxHeartbeats 400000 in
theorem rnext_any (b : Nat) (c : Int) (t : ByteArray) (s : RS) (w : World) (h : RR w b t s) (hc : 0 ≤ c) (hc' : c ≤ 255) :
    Calls Try.prog 93 #[.pointer (some ⟨b, 0, none⟩), .int .u8 c] w fun e w' => e = .returned (.bool (takeS t c s).1) ∧ RR w' b t (takeS t c s).2 ∧ Kept [b] w w' := by
  have h0 := h.c0
  have f0 := h.f 0
  by_cases hn : pk t s.1 = c
  · have hp : s.1 < t.size := pk_some (by omega)
    have e : takeS t c s = (true, (s.1 + 1, s.2)) := if_pos hn
    have hl : 0 < (sfx t s.1).size := by rw [sfx_size]; omega
    have hg := sfx_get (t := t) (p := s.1) (k := 0) (by omega) hl
    have hb : ((t[s.1].toNat : Int) == c) = true := by rw [byte_eq hp, hn]; simp
    have hx : Hid (_ = _) := sfx_sfx (t := t) (p := s.1) (by omega)
    have hon := h.on hp
    rw [e]
    clear e hn
    go_enter Try.func93, Try.ntmps93
    go_wp2
    rw [hx.out]
    go_ret
    exact ⟨rfl, hon, (Kept.refl _ _).setCell (by simp) _⟩
  have e : takeS t c s = (false, s) := if_neg hn
  rw [e]
  clear e
  by_cases hp : s.1 < t.size
  · have hl : 0 < (sfx t s.1).size := by rw [sfx_size]; omega
    have hg := sfx_get (t := t) (p := s.1) (k := 0) (by omega) hl
    have hb : ((t[s.1].toNat : Int) == c) = false := by rw [byte_eq hp]; simpa using hn
    clear hn
    go_enter Try.func93, Try.ntmps93
    go_wp2
    go_ret
    exact ⟨rfl, h, Kept.refl _ _⟩
  · have hl : ¬ 0 < ((sfx t s.1).size : Int) := by rw [sfx_size]; omega
    clear hn
    go_enter Try.func93, Try.ntmps93
    go_wp2
    go_ret
    exact ⟨rfl, h, Kept.refl _ _⟩

theorem stB_snoc {t : ByteArray} {s : RS} {o : ByteArray} {k : Nat} (h : k < o.size) : stB t s (o.data.toList.take (k + 1)) = (stB t s (o.data.toList.take k) || (pk t s.1 == (o[k].toNat : Int))) := by
  rw [List.take_succ_eq_append_getElem (by simpa using h)]
  unfold stB
  rw [List.any_append]
  simp
  rfl
theorem stB_hit {t : ByteArray} {s : RS} {o : ByteArray} {k : Nat} (h : k < o.size) (hp : (pk t s.1 == (o[k].toNat : Int)) = true) : stB t s o.data.toList = true := by
  unfold stB
  rw [List.any_eq_true]
  exact ⟨o[k], List.getElem_mem (by simpa using h), hp⟩
theorem stB_none {t : ByteArray} {s : RS} {l : List UInt8} (h : ¬ s.1 < t.size) : stB t s l = false := by
  unfold stB
  rw [List.any_eq_false]
  intro c _
  rw [pk_ge h]
  simp

set_option maxHeartbeats 1000000 in
theorem stands_any (b : Nat) (t : ByteArray) (s : RS) (o : ByteArray) (w : World) (h : RR w b t s) (ho : o.size ≤ 10) :
    Calls Try.prog 91 #[.pointer (some ⟨b, 0, none⟩), .string o] w fun e w' => e = .returned (.bool (stB t s o.data.toList)) ∧ RR w' b t s ∧ Kept [b] w w' := by
  go_enter Try.func91, Try.ntmps91
  go_wp2_with fail
  go_loopw [5] (fun i wr => ∃ (k n : Nat), k ≤ o.size ∧ i = .int .i64 (k : Int) ∧ wr = w.drewN n ∧ stB t s (o.data.toList.take k) = false) (fun i _ => o.size - (intOf i).toNat)
  case atStart => exact ⟨0, 0, Nat.zero_le _, rfl, rfl, rfl⟩
  case round =>
    obtain ⟨k, n, hk, rfl, rfl, hs⟩ := hrel
    have hs : Hid (_ = _) := hs
    by_cases hlt : k < o.size
    · have h0 := h.c0
      by_cases hp : s.1 < t.size
      · have hl : (0 : Int) < ((sfx t s.1).size : Int) := by rw [sfx_size]; omega
        have hl' : 0 < (sfx t s.1).size := by omega
        have hg := sfx_get (t := t) (p := s.1) (k := 0) (by omega) hl'
        go_wp2_with fail
        go_quiet (fail)
        go_wp2
        · have hb : ((t[s.1].toNat : Int) == (o[k].toNat : Int)) = true := by assumption
          go_ret
          exact ⟨ret_bool (stB_hit hlt (by rw [← byte_eq hp]; exact hb)).symm, ⟨h.blk, h.fits, h.small⟩, ⟨rfl, rfl, rfl, Nat.le_refl _, fun _ _ _ => rfl⟩⟩
        · have hb : ((t[s.1].toNat : Int) == (o[k].toNat : Int)) = false := by assumption
          refine ⟨⟨k + 1, _, by omega, by go_num, rfl, ?_⟩, by simp [intOf]; omega⟩
          rw [stB_snoc hlt, hs.out, ← byte_eq hp, hb]; rfl
      · have hl : (sfx t s.1).size = 0 := by rw [sfx_size]; omega
        go_wp2_with fail
        go_quiet (fail)
        go_wp2
        refine ⟨⟨k + 1, _, by omega, by go_num, rfl, stB_none hp⟩, by simp [intOf]; omega⟩
    · have hk2 : k = o.size := by omega
      subst hk2
      have hfin : Hid (stB t s o.data.toList = false) := by
        have := hs.out
        rwa [List.take_of_length_le (by simp)] at this
      go_wp2
      go_ret
      exact ⟨ret_bool hfin.out.symm, ⟨h.blk, h.fits, h.small⟩, ⟨rfl, rfl, rfl, Nat.le_refl _, fun _ _ _ => rfl⟩⟩

theorem stands2 (b : Nat) (t : ByteArray) (s : RS) (a c : UInt8) (w : World) (h : RR w b t s) :
    Calls Try.prog 91 #[.pointer (some ⟨b, 0, none⟩), .string ⟨#[a, c]⟩] w fun e w' => e = .returned (.bool (stB t s [a, c])) ∧ RR w' b t s ∧ Kept [b] w w' := stands_any b t s _ w h (by simp [ByteArray.size])

end Go.Proofs.Ytgifhgnccmnbiaa
