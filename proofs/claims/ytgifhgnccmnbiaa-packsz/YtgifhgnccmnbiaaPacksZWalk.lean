/- Both sides of PackZ answer alike; the law PacksZ, walked. -/
import Derived.Test.YtgifhgnccmnbiaaRzSame
set_option linter.unusedVariables false
set_option linter.unusedSimpArgs false
namespace Go.Proofs.Ytgifhgnccmnbiaa
open Go.RowKit Go.IntWalk

theorem sim_zero (t : ByteArray) (wd : Nat) : Sim t wd 0 0 ⟨wd, 8, []⟩ ⟨[], [], 0, t⟩ := by
  refine ⟨fun _ => rfl, Nat.zero_le _, rfl, rfl, rfl, rfl, fun i y hy => by simp at hy, fun a b ha hb hab => ?_, by simp, rfl⟩
  have h1 : a < 256 := by unfold Num at ha; simp at ha; omega
  have h2 : b < 256 := by unfold Num at hb; simp at hb; omega
  unfold ntx at hab
  rw [if_pos h1, if_pos h2] at hab
  simpa using hab
theorem dinv_all {t : ByteArray} {wd M : Nat} (hon : ∀ i, i < M → (dit wd t i).x.size ≠ 0) : ∀ m, m ≤ M → DInv t m (dit wd t m)
  | 0, _ => ⟨rfl, Nat.le_refl _, Nat.le_refl _, Nat.le_refl _, fun c hc => by simp [dit] at hc⟩
  | m + 1, hm => (dinv_all hon m (by omega)).step (by have := hon m (by omega); omega)
theorem wfits {t : ByteArray} {wd : Nat} (hwd : 9 ≤ wd ∧ wd ≤ 12) (p a : Nat) (h : (wrun wd t p).2 = some a) : a < 2 ^ zwid wd (wrun wd t p).1.tab := (wrun_inv hwd p).fits hwd h
theorem sim_all {t : ByteArray} {wd M : Nat} (hwd : 9 ≤ wd ∧ wd ≤ 12) (hon : ∀ i, i < M → (dit wd t i).x.size ≠ 0) : ∀ m, m < M → ∃ q ws, Sim t wd m q ws (dit wd t m)
  | 0, _ => ⟨0, _, sim_zero t wd⟩
  | m + 1, hm => by
    obtain ⟨q, ws, h⟩ := sim_all hwd hon m (by omega)
    rcases h.next hwd (by have := hon m (by omega); omega) (wfits hwd) with ⟨q', ws', _, h'⟩ | ⟨h0, _⟩
    · exact ⟨q', ws', h'⟩
    · exact absurd h0 (hon (m + 1) hm)
theorem bytesB_two (l : List Nat) : (⟨#[83, 90]⟩ : ByteArray) ++ bytesB l = bytesB (83 :: 90 :: l) := by
  apply ByteArray.ext
  unfold bytesB
  rw [ByteArray.data_append]
  simp
theorem packs_same {t : ByteArray} {wd M : Nat} (hwd : 9 ≤ wd ∧ wd ≤ 12) (hon : ∀ i, i < M → (dit wd t i).x.size ≠ 0) (hoff : (dit wd t M).x.size = 0) :
    zfile wd t = bytesB ([83, 90, wd] ++ dbytes (dit wd t M).S (((dit wd t M).S.length + 7) / 8)) := by
  have hfin : (wfin wd (wrun wd t t.size)).V = wd + 256 * valB (dit wd t M).S ∧ (wfin wd (wrun wd t t.size)).K = 8 + (dit wd t M).S.length := by
    cases M with
    | zero =>
      have h0 : t.size = 0 := hoff
      rw [h0]
      exact ⟨rfl, rfl⟩
    | succ m =>
      obtain ⟨q, ws, h⟩ := sim_all hwd hon m (by omega)
      rcases h.next hwd (by have := hon m (by omega); omega) (wfits hwd) with ⟨q', ws', hq, h'⟩ | ⟨_, h1, h2⟩
      · have := h'.xsize
        have h3 : (dstep wd (dit wd t m)).x.size = 0 := hoff
        omega
      · exact ⟨h1, h2⟩
  have hbit := (dinv_all hon M (Nat.le_refl _)).bit
  unfold zfile
  rw [hfin.1, hfin.2, show (8 + (dit wd t M).S.length + 7) / 8 = ((dit wd t M).S.length + 7) / 8 + 1 by omega, digs_cons _ _ _ (by omega), ← dbytes_digs hbit, bytesB_two]
  rfl

set_option maxHeartbeats 1000000 in
set_option maxRecDepth 100000 in
theorem rpackZ_all (t : ByteArray) (ht : t.size ≤ maxLen) (wd : Int) (w : World) :
    Calls Try.prog 30 #[.string t, .int .i64 wd] w fun e w' => PackZOut t wd e ∧ Below w.heap.size w w' := by
  unfold maxLen at ht
  have hb : Hid (Below w.heap.size w w) := Below.refl _ _
  by_cases h1 : (600 : Int) < (t.size : Int)
  · go_enter Try.func30, Try.ntmps30
    go_wp2
    go_ret2
    exact ⟨Or.inl ⟨by omega, rfl⟩, hb.out⟩
  · have hs : Hid (t.size ≤ 600) := by show t.size ≤ 600; omega
    by_cases h2 : wd < 9
    · go_enter Try.func30, Try.ntmps30
      go_wp2
      go_ret2
      exact ⟨Or.inr (Or.inl ⟨hs.out, Or.inl h2, rfl⟩), hb.out⟩
    · by_cases h3 : 12 < wd
      · go_enter Try.func30, Try.ntmps30
        go_wp2
        go_ret2
        exact ⟨Or.inr (Or.inl ⟨hs.out, Or.inr h3, rfl⟩), hb.out⟩
      · obtain ⟨m, rfl⟩ : ∃ m : Nat, wd = (m : Int) := ⟨wd.toNat, by omega⟩
        have hm : 9 ≤ m ∧ m ≤ 12 := by omega
        refine (rpackZ_any t hs.out m hm w).mono ?_
        rintro e w' ⟨⟨M, h4, h5, he⟩, b⟩
        refine ⟨Or.inr (Or.inr ⟨hs.out, by omega, by omega, ?_⟩), b⟩
        rw [he, show ((m : Int)).toNat = m by omega, packs_same hm h4 h5]
theorem PackZOut.one {t : ByteArray} {wd : Int} {e e' : Ending} (h : PackZOut t wd e) (h' : PackZOut t wd e') : e = e' := by
  rcases h with ⟨a, rfl⟩ | ⟨a, b, rfl⟩ | ⟨a, b, c, rfl⟩ <;> rcases h' with ⟨a', rfl⟩ | ⟨a', b', rfl⟩ | ⟨a', b', c', rfl⟩ <;> first | rfl | omega
theorem PackZOut.form {t : ByteArray} {wd : Int} {e : Ending} (h : PackZOut t wd e) : ∃ (s : ByteArray) (c : Int), e = .returned (.tuple #[.string s, .int .i64 c]) := by
  rcases h with ⟨a, rfl⟩ | ⟨a, b, rfl⟩ | ⟨a, b, c, rfl⟩ <;> exact ⟨_, _, rfl⟩

set_option maxHeartbeats 4000000 in
set_option maxRecDepth 100000 in
theorem packsZ_any (t : ByteArray) (wd : Int) (w : World) (ht : t.size ≤ maxLen) (h1 : -9223372036854775808 ≤ wd) (h2 : wd ≤ 9223372036854775807) :
    Calls Try.prog 11 #[.string t, .int .i64 wd] w fun e w' => e = .returned (.bool true) ∧ Below w.heap.size w w' := by
  have h1 : Hid (Calls _ _ _ w _) := packZ_any t ht wd w
  have h2 : Hid (∀ w, Calls _ _ _ w _) := fun w => rpackZ_all t ht wd w
  go_enter Try.func11, Try.ntmps11
  go_wp2_with fail
  refine h1.out.mono ?_
  rintro e w1 ⟨ho, b1⟩
  obtain ⟨s, c, rfl⟩ := ho.form
  have hoH : Hid (PackZOut _ _ _) := ho
  have hB1 : Hid (Below w.heap.size w w1) := b1
  clear ho h1 b1
  go_wp2_with fail
  refine (h2.out _).mono ?_
  rintro e w2 ⟨hr, b2⟩
  have he := hoH.out.one hr
  subst he
  have hB2 : Hid (Below w.heap.size w w2) := hB1.out.trans (b2.mono hB1.out.size)
  clear hr hoH h2 hB1 b2
  go_wp2
  go_ret
  exact ⟨rfl, hB2.out⟩

end Go.Proofs.Ytgifhgnccmnbiaa
