/- The law Joined, walked. -/
import Derived.Test.YtgifhgnccmnbiaaKeepOpen
set_option linter.unusedVariables false
set_option linter.unusedSimpArgs false
namespace Go.Proofs.Ytgifhgnccmnbiaa
open Go.RowKit Go.IntWalk

theorem bytesB_app (l m : List Nat) : bytesB (l ++ m) = bytesB l ++ bytesB m := by
  apply ByteArray.ext
  unfold bytesB
  rw [ByteArray.data_append]
  simp
theorem bytesB_size (l : List Nat) : (bytesB l).size = l.length := by
  unfold bytesB
  simp [ByteArray.size]
theorem bytesB_get {l : List Nat} {i : Nat} (hb : ∀ c, c ∈ l → c < 256) (h : i < (bytesB l).size) : (bytesB l)[i].toNat = l.getD i 0 := by
  rw [← bytesN_get h, bytesN_B hb]
theorem cut_join (X : List Nat) {a b c : Nat} (h1 : a ≤ b) (h2 : b ≤ c) : cutX X a b 0 ++ cutX X b c 0 = cutX X a c 0 := by
  rw [cutX_whole, cutX_whole, cutX_whole]
  apply List.ext_getElem?
  intro i
  by_cases hi : i < ((X.take b).drop a).length
  · rw [List.getElem?_append_left hi]
    simp only [List.getElem?_drop, List.getElem?_take]
    simp only [List.length_drop, List.length_take] at hi
    rw [if_pos (by omega), if_pos (by omega)]
  · rw [List.getElem?_append_right (by omega)]
    simp only [List.length_drop, List.length_take] at hi ⊢
    simp only [List.getElem?_drop, List.getElem?_take]
    by_cases hx : b ≤ X.length
    · rw [show b + (i - (min b X.length - a)) = a + i by omega]
    · by_cases h3 : a + i < c
      · rw [if_pos h3, List.getElem?_eq_none (l := X) (i := a + i) (by omega)]
        split
        · rw [List.getElem?_eq_none (by omega)]
        · rfl
      · rw [if_neg h3]
        split
        · rw [List.getElem?_eq_none (by omega)]
        · rfl

/-- The bytes of the piece are the text's own, round and round. -/
structure Round (S t : ByteArray) (a : Nat) : Prop where
  get : ∀ i (h : i < S.size), ∃ hj : (a + i) % t.size < t.size, (S[i].toNat : Int) = (t[(a + i) % t.size].toNat : Int)

theorem round_of {t : ByteArray} {k a c : Nat} (hp : 1 ≤ t.size) (h1 : a ≤ c) (h2 : c ≤ 2 ^ k * t.size) : Round (bytesB (cutX (repL (bytesN t) (2 ^ k)) a c 0)) t a ∧ (bytesB (cutX (repL (bytesN t) (2 ^ k)) a c 0)).size = c - a := by
  have hl : (repL (bytesN t) (2 ^ k)).length = 2 ^ k * t.size := by rw [repL_len, bytesN_len]
  have hn : (cutX (repL (bytesN t) (2 ^ k)) a c 0).length = c - a := by
    rw [cutX_whole, List.length_drop, List.length_take, hl, Nat.min_eq_left h2]
  refine ⟨⟨fun i hi => ⟨Nat.mod_lt _ (by omega), ?_⟩⟩, by rw [bytesB_size, hn]⟩
  have hi2 : i < c - a := by rw [bytesB_size, hn] at hi; exact hi
  have hb : ∀ z, z ∈ cutX (repL (bytesN t) (2 ^ k)) a c 0 → z < 256 := cutX_byte (by
    have : ∀ n z, z ∈ repL (bytesN t) n → z < 256 := by
      intro n
      induction n with
      | zero => intro z hz; simp [repL] at hz
      | succ n ih =>
        intro z hz
        rw [repL] at hz
        rcases List.mem_append.1 hz with hz | hz
        · exact ih z hz
        · exact bytesN_lt t z hz
    exact this _)
  rw [bytesB_get hb hi, ← bytesN_get (Nat.mod_lt (a + i) (by omega : t.size > 0))]
  have e1 : (cutX (repL (bytesN t) (2 ^ k)) a c 0).getD i 0 = (repL (bytesN t) (2 ^ k)).getD (a + i) 0 := by
    rw [cutX_whole]
    simp only [List.getD, List.getElem?_drop, List.getElem?_take]
    rw [if_pos (by omega)]
  rw [e1, repL_get _ _ _ (by rw [bytesN_len]; exact Nat.lt_of_lt_of_le (by omega : a + i < c) h2), bytesN_len]

set_option maxHeartbeats 4000000 in
set_option maxRecDepth 100000 in
theorem joined_law (t : ByteArray) (c p n m : Int) (w : World) (ht : t.size ≤ maxLen) (hc1 : -9223372036854775808 ≤ c) (hc2 : c ≤ 9223372036854775807) (hp1 : -9223372036854775808 ≤ p) (hp2 : p ≤ 9223372036854775807) (hn1 : -9223372036854775808 ≤ n) (hn2 : n ≤ 9223372036854775807) (hm1 : -9223372036854775808 ≤ m) (hm2 : m ≤ 9223372036854775807) :
    Calls Try.prog 14 #[.string t, .int .i64 c, .int .i64 p, .int .i64 n, .int .i64 m] w fun e w' => e = .returned (.bool true) ∧ Below w.heap.size w w' := by
  go_enter Try.func14, Try.ntmps14
  go_wp2_with fail
  refine (opening_any _).mono ?_
  rintro e w1 ⟨rfl, b1⟩
  have b1 : Hid (Below w.heap.size w w1) := b1
  go_wp2_with fail
  refine (some_any t 39 ht (by omega) _).mono ?_
  rintro e w2 ⟨⟨s, rfl, hs, _⟩, hw2⟩
  subst hw2
  have hx1 : ¬ 9223372036854775807 < s.size + 1 := by omega
  obtain ⟨T, hT⟩ : ∃ T : ByteArray, Hid (s ++ ⟨#[10]⟩ = T) := ⟨_, rfl⟩
  have hTs : T.size = s.size + 1 := by rw [← hT.out, ba_size_app]; rfl
  have hTm : T.size ≤ 40 := by omega
  have hTp : 1 ≤ T.size := by omega
  go_wp2_with fail
  rw [hT.out]
  refine (pick_any c 34 hc1 hc2 (by omega) (by omega) _).mono ?_
  rintro e w3 ⟨⟨k, rfl, hk⟩, hw3⟩
  subst hw3
  clear hx1 hT hTs hs
  go_wp2_with fail
  refine (doubled_any T ByteArray.empty k hTp hTm (by omega) (Nat.zero_le _) _).mono ?_
  rintro e w4 ⟨f, rfl, hf, k4⟩
  have hD : Hid (Dbl f (bytesN T) k []) := ⟨hf, by rw [bytesN_len]; exact hTp, by rw [bytesN_len]; exact hTm, by omega, Nat.zero_le _, bytesN_lt T, fun c hc => by simp at hc⟩
  have hfs : f.size ≤ 1000 := by
    have h1 := hD.out.size
    rw [bytesN_len] at h1
    simp at h1; omega
  have b4 : Hid (Below w.heap.size w w4) := b1.out.trans (k4.below b1.out.size (by simp))
  clear hf k4 b1
  have hpw : Hid (2 ^ k ≤ 8589934592) := by show 2 ^ k ≤ 2 ^ 33; exact Nat.pow_le_pow_right (by decide) (by omega)
  have hTk : T.size * 2 ^ k ≤ 40 * 8589934592 := Nat.mul_le_mul hTm hpw.out
  go_wp2_with fail
  refine (times_any T.size k (by omega) (by omega) _).mono ?_
  rintro e w5 ⟨⟨r, rfl, hr⟩, hw5⟩
  subst hw5
  have hrb : r ≤ 343597383680 := by rw [hr.out]; exact hTk
  have hX : Hid ((repL (bytesN T) (2 ^ k)).length = r) := by show _ = _; rw [repL_len, bytesN_len, hr.out, Nat.mul_comm]
  have hcut : Hid (∀ (x y : Int), -9223372036854775808 ≤ x → x ≤ 9223372036854775807 → -9223372036854775808 ≤ y → y ≤ 9223372036854775807 → ∀ w, Calls Try.prog 27 #[.string f, .int .i64 x, .int .i64 y] w fun e w' => RangeCase (repL (bytesN T) (2 ^ k)) x y e ∧ Below w.heap.size w w') := fun x y a1 a2 a3 a4 w => (cut_any f (by unfold maxLen; omega) x y a1 a2 a3 a4 w).mono fun e w' ho => ⟨by
    have h := hD.out.cut ho (by rw [List.append_nil, hX.out]; omega)
    rwa [List.append_nil] at h, ho.below⟩
  have hround : Hid (∀ a c : Nat, a ≤ c → c ≤ r → Round (bytesB (cutX (repL (bytesN T) (2 ^ k)) a c 0)) T a ∧ (bytesB (cutX (repL (bytesN T) (2 ^ k)) a c 0)).size = c - a) := fun a c h1 h2 => round_of hTp h1 (by rw [Nat.mul_comm, ← hr.out]; exact h2)
  clear hpw hTk hr hD
  generalize repL (bytesN T) (2 ^ k) = X at *
  have hr1 : ((r + 1 : Nat) : Int) = (r : Int) + 1 := by omega
  go_wp2_with fail
  rw [← hr1]
  refine (pick_any p (r + 1) hp1 hp2 (by omega) (by omega) _).mono ?_
  rintro e w6 ⟨⟨a, rfl, ha⟩, hw6⟩
  subst hw6
  clear hr1
  go_wp2_with fail
  refine (pick_any n 1000 hn1 hn2 (by omega) (by omega) _).mono ?_
  rintro e w7 ⟨⟨n1, rfl, hn3⟩, hw7⟩
  subst hw7
  go_wp2_with fail
  refine (pick_any m 1000 hm1 hm2 (by omega) (by omega) _).mono ?_
  rintro e w8 ⟨⟨m1, rfl, hm3⟩, hw8⟩
  subst hw8
  clear hp1 hp2 hn1 hn2 hm1 hm2 hc1 hc2 ht
  go_wp2_with fail
  refine (hcut.out (a : Int) ((a : Int) + (n1 : Int) + (m1 : Int)) (by omega) (by omega) (by omega) (by omega) _).mono ?_
  rintro e w9 ⟨hc9, b9⟩
  have b9 : Hid (Below w.heap.size w w9) := b4.out.trans (b9.mono b4.out.size)
  by_cases hbig : (r : Int) < (a : Int) + (n1 : Int) + (m1 : Int)
  · have he : e = .returned (.tuple #[.string ⟨#[]⟩, .int .i64 6]) := by
      rcases hc9 with ⟨_, h⟩ | ⟨h, _⟩
      · exact h
      · unfold RangeOk at h; rw [hX.out] at h; omega
    subst he
    clear hcut hround hc9 hX b4
    go_wp2
    go_ret
    exact ⟨rfl, b9.out⟩
  · obtain ⟨s1, z1⟩ := hround.out a (a + n1 + m1) (by omega) (by omega)
    have he : e = .returned (.tuple #[.string (bytesB (cutX X a (a + n1 + m1) 0)), .int .i64 0]) := by
      rcases hc9 with ⟨h, _⟩ | ⟨_, h⟩
      · exact absurd (by unfold RangeOk; rw [hX.out]; omega) h
      · rw [h, show ((a : Int)).toNat = a by omega, show ((a : Int) + (n1 : Int) + (m1 : Int)).toNat = a + n1 + m1 by omega]
    subst he
    have hjoin : Hid (bytesB (cutX X a (a + n1) 0) ++ bytesB (cutX X (a + n1) (a + n1 + m1) 0) = bytesB (cutX X a (a + n1 + m1) 0)) := by show _ = _; rw [← bytesB_app, cut_join X (by omega) (by omega)]
    have hsA : (bytesB (cutX X a (a + n1) 0)).size = n1 := by have := (hround.out a (a + n1) (by omega) (by omega)).2; omega
    have hsB : (bytesB (cutX X (a + n1) (a + n1 + m1) 0)).size = m1 := by have := (hround.out (a + n1) (a + n1 + m1) (by omega) (by omega)).2; omega
    clear hc9 b4
    have s1 : Hid (Round _ _ _) := s1
    obtain ⟨S, hS⟩ : ∃ S, Hid (bytesB (cutX X a (a + n1 + m1) 0) = S) := ⟨_, rfl⟩
    rw [hS.out] at s1 z1 hjoin ⊢
    go_wp2_with fail
    refine (hcut.out (a : Int) ((a : Int) + (n1 : Int)) (by omega) (by omega) (by omega) (by omega) _).mono ?_
    rintro e w10 ⟨hc10, b10⟩
    have b10 : Hid (Below w.heap.size w w10) := b9.out.trans (b10.mono b9.out.size)
    have he : e = .returned (.tuple #[.string (bytesB (cutX X a (a + n1) 0)), .int .i64 0]) := by
      rcases hc10 with ⟨h, _⟩ | ⟨_, h⟩
      · exact absurd (by unfold RangeOk; rw [hX.out]; omega) h
      · rw [h, show ((a : Int)).toNat = a by omega, show ((a : Int) + (n1 : Int)).toNat = a + n1 by omega]
    subst he
    clear hc10 b9
    go_wp2_with fail
    refine (hcut.out ((a : Int) + (n1 : Int)) ((a : Int) + (n1 : Int) + (m1 : Int)) (by omega) (by omega) (by omega) (by omega) _).mono ?_
    rintro e w11 ⟨hc11, b11⟩
    have b11 : Hid (Below w.heap.size w w11) := b10.out.trans (b11.mono b10.out.size)
    have he : e = .returned (.tuple #[.string (bytesB (cutX X (a + n1) (a + n1 + m1) 0)), .int .i64 0]) := by
      rcases hc11 with ⟨h, _⟩ | ⟨_, h⟩
      · exact absurd (by unfold RangeOk; rw [hX.out]; omega) h
      · rw [h, show ((a : Int) + (n1 : Int)).toNat = a + n1 by omega, show ((a : Int) + (n1 : Int) + (m1 : Int)).toNat = a + n1 + m1 by omega]
    subst he
    clear hc11 b10 hcut hround hX hS
    generalize bytesB (cutX X a (a + n1) 0) = A at *
    generalize bytesB (cutX X (a + n1) (a + n1 + m1) 0) = B at *
    have hx2 : ¬ 9223372036854775807 < A.size + B.size := by omega
    have hz : (S.size : Int) = (n1 : Int) + (m1 : Int) := by omega
    have hjoin2 : A ++ B = S := hjoin.out
    go_wp2_with fail
    clear hjoin2 hjoin hx2 hz
    go_loopw [24] (fun iv wr => ∃ q : Nat, iv = .int .i64 (q : Int) ∧ q ≤ S.size ∧ Below w.heap.size w wr) (fun iv _ => ((S.size : Int) - intOf iv).toNat)
    case atStart => exact ⟨0, rfl, Nat.zero_le _, b11.out⟩
    case round =>
      clear b11
      obtain ⟨q, rfl, hq, hB⟩ := hrel
      have hBH : Hid (∀ j, Below w.heap.size w (wr.drewN j)) := fun j => hB.trans (((Kept.refl [] wr).drewN j).below hB.size (by simp))
      by_cases hlt : (q : Int) < (S.size : Int)
      · have hqn : q < S.size := by omega
        obtain ⟨hj, hEq⟩ := s1.out.get q hqn
        have hmod : Int.tmod ((a : Int) + (q : Int)) (T.size : Int) = (((a + q) % T.size : Nat) : Int) := by
          rw [Int.tmod_eq_emod_of_nonneg (by omega), show (a : Int) + (q : Int) = ((a + q : Nat) : Int) by omega]
          exact (Int.natCast_emod _ _).symm
        have hT0 : (T.size : Int) ≠ 0 := by omega
        clear hB s1
        generalize (a + q) % T.size = J at *
        have hj2 : (J : Int) < (T.size : Int) := by omega
        go_wp2_with fail
        go_quiet (fail)
        go_wp2
        refine ⟨⟨q + 1, by go_num, by omega, hBH.out _⟩, ?_⟩
        simp only [intOf]; omega
      · have hb := hBH.out 0
        have hb : Hid (Below w.heap.size w wr) := hB
        clear hB s1
        go_wp2
        go_ret
        exact ⟨rfl, hb.out⟩

end Go.Proofs.Ytgifhgnccmnbiaa
