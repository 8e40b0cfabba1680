/- The law's own helpers: pick, some, times, two, doubled: walked. -/
import Derived.Test.YtgifhgnccmnbiaaDblPure
set_option linter.unusedVariables false
set_option linter.unusedSimpArgs false
namespace Go.Proofs.Ytgifhgnccmnbiaa
open Go.RowKit Go.IntWalk

theorem wrap_in {n : Int} (h1 : -9223372036854775808 ≤ n) (h2 : n ≤ 9223372036854775807) : IntKind.wrap .i64 n = n := by
  rw [IntKind.wrap_i64]; omega
set_option maxHeartbeats 1000000 in
theorem two_any (v : Nat) (hv : v ≤ 65535) (w : World) : Calls Try.prog 59 #[.int .i64 (v : Int)] w fun e w' => e = .returned (.string (bytesB (twoL v))) ∧ Kept [] w w' := by
  have hk : Hid (∀ o, Kept [] w (w.alloc o)) := fun o => (Kept.refl [] w).alloc o
  have m1 : Int.tmod (v : Int) 256 = ((v % 256 : Nat) : Int) := by rw [Int.tmod_eq_emod_of_nonneg (by omega)]; omega
  have m2 : Int.tdiv (v : Int) 256 = ((v / 256 : Nat) : Int) := by rw [Int.tdiv_eq_ediv_of_nonneg (by omega)]; omega
  have hconv : (convert 98 9 (.slice (some ⟨w.heap.size, 0, none⟩) 2 2)).run Try.prog (w.alloc (.cells #[.int .u8 ((v % 256 : Nat) : Int), .int .u8 ((v / 256 : Nat) : Int)] 5)) = .ok (.string (bytesB (twoL v))) (w.alloc (.cells #[.int .u8 ((v % 256 : Nat) : Int), .int .u8 ((v / 256 : Nat) : Int)] 5)) := by
    refine run_convert_bytes_back (P := Try.prog) _ 98 9 5 ⟨w.heap.size, 0, none⟩ 2 [(v % 256).toUInt8, (v / 256).toUInt8] Try.underlying98 Try.underlying5 Try.underlying9 (fun j hj => ?_)
    have hj2 : j < 2 := hj
    rw [ptr_add, (Blk.new w _ _).cell]
    rcases (by omega : j = 0 ∨ j = 1) with rfl | rfl
    · show some (Value.int .u8 ((v % 256 : Nat) : Int)) = some (.int .u8 ((v % 256).toUInt8.toNat : Int))
      rw [Nat.toUInt8_eq, UInt8.toNat_ofNat', show v % 256 % 2 ^ 8 = v % 256 by omega]
    · show some (Value.int .u8 ((v / 256 : Nat) : Int)) = some (.int .u8 ((v / 256).toUInt8.toNat : Int))
      rw [Nat.toUInt8_eq, UInt8.toNat_ofNat', show v / 256 % 2 ^ 8 = v / 256 by omega]
  have b1 : v % 256 < 256 := by omega
  have b2 : v / 256 < 256 := by omega
  obtain ⟨R, hR⟩ : ∃ R, Hid (bytesB (twoL v) = R) := ⟨_, rfl⟩
  rw [hR.out] at hconv
  generalize v % 256 = x at *
  generalize v / 256 = y at *
  go_enter Try.func59, Try.ntmps59
  go_wp2
  go_ret
  exact ⟨by rw [hR.out]; rfl, hk.out _⟩

set_option maxHeartbeats 1000000 in
theorem some_any (t : ByteArray) (n : Nat) (ht : t.size ≤ maxLen) (hn : n ≤ 600) (w : World) : Calls Try.prog 37 #[.string t, .int .i64 (n : Int)] w fun e w' => (∃ s : ByteArray, e = .returned (.string s) ∧ (s.size ≤ n ∧ bytesN s = (bytesN t).take n)) ∧ w' = w := by
  unfold maxLen at ht
  by_cases h : (n : Int) < (t.size : Int)
  · have hs : Hid ((t.extract 0 n).size ≤ n ∧ bytesN (t.extract 0 n) = (bytesN t).take n) := ⟨by simp; omega, by
      unfold bytesN
      rw [ByteArray.data_extract]
      simp [List.map_take]⟩
    go_enter Try.func37, Try.ntmps37
    go_wp2
    go_ret
    exact ⟨⟨_, rfl, hs.out⟩, rfl⟩
  · have hs : Hid (t.size ≤ n ∧ bytesN t = (bytesN t).take n) := ⟨by omega, by rw [List.take_of_length_le]; rw [bytesN_len]; omega⟩
    go_enter Try.func37, Try.ntmps37
    go_wp2
    go_ret
    exact ⟨⟨_, rfl, hs.out⟩, rfl⟩

set_option maxHeartbeats 1000000 in
theorem pick_any (c : Int) (n : Nat) (hc1 : -9223372036854775808 ≤ c) (hc2 : c ≤ 9223372036854775807) (hn : 0 < n) (hn2 : n ≤ 9223372036854775807) (w : World) : Calls Try.prog 35 #[.int .i64 c, .int .i64 (n : Int)] w fun e w' => (∃ k : Nat, e = .returned (.int .i64 (k : Int)) ∧ k < n) ∧ w' = w := by
  have hn0 : (n : Int) ≠ 0 := by omega
  have key : ∀ d : Int, 0 ≤ d → ∃ k : Nat, Int.tmod d (n : Int) = (k : Int) ∧ k < n := fun d hd => by
    rw [Int.tmod_eq_emod_of_nonneg hd]
    have h1 := Int.emod_nonneg d hn0
    have h2 := Int.emod_lt_of_pos d (by omega : (0 : Int) < n)
    exact ⟨(d % (n : Int)).toNat, by omega, by omega⟩
  by_cases h : c < 0
  · obtain ⟨k, hk, hkn⟩ := key (-(c + 1)) (by omega)
    have hkH : Hid (k < n) := hkn
    go_enter Try.func35, Try.ntmps35
    go_wp2
    go_ret
    exact ⟨⟨k, rfl, hkH.out⟩, rfl⟩
  · obtain ⟨k, hk, hkn⟩ := key c (by omega)
    have hkH : Hid (k < n) := hkn
    go_enter Try.func35, Try.ntmps35
    go_wp2
    go_ret
    exact ⟨⟨k, rfl, hkH.out⟩, rfl⟩

theorem bytesN_B {l : List Nat} (h : ∀ c, c ∈ l → c < 256) : bytesN (bytesB l) = l := by
  unfold bytesN bytesB
  simp only [List.map_map]
  conv => rhs; rw [← List.map_id l]
  refine List.map_congr_left fun c hc => ?_
  have := h c hc
  simp only [Function.comp, id]
  rw [Nat.toUInt8_eq, UInt8.toNat_ofNat', show c % 2 ^ 8 = c by omega]
theorem twoL_lt {v : Nat} (h : v ≤ 65535) : ∀ c, c ∈ twoL v → c < 256 := fun c hc => by
  unfold twoL at hc
  simp at hc
  omega
theorem bytesN_two {v : Nat} (h : v ≤ 65535) : bytesN (bytesB (twoL v)) = twoL v := bytesN_B (twoL_lt h)
theorem bytesN_get {t : ByteArray} {i : Nat} (h : i < t.size) : (bytesN t).getD i 0 = t[i].toNat := by rw [← bt_list, bt_lt h]

set_option maxHeartbeats 1000000 in
theorem times_any (n k : Nat) (hk : k ≤ 60) (h : n * 2 ^ k ≤ 9223372036854775807) (w : World) : Calls Try.prog 39 #[.int .i64 (n : Int), .int .i64 (k : Int)] w fun e w' => (∃ r : Nat, e = .returned (.int .i64 (r : Int)) ∧ Hid (r = n * 2 ^ k)) ∧ w' = w := by
  obtain ⟨R, hR⟩ : ∃ R, Hid (n * 2 ^ k = R) := ⟨_, rfl⟩
  rw [hR.out] at h
  have hle : Hid (∀ q, q ≤ k → n * 2 ^ q ≤ R) := fun q hq => by rw [← hR.out]; exact Nat.mul_le_mul_left _ (Nat.pow_le_pow_right (by decide) hq)
  go_enter Try.func39, Try.ntmps39
  go_wp2_with fail
  go_loop [0, 5] (fun nv iv => ∃ q m : Nat, nv = .int .i64 (m : Int) ∧ iv = .int .i64 (q : Int) ∧ q ≤ k ∧ Hid (m = n * 2 ^ q)) (fun _ iv => ((k : Int) - intOf iv).toNat)
  case atStart => exact ⟨0, n, rfl, rfl, Nat.zero_le _, by show n = n * 2 ^ 0; simp⟩
  case round =>
    obtain ⟨q, m, rfl, rfl, hq, hm⟩ := hrel
    by_cases hlt : (q : Int) < (k : Int)
    · have hnx : Hid (2 * m = n * 2 ^ (q + 1)) := by show 2 * m = _; rw [hm.out, Nat.pow_succ, Nat.mul_comm (2 ^ q) 2, Nat.mul_left_comm]
      have hb : 2 * m ≤ R := by have := hle.out (q + 1) (by omega); have h3 := hnx.out; rw [← h3] at this; exact this
      go_wp2
      refine ⟨⟨q + 1, 2 * m, by go_num, by go_num, by omega, hnx⟩, ?_⟩
      simp only [intOf]; omega
    · have hqe : q = k := by omega
      have e : Hid (m = n * 2 ^ k) := by rw [← hqe]; exact hm
      clear hqe hm hR hle
      go_wp2
      go_ret
      exact ⟨⟨m, rfl, e⟩, rfl⟩

set_option maxHeartbeats 4000000 in
set_option maxRecDepth 100000 in
theorem doubled_any (t more : ByteArray) (k : Nat) (h1 : 1 ≤ t.size) (h2 : t.size ≤ 40) (hk : k ≤ 40) (hm : more.size ≤ 600) (w : World) :
    Calls Try.prog 38 #[.string t, .int .i64 (k : Int), .string more] w fun e w' => ∃ f : ByteArray, e = .returned (.string f) ∧ (bytesN f = fileL (bytesN t) k (bytesN more) ∧ Kept [] w w') := by
  have hw : Hid (∀ (v : Nat) (hv : v ≤ 65535) (w : World), Calls _ _ _ w _) := fun v hv w => two_any v hv w
  have hlen := bytesN_len t
  have hsy : Hid (∀ n, n ≤ 100 → symOf (bytesN t) n ≤ 356) := fun n hn => by
    unfold symOf
    split
    · have := bt_bd t 0; rw [bt_list] at this; omega
    · omega
  have hb0 := t[0].toNat_lt
  have hs0 : Hid (symOf (bytesN t) 0 = t[0].toNat) := by show (bytesN t).getD 0 0 = _; exact bytesN_get h1
  go_enter Try.func38, Try.ntmps38
  go_wp2_with fail
  go_loopw [7, 8, 9, 10] (fun rv nv sv iv wr => ∃ (n : Nat) (R : ByteArray) (s : Nat), rv = .string R ∧ nv = .int .i64 (n : Int) ∧ sv = .int .i64 (s : Int) ∧ iv = .int .i64 ((n : Int) + 1) ∧ n + 1 ≤ t.size ∧ Hid (s = symOf (bytesN t) n) ∧ Hid (bytesN R = rulesL (bytesN t) n) ∧ Kept [] w wr) (fun _ _ _ iv _ => ((t.size : Int) - intOf iv).toNat)
  case atStart => exact ⟨0, ByteArray.empty, t[0].toNat, rfl, rfl, by go_num, rfl, by omega, hs0.out.symm, rfl, Kept.refl _ _⟩
  case round =>
    obtain ⟨n, R, s, rfl, rfl, rfl, rfl, hn, hs, hR, hK⟩ := hrel
    have hs356 : s ≤ 356 := by rw [hs.out]; exact hsy.out n (by omega)
    by_cases hlt : (n : Int) + 1 < (t.size : Int)
    · have hi : n + 1 < t.size := by omega
      have hc8 := t[n + 1].toNat_lt
      have ga : Hid (∀ w, Calls _ _ _ w _) := fun w => hw.out s (by omega) w
      have gb : Hid (∀ w, Calls _ _ _ w _) := fun w => hw.out t[n + 1].toNat (by omega) w
      have hnx : Hid (bytesN (R ++ bytesB (twoL s) ++ bytesB (twoL t[n + 1].toNat)) = rulesL (bytesN t) (n + 1)) := by
        show _ = _
        rw [bytesN_app, bytesN_app, hR.out, bytesN_two (by omega), bytesN_two (by omega), rulesL_succ, ← hs.out, List.append_assoc]
        have : secOf (bytesN t) n = t[n + 1].toNat := by unfold secOf; rw [if_pos (by rw [hlen]; exact hi), bytesN_get hi]
        rw [this]
      have hRs : R.size ≤ 1000 := by
        have e := congrArg List.length hR.out
        rw [bytesN_len, rulesL_len] at e
        omega
      have hAs : (bytesB (twoL s)).size = 2 := rfl
      have hBs : (bytesB (twoL t[n + 1].toNat)).size = 2 := rfl
      generalize bytesB (twoL s) = A at *
      generalize bytesB (twoL t[n + 1].toNat) = B at *
      have hx1 : ¬ 9223372036854775807 < R.size + A.size := by omega
      have hx2 : ¬ 9223372036854775807 < R.size + A.size + B.size := by omega
      have hi0 : (0 : Int) ≤ (n : Int) + 1 := by omega
      have hwr : IntKind.wrap .i64 (t[n + 1].toNat : Int) = (t[n + 1].toNat : Int) := wrap_in (by omega) (by omega)
      clear hRs hAs hBs
      go_wp2_with fail
      go_region_law (go_simp; first | (go_at_call_of 59 (Value.int IntKind.i64 (s : Int)); refine (ga.out _).mono ?_; rintro _ w5 ⟨rfl, k5⟩) | (go_at_call 59; refine (gb.out _).mono ?_; rintro _ w7 ⟨rfl, k7⟩))
      all_goals
        go_wp2_with fail
        refine ⟨⟨n + 1, R ++ A ++ B, 256 + n, rfl, by go_num, by go_num, by go_num, by omega, by show 256 + n = symOf _ (n + 1); unfold symOf; rw [if_neg (by omega)]; omega, hnx, hK.trans (((Kept.refl [] _).drew).trans (k5.trans k7))⟩, ?_⟩
        simp only [intOf]; omega
    · have hne : n = t.size - 1 := by omega
      have hR0 : Hid (bytesN R = rulesL (bytesN t) (t.size - 1 + 0)) := by rw [Nat.add_zero, ← hne]; exact hR
      have hs2 : Hid (s = symOf (bytesN t) (t.size - 1 + 0)) := by rw [Nat.add_zero, ← hne]; exact hs
      have hn0 : (n : Int) = ((t.size - 1 + 0 : Nat) : Int) := by omega
      clear hs hR hlt hn
      go_wp2_with fail
      go_loopw [7, 8, 9, 11] (fun rv nv sv iv wr => ∃ (j : Nat) (R : ByteArray) (s : Nat), rv = .string R ∧ nv = .int .i64 ((t.size - 1 + j : Nat) : Int) ∧ sv = .int .i64 (s : Int) ∧ iv = .int .i64 (j : Int) ∧ j ≤ k ∧ Hid (s = symOf (bytesN t) (t.size - 1 + j)) ∧ Hid (bytesN R = rulesL (bytesN t) (t.size - 1 + j)) ∧ Kept [] w wr) (fun _ _ _ iv _ => ((k : Int) - intOf iv).toNat)
      case atStart => exact ⟨0, R, s, rfl, by rw [hn0], rfl, rfl, by omega, hs2, hR0, hK⟩
      case round =>
        clear hR0 hs2 hn0 hK hs356 hne
        obtain ⟨j, R, s, rfl, rfl, rfl, rfl, hj, hs, hR, hK⟩ := hrel
        have hs356 : s ≤ 356 := by rw [hs.out]; exact hsy.out _ (by omega)
        by_cases hlt : (j : Int) < (k : Int)
        · have ga : Hid (∀ w, Calls _ _ _ w _) := fun w => hw.out s (by omega) w
          have hnx : Hid (bytesN (R ++ bytesB (twoL s) ++ bytesB (twoL s)) = rulesL (bytesN t) (t.size - 1 + (j + 1))) := by
            show _ = _
            rw [bytesN_app, bytesN_app, hR.out, bytesN_two (by omega), ← Nat.add_assoc, rulesL_succ, ← hs.out, List.append_assoc]
            have : secOf (bytesN t) (t.size - 1 + j) = s := by unfold secOf; rw [if_neg (by rw [hlen]; omega)]; exact hs.out.symm
            rw [this]
          have hRs : R.size ≤ 1000 := by
            have e := congrArg List.length hR.out
            rw [bytesN_len, rulesL_len] at e
            omega
          have hAs : (bytesB (twoL s)).size = 2 := rfl
          generalize bytesB (twoL s) = A at *
          have hx1 : ¬ 9223372036854775807 < R.size + A.size := by omega
          have hx2 : ¬ 9223372036854775807 < R.size + A.size + A.size := by omega
          have hjt : t.size - 1 + j ≤ 100 := by omega
          have hsn : Hid (symOf (bytesN t) (t.size - 1 + (j + 1)) = 256 + (t.size - 1 + j)) := by show _ = _; unfold symOf; rw [if_neg (by omega)]; omega
          obtain ⟨N, hN⟩ : ∃ N, Hid (t.size - 1 + j = N) := ⟨_, rfl⟩
          rw [hN.out] at hjt hsn ⊢
          clear hRs hAs
          go_wp2_with (go_at_call 59; refine (ga.out _).mono ?_; rintro _ w5 ⟨rfl, k5⟩; have K5 := Kept.trans (by assumption) k5)
          refine ⟨⟨j + 1, R ++ A ++ A, 256 + N, rfl, ?_, by go_num, by go_num, by omega, hsn.out.symm, hnx, by assumption⟩, ?_⟩
          · have := hN.out
            exact congrArg _ (by omega)
          · simp only [intOf]; omega
        · have hje : j = k := by omega
          subst hje
          clear hlt hj
          have hjt : t.size - 1 + j ≤ 100 := by omega
          have hRs : R.size ≤ 1000 := by
            have e := congrArg List.length hR.out
            rw [bytesN_len, rulesL_len] at e
            omega
          obtain ⟨N, hN⟩ : ∃ N, N = t.size - 1 + j := ⟨_, rfl⟩
          rw [← hN] at hs hR hjt ⊢
          have ga : Hid (∀ w, Calls _ _ _ w _) := fun w => hw.out s (by omega) w
          have hB0 : Hid (bytesN (bytesB (twoL s)) = twoL (symOf (bytesN t) N) ++ ((bytesN more).take 0).flatMap twoL) := by
            show _ = _
            rw [bytesN_two (by omega), hs.out]; simp
          have hms : (bytesN more).length = more.size := bytesN_len more
          go_wp2_with (go_at_call 59; refine (ga.out _).mono ?_; rintro _ w5 ⟨rfl, k5⟩; have K5 := hK.trans k5)
          go_loopw [12, 13] (fun sv iv wr => ∃ (i : Nat) (S : ByteArray), sv = .string S ∧ iv = .int .i64 (i : Int) ∧ i ≤ more.size ∧ Hid (bytesN S = twoL (symOf (bytesN t) N) ++ ((bytesN more).take i).flatMap twoL) ∧ Kept [] w wr) (fun _ iv _ => ((more.size : Int) - intOf iv).toNat)
          case atStart => exact ⟨0, _, rfl, rfl, by omega, hB0, K5⟩
          case round =>
            clear hB0 K5 k5 ga
            obtain ⟨i, S, rfl, rfl, hi, hS, hK2⟩ := hrel
            have hSs : S.size ≤ 2000 := by
              have e := congrArg List.length hS.out
              rw [bytesN_len, List.length_append, more_len, List.length_take] at e
              have : (twoL (symOf (bytesN t) N)).length = 2 := rfl
              omega
            by_cases hlt : (i : Int) < (more.size : Int)
            · have hi2 : i < more.size := by omega
              have hc8 := more[i].toNat_lt
              have gb : Hid (∀ w, Calls _ _ _ w _) := fun w => hw.out more[i].toNat (by omega) w
              have hnx : Hid (bytesN (S ++ bytesB (twoL more[i].toNat)) = twoL (symOf (bytesN t) N) ++ ((bytesN more).take (i + 1)).flatMap twoL) := by
                show _ = _
                rw [bytesN_app, hS.out, bytesN_two (by omega), List.take_add_one, List.getElem?_eq_getElem (by omega)]
                have e := bytesN_get hi2
                rw [List.getD_eq_getElem?_getD, List.getElem?_eq_getElem (by omega)] at e
                simp only [Option.getD_some] at e
                rw [e, List.flatMap_append]
                simp
              have hAs : (bytesB (twoL more[i].toNat)).size = 2 := rfl
              generalize bytesB (twoL more[i].toNat) = A at *
              have hx1 : ¬ 9223372036854775807 < S.size + A.size := by omega
              clear hAs
              go_wp2_with (go_at_call 59; refine (gb.out _).mono ?_; rintro _ w7 ⟨rfl, k7⟩; have K7 := hK2.trans k7)
              refine ⟨⟨i + 1, S ++ A, rfl, by go_num, by omega, hnx, K7⟩, ?_⟩
              simp only [intOf]; omega
            · have hie : i = more.size := by omega
              have hS2 : Hid (bytesN S = twoL (symOf (bytesN t) N) ++ (bytesN more).flatMap twoL) := by
                show _ = _
                rw [hS.out, List.take_of_length_le (by omega)]
              have gc : Hid (∀ w, Calls Try.prog 59 #[.int .i64 (1 + (more.size : Int))] w fun e w' => e = .returned (.string (bytesB (twoL (1 + more.size)))) ∧ Kept [] w w') := fun w => by
                have := hw.out (1 + more.size) (by omega) w
                rwa [show ((1 + more.size : Nat) : Int) = 1 + (more.size : Int) by omega] at this
              have hfin : Hid (bytesN (⟨#[83, 71]⟩ ++ bytesB [N] ++ R ++ bytesB (twoL (1 + more.size)) ++ S) = fileL (bytesN t) j (bytesN more)) := by
                show _ = _
                unfold fileL
                rw [bytesN_app, bytesN_app, bytesN_app, bytesN_app, hR.out, hS2.out, bytesN_two (by omega), bytesN_B (l := [N]) (by intro c hc; simp at hc; omega), hlen, hms, ← hN]
                simp [bytesN]
              have hTs : (bytesB (twoL (1 + more.size))).size = 2 := rfl
              have hNs : (bytesB [N]).size = 1 := rfl
              generalize bytesB (twoL (1 + more.size)) = T at *
              have hNi : ((t.size - 1 + j : Nat) : Int) = (N : Int) := by rw [hN]
              have hwm : IntKind.wrap .i64 (1 + (more.size : Int)) = 1 + (more.size : Int) := wrap_in (by omega) (by omega)
              have hw8 : IntKind.wrap .u8 (((t.size - 1 : Nat) : Int) + (j : Int)) = (N : Int) := by
                rw [show (((t.size - 1 : Nat) : Int) + (j : Int)) = (N : Int) by omega, IntKind.wrap_u8]; omega
              have hcv : ∀ (w0 w : World), Kept [] (w0.alloc (.cells #[.int .u8 (N : Int)] 5)) w → (convert 98 9 (.slice (some ⟨w0.heap.size, 0, none⟩) 1 1)).run Try.prog w = .ok (.string (bytesB [N])) w := fun w0 w kk => by
                refine run_convert_bytes_back (P := Try.prog) _ 98 9 5 ⟨w0.heap.size, 0, none⟩ 1 [N.toUInt8] Try.underlying98 Try.underlying5 Try.underlying9 (fun q hq => ?_)
                have hq0 : q = 0 := by simp at hq; omega
                subst hq0
                rw [ptr_add, ((Blk.new w0 _ _).kept kk (by simp)).cell]
                show some (Value.int .u8 (N : Int)) = some (.int .u8 (N.toUInt8.toNat : Int))
                rw [Nat.toUInt8_eq, UInt8.toNat_ofNat', show N % 2 ^ 8 = N by omega]
              have hconv := fun w0 : World => hcv w0 _ ((Kept.refl [] _).drew)
              have hconv2 := fun w0 : World => hcv w0 _ (Kept.refl [] _)
              have hcvH : Hid (∀ (w0 w : World), _) := hcv
              clear hcv
              generalize bytesB [N] = X at *
              have hx1 : ¬ 9223372036854775807 < 2 + X.size := by omega
              have hx2 : ¬ 9223372036854775807 < 2 + X.size + R.size := by omega
              have hx3 : ¬ 9223372036854775807 < 2 + X.size + R.size + T.size := by omega
              have hx4 : ¬ 9223372036854775807 < 2 + X.size + R.size + T.size + S.size := by omega
              clear hTs hNs hS hS2 hs hR hie
              go_wp2_with fail
              go_region_law (go_simp; go_at_call 59; refine (gc.out _).mono ?_; rintro _ w9 ⟨rfl, k9⟩; have K9 : Kept [] wr w9 := Kept.trans (by first | exact ((Kept.refl _ _).alloc _).drew | exact (Kept.refl _ _).drew) k9; try have hc9 := hcvH.out wr w9 (((Kept.refl [] _).drew).trans k9))
              all_goals
                go_wp2
                go_ret
                first
                  | exact ⟨_, rfl, hfin.out, hK2.trans K9⟩
                  | exact ⟨_, rfl, hfin.out, hK2.trans (K9.alloc _)⟩

end Go.Proofs.Ytgifhgnccmnbiaa
