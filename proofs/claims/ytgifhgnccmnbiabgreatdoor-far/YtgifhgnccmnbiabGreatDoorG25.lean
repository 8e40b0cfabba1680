/- The law's own helpers: pick, some, times, two, doubled: walked. -/
import Derived.Test.YtgifhgnccmnbiabGreatDoorG24
import Derived.Test.YtgifhgnccmnbiabGreatDoorG21
import Derived.Test.YtgifhgnccmnbiabGreatDoorG19
set_option linter.unusedVariables false
set_option linter.unusedSimpArgs false
namespace Go.Proofs.YtgifhgnccmnbiabGreatDoor
open Go.RowKit Go.IntWalk

theorem wrap_in {n : Int} (h1 : -9223372036854775808 ≤ n) (h2 : n ≤ 9223372036854775807) : IntKind.wrap .i64 n = n := by
  rw [IntKind.wrap_i64]; omega
set_option maxHeartbeats 1000000 in
theorem two_any (v : Nat) (hv : v ≤ 65535) (w : World) : Calls Tryz.prog 44 #[.int .i64 (v : Int)] w fun e w' => e = .returned (.string (bytesB (twoL v))) ∧ Kept [] w w' := by
  have hk : Hid (∀ o, Kept [] w (w.alloc o)) := fun o => (Kept.refl [] w).alloc o
  have m1 : Int.tmod (v : Int) 256 = ((v % 256 : Nat) : Int) := by rw [Int.tmod_eq_emod_of_nonneg (by omega)]; omega
  have m2 : Int.tdiv (v : Int) 256 = ((v / 256 : Nat) : Int) := by rw [Int.tdiv_eq_ediv_of_nonneg (by omega)]; omega
  have hconv : (convert 77 9 (.slice (some ⟨w.heap.size, 0, none⟩) 2 2)).run Tryz.prog (w.alloc (.cells #[.int .u8 ((v % 256 : Nat) : Int), .int .u8 ((v / 256 : Nat) : Int)] 5)) = .ok (.string (bytesB (twoL v))) (w.alloc (.cells #[.int .u8 ((v % 256 : Nat) : Int), .int .u8 ((v / 256 : Nat) : Int)] 5)) := by
    refine run_convert_bytes_back (P := Tryz.prog) _ 77 9 5 ⟨w.heap.size, 0, none⟩ 2 [(v % 256).toUInt8, (v / 256).toUInt8] Tryz.underlying77 Tryz.underlying5 Tryz.underlying9 (fun j hj => ?_)
    have hj2 : j < 2 := hj
    rw [ptr_add, (Blk.new w _ _).cell]
    rcases (by omega : j = 0 ∨ j = 1) with rfl | rfl
    · show some (Value.int .u8 ((v % 256 : Nat) : Int)) = some (.int .u8 ((v % 256).toUInt8.toNat : Int))
      rw [Nat.toUInt8_eq, UInt8.toNat_ofNat', show v % 256 % 2 ^ 8 = v % 256 by omega]
    · show some (Value.int .u8 ((v / 256 : Nat) : Int)) = some (.int .u8 ((v / 256).toUInt8.toNat : Int))
      rw [Nat.toUInt8_eq, UInt8.toNat_ofNat', show v / 256 % 2 ^ 8 = v / 256 by omega]
  have b1 : v % 256 < 256 := by omega
  have b2 : v / 256 < 256 := by omega
  obtain ⟨R, hR⟩ : ∃ R, Hid (bytesB (twoL v) = R) := ⟨_, rfl⟩
  rw [hR.out] at hconv
  generalize v % 256 = x at *
  generalize v / 256 = y at *
  go_enter Tryz.func44, Tryz.ntmps44
  go_wp2
  go_ret
  exact ⟨by rw [hR.out]; rfl, hk.out _⟩

set_option maxHeartbeats 1000000 in
theorem some2_any (t : ByteArray) (n : Nat) (ht : t.size ≤ maxLen) (hn : n ≤ 600) (w : World) : Calls Tryz.prog 13 #[.string t, .int .i64 (n : Int)] w fun e w' => (∃ s : ByteArray, e = .returned (.string s) ∧ (s.size ≤ n ∧ bytesN s = (bytesN t).take n)) ∧ w' = w := by
  unfold maxLen at ht
  by_cases h : (n : Int) < (t.size : Int)
  · have hs : Hid ((t.extract 0 n).size ≤ n ∧ bytesN (t.extract 0 n) = (bytesN t).take n) := ⟨by simp; omega, by
      unfold bytesN
      rw [ByteArray.data_extract]
      simp [List.map_take]⟩
    go_enter Tryz.func13, Tryz.ntmps13
    go_wp2
    go_ret
    exact ⟨⟨_, rfl, hs.out⟩, rfl⟩
  · have hs : Hid (t.size ≤ n ∧ bytesN t = (bytesN t).take n) := ⟨by omega, by rw [List.take_of_length_le]; rw [bytesN_len]; omega⟩
    go_enter Tryz.func13, Tryz.ntmps13
    go_wp2
    go_ret
    exact ⟨⟨_, rfl, hs.out⟩, rfl⟩

set_option maxHeartbeats 1000000 in
theorem pick_any (c : Int) (n : Nat) (hc1 : -9223372036854775808 ≤ c) (hc2 : c ≤ 9223372036854775807) (hn : 0 < n) (hn2 : n ≤ 9223372036854775807) (w : World) : Calls Tryz.prog 14 #[.int .i64 c, .int .i64 (n : Int)] w fun e w' => (∃ k : Nat, e = .returned (.int .i64 (k : Int)) ∧ k < n) ∧ w' = w := by
  have hn0 : (n : Int) ≠ 0 := by omega
  have key : ∀ d : Int, 0 ≤ d → ∃ k : Nat, Int.tmod d (n : Int) = (k : Int) ∧ k < n := fun d hd => by
    rw [Int.tmod_eq_emod_of_nonneg hd]
    have h1 := Int.emod_nonneg d hn0
    have h2 := Int.emod_lt_of_pos d (by omega : (0 : Int) < n)
    exact ⟨(d % (n : Int)).toNat, by omega, by omega⟩
  by_cases h : c < 0
  · obtain ⟨k, hk, hkn⟩ := key (-(c + 1)) (by omega)
    have hkH : Hid (k < n) := hkn
    go_enter Tryz.func14, Tryz.ntmps14
    go_wp2
    go_ret
    exact ⟨⟨k, rfl, hkH.out⟩, rfl⟩
  · obtain ⟨k, hk, hkn⟩ := key c (by omega)
    have hkH : Hid (k < n) := hkn
    go_enter Tryz.func14, Tryz.ntmps14
    go_wp2
    go_ret
    exact ⟨⟨k, rfl, hkH.out⟩, rfl⟩

theorem bytesN_B {l : List Nat} (h : ∀ c, c ∈ l → c < 256) : bytesN (bytesB l) = l := by
  unfold bytesN bytesB
  simp only [List.map_map]
  conv => rhs; rw [← List.map_id l]
  refine List.map_congr_left fun c hc => ?_
  have := h c hc
  simp only [Function.comp, id]
  rw [Nat.toUInt8_eq, UInt8.toNat_ofNat', show c % 2 ^ 8 = c by omega]
theorem twoL_lt {v : Nat} (h : v ≤ 65535) : ∀ c, c ∈ twoL v → c < 256 := fun c hc => by
  unfold twoL at hc
  simp at hc
  omega
theorem bytesN_two {v : Nat} (h : v ≤ 65535) : bytesN (bytesB (twoL v)) = twoL v := bytesN_B (twoL_lt h)
theorem bytesN_get {t : ByteArray} {i : Nat} (h : i < t.size) : (bytesN t).getD i 0 = t[i].toNat := by rw [← bt_list, bt_lt h]

set_option maxHeartbeats 1000000 in
theorem times_any (n k : Nat) (hk : k ≤ 60) (h : n * 2 ^ k ≤ 9223372036854775807) (w : World) : Calls Tryz.prog 24 #[.int .i64 (n : Int), .int .i64 (k : Int)] w fun e w' => (∃ r : Nat, e = .returned (.int .i64 (r : Int)) ∧ Hid (r = n * 2 ^ k)) ∧ w' = w := by
  obtain ⟨R, hR⟩ : ∃ R, Hid (n * 2 ^ k = R) := ⟨_, rfl⟩
  rw [hR.out] at h
  have hle : Hid (∀ q, q ≤ k → n * 2 ^ q ≤ R) := fun q hq => by rw [← hR.out]; exact Nat.mul_le_mul_left _ (Nat.pow_le_pow_right (by decide) hq)
  go_enter Tryz.func24, Tryz.ntmps24
  go_wp2_with fail
  go_loop [0, 5] (fun nv iv => ∃ q m : Nat, nv = .int .i64 (m : Int) ∧ iv = .int .i64 (q : Int) ∧ q ≤ k ∧ Hid (m = n * 2 ^ q)) (fun _ iv => ((k : Int) - intOf iv).toNat)
  case atStart => exact ⟨0, n, rfl, rfl, Nat.zero_le _, by show n = n * 2 ^ 0; simp⟩
  case round =>
    obtain ⟨q, m, rfl, rfl, hq, hm⟩ := hrel
    by_cases hlt : (q : Int) < (k : Int)
    · have hnx : Hid (2 * m = n * 2 ^ (q + 1)) := by show 2 * m = _; rw [hm.out, Nat.pow_succ, Nat.mul_comm (2 ^ q) 2, Nat.mul_left_comm]
      have hb : 2 * m ≤ R := by have := hle.out (q + 1) (by omega); have h3 := hnx.out; rw [← h3] at this; exact this
      go_wp2
      refine ⟨⟨q + 1, 2 * m, by go_num, by go_num, by omega, hnx⟩, ?_⟩
      simp only [intOf]; omega
    · have hqe : q = k := by omega
      have e : Hid (m = n * 2 ^ k) := by rw [← hqe]; exact hm
      clear hqe hm hR hle
      go_wp2
      go_ret
      exact ⟨⟨m, rfl, e⟩, rfl⟩

set_option maxHeartbeats 4000000 in
set_option maxRecDepth 100000 in
theorem doubled_any (t more : ByteArray) (k : Nat) (h1 : 1 ≤ t.size) (h2 : t.size ≤ 40) (hk : k ≤ 40) (hm : more.size ≤ 600) (w : World) :
    Calls Tryz.prog 22 #[.string t, .int .i64 (k : Int), .string more] w fun e w' => ∃ f : ByteArray, e = .returned (.string f) ∧ (bytesN f = fileL (bytesN t) k (bytesN more) ∧ Kept [] w w') := by
  have hw : Hid (∀ (v : Nat) (hv : v ≤ 65535) (w : World), Calls _ _ _ w _) := fun v hv w => two_any v hv w
  have hlen := bytesN_len t
  have hsy : Hid (∀ n, n ≤ 100 → symOf (bytesN t) n ≤ 356) := fun n hn => by
    unfold symOf
    split
    · have := bt_bd t 0; rw [bt_list] at this; omega
    · omega
  have hb0 := t[0].toNat_lt
  have hs0 : Hid (symOf (bytesN t) 0 = t[0].toNat) := by show (bytesN t).getD 0 0 = _; exact bytesN_get h1
  go_enter Tryz.func22, Tryz.ntmps22
  go_wp2_with fail
  go_loopw [7, 8, 9, 10] (fun rv nv sv iv wr => ∃ (n : Nat) (R : ByteArray) (s : Nat), rv = .string R ∧ nv = .int .i64 (n : Int) ∧ sv = .int .i64 (s : Int) ∧ iv = .int .i64 ((n : Int) + 1) ∧ n + 1 ≤ t.size ∧ Hid (s = symOf (bytesN t) n) ∧ Hid (bytesN R = rulesL (bytesN t) n) ∧ Kept [] w wr) (fun _ _ _ iv _ => ((t.size : Int) - intOf iv).toNat)
  case atStart => exact ⟨0, ByteArray.empty, t[0].toNat, rfl, rfl, by go_num, rfl, by omega, hs0.out.symm, rfl, Kept.refl _ _⟩
  case round =>
    obtain ⟨n, R, s, rfl, rfl, rfl, rfl, hn, hs, hR, hK⟩ := hrel
    have hs356 : s ≤ 356 := by rw [hs.out]; exact hsy.out n (by omega)
    by_cases hlt : (n : Int) + 1 < (t.size : Int)
    · have hi : n + 1 < t.size := by omega
      have hc8 := t[n + 1].toNat_lt
      have ga : Hid (∀ w, Calls _ _ _ w _) := fun w => hw.out s (by omega) w
      have gb : Hid (∀ w, Calls _ _ _ w _) := fun w => hw.out t[n + 1].toNat (by omega) w
      have hnx : Hid (bytesN (R ++ bytesB (twoL s) ++ bytesB (twoL t[n + 1].toNat)) = rulesL (bytesN t) (n + 1)) := by
        show _ = _
        rw [bytesN_app, bytesN_app, hR.out, bytesN_two (by omega), bytesN_two (by omega), rulesL_succ, ← hs.out, List.append_assoc]
        have : secOf (bytesN t) n = t[n + 1].toNat := by unfold secOf; rw [if_pos (by rw [hlen]; exact hi), bytesN_get hi]
        rw [this]
      have hRs : R.size ≤ 1000 := by
        have e := congrArg List.length hR.out
        rw [bytesN_len, rulesL_len] at e
        omega
      have hAs : (bytesB (twoL s)).size = 2 := rfl
      have hBs : (bytesB (twoL t[n + 1].toNat)).size = 2 := rfl
      generalize bytesB (twoL s) = A at *
      generalize bytesB (twoL t[n + 1].toNat) = B at *
      have hx1 : ¬ 9223372036854775807 < R.size + A.size := by omega
      have hx2 : ¬ 9223372036854775807 < R.size + A.size + B.size := by omega
      have hi0 : (0 : Int) ≤ (n : Int) + 1 := by omega
      have hwr : IntKind.wrap .i64 (t[n + 1].toNat : Int) = (t[n + 1].toNat : Int) := wrap_in (by omega) (by omega)
      clear hRs hAs hBs
      go_wp2_with fail
      go_region_law (go_simp; first | (go_at_call_of 44 (Value.int IntKind.i64 (s : Int)); refine (ga.out _).mono ?_; rintro _ w5 ⟨rfl, k5⟩) | (go_at_call 44; refine (gb.out _).mono ?_; rintro _ w7 ⟨rfl, k7⟩))
      all_goals
        go_wp2_with fail
        refine ⟨⟨n + 1, R ++ A ++ B, 256 + n, rfl, by go_num, by go_num, by go_num, by omega, by show 256 + n = symOf _ (n + 1); unfold symOf; rw [if_neg (by omega)]; omega, hnx, hK.trans (((Kept.refl [] _).drew).trans (k5.trans k7))⟩, ?_⟩
        simp only [intOf]; omega
    · have hne : n = t.size - 1 := by omega
      have hR0 : Hid (bytesN R = rulesL (bytesN t) (t.size - 1 + 0)) := by rw [Nat.add_zero, ← hne]; exact hR
      have hs2 : Hid (s = symOf (bytesN t) (t.size - 1 + 0)) := by rw [Nat.add_zero, ← hne]; exact hs
      have hn0 : (n : Int) = ((t.size - 1 + 0 : Nat) : Int) := by omega
      clear hs hR hlt hn
      go_wp2_with fail
      go_loopw [7, 8, 9, 11] (fun rv nv sv iv wr => ∃ (j : Nat) (R : ByteArray) (s : Nat), rv = .string R ∧ nv = .int .i64 ((t.size - 1 + j : Nat) : Int) ∧ sv = .int .i64 (s : Int) ∧ iv = .int .i64 (j : Int) ∧ j ≤ k ∧ Hid (s = symOf (bytesN t) (t.size - 1 + j)) ∧ Hid (bytesN R = rulesL (bytesN t) (t.size - 1 + j)) ∧ Kept [] w wr) (fun _ _ _ iv _ => ((k : Int) - intOf iv).toNat)
      case atStart => exact ⟨0, R, s, rfl, by rw [hn0], rfl, rfl, by omega, hs2, hR0, hK⟩
      case round =>
        clear hR0 hs2 hn0 hK hs356 hne
        obtain ⟨j, R, s, rfl, rfl, rfl, rfl, hj, hs, hR, hK⟩ := hrel
        have hs356 : s ≤ 356 := by rw [hs.out]; exact hsy.out _ (by omega)
        by_cases hlt : (j : Int) < (k : Int)
        · have ga : Hid (∀ w, Calls _ _ _ w _) := fun w => hw.out s (by omega) w
          have hnx : Hid (bytesN (R ++ bytesB (twoL s) ++ bytesB (twoL s)) = rulesL (bytesN t) (t.size - 1 + (j + 1))) := by
            show _ = _
            rw [bytesN_app, bytesN_app, hR.out, bytesN_two (by omega), ← Nat.add_assoc, rulesL_succ, ← hs.out, List.append_assoc]
            have : secOf (bytesN t) (t.size - 1 + j) = s := by unfold secOf; rw [if_neg (by rw [hlen]; omega)]; exact hs.out.symm
            rw [this]
          have hRs : R.size ≤ 1000 := by
            have e := congrArg List.length hR.out
            rw [bytesN_len, rulesL_len] at e
            omega
          have hAs : (bytesB (twoL s)).size = 2 := rfl
          generalize bytesB (twoL s) = A at *
          have hx1 : ¬ 9223372036854775807 < R.size + A.size := by omega
          have hx2 : ¬ 9223372036854775807 < R.size + A.size + A.size := by omega
          have hjt : t.size - 1 + j ≤ 100 := by omega
          have hsn : Hid (symOf (bytesN t) (t.size - 1 + (j + 1)) = 256 + (t.size - 1 + j)) := by show _ = _; unfold symOf; rw [if_neg (by omega)]; omega
          obtain ⟨N, hN⟩ : ∃ N, Hid (t.size - 1 + j = N) := ⟨_, rfl⟩
          rw [hN.out] at hjt hsn ⊢
          clear hRs hAs
          go_wp2_with (go_at_call 44; refine (ga.out _).mono ?_; rintro _ w5 ⟨rfl, k5⟩; have K5 := Kept.trans (by assumption) k5)
          refine ⟨⟨j + 1, R ++ A ++ A, 256 + N, rfl, ?_, by go_num, by go_num, by omega, hsn.out.symm, hnx, by assumption⟩, ?_⟩
          · have := hN.out
            exact congrArg _ (by omega)
          · simp only [intOf]; omega
        · have hje : j = k := by omega
          subst hje
          clear hlt hj
          have hjt : t.size - 1 + j ≤ 100 := by omega
          have hRs : R.size ≤ 1000 := by
            have e := congrArg List.length hR.out
            rw [bytesN_len, rulesL_len] at e
            omega
          obtain ⟨N, hN⟩ : ∃ N, N = t.size - 1 + j := ⟨_, rfl⟩
          rw [← hN] at hs hR hjt ⊢
          have ga : Hid (∀ w, Calls _ _ _ w _) := fun w => hw.out s (by omega) w
          have hB0 : Hid (bytesN (bytesB (twoL s)) = twoL (symOf (bytesN t) N) ++ ((bytesN more).take 0).flatMap twoL) := by
            show _ = _
            rw [bytesN_two (by omega), hs.out]; simp
          have hms : (bytesN more).length = more.size := bytesN_len more
          go_wp2_with (go_at_call 44; refine (ga.out _).mono ?_; rintro _ w5 ⟨rfl, k5⟩; have K5 := hK.trans k5)
          go_loopw [12, 13] (fun sv iv wr => ∃ (i : Nat) (S : ByteArray), sv = .string S ∧ iv = .int .i64 (i : Int) ∧ i ≤ more.size ∧ Hid (bytesN S = twoL (symOf (bytesN t) N) ++ ((bytesN more).take i).flatMap twoL) ∧ Kept [] w wr) (fun _ iv _ => ((more.size : Int) - intOf iv).toNat)
          case atStart => exact ⟨0, _, rfl, rfl, by omega, hB0, K5⟩
          case round =>
            clear hB0 K5 k5 ga
            obtain ⟨i, S, rfl, rfl, hi, hS, hK2⟩ := hrel
            have hSs : S.size ≤ 2000 := by
              have e := congrArg List.length hS.out
              rw [bytesN_len, List.length_append, more_len, List.length_take] at e
              have : (twoL (symOf (bytesN t) N)).length = 2 := rfl
              omega
            by_cases hlt : (i : Int) < (more.size : Int)
            · have hi2 : i < more.size := by omega
              have hc8 := more[i].toNat_lt
              have gb : Hid (∀ w, Calls _ _ _ w _) := fun w => hw.out more[i].toNat (by omega) w
              have hnx : Hid (bytesN (S ++ bytesB (twoL more[i].toNat)) = twoL (symOf (bytesN t) N) ++ ((bytesN more).take (i + 1)).flatMap twoL) := by
                show _ = _
                rw [bytesN_app, hS.out, bytesN_two (by omega), List.take_add_one, List.getElem?_eq_getElem (by omega)]
                have e := bytesN_get hi2
                rw [List.getD_eq_getElem?_getD, List.getElem?_eq_getElem (by omega)] at e
                simp only [Option.getD_some] at e
                rw [e, List.flatMap_append]
                simp
              have hAs : (bytesB (twoL more[i].toNat)).size = 2 := rfl
              generalize bytesB (twoL more[i].toNat) = A at *
              have hx1 : ¬ 9223372036854775807 < S.size + A.size := by omega
              clear hAs
              go_wp2_with (go_at_call 44; refine (gb.out _).mono ?_; rintro _ w7 ⟨rfl, k7⟩; have K7 := hK2.trans k7)
              refine ⟨⟨i + 1, S ++ A, rfl, by go_num, by omega, hnx, K7⟩, ?_⟩
              simp only [intOf]; omega
            · have hie : i = more.size := by omega
              have hS2 : Hid (bytesN S = twoL (symOf (bytesN t) N) ++ (bytesN more).flatMap twoL) := by
                show _ = _
                rw [hS.out, List.take_of_length_le (by omega)]
              have gc : Hid (∀ w, Calls Tryz.prog 44 #[.int .i64 (1 + (more.size : Int))] w fun e w' => e = .returned (.string (bytesB (twoL (1 + more.size)))) ∧ Kept [] w w') := fun w => by
                have := hw.out (1 + more.size) (by omega) w
                rwa [show ((1 + more.size : Nat) : Int) = 1 + (more.size : Int) by omega] at this
              have hfin : Hid (bytesN (⟨#[83, 71]⟩ ++ bytesB [N] ++ R ++ bytesB (twoL (1 + more.size)) ++ S) = fileL (bytesN t) j (bytesN more)) := by
                show _ = _
                unfold fileL
                rw [bytesN_app, bytesN_app, bytesN_app, bytesN_app, hR.out, hS2.out, bytesN_two (by omega), bytesN_B (l := [N]) (by intro c hc; simp at hc; omega), hlen, hms, ← hN]
                simp [bytesN]
              have hTs : (bytesB (twoL (1 + more.size))).size = 2 := rfl
              have hNs : (bytesB [N]).size = 1 := rfl
              generalize bytesB (twoL (1 + more.size)) = T at *
              have hNi : ((t.size - 1 + j : Nat) : Int) = (N : Int) := by rw [hN]
              have hwm : IntKind.wrap .i64 (1 + (more.size : Int)) = 1 + (more.size : Int) := wrap_in (by omega) (by omega)
              have hw8 : IntKind.wrap .u8 (((t.size - 1 : Nat) : Int) + (j : Int)) = (N : Int) := by
                rw [show (((t.size - 1 : Nat) : Int) + (j : Int)) = (N : Int) by omega, IntKind.wrap_u8]; omega
              have hcv : ∀ (w0 w : World), Kept [] (w0.alloc (.cells #[.int .u8 (N : Int)] 5)) w → (convert 77 9 (.slice (some ⟨w0.heap.size, 0, none⟩) 1 1)).run Tryz.prog w = .ok (.string (bytesB [N])) w := fun w0 w kk => by
                refine run_convert_bytes_back (P := Tryz.prog) _ 77 9 5 ⟨w0.heap.size, 0, none⟩ 1 [N.toUInt8] Tryz.underlying77 Tryz.underlying5 Tryz.underlying9 (fun q hq => ?_)
                have hq0 : q = 0 := by simp at hq; omega
                subst hq0
                rw [ptr_add, ((Blk.new w0 _ _).kept kk (by simp)).cell]
                show some (Value.int .u8 (N : Int)) = some (.int .u8 (N.toUInt8.toNat : Int))
                rw [Nat.toUInt8_eq, UInt8.toNat_ofNat', show N % 2 ^ 8 = N by omega]
              have hconv := fun w0 : World => hcv w0 _ ((Kept.refl [] _).drew)
              have hconv2 := fun w0 : World => hcv w0 _ (Kept.refl [] _)
              have hcvH : Hid (∀ (w0 w : World), _) := hcv
              clear hcv
              generalize bytesB [N] = X at *
              have hx1 : ¬ 9223372036854775807 < 2 + X.size := by omega
              have hx2 : ¬ 9223372036854775807 < 2 + X.size + R.size := by omega
              have hx3 : ¬ 9223372036854775807 < 2 + X.size + R.size + T.size := by omega
              have hx4 : ¬ 9223372036854775807 < 2 + X.size + R.size + T.size + S.size := by omega
              clear hTs hNs hS hS2 hs hR hie
              go_wp2_with fail
              go_region_law (go_simp; go_at_call 44; refine (gc.out _).mono ?_; rintro _ w9 ⟨rfl, k9⟩; have K9 : Kept [] wr w9 := Kept.trans (by first | exact ((Kept.refl _ _).alloc _).drew | exact (Kept.refl _ _).drew) k9; try have hc9 := hcvH.out wr w9 (((Kept.refl [] _).drew).trans k9))
              all_goals
                go_wp2
                go_ret
                first
                  | exact ⟨_, rfl, hfin.out, hK2.trans K9⟩
                  | exact ⟨_, rfl, hfin.out, hK2.trans (K9.alloc _)⟩

end Go.Proofs.YtgifhgnccmnbiabGreatDoor

set_option linter.unusedVariables false
set_option linter.unusedSimpArgs false
namespace Go.Proofs.YtgifhgnccmnbiabGreatDoor
open Go.RowKit Go.IntWalk

section
variable {f : ByteArray} {tx more : List Nat} {k : Nat} (h : Dbl f tx k more)
include h
theorem Dbl.whole : (sgT f).whole = ptOf (repL tx (2 ^ k) ++ more) := by
  obtain ⟨_, h2, h3⟩ := h.stext
  rw [h2.whole, h3]
theorem Dbl.cut {x y : Int} {w w' : World} {e : Ending} (ho : CutOut f x y w w' e) (hl : (repL tx (2 ^ k) ++ more).length ≤ 1099511627776) : RangeCase (repL tx (2 ^ k) ++ more) x y e := by
  obtain ⟨h1, h2, h3⟩ := h.stext
  have := ho.file h1 h2.sound h2.start h2.whole (by rw [h.whole, ptOf_len, capL_of (by omega)]; exact hl)
  rwa [h3] at this
theorem Dbl.shape {w w' : World} {e : Ending} (ho : ShapeOut f w w' e) (hl : (repL tx (2 ^ k) ++ more).length ≤ 1099511627776) :
    e = .returned (.tuple #[.agg (infoV 71 (1 + more.length) (repL tx (2 ^ k) ++ more).length (linesS (ptOf (repL tx (2 ^ k) ++ more)))), .int .i64 0]) := by
  obtain ⟨h1, h2, h3⟩ := h.stext
  have hw := h.whole
  have hlen : (sgT f).whole.len = (repL tx (2 ^ k) ++ more).length := by rw [hw, ptOf_len, capL_of (by omega)]
  obtain ⟨e1, e2, e3, e4, e5⟩ := h.ok.read
  have hsy : (sgT f).syms = 1 + more.length := by show (sgN f).1 = _; rw [e3, ← h.gn]
  rcases ho.out with ⟨hn, _⟩ | ⟨t, ht, ⟨h4, _⟩ | ⟨h4, he⟩⟩
  · exact absurd h1 (hn _)
  · have := ht.one h1
    subst this
    omega
  · have := ht.one h1
    subst this
    rw [he, hsy, hlen, hw]
    rfl
end
def oneF : ByteArray := ⟨#[83, 71, 0, 1, 0, 97, 0]⟩
theorem one_dbl : Dbl oneF [97] 0 [] := ⟨rfl, by decide, by decide, by decide, by decide, by intro c hc; simp at hc; omega, fun c hc => by simp at hc⟩

set_option maxHeartbeats 1000000 in
set_option maxRecDepth 100000 in
theorem opening_any (w : World) : Calls Tryz.prog 36 #[] w fun e w' => e = .returned (.bool true) ∧ Below w.heap.size w w' := by
  have h1 : Hid (Calls _ _ _ w _) := shape_any oneF (by unfold maxLen; decide) w
  have h2 : Hid (∀ w, Calls _ _ _ w _) := fun w => cut_any oneF (by unfold maxLen; decide) 0 1 (by omega) (by omega) (by omega) (by omega) w
  unfold oneF at h1 h2
  go_enter Tryz.func36, Tryz.ntmps36
  go_wp2_with fail
  refine h1.out.mono ?_
  rintro e w1 ho
  have e1 := one_dbl.shape ho (by decide)
  have hl : infoV 71 (1 + ([] : List Nat).length) (repL [97] (2 ^ 0) ++ []).length (linesS (ptOf (repL [97] (2 ^ 0) ++ []))) = #[.int .i64 71, .int .i64 1, .int .i64 1, .int .i64 1] := rfl
  rw [hl] at e1
  subst e1
  have hb1 : Hid (Below w.heap.size w w1) := ho.below
  clear ho h1 hl
  go_wp2_with fail
  refine (h2.out _).mono ?_
  rintro e w2 ho
  have e2 := one_dbl.cut ho (by decide)
  have e3 : e = .returned (.tuple #[.string ⟨#[97]⟩, .int .i64 0]) := by
    rcases e2 with ⟨h, _⟩ | ⟨_, h⟩
    · exact absurd (by unfold RangeOk; decide) h
    · rw [h]; rfl
  subst e3
  have hA : Blk w2 w1.heap.size #[.int .i64 71, .int .i64 1, .int .i64 1, .int .i64 1] 47 := (ho.below.block _ (by simp)).trans (Blk.new w1 _ _)
  have hsz := hb1.out.size
  have hb2 : Hid (Below w.heap.size w w2) := (hb1.out.alloc hsz (.cells #[.int .i64 71, .int .i64 1, .int .i64 1, .int .i64 1] 47)).trans (ho.below.mono (by simp; omega))
  have d0 : w2.cell? ⟨w1.heap.size, 0, none⟩ = some (.int .i64 71) := hA.cell 0
  have d1 : w2.cell? ⟨w1.heap.size, 1, none⟩ = some (.int .i64 1) := hA.cell 1
  have d2 : w2.cell? ⟨w1.heap.size, 2, none⟩ = some (.int .i64 1) := hA.cell 2
  have d3 : w2.cell? ⟨w1.heap.size, 3, none⟩ = some (.int .i64 1) := hA.cell 3
  clear hA ho e2 h2 hb1
  go_wp2
  go_ret
  exact ⟨rfl, hb2.out⟩

end Go.Proofs.YtgifhgnccmnbiabGreatDoor

set_option linter.unusedVariables false
set_option linter.unusedSimpArgs false
namespace Go.Proofs.YtgifhgnccmnbiabGreatDoor
open Go.RowKit Go.IntWalk

/-- A file, its kind, and its text. -/
structure HasText (f : ByteArray) (kind : Int) (X : List Nat) : Prop where
  ex : ∃ t T, SFile f t ∧ SText t T ∧ t.start.flatMap (symT T) = X ∧ t.kind = kind
section
variable {f : ByteArray} {kind : Int} {X : List Nat} (h : HasText f kind X)
include h
theorem HasText.cut {x y : Int} {w w' : World} {e : Ending} (ho : CutOut f x y w w' e) (hl : X.length ≤ 1099511627776) : RangeCase X x y e := by
  obtain ⟨t, T, h1, h2, h3, _⟩ := h.ex
  have hw : t.whole.len ≤ 1099511627776 := by rw [h2.whole, h3, ptOf_len, capL_of (by omega)]; exact hl
  have := ho.file h1 h2.sound h2.start h2.whole hw
  rwa [h3] at this
theorem HasText.shape {w w' : World} {e : Ending} (ho : ShapeOut f w w' e) (hl : X.length ≤ 1099511627776) :
    ∃ n : Nat, e = .returned (.tuple #[.agg (infoV kind n X.length (linesS (ptOf X))), .int .i64 0]) := by
  obtain ⟨t, T, h1, h2, h3, h4⟩ := h.ex
  have hlen : t.whole.len = X.length := by rw [h2.whole, h3, ptOf_len, capL_of (by omega)]
  have hw : t.whole = ptOf X := by rw [h2.whole, h3]
  rcases ho.out with ⟨hn, _⟩ | ⟨t', ht, ⟨h5, _⟩ | ⟨h5, he⟩⟩
  · exact absurd h1 (hn _)
  · have := ht.one h1
    subst this
    omega
  · have := ht.one h1
    subst this
    exact ⟨t'.syms, by rw [he, hlen, hw, h4]⟩
end
/-- What the code's reader makes of a good file of rules. -/
theorem GOk.stext {f : ByteArray} (hg : GOk f) : SFile f (sgT f) ∧ SText (sgT f) (gTx f (bt f 2)) ∧ (sgT f).start = gTop f (gN f) ∧ (sgT f).kind = 71 := by
  have hf : SFile f (sgT f) := SFile.rules (by have := hg.five; omega) hg.most hg.sg hg.ok
  obtain ⟨e1, e2, e3, e4, e5⟩ := hg.read
  have hR : (sgT f).rules = gRu f (bt f 2) := by show (sgG f).1 = _; rw [e2]
  have hSt : (sgT f).start = gTop f (gN f) := e5
  have hW : (sgT f).whole = ptOf ((gTop f (gN f)).flatMap (symT (gTx f (bt f 2)))) := by
    show wholeP (sgG f).1 (sgS f).1 = _
    rw [e2, e5]
    exact whole_pt (hg.sound _ (Nat.le_refl _)) _ (fun s hs => by rw [gTx_len]; exact hg.top _ (Nat.le_refl _) s hs) []
  exact ⟨hf, ⟨by rw [hR]; exact hg.sound _ (Nat.le_refl _), by rw [hR, hSt, gRu_len]; exact fun s hs => hg.top _ (Nat.le_refl _) s hs, by rw [hSt]; exact hW, by rw [hR, gRu_len]; have := hg.r; omega, by rw [hSt, gTop_len]; have := hg.n; omega⟩, hSt, rfl⟩

/-- A file: SG, so many rules, and then numbers of two bytes. -/
structure GNum (f : ByteArray) (q : Nat) (L : List Nat) : Prop where
  file : bytesN f = [83, 71, q] ++ L.flatMap twoL
section
variable {f : ByteArray} {q : Nat} {L : List Nat} (h : GNum f q L)
include h
theorem GNum.size : f.size = 3 + 2 * L.length := by
  rw [← bytesN_len, h.file, List.length_append, more_len]; simp
theorem GNum.b0 : bt f 0 = 83 := by rw [bt_list, h.file]; rfl
theorem GNum.b1 : bt f 1 = 71 := by rw [bt_list, h.file]; rfl
theorem GNum.b2 : bt f 2 = q := by rw [bt_list, h.file]; rfl
theorem GNum.at (i j : Nat) (hi : i < L.length) (hj : j < 2) : bt f (3 + 2 * i + j) = (twoL (L.getD i 0)).getD j 0 := by
  rw [bt_list, h.file, ← more_get L i j hi hj]
  simp only [List.getD]
  rw [List.getElem?_append_right (by simp; omega)]
  congr 2
  simp; omega
theorem GNum.pr (i : Nat) (hi : i < L.length) : prI f (3 + 2 * i) = (L.getD i 0 : Int) := by
  have hs := h.size
  rw [prI_of (by omega)]
  have e0 := h.at i 0 hi (by omega)
  have e1 := h.at i 1 hi (by omega)
  rw [Nat.add_zero] at e0
  rw [e0, e1]
  exact congrArg _ (two_nat _)
end

theorem bytesB_appF (l m : List Nat) : bytesB (l ++ m) = bytesB l ++ bytesB m := by
  apply ByteArray.ext
  unfold bytesB
  rw [ByteArray.data_append]
  simp
theorem gst_get (t : ByteArray) : ∀ q i, i < q → (gst t q).1[i]? = some (bestL (gst t i).2)
  | 0, i, h => by omega
  | q + 1, i, h => by
    have hl := (gst_inv t q).rl
    show ((gst t q).1 ++ [bestL (gst t q).2])[i]? = _
    by_cases hi : i < q
    · rw [List.getElem?_append_left (by omega)]; exact gst_get t q i hi
    · have : i = q := by omega
      subst this
      rw [List.getElem?_append_right (by omega), hl, Nat.sub_self]; rfl
theorem pairs_len (R : List Cand) : (R.flatMap fun p => [p.a, p.b]).length = 2 * R.length := by
  induction R with
  | nil => rfl
  | cons p R ih => rw [List.flatMap_cons, List.length_append, ih]; simp; omega
theorem pairs_get : ∀ (R : List Cand) (i : Nat) (p : Cand), R[i]? = some p → (R.flatMap fun p => [p.a, p.b]).getD (2 * i) 0 = p.a ∧ (R.flatMap fun p => [p.a, p.b]).getD (2 * i + 1) 0 = p.b
  | [], i, p, h => by simp at h
  | x :: R, 0, p, h => by simp at h; subst h; exact ⟨rfl, rfl⟩
  | x :: R, i + 1, p, h => by
    have := pairs_get R i p (by simpa using h)
    rw [List.flatMap_cons]
    have e : 2 * (i + 1) = 2 * i + 1 + 1 := by omega
    rw [e]
    exact this
def gL (t : ByteArray) (q : Nat) : List Nat := ((gst t q).1.flatMap fun p => [p.a, p.b]) ++ [(gst t q).2.length] ++ (gst t q).2
theorem ruleBytes_two (R : List Cand) : ruleBytes R = (R.flatMap fun p => [p.a, p.b]).flatMap twoL := by
  unfold ruleBytes
  induction R with
  | nil => rfl
  | cons p R ih => rw [List.flatMap_cons, List.flatMap_cons, List.flatMap_append, ih]; rfl
theorem two_small {L : List Nat} (h : ∀ c, c ∈ L → c < 65536) : ∀ c, c ∈ L.flatMap twoL → c < 256 := fun c hc => by
  obtain ⟨x, hx, hc⟩ := List.mem_flatMap.1 hc
  exact twoL_lt (by have := h x hx; omega) c hc
theorem gL_rule {t : ByteArray} {q : Nat} {i : Nat} (hi : i < q) : (gL t q).getD (2 * i) 0 = (bestL (gst t i).2).a ∧ (gL t q).getD (2 * i + 1) 0 = (bestL (gst t i).2).b := by
  have hl := (gst_inv t q).rl
  have hg := pairs_get _ _ _ (gst_get t q i hi)
  have hn := pairs_len (gst t q).1
  unfold gL
  simp only [List.getD] at hg ⊢
  rw [List.append_assoc, List.getElem?_append_left (by omega), List.getElem?_append_left (by omega)]
  exact hg
theorem gL_n {t : ByteArray} {q : Nat} : (gL t q).getD (2 * q) 0 = (gst t q).2.length := by
  have hl := (gst_inv t q).rl
  have hn := pairs_len (gst t q).1
  unfold gL
  simp only [List.getD]
  rw [List.append_assoc, List.getElem?_append_right (by omega), show 2 * q - (List.flatMap (fun p => [p.a, p.b]) (gst t q).1).length = 0 by omega]
  rfl
theorem gL_s {t : ByteArray} {q : Nat} (j : Nat) : (gL t q).getD (2 * q + 1 + j) 0 = (gst t q).2.getD j 0 := by
  have hl := (gst_inv t q).rl
  have hn := pairs_len (gst t q).1
  unfold gL
  simp only [List.getD]
  rw [List.append_assoc, List.getElem?_append_right (by omega), show 2 * q + 1 + j - (List.flatMap (fun p => [p.a, p.b]) (gst t q).1).length = j + 1 by omega]
  rfl
theorem gL_len {t : ByteArray} {q : Nat} : (gL t q).length = 2 * q + 1 + (gst t q).2.length := by
  have hl := (gst_inv t q).rl
  have hn := pairs_len (gst t q).1
  unfold gL
  rw [List.length_append, List.length_append, hn, hl]; rfl
section
variable {t : ByteArray} {q : Nat} (ht : t.size ≤ 600) (hq : q ≤ 100)
include ht hq
theorem gL_lt : ∀ c, c ∈ gL t q → c < 65536 := fun c hc => by
  have hi := gst_inv t q
  unfold gL at hc
  rcases List.mem_append.1 hc with hc | hc
  · rcases List.mem_append.1 hc with hc | hc
    · obtain ⟨p, hp, hc⟩ := List.mem_flatMap.1 hc
      have := hi.rb p hp
      simp at hc
      omega
    · simp at hc
      have := hi.sl
      omega
  · have := hi.sb c hc
    omega
theorem gfile_num : GNum (gfile (gst t q).1 (gst t q).2) q (gL t q) := by
  have hi := gst_inv t q
  have hb := two_small (gL_lt ht hq)
  refine ⟨?_⟩
  have e : gfile (gst t q).1 (gst t q).2 = bytesB ([83, 71, q] ++ (gL t q).flatMap twoL) := by
    unfold gfile gbody gL
    rw [ruleBytes_two, hi.rl]
    show bytesB [83, 71] ++ _ = _
    rw [← bytesB_appF]
    congr 1
    simp only [List.flatMap_append, List.append_assoc, List.cons_append, List.nil_append, symBytes]
    rfl
  rw [e]
  exact bytesN_B fun c hc => by
    rcases List.mem_append.1 hc with hc | hc
    · simp at hc; omega
    · exact hb c hc
theorem gfile_ok : GOk (gfile (gst t q).1 (gst t q).2) := by
  have h := gfile_num ht hq
  have hs := h.size
  have hl := gL_len (t := t) (q := q)
  have hsl := (gst_inv t q).sl
  have e2 := h.b2
  have hn : prI (gfile (gst t q).1 (gst t q).2) (3 + 4 * q) = ((gst t q).2.length : Int) := by
    have := h.pr (2 * q) (by omega)
    rwa [gL_n, show 3 + 2 * (2 * q) = 3 + 4 * q by omega] at this
  refine ⟨by omega, by omega, ⟨h.b0, h.b1⟩, by omega, fun k hk => ?_, ?_, ?_, ?_, fun k hk => ?_⟩
  · rw [e2] at hk
    rw [h.pr k (by omega)]
    have hb := fun i => bestL_lt (gst_inv t i).sb (by omega)
    obtain ⟨j, hj | hj⟩ : ∃ j, k = 2 * j ∨ k = 2 * j + 1 := ⟨k / 2, by omega⟩
    · subst hj
      rw [(gL_rule (t := t) (by omega : j < q)).1]
      have := hb j
      omega
    · subst hj
      rw [(gL_rule (t := t) (by omega : j < q)).2]
      have := hb j
      omega
  · rw [e2, hn]; omega
  · rw [e2, hn]; omega
  · rw [e2, hn, hs, hl]; omega
  · rw [e2, hn] at hk
    rw [e2]
    have := h.pr (2 * q + 1 + k) (by omega)
    rw [gL_s, show 3 + 2 * (2 * q + 1 + k) = 5 + 4 * q + 2 * k by omega] at this
    rw [this]
    have hk2 : k < (gst t q).2.length := by omega
    have e : (gst t q).2.getD k 0 = (gst t q).2[k] := by simp [List.getD, hk2]
    have := (gst_inv t q).sb _ (List.getElem_mem hk2)
    rw [e]; omega
theorem gfile_tx : ∀ i, i ≤ q → gTx (gfile (gst t q).1 (gst t q).2) i = gTab t i
  | 0, _ => rfl
  | i + 1, hi => by
    have h := gfile_num ht hq
    have hl := gL_len (t := t) (q := q)
    have ih := gfile_tx i (by omega)
    have r := gL_rule (t := t) (by omega : i < q)
    have ea : gA (gfile (gst t q).1 (gst t q).2) i = (bestL (gst t i).2).a := by
      have := h.pr (2 * i) (by omega)
      rw [r.1, show 3 + 2 * (2 * i) = 3 + 4 * i by omega] at this
      unfold gA; rw [this]; rfl
    have eb : gB (gfile (gst t q).1 (gst t q).2) i = (bestL (gst t i).2).b := by
      have := h.pr (2 * i + 1) (by omega)
      rw [r.2, show 3 + 2 * (2 * i + 1) = 5 + 4 * i by omega] at this
      unfold gB; rw [this]; rfl
    rw [gTab_succ]
    show gTx _ i ++ [symT (gTx _ i) (gA _ i) ++ symT (gTx _ i) (gB _ i)] = _
    rw [ea, eb, ih]
theorem gfile_top : gTop (gfile (gst t q).1 (gst t q).2) (gN (gfile (gst t q).1 (gst t q).2)) = (gst t q).2 := by
  have h := gfile_num ht hq
  have hl := gL_len (t := t) (q := q)
  have e2 := h.b2
  have hn : gN (gfile (gst t q).1 (gst t q).2) = (gst t q).2.length := by
    have := h.pr (2 * q) (by omega)
    rw [gL_n, show 3 + 2 * (2 * q) = 3 + 4 * q by omega] at this
    unfold gN; rw [e2, this]; rfl
  rw [hn]
  have key : ∀ j, j ≤ (gst t q).2.length → gTop (gfile (gst t q).1 (gst t q).2) j = (gst t q).2.take j := by
    intro j
    induction j with
    | zero => intro _; rfl
    | succ j ih =>
      intro hj
      show gTop _ j ++ [gS _ j] = _
      have es : gS (gfile (gst t q).1 (gst t q).2) j = (gst t q).2.getD j 0 := by
        have := h.pr (2 * q + 1 + j) (by omega)
        rw [gL_s, show 3 + 2 * (2 * q + 1 + j) = 5 + 4 * q + 2 * j by omega] at this
        unfold gS; rw [e2, this]; rfl
      rw [ih (by omega), es, List.take_add_one, List.getElem?_eq_getElem (by omega)]
      simp [List.getD, List.getElem?_eq_getElem (by omega : j < (gst t q).2.length)]
  rw [key _ (Nat.le_refl _), List.take_length]
theorem gfile_text : HasText (gfile (gst t q).1 (gst t q).2) 71 (bytesN t) := by
  obtain ⟨h1, h2, h3, h4⟩ := (gfile_ok ht hq).stext
  refine ⟨_, _, h1, h2, ?_, h4⟩
  rw [h3, gfile_top ht hq, (gfile_num ht hq).b2, gfile_tx ht hq q (Nat.le_refl _)]
  exact flat_gst t q
end

end Go.Proofs.YtgifhgnccmnbiabGreatDoor

set_option linter.unusedVariables false
set_option linter.unusedSimpArgs false
namespace Go.Proofs.YtgifhgnccmnbiabGreatDoor
open Go.RowKit Go.IntWalk

/-- Why options and a pattern are refused. -/
def OptBad (mx : Int) (p : ByteArray) (x : Int) : Prop := (mx < 0 ∧ x = 1) ∨ (0 ≤ mx ∧ PatE p x)
theorem opt_cases (mx : Int) (p : ByteArray) : (∃ x, OptBad mx p x) ∨ (0 ≤ mx ∧ ∃ r, PatOk p r) := by
  by_cases h : mx < 0
  · exact Or.inl ⟨1, Or.inl ⟨h, rfl⟩⟩
  · rcases pat_cases p with ⟨x, hx⟩ | ⟨r, hr⟩
    · exact Or.inl ⟨x, Or.inr ⟨by omega, hx⟩⟩
    · exact Or.inr ⟨by omega, r, hr⟩
theorem PatE.nz {p : ByteArray} {x : Int} (h : PatE p x) : x ≠ 0 := by
  rcases h with ⟨_, rfl⟩ | ⟨_, r, _, ⟨_, rfl⟩ | ⟨_, _, rfl⟩⟩ <;> decide
theorem OptBad.nz {mx : Int} {p : ByteArray} {x : Int} (h : OptBad mx p x) : x ≠ 0 := by
  rcases h with ⟨_, rfl⟩ | ⟨_, h⟩
  · decide
  · exact h.nz
section
variable {inv fold whole num : Bool} {mx x : Int} {p f : ByteArray}
theorem sread_opt (h : OptBad mx p x) (hp : p.size ≤ maxLen) (w : World) :
    Calls Tryz.prog 55 #[.agg #[.bool inv, .bool fold, .bool whole, .bool num, .int .i64 mx], .string p] w fun e w' => e = .returned (.tuple #[.agg #[.slice none 0 0, .int .i64 0], .int .i64 x]) ∧ Below w.heap.size w w' := by
  rcases h with ⟨h, rfl⟩ | ⟨h0, h⟩
  · exact sread_neg inv fold whole num mx p w h
  · exact sread_bad h inv fold whole num mx w h0 hp
theorem count_opt (h : OptBad mx p x) (hp : p.size ≤ maxLen) (f : ByteArray) (w : World) :
    Calls Tryz.prog 18 #[.agg #[.bool inv, .bool fold, .bool whole, .bool num, .int .i64 mx], .string p, .string f] w fun e w' => e = .returned (.tuple #[.int .i64 0, .int .i64 x]) ∧ Below w.heap.size w w' :=
  count_no w h.nz (fun w => sopen_no w h.nz (fun w => sread_opt h hp w))
theorem grep_opt (h : OptBad mx p x) (hp : p.size ≤ maxLen) (f : ByteArray) (w : World) :
    Calls Tryz.prog 9 #[.agg #[.bool inv, .bool fold, .bool whole, .bool num, .int .i64 mx], .string p, .string f] w fun e w' => e = .returned (.tuple #[.string ⟨#[]⟩, .int .i64 x]) ∧ Below w.heap.size w w' :=
  grep_no w h.nz (fun w => sopen_no w h.nz (fun w => sread_opt h hp w))
theorem HasText.count {kind : Int} {X : List Nat} (h : HasText f kind X) (hX : X.length ≤ 1099511627776) (hf : f.size ≤ maxLen) {r : Nat × PS} (hr : PatOk p r) (hm0 : 0 ≤ mx) (hm2 : mx ≤ 9223372036854775807) (w : World) :
    Calls Tryz.prog 18 #[.agg #[.bool inv, .bool fold, .bool whole, .bool num, .int .i64 mx], .string p, .string f] w fun e w' => e = .returned (.tuple #[.int .i64 (capI mx (cnt (machOf r fold whole) inv (linesL X))), .int .i64 0]) ∧ Below w.heap.size w w' := by
  obtain ⟨t, T, h1, h2, h3, _⟩ := h.ex
  have hw : t.whole.len ≤ 1099511627776 := by rw [h2.whole, h3, ptOf_len, capL_of (by omega)]; exact hX
  have := count_go (inv := inv) (fold := fold) (whole := whole) (num := num) w (by omega) hm2 h2 hw (fun w => sopen_ok hr w hm0 h2 (fun w => read_good hf h1 hw w))
  rwa [h3] at this
theorem HasText.grep {kind : Int} {X : List Nat} (h : HasText f kind X) (hX : X.length ≤ 1099511627776) (hf : f.size ≤ maxLen) {r : Nat × PS} (hr : PatOk p r) (hm0 : 0 ≤ mx) (hm2 : mx ≤ 9223372036854775807) (w : World) (htab : TabP w) :
    Calls Tryz.prog 9 #[.agg #[.bool inv, .bool fold, .bool whole, .bool num, .int .i64 mx], .string p, .string f] w fun e w' => e = .returned (.tuple #[.string (grepR (outP num X (flC (machOf r fold whole) inv mx X))).1, .int .i64 (grepR (outP num X (flC (machOf r fold whole) inv mx X))).2]) ∧ Below w.heap.size w w' := by
  obtain ⟨t, T, h1, h2, h3, _⟩ := h.ex
  have hw : t.whole.len ≤ 1099511627776 := by rw [h2.whole, h3, ptOf_len, capL_of (by omega)]; exact hX
  have := grep_go (inv := inv) (fold := fold) (whole := whole) (num := num) w htab (by omega) hm2 h2 hw (fun w => sopen_ok hr w hm0 h2 (fun w => read_good hf h1 hw w))
  rwa [h3] at this
end

end Go.Proofs.YtgifhgnccmnbiabGreatDoor

set_option linter.unusedVariables false
set_option linter.unusedSimpArgs false
namespace Go.Proofs.YtgifhgnccmnbiabGreatDoor
open Go.RowKit Go.IntWalk

theorem run_set (M : MP) (l : ByteArray) : ∀ q, q ≤ l.size → runM M ((bytesN l).take q) M.beg = setN M l q
  | 0, _ => by rw [List.take_zero]; rfl
  | q + 1, hq => by
    have hb : (bytesN l)[q]? = some l[q].toNat := by
      unfold bytesN
      rw [List.getElem?_map, Array.getElem?_toList, Array.getElem?_eq_getElem (show q < l.data.size from hq)]
      rfl
    rw [List.take_add_one, hb, runM_app, run_set M l q (by omega)]
    show fromP M (M.takes l[q].toNat) (setN M l q) = fromP M (M.takes (if h : q < l.size then l[q].toNat else 0)) (setN M l q)
    rw [dif_pos (by omega)]
theorem selSame {p : ByteArray} {r : Nat × PS} (h : PatOk p r) (fold whole inv : Bool) (l : ByteArray) : selL (machOf r fold whole) inv (bytesN l) = (selB r fold whole l != inv) := by
  have e : selB r fold whole l = matchesN (machOf r fold whole) l := (all_same p r h.small h.ev h.good h.size fold whole l).symm
  have e2 := run_set (machOf r fold whole) l l.size (Nat.le_refl _)
  rw [List.take_of_length_le (by rw [bytesN_len]; omega)] at e2
  rw [e]
  unfold selL matchesN
  rw [e2]
  generalize decide (setN (machOf r fold whole) l l.size &&& (machOf r fold whole).en = 0#64) = d
  cases d <;> cases inv <;> rfl
theorem Dbl.text {f : ByteArray} {tx more : List Nat} {k : Nat} (h : Dbl f tx k more) : HasText f 71 (repL tx (2 ^ k) ++ more) := by
  obtain ⟨h1, h2, h3⟩ := h.stext
  exact ⟨_, _, h1, h2, h3, rfl⟩
theorem one_text : HasText oneF 71 [97] := one_dbl.text

set_option maxHeartbeats 1000000 in
set_option maxRecDepth 100000 in
theorem searching_any (w : World) (htab : TabP w) : Calls Tryz.prog 38 #[] w fun e w' => e = .returned (.bool true) ∧ Below w.heap.size w w' := by
  have hs : selL (machOf aRes false false) false [97] = true := by
    have := selSame a_ok false false false aText
    rw [a_sel] at this
    exact this
  have hl : linesL [97] = [[97]] := rfl
  have hc : Hid (∀ w, Calls _ _ _ w _) := fun w => one_text.count (inv := false) (fold := false) (whole := false) (num := false) (mx := 0) (by decide) (by unfold maxLen; decide) a_ok (by omega) (by omega) w
  have hg : Hid (∀ w, TabP w → Calls _ _ _ w _) := fun w ht => one_text.grep (inv := false) (fold := false) (whole := false) (num := false) (mx := 0) (by decide) (by unfold maxLen; decide) a_ok (by omega) (by omega) w ht
  have e1 : capI 0 (cnt (machOf aRes false false) false (linesL [97])) = 1 := by
    rw [hl]
    unfold cnt
    rw [List.filter_cons, if_pos hs]
    rfl
  have e2 : flC (machOf aRes false false) false 0 [97] = [⟨1, 0, 1⟩] := by
    unfold flC
    rw [e1]
    unfold flX
    rw [hl]
    unfold selE
    rw [if_pos hs]
    rfl
  have e3 : grepR (outP false [97] [⟨1, 0, 1⟩]) = (⟨#[97, 10]⟩, 0) := by decide
  rw [e1] at hc
  rw [e2, e3] at hg
  have hgH : Hid (∀ w', Below w.heap.size w w' → Calls _ _ _ w' _) := fun w' b => hg.out w' (htab.kept (below_kept b))
  unfold aText oneF at hc hgH
  clear hg e1 e2 e3 hs hl htab
  simp only [] at hgH
  go_enter Tryz.func38, Tryz.ntmps38
  go_wp2_with (first
    | (go_at_call 18; refine (hc.out _).mono ?_; rintro e w1 ⟨rfl, b1⟩)
    | (go_at_call 9; refine (hgH.out _ b1).mono ?_; rintro e w2 ⟨rfl, b2⟩))
  go_ret
  exact ⟨rfl, b1.trans (b2.mono b1.size)⟩

set_option maxHeartbeats 1000000 in
set_option maxRecDepth 100000 in
theorem awake_any (w : World) (htab : TabP w) : Calls Tryz.prog 12 #[] w fun e w' => e = .returned (.bool true) ∧ Below w.heap.size w w' := by
  have h1 : Hid (∀ w, Calls _ _ _ w _) := matching_any
  have h2 : Hid (∀ w, Calls _ _ _ w _) := opening_any
  have h3 : Hid (∀ w, Calls _ _ _ w _) := packing_any
  have h4 : Hid (∀ w', Below w.heap.size w w' → Calls _ _ _ w' _) := fun w' b => searching_any w' (htab.kept (below_kept b))
  clear htab
  go_enter Tryz.func12, Tryz.ntmps12
  go_wp2_with (first
    | (go_at_call 35; refine (h1.out _).mono ?_; rintro e w1 ⟨rfl, b1⟩)
    | (go_at_call 36; refine (h2.out _).mono ?_; rintro e w2 ⟨rfl, b2⟩; have B2 : Hid (Below w.heap.size w w2) := b1.trans (b2.mono b1.size))
    | (go_at_call 37; refine (h3.out _).mono ?_; rintro e w3 ⟨rfl, b3⟩; have B3 : Hid (Below w.heap.size w w3) := B2.out.trans (b3.mono B2.out.size))
    | (go_at_call 38; refine (h4.out _ B3.out).mono ?_; rintro e w4 ⟨rfl, b4⟩))
  go_ret
  exact ⟨rfl, B3.out.trans (b4.mono B3.out.size)⟩

end Go.Proofs.YtgifhgnccmnbiabGreatDoor

set_option linter.unusedVariables false
set_option linter.unusedSimpArgs false
namespace Go.Proofs.YtgifhgnccmnbiabGreatDoor
open Go.RowKit Go.IntWalk

def sy (T : List (List Nat)) (a : Nat) : List Nat := if a < 256 then [a] else T.getD (a - 257) []
theorem sy_app {T : List (List Nat)} {x : List Nat} {a : Nat} (h : a < 256 ∨ (257 ≤ a ∧ a < 257 + T.length)) : sy (T ++ [x]) a = sy T a := by
  unfold sy
  by_cases h1 : a < 256
  · rw [if_pos h1, if_pos h1]
  · rw [if_neg h1, if_neg h1]
    simp only [List.getD]
    rw [List.getElem?_append_left (by omega)]
theorem wid_eq {wd n m : Nat} (hwd : 9 ≤ wd ∧ wd ≤ 12) (h : n = m ∨ (n + 1 = m ∧ m = 2 ^ wd)) : widP n wd = widP m wd := by
  rcases h with h | ⟨h1, h2⟩
  · rw [h]
  · have hmm : wd = 9 ∨ wd = 10 ∨ wd = 11 ∨ wd = 12 := by omega
    rcases hmm with rfl | rfl | rfl | rfl
    · have : m = 512 := h2
      have : n = 511 := by omega
      subst this; subst h2; rfl
    · have : m = 1024 := h2
      have : n = 1023 := by omega
      subst this; subst h2; rfl
    · have : m = 2048 := h2
      have : n = 2047 := by omega
      subst this; subst h2; rfl
    · have : m = 4096 := h2
      have : n = 4095 := by omega
      subst this; subst h2; rfl

/-- The bits of these bytes are those of a number, but for its lowest eight. -/
structure BitsOf (B : ByteArray) (V : Nat) : Prop where
  byte : ∀ i, i < B.size → bt B i = dig V (i + 1)
theorem mod_bit (x k : Nat) (hk : k < 8) : x % 256 / 2 ^ k % 2 = x / 2 ^ k % 2 := by
  have hk2 : k = 0 ∨ k = 1 ∨ k = 2 ∨ k = 3 ∨ k = 4 ∨ k = 5 ∨ k = 6 ∨ k = 7 := by omega
  rcases hk2 with rfl | rfl | rfl | rfl | rfl | rfl | rfl | rfl <;> simp only [Nat.reducePow] <;> omega
theorem BitsOf.bit {B : ByteArray} {V : Nat} (h : BitsOf B V) {p : Nat} (hp : p / 8 < B.size) : bitP B p = V / 2 ^ (8 + p) % 2 := by
  unfold bitP
  rw [h.byte _ hp]
  unfold dig
  rw [mod_bit _ _ (by omega), Nat.div_div_eq_div_mul, ← pow8]
  congr 3; omega
theorem BitsOf.num {B : ByteArray} {V : Nat} (h : BitsOf B V) {p : Nat} : ∀ w, p + w ≤ 8 * B.size → (numB B p w).1 = V / 2 ^ (8 + p) % 2 ^ w
  | 0, _ => by simp [numB, Nat.mod_one]
  | w + 1, hw => by
    have ih := h.num (p := p) w (by omega)
    have he := numB_end (B := B) (p := p) w (by omega)
    show (numB B p w).1 + (nextB B (numB B p w).2).1 * 2 ^ w = _
    rw [ih, he]
    have : (nextB B (p + w)).1 = V / 2 ^ (8 + p) / 2 ^ w % 2 := by
      unfold nextB
      rw [if_pos (by omega)]
      show bitP B (p + w) = _
      rw [h.bit (by omega), Nat.div_div_eq_div_mul, ← Nat.pow_add, Nat.add_assoc]
    rw [this, Nat.mod_pow_succ, Nat.mul_comm]

/-- Going on adds only higher bits. -/
structure More (s s' : WS) : Prop where
  K : s.K ≤ s'.K
  V : s'.V % 2 ^ s.K = s.V % 2 ^ s.K
theorem More.refl (s : WS) : More s s := ⟨Nat.le_refl _, rfl⟩
theorem More.trans {a b c : WS} (h : More a b) (g : More b c) : More a c := ⟨Nat.le_trans h.K g.K, by
  have e := Nat.mod_mod_of_dvd c.V (Nat.pow_dvd_pow 2 h.K)
  rw [← e, g.V, Nat.mod_mod_of_dvd _ (Nat.pow_dvd_pow 2 h.K), h.V]⟩
theorem More.wrote (s : WS) (a w : Nat) (tab : List Ent) : More s ⟨s.V + a * 2 ^ s.K, s.K + w, tab⟩ := ⟨Nat.le_add_right _ _, by
  show (s.V + a * 2 ^ s.K) % 2 ^ s.K = _
  rw [Nat.mul_comm, Nat.add_mul_mod_self_left]⟩
theorem More.go (most : Nat) (s : WS) (num : Option Nat) (c : Nat) : More s (wgo most s num c).1 := by
  unfold wgo
  cases num with
  | none => exact More.refl _
  | some a =>
    simp only []
    cases zfind s.tab (a, c) 257 with
    | some i => exact More.refl _
    | none => exact More.wrote _ _ _ _
/-- The writer at a place of the text, and the reader behind the codes written so far. -/
structure ZR (t : ByteArray) (wd : Nat) (B : ByteArray) (q : Nat) (ws : WS) (a n : Nat) (r : ZB) (T : List (List Nat)) : Prop where
  it : zitB B wd n = some r
  on : ∀ i, i < n → ∃ x, zitB B wd i = some x ∧ zgoB B wd x = true
  num : r.n = n
  inv : ZBI B r
  p : ws.K = 8 + r.p
  bd : ws.V < 2 ^ ws.K
  tlen : T.length = ws.tab.length
  ent : ∀ (i : Nat) (y : Ent), ws.tab[i]? = some y → T.getD i [] = sy T y.1 ++ [y.2]
  rt : ∀ i, i < r.tab.length → bytesN (r.tab.getD i ByteArray.empty) = T.getD i []
  out : bytesN r.out ++ sy T a = (bytesN t).take q
  st : (r.last.size = 0 ∧ r.tab = [] ∧ ws.tab = []) ∨ (r.last.size ≠ 0 ∧
    ((r.tab.length + 1 = ws.tab.length ∧ 257 + r.tab.length < 2 ^ wd ∧ T.getD r.tab.length [] = bytesN r.last ++ [(sy T a).headD 0]) ∨
     (r.tab.length = ws.tab.length ∧ 2 ^ wd = 257 + r.tab.length)))
  ne : sy T a ≠ []
/-- The reader, one code on. -/
structure ZW (wd : Nat) (ws : WS) (a : Nat) (r r' : ZB) (T : List (List Nat)) : Prop where
  n : r'.n = r.n + 1
  p : r'.p = r.p + zwid wd ws.tab
  out : bytesN r'.out = bytesN r.out ++ sy T a
  last : bytesN r'.last = sy T a
  rt : ∀ i, i < r'.tab.length → bytesN (r'.tab.getD i ByteArray.empty) = T.getD i []
  len : r'.tab.length = ws.tab.length
section
variable {t : ByteArray} {wd : Nat} {B : ByteArray} {q : Nat} {ws : WS} {a n : Nat} {r : ZB} {T : List (List Nat)} (h : ZR t wd B q ws a n r T) (hI : WInv wd q ws (some a)) (hwd : 9 ≤ wd ∧ wd ≤ 12)
include h hI hwd
omit hI in
theorem ZR.wid : zwB wd r = zwid wd ws.tab := by
  unfold zwB zwid frB
  rcases h.st with ⟨_, e1, e2⟩ | ⟨_, ⟨e1, _, _⟩ | ⟨e1, e2⟩⟩
  · rw [e1, e2]; rfl
  · rw [if_pos (by omega)]
    congr 1; omega
  · have p9 : 2 ^ 9 ≤ 2 ^ wd := Nat.pow_le_pow_right (by decide) hwd.1
    have : (2 : Nat) ^ 9 = 512 := by decide
    rw [if_pos (by omega)]
    exact (wid_eq hwd (Or.inr ⟨by omega, by omega⟩)).symm
omit hI in
theorem ZR.go (hB : ws.K + zwid wd ws.tab ≤ 8 + 8 * B.size) : zgoB B wd r = true := by
  have := h.p
  unfold zgoB
  rw [h.wid hwd]
  exact decide_eq_true (by omega)
/-- The code that is written is read. -/
theorem ZR.read {F : WS} (hF : More ⟨ws.V + a * 2 ^ ws.K, ws.K + zwid wd ws.tab, ws.tab⟩ F) (hBF : BitsOf B F.V) (hB : ws.K + zwid wd ws.tab ≤ 8 + 8 * B.size) : (numB B r.p (zwB wd r)).1 = a := by
  have hp := h.p
  have hfit := hI.fits hwd rfl
  have hw := h.wid hwd
  rw [hBF.num _ (by rw [hw]; omega), hw, ← hp]
  have hV := hF.V
  simp only [] at hV
  have hlt := val_less (w := zwid wd ws.tab) h.bd hfit
  rw [Nat.mod_eq_of_lt hlt] at hV
  rw [← Nat.mod_mul_right_div_self, ← Nat.pow_add, hV]
  rw [Nat.add_mul_div_right _ _ (Nat.two_pow_pos _), Nat.div_eq_of_lt h.bd, Nat.zero_add]
omit hI hwd in
theorem ZR.first : ∃ c l, sy T a = c :: l := by
  cases hx : sy T a with
  | nil => exact absurd hx h.ne
  | cons c l => exact ⟨c, l, rfl⟩
theorem ZR.code (hc : (numB B r.p (zwB wd r)).1 = a) : ∃ r', zsB B wd r = some r' ∧ ZW wd ws a r r' T := by
  obtain ⟨ha, ha6⟩ := hI.num a rfl
  have hw := h.wid hwd
  have htl := h.tlen
  obtain ⟨c0, l0, hf⟩ := h.first
  unfold zsB tkB
  rw [hc, if_neg ha6]
  rcases h.st with ⟨e0, e1, e2⟩ | ⟨e0, e⟩
  · have ha2 : a < 256 := by rw [e2] at ha; simp at ha; omega
    have hn : nowB r a = ⟨#[a.toUInt8]⟩ := by
      unfold nowB entB frB
      rw [if_neg (by omega), if_pos ha2]
    have hs : sy T a = [a] := if_pos ha2
    rw [if_neg (fun hx => by omega), if_neg (fun hx => by unfold frB at hx; omega), if_neg (fun hx => hx.1 e0)]
    refine ⟨_, rfl, rfl, by rw [hw], ?_, ?_, ?_, ?_⟩
    · rw [bytesN_app, hn, bytesN_one ha2, hs]
    · rw [hn, bytesN_one ha2, hs]
    · intro i hi; rw [e1] at hi; exact absurd hi (Nat.not_lt_zero _)
    · rw [e1, e2]; rfl
  · rw [if_neg (fun hx => e0 hx.1)]
    have hlast : bytesN r.last ≠ [] := fun hx => e0 (bytesN_nil.1 hx)
    rcases e with ⟨e1, e2, e3⟩ | ⟨e1, e2⟩
    · have hle : a ≤ frB r := by unfold frB; omega
      rw [if_neg (fun hx => by
        rcases hx with hx | ⟨_, hx⟩
        · omega
        · exact hx e2), if_pos ⟨e0, e2⟩]
      -- what is read now is the text of the code
      have hnow : bytesN (nowB r a) = sy T a := by
        unfold nowB
        by_cases hx : a = frB r
        · rw [if_pos hx]
          have ha2 : ¬ a < 256 := by unfold frB at hx; omega
          have e4 : sy T a = bytesN r.last ++ [(sy T a).headD 0] := by
            rw [← e3]
            conv => lhs; unfold sy
            rw [if_neg ha2, show a - 257 = r.tab.length by unfold frB at hx; omega]
          rw [bytesN_app, bytesN_first e0, e4]
          congr 2
          cases hy : bytesN r.last with
          | nil => exact absurd hy hlast
          | cons y l =>
            rw [hy] at e4
            rw [e4]; rfl
        · rw [if_neg hx]
          unfold entB sy
          by_cases ha2 : a < 256
          · rw [if_pos ha2, if_pos ha2, bytesN_one ha2]
          · rw [if_neg ha2, if_neg ha2]
            exact h.rt _ (by unfold frB at hx hle; omega)
      have hne : (nowB r a).size ≠ 0 := fun hx => h.ne (by rw [← hnow]; exact bytesN_nil.2 hx)
      refine ⟨_, rfl, rfl, by rw [hw], by rw [bytesN_app, hnow], hnow, ?_, ?_⟩
      · intro i hi
        simp only [List.length_append, List.length_cons, List.length_nil] at hi
        by_cases hi2 : i < r.tab.length
        · have := h.rt i hi2
          simp only [List.getD] at this ⊢
          rw [List.getElem?_append_left hi2]
          exact this
        · have : i = r.tab.length := by omega
          subst this
          rw [e3]
          simp only [List.getD]
          rw [List.getElem?_append_right (Nat.le_refl _), Nat.sub_self]
          show bytesN (r.last ++ (nowB r a).extract 0 1) = _
          rw [bytesN_app, bytesN_first hne, hnow]
      · simp only [List.length_append, List.length_cons, List.length_nil]; omega
    · have hle : a < frB r := by unfold frB; omega
      rw [if_neg (fun hx => by
        rcases hx with hx | ⟨hx, _⟩ <;> omega), if_neg (fun hx => by have := hx.2; unfold frB at this; omega)]
      have hnow : bytesN (nowB r a) = sy T a := by
        unfold nowB
        rw [if_neg (by omega)]
        unfold entB sy
        by_cases ha2 : a < 256
        · rw [if_pos ha2, if_pos ha2, bytesN_one ha2]
        · rw [if_neg ha2, if_neg ha2]
          exact h.rt _ (by unfold frB at hle; omega)
      exact ⟨_, rfl, rfl, by rw [hw], by rw [bytesN_app, hnow], hnow, h.rt, e1⟩
/-- One byte of the text more. -/
theorem ZR.next {F : WS} (hB4 : B.size ≤ 4000) (hq : q < t.size) (hF : More (wgo wd ws (some a) (bt t q)).1 F) (hBF : BitsOf B F.V) (hFK : F.K ≤ 8 + 8 * B.size) : ∃ n' r' T', ZR t wd B (q + 1) (wgo wd ws (some a) (bt t q)).1 (wgo wd ws (some a) (bt t q)).2 n' r' T' := by
  have hnum := hI.num a rfl
  have htl := h.tlen
  have hc8 := bt_bd t q
  have htake : (bytesN t).take (q + 1) = (bytesN t).take q ++ [bt t q] := by
    have hql : q < (bytesN t).length := by rw [bytesN_len]; exact hq
    rw [List.take_add_one, List.getElem?_eq_getElem hql, bt_list]
    simp [List.getD, hql]
  unfold wgo at hF ⊢
  simp only [] at hF ⊢
  cases hz : zfind ws.tab (a, bt t q) 257 with
  | some i =>
    simp only [hz] at hF ⊢
    obtain ⟨z1, z2, z3⟩ := zfind_lt hz
    have he := h.ent _ _ z3
    have hs : sy T i = sy T a ++ [bt t q] := by
      conv => lhs; unfold sy
      rw [if_neg (by omega)]
      exact he
    refine ⟨n, r, T, h.it, h.on, h.num, h.inv, h.p, h.bd, h.tlen, h.ent, h.rt, ?_, ?_, ?_⟩
    · rw [hs, ← List.append_assoc, h.out, htake]
    · obtain ⟨c0, l0, hf⟩ := h.first
      have : (sy T i).headD 0 = (sy T a).headD 0 := by rw [hs, hf]; rfl
      rw [this]; exact h.st
    · rw [hs]; simp
  | none =>
    simp only [hz] at hF ⊢
    have hK := hF.K
    simp only [] at hK
    have hgo := h.go hwd (by omega)
    have hF2 : More ⟨ws.V + a * 2 ^ ws.K, ws.K + zwid wd ws.tab, ws.tab⟩ F := ⟨hF.K, hF.V⟩
    obtain ⟨r', hr', hW⟩ := h.code hI hwd (h.read hI hwd hF2 hBF (by omega))
    have hfit := hI.fits hwd rfl
    have hit : zitB B wd (n + 1) = some r' := by
      show (zitB B wd n).bind (zsB B wd) = _
      rw [h.it]; exact hr'
    have hon : ∀ i, i < n + 1 → ∃ x, zitB B wd i = some x ∧ zgoB B wd x = true := fun i hi => by
      by_cases hin : i = n
      · subst hin; exact ⟨r, h.it, hgo⟩
      · exact h.on i (by omega)
    have hinv : ZBI B r' := h.inv.take hgo hB4 hr'
    have hl0 : r'.last.size ≠ 0 := fun hx => h.ne (by rw [← hW.last]; exact bytesN_nil.2 hx)
    have hout : bytesN r'.out = (bytesN t).take q := by rw [hW.out, h.out]
    have hs1 : ∀ T, sy T (bt t q) = [bt t q] := fun T => if_pos hc8
    have hp := hW.p
    have hpp := h.p
    have hna : a < 256 ∨ (257 ≤ a ∧ a < 257 + T.length) := by omega
    rcases zjoin_cases wd ws.tab (a, bt t q) with ⟨e, hroom⟩ | ⟨e, hroom⟩
    · refine ⟨n + 1, r', T ++ [sy T a ++ [bt t q]], hit, hon, by rw [hW.n, h.num], hinv, by simp only []; omega, val_less h.bd hfit, by simp only [e, List.length_append, htl]; rfl, ?_, ?_, ?_, ?_, ?_⟩
      · intro i y hy
        simp only [e] at hy
        by_cases hi : i < ws.tab.length
        · rw [List.getElem?_append_left hi] at hy
          have hy2 := hI.ent i y hy
          rw [sy_app (by omega)]
          have := h.ent i y hy
          simp only [List.getD] at this ⊢
          rw [List.getElem?_append_left (by omega)]
          exact this
        · have hi2 : i = ws.tab.length := by
            have := (List.getElem?_eq_some_iff.1 hy).1
            simp at this; omega
          subst hi2
          rw [List.getElem?_append_right (Nat.le_refl _), Nat.sub_self] at hy
          simp at hy
          subst hy
          rw [sy_app hna]
          simp only [List.getD]
          rw [List.getElem?_append_right (by omega), htl, Nat.sub_self]
          rfl
      · intro i hi
        have := hW.rt i hi
        have hlen := hW.len
        simp only [List.getD] at this ⊢
        rw [List.getElem?_append_left (by omega)]
        exact this
      · rw [hs1, hout, htake]
      · right
        refine ⟨hl0, Or.inl ⟨by simp only [e, List.length_append, hW.len]; rfl, by rw [hW.len]; exact hroom, ?_⟩⟩
        rw [hs1, hW.len, hW.last]
        simp only [List.getD]
        rw [List.getElem?_append_right (by omega), htl, Nat.sub_self]
        rfl
      · rw [hs1]; simp
    · have hroom2 : 257 + ws.tab.length ≤ 2 ^ wd := by
        rcases hI.room with hx | hx
        · have p9 : 2 ^ 9 ≤ 2 ^ wd := Nat.pow_le_pow_right (by decide) hwd.1
          have : (2 : Nat) ^ 9 = 512 := by decide
          rw [hx]; simp; omega
        · exact hx
      refine ⟨n + 1, r', T, hit, hon, by rw [hW.n, h.num], hinv, by simp only []; omega, val_less h.bd hfit, by simp only [e]; exact htl, by simp only [e]; exact h.ent, hW.rt, ?_, ?_, ?_⟩
      · rw [hs1, hout, htake]
      · right
        exact ⟨hl0, Or.inr ⟨by simp only [e]; exact hW.len, by rw [hW.len]; omega⟩⟩
      · rw [hs1]; simp
end

theorem ZGood.text {f : ByteArray} {n : Nat} {r : ZB} (hz : ZGood f n r) : HasText f 90 (bytesN r.out) := by
  obtain ⟨hf, hk, hsy, hw⟩ := hz.file'
  obtain ⟨T, hT⟩ := zz_run n r hz.it hz.on
  obtain ⟨T', hST⟩ := stext_of hf
  exact ⟨_, T, hf, ⟨hT.sound, fun s hs => by rw [hT.sound.len]; exact hT.start s hs, by rw [hT.whole, hT.out], hST.rlen, hST.slen⟩, hT.out.symm, by rw [hk]⟩
section
variable {t : ByteArray} {wd : Nat} (ht : t.size ≤ 600) (hwd : 9 ≤ wd ∧ wd ≤ 12)
include ht hwd
end

end Go.Proofs.YtgifhgnccmnbiabGreatDoor
