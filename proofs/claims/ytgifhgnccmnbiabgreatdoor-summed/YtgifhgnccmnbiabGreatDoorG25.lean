/- The law's own helpers: pick, some, times, two, doubled: walked. -/
import Derived.Test.YtgifhgnccmnbiabGreatDoorG24
import Derived.Test.YtgifhgnccmnbiabGreatDoorG21
import Derived.Test.YtgifhgnccmnbiabGreatDoorG19
set_option linter.unusedVariables false
set_option linter.unusedSimpArgs false
namespace Go.Proofs.YtgifhgnccmnbiabGreatDoor
open Go.RowKit Go.IntWalk

theorem wrap_in {n : Int} (h1 : -9223372036854775808 ≤ n) (h2 : n ≤ 9223372036854775807) : IntKind.wrap .i64 n = n := by
  rw [IntKind.wrap_i64]; omega
set_option maxHeartbeats 1000000 in
theorem two_any (v : Nat) (hv : v ≤ 65535) (w : World) : Calls Tryz.prog 44 #[.int .i64 (v : Int)] w fun e w' => e = .returned (.string (bytesB (twoL v))) ∧ Kept [] w w' := by
  have hk : Hid (∀ o, Kept [] w (w.alloc o)) := fun o => (Kept.refl [] w).alloc o
  have m1 : Int.tmod (v : Int) 256 = ((v % 256 : Nat) : Int) := by rw [Int.tmod_eq_emod_of_nonneg (by omega)]; omega
  have m2 : Int.tdiv (v : Int) 256 = ((v / 256 : Nat) : Int) := by rw [Int.tdiv_eq_ediv_of_nonneg (by omega)]; omega
  have hconv : (convert 77 9 (.slice (some ⟨w.heap.size, 0, none⟩) 2 2)).run Tryz.prog (w.alloc (.cells #[.int .u8 ((v % 256 : Nat) : Int), .int .u8 ((v / 256 : Nat) : Int)] 5)) = .ok (.string (bytesB (twoL v))) (w.alloc (.cells #[.int .u8 ((v % 256 : Nat) : Int), .int .u8 ((v / 256 : Nat) : Int)] 5)) := by
    refine run_convert_bytes_back (P := Tryz.prog) _ 77 9 5 ⟨w.heap.size, 0, none⟩ 2 [(v % 256).toUInt8, (v / 256).toUInt8] Tryz.underlying77 Tryz.underlying5 Tryz.underlying9 (fun j hj => ?_)
    have hj2 : j < 2 := hj
    rw [ptr_add, (Blk.new w _ _).cell]
    rcases (by omega : j = 0 ∨ j = 1) with rfl | rfl
    · show some (Value.int .u8 ((v % 256 : Nat) : Int)) = some (.int .u8 ((v % 256).toUInt8.toNat : Int))
      rw [Nat.toUInt8_eq, UInt8.toNat_ofNat', show v % 256 % 2 ^ 8 = v % 256 by omega]
    · show some (Value.int .u8 ((v / 256 : Nat) : Int)) = some (.int .u8 ((v / 256).toUInt8.toNat : Int))
      rw [Nat.toUInt8_eq, UInt8.toNat_ofNat', show v / 256 % 2 ^ 8 = v / 256 by omega]
  have b1 : v % 256 < 256 := by omega
  have b2 : v / 256 < 256 := by omega
  obtain ⟨R, hR⟩ : ∃ R, Hid (bytesB (twoL v) = R) := ⟨_, rfl⟩
  rw [hR.out] at hconv
  generalize v % 256 = x at *
  generalize v / 256 = y at *
  go_enter Tryz.func44, Tryz.ntmps44
  go_wp2
  go_ret
  exact ⟨by rw [hR.out]; rfl, hk.out _⟩

set_option maxHeartbeats 1000000 in
theorem some2_any (t : ByteArray) (n : Nat) (ht : t.size ≤ maxLen) (hn : n ≤ 600) (w : World) : Calls Tryz.prog 13 #[.string t, .int .i64 (n : Int)] w fun e w' => (∃ s : ByteArray, e = .returned (.string s) ∧ (s.size ≤ n ∧ bytesN s = (bytesN t).take n)) ∧ w' = w := by
  unfold maxLen at ht
  by_cases h : (n : Int) < (t.size : Int)
  · have hs : Hid ((t.extract 0 n).size ≤ n ∧ bytesN (t.extract 0 n) = (bytesN t).take n) := ⟨by simp; omega, by
      unfold bytesN
      rw [ByteArray.data_extract]
      simp [List.map_take]⟩
    go_enter Tryz.func13, Tryz.ntmps13
    go_wp2
    go_ret
    exact ⟨⟨_, rfl, hs.out⟩, rfl⟩
  · have hs : Hid (t.size ≤ n ∧ bytesN t = (bytesN t).take n) := ⟨by omega, by rw [List.take_of_length_le]; rw [bytesN_len]; omega⟩
    go_enter Tryz.func13, Tryz.ntmps13
    go_wp2
    go_ret
    exact ⟨⟨_, rfl, hs.out⟩, rfl⟩

set_option maxHeartbeats 1000000 in
theorem pick_any (c : Int) (n : Nat) (hc1 : -9223372036854775808 ≤ c) (hc2 : c ≤ 9223372036854775807) (hn : 0 < n) (hn2 : n ≤ 9223372036854775807) (w : World) : Calls Tryz.prog 14 #[.int .i64 c, .int .i64 (n : Int)] w fun e w' => (∃ k : Nat, e = .returned (.int .i64 (k : Int)) ∧ k < n) ∧ w' = w := by
  have hn0 : (n : Int) ≠ 0 := by omega
  have key : ∀ d : Int, 0 ≤ d → ∃ k : Nat, Int.tmod d (n : Int) = (k : Int) ∧ k < n := fun d hd => by
    rw [Int.tmod_eq_emod_of_nonneg hd]
    have h1 := Int.emod_nonneg d hn0
    have h2 := Int.emod_lt_of_pos d (by omega : (0 : Int) < n)
    exact ⟨(d % (n : Int)).toNat, by omega, by omega⟩
  by_cases h : c < 0
  · obtain ⟨k, hk, hkn⟩ := key (-(c + 1)) (by omega)
    have hkH : Hid (k < n) := hkn
    go_enter Tryz.func14, Tryz.ntmps14
    go_wp2
    go_ret
    exact ⟨⟨k, rfl, hkH.out⟩, rfl⟩
  · obtain ⟨k, hk, hkn⟩ := key c (by omega)
    have hkH : Hid (k < n) := hkn
    go_enter Tryz.func14, Tryz.ntmps14
    go_wp2
    go_ret
    exact ⟨⟨k, rfl, hkH.out⟩, rfl⟩

theorem bytesN_B {l : List Nat} (h : ∀ c, c ∈ l → c < 256) : bytesN (bytesB l) = l := by
  unfold bytesN bytesB
  simp only [List.map_map]
  conv => rhs; rw [← List.map_id l]
  refine List.map_congr_left fun c hc => ?_
  have := h c hc
  simp only [Function.comp, id]
  rw [Nat.toUInt8_eq, UInt8.toNat_ofNat', show c % 2 ^ 8 = c by omega]
theorem twoL_lt {v : Nat} (h : v ≤ 65535) : ∀ c, c ∈ twoL v → c < 256 := fun c hc => by
  unfold twoL at hc
  simp at hc
  omega
theorem bytesN_two {v : Nat} (h : v ≤ 65535) : bytesN (bytesB (twoL v)) = twoL v := bytesN_B (twoL_lt h)
theorem bytesN_get {t : ByteArray} {i : Nat} (h : i < t.size) : (bytesN t).getD i 0 = t[i].toNat := by rw [← bt_list, bt_lt h]

set_option maxHeartbeats 1000000 in
theorem times_any (n k : Nat) (hk : k ≤ 60) (h : n * 2 ^ k ≤ 9223372036854775807) (w : World) : Calls Tryz.prog 24 #[.int .i64 (n : Int), .int .i64 (k : Int)] w fun e w' => (∃ r : Nat, e = .returned (.int .i64 (r : Int)) ∧ Hid (r = n * 2 ^ k)) ∧ w' = w := by
  obtain ⟨R, hR⟩ : ∃ R, Hid (n * 2 ^ k = R) := ⟨_, rfl⟩
  rw [hR.out] at h
  have hle : Hid (∀ q, q ≤ k → n * 2 ^ q ≤ R) := fun q hq => by rw [← hR.out]; exact Nat.mul_le_mul_left _ (Nat.pow_le_pow_right (by decide) hq)
  go_enter Tryz.func24, Tryz.ntmps24
  go_wp2_with fail
  go_loop [0, 5] (fun nv iv => ∃ q m : Nat, nv = .int .i64 (m : Int) ∧ iv = .int .i64 (q : Int) ∧ q ≤ k ∧ Hid (m = n * 2 ^ q)) (fun _ iv => ((k : Int) - intOf iv).toNat)
  case atStart => exact ⟨0, n, rfl, rfl, Nat.zero_le _, by show n = n * 2 ^ 0; simp⟩
  case round =>
    obtain ⟨q, m, rfl, rfl, hq, hm⟩ := hrel
    by_cases hlt : (q : Int) < (k : Int)
    · have hnx : Hid (2 * m = n * 2 ^ (q + 1)) := by show 2 * m = _; rw [hm.out, Nat.pow_succ, Nat.mul_comm (2 ^ q) 2, Nat.mul_left_comm]
      have hb : 2 * m ≤ R := by have := hle.out (q + 1) (by omega); have h3 := hnx.out; rw [← h3] at this; exact this
      go_wp2
      refine ⟨⟨q + 1, 2 * m, by go_num, by go_num, by omega, hnx⟩, ?_⟩
      simp only [intOf]; omega
    · have hqe : q = k := by omega
      have e : Hid (m = n * 2 ^ k) := by rw [← hqe]; exact hm
      clear hqe hm hR hle
      go_wp2
      go_ret
      exact ⟨⟨m, rfl, e⟩, rfl⟩

set_option maxHeartbeats 4000000 in
set_option maxRecDepth 100000 in
theorem doubled_any (t more : ByteArray) (k : Nat) (h1 : 1 ≤ t.size) (h2 : t.size ≤ 40) (hk : k ≤ 40) (hm : more.size ≤ 600) (w : World) :
    Calls Tryz.prog 22 #[.string t, .int .i64 (k : Int), .string more] w fun e w' => ∃ f : ByteArray, e = .returned (.string f) ∧ (bytesN f = fileL (bytesN t) k (bytesN more) ∧ Kept [] w w') := by
  have hw : Hid (∀ (v : Nat) (hv : v ≤ 65535) (w : World), Calls _ _ _ w _) := fun v hv w => two_any v hv w
  have hlen := bytesN_len t
  have hsy : Hid (∀ n, n ≤ 100 → symOf (bytesN t) n ≤ 356) := fun n hn => by
    unfold symOf
    split
    · have := bt_bd t 0; rw [bt_list] at this; omega
    · omega
  have hb0 := t[0].toNat_lt
  have hs0 : Hid (symOf (bytesN t) 0 = t[0].toNat) := by show (bytesN t).getD 0 0 = _; exact bytesN_get h1
  go_enter Tryz.func22, Tryz.ntmps22
  go_wp2_with fail
  go_loopw [7, 8, 9, 10] (fun rv nv sv iv wr => ∃ (n : Nat) (R : ByteArray) (s : Nat), rv = .string R ∧ nv = .int .i64 (n : Int) ∧ sv = .int .i64 (s : Int) ∧ iv = .int .i64 ((n : Int) + 1) ∧ n + 1 ≤ t.size ∧ Hid (s = symOf (bytesN t) n) ∧ Hid (bytesN R = rulesL (bytesN t) n) ∧ Kept [] w wr) (fun _ _ _ iv _ => ((t.size : Int) - intOf iv).toNat)
  case atStart => exact ⟨0, ByteArray.empty, t[0].toNat, rfl, rfl, by go_num, rfl, by omega, hs0.out.symm, rfl, Kept.refl _ _⟩
  case round =>
    obtain ⟨n, R, s, rfl, rfl, rfl, rfl, hn, hs, hR, hK⟩ := hrel
    have hs356 : s ≤ 356 := by rw [hs.out]; exact hsy.out n (by omega)
    by_cases hlt : (n : Int) + 1 < (t.size : Int)
    · have hi : n + 1 < t.size := by omega
      have hc8 := t[n + 1].toNat_lt
      have ga : Hid (∀ w, Calls _ _ _ w _) := fun w => hw.out s (by omega) w
      have gb : Hid (∀ w, Calls _ _ _ w _) := fun w => hw.out t[n + 1].toNat (by omega) w
      have hnx : Hid (bytesN (R ++ bytesB (twoL s) ++ bytesB (twoL t[n + 1].toNat)) = rulesL (bytesN t) (n + 1)) := by
        show _ = _
        rw [bytesN_app, bytesN_app, hR.out, bytesN_two (by omega), bytesN_two (by omega), rulesL_succ, ← hs.out, List.append_assoc]
        have : secOf (bytesN t) n = t[n + 1].toNat := by unfold secOf; rw [if_pos (by rw [hlen]; exact hi), bytesN_get hi]
        rw [this]
      have hRs : R.size ≤ 1000 := by
        have e := congrArg List.length hR.out
        rw [bytesN_len, rulesL_len] at e
        omega
      have hAs : (bytesB (twoL s)).size = 2 := rfl
      have hBs : (bytesB (twoL t[n + 1].toNat)).size = 2 := rfl
      generalize bytesB (twoL s) = A at *
      generalize bytesB (twoL t[n + 1].toNat) = B at *
      have hx1 : ¬ 9223372036854775807 < R.size + A.size := by omega
      have hx2 : ¬ 9223372036854775807 < R.size + A.size + B.size := by omega
      have hi0 : (0 : Int) ≤ (n : Int) + 1 := by omega
      have hwr : IntKind.wrap .i64 (t[n + 1].toNat : Int) = (t[n + 1].toNat : Int) := wrap_in (by omega) (by omega)
      clear hRs hAs hBs
      go_wp2_with fail
      go_region_law (go_simp; first | (go_at_call_of 44 (Value.int IntKind.i64 (s : Int)); refine (ga.out _).mono ?_; rintro _ w5 ⟨rfl, k5⟩) | (go_at_call 44; refine (gb.out _).mono ?_; rintro _ w7 ⟨rfl, k7⟩))
      all_goals
        go_wp2_with fail
        refine ⟨⟨n + 1, R ++ A ++ B, 256 + n, rfl, by go_num, by go_num, by go_num, by omega, by show 256 + n = symOf _ (n + 1); unfold symOf; rw [if_neg (by omega)]; omega, hnx, hK.trans (((Kept.refl [] _).drew).trans (k5.trans k7))⟩, ?_⟩
        simp only [intOf]; omega
    · have hne : n = t.size - 1 := by omega
      have hR0 : Hid (bytesN R = rulesL (bytesN t) (t.size - 1 + 0)) := by rw [Nat.add_zero, ← hne]; exact hR
      have hs2 : Hid (s = symOf (bytesN t) (t.size - 1 + 0)) := by rw [Nat.add_zero, ← hne]; exact hs
      have hn0 : (n : Int) = ((t.size - 1 + 0 : Nat) : Int) := by omega
      clear hs hR hlt hn
      go_wp2_with fail
      go_loopw [7, 8, 9, 11] (fun rv nv sv iv wr => ∃ (j : Nat) (R : ByteArray) (s : Nat), rv = .string R ∧ nv = .int .i64 ((t.size - 1 + j : Nat) : Int) ∧ sv = .int .i64 (s : Int) ∧ iv = .int .i64 (j : Int) ∧ j ≤ k ∧ Hid (s = symOf (bytesN t) (t.size - 1 + j)) ∧ Hid (bytesN R = rulesL (bytesN t) (t.size - 1 + j)) ∧ Kept [] w wr) (fun _ _ _ iv _ => ((k : Int) - intOf iv).toNat)
      case atStart => exact ⟨0, R, s, rfl, by rw [hn0], rfl, rfl, by omega, hs2, hR0, hK⟩
      case round =>
        clear hR0 hs2 hn0 hK hs356 hne
        obtain ⟨j, R, s, rfl, rfl, rfl, rfl, hj, hs, hR, hK⟩ := hrel
        have hs356 : s ≤ 356 := by rw [hs.out]; exact hsy.out _ (by omega)
        by_cases hlt : (j : Int) < (k : Int)
        · have ga : Hid (∀ w, Calls _ _ _ w _) := fun w => hw.out s (by omega) w
          have hnx : Hid (bytesN (R ++ bytesB (twoL s) ++ bytesB (twoL s)) = rulesL (bytesN t) (t.size - 1 + (j + 1))) := by
            show _ = _
            rw [bytesN_app, bytesN_app, hR.out, bytesN_two (by omega), ← Nat.add_assoc, rulesL_succ, ← hs.out, List.append_assoc]
            have : secOf (bytesN t) (t.size - 1 + j) = s := by unfold secOf; rw [if_neg (by rw [hlen]; omega)]; exact hs.out.symm
            rw [this]
          have hRs : R.size ≤ 1000 := by
            have e := congrArg List.length hR.out
            rw [bytesN_len, rulesL_len] at e
            omega
          have hAs : (bytesB (twoL s)).size = 2 := rfl
          generalize bytesB (twoL s) = A at *
          have hx1 : ¬ 9223372036854775807 < R.size + A.size := by omega
          have hx2 : ¬ 9223372036854775807 < R.size + A.size + A.size := by omega
          have hjt : t.size - 1 + j ≤ 100 := by omega
          have hsn : Hid (symOf (bytesN t) (t.size - 1 + (j + 1)) = 256 + (t.size - 1 + j)) := by show _ = _; unfold symOf; rw [if_neg (by omega)]; omega
          obtain ⟨N, hN⟩ : ∃ N, Hid (t.size - 1 + j = N) := ⟨_, rfl⟩
          rw [hN.out] at hjt hsn ⊢
          clear hRs hAs
          go_wp2_with (go_at_call 44; refine (ga.out _).mono ?_; rintro _ w5 ⟨rfl, k5⟩; have K5 := Kept.trans (by assumption) k5)
          refine ⟨⟨j + 1, R ++ A ++ A, 256 + N, rfl, ?_, by go_num, by go_num, by omega, hsn.out.symm, hnx, by assumption⟩, ?_⟩
          · have := hN.out
            exact congrArg _ (by omega)
          · simp only [intOf]; omega
        · have hje : j = k := by omega
          subst hje
          clear hlt hj
          have hjt : t.size - 1 + j ≤ 100 := by omega
          have hRs : R.size ≤ 1000 := by
            have e := congrArg List.length hR.out
            rw [bytesN_len, rulesL_len] at e
            omega
          obtain ⟨N, hN⟩ : ∃ N, N = t.size - 1 + j := ⟨_, rfl⟩
          rw [← hN] at hs hR hjt ⊢
          have ga : Hid (∀ w, Calls _ _ _ w _) := fun w => hw.out s (by omega) w
          have hB0 : Hid (bytesN (bytesB (twoL s)) = twoL (symOf (bytesN t) N) ++ ((bytesN more).take 0).flatMap twoL) := by
            show _ = _
            rw [bytesN_two (by omega), hs.out]; simp
          have hms : (bytesN more).length = more.size := bytesN_len more
          go_wp2_with (go_at_call 44; refine (ga.out _).mono ?_; rintro _ w5 ⟨rfl, k5⟩; have K5 := hK.trans k5)
          go_loopw [12, 13] (fun sv iv wr => ∃ (i : Nat) (S : ByteArray), sv = .string S ∧ iv = .int .i64 (i : Int) ∧ i ≤ more.size ∧ Hid (bytesN S = twoL (symOf (bytesN t) N) ++ ((bytesN more).take i).flatMap twoL) ∧ Kept [] w wr) (fun _ iv _ => ((more.size : Int) - intOf iv).toNat)
          case atStart => exact ⟨0, _, rfl, rfl, by omega, hB0, K5⟩
          case round =>
            clear hB0 K5 k5 ga
            obtain ⟨i, S, rfl, rfl, hi, hS, hK2⟩ := hrel
            have hSs : S.size ≤ 2000 := by
              have e := congrArg List.length hS.out
              rw [bytesN_len, List.length_append, more_len, List.length_take] at e
              have : (twoL (symOf (bytesN t) N)).length = 2 := rfl
              omega
            by_cases hlt : (i : Int) < (more.size : Int)
            · have hi2 : i < more.size := by omega
              have hc8 := more[i].toNat_lt
              have gb : Hid (∀ w, Calls _ _ _ w _) := fun w => hw.out more[i].toNat (by omega) w
              have hnx : Hid (bytesN (S ++ bytesB (twoL more[i].toNat)) = twoL (symOf (bytesN t) N) ++ ((bytesN more).take (i + 1)).flatMap twoL) := by
                show _ = _
                rw [bytesN_app, hS.out, bytesN_two (by omega), List.take_add_one, List.getElem?_eq_getElem (by omega)]
                have e := bytesN_get hi2
                rw [List.getD_eq_getElem?_getD, List.getElem?_eq_getElem (by omega)] at e
                simp only [Option.getD_some] at e
                rw [e, List.flatMap_append]
                simp
              have hAs : (bytesB (twoL more[i].toNat)).size = 2 := rfl
              generalize bytesB (twoL more[i].toNat) = A at *
              have hx1 : ¬ 9223372036854775807 < S.size + A.size := by omega
              clear hAs
              go_wp2_with (go_at_call 44; refine (gb.out _).mono ?_; rintro _ w7 ⟨rfl, k7⟩; have K7 := hK2.trans k7)
              refine ⟨⟨i + 1, S ++ A, rfl, by go_num, by omega, hnx, K7⟩, ?_⟩
              simp only [intOf]; omega
            · have hie : i = more.size := by omega
              have hS2 : Hid (bytesN S = twoL (symOf (bytesN t) N) ++ (bytesN more).flatMap twoL) := by
                show _ = _
                rw [hS.out, List.take_of_length_le (by omega)]
              have gc : Hid (∀ w, Calls Tryz.prog 44 #[.int .i64 (1 + (more.size : Int))] w fun e w' => e = .returned (.string (bytesB (twoL (1 + more.size)))) ∧ Kept [] w w') := fun w => by
                have := hw.out (1 + more.size) (by omega) w
                rwa [show ((1 + more.size : Nat) : Int) = 1 + (more.size : Int) by omega] at this
              have hfin : Hid (bytesN (⟨#[83, 71]⟩ ++ bytesB [N] ++ R ++ bytesB (twoL (1 + more.size)) ++ S) = fileL (bytesN t) j (bytesN more)) := by
                show _ = _
                unfold fileL
                rw [bytesN_app, bytesN_app, bytesN_app, bytesN_app, hR.out, hS2.out, bytesN_two (by omega), bytesN_B (l := [N]) (by intro c hc; simp at hc; omega), hlen, hms, ← hN]
                simp [bytesN]
              have hTs : (bytesB (twoL (1 + more.size))).size = 2 := rfl
              have hNs : (bytesB [N]).size = 1 := rfl
              generalize bytesB (twoL (1 + more.size)) = T at *
              have hNi : ((t.size - 1 + j : Nat) : Int) = (N : Int) := by rw [hN]
              have hwm : IntKind.wrap .i64 (1 + (more.size : Int)) = 1 + (more.size : Int) := wrap_in (by omega) (by omega)
              have hw8 : IntKind.wrap .u8 (((t.size - 1 : Nat) : Int) + (j : Int)) = (N : Int) := by
                rw [show (((t.size - 1 : Nat) : Int) + (j : Int)) = (N : Int) by omega, IntKind.wrap_u8]; omega
              have hcv : ∀ (w0 w : World), Kept [] (w0.alloc (.cells #[.int .u8 (N : Int)] 5)) w → (convert 77 9 (.slice (some ⟨w0.heap.size, 0, none⟩) 1 1)).run Tryz.prog w = .ok (.string (bytesB [N])) w := fun w0 w kk => by
                refine run_convert_bytes_back (P := Tryz.prog) _ 77 9 5 ⟨w0.heap.size, 0, none⟩ 1 [N.toUInt8] Tryz.underlying77 Tryz.underlying5 Tryz.underlying9 (fun q hq => ?_)
                have hq0 : q = 0 := by simp at hq; omega
                subst hq0
                rw [ptr_add, ((Blk.new w0 _ _).kept kk (by simp)).cell]
                show some (Value.int .u8 (N : Int)) = some (.int .u8 (N.toUInt8.toNat : Int))
                rw [Nat.toUInt8_eq, UInt8.toNat_ofNat', show N % 2 ^ 8 = N by omega]
              have hconv := fun w0 : World => hcv w0 _ ((Kept.refl [] _).drew)
              have hconv2 := fun w0 : World => hcv w0 _ (Kept.refl [] _)
              have hcvH : Hid (∀ (w0 w : World), _) := hcv
              clear hcv
              generalize bytesB [N] = X at *
              have hx1 : ¬ 9223372036854775807 < 2 + X.size := by omega
              have hx2 : ¬ 9223372036854775807 < 2 + X.size + R.size := by omega
              have hx3 : ¬ 9223372036854775807 < 2 + X.size + R.size + T.size := by omega
              have hx4 : ¬ 9223372036854775807 < 2 + X.size + R.size + T.size + S.size := by omega
              clear hTs hNs hS hS2 hs hR hie
              go_wp2_with fail
              go_region_law (go_simp; go_at_call 44; refine (gc.out _).mono ?_; rintro _ w9 ⟨rfl, k9⟩; have K9 : Kept [] wr w9 := Kept.trans (by first | exact ((Kept.refl _ _).alloc _).drew | exact (Kept.refl _ _).drew) k9; try have hc9 := hcvH.out wr w9 (((Kept.refl [] _).drew).trans k9))
              all_goals
                go_wp2
                go_ret
                first
                  | exact ⟨_, rfl, hfin.out, hK2.trans K9⟩
                  | exact ⟨_, rfl, hfin.out, hK2.trans (K9.alloc _)⟩

end Go.Proofs.YtgifhgnccmnbiabGreatDoor

set_option linter.unusedVariables false
set_option linter.unusedSimpArgs false
namespace Go.Proofs.YtgifhgnccmnbiabGreatDoor
open Go.RowKit Go.IntWalk

section
variable {f : ByteArray} {tx more : List Nat} {k : Nat} (h : Dbl f tx k more)
include h
theorem Dbl.whole : (sgT f).whole = ptOf (repL tx (2 ^ k) ++ more) := by
  obtain ⟨_, h2, h3⟩ := h.stext
  rw [h2.whole, h3]
theorem Dbl.cut {x y : Int} {w w' : World} {e : Ending} (ho : CutOut f x y w w' e) (hl : (repL tx (2 ^ k) ++ more).length ≤ 1099511627776) : RangeCase (repL tx (2 ^ k) ++ more) x y e := by
  obtain ⟨h1, h2, h3⟩ := h.stext
  have := ho.file h1 h2.sound h2.start h2.whole (by rw [h.whole, ptOf_len, capL_of (by omega)]; exact hl)
  rwa [h3] at this
theorem Dbl.shape {w w' : World} {e : Ending} (ho : ShapeOut f w w' e) (hl : (repL tx (2 ^ k) ++ more).length ≤ 1099511627776) :
    e = .returned (.tuple #[.agg (infoV 71 (1 + more.length) (repL tx (2 ^ k) ++ more).length (linesS (ptOf (repL tx (2 ^ k) ++ more)))), .int .i64 0]) := by
  obtain ⟨h1, h2, h3⟩ := h.stext
  have hw := h.whole
  have hlen : (sgT f).whole.len = (repL tx (2 ^ k) ++ more).length := by rw [hw, ptOf_len, capL_of (by omega)]
  obtain ⟨e1, e2, e3, e4, e5⟩ := h.ok.read
  have hsy : (sgT f).syms = 1 + more.length := by show (sgN f).1 = _; rw [e3, ← h.gn]
  rcases ho.out with ⟨hn, _⟩ | ⟨t, ht, ⟨h4, _⟩ | ⟨h4, he⟩⟩
  · exact absurd h1 (hn _)
  · have := ht.one h1
    subst this
    omega
  · have := ht.one h1
    subst this
    rw [he, hsy, hlen, hw]
    rfl
end
def oneF : ByteArray := ⟨#[83, 71, 0, 1, 0, 97, 0]⟩
theorem one_dbl : Dbl oneF [97] 0 [] := ⟨rfl, by decide, by decide, by decide, by decide, by intro c hc; simp at hc; omega, fun c hc => by simp at hc⟩

set_option maxHeartbeats 1000000 in
set_option maxRecDepth 100000 in
theorem opening_any (w : World) : Calls Tryz.prog 36 #[] w fun e w' => e = .returned (.bool true) ∧ Below w.heap.size w w' := by
  have h1 : Hid (Calls _ _ _ w _) := shape_any oneF (by unfold maxLen; decide) w
  have h2 : Hid (∀ w, Calls _ _ _ w _) := fun w => cut_any oneF (by unfold maxLen; decide) 0 1 (by omega) (by omega) (by omega) (by omega) w
  unfold oneF at h1 h2
  go_enter Tryz.func36, Tryz.ntmps36
  go_wp2_with fail
  refine h1.out.mono ?_
  rintro e w1 ho
  have e1 := one_dbl.shape ho (by decide)
  have hl : infoV 71 (1 + ([] : List Nat).length) (repL [97] (2 ^ 0) ++ []).length (linesS (ptOf (repL [97] (2 ^ 0) ++ []))) = #[.int .i64 71, .int .i64 1, .int .i64 1, .int .i64 1] := rfl
  rw [hl] at e1
  subst e1
  have hb1 : Hid (Below w.heap.size w w1) := ho.below
  clear ho h1 hl
  go_wp2_with fail
  refine (h2.out _).mono ?_
  rintro e w2 ho
  have e2 := one_dbl.cut ho (by decide)
  have e3 : e = .returned (.tuple #[.string ⟨#[97]⟩, .int .i64 0]) := by
    rcases e2 with ⟨h, _⟩ | ⟨_, h⟩
    · exact absurd (by unfold RangeOk; decide) h
    · rw [h]; rfl
  subst e3
  have hA : Blk w2 w1.heap.size #[.int .i64 71, .int .i64 1, .int .i64 1, .int .i64 1] 47 := (ho.below.block _ (by simp)).trans (Blk.new w1 _ _)
  have hsz := hb1.out.size
  have hb2 : Hid (Below w.heap.size w w2) := (hb1.out.alloc hsz (.cells #[.int .i64 71, .int .i64 1, .int .i64 1, .int .i64 1] 47)).trans (ho.below.mono (by simp; omega))
  have d0 : w2.cell? ⟨w1.heap.size, 0, none⟩ = some (.int .i64 71) := hA.cell 0
  have d1 : w2.cell? ⟨w1.heap.size, 1, none⟩ = some (.int .i64 1) := hA.cell 1
  have d2 : w2.cell? ⟨w1.heap.size, 2, none⟩ = some (.int .i64 1) := hA.cell 2
  have d3 : w2.cell? ⟨w1.heap.size, 3, none⟩ = some (.int .i64 1) := hA.cell 3
  clear hA ho e2 h2 hb1
  go_wp2
  go_ret
  exact ⟨rfl, hb2.out⟩

end Go.Proofs.YtgifhgnccmnbiabGreatDoor

set_option linter.unusedVariables false
set_option linter.unusedSimpArgs false
namespace Go.Proofs.YtgifhgnccmnbiabGreatDoor
open Go.RowKit Go.IntWalk

/-- A file, its kind, and its text. -/
structure HasText (f : ByteArray) (kind : Int) (X : List Nat) : Prop where
  ex : ∃ t T, SFile f t ∧ SText t T ∧ t.start.flatMap (symT T) = X ∧ t.kind = kind
section
variable {f : ByteArray} {kind : Int} {X : List Nat} (h : HasText f kind X)
include h
theorem HasText.cut {x y : Int} {w w' : World} {e : Ending} (ho : CutOut f x y w w' e) (hl : X.length ≤ 1099511627776) : RangeCase X x y e := by
  obtain ⟨t, T, h1, h2, h3, _⟩ := h.ex
  have hw : t.whole.len ≤ 1099511627776 := by rw [h2.whole, h3, ptOf_len, capL_of (by omega)]; exact hl
  have := ho.file h1 h2.sound h2.start h2.whole hw
  rwa [h3] at this
theorem HasText.shape {w w' : World} {e : Ending} (ho : ShapeOut f w w' e) (hl : X.length ≤ 1099511627776) :
    ∃ n : Nat, e = .returned (.tuple #[.agg (infoV kind n X.length (linesS (ptOf X))), .int .i64 0]) := by
  obtain ⟨t, T, h1, h2, h3, h4⟩ := h.ex
  have hlen : t.whole.len = X.length := by rw [h2.whole, h3, ptOf_len, capL_of (by omega)]
  have hw : t.whole = ptOf X := by rw [h2.whole, h3]
  rcases ho.out with ⟨hn, _⟩ | ⟨t', ht, ⟨h5, _⟩ | ⟨h5, he⟩⟩
  · exact absurd h1 (hn _)
  · have := ht.one h1
    subst this
    omega
  · have := ht.one h1
    subst this
    exact ⟨t'.syms, by rw [he, hlen, hw, h4]⟩
end
/-- What the code's reader makes of a good file of rules. -/
theorem GOk.stext {f : ByteArray} (hg : GOk f) : SFile f (sgT f) ∧ SText (sgT f) (gTx f (bt f 2)) ∧ (sgT f).start = gTop f (gN f) ∧ (sgT f).kind = 71 := by
  have hf : SFile f (sgT f) := SFile.rules (by have := hg.five; omega) hg.most hg.sg hg.ok
  obtain ⟨e1, e2, e3, e4, e5⟩ := hg.read
  have hR : (sgT f).rules = gRu f (bt f 2) := by show (sgG f).1 = _; rw [e2]
  have hSt : (sgT f).start = gTop f (gN f) := e5
  have hW : (sgT f).whole = ptOf ((gTop f (gN f)).flatMap (symT (gTx f (bt f 2)))) := by
    show wholeP (sgG f).1 (sgS f).1 = _
    rw [e2, e5]
    exact whole_pt (hg.sound _ (Nat.le_refl _)) _ (fun s hs => by rw [gTx_len]; exact hg.top _ (Nat.le_refl _) s hs) []
  exact ⟨hf, ⟨by rw [hR]; exact hg.sound _ (Nat.le_refl _), by rw [hR, hSt, gRu_len]; exact fun s hs => hg.top _ (Nat.le_refl _) s hs, by rw [hSt]; exact hW, by rw [hR, gRu_len]; have := hg.r; omega, by rw [hSt, gTop_len]; have := hg.n; omega⟩, hSt, rfl⟩

/-- A file: SG, so many rules, and then numbers of two bytes. -/
structure GNum (f : ByteArray) (q : Nat) (L : List Nat) : Prop where
  file : bytesN f = [83, 71, q] ++ L.flatMap twoL
section
variable {f : ByteArray} {q : Nat} {L : List Nat} (h : GNum f q L)
include h
theorem GNum.size : f.size = 3 + 2 * L.length := by
  rw [← bytesN_len, h.file, List.length_append, more_len]; simp
theorem GNum.b0 : bt f 0 = 83 := by rw [bt_list, h.file]; rfl
theorem GNum.b1 : bt f 1 = 71 := by rw [bt_list, h.file]; rfl
theorem GNum.b2 : bt f 2 = q := by rw [bt_list, h.file]; rfl
theorem GNum.at (i j : Nat) (hi : i < L.length) (hj : j < 2) : bt f (3 + 2 * i + j) = (twoL (L.getD i 0)).getD j 0 := by
  rw [bt_list, h.file, ← more_get L i j hi hj]
  simp only [List.getD]
  rw [List.getElem?_append_right (by simp; omega)]
  congr 2
  simp; omega
theorem GNum.pr (i : Nat) (hi : i < L.length) : prI f (3 + 2 * i) = (L.getD i 0 : Int) := by
  have hs := h.size
  rw [prI_of (by omega)]
  have e0 := h.at i 0 hi (by omega)
  have e1 := h.at i 1 hi (by omega)
  rw [Nat.add_zero] at e0
  rw [e0, e1]
  exact congrArg _ (two_nat _)
end

theorem bytesB_appF (l m : List Nat) : bytesB (l ++ m) = bytesB l ++ bytesB m := by
  apply ByteArray.ext
  unfold bytesB
  rw [ByteArray.data_append]
  simp
theorem gst_get (t : ByteArray) : ∀ q i, i < q → (gst t q).1[i]? = some (bestL (gst t i).2)
  | 0, i, h => by omega
  | q + 1, i, h => by
    have hl := (gst_inv t q).rl
    show ((gst t q).1 ++ [bestL (gst t q).2])[i]? = _
    by_cases hi : i < q
    · rw [List.getElem?_append_left (by omega)]; exact gst_get t q i hi
    · have : i = q := by omega
      subst this
      rw [List.getElem?_append_right (by omega), hl, Nat.sub_self]; rfl
theorem pairs_len (R : List Cand) : (R.flatMap fun p => [p.a, p.b]).length = 2 * R.length := by
  induction R with
  | nil => rfl
  | cons p R ih => rw [List.flatMap_cons, List.length_append, ih]; simp; omega
theorem pairs_get : ∀ (R : List Cand) (i : Nat) (p : Cand), R[i]? = some p → (R.flatMap fun p => [p.a, p.b]).getD (2 * i) 0 = p.a ∧ (R.flatMap fun p => [p.a, p.b]).getD (2 * i + 1) 0 = p.b
  | [], i, p, h => by simp at h
  | x :: R, 0, p, h => by simp at h; subst h; exact ⟨rfl, rfl⟩
  | x :: R, i + 1, p, h => by
    have := pairs_get R i p (by simpa using h)
    rw [List.flatMap_cons]
    have e : 2 * (i + 1) = 2 * i + 1 + 1 := by omega
    rw [e]
    exact this
def gL (t : ByteArray) (q : Nat) : List Nat := ((gst t q).1.flatMap fun p => [p.a, p.b]) ++ [(gst t q).2.length] ++ (gst t q).2
theorem ruleBytes_two (R : List Cand) : ruleBytes R = (R.flatMap fun p => [p.a, p.b]).flatMap twoL := by
  unfold ruleBytes
  induction R with
  | nil => rfl
  | cons p R ih => rw [List.flatMap_cons, List.flatMap_cons, List.flatMap_append, ih]; rfl
theorem two_small {L : List Nat} (h : ∀ c, c ∈ L → c < 65536) : ∀ c, c ∈ L.flatMap twoL → c < 256 := fun c hc => by
  obtain ⟨x, hx, hc⟩ := List.mem_flatMap.1 hc
  exact twoL_lt (by have := h x hx; omega) c hc
theorem gL_rule {t : ByteArray} {q : Nat} {i : Nat} (hi : i < q) : (gL t q).getD (2 * i) 0 = (bestL (gst t i).2).a ∧ (gL t q).getD (2 * i + 1) 0 = (bestL (gst t i).2).b := by
  have hl := (gst_inv t q).rl
  have hg := pairs_get _ _ _ (gst_get t q i hi)
  have hn := pairs_len (gst t q).1
  unfold gL
  simp only [List.getD] at hg ⊢
  rw [List.append_assoc, List.getElem?_append_left (by omega), List.getElem?_append_left (by omega)]
  exact hg
theorem gL_n {t : ByteArray} {q : Nat} : (gL t q).getD (2 * q) 0 = (gst t q).2.length := by
  have hl := (gst_inv t q).rl
  have hn := pairs_len (gst t q).1
  unfold gL
  simp only [List.getD]
  rw [List.append_assoc, List.getElem?_append_right (by omega), show 2 * q - (List.flatMap (fun p => [p.a, p.b]) (gst t q).1).length = 0 by omega]
  rfl
theorem gL_s {t : ByteArray} {q : Nat} (j : Nat) : (gL t q).getD (2 * q + 1 + j) 0 = (gst t q).2.getD j 0 := by
  have hl := (gst_inv t q).rl
  have hn := pairs_len (gst t q).1
  unfold gL
  simp only [List.getD]
  rw [List.append_assoc, List.getElem?_append_right (by omega), show 2 * q + 1 + j - (List.flatMap (fun p => [p.a, p.b]) (gst t q).1).length = j + 1 by omega]
  rfl
theorem gL_len {t : ByteArray} {q : Nat} : (gL t q).length = 2 * q + 1 + (gst t q).2.length := by
  have hl := (gst_inv t q).rl
  have hn := pairs_len (gst t q).1
  unfold gL
  rw [List.length_append, List.length_append, hn, hl]; rfl
section
variable {t : ByteArray} {q : Nat} (ht : t.size ≤ 600) (hq : q ≤ 100)
include ht hq
theorem gL_lt : ∀ c, c ∈ gL t q → c < 65536 := fun c hc => by
  have hi := gst_inv t q
  unfold gL at hc
  rcases List.mem_append.1 hc with hc | hc
  · rcases List.mem_append.1 hc with hc | hc
    · obtain ⟨p, hp, hc⟩ := List.mem_flatMap.1 hc
      have := hi.rb p hp
      simp at hc
      omega
    · simp at hc
      have := hi.sl
      omega
  · have := hi.sb c hc
    omega
theorem gfile_num : GNum (gfile (gst t q).1 (gst t q).2) q (gL t q) := by
  have hi := gst_inv t q
  have hb := two_small (gL_lt ht hq)
  refine ⟨?_⟩
  have e : gfile (gst t q).1 (gst t q).2 = bytesB ([83, 71, q] ++ (gL t q).flatMap twoL) := by
    unfold gfile gbody gL
    rw [ruleBytes_two, hi.rl]
    show bytesB [83, 71] ++ _ = _
    rw [← bytesB_appF]
    congr 1
    simp only [List.flatMap_append, List.append_assoc, List.cons_append, List.nil_append, symBytes]
    rfl
  rw [e]
  exact bytesN_B fun c hc => by
    rcases List.mem_append.1 hc with hc | hc
    · simp at hc; omega
    · exact hb c hc
theorem gfile_ok : GOk (gfile (gst t q).1 (gst t q).2) := by
  have h := gfile_num ht hq
  have hs := h.size
  have hl := gL_len (t := t) (q := q)
  have hsl := (gst_inv t q).sl
  have e2 := h.b2
  have hn : prI (gfile (gst t q).1 (gst t q).2) (3 + 4 * q) = ((gst t q).2.length : Int) := by
    have := h.pr (2 * q) (by omega)
    rwa [gL_n, show 3 + 2 * (2 * q) = 3 + 4 * q by omega] at this
  refine ⟨by omega, by omega, ⟨h.b0, h.b1⟩, by omega, fun k hk => ?_, ?_, ?_, ?_, fun k hk => ?_⟩
  · rw [e2] at hk
    rw [h.pr k (by omega)]
    have hb := fun i => bestL_lt (gst_inv t i).sb (by omega)
    obtain ⟨j, hj | hj⟩ : ∃ j, k = 2 * j ∨ k = 2 * j + 1 := ⟨k / 2, by omega⟩
    · subst hj
      rw [(gL_rule (t := t) (by omega : j < q)).1]
      have := hb j
      omega
    · subst hj
      rw [(gL_rule (t := t) (by omega : j < q)).2]
      have := hb j
      omega
  · rw [e2, hn]; omega
  · rw [e2, hn]; omega
  · rw [e2, hn, hs, hl]; omega
  · rw [e2, hn] at hk
    rw [e2]
    have := h.pr (2 * q + 1 + k) (by omega)
    rw [gL_s, show 3 + 2 * (2 * q + 1 + k) = 5 + 4 * q + 2 * k by omega] at this
    rw [this]
    have hk2 : k < (gst t q).2.length := by omega
    have e : (gst t q).2.getD k 0 = (gst t q).2[k] := by simp [List.getD, hk2]
    have := (gst_inv t q).sb _ (List.getElem_mem hk2)
    rw [e]; omega
theorem gfile_tx : ∀ i, i ≤ q → gTx (gfile (gst t q).1 (gst t q).2) i = gTab t i
  | 0, _ => rfl
  | i + 1, hi => by
    have h := gfile_num ht hq
    have hl := gL_len (t := t) (q := q)
    have ih := gfile_tx i (by omega)
    have r := gL_rule (t := t) (by omega : i < q)
    have ea : gA (gfile (gst t q).1 (gst t q).2) i = (bestL (gst t i).2).a := by
      have := h.pr (2 * i) (by omega)
      rw [r.1, show 3 + 2 * (2 * i) = 3 + 4 * i by omega] at this
      unfold gA; rw [this]; rfl
    have eb : gB (gfile (gst t q).1 (gst t q).2) i = (bestL (gst t i).2).b := by
      have := h.pr (2 * i + 1) (by omega)
      rw [r.2, show 3 + 2 * (2 * i + 1) = 5 + 4 * i by omega] at this
      unfold gB; rw [this]; rfl
    rw [gTab_succ]
    show gTx _ i ++ [symT (gTx _ i) (gA _ i) ++ symT (gTx _ i) (gB _ i)] = _
    rw [ea, eb, ih]
theorem gfile_top : gTop (gfile (gst t q).1 (gst t q).2) (gN (gfile (gst t q).1 (gst t q).2)) = (gst t q).2 := by
  have h := gfile_num ht hq
  have hl := gL_len (t := t) (q := q)
  have e2 := h.b2
  have hn : gN (gfile (gst t q).1 (gst t q).2) = (gst t q).2.length := by
    have := h.pr (2 * q) (by omega)
    rw [gL_n, show 3 + 2 * (2 * q) = 3 + 4 * q by omega] at this
    unfold gN; rw [e2, this]; rfl
  rw [hn]
  have key : ∀ j, j ≤ (gst t q).2.length → gTop (gfile (gst t q).1 (gst t q).2) j = (gst t q).2.take j := by
    intro j
    induction j with
    | zero => intro _; rfl
    | succ j ih =>
      intro hj
      show gTop _ j ++ [gS _ j] = _
      have es : gS (gfile (gst t q).1 (gst t q).2) j = (gst t q).2.getD j 0 := by
        have := h.pr (2 * q + 1 + j) (by omega)
        rw [gL_s, show 3 + 2 * (2 * q + 1 + j) = 5 + 4 * q + 2 * j by omega] at this
        unfold gS; rw [e2, this]; rfl
      rw [ih (by omega), es, List.take_add_one, List.getElem?_eq_getElem (by omega)]
      simp [List.getD, List.getElem?_eq_getElem (by omega : j < (gst t q).2.length)]
  rw [key _ (Nat.le_refl _), List.take_length]
theorem gfile_text : HasText (gfile (gst t q).1 (gst t q).2) 71 (bytesN t) := by
  obtain ⟨h1, h2, h3, h4⟩ := (gfile_ok ht hq).stext
  refine ⟨_, _, h1, h2, ?_, h4⟩
  rw [h3, gfile_top ht hq, (gfile_num ht hq).b2, gfile_tx ht hq q (Nat.le_refl _)]
  exact flat_gst t q
end

end Go.Proofs.YtgifhgnccmnbiabGreatDoor

set_option linter.unusedVariables false
set_option linter.unusedSimpArgs false
namespace Go.Proofs.YtgifhgnccmnbiabGreatDoor
open Go.RowKit Go.IntWalk

/-- Why options and a pattern are refused. -/
def OptBad (mx : Int) (p : ByteArray) (x : Int) : Prop := (mx < 0 ∧ x = 1) ∨ (0 ≤ mx ∧ PatE p x)
theorem opt_cases (mx : Int) (p : ByteArray) : (∃ x, OptBad mx p x) ∨ (0 ≤ mx ∧ ∃ r, PatOk p r) := by
  by_cases h : mx < 0
  · exact Or.inl ⟨1, Or.inl ⟨h, rfl⟩⟩
  · rcases pat_cases p with ⟨x, hx⟩ | ⟨r, hr⟩
    · exact Or.inl ⟨x, Or.inr ⟨by omega, hx⟩⟩
    · exact Or.inr ⟨by omega, r, hr⟩
theorem PatE.nz {p : ByteArray} {x : Int} (h : PatE p x) : x ≠ 0 := by
  rcases h with ⟨_, rfl⟩ | ⟨_, r, _, ⟨_, rfl⟩ | ⟨_, _, rfl⟩⟩ <;> decide
theorem OptBad.nz {mx : Int} {p : ByteArray} {x : Int} (h : OptBad mx p x) : x ≠ 0 := by
  rcases h with ⟨_, rfl⟩ | ⟨_, h⟩
  · decide
  · exact h.nz
section
variable {inv fold whole num : Bool} {mx x : Int} {p f : ByteArray}
theorem sread_opt (h : OptBad mx p x) (hp : p.size ≤ maxLen) (w : World) :
    Calls Tryz.prog 55 #[.agg #[.bool inv, .bool fold, .bool whole, .bool num, .int .i64 mx], .string p] w fun e w' => e = .returned (.tuple #[.agg #[.slice none 0 0, .int .i64 0], .int .i64 x]) ∧ Below w.heap.size w w' := by
  rcases h with ⟨h, rfl⟩ | ⟨h0, h⟩
  · exact sread_neg inv fold whole num mx p w h
  · exact sread_bad h inv fold whole num mx w h0 hp
theorem count_opt (h : OptBad mx p x) (hp : p.size ≤ maxLen) (f : ByteArray) (w : World) :
    Calls Tryz.prog 18 #[.agg #[.bool inv, .bool fold, .bool whole, .bool num, .int .i64 mx], .string p, .string f] w fun e w' => e = .returned (.tuple #[.int .i64 0, .int .i64 x]) ∧ Below w.heap.size w w' :=
  count_no w h.nz (fun w => sopen_no w h.nz (fun w => sread_opt h hp w))
theorem grep_opt (h : OptBad mx p x) (hp : p.size ≤ maxLen) (f : ByteArray) (w : World) :
    Calls Tryz.prog 9 #[.agg #[.bool inv, .bool fold, .bool whole, .bool num, .int .i64 mx], .string p, .string f] w fun e w' => e = .returned (.tuple #[.string ⟨#[]⟩, .int .i64 x]) ∧ Below w.heap.size w w' :=
  grep_no w h.nz (fun w => sopen_no w h.nz (fun w => sread_opt h hp w))
theorem HasText.count {kind : Int} {X : List Nat} (h : HasText f kind X) (hX : X.length ≤ 1099511627776) (hf : f.size ≤ maxLen) {r : Nat × PS} (hr : PatOk p r) (hm0 : 0 ≤ mx) (hm2 : mx ≤ 9223372036854775807) (w : World) :
    Calls Tryz.prog 18 #[.agg #[.bool inv, .bool fold, .bool whole, .bool num, .int .i64 mx], .string p, .string f] w fun e w' => e = .returned (.tuple #[.int .i64 (capI mx (cnt (machOf r fold whole) inv (linesL X))), .int .i64 0]) ∧ Below w.heap.size w w' := by
  obtain ⟨t, T, h1, h2, h3, _⟩ := h.ex
  have hw : t.whole.len ≤ 1099511627776 := by rw [h2.whole, h3, ptOf_len, capL_of (by omega)]; exact hX
  have := count_go (inv := inv) (fold := fold) (whole := whole) (num := num) w (by omega) hm2 h2 hw (fun w => sopen_ok hr w hm0 h2 (fun w => read_good hf h1 hw w))
  rwa [h3] at this
theorem HasText.grep {kind : Int} {X : List Nat} (h : HasText f kind X) (hX : X.length ≤ 1099511627776) (hf : f.size ≤ maxLen) {r : Nat × PS} (hr : PatOk p r) (hm0 : 0 ≤ mx) (hm2 : mx ≤ 9223372036854775807) (w : World) (htab : TabP w) :
    Calls Tryz.prog 9 #[.agg #[.bool inv, .bool fold, .bool whole, .bool num, .int .i64 mx], .string p, .string f] w fun e w' => e = .returned (.tuple #[.string (grepR (outP num X (flC (machOf r fold whole) inv mx X))).1, .int .i64 (grepR (outP num X (flC (machOf r fold whole) inv mx X))).2]) ∧ Below w.heap.size w w' := by
  obtain ⟨t, T, h1, h2, h3, _⟩ := h.ex
  have hw : t.whole.len ≤ 1099511627776 := by rw [h2.whole, h3, ptOf_len, capL_of (by omega)]; exact hX
  have := grep_go (inv := inv) (fold := fold) (whole := whole) (num := num) w htab (by omega) hm2 h2 hw (fun w => sopen_ok hr w hm0 h2 (fun w => read_good hf h1 hw w))
  rwa [h3] at this
/-- Count and Grep of a text, whichever way it is packed. -/
theorem count_same (hp : p.size ≤ maxLen) (X : List Nat) (hX : X.length ≤ 1099511627776) (hm1 : -9223372036854775808 ≤ mx) (hm2 : mx ≤ 9223372036854775807) :
    ∃ n x : Int, ∀ f kind, HasText f kind X → f.size ≤ maxLen → ∀ w, Calls Tryz.prog 18 #[.agg #[.bool inv, .bool fold, .bool whole, .bool num, .int .i64 mx], .string p, .string f] w fun e w' => e = .returned (.tuple #[.int .i64 n, .int .i64 x]) ∧ Below w.heap.size w w' := by
  rcases opt_cases mx p with ⟨x, h⟩ | ⟨h0, r, hr⟩
  · exact ⟨0, x, fun f _ _ _ w => count_opt h hp f w⟩
  · exact ⟨_, 0, fun f _ h hf w => h.count hX hf hr h0 hm2 w⟩
theorem grep_same (hp : p.size ≤ maxLen) (X : List Nat) (hX : X.length ≤ 1099511627776) (hm1 : -9223372036854775808 ≤ mx) (hm2 : mx ≤ 9223372036854775807) :
    ∃ (s : ByteArray) (x : Int), ∀ f kind, HasText f kind X → f.size ≤ maxLen → ∀ w, TabP w → Calls Tryz.prog 9 #[.agg #[.bool inv, .bool fold, .bool whole, .bool num, .int .i64 mx], .string p, .string f] w fun e w' => e = .returned (.tuple #[.string s, .int .i64 x]) ∧ Below w.heap.size w w' := by
  rcases opt_cases mx p with ⟨x, h⟩ | ⟨h0, r, hr⟩
  · exact ⟨⟨#[]⟩, x, fun f _ _ _ w _ => grep_opt h hp f w⟩
  · exact ⟨_, _, fun f _ h hf w ht => h.grep hX hf hr h0 hm2 w ht⟩
end

end Go.Proofs.YtgifhgnccmnbiabGreatDoor

set_option linter.unusedVariables false
set_option linter.unusedSimpArgs false
namespace Go.Proofs.YtgifhgnccmnbiabGreatDoor
open Go.RowKit Go.IntWalk

theorem run_set (M : MP) (l : ByteArray) : ∀ q, q ≤ l.size → runM M ((bytesN l).take q) M.beg = setN M l q
  | 0, _ => by rw [List.take_zero]; rfl
  | q + 1, hq => by
    have hb : (bytesN l)[q]? = some l[q].toNat := by
      unfold bytesN
      rw [List.getElem?_map, Array.getElem?_toList, Array.getElem?_eq_getElem (show q < l.data.size from hq)]
      rfl
    rw [List.take_add_one, hb, runM_app, run_set M l q (by omega)]
    show fromP M (M.takes l[q].toNat) (setN M l q) = fromP M (M.takes (if h : q < l.size then l[q].toNat else 0)) (setN M l q)
    rw [dif_pos (by omega)]
theorem selSame {p : ByteArray} {r : Nat × PS} (h : PatOk p r) (fold whole inv : Bool) (l : ByteArray) : selL (machOf r fold whole) inv (bytesN l) = (selB r fold whole l != inv) := by
  have e : selB r fold whole l = matchesN (machOf r fold whole) l := (all_same p r h.small h.ev h.good h.size fold whole l).symm
  have e2 := run_set (machOf r fold whole) l l.size (Nat.le_refl _)
  rw [List.take_of_length_le (by rw [bytesN_len]; omega)] at e2
  rw [e]
  unfold selL matchesN
  rw [e2]
  generalize decide (setN (machOf r fold whole) l l.size &&& (machOf r fold whole).en = 0#64) = d
  cases d <;> cases inv <;> rfl
theorem Dbl.text {f : ByteArray} {tx more : List Nat} {k : Nat} (h : Dbl f tx k more) : HasText f 71 (repL tx (2 ^ k) ++ more) := by
  obtain ⟨h1, h2, h3⟩ := h.stext
  exact ⟨_, _, h1, h2, h3, rfl⟩
theorem one_text : HasText oneF 71 [97] := one_dbl.text

set_option maxHeartbeats 1000000 in
set_option maxRecDepth 100000 in
theorem searching_any (w : World) (htab : TabP w) : Calls Tryz.prog 38 #[] w fun e w' => e = .returned (.bool true) ∧ Below w.heap.size w w' := by
  have hs : selL (machOf aRes false false) false [97] = true := by
    have := selSame a_ok false false false aText
    rw [a_sel] at this
    exact this
  have hl : linesL [97] = [[97]] := rfl
  have hc : Hid (∀ w, Calls _ _ _ w _) := fun w => one_text.count (inv := false) (fold := false) (whole := false) (num := false) (mx := 0) (by decide) (by unfold maxLen; decide) a_ok (by omega) (by omega) w
  have hg : Hid (∀ w, TabP w → Calls _ _ _ w _) := fun w ht => one_text.grep (inv := false) (fold := false) (whole := false) (num := false) (mx := 0) (by decide) (by unfold maxLen; decide) a_ok (by omega) (by omega) w ht
  have e1 : capI 0 (cnt (machOf aRes false false) false (linesL [97])) = 1 := by
    rw [hl]
    unfold cnt
    rw [List.filter_cons, if_pos hs]
    rfl
  have e2 : flC (machOf aRes false false) false 0 [97] = [⟨1, 0, 1⟩] := by
    unfold flC
    rw [e1]
    unfold flX
    rw [hl]
    unfold selE
    rw [if_pos hs]
    rfl
  have e3 : grepR (outP false [97] [⟨1, 0, 1⟩]) = (⟨#[97, 10]⟩, 0) := by decide
  rw [e1] at hc
  rw [e2, e3] at hg
  have hgH : Hid (∀ w', Below w.heap.size w w' → Calls _ _ _ w' _) := fun w' b => hg.out w' (htab.kept (below_kept b))
  unfold aText oneF at hc hgH
  clear hg e1 e2 e3 hs hl htab
  simp only [] at hgH
  go_enter Tryz.func38, Tryz.ntmps38
  go_wp2_with (first
    | (go_at_call 18; refine (hc.out _).mono ?_; rintro e w1 ⟨rfl, b1⟩)
    | (go_at_call 9; refine (hgH.out _ b1).mono ?_; rintro e w2 ⟨rfl, b2⟩))
  go_ret
  exact ⟨rfl, b1.trans (b2.mono b1.size)⟩

set_option maxHeartbeats 1000000 in
set_option maxRecDepth 100000 in
theorem awake_any (w : World) (htab : TabP w) : Calls Tryz.prog 12 #[] w fun e w' => e = .returned (.bool true) ∧ Below w.heap.size w w' := by
  have h1 : Hid (∀ w, Calls _ _ _ w _) := matching_any
  have h2 : Hid (∀ w, Calls _ _ _ w _) := opening_any
  have h3 : Hid (∀ w, Calls _ _ _ w _) := packing_any
  have h4 : Hid (∀ w', Below w.heap.size w w' → Calls _ _ _ w' _) := fun w' b => searching_any w' (htab.kept (below_kept b))
  clear htab
  go_enter Tryz.func12, Tryz.ntmps12
  go_wp2_with (first
    | (go_at_call 35; refine (h1.out _).mono ?_; rintro e w1 ⟨rfl, b1⟩)
    | (go_at_call 36; refine (h2.out _).mono ?_; rintro e w2 ⟨rfl, b2⟩; have B2 : Hid (Below w.heap.size w w2) := b1.trans (b2.mono b1.size))
    | (go_at_call 37; refine (h3.out _).mono ?_; rintro e w3 ⟨rfl, b3⟩; have B3 : Hid (Below w.heap.size w w3) := B2.out.trans (b3.mono B2.out.size))
    | (go_at_call 38; refine (h4.out _ B3.out).mono ?_; rintro e w4 ⟨rfl, b4⟩))
  go_ret
  exact ⟨rfl, B3.out.trans (b4.mono B3.out.size)⟩

end Go.Proofs.YtgifhgnccmnbiabGreatDoor
