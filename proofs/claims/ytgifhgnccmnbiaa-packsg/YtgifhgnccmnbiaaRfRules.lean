/- The document's answer: files of rules, looked through. -/
import Derived.Test.YtgifhgnccmnbiaaPkFile
set_option linter.unusedVariables false
set_option linter.unusedSimpArgs false
namespace Go.Proofs.Ytgifhgnccmnbiaa
open Go.RowKit Go.IntWalk

/-- The number of the two bytes at a place; -1: they are not there. -/
def prI (f : ByteArray) (i : Nat) : Int := if i + 2 ≤ f.size then (bt f i : Int) + 256 * (bt f (i + 1) : Int) else -1
theorem prI_bd (f : ByteArray) (i : Nat) : -1 ≤ prI f i ∧ prI f i ≤ 65535 := by
  have h1 := bt_bd f i
  have h2 := bt_bd f (i + 1)
  unfold prI; split <;> omega
theorem prI_neg {f : ByteArray} {i : Nat} : prI f i < 0 ↔ ¬ i + 2 ≤ f.size := by
  unfold prI; split
  · constructor
    · intro h; omega
    · intro h; omega
  · constructor
    · intro h; assumption
    · intro h; omega

set_option maxHeartbeats 1000000 in
set_option maxRecDepth 100000 in
theorem pairAt_any (f : ByteArray) (hf : f.size ≤ 100000) (i : Nat) (hi : i ≤ 100000) (w : World) :
    Calls Try.prog 76 #[.string f, .int .i64 (i : Int)] w fun e w' => e = .returned (.int .i64 (prI f i)) ∧ Kept [] w w' := by
  have g0 : ¬ (i : Int) < 0 := by omega
  by_cases h : i + 2 ≤ f.size
  · have e : Hid (prI f i = (f[i].toNat : Int) + 256 * (f[i + 1].toNat : Int)) := by
      show prI f i = _
      unfold prI; rw [if_pos h, bt_lt (by omega), bt_lt (by omega)]
    have g1 : ¬ (f.size : Int) < (i : Int) + 2 := by omega
    have g2 : (i : Int) < (f.size : Int) := by omega
    have g3 : (i : Int) + 1 < (f.size : Int) := by omega
    have g4 : (0 : Int) ≤ (i : Int) + 1 := by omega
    have b1 := f[i].toNat_lt
    have b2 := f[i + 1].toNat_lt
    have e1 : IntKind.i64.wrap (f[i].toNat : Int) = (f[i].toNat : Int) := by rw [IntKind.wrap_i64]; omega
    have e2 : IntKind.i64.wrap (f[i + 1].toNat : Int) = (f[i + 1].toNat : Int) := by rw [IntKind.wrap_i64]; omega
    go_enter Try.func76, Try.ntmps76
    go_wp2_with fail
    go_quiet (fail)
    go_wp2
    go_ret
    exact ⟨ret_int (by rw [e.out]), (Kept.refl [] w).drewN _⟩
  · have e : Hid (prI f i = -1) := if_neg h
    have g1 : (f.size : Int) < (i : Int) + 2 := by omega
    go_enter Try.func76, Try.ntmps76
    go_wp2
    go_ret
    exact ⟨ret_int (by rw [e.out]), Kept.refl _ _⟩

/-- A file of rules, by the document's words. -/
structure GOk (f : ByteArray) : Prop where
  five : 5 ≤ f.size
  most : f.size ≤ 4000
  sg : isSG f
  r : bt f 2 ≤ 100
  rules : ∀ k, k < 2 * bt f 2 → 0 ≤ prI f (3 + 2 * k) ∧ prI f (3 + 2 * k) < 256 + ((k / 2 : Nat) : Int)
  n0 : 0 ≤ prI f (3 + 4 * bt f 2)
  n1 : prI f (3 + 4 * bt f 2) ≤ 1000
  size : (f.size : Int) = 5 + 4 * (bt f 2 : Int) + 2 * prI f (3 + 4 * bt f 2)
  syms : ∀ k : Nat, (k : Int) < prI f (3 + 4 * bt f 2) → prI f (5 + 4 * bt f 2 + 2 * k) < 256 + (bt f 2 : Int)
structure RulesR (f : ByteArray) (w w' : World) (e : Ending) : Prop where
  kept : Kept [] w w'
  out : (GOk f ∧ e = .returned (.tuple #[.int .i64 (prI f (3 + 4 * bt f 2)), .bool true])) ∨ (¬ GOk f ∧ e = .returned (.tuple #[.int .i64 0, .bool false]))

set_option maxHeartbeats 4000000 in
set_option maxRecDepth 100000 in
theorem rrules_any (f : ByteArray) (hf : f.size ≤ maxLen) (w : World) :
    Calls Try.prog 75 #[.string f] w fun e w' => RulesR f w w' e := by
  unfold maxLen at hf
  have hk0 : Hid (Kept [] w w) := Kept.refl _ _
  by_cases h5 : (f.size : Int) < 5
  · have hn : Hid (¬ GOk f) := fun h => by have := h.five; omega
    go_enter Try.func75, Try.ntmps75
    go_wp2
    go_ret2
    exact ⟨hk0.out, Or.inr ⟨hn.out, rfl⟩⟩
  by_cases h4 : (4000 : Int) < (f.size : Int)
  · have hn : Hid (¬ GOk f) := fun h => by have := h.most; omega
    have h5' : (5 : Int) ≤ (f.size : Int) := by omega
    clear h5
    go_enter Try.func75, Try.ntmps75
    go_wp2
    go_ret2
    exact ⟨hk0.out, Or.inr ⟨hn.out, rfl⟩⟩
  have h4' : (f.size : Int) ≤ 4000 := by omega
  have h5' : (5 : Int) ≤ (f.size : Int) := by omega
  have h2' : (2 : Int) ≤ (f.size : Int) := by omega
  have h2i : (2 : Int) < (f.size : Int) := by omega
  clear h4 h5
  by_cases hG : isSG f
  · have eG : f.extract 0 2 = ⟨#[83, 71]⟩ := (head_bytes (by omega) 83 71).2 hG
    have hGH : Hid (isSG f) := hG
    clear hG
    obtain ⟨r, hr⟩ : ∃ r, r = bt f 2 := ⟨_, rfl⟩
    have hr2 : f[2].toNat = r := by rw [hr, bt_lt (by omega)]
    have hr255 : r < 256 := by rw [← hr2]; exact f[2].toNat_lt
    have hrH : Hid (r = bt f 2) := hr
    clear hr
    by_cases hrb : (100 : Int) < (r : Int)
    · have hn : Hid (¬ GOk f) := fun h => by have := h.r; rw [← hrH.out] at this; omega
      go_enter Try.func75, Try.ntmps75
      go_wp2
      go_ret2
      exact ⟨hk0.out, Or.inr ⟨hn.out, rfl⟩⟩
    · have hrb' : (r : Int) ≤ 100 := by omega
      clear hrb
      have hpa : Hid (∀ i, i ≤ 100000 → ∀ w, Calls _ _ _ w _) := fun i hi w => pairAt_any f (by omega) i hi w
      go_enter Try.func75, Try.ntmps75
      go_wp2_with fail
      go_loopw [5] (fun iv wr => ∃ k : Nat, iv = .int .i64 (k : Int) ∧ k ≤ 2 * r ∧ (∀ j, j < k → 0 ≤ prI f (3 + 2 * j) ∧ prI f (3 + 2 * j) < 256 + ((j / 2 : Nat) : Int)) ∧ Kept [] w wr) (fun iv _ => (2 * (r : Int) - intOf iv).toNat)
      case atStart => exact ⟨0, rfl, Nat.zero_le _, fun j hj => by omega, hk0.out⟩
      case round =>
        obtain ⟨k, rfl, hk, hall, hkw⟩ := hrel
        have hallH : Hid (∀ j, _) := hall
        have hkwH : Hid (Kept _ _ _) := hkw
        clear hall hkw
        by_cases hlt : (k : Int) < 2 * (r : Int)
        · have hc := hpa.out (3 + 2 * k) (by omega) wr
          have ecast : ((3 + 2 * k : Nat) : Int) = 3 + 2 * (k : Int) := by omega
          rw [ecast] at hc
          have hc : Hid (Calls _ _ _ _ _) := hc
          have hb := prI_bd f (3 + 2 * k)
          have hrule : Hid (GOk f → 0 ≤ prI f (3 + 2 * k) ∧ prI f (3 + 2 * k) < 256 + ((k / 2 : Nat) : Int)) := fun h => h.rules k (by rw [← hrH.out]; omega)
          have hnext : Hid (0 ≤ prI f (3 + 2 * k) ∧ prI f (3 + 2 * k) < 256 + ((k / 2 : Nat) : Int) → ∀ j, j < k + 1 → 0 ≤ prI f (3 + 2 * j) ∧ prI f (3 + 2 * j) < 256 + ((j / 2 : Nat) : Int)) := fun h j hj => by
            by_cases hjk : j = k
            · subst hjk; exact h
            · exact hallH.out j (by omega)
          have ediv : (k : Int).tdiv 2 = ((k / 2 : Nat) : Int) := (Int.ofNat_tdiv k 2).symm
          have hq2 : k / 2 ≤ 200 := by omega
          clear ecast hpa
          generalize prI f (3 + 2 * k) = v at *
          generalize k / 2 = q at *
          go_wp2_with fail
          refine hc.out.mono ?_
          rintro e w2 ⟨rfl, k2⟩
          have hk2 : Hid (Kept _ _ _) := hkwH.out.trans k2
          clear hc k2 hkwH
          by_cases hv0 : v < 0
          · have hn : Hid (¬ GOk f) := fun h => by have := (hrule.out h).1; omega
            clear hrule hnext hallH
            go_wp2
            go_ret2
            exact ⟨hk2.out, Or.inr ⟨hn.out, rfl⟩⟩
          · by_cases hv1 : 256 + (q : Int) ≤ v
            · have hn : Hid (¬ GOk f) := fun h => by have := (hrule.out h).2; omega
              have hv0' : 0 ≤ v := by omega
              clear hrule hnext hallH hv0
              go_wp2
              go_ret2
              exact ⟨hk2.out, Or.inr ⟨hn.out, rfl⟩⟩
            · have hnx : Hid (∀ j, j < k + 1 → _) := hnext.out ⟨by omega, by omega⟩
              have hv0' : 0 ≤ v := by omega
              have hv1' : v < 256 + (q : Int) := by omega
              clear hrule hnext hallH hv0 hv1
              go_wp2
              refine ⟨⟨k + 1, by go_num, by omega, hnx.out, hk2.out⟩, ?_⟩
              simp only [intOf]; omega
        · have hke : k = 2 * r := by omega
          have hall2 : Hid (∀ j, j < 2 * r → 0 ≤ prI f (3 + 2 * j) ∧ prI f (3 + 2 * j) < 256 + ((j / 2 : Nat) : Int)) := fun j hj => hallH.out j (by omega)
          have hc := hpa.out (3 + 4 * r) (by omega) wr
          have ecast : ((3 + 4 * r : Nat) : Int) = 3 + 4 * (r : Int) := by omega
          rw [ecast] at hc
          have hc : Hid (Calls _ _ _ _ _) := hc
          have hb := prI_bd f (3 + 4 * r)
          have hGk : Hid (GOk f → 0 ≤ prI f (3 + 4 * r) ∧ prI f (3 + 4 * r) ≤ 1000 ∧ (f.size : Int) = 5 + 4 * (r : Int) + 2 * prI f (3 + 4 * r) ∧ ∀ j : Nat, (j : Int) < prI f (3 + 4 * r) → prI f (5 + 4 * r + 2 * j) < 256 + (r : Int)) := fun h => by
            rw [hrH.out]; exact ⟨h.n0, h.n1, h.size, h.syms⟩
          have hmk : Hid (0 ≤ prI f (3 + 4 * r) → prI f (3 + 4 * r) ≤ 1000 → (f.size : Int) = 5 + 4 * (r : Int) + 2 * prI f (3 + 4 * r) → (∀ j : Nat, (j : Int) < prI f (3 + 4 * r) → prI f (5 + 4 * r + 2 * j) < 256 + (r : Int)) → GOk f) := fun a b c d => by
            rw [hrH.out] at a b c d hrb' hall2
            exact ⟨by omega, by omega, hGH.out, by omega, hall2.out, a, b, c, d⟩
          have hret : Hid (∀ e w', RulesR f w w' e ↔ (Kept [] w w' ∧ ((GOk f ∧ e = .returned (.tuple #[.int .i64 (prI f (3 + 4 * r)), .bool true])) ∨ (¬ GOk f ∧ e = .returned (.tuple #[.int .i64 0, .bool false]))))) := fun e w' => by
            rw [hrH.out]
            exact ⟨fun h => ⟨h.kept, h.out⟩, fun h => ⟨h.1, h.2⟩⟩
          clear ecast hallH hke hk
          obtain ⟨n, hn⟩ : ∃ n, n = prI f (3 + 4 * r) := ⟨_, rfl⟩
          rw [← hn] at hc hb hGk hmk
          have hnH : Hid (n = _) := hn
          clear hn
          have hlt' : ¬ (k : Int) < 2 * (r : Int) := hlt
          go_wp2_with fail
          refine hc.out.mono ?_
          rintro e w2 ⟨rfl, k2⟩
          have hk2 : Hid (Kept _ _ _) := hkwH.out.trans k2
          clear hc k2 hkwH
          by_cases hn0 : n < 0
          · have hno : Hid (¬ GOk f) := fun h => by have := (hGk.out h).1; omega
            clear hGk hmk hpa
            go_wp2
            go_ret2
            exact (hret.out _ _).2 ⟨hk2.out, Or.inr ⟨hno.out, rfl⟩⟩
          by_cases hn1 : 1000 < n
          · have hno : Hid (¬ GOk f) := fun h => by have := (hGk.out h).2.1; omega
            have hn0' : 0 ≤ n := by omega
            clear hGk hmk hpa hn0
            go_wp2
            go_ret2
            exact (hret.out _ _).2 ⟨hk2.out, Or.inr ⟨hno.out, rfl⟩⟩
          have hn0' : 0 ≤ n := by omega
          have hn1' : n ≤ 1000 := by omega
          clear hn0 hn1
          by_cases hsz : (f.size : Int) = 5 + 4 * (r : Int) + 2 * n
          · have hszb : ((f.size : Int) != 5 + 4 * (r : Int) + 2 * n) = false := by rw [hsz]; simp
            have hszH : Hid (_ = _) := hsz
            clear hsz
            go_wp2_with fail
            go_loopw [8] (fun iv wr => ∃ j : Nat, iv = .int .i64 (j : Int) ∧ (j : Int) ≤ n ∧ (∀ i : Nat, i < j → prI f (5 + 4 * r + 2 * i) < 256 + (r : Int)) ∧ Kept [] w wr) (fun iv _ => (n - intOf iv).toNat)
            case atStart => exact ⟨0, rfl, hn0', fun i hi => by omega, hk2.out⟩
            case round =>
              obtain ⟨j, rfl, hj, hall, hkw⟩ := hrel
              have hallH : Hid (∀ i : Nat, _) := hall
              have hkwH : Hid (Kept _ _ _) := hkw
              clear hall hkw hk2
              by_cases hjn : (j : Int) < n
              · have hc := fun w => hpa.out (5 + 4 * r + 2 * j) (by omega) w
                have ecast : ((5 + 4 * r + 2 * j : Nat) : Int) = 5 + 4 * (r : Int) + 2 * (j : Int) := by omega
                rw [ecast] at hc
                have hc : Hid (∀ w, Calls _ _ _ w _) := hc
                have hb2 := prI_bd f (5 + 4 * r + 2 * j)
                have hrule : Hid (GOk f → prI f (5 + 4 * r + 2 * j) < 256 + (r : Int)) := fun h => (hGk.out h).2.2.2 j hjn
                have hnext : Hid (prI f (5 + 4 * r + 2 * j) < 256 + (r : Int) → ∀ i : Nat, i < j + 1 → prI f (5 + 4 * r + 2 * i) < 256 + (r : Int)) := fun h i hi => by
                  by_cases hij : i = j
                  · subst hij; exact h
                  · exact hallH.out i (by omega)
                clear ecast hpa hallH
                generalize prI f (5 + 4 * r + 2 * j) = v at *
                go_wp2_with fail
                refine (hc.out _).mono ?_
                rintro e w3 ⟨rfl, k3⟩
                have hk3 : Hid (Kept _ _ _) := hkwH.out.trans k3
                clear hc k3 hkwH
                by_cases hv1 : 256 + (r : Int) ≤ v
                · have hno : Hid (¬ GOk f) := fun h => by have := hrule.out h; omega
                  clear hrule hnext hmk hGk
                  go_wp2
                  go_ret2
                  exact (hret.out _ _).2 ⟨hk3.out, Or.inr ⟨hno.out, rfl⟩⟩
                · have hnx : Hid (∀ i : Nat, i < j + 1 → _) := hnext.out (by omega)
                  have hv1' : v < 256 + (r : Int) := by omega
                  clear hrule hnext hmk hGk hv1
                  go_wp2
                  refine ⟨⟨j + 1, by go_num, by omega, hnx.out, hk3.out⟩, ?_⟩
                  simp only [intOf]; omega
              · have hyes : Hid (GOk f) := hmk.out hn0' hn1' hszH.out (fun i hi => hallH.out i (by omega))
                clear hmk hGk hallH hpa
                go_wp2
                go_ret2
                exact (hret.out _ _).2 ⟨hkwH.out, Or.inl ⟨hyes.out, by rw [hnH.out]; rfl⟩⟩
          · have hno : Hid (¬ GOk f) := fun h => hsz (hGk.out h).2.2.1
            have hszb : ((f.size : Int) != 5 + 4 * (r : Int) + 2 * n) = true := by simp [hsz]
            clear hGk hmk hpa hsz
            go_wp2
            go_ret2
            exact (hret.out _ _).2 ⟨hk2.out, Or.inr ⟨hno.out, rfl⟩⟩
  · have hn : Hid (¬ GOk f) := fun h => hG h.sg
    have d1 : ((f.extract 0 2).toList == [83, 71]) = false := head_ne (by omega) 83 71 (fun h => hG h)
    have d2 : ((f.extract 0 2).toList != [83, 71]) = true := by simp [bne, d1]
    clear hG
    go_enter Try.func75, Try.ntmps75
    go_wp2
    go_ret2
    exact ⟨hk0.out, Or.inr ⟨hn.out, rfl⟩⟩

end Go.Proofs.Ytgifhgnccmnbiaa
