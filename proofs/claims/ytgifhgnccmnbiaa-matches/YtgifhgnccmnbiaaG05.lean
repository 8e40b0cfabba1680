/- The document's answer: tables: the one, and behind it the other. -/
import Derived.Test.YtgifhgnccmnbiaaG04
import Derived.Test.YtgifhgnccmnbiaaG03
set_option linter.unusedVariables false
set_option linter.unusedSimpArgs false
namespace Go.Proofs.Ytgifhgnccmnbiaa
open Go.RowKit Go.IntWalk

/-- By way of a place below k. -/
def thenP (A B : Nat → Nat → Bool) (k a c : Nat) : Bool := (List.range k).any (fun m => decide (a ≤ m) && decide (m ≤ c) && (A a m && B m c))
def midT (A B : Nat → Nat → Bool) (N i k a c : Nat) : Bool := if a < i then thenP A B N a c else if a = i then thenP A B k a c else false
def innT (A B : Nat → Nat → Bool) (N i k j a c : Nat) : Bool := midT A B N i k a c || (decide (a = i) && (decide (k ≤ c) && decide (c < j)) && B k c)

theorem thenP_succ (A B : Nat → Nat → Bool) (k a c : Nat) : thenP A B (k + 1) a c = (thenP A B k a c || (decide (a ≤ k) && decide (k ≤ c) && (A a k && B k c))) := by
  simp [thenP, List.range_succ]
theorem thenP_low (A B : Nat → Nat → Bool) (k a c : Nat) (h : k ≤ a) : thenP A B k a c = false := by
  unfold thenP
  rw [List.any_eq_false]
  intro m hm
  have := List.mem_range.1 hm
  simp
  omega
theorem midT_begin (A B : Nat → Nat → Bool) (N i a c : Nat) : midT A B N i i a c = (decide (a < i) && thenP A B N a c) := by
  unfold midT
  by_cases h1 : a < i
  · simp [h1]
  · rw [if_neg h1, decide_eq_false h1, Bool.false_and]
    by_cases h2 : a = i
    · rw [if_pos h2, thenP_low _ _ _ _ _ (by omega)]
    · rw [if_neg h2]
theorem midT_end (A B : Nat → Nat → Bool) (N i a c : Nat) : midT A B N i N a c = (decide (a < i + 1) && thenP A B N a c) := by
  unfold midT
  by_cases h1 : a < i
  · rw [if_pos h1, decide_eq_true (by omega), Bool.true_and]
  · rw [if_neg h1]
    by_cases h2 : a = i
    · rw [if_pos h2, decide_eq_true (by omega), Bool.true_and]
    · rw [if_neg h2, decide_eq_false (by omega), Bool.false_and]
theorem midT_skip (A B : Nat → Nat → Bool) (N i k a c : Nat) (h : A i k = false) : midT A B N i k a c = midT A B N i (k + 1) a c := by
  unfold midT
  by_cases h2 : a = i
  · subst h2; simp [thenP_succ, h]
  · simp [h2]
theorem innT_begin (A B : Nat → Nat → Bool) (N i k a c : Nat) : innT A B N i k k a c = midT A B N i k a c := by
  unfold innT
  have : (decide (k ≤ c) && decide (c < k)) = false := by
    by_cases h : k ≤ c
    · rw [decide_eq_false (show ¬ c < k by omega), Bool.and_false]
    · rw [decide_eq_false h, Bool.false_and]
  rw [this]; simp
theorem innT_end (A B : Nat → Nat → Bool) (N i k a c : Nat) (h : A i k = true) (hik : i ≤ k) (hc : c < N) : innT A B N i k N a c = midT A B N i (k + 1) a c := by
  unfold innT midT
  by_cases h2 : a = i
  · subst h2; simp [thenP_succ, h, hik, hc]
  · simp [h2]
theorem innT_step (A B : Nat → Nat → Bool) (N i k j a c : Nat) (hkj : k ≤ j) : innT A B N i k (j + 1) a c = if a = i ∧ c = j then (innT A B N i k j i j || B k j) else innT A B N i k j a c := by
  by_cases h : a = i ∧ c = j
  · obtain ⟨rfl, rfl⟩ := h
    simp [innT, hkj]
  · rw [if_neg h]
    unfold innT
    by_cases h1 : a = i
    · subst h1
      have h2 : c ≠ j := fun hc => h ⟨rfl, hc⟩
      have : decide (c < j + 1) = decide (c < j) := decide_eq_decide.2 (by omega)
      rw [this]
    · simp [h1]

set_option maxHeartbeats 4000000 in
set_option maxRecDepth 100000 in
theorem then_any (n : Nat) (hn : n ≤ 100000) (w : World) (va vb : Value) (ra rb : List Nat) (A B : Nat → Nat → Bool) (hla : ra.length = n + 1) (hlb : rb.length = n + 1)
    (ha : Tab w 0 va (n + 1) ra A) (hb : Tab w 0 vb (n + 1) rb B) : TabC Try.prog 101 #[va, vb] n w (thenP A B (n + 1)) := by
  have hnone := none_any n hn w
  unfold TabC at hnone
  obtain ⟨ka, capa, rfl, _, hca⟩ := ha.head (by omega)
  obtain ⟨kb, capb, rfl, _, hcb⟩ := hb.head (by omega)
  rw [hla] at ha ⊢
  rw [hlb] at hb ⊢
  have hlaH : Hid (_ = _) := hla
  have hlbH : Hid (_ = _) := hlb
  clear hla hlb hca hcb
  unfold TabC
  go_enter Try.func101, Try.ntmps101
  go_wp2_with fail
  refine hnone.mono ?_
  rintro e w1 ⟨v, rows, rfl, hlen, ht0, hk0⟩
  obtain ⟨k, cap, rfl, hk, _⟩ := ht0.head (by omega)
  rw [hlen] at ht0
  rw [hlen]
  have hlenH : Hid (_ = _) := hlen
  clear hnone hlen
  go_wp2_with fail
  go_loopw [6] (fun iv wr => ∃ i : Nat, iv = .int .i64 (i : Int) ∧ i ≤ n + 1 ∧ Tab wr w.heap.size (.slice (some ⟨k, 0, none⟩) (n + 1) cap) (n + 1) rows (fun a c => decide (a < i) && thenP A B (n + 1) a c) ∧ Kept [] w wr) (fun iv _ => ((n : Int) + 1 - intOf iv).toNat)
  case atStart => exact ⟨0, rfl, by omega, ht0.congr (fun i j _ _ => by simp), hk0⟩
  case round =>
    obtain ⟨i, rfl, hle, ht, hkw⟩ := hrel
    clear ht0 hk0
    by_cases hlt : (i : Int) < (n : Int) + 1
    · have htb : Hid (Tab _ _ _ _ _ _) := ht.congr (M' := midT A B (n + 1) i i) (fun a c _ _ => (midT_begin _ _ _ i a c).symm)
      have hkwH : Hid (Kept _ _ _) := hkw
      clear ht hkw
      go_wp2_with fail
      go_loopw [7] (fun pv wr => ∃ p : Nat, pv = .int .i64 (p : Int) ∧ i ≤ p ∧ p ≤ n + 1 ∧ Tab wr w.heap.size (.slice (some ⟨k, 0, none⟩) (n + 1) cap) (n + 1) rows (midT A B (n + 1) i p) ∧ Kept [] w wr) (fun pv _ => ((n : Int) + 1 - intOf pv).toNat)
      case atStart => exact ⟨i, rfl, Nat.le_refl _, hle, htb.out, hkwH.out⟩
      case round =>
        obtain ⟨p, rfl, hip, hple, ht, hkw⟩ := hrel
        clear htb hkwH
        by_cases hpt : (p : Int) < (n : Int) + 1
        · obtain ⟨ga, hga⟩ : ∃ g, ra[i]? = some g := ⟨_, List.getElem?_eq_getElem (by rw [hlaH.out]; omega)⟩
          have ha2 := ha.kept hkw (by simp)
          obtain ⟨k2, cap2, he, _, hcellsA⟩ := ha2.head (by rw [hlaH.out]; omega)
          simp only [Value.slice.injEq, Option.some.injEq, Addr.mk.injEq] at he
          obtain ⟨⟨rfl, _⟩, _⟩ := he
          have a1 := hcellsA i ga hga
          unfold rowV at a1
          have a2 := ha2.cell hga (j := p) (by omega)
          clear hga hcellsA ha2
          cases hA : A i p with
          | false =>
            rw [hA] at a2
            have ht2 : Hid (Tab _ _ _ _ _ _) := ht.congr (fun a c _ _ => midT_skip A B (n + 1) i p a c hA)
            have hkwH : Hid (Kept _ _ _) := hkw
            clear ht hkw
            go_wp2
            refine ⟨⟨p + 1, by go_num, by omega, by omega, ht2.out, hkwH.out⟩, ?_⟩
            simp only [intOf]; omega
          | true =>
            rw [hA] at a2
            have htb : Hid (Tab _ _ _ _ _ _) := ht.congr (M' := innT A B (n + 1) i p p) (fun a c _ _ => (innT_begin A B (n + 1) i p a c).symm)
            have hkwH : Hid (Kept _ _ _) := hkw
            clear ht hkw
            go_wp2_with fail
            clear a1 a2
            go_loopw [8] (fun jv wr => ∃ j : Nat, jv = .int .i64 (j : Int) ∧ p ≤ j ∧ j ≤ n + 1 ∧ Tab wr w.heap.size (.slice (some ⟨k, 0, none⟩) (n + 1) cap) (n + 1) rows (innT A B (n + 1) i p j) ∧ Kept [] w wr) (fun jv _ => ((n : Int) + 1 - intOf jv).toNat)
            case atStart => exact ⟨p, rfl, Nat.le_refl _, hple, htb.out, hkwH.out⟩
            case round =>
              obtain ⟨j, rfl, hpj, hjle, ht, hkw⟩ := hrel
              clear htb hkwH
              by_cases hjt : (j : Int) < (n : Int) + 1
              · obtain ⟨g, hg⟩ : ∃ g, rows[i]? = some g := ⟨_, List.getElem?_eq_getElem (by rw [hlenH.out]; omega)⟩
                obtain ⟨gb, hgb⟩ : ∃ g, rb[p]? = some g := ⟨_, List.getElem?_eq_getElem (by rw [hlbH.out]; omega)⟩
                have hb2 := hb.kept hkw (by simp)
                obtain ⟨k2, cap2, he, _, hcells⟩ := ht.head (by rw [hlenH.out]; omega)
                simp only [Value.slice.injEq, Option.some.injEq, Addr.mk.injEq] at he
                obtain ⟨⟨rfl, _⟩, _⟩ := he
                obtain ⟨k2, cap2, he, _, hcellsB⟩ := hb2.head (by rw [hlbH.out]; omega)
                simp only [Value.slice.injEq, Option.some.injEq, Addr.mk.injEq] at he
                obtain ⟨⟨rfl, _⟩, _⟩ := he
                have d1 := hcells i g hg
                have b1 := hcellsB p gb hgb
                unfold rowV at d1 b1
                have d2 := ht.cell hg (j := j) (by omega)
                have d3 := ht.frozen hg j
                have b2 := hb2.cell hgb (j := j) (by omega)
                have ht2 : Hid (Tab _ _ _ _ _ _) := ht.set (M' := innT A B (n + 1) i p (j + 1)) hg j (innT A B (n + 1) i p j i j || B p j) (fun a c _ _ => innT_step A B (n + 1) i p j a c hpj)
                have hgbase := ht.base g (List.mem_iff_getElem?.2 ⟨i, hg⟩)
                have hk2 : Hid (Kept [] w (wr.setCell ⟨g, j, none⟩ (.bool (innT A B (n + 1) i p j i j || B p j)))) := hkw.setCell (Or.inr hgbase) _
                clear hg hgb hcells hcellsB hb2 ht
                cases hT : innT A B (n + 1) i p j i j with
                | true =>
                  rw [hT] at d2 ht2 hk2
                  rw [Bool.true_or] at ht2 hk2
                  go_wp2_with fail
                  go_region
                  go_wp2
                  refine ⟨⟨j + 1, by go_num, by omega, by omega, ht2.out.drew, hk2.out.drew⟩, ?_⟩
                  simp only [intOf]; omega
                | false =>
                  rw [hT] at d2 ht2 hk2
                  rw [Bool.false_or] at ht2 hk2
                  go_wp2_with fail
                  go_region
                  go_wp2
                  refine ⟨⟨j + 1, by go_num, by omega, by omega, ht2.out.drew, hk2.out.drew⟩, ?_⟩
                  simp only [intOf]; omega
              · have hjn : j = n + 1 := by omega
                subst hjn
                have ht3 : Hid (Tab _ _ _ _ _ _) := ht.congr (fun a c _ hc => innT_end A B (n + 1) i p a c hA hip hc)
                have hkwH : Hid (Kept _ _ _) := hkw
                clear ht hkw
                go_wp2
                refine ⟨⟨p + 1, by go_num, by omega, by omega, ht3.out, hkwH.out⟩, ?_⟩
                simp only [intOf]; omega
        · have hjn : p = n + 1 := by omega
          subst hjn
          have ht3 : Hid (Tab _ _ _ _ _ _) := ht.congr (fun a c _ hc => midT_end A B (n + 1) i a c)
          have hkwH : Hid (Kept _ _ _) := hkw
          clear ht hkw
          go_wp2
          refine ⟨⟨i + 1, by go_num, by omega, ht3.out, hkwH.out⟩, ?_⟩
          simp only [intOf]; omega
    · go_wp2
      go_ret
      exact ⟨_, rfl, rows, hlenH.out, ht.congr (fun a c ha _ => by rw [hlenH.out] at ha; rw [decide_eq_true (show a < i by omega), Bool.true_and]), hkw⟩

end Go.Proofs.Ytgifhgnccmnbiaa

set_option linter.unusedVariables false
set_option linter.unusedSimpArgs false
namespace Go.Proofs.Ytgifhgnccmnbiaa
open Go.RowKit Go.IntWalk

set_option maxHeartbeats 4000000 in
set_option maxRecDepth 100000 in
theorem equal_any (n : Nat) (hn : n ≤ 100000) (w : World) (va vb : Value) (ra rb : List Nat) (A B : Nat → Nat → Bool) (hla : ra.length = n + 1) (hlb : rb.length = n + 1)
    (ha : Tab w 0 va (n + 1) ra A) (hb : Tab w 0 vb (n + 1) rb B) :
    Calls Try.prog 153 #[va, vb] w fun e w' => ∃ r : Bool, e = .returned (.bool r) ∧ (r = true ↔ ∀ a c, a ≤ c → c < n + 1 → A a c = B a c) ∧ Kept [] w w' := by
  obtain ⟨ka, capa, rfl, _, hca⟩ := ha.head (by omega)
  obtain ⟨kb, capb, rfl, _, hcb⟩ := hb.head (by omega)
  rw [hla] at ha ⊢
  rw [hlb] at hb ⊢
  have hlaH : Hid (_ = _) := hla
  have hlbH : Hid (_ = _) := hlb
  clear hla hlb hca hcb
  go_enter Try.func153, Try.ntmps153
  go_wp2_with fail
  go_loopw [5] (fun iv wr => ∃ i : Nat, iv = .int .i64 (i : Int) ∧ i ≤ n + 1 ∧ (∀ a c, a < i → a ≤ c → c < n + 1 → A a c = B a c) ∧ Kept [] w wr) (fun iv _ => ((n : Int) + 1 - intOf iv).toNat)
  case atStart => exact ⟨0, rfl, by omega, fun a c h => by omega, Kept.refl _ _⟩
  case round =>
    obtain ⟨i, rfl, hle, heq, hkw⟩ := hrel
    have heqH : Hid (∀ a c, _) := heq
    have hkwH : Hid (Kept _ _ _) := hkw
    clear heq hkw
    by_cases hlt : (i : Int) < (n : Int) + 1
    · go_wp2_with fail
      go_loopw [6] (fun jv wr => ∃ j : Nat, jv = .int .i64 (j : Int) ∧ i ≤ j ∧ j ≤ n + 1 ∧ (∀ c, i ≤ c → c < j → A i c = B i c) ∧ Kept [] w wr) (fun jv _ => ((n : Int) + 1 - intOf jv).toNat)
      case atStart => exact ⟨i, rfl, Nat.le_refl _, hle, fun c h1 h2 => by omega, hkwH.out⟩
      case round =>
        obtain ⟨j, rfl, hij, hjle, heq2, hkw⟩ := hrel
        have heq2H : Hid (∀ c, _) := heq2
        clear heq2
        by_cases hjt : (j : Int) < (n : Int) + 1
        · obtain ⟨ga, hga⟩ : ∃ g, ra[i]? = some g := ⟨_, List.getElem?_eq_getElem (by rw [hlaH.out]; omega)⟩
          obtain ⟨gb, hgb⟩ : ∃ g, rb[i]? = some g := ⟨_, List.getElem?_eq_getElem (by rw [hlbH.out]; omega)⟩
          have ha2 := ha.kept hkw (by simp)
          have hb2 := hb.kept hkw (by simp)
          obtain ⟨k2, cap2, he, _, hcellsA⟩ := ha2.head (by rw [hlaH.out]; omega)
          simp only [Value.slice.injEq, Option.some.injEq, Addr.mk.injEq] at he
          obtain ⟨⟨rfl, _⟩, _⟩ := he
          obtain ⟨k2, cap2, he, _, hcellsB⟩ := hb2.head (by rw [hlbH.out]; omega)
          simp only [Value.slice.injEq, Option.some.injEq, Addr.mk.injEq] at he
          obtain ⟨⟨rfl, _⟩, _⟩ := he
          have a1 := hcellsA i ga hga
          have b1 := hcellsB i gb hgb
          unfold rowV at a1 b1
          have a2 := ha2.cell hga (j := j) (by omega)
          have b2 := hb2.cell hgb (j := j) (by omega)
          have hkwH : Hid (Kept _ _ _) := hkw
          clear hga hgb hcellsA hcellsB ha2 hb2 hkw
          by_cases hE : A i j = B i j
          · have hEH : Hid (_ = _) := hE
            rw [hE] at a2
            clear hE
            cases hB : B i j with
            | true =>
              rw [hB] at a2 b2
              go_wp2_with fail
              go_region
              go_wp2
              refine ⟨⟨j + 1, by go_num, by omega, by omega, fun c h1 h2 => ?_, hkwH.out.drew⟩, ?_⟩
              · by_cases hc : c = j
                · subst hc; exact hEH.out
                · exact heq2H.out c h1 (by omega)
              · simp only [intOf]; omega
            | false =>
              rw [hB] at a2 b2
              go_wp2_with fail
              go_region
              go_wp2
              refine ⟨⟨j + 1, by go_num, by omega, by omega, fun c h1 h2 => ?_, hkwH.out.drew⟩, ?_⟩
              · by_cases hc : c = j
                · subst hc; exact hEH.out
                · exact heq2H.out c h1 (by omega)
              · simp only [intOf]; omega
          · have hEH : Hid (¬ _) := hE
            have hN : A i j = !B i j := by cases hx : A i j <;> cases hy : B i j <;> simp_all
            rw [hN] at a2
            clear hE hN
            cases hB : B i j with
            | true =>
              rw [hB] at a2 b2
              simp only [Bool.not_true] at a2
              go_wp2_with fail
              go_region
              go_wp2
              go_ret
              exact ⟨false, rfl, by simp; exact ⟨i, j, hij, by omega, hEH.out⟩, hkwH.out.drew⟩
            | false =>
              rw [hB] at a2 b2
              simp only [Bool.not_false] at a2
              go_wp2_with fail
              go_region
              go_wp2
              go_ret
              exact ⟨false, rfl, by simp; exact ⟨i, j, hij, by omega, hEH.out⟩, hkwH.out.drew⟩
        · have hkw2 : Hid (Kept _ _ _) := hkw
          clear hkw
          go_wp2
          refine ⟨⟨i + 1, by go_num, by omega, fun a c h1 h2 h3 => ?_, hkw2.out⟩, ?_⟩
          · by_cases hc : a = i
            · subst hc; exact heq2H.out c h2 (by omega)
            · exact heqH.out a c (by omega) h2 h3
          · simp only [intOf]; omega
    · go_wp2
      go_ret
      exact Or.inr ⟨rfl, fun a c h1 h2 => heqH.out a c (by omega) h1 h2, hkwH.out⟩

end Go.Proofs.Ytgifhgnccmnbiaa

set_option linter.unusedVariables false
set_option linter.unusedSimpArgs false
namespace Go.Proofs.Ytgifhgnccmnbiaa
open Go.RowKit Go.IntWalk

theorem thenP_iff (A B : Nat → Nat → Bool) (k a c : Nat) : thenP A B k a c = true ↔ ∃ m, m < k ∧ a ≤ m ∧ m ≤ c ∧ A a m = true ∧ B m c = true := by
  simp only [thenP, List.any_eq_true, List.mem_range, Bool.and_eq_true, decide_eq_true_eq]
  constructor
  · rintro ⟨m, h1, ⟨h2, h3⟩, h4, h5⟩; exact ⟨m, h1, h2, h3, h4, h5⟩
  · rintro ⟨m, h1, h2, h3, h4, h5⟩; exact ⟨m, h1, ⟨h2, h3⟩, h4, h5⟩

/-- From place to place in so many steps, each of them forward. -/
inductive Hops (R : Nat → Nat → Prop) (n : Nat) : Nat → Nat → Nat → Prop
  | refl {i : Nat} : i < n → Hops R n 0 i i
  | step {k i m j : Nat} : R i m → i < m → Hops R n k m j → Hops R n (k + 1) i j

section
variable {R : Nat → Nat → Prop} {T : Nat → Nat → Bool} {n k a b i j p : Nat}

theorem Hops.bound (h : Hops R n k i j) : i + k ≤ j ∧ j < n := by
  induction h with
  | refl h => exact ⟨Nat.le_refl _, h⟩
  | step _ h1 _ ih => exact ⟨by omega, ih.2⟩
theorem Hops.app (h : Hops R n a i p) (h2 : Hops R n b p j) : Hops R n (a + b) i j := by
  induction h with
  | refl h => rw [Nat.zero_add]; exact h2
  | @step k i m j h0 h1 _ ih =>
    rw [show k + 1 + b = (k + b) + 1 by omega]
    exact Hops.step h0 h1 (ih h2)
theorem Hops.split : ∀ {a i : Nat}, Hops R n (a + b) i j → ∃ p, Hops R n a i p ∧ Hops R n b p j := by
  intro a
  induction a with
  | zero =>
    intro i h
    rw [Nat.zero_add] at h
    have := h.bound
    exact ⟨i, Hops.refl (by omega), h⟩
  | succ a ih =>
    intro i h
    rw [show a + 1 + b = (a + b) + 1 by omega] at h
    cases h with
    | step h0 h1 h2 =>
      obtain ⟨p, h3, h4⟩ := ih h2
      exact ⟨p, Hops.step h0 h1 h3, h4⟩

def Star (R : Nat → Nat → Prop) (n i j : Nat) : Prop := ∃ k, Hops R n k i j

theorem Star.app (h : Star R n i p) (h2 : Star R n p j) : Star R n i j := by
  obtain ⟨a, ha⟩ := h; obtain ⟨b, hb⟩ := h2; exact ⟨a + b, ha.app hb⟩
theorem Star.le (h : Star R n i j) : i ≤ j := by obtain ⟨a, ha⟩ := h; have := ha.bound; omega

/-- The table of up to k steps, or of some more. -/
structure Upto (R : Nat → Nat → Prop) (T : Nat → Nat → Bool) (n k : Nat) : Prop where
  sound : ∀ i j, i < n → j < n → T i j = true → Star R n i j
  full : ∀ m i j, m ≤ k → Hops R n m i j → T i j = true

theorem Upto.start {S A : Nat → Nat → Bool} (hS : ∀ i j, i < n → j < n → (S i j = true ↔ i = j)) (hA : ∀ i j, i < n → j < n → (A i j = true ↔ R i j)) : Upto R (eitherT S A) n 1 := by
  refine ⟨fun i j hi hj h => ?_, fun m i j hm h => ?_⟩
  · simp only [eitherT, Bool.and_eq_true, decide_eq_true_eq, Bool.or_eq_true] at h
    by_cases hij : i = j
    · subst hij; exact ⟨0, Hops.refl hi⟩
    · rcases h.2 with h2 | h2
      · exact absurd ((hS i j hi hj).1 h2) hij
      · exact ⟨1, Hops.step ((hA i j hi hj).1 h2) (by omega) (Hops.refl hj)⟩
  · have hb := h.bound
    simp only [eitherT, Bool.and_eq_true, decide_eq_true_eq, Bool.or_eq_true]
    refine ⟨by omega, ?_⟩
    cases h with
    | refl h => exact Or.inl ((hS i i h h).2 rfl)
    | @step k i m j h0 h1 h2 =>
      have hk : k = 0 := by omega
      subst hk
      cases h2 with
      | refl h3 => exact Or.inr ((hA _ _ (by omega) h3).2 h0)

theorem Upto.twice (h : Upto R T n k) : Upto R (thenP T T n) n (2 * k) := by
  refine ⟨fun i j hi hj ht => ?_, fun m i j hm hh => ?_⟩
  · obtain ⟨m, h1, h2, h3, h4, h5⟩ := (thenP_iff _ _ _ _ _).1 ht
    exact (h.sound i m hi h1 h4).app (h.sound m j h1 hj h5)
  · obtain ⟨a, b, rfl, ha, hb⟩ : ∃ a b, m = a + b ∧ a ≤ k ∧ b ≤ k := by
      by_cases hmk : m ≤ k
      · exact ⟨m, 0, by omega, hmk, by omega⟩
      · exact ⟨k, m - k, by omega, Nat.le_refl _, by omega⟩
    obtain ⟨p, h1, h2⟩ := hh.split
    have b1 := h1.bound
    have b2 := h2.bound
    exact (thenP_iff _ _ _ _ _).2 ⟨p, by omega, by omega, by omega, h.full a i p ha h1, h.full b p j hb h2⟩

theorem Upto.all (h : Upto R T n k) (hk : n ≤ k) (hi : i < n) (hj : j < n) : T i j = true ↔ Star R n i j :=
  ⟨h.sound i j hi hj, fun ⟨m, hm⟩ => h.full m i j (by have := hm.bound; omega) hm⟩

theorem Upto.closed (h : Upto R T n k) (hk : 1 ≤ k) (he : ∀ a c, a ≤ c → c < n → thenP T T n a c = T a c) (hi : i < n) (hj : j < n) : T i j = true ↔ Star R n i j := by
  refine ⟨h.sound i j hi hj, fun ⟨m, hm⟩ => ?_⟩
  induction hm with
  | refl h0 => exact h.full 0 _ _ (by omega) (Hops.refl h0)
  | @step q i m j h0 h1 h2 ih =>
    have b := h2.bound
    have hx := ih (by omega) hj ⟨_, h2⟩
    have hy : T i m = true := h.full 1 i m hk (Hops.step h0 h1 (Hops.refl (by omega)))
    rw [← he i j (by omega) b.2]
    exact (thenP_iff _ _ _ _ _).2 ⟨m, by omega, by omega, by omega, hy, hx⟩
end

/-- A call that hands back the table of a relation. -/
def TabR (P : Program) (f : Nat) (args : Array Value) (n : Nat) (w : World) (R : Nat → Nat → Prop) : Prop :=
  Calls P f args w fun e w' => ∃ v, e = .returned v ∧ ∃ rows M, rows.length = n + 1 ∧ Tab w' w.heap.size v (n + 1) rows M ∧ Kept [] w w' ∧ ∀ i j, i < n + 1 → j < n + 1 → (M i j = true ↔ R i j)

set_option maxHeartbeats 4000000 in
set_option maxRecDepth 100000 in
theorem anyTimes_any (n : Nat) (hn : n ≤ 100000) (w : World) (va : Value) (ra : List Nat) (A : Nat → Nat → Bool) (R : Nat → Nat → Prop) (hla : ra.length = n + 1)
    (ha : Tab w 0 va (n + 1) ra A) (hA : ∀ i j, i < n + 1 → j < n + 1 → (A i j = true ↔ R i j)) : TabR Try.prog 138 #[va] n w (Star R (n + 1)) := by
  have hsame := same_any n hn w
  unfold TabC at hsame
  obtain ⟨ka, capa, rfl, _, hca⟩ := ha.head (by omega)
  rw [hla] at ha ⊢
  have hlaH : Hid (_ = _) := hla
  have hAH : Hid (∀ i j, _) := hA
  clear hla hca hA
  unfold TabR
  go_enter Try.func138, Try.ntmps138
  go_wp2_with fail
  refine hsame.mono ?_
  rintro e w1 ⟨v1, r1, rfl, hl1, t1, k1⟩
  clear hsame
  have he := either_any n hn w1 v1 _ r1 ra _ A hl1 hlaH.out (t1.mono (Nat.zero_le _)) (ha.kept k1 (by simp))
  unfold TabC at he
  go_wp2_with fail
  refine he.mono ?_
  rintro e w2 ⟨v2, r2, rfl, hl2, t2, k2⟩
  have hU : Hid (Upto R (eitherT (fun i j => decide (i = j)) A) (n + 1) 1) := Upto.start (fun i j _ _ => by simp) hAH.out
  have t2 : Hid (Tab w2 w.heap.size v2 (n + 1) r2 (eitherT (fun i j => decide (i = j)) A)) := t2.mono k1.size
  have k2 : Hid (Kept [] w w2) := k1.trans k2
  have hl2 : Hid (_ = _) := hl2
  clear he t1 k1 hl1
  go_wp2_with fail
  go_loopw [3, 4] (fun tv kv wr => ∃ (rows : List Nat) (T : Nat → Nat → Bool) (q : Nat), kv = .int .i64 (q : Int) ∧ rows.length = n + 1 ∧ Tab wr w.heap.size tv (n + 1) rows T ∧ Upto R T (n + 1) q ∧ 1 ≤ q ∧ q ≤ 2 * (n + 1) ∧ Kept [] w wr) (fun _ kv _ => ((n : Int) + 1 - intOf kv).toNat)
  case atStart => exact ⟨r2, _, 1, rfl, hl2.out, t2.out, hU.out, by omega, by omega, k2.out⟩
  case round =>
    obtain ⟨rows, T, q, rfl, hl, ht, hUq, hq1, hq2, hk⟩ := hrel
    clear hU t2 k2 hl2
    by_cases hlt : (q : Int) < (n : Int) + 1
    · have hth := then_any n hn wr _ _ rows rows T T hl hl (ht.mono (Nat.zero_le _)) (ht.mono (Nat.zero_le _))
      unfold TabC at hth
      have hlH : Hid (_ = _) := hl
      have hUH : Hid (Upto _ _ _ _) := hUq
      clear hl hUq
      go_wp2_with fail
      refine hth.mono ?_
      rintro e w3 ⟨v3, r3, rfl, hl3, t3, k3⟩
      clear hth
      have htk := ht.kept k3 (by simp)
      have heq := equal_any n hn w3 _ _ r3 rows _ T hl3 hlH.out (t3.mono (Nat.zero_le _)) (htk.mono (Nat.zero_le _))
      have hl3 : Hid (_ = _) := hl3
      go_wp2_with fail
      refine heq.mono ?_
      clear heq
      rintro e w4 ⟨r, rfl, hr, k4⟩
      have hrH : Hid (_ ↔ _) := hr
      have kk : Hid (Kept [] w w4) := (hk.trans k3).trans k4
      have tt : Hid (Tab w4 w.heap.size _ _ _ _) := htk.kept k4 (by simp)
      have tu : Hid (Tab w4 w.heap.size _ _ _ _) := (t3.mono hk.size).kept k4 (fun g hg => by simp at hg)
      clear hr hk k3 k4 htk t3 ht
      cases r with
      | true =>
        go_wp2
        go_ret
        exact ⟨_, rfl, rows, T, hlH.out, tt.out, kk.out, fun i j hi hj => hUH.out.closed hq1 (hrH.out.1 (by trivial)) hi hj⟩
      | false =>
        go_wp2
        refine ⟨⟨r3, _, 2 * q, by go_num, hl3.out, tu.out, hUH.out.twice, by omega, by omega, kk.out⟩, ?_⟩
        simp only [intOf]; omega
    · have hUH : Hid (Upto _ _ _ _) := hUq
      clear hUq
      go_wp2
      go_ret
      exact ⟨_, rfl, rows, hl, T, ht, hk, fun i j hi hj => hUH.out.all (by omega) hi hj⟩

end Go.Proofs.Ytgifhgnccmnbiaa

set_option linter.unusedVariables false
set_option linter.unusedSimpArgs false
namespace Go.Proofs.Ytgifhgnccmnbiaa
open Go.RowKit Go.IntWalk

/-- Just m times. -/
def PowR (R : Nat → Nat → Prop) (n : Nat) : Nat → Nat → Nat → Prop
  | 0, i, j => i = j
  | m + 1, i, j => ∃ p, p < n ∧ i ≤ p ∧ p ≤ j ∧ PowR R n m i p ∧ R p j
theorem PowR.le {R : Nat → Nat → Prop} {n m i j : Nat} (h : PowR R n m i j) : i ≤ j := by
  cases m with
  | zero => simp only [PowR] at h; omega
  | succ m => simp only [PowR] at h; obtain ⟨p, _, h1, h2, _⟩ := h; omega

def TimesR (R : Nat → Nat → Prop) (n : Nat) (least : Nat) (most : Int) (i j : Nat) : Prop :=
  (most < 0 ∧ ∃ p, p < n ∧ i ≤ p ∧ p ≤ j ∧ PowR R n least i p ∧ Star R n p j) ∨ (0 ≤ most ∧ (PowR R n least i j ∨ ∃ m : Nat, least < m ∧ (m : Int) ≤ most ∧ PowR R n m i j))

/-- A table of a relation. -/
structure TabOf (w : World) (B : Nat) (v : Value) (n : Nat) (R : Nat → Nat → Prop) : Prop where
  ex : ∃ rows M, rows.length = n + 1 ∧ Tab w B v (n + 1) rows M ∧ ∀ i j, i < n + 1 → j < n + 1 → (M i j = true ↔ R i j)

theorem TabOf.kept {S : List Nat} {w w' : World} {B n : Nat} {v : Value} {R : Nat → Nat → Prop} (h : TabOf w B v n R) (k : Kept [] w w') : TabOf w' B v n R := by
  obtain ⟨⟨rows, M, h1, h2, h3⟩⟩ := h
  exact ⟨rows, M, h1, h2.kept k (by simp), h3⟩
theorem TabOf.mono {w : World} {B B' n : Nat} {v : Value} {R : Nat → Nat → Prop} (h : TabOf w B v n R) (hb : B' ≤ B) : TabOf w B' v n R := by
  obtain ⟨⟨rows, M, h1, h2, h3⟩⟩ := h
  exact ⟨rows, M, h1, h2.mono hb, h3⟩
theorem TabOf.turn {w : World} {B n : Nat} {v : Value} {R R' : Nat → Nat → Prop} (h : TabOf w B v n R) (e : ∀ i j, i < n + 1 → j < n + 1 → (R i j ↔ R' i j)) : TabOf w B v n R' := by
  obtain ⟨⟨rows, M, h1, h2, h3⟩⟩ := h
  exact ⟨rows, M, h1, h2, fun i j hi hj => (h3 i j hi hj).trans (e i j hi hj)⟩

/-- A call that hands back a table, and leaves all else as it was. -/
def TabCall (f : Nat) (args : Array Value) (n : Nat) (w : World) (R : Nat → Nat → Prop) : Prop :=
  Calls Try.prog f args w fun e w' => ∃ v, e = .returned v ∧ TabOf w' w.heap.size v n R ∧ Kept [] w w'

theorem TabC.call {f n : Nat} {args : Array Value} {w : World} {M : Nat → Nat → Bool} {R : Nat → Nat → Prop} (h : TabC Try.prog f args n w M) (e : ∀ i j, i < n + 1 → j < n + 1 → (M i j = true ↔ R i j)) : TabCall f args n w R := by
  unfold TabC at h
  unfold TabCall
  refine h.mono ?_
  rintro x w' ⟨v, rows, rfl, h1, h2, h3⟩
  exact ⟨v, rfl, ⟨⟨rows, M, h1, h2, e⟩⟩, h3⟩
theorem TabR.call {f n : Nat} {args : Array Value} {w : World} {R : Nat → Nat → Prop} (h : TabR Try.prog f args n w R) : TabCall f args n w R := by
  unfold TabR at h
  unfold TabCall
  refine h.mono ?_
  rintro x w' ⟨v, rfl, rows, M, h1, h2, h3, h4⟩
  exact ⟨v, rfl, ⟨⟨rows, M, h1, h2, h4⟩⟩, h3⟩

theorem none_of (n : Nat) (hn : n ≤ 100000) (w : World) : TabCall 98 #[.int .i64 (n : Int)] n w (fun _ _ => False) :=
  (none_any n hn w).call (fun i j _ _ => by simp)
theorem same_of (n : Nat) (hn : n ≤ 100000) (w : World) : TabCall 100 #[.int .i64 (n : Int)] n w (fun i j => i = j) :=
  (same_any n hn w).call (fun i j _ _ => by simp)
theorem either_of (n : Nat) (hn : n ≤ 100000) (w : World) {va vb : Value} {Ba Bb : Nat} {R S : Nat → Nat → Prop} (ha : TabOf w Ba va n R) (hb : TabOf w Bb vb n S) :
    TabCall 102 #[va, vb] n w (fun i j => i ≤ j ∧ (R i j ∨ S i j)) := by
  obtain ⟨⟨ra, A, a1, a2, a3⟩⟩ := ha
  obtain ⟨⟨rb, B, b1, b2, b3⟩⟩ := hb
  refine (either_any n hn w va vb ra rb A B a1 b1 (a2.mono (Nat.zero_le _)) (b2.mono (Nat.zero_le _))).call (fun i j hi hj => ?_)
  simp only [eitherT, Bool.and_eq_true, decide_eq_true_eq, Bool.or_eq_true]
  rw [a3 i j hi hj, b3 i j hi hj]
theorem then_of (n : Nat) (hn : n ≤ 100000) (w : World) {va vb : Value} {Ba Bb : Nat} {R S : Nat → Nat → Prop} (ha : TabOf w Ba va n R) (hb : TabOf w Bb vb n S) :
    TabCall 101 #[va, vb] n w (fun i j => ∃ p, p < n + 1 ∧ i ≤ p ∧ p ≤ j ∧ R i p ∧ S p j) := by
  obtain ⟨⟨ra, A, a1, a2, a3⟩⟩ := ha
  obtain ⟨⟨rb, B, b1, b2, b3⟩⟩ := hb
  refine (then_any n hn w va vb ra rb A B a1 b1 (a2.mono (Nat.zero_le _)) (b2.mono (Nat.zero_le _))).call (fun i j hi hj => ?_)
  rw [thenP_iff]
  constructor
  · rintro ⟨p, h1, h2, h3, h4, h5⟩; exact ⟨p, h1, h2, h3, (a3 i p hi h1).1 h4, (b3 p j h1 hj).1 h5⟩
  · rintro ⟨p, h1, h2, h3, h4, h5⟩; exact ⟨p, h1, h2, h3, (a3 i p hi h1).2 h4, (b3 p j h1 hj).2 h5⟩
theorem anyTimes_of (n : Nat) (hn : n ≤ 100000) (w : World) {va : Value} {Ba : Nat} {R : Nat → Nat → Prop} (ha : TabOf w Ba va n R) : TabCall 138 #[va] n w (Star R (n + 1)) := by
  obtain ⟨⟨ra, A, a1, a2, a3⟩⟩ := ha
  exact (anyTimes_any n hn w va ra A R a1 (a2.mono (Nat.zero_le _)) a3).call

theorem TabOf.form {w : World} {B n : Nat} {v : Value} {R : Nat → Nat → Prop} (h : TabOf w B v n R) : ∃ k cap, v = .slice (some ⟨k, 0, none⟩) (n + 1) cap := by
  obtain ⟨⟨ra, A, a1, a2, a3⟩⟩ := h
  obtain ⟨k, cap, rfl, _⟩ := a2.head (by omega)
  exact ⟨k, cap, by rw [a1]⟩

set_option maxHeartbeats 4000000 in
set_option maxRecDepth 100000 in
theorem times_of (n : Nat) (hn : n ≤ 100000) (w : World) (va : Value) (Ba : Nat) (R : Nat → Nat → Prop) (ha : TabOf w Ba va n R) (least : Nat) (most : Int) (hl : least ≤ 100000) (hm : -1 ≤ most ∧ most ≤ 100000) :
    TabCall 103 #[va, .int .i64 (least : Int), .int .i64 most] n w (TimesR R (n + 1) least most) := by
  have hsame := same_of n hn w
  unfold TabCall at hsame
  obtain ⟨ka, capa, rfl⟩ := ha.form
  unfold TabCall
  go_enter Try.func103, Try.ntmps103
  go_wp2_with fail
  refine hsame.mono ?_
  rintro e w1 ⟨v1, rfl, t1, k1⟩
  clear hsame
  go_wp2_with fail
  go_loopw [7, 8] (fun tv iv wr => ∃ q : Nat, iv = .int .i64 (q : Int) ∧ q ≤ least ∧ TabOf wr w.heap.size tv n (PowR R (n + 1) q) ∧ Kept [] w wr) (fun _ iv _ => ((least : Int) - intOf iv).toNat)
  case atStart => exact ⟨0, rfl, Nat.zero_le _, t1, k1⟩
  case round =>
    obtain ⟨q, rfl, hq, ht, hk⟩ := hrel
    clear t1 k1
    have haw := ha.kept (S := []) hk
    by_cases hlt : (q : Int) < (least : Int)
    · have hth := then_of n hn wr ht haw
      unfold TabCall at hth
      go_wp2_with fail
      refine hth.mono ?_
      rintro e w3 ⟨v3, rfl, t3, k3⟩
      have t3 : Hid (TabOf _ _ _ _ _) := t3.mono hk.size
      have k3 : Hid (Kept _ _ _) := hk.trans k3
      clear hth ht hk haw
      go_wp2
      refine ⟨⟨q + 1, by go_num, by omega, t3.out, k3.out⟩, ?_⟩
      simp only [intOf]; omega
    · have hql : q = least := by omega
      subst hql
      by_cases hneg : most < 0
      · have hany := anyTimes_of n hn wr haw
        unfold TabCall at hany
        go_wp2_with fail
        refine hany.mono ?_
        rintro e w3 ⟨v3, rfl, t3, k3⟩
        clear hany
        have hth := then_of n hn w3 (ht.kept (S := []) k3) t3
        unfold TabCall at hth
        go_wp2_with fail
        refine hth.mono ?_
        rintro e w4 ⟨v4, rfl, t4, k4⟩
        have t4 : Hid (TabOf _ _ _ _ _) := (t4.mono (Nat.le_trans hk.size k3.size)).turn (R' := TimesR R (n + 1) q most) (fun i j hi hj => by
          unfold TimesR
          constructor
          · exact fun h => Or.inl ⟨hneg, h⟩
          · rintro (⟨_, h⟩ | ⟨h, _⟩)
            · exact h
            · omega)
        have k4 : Hid (Kept _ _ _) := (hk.trans k3).trans k4
        clear hth t3 k3 ht hk haw
        go_wp2
        go_ret
        exact ⟨_, rfl, t4.out, k4.out⟩
      · go_wp2_with fail
        go_loopw [7, 10, 11] (fun tv ov iv wr => ∃ p : Nat, iv = .int .i64 (p : Int) ∧ q ≤ p ∧ ((p : Int) ≤ most ∨ p = q) ∧ TabOf wr w.heap.size tv n (PowR R (n + 1) p) ∧ TabOf wr w.heap.size ov n (fun i j => PowR R (n + 1) q i j ∨ ∃ m : Nat, q < m ∧ m ≤ p ∧ PowR R (n + 1) m i j) ∧ Kept [] w wr) (fun _ _ iv _ => (most - intOf iv).toNat)
        case atStart =>
          exact ⟨q, rfl, Nat.le_refl _, Or.inr rfl, ht, ht.turn (fun i j _ _ => ⟨Or.inl, fun h => h.elim id (fun ⟨m, h1, h2, _⟩ => by omega)⟩), hk⟩
        case round =>
          obtain ⟨p, rfl, hqp, hpm, ht, ho, hk⟩ := hrel
          have haw := ha.kept (S := []) hk
          by_cases hlt2 : (p : Int) < most
          · have hth := then_of n hn wr ht haw
            unfold TabCall at hth
            go_wp2_with fail
            refine hth.mono ?_
            rintro e w3 ⟨v3, rfl, t3, k3⟩
            clear hth
            have he := either_of n hn w3 (ho.kept (S := []) k3) t3
            unfold TabCall at he
            have t3 : TabOf w3 w.heap.size v3 n (PowR R (n + 1) (p + 1)) := t3.mono hk.size
            have k3 := hk.trans k3
            clear ht ho hk haw
            go_wp2_with fail
            refine he.mono ?_
            rintro e w4 ⟨v4, rfl, t4, k4⟩
            clear he
            have t5 : Hid (TabOf _ _ _ _ _) := t3.kept (S := []) k4
            have t4 : Hid (TabOf _ _ _ _ _) := (t4.mono k3.size).turn (R' := fun i j => PowR R (n + 1) q i j ∨ ∃ m : Nat, q < m ∧ m ≤ p + 1 ∧ PowR R (n + 1) m i j) (fun i j hi hj => by
              constructor
              · rintro ⟨_, (h | ⟨m, h1, h2, h3⟩) | h⟩
                · exact Or.inl h
                · exact Or.inr ⟨m, h1, by omega, h3⟩
                · exact Or.inr ⟨p + 1, by omega, Nat.le_refl _, h⟩
              · rintro (h | ⟨m, h1, h2, h3⟩)
                · exact ⟨h.le, Or.inl (Or.inl h)⟩
                · refine ⟨h3.le, ?_⟩
                  by_cases hmp : m = p + 1
                  · subst hmp; exact Or.inr h3
                  · exact Or.inl (Or.inr ⟨m, h1, by omega, h3⟩))
            have k4 : Hid (Kept _ _ _) := k3.trans k4
            clear t3 k3
            go_wp2
            refine ⟨⟨p + 1, by go_num, by omega, Or.inl (by omega), t5.out, t4.out, k4.out⟩, ?_⟩
            simp only [intOf]; omega
          · have tz : Hid (TabOf _ _ _ _ _) := ho.turn (R' := TimesR R (n + 1) q most) (fun i j hi hj => by
              unfold TimesR
              constructor
              · rintro (h | ⟨m, h1, h2, h3⟩)
                · exact Or.inr ⟨by omega, Or.inl h⟩
                · exact Or.inr ⟨by omega, Or.inr ⟨m, h1, by omega, h3⟩⟩
              · rintro (⟨h, _⟩ | ⟨_, h | ⟨m, h1, h2, h3⟩⟩)
                · omega
                · exact Or.inl h
                · exact Or.inr ⟨m, h1, by omega, h3⟩)
            have hk : Hid (Kept _ _ _) := hk
            clear ht ho haw
            go_wp2
            go_ret
            exact ⟨_, rfl, tz.out, hk.out⟩

end Go.Proofs.Ytgifhgnccmnbiaa

set_option linter.unusedVariables false
set_option linter.unusedSimpArgs false
namespace Go.Proofs.Ytgifhgnccmnbiaa
open Go.RowKit Go.IntWalk

def inB (p : PN) (fold : Bool) (c : Nat) : Bool :=
  ((p.ins c || (fold && (decide (65 ≤ c) && decide (c ≤ 90)) && p.ins (c + 32))) || (fold && (decide (97 ≤ c) && decide (c ≤ 122)) && p.ins (c - 32))) != p.neg

set_option maxHeartbeats 2000000 in
set_option maxRecDepth 100000 in
theorem in_any (w : World) (F : Nat → Prop) (adrs : List Nat) (p : PN) (a : Nat) (iv kv : IV) (h : PartOk w F adrs p a iv kv) (hk : p.kind ≤ 3) (fold : Bool) (c : Nat) (hc : c < 256) :
    Calls Try.prog 99 #[.pointer (some ⟨a, 0, none⟩), .bool fold, .int .i64 (c : Int)] w fun e w' => e = .returned (.bool (inB p fold c)) ∧ w' = w := by
  obtain ⟨g, rfl, hF, hg⟩ : ∃ g, iv = (some ⟨g, 0, none⟩, 256, 256) ∧ F g ∧ Blk w g (boolCells p.ins) 4 := by
    rcases h.ins with ⟨_, h1⟩ | ⟨h1, _⟩
    · exact h1
    · omega
  have c1 : w.cell? ⟨a, 1, none⟩ = some (.slice (some ⟨g, 0, none⟩) 256 256) := h.blk.cell 1
  have c2 : w.cell? ⟨a, 2, none⟩ = some (.bool p.neg) := h.blk.cell 2
  have cg : ∀ i, i < 256 → w.cell? ⟨g, i, none⟩ = some (.bool (p.ins i)) := fun i hi => by rw [hg.cell, boolCells_get _ hi]
  unfold inB
  clear h hg
  obtain ⟨N, hN⟩ : ∃ N, N = p.neg := ⟨_, rfl⟩
  obtain ⟨I, hI⟩ : ∃ I, I = p.ins := ⟨_, rfl⟩
  rw [← hN] at c2 ⊢
  rw [← hI] at cg ⊢
  clear hN hI hk
  have d0 := cg c hc
  by_cases h1 : 65 ≤ c ∧ c ≤ 90
  · obtain ⟨h1, h2⟩ := h1
    have d1 := cg (c + 32) (by omega)
    clear cg
    have e : Hid (∀ x : Bool, (((I c || (fold && (decide (65 ≤ c) && decide (c ≤ 90)) && I (c + 32))) || (fold && (decide (97 ≤ c) && decide (c ≤ 122)) && x)) != N) = ((I c || (fold && I (c + 32))) != N)) := fun x => by
      rw [decide_eq_true h1, decide_eq_true h2, decide_eq_false (show ¬ 97 ≤ c by omega)]; simp
    rw [e.out]
    clear e
    generalize I c = X at *
    generalize I (c + 32) = Y at *
    cases fold <;> cases X <;> cases Y <;> cases N <;>
    · go_enter Try.func99, Try.ntmps99
      go_wp2
      go_ret
      exact ⟨rfl, rfl⟩
  · by_cases h2 : 97 ≤ c ∧ c ≤ 122
    · obtain ⟨h2, h3⟩ := h2
      obtain ⟨d, rfl⟩ : ∃ d, c = d + 32 := ⟨c - 32, by omega⟩
      have d1 := cg d (by omega)
      clear cg h1
      have e : Hid (∀ x : Bool, (((I (d + 32) || (fold && (decide (65 ≤ d + 32) && decide (d + 32 ≤ 90)) && x)) || (fold && (decide (97 ≤ d + 32) && decide (d + 32 ≤ 122)) && I (d + 32 - 32))) != N) = ((I (d + 32) || (fold && I d)) != N)) := fun x => by
        rw [decide_eq_true h2, decide_eq_true h3, decide_eq_false (show ¬ d + 32 ≤ 90 by omega)]; simp
      rw [e.out]
      clear e
      generalize I (d + 32) = X at *
      generalize I d = Y at *
      cases fold <;> cases X <;> cases Y <;> cases N <;>
      · go_enter Try.func99, Try.ntmps99
        go_wp2
        go_ret
        exact ⟨rfl, rfl⟩
    · clear cg
      have e : Hid (∀ x y : Bool, (((I c || (fold && (decide (65 ≤ c) && decide (c ≤ 90)) && x)) || (fold && (decide (97 ≤ c) && decide (c ≤ 122)) && y)) != N) = ((I c) != N)) := fun x y => by
        have a1 : (decide (65 ≤ c) && decide (c ≤ 90)) = false := by rw [← Bool.decide_and]; exact decide_eq_false h1
        have a2 : (decide (97 ≤ c) && decide (c ≤ 122)) = false := by rw [← Bool.decide_and]; exact decide_eq_false h2
        rw [a1, a2]; simp
      rw [e.out]
      clear e
      have cs : c < 65 ∨ (90 < c ∧ c < 97) ∨ 122 < c := by omega
      clear h1 h2
      generalize I c = X at *
      rcases cs with h1 | ⟨h1, h2⟩ | h1 <;> cases fold <;> cases X <;> cases N <;>
      · go_enter Try.func99, Try.ntmps99
        go_wp2
        go_ret
        exact ⟨rfl, rfl⟩

end Go.Proofs.Ytgifhgnccmnbiaa

set_option linter.unusedVariables false
set_option linter.unusedSimpArgs false
namespace Go.Proofs.Ytgifhgnccmnbiaa
open Go.RowKit Go.IntWalk

set_option maxHeartbeats 4000000 in
set_option maxRecDepth 100000 in
theorem matched_begin (w : World) (F : Nat → Prop) (adrs : List Nat) (p : PN) (a : Nat) (iv kv : IV) (h : PartOk w F adrs p a iv kv) (hk : p.kind = 2) (fold : Bool) (t : ByteArray) (ht : t.size ≤ 1000) :
    TabCall 71 #[.pointer (some ⟨a, 0, none⟩), .bool fold, .string t] t.size w (fun i j => i = 0 ∧ j = 0) := by
  have c0 : w.cell? ⟨a, 0, none⟩ = some (.int .i64 2) := by rw [← hk]; exact h.blk.cell 0
  have hnone := none_of t.size (by omega) w
  unfold TabCall at hnone
  clear h
  unfold TabCall
  go_enter Try.func71, Try.ntmps71
  go_wp2_with fail
  refine hnone.mono ?_
  rintro e w1 ⟨v, rfl, ⟨⟨rows, M, hlen, htab, hM⟩⟩, k1⟩
  clear hnone c0
  obtain ⟨g, hg⟩ : ∃ g, rows[0]? = some g := ⟨_, List.getElem?_eq_getElem (by omega)⟩
  obtain ⟨k, cap, rfl, _, hcells⟩ := htab.head (by omega)
  have d1 := hcells 0 g hg
  unfold rowV at d1
  have d2 := htab.cell hg (j := 0) (by omega)
  have d3 := htab.frozen hg 0
  have ht2 := htab.set (M' := fun i j => if i = 0 ∧ j = 0 then true else M i j) hg 0 true (fun _ _ _ _ => rfl)
  have hgb := htab.base g (List.mem_iff_getElem?.2 ⟨0, hg⟩)
  have hfin : Hid (TabOf (w1.setCell ⟨g, 0, none⟩ (.bool true)) w.heap.size (.slice (some ⟨k, 0, none⟩) rows.length cap) t.size (fun i j => i = 0 ∧ j = 0)) := ⟨rows, _, hlen, ht2, fun i j hi hj => by
    by_cases hij : i = 0 ∧ j = 0
    · rw [if_pos hij]; simp [hij]
    · rw [if_neg hij]
      constructor
      · intro hx; exact absurd ((hM i j hi hj).1 hx) (by simp)
      · intro hx; exact absurd hx hij⟩
  have hkk : Hid (Kept [] w (w1.setCell ⟨g, 0, none⟩ (.bool true))) := k1.setCell (Or.inr hgb) _
  rw [hlen] at hfin ⊢
  clear htab hM hg hcells ht2 hlen
  go_wp2
  go_ret
  exact ⟨_, rfl, hfin.out, hkk.out⟩

set_option maxHeartbeats 4000000 in
set_option maxRecDepth 100000 in
theorem matched_end (w : World) (F : Nat → Prop) (adrs : List Nat) (p : PN) (a : Nat) (iv kv : IV) (h : PartOk w F adrs p a iv kv) (hk : p.kind = 3) (fold : Bool) (t : ByteArray) (ht : t.size ≤ 1000) :
    TabCall 71 #[.pointer (some ⟨a, 0, none⟩), .bool fold, .string t] t.size w (fun i j => i = t.size ∧ j = t.size) := by
  have c0 : w.cell? ⟨a, 0, none⟩ = some (.int .i64 3) := by rw [← hk]; exact h.blk.cell 0
  have hnone := none_of t.size (by omega) w
  unfold TabCall at hnone
  clear h
  unfold TabCall
  obtain ⟨n, hn⟩ : ∃ n, n = t.size := ⟨_, rfl⟩
  go_enter Try.func71, Try.ntmps71
  go_wp2_with fail
  refine hnone.mono ?_
  rintro e w1 ⟨v, rfl, ⟨⟨rows, M, hlen, htab, hM⟩⟩, k1⟩
  clear hnone c0
  obtain ⟨g, hg⟩ : ∃ g, rows[t.size]? = some g := ⟨_, List.getElem?_eq_getElem (by omega)⟩
  obtain ⟨k, cap, rfl, _, hcells⟩ := htab.head (by omega)
  have d1 := hcells t.size g hg
  unfold rowV at d1
  have d2 := htab.cell hg (j := t.size) (by omega)
  have d3 := htab.frozen hg t.size
  have ht2 := htab.set (M' := fun i j => if i = t.size ∧ j = t.size then true else M i j) hg t.size true (fun _ _ _ _ => rfl)
  have hgb := htab.base g (List.mem_iff_getElem?.2 ⟨t.size, hg⟩)
  have hfin : Hid (TabOf (w1.setCell ⟨g, t.size, none⟩ (.bool true)) w.heap.size (.slice (some ⟨k, 0, none⟩) rows.length cap) t.size (fun i j => i = t.size ∧ j = t.size)) := ⟨rows, _, hlen, ht2, fun i j hi hj => by
    by_cases hij : i = t.size ∧ j = t.size
    · rw [if_pos hij]; simp [hij]
    · rw [if_neg hij]
      constructor
      · intro hx; exact absurd ((hM i j hi hj).1 hx) (by simp)
      · intro hx; exact absurd hx hij⟩
  have hkk : Hid (Kept [] w (w1.setCell ⟨g, t.size, none⟩ (.bool true))) := k1.setCell (Or.inr hgb) _
  rw [hlen] at hfin ⊢
  clear htab hM hg hcells ht2 hlen hn
  go_wp2
  go_ret
  exact ⟨_, rfl, hfin.out, hkk.out⟩

end Go.Proofs.Ytgifhgnccmnbiaa

set_option linter.unusedVariables false
set_option linter.unusedSimpArgs false
namespace Go.Proofs.Ytgifhgnccmnbiaa

inductive D (t : ByteArray) : Nat → Nat → PS → Nat × PS → Prop
  | pattern {cur st r1 r} : D t 1 0 st r1 → D t 4 r1.1 r1.2 r → D t 0 cur st r
  | empty {cur st} : endS t st.1 = true → D t 1 cur st (addS { kind := 0, size := 1 } st)
  | branch {cur st r1 r} : endS t st.1 = false → D t 2 0 st r1 → D t 5 r1.1 r1.2 r → D t 1 cur st r
  | piece {cur st r1 r} : D t 3 0 st r1 → D t 6 r1.1 r1.2 r → D t 2 cur st r
  | group {cur st r1} : (nextS t st.1).1 = 40 → D t 0 0 ((nextS t st.1).2, st.2) r1 → D t 3 cur st (closeS t r1)
  | list {cur st} : (nextS t st.1).1 = 91 → D t 3 cur st (listS t ((nextS t st.1).2, st.2))
  | plain {cur st} : (nextS t st.1).1 ≠ 40 → (nextS t st.1).1 ≠ 91 → D t 3 cur st (plainS t (nextS t st.1).1 ((nextS t st.1).2, st.2))
  | or {cur st r1 r} : (takeS t 124 st.1).1 = true → D t 1 0 ((takeS t 124 st.1).2, st.2) r1 → D t 4 (joinS 5 cur r1.1 r1.2).1 (joinS 5 cur r1.1 r1.2).2 r → D t 4 cur st r
  | orEnd {cur st} : (takeS t 124 st.1).1 = false → D t 4 cur st (cur, st)
  | and {cur st r1 r} : endS t st.1 = false → D t 2 0 st r1 → D t 5 (joinS 4 cur r1.1 r1.2).1 (joinS 4 cur r1.1 r1.2).2 r → D t 5 cur st r
  | andEnd {cur st} : endS t st.1 = true → D t 5 cur st (cur, st)
  | rep {cur st r} : repS t st.1 = true → D t 6 (againS cur (repeatS t st.1).1 ((repeatS t st.1).2, st.2)).1 (againS cur (repeatS t st.1).1 ((repeatS t st.1).2, st.2)).2 r → D t 6 cur st r
  | repEnd {cur st} : repS t st.1 = false → D t 6 cur st (cur, st)

/-- The tag alone decides whether the first argument counts. -/
def curOf (tag cur : Nat) : Nat := if 4 ≤ tag then cur else 0
theorem D.ev {t : ByteArray} {tag cur : Nat} {st : PS} {r : Nat × PS} (h : D t tag cur st r) : Ev t tag (curOf tag cur) st r := by
  induction h with
  | pattern _ _ a b => exact Ev.pattern a b
  | empty he => exact Ev.empty he
  | branch he _ _ a b => exact Ev.branch he a b
  | piece _ _ a b => exact Ev.piece a b
  | group he _ a => exact Ev.group he a
  | list he => exact Ev.list he
  | plain h1 h2 => exact Ev.plain h1 h2
  | or he _ _ a b => exact Ev.or he a b
  | orEnd he => exact Ev.orEnd he
  | and he _ _ a b => exact Ev.and he a b
  | andEnd he => exact Ev.andEnd he
  | rep he _ a => exact Ev.rep he a
  | repEnd he => exact Ev.repEnd he

/-- Where a step ends. -/
structure Fw (t : ByteArray) (st : PS) (r : Nat × PS) : Prop where
  fit : Fits t r.2.1
  ge : st.1.1 ≤ r.2.1.1
def Has (t : ByteArray) (tag cur : Nat) (st : PS) : Prop := ∃ r, D t tag cur st r ∧ Fw t st r
def HasGt (t : ByteArray) (tag cur : Nat) (st : PS) : Prop := ∃ r, D t tag cur st r ∧ Fw t st r ∧ st.1.1 < r.2.1.1

theorem list_fw {t : ByteArray} {st : PS} (h : Fits t st.1) : Fw t st (listS t st) := by
  have h1 := fits_take (t := t) (c := 94) (by omega) h
  have g1 := take_ge (t := t) (c := 94) (s := st.1)
  have hfI : ∀ (f : Nat) (s : RS) (acc : List (Int × Int)), Fits t s → Fits t (itemsF t f s acc).2 := by
    intro f
    induction f with
    | zero => intro s acc h; exact h
    | succ f ih =>
      intro s acc h
      rw [itemsF]
      split
      · exact ih _ _ (fits_item h)
      · exact h
  have h2 : Fits t (itemsS t (takeS t 94 st.1).2 []).2 := hfI _ _ _ h1
  have g2 := itemsS_ge (t := t) (s := (takeS t 94 st.1).2) (acc := []) h1
  have h3 := fits_take (t := t) (c := 93) (by omega) h2
  have g3 := take_ge (t := t) (c := 93) (s := (itemsS t (takeS t 94 st.1).2 []).2)
  unfold listS
  simp only [addS]
  split
  · exact ⟨fits_fail t, h⟩
  · exact ⟨h3, by simp only []; omega⟩
theorem plain_fw {t : ByteArray} {c : Int} {st : PS} (h : Fits t st.1) : Fw t st (plainS t c st) := by
  have h1 := fits_next h
  have g1 := next_ge h
  unfold plainS bytesS addS
  repeat' split
  all_goals first | exact ⟨h, Nat.le_refl _⟩ | exact ⟨h1, g1⟩ | exact ⟨fits_fail t, h⟩
theorem close_fw {t : ByteArray} {st : PS} {r : Nat × PS} (h : Fw t st r) : Fw t st (closeS t r) := by
  have h3 := fits_take (t := t) (c := 41) (by omega) h.fit
  have g3 := take_ge (t := t) (c := 41) (s := r.2.1)
  have := h.ge
  have := h.fit
  unfold closeS
  split
  · exact ⟨h3, by simp only []; omega⟩
  · exact ⟨fits_fail t, by simp only [failS]; simp only [Fits] at this; omega⟩

section
variable {t : ByteArray}
/-- The state that holds below m: all that begins with fewer than m bytes left comes to an end. -/
def Below' (t : ByteArray) (m : Nat) : Prop := ∀ st : PS, Fits t st.1 → t.size - st.1.1 < m →
  (∀ cur, Has t 0 cur st) ∧ (∀ cur, Has t 1 cur st) ∧ (st.1.1 < t.size → ∀ cur, HasGt t 2 cur st ∧ HasGt t 3 cur st) ∧ (∀ cur, Has t 4 cur st) ∧ (∀ cur, Has t 5 cur st) ∧ (∀ cur, Has t 6 cur st)

theorem below_step {m : Nat} (ih : Below' t m) : Below' t (m + 1) := by
  intro st hf hm
  have rep : ∀ cur, Has t 6 cur st := fun cur => by
    cases hr : repS t st.1 with
    | false => exact ⟨_, D.repEnd hr, hf, Nat.le_refl _⟩
    | true =>
      have hlt := repS_lt hr
      have hgt := repeat_gt hlt
      have hfr := fits_repeat hf
      obtain ⟨r, d, f⟩ := (ih (againS cur (repeatS t st.1).1 ((repeatS t st.1).2, st.2)).2 hfr (by show t.size - (repeatS t st.1).2.1 < m; omega)).2.2.2.2.2 (againS cur (repeatS t st.1).1 ((repeatS t st.1).2, st.2)).1
      exact ⟨r, D.rep hr d, f.fit, by have := f.ge; simp only [againS, addS] at this; omega⟩
  have atom : st.1.1 < t.size → ∀ cur, HasGt t 3 cur st := fun hlt cur => by
    have hgt := next_gt hlt
    have hfn := fits_next (t := t) (s := st.1) hf
    by_cases h1 : (nextS t st.1).1 = 40
    · obtain ⟨r, d, f⟩ := (ih ((nextS t st.1).2, st.2) hfn (by show t.size - (nextS t st.1).2.1 < m; omega)).1 0
      have f2 := close_fw f
      exact ⟨_, D.group h1 d, ⟨f2.fit, by have := f2.ge; simp only [] at this; omega⟩, by have := f2.ge; simp only [] at this; omega⟩
    · by_cases h2 : (nextS t st.1).1 = 91
      · have f2 := list_fw (t := t) (st := ((nextS t st.1).2, st.2)) hfn
        exact ⟨_, D.list h2, ⟨f2.fit, by have := f2.ge; simp only [] at this; omega⟩, by have := f2.ge; simp only [] at this; omega⟩
      · have f2 := plain_fw (t := t) (c := (nextS t st.1).1) (st := ((nextS t st.1).2, st.2)) hfn
        exact ⟨_, D.plain h1 h2, ⟨f2.fit, by have := f2.ge; simp only [] at this; omega⟩, by have := f2.ge; simp only [] at this; omega⟩
  have piece : st.1.1 < t.size → ∀ cur, HasGt t 2 cur st := fun hlt cur => by
    obtain ⟨r1, d1, f1, g1⟩ := atom hlt 0
    obtain ⟨r, d, f⟩ := (ih r1.2 f1.fit (by omega)).2.2.2.2.2 r1.1
    exact ⟨r, D.piece d1 d, ⟨f.fit, Nat.le_trans f1.ge f.ge⟩, by have := f.ge; omega⟩
  have more : ∀ cur, Has t 5 cur st := fun cur => by
    cases he : endS t st.1 with
    | true => exact ⟨_, D.andEnd he, hf, Nat.le_refl _⟩
    | false =>
      have hlt := endS_lt he
      obtain ⟨r1, d1, f1, g1⟩ := piece hlt 0
      obtain ⟨r, d, f⟩ := (ih (joinS 4 cur r1.1 r1.2).2 f1.fit (by show t.size - r1.2.1.1 < m; omega)).2.2.2.2.1 (joinS 4 cur r1.1 r1.2).1
      exact ⟨r, D.and he d1 d, ⟨f.fit, Nat.le_trans f1.ge f.ge⟩⟩
  have branch : ∀ cur, Has t 1 cur st := fun cur => by
    cases he : endS t st.1 with
    | true => exact ⟨_, D.empty he, hf, Nat.le_refl _⟩
    | false =>
      have hlt := endS_lt he
      obtain ⟨r1, d1, f1, g1⟩ := piece hlt 0
      obtain ⟨r, d, f⟩ := (ih r1.2 f1.fit (by omega)).2.2.2.2.1 r1.1
      exact ⟨r, D.branch he d1 d, ⟨f.fit, Nat.le_trans f1.ge f.ge⟩⟩
  have alts : ∀ cur, Has t 4 cur st := fun cur => by
    cases he : (takeS t 124 st.1).1 with
    | false => exact ⟨_, D.orEnd he, hf, Nat.le_refl _⟩
    | true =>
      have hgt := take_gt he
      have hft := fits_take (t := t) (c := 124) (by omega) hf
      obtain ⟨r1, d1, f1⟩ := (ih ((takeS t 124 st.1).2, st.2) hft (by show t.size - (takeS t 124 st.1).2.1 < m; have : (takeS t 124 st.1).2.1 ≤ t.size := hft; omega)).2.1 0
      have g1 := f1.ge
      simp only [] at g1
      obtain ⟨r, d, f⟩ := (ih (joinS 5 cur r1.1 r1.2).2 f1.fit (by show t.size - r1.2.1.1 < m; have : r1.2.1.1 ≤ t.size := f1.fit; have : (takeS t 124 st.1).2.1 ≤ t.size := hft; omega)).2.2.2.1 (joinS 5 cur r1.1 r1.2).1
      exact ⟨r, D.or he d1 d, ⟨f.fit, by have := f.ge; simp only [joinS, addS] at this; omega⟩⟩
  refine ⟨fun cur => ?_, branch, fun h cur => ⟨piece h cur, atom h cur⟩, alts, more, rep⟩
  obtain ⟨r1, d1, f1⟩ := branch 0
  by_cases hsame : r1.2.1.1 = st.1.1
  · -- nothing read yet: what follows has as many bytes left
    have alts1 : Has t 4 r1.1 r1.2 := by
      cases he : (takeS t 124 r1.2.1).1 with
      | false => exact ⟨_, D.orEnd he, f1.fit, Nat.le_refl _⟩
      | true =>
        have hgt := take_gt he
        have hft := fits_take (t := t) (c := 124) (by omega) f1.fit
        obtain ⟨r2, d2, f2⟩ := (ih ((takeS t 124 r1.2.1).2, r1.2.2) hft (by show t.size - (takeS t 124 r1.2.1).2.1 < m; have : (takeS t 124 r1.2.1).2.1 ≤ t.size := hft; omega)).2.1 0
        have g2 := f2.ge
        simp only [] at g2
        obtain ⟨r, d, f⟩ := (ih (joinS 5 r1.1 r2.1 r2.2).2 f2.fit (by show t.size - r2.2.1.1 < m; have : r2.2.1.1 ≤ t.size := f2.fit; have : (takeS t 124 r1.2.1).2.1 ≤ t.size := hft; omega)).2.2.2.1 (joinS 5 r1.1 r2.1 r2.2).1
        exact ⟨r, D.or he d2 d, ⟨f.fit, by have := f.ge; simp only [joinS, addS] at this; omega⟩⟩
    obtain ⟨r, d, f⟩ := alts1
    exact ⟨r, D.pattern d1 d, f.fit, Nat.le_trans f1.ge f.ge⟩
  · have hlt : st.1.1 < r1.2.1.1 := by have := f1.ge; omega
    obtain ⟨r, d, f⟩ := (ih r1.2 f1.fit (by have : r1.2.1.1 ≤ t.size := f1.fit; omega)).2.2.2.1 r1.1
    exact ⟨r, D.pattern d1 d, f.fit, Nat.le_trans f1.ge f.ge⟩
theorem below_all : ∀ m, Below' t m
  | 0 => fun _ _ h => by omega
  | m + 1 => below_step (below_all m)
end

/-- THE READER's OUTCOME HAS A DERIVATION. -/
theorem Ev.deriv {t : ByteArray} {st : PS} {r : Nat × PS} (hf : Fits t st.1) (h : Ev t 0 0 st r) : D t 0 0 st r := by
  obtain ⟨r', d, _⟩ := (below_all (t := t) (t.size - st.1.1 + 1) st hf (by omega)).1 0
  have := Ev.one h d.ev
  subst this
  exact d

end Go.Proofs.Ytgifhgnccmnbiaa
