/- Both readers side by side: sizes. No walk in it. -/
import Derived.Test.YtgifhgnccmnbiaaRefSize
import Derived.Test.YtgifhgnccmnbiaaSyncScan
set_option linter.unusedVariables false
set_option linter.unusedSimpArgs false
namespace Go.Proofs.Ytgifhgnccmnbiaa
open Go.RowKit Go.IntWalk

def cap61 (x : Int) : Int := if 61 < x then 61 else x
def WfP (ps : List PN) : Prop := ∀ (i : Nat) (p : PN), ps[i]? = some p → ∀ k, k ∈ p.kids → k < i
def T (ps : List PN) (j : Nat) : Int := sizeG ps (j + 1) j
def sumT (ps : List PN) (l : List Nat) : Int := l.foldl (fun n k => wrap64 (n + T ps k)) 0

theorem sizeAt_app {ns more : List AN} {i : Nat} (h : i < ns.length) : sizeAt (ns ++ more) i = sizeAt ns i := by
  unfold sizeAt; rw [List.getElem?_append_left h]
theorem sizeAt_new {ns : List AN} {n : AN} : sizeAt (ns ++ [capN n]) ns.length = cap61 n.size := by
  unfold sizeAt cap61; simp [capN]
theorem foldl_same {f g : Nat → Int} : ∀ (l : List Nat) (n : Int), (∀ k, k ∈ l → f k = g k) → l.foldl (fun n k => wrap64 (n + f k)) n = l.foldl (fun n k => wrap64 (n + g k)) n
  | [], _, _ => rfl
  | x :: r, n, h => by
    rw [List.foldl_cons, List.foldl_cons, h x (by simp)]
    exact foldl_same r _ (fun k hk => h k (by simp [hk]))
theorem sizeG_app {ps more : List PN} (hw : WfP ps) : ∀ (f i : Nat), i < ps.length → sizeG (ps ++ more) f i = sizeG ps f i
  | 0, _, _ => rfl
  | f + 1, i, hi => by
    rw [sizeG, sizeG, List.getElem?_append_left hi]
    cases hp : ps[i]? with
    | none => rfl
    | some p =>
      simp only []
      congr 1
      exact foldl_same _ _ (fun k hk => sizeG_app hw f k (by have := hw i p hp k hk; omega))
theorem T_app {ps more : List PN} (hw : WfP ps) {i : Nat} (hi : i < ps.length) : T (ps ++ more) i = T ps i := sizeG_app hw _ _ hi
theorem sumT_app {ps more : List PN} (hw : WfP ps) {l : List Nat} (hl : ∀ k, k ∈ l → k < ps.length) : sumT (ps ++ more) l = sumT ps l :=
  foldl_same _ _ (fun k hk => T_app hw (hl k hk))
theorem WfP.push {ps : List PN} {p : PN} (hw : WfP ps) (hl : ∀ k, k ∈ p.kids → k < ps.length) : WfP (ps ++ [p]) := by
  intro i q hq k hk
  by_cases hi : i < ps.length
  · rw [List.getElem?_append_left hi] at hq; exact hw i q hq k hk
  · have hi2 : i = ps.length := by
      have := (List.getElem?_eq_some_iff.1 hq).1
      simp at this; omega
    subst hi2
    rw [List.getElem?_append_right (Nat.le_refl _), Nat.sub_self] at hq
    simp at hq
    subst hq
    exact hl k hk
theorem T_new {ps : List PN} {p : PN} (hw : WfP ps) (hl : ∀ k, k ∈ p.kids → k < ps.length) : T (ps ++ [p]) ps.length = sizeK p (sumT ps p.kids) := by
  unfold T
  rw [sizeG]
  simp only [List.getElem?_append_right (Nat.le_refl _), Nat.sub_self, List.getElem?_cons_zero]
  congr 1
  exact foldl_same _ _ (fun k hk => by
    rw [sizeG_app hw _ _ (hl k hk)]
    exact sizeG_more ps hw _ _ k (hl k hk) (Nat.lt_succ_self _))
theorem sumT_snoc {ps : List PN} {l : List Nat} {k : Nat} : sumT ps (l ++ [k]) = wrap64 (sumT ps l + T ps k) := by
  unfold sumT; rw [List.foldl_append]; rfl

/- BOUNDS: x * 2^d ≤ 5^d. -/
def Bd (x : Int) (d : Nat) : Prop := 1 ≤ x ∧ x * 2 ^ d ≤ 5 ^ d
theorem pow_pos5 (d : Nat) : (0 : Int) < 5 ^ d := Int.pow_pos (by omega)
theorem pow_pos2 (d : Nat) : (0 : Int) < 2 ^ d := Int.pow_pos (by omega)
theorem two_five (d : Nat) : (2 : Int) ^ d ≤ 5 ^ d := by
  induction d with
  | zero => decide
  | succ n ih => rw [Int.pow_succ, Int.pow_succ]; have := pow_pos5 n; have := pow_pos2 n; omega
theorem two_five1 (d : Nat) (h : 1 ≤ d) : 5 * (2 : Int) ^ d ≤ 2 * 5 ^ d := by
  obtain ⟨n, rfl⟩ : ∃ n, d = n + 1 := ⟨d - 1, by omega⟩
  rw [Int.pow_succ, Int.pow_succ]
  have := two_five n; omega
theorem Bd.one (d : Nat) : Bd 1 d := ⟨Int.le_refl _, by rw [Int.one_mul]; exact two_five d⟩
theorem Bd.small {x : Int} {d : Nat} (h : Bd x d) (hd : d ≤ 40) : x ≤ 8271806125530276 := by
  obtain ⟨h1, h2⟩ := h
  obtain ⟨c, hc⟩ : ∃ c, 40 = d + c := ⟨40 - d, by omega⟩
  have e : x * 2 ^ 40 ≤ 5 ^ 40 := by
    rw [hc, Int.pow_add, Int.pow_add, ← Int.mul_assoc]
    exact Int.mul_le_mul h2 (two_five c) (Int.le_of_lt (pow_pos2 c)) (Int.le_of_lt (pow_pos5 d))
  have e2 : (2 : Int) ^ 40 = 1099511627776 := by decide
  have e5 : (5 : Int) ^ 40 = 9094947017729282379150390625 := by decide
  rw [e2, e5] at e
  omega
theorem Bd.mul {x k : Int} {d c : Nat} (h : Bd x d) (hk : Bd k c) : Bd (x * k) (d + c) := by
  obtain ⟨h1, h2⟩ := h
  obtain ⟨h3, h4⟩ := hk
  refine ⟨?_, ?_⟩
  · have := Int.mul_le_mul h1 h3 (by omega) (by omega : (0 : Int) ≤ x); omega
  · have e : x * k * 2 ^ (d + c) = (x * 2 ^ d) * (k * 2 ^ c) := by rw [Int.pow_add]; ac_rfl
    rw [e, Int.pow_add]
    exact Int.mul_le_mul h2 h4 (Int.mul_nonneg (by omega) (Int.le_of_lt (pow_pos2 c))) (Int.le_of_lt (pow_pos5 d))
theorem sum_le {x y A B C D : Int} (hx : x * C ≤ A) (hy : y * D ≤ B) (hC : 0 < C) (hD : 0 < D) : (x + y) * (C * D) ≤ A * D + B * C := by
  have e : (x + y) * (C * D) = (x * C) * D + (y * D) * C := by rw [Int.add_mul]; congr 1 <;> ac_rfl
  rw [e]
  have h1 := Int.mul_le_mul_of_nonneg_right hx (Int.le_of_lt hD)
  have h2 := Int.mul_le_mul_of_nonneg_right hy (Int.le_of_lt hC)
  omega
theorem Bd.add {x y : Int} {a b : Nat} (hx : Bd x a) (hy : Bd y b) (ha : 1 ≤ a) (hb : 1 ≤ b) : Bd (x + y) (a + b) := by
  refine ⟨by have := hx.1; have := hy.1; omega, ?_⟩
  rw [Int.pow_add, Int.pow_add]
  have h := sum_le hx.2 hy.2 (pow_pos2 a) (pow_pos2 b)
  have h1 := Int.mul_le_mul_of_nonneg_left (two_five1 b hb) (Int.le_of_lt (pow_pos5 a))
  have h2 := Int.mul_le_mul_of_nonneg_left (two_five1 a ha) (Int.le_of_lt (pow_pos5 b))
  have e1 : (5 : Int) ^ a * (5 * 2 ^ b) = 5 * (5 ^ a * 2 ^ b) := by ac_rfl
  have e2 : (5 : Int) ^ a * (2 * 5 ^ b) = 2 * (5 ^ a * 5 ^ b) := by ac_rfl
  have e3 : (5 : Int) ^ b * (5 * 2 ^ a) = 5 * (5 ^ b * 2 ^ a) := by ac_rfl
  have e4 : (5 : Int) ^ b * (2 * 5 ^ a) = 2 * (5 ^ a * 5 ^ b) := by ac_rfl
  rw [e1, e2] at h1
  rw [e3, e4] at h2
  have h3 := Int.mul_pos (pow_pos5 a) (pow_pos5 b)
  omega
theorem Bd.or {x y : Int} {a b : Nat} (hx : Bd x a) (hy : Bd y b) : Bd (x + y) (a + b + 1) := by
  refine ⟨by have := hx.1; have := hy.1; omega, ?_⟩
  rw [Int.pow_succ, Int.pow_succ, Int.pow_add, Int.pow_add]
  have h := sum_le hx.2 hy.2 (pow_pos2 a) (pow_pos2 b)
  have h1 := Int.mul_le_mul_of_nonneg_left (two_five b) (Int.le_of_lt (pow_pos5 a))
  have h2 := Int.mul_le_mul_of_nonneg_left (two_five a) (Int.le_of_lt (pow_pos5 b))
  have e4 : (5 : Int) ^ b * 5 ^ a = 5 ^ a * 5 ^ b := by ac_rfl
  rw [e4] at h2
  have h3 := Int.mul_pos (pow_pos5 a) (pow_pos5 b)
  have e5 : (x + y) * (2 ^ a * 2 ^ b * 2) = 2 * ((x + y) * (2 ^ a * 2 ^ b)) := by ac_rfl
  rw [e5]
  omega
theorem Bd.more {x : Int} {d c : Nat} (h : Bd x d) : Bd x (d + c) := by have := h.mul (Bd.one c); rwa [Int.mul_one] at this

theorem cap_add (x y : Int) (hx : 1 ≤ x) (hy : 1 ≤ y) : cap61 (cap61 x + cap61 y) = cap61 (x + y) := by unfold cap61; repeat' split
                                                                                                        all_goals omega
theorem cap_mul (x k : Int) (hx : 1 ≤ x) (hk : 1 ≤ k) : cap61 (cap61 x * k) = cap61 (x * k) := by
  by_cases h : 61 < x
  · have e : cap61 x = 61 := if_pos h
    rw [e]
    have h1 : x ≤ x * k := by have := Int.mul_le_mul_of_nonneg_left hk (by omega : (0 : Int) ≤ x); omega
    have h2 : 61 ≤ 61 * k := by omega
    unfold cap61
    rw [if_pos (show 61 < x * k by omega)]
    split
    · rfl
    · omega
  · have e : cap61 x = x := if_neg h
    rw [e]

end Go.Proofs.Ytgifhgnccmnbiaa
