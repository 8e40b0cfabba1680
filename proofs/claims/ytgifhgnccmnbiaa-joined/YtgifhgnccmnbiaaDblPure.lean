/- A file whose text is a text 2 to the k times over, and another one behind it. No Go in it. -/
import Derived.Test.YtgifhgnccmnbiaaCutsWalk
set_option linter.unusedVariables false
set_option linter.unusedSimpArgs false
namespace Go.Proofs.Ytgifhgnccmnbiaa
open Go.RowKit Go.IntWalk

def twoL (v : Nat) : List Nat := [v % 256, v / 256]
def symOf (tx : List Nat) (n : Nat) : Nat := if n = 0 then tx.getD 0 0 else 255 + n
def secOf (tx : List Nat) (n : Nat) : Nat := if n + 1 < tx.length then tx.getD (n + 1) 0 else symOf tx n
def rulesL (tx : List Nat) (n : Nat) : List Nat := (List.range n).flatMap fun i => twoL (symOf tx i) ++ twoL (secOf tx i)
def fileL (tx : List Nat) (k : Nat) (more : List Nat) : List Nat :=
  [83, 71, tx.length - 1 + k] ++ rulesL tx (tx.length - 1 + k) ++ twoL (1 + more.length) ++ twoL (symOf tx (tx.length - 1 + k)) ++ more.flatMap twoL
theorem rulesL_succ (tx : List Nat) (n : Nat) : rulesL tx (n + 1) = rulesL tx n ++ (twoL (symOf tx n) ++ twoL (secOf tx n)) := by
  unfold rulesL; rw [List.range_succ, List.flatMap_append]; simp
theorem rulesL_len (tx : List Nat) : ∀ n, (rulesL tx n).length = 4 * n
  | 0 => rfl
  | n + 1 => by rw [rulesL_succ, List.length_append, rulesL_len tx n]; rfl
theorem rulesL_get (tx : List Nat) : ∀ n i j, i < n → j < 4 → (rulesL tx n).getD (4 * i + j) 0 = (twoL (symOf tx i) ++ twoL (secOf tx i)).getD j 0
  | 0, i, j, hi, _ => by omega
  | n + 1, i, j, hi, hj => by
    rw [rulesL_succ]
    have hl := rulesL_len tx n
    simp only [List.getD]
    by_cases h : i < n
    · rw [List.getElem?_append_left (by omega)]
      exact rulesL_get tx n i j h hj
    · have : i = n := by omega
      subst this
      rw [List.getElem?_append_right (by omega), hl, Nat.add_sub_cancel_left]
theorem more_len : ∀ l : List Nat, (l.flatMap twoL).length = 2 * l.length
  | [] => rfl
  | x :: l => by rw [List.flatMap_cons, List.length_append, more_len l]; simp [twoL]; omega
theorem more_get : ∀ (l : List Nat) (i j : Nat), i < l.length → j < 2 → (l.flatMap twoL).getD (2 * i + j) 0 = (twoL (l.getD i 0)).getD j 0
  | [], i, j, h, _ => by simp at h
  | x :: l, 0, j, _, hj => by
    rw [List.flatMap_cons]
    simp only [List.getD]
    rw [List.getElem?_append_left (by simp [twoL]; omega)]
    simp
  | x :: l, i + 1, j, h, hj => by
    rw [List.flatMap_cons]
    have := more_get l i j (by simpa using h) hj
    simp only [List.getD] at this ⊢
    rw [List.getElem?_append_right (by simp [twoL]; omega), show 2 * (i + 1) + j - (twoL x).length = 2 * i + j by simp [twoL]; omega, this]
    rfl
theorem bt_list {f : ByteArray} (i : Nat) : bt f i = (bytesN f).getD i 0 := by
  unfold bt bytesN
  split
  · rename_i h
    have h2 : i < f.data.toList.length := h
    simp only [List.getD]
    rw [List.getElem?_map, List.getElem?_eq_getElem h2]
    rfl
  · rename_i h
    have h2 : ¬ i < f.data.toList.length := h
    simp only [List.getD]
    rw [List.getElem?_map, List.getElem?_eq_none (by omega)]
    rfl

/-- A file with these bytes. -/
structure Dbl (f : ByteArray) (tx : List Nat) (k : Nat) (more : List Nat) : Prop where
  file : bytesN f = fileL tx k more
  pos : 1 ≤ tx.length
  len : tx.length ≤ 40
  k : k ≤ 40
  mlen : more.length ≤ 600
  byte : ∀ c, c ∈ tx → c < 256
  mbyte : ∀ c, c ∈ more → c < 256
section
variable {f : ByteArray} {tx more : List Nat} {k : Nat} (h : Dbl f tx k more)
include h
theorem Dbl.size : f.size = 7 + 4 * (tx.length - 1 + k) + 2 * more.length := by
  rw [← bytesN_len, h.file]
  unfold fileL
  simp only [List.length_append, rulesL_len, more_len]
  simp [twoL]
  omega
theorem Dbl.get (i : Nat) : bt f i = (fileL tx k more).getD i 0 := by rw [bt_list, h.file]
theorem Dbl.b0 : bt f 0 = 83 := by rw [h.get]; rfl
theorem Dbl.b1 : bt f 1 = 71 := by rw [h.get]; rfl
theorem Dbl.b2 : bt f 2 = tx.length - 1 + k := by rw [h.get]; rfl
theorem Dbl.rule (i j : Nat) (hi : i < tx.length - 1 + k) (hj : j < 4) : bt f (3 + 4 * i + j) = (twoL (symOf tx i) ++ twoL (secOf tx i)).getD j 0 := by
  rw [h.get, ← rulesL_get tx _ i j hi hj]
  have hl := rulesL_len tx (tx.length - 1 + k)
  unfold fileL
  simp only [List.getD, List.append_assoc]
  rw [List.getElem?_append_right (by simp; omega)]
  rw [List.getElem?_append_left (by rw [hl]; simp; omega)]
  congr 2
  simp; omega
theorem Dbl.top0 (j : Nat) (hj : j < 2) : bt f (3 + 4 * (tx.length - 1 + k) + j) = (twoL (1 + more.length)).getD j 0 := by
  rw [h.get]
  have hl := rulesL_len tx (tx.length - 1 + k)
  unfold fileL
  simp only [List.getD, List.append_assoc]
  rw [List.getElem?_append_right (by simp; omega), List.getElem?_append_right (by rw [hl]; simp; omega), List.getElem?_append_left (by rw [hl]; simp [twoL]; omega)]
  congr 2
  rw [hl]; simp; omega
theorem Dbl.sym0 (j : Nat) (hj : j < 2) : bt f (5 + 4 * (tx.length - 1 + k) + j) = (twoL (symOf tx (tx.length - 1 + k))).getD j 0 := by
  rw [h.get]
  have hl := rulesL_len tx (tx.length - 1 + k)
  unfold fileL
  simp only [List.getD, List.append_assoc]
  rw [List.getElem?_append_right (by simp; omega), List.getElem?_append_right (by rw [hl]; simp; omega), List.getElem?_append_right (by rw [hl]; simp [twoL]; omega), List.getElem?_append_left (by rw [hl]; simp [twoL]; omega)]
  congr 2
  rw [hl]; simp [twoL]; omega
theorem Dbl.symN (i j : Nat) (hi : i < more.length) (hj : j < 2) : bt f (7 + 4 * (tx.length - 1 + k) + 2 * i + j) = (twoL (more.getD i 0)).getD j 0 := by
  rw [h.get, ← more_get more i j hi hj]
  have hl := rulesL_len tx (tx.length - 1 + k)
  unfold fileL
  simp only [List.getD, List.append_assoc]
  rw [List.getElem?_append_right (by simp; omega), List.getElem?_append_right (by rw [hl]; simp; omega), List.getElem?_append_right (by rw [hl]; simp [twoL]; omega), List.getElem?_append_right (by rw [hl]; simp [twoL]; omega)]
  congr 2
  rw [hl]; simp [twoL]; omega
end
theorem two_nat (v : Nat) : (twoL v).getD 0 0 + 256 * (twoL v).getD 1 0 = v := by
  show v % 256 + 256 * (v / 256) = v
  omega
section
variable {f : ByteArray} {tx more : List Nat} {k : Nat} (h : Dbl f tx k more)
include h
theorem Dbl.pa (i : Nat) (hi : i < tx.length - 1 + k) : prI f (3 + 4 * i) = (symOf tx i : Int) := by
  have hs := h.size
  rw [prI_of (by omega)]
  have e0 := h.rule i 0 hi (by omega)
  have e1 := h.rule i 1 hi (by omega)
  rw [show 3 + 4 * i + 0 = 3 + 4 * i by omega] at e0
  rw [e0, e1]
  exact congrArg _ (two_nat (symOf tx i))
theorem Dbl.pb (i : Nat) (hi : i < tx.length - 1 + k) : prI f (5 + 4 * i) = (secOf tx i : Int) := by
  have hs := h.size
  rw [prI_of (by omega)]
  have e0 := h.rule i 2 hi (by omega)
  have e1 := h.rule i 3 hi (by omega)
  rw [show 3 + 4 * i + 2 = 5 + 4 * i by omega] at e0
  rw [show 3 + 4 * i + 3 = 5 + 4 * i + 1 by omega] at e1
  rw [e0, e1]
  exact congrArg _ (two_nat (secOf tx i))
theorem Dbl.pn : prI f (3 + 4 * (tx.length - 1 + k)) = ((1 + more.length : Nat) : Int) := by
  have hs := h.size
  rw [prI_of (by omega)]
  have e0 := h.top0 0 (by omega)
  have e1 := h.top0 1 (by omega)
  rw [show 3 + 4 * (tx.length - 1 + k) + 0 = 3 + 4 * (tx.length - 1 + k) by omega] at e0
  rw [e0, e1]
  exact congrArg _ (two_nat (1 + more.length))
theorem Dbl.ps0 : prI f (5 + 4 * (tx.length - 1 + k)) = (symOf tx (tx.length - 1 + k) : Int) := by
  have hs := h.size
  rw [prI_of (by omega)]
  have e0 := h.sym0 0 (by omega)
  have e1 := h.sym0 1 (by omega)
  rw [show 5 + 4 * (tx.length - 1 + k) + 0 = 5 + 4 * (tx.length - 1 + k) by omega] at e0
  rw [e0, e1]
  exact congrArg _ (two_nat _)
theorem Dbl.psN (i : Nat) (hi : i < more.length) : prI f (7 + 4 * (tx.length - 1 + k) + 2 * i) = (more.getD i 0 : Int) := by
  have hs := h.size
  rw [prI_of (by omega)]
  have e0 := h.symN i 0 hi (by omega)
  have e1 := h.symN i 1 hi (by omega)
  rw [show 7 + 4 * (tx.length - 1 + k) + 2 * i + 0 = 7 + 4 * (tx.length - 1 + k) + 2 * i by omega] at e0
  rw [e0, e1]
  exact congrArg _ (two_nat _)
theorem Dbl.get_lt (i : Nat) : tx.getD i 0 < 256 := by
  by_cases hi : i < tx.length
  · have : tx.getD i 0 = tx[i] := by simp [List.getD, hi]
    rw [this]; exact h.byte _ (List.getElem_mem hi)
  · have : tx.getD i 0 = 0 := by simp [List.getD, List.getElem?_eq_none (by omega : tx.length ≤ i)]
    omega
theorem Dbl.sym_lt (n : Nat) : symOf tx n < 256 + n := by
  unfold symOf
  split
  · have := h.get_lt 0; omega
  · omega
theorem Dbl.sec_lt (n : Nat) : secOf tx n < 256 + n := by
  unfold secOf
  split
  · have := h.get_lt (n + 1); omega
  · exact h.sym_lt n
theorem Dbl.ok : GOk f := by
  have hs := h.size
  have hl := h.len
  have hk := h.k
  have hp := h.pos
  have hm := h.mlen
  have e2 := h.b2
  refine ⟨by omega, by omega, ⟨h.b0, h.b1⟩, by omega, fun i hi => ?_, ?_, ?_, ?_, fun i hi => ?_⟩
  · rw [e2] at hi
    obtain ⟨j, hj | hj⟩ : ∃ j, i = 2 * j ∨ i = 2 * j + 1 := ⟨i / 2, by omega⟩
    · subst hj
      rw [show 3 + 2 * (2 * j) = 3 + 4 * j by omega, show 2 * j / 2 = j by omega, h.pa j (by omega)]
      have := h.sym_lt j; omega
    · subst hj
      rw [show 3 + 2 * (2 * j + 1) = 5 + 4 * j by omega, show (2 * j + 1) / 2 = j by omega, h.pb j (by omega)]
      have := h.sec_lt j; omega
  · rw [e2, h.pn]; omega
  · rw [e2, h.pn]; omega
  · rw [e2, h.pn, hs]; omega
  · rw [e2, h.pn] at hi
    rw [e2]
    by_cases h0 : i = 0
    · subst h0
      rw [Nat.mul_zero, Nat.add_zero, h.ps0]
      have := h.sym_lt (tx.length - 1 + k); omega
    · obtain ⟨j, rfl⟩ : ∃ j, i = j + 1 := ⟨i - 1, by omega⟩
      rw [show 5 + 4 * (tx.length - 1 + k) + 2 * (j + 1) = 7 + 4 * (tx.length - 1 + k) + 2 * j by omega, h.psN j (by omega)]
      have : more.getD j 0 < 256 := by
        have hj : j < more.length := by omega
        have e : more.getD j 0 = more[j] := by simp [List.getD, hj]
        rw [e]; exact h.mbyte _ (List.getElem_mem hj)
      omega
end

/-- So many times over. -/
def repL (tx : List Nat) : Nat → List Nat
  | 0 => []
  | n + 1 => repL tx n ++ tx
theorem repL_len (tx : List Nat) : ∀ n, (repL tx n).length = n * tx.length
  | 0 => by simp [repL]
  | n + 1 => by rw [repL, List.length_append, repL_len tx n, Nat.succ_mul]
theorem repL_add (tx : List Nat) (a : Nat) : ∀ b, repL tx (a + b) = repL tx a ++ repL tx b
  | 0 => by simp [repL]
  | b + 1 => by rw [← Nat.add_assoc, repL, repL_add tx a b, repL, List.append_assoc]
theorem repL_get (tx : List Nat) : ∀ (n i : Nat), i < n * tx.length → (repL tx n).getD i 0 = tx.getD (i % tx.length) 0
  | 0, i, h => by simp at h
  | n + 1, i, h => by
    have hl := repL_len tx n
    rw [Nat.succ_mul] at h
    simp only [repL, List.getD]
    by_cases hi : i < n * tx.length
    · rw [List.getElem?_append_left (by omega)]
      exact repL_get tx n i hi
    · rw [List.getElem?_append_right (by omega), hl]
      congr 2
      have e : i = tx.length * n + (i - n * tx.length) := by rw [Nat.mul_comm]; omega
      conv => rhs; rw [e]
      rw [Nat.mul_add_mod]
      exact (Nat.mod_eq_of_lt (by omega)).symm
/-- The text of the symbol behind n rules. -/
def dW (tx : List Nat) (n : Nat) : List Nat := if n < tx.length then tx.take (n + 1) else repL tx (2 ^ (n + 1 - tx.length))
theorem dW_succ {tx : List Nat} (hp : 1 ≤ tx.length) (n : Nat) : dW tx (n + 1) = dW tx n ++ (if n + 1 < tx.length then [tx.getD (n + 1) 0] else dW tx n) := by
  unfold dW
  by_cases h1 : n + 1 < tx.length
  · rw [if_pos h1, if_pos (by omega), if_pos h1, List.take_add_one (i := n + 1), List.getElem?_eq_getElem h1]
    simp [List.getD, h1]
  · rw [if_neg h1, if_neg h1]
    by_cases h2 : n < tx.length
    · have e : tx.take (n + 1) = tx := List.take_of_length_le (by omega)
      rw [if_pos h2, e, show n + 1 + 1 - tx.length = 1 by omega]
      simp [repL]
    · rw [if_neg h2, ← repL_add, show n + 1 + 1 - tx.length = n + 1 - tx.length + 1 by omega, Nat.pow_succ]
      congr 1; omega
section
variable {f : ByteArray} {tx more : List Nat} {k : Nat} (h : Dbl f tx k more)
include h
theorem Dbl.ga (i : Nat) (hi : i < tx.length - 1 + k) : gA f i = symOf tx i := by unfold gA; rw [h.pa i hi]; rfl
theorem Dbl.gb (i : Nat) (hi : i < tx.length - 1 + k) : gB f i = secOf tx i := by unfold gB; rw [h.pb i hi]; rfl
theorem Dbl.txs : ∀ n, n ≤ tx.length - 1 + k → gTx f n = (List.range n).map (fun i => dW tx (i + 1))
  | 0, _ => rfl
  | n + 1, hn => by
    have ih := Dbl.txs n (by omega)
    have hsym : symT (gTx f n) (symOf tx n) = dW tx n := by
      unfold symOf
      by_cases h0 : n = 0
      · subst h0
        rw [if_pos rfl]
        have hb := h.get_lt 0
        have hp := h.pos
        unfold symT dW
        rw [if_pos hb, if_pos (by omega), List.take_add_one, List.take_zero, List.getElem?_eq_getElem (by omega)]
        simp [List.getD, List.getElem?_eq_getElem (by omega : 0 < tx.length)]
      · rw [if_neg h0, ih]
        unfold symT
        rw [if_neg (by omega), show 255 + n - 256 = n - 1 by omega]
        simp only [List.getD]
        rw [List.getElem?_map, List.getElem?_range (by omega)]
        simp
        congr 1; omega
    have hsec : symT (gTx f n) (secOf tx n) = if n + 1 < tx.length then [tx.getD (n + 1) 0] else dW tx n := by
      unfold secOf
      by_cases h1 : n + 1 < tx.length
      · rw [if_pos h1, if_pos h1]
        unfold symT
        rw [if_pos (h.get_lt _)]
      · rw [if_neg h1, if_neg h1]; exact hsym
    show gTx f n ++ [symT (gTx f n) (Go.Proofs.Ytgifhgnccmnbiaa.gA f n) ++ symT (gTx f n) (Go.Proofs.Ytgifhgnccmnbiaa.gB f n)] = _
    rw [h.ga n (by omega), h.gb n (by omega), hsym, hsec, ← dW_succ h.pos, ih, List.range_succ, List.map_append]
    rfl
theorem Dbl.gn : gN f = 1 + more.length := by unfold gN; rw [h.b2, h.pn]; rfl
theorem Dbl.tops : ∀ j, j ≤ more.length → gTop f (j + 1) = symOf tx (tx.length - 1 + k) :: more.take j
  | 0, _ => by
    show [] ++ [gS f 0] = _
    have e : gS f 0 = symOf tx (tx.length - 1 + k) := by unfold gS; rw [h.b2, Nat.mul_zero, Nat.add_zero, h.ps0]; rfl
    rw [e]; rfl
  | j + 1, hj => by
    have ih := Dbl.tops j (by omega)
    show gTop f (j + 1) ++ [gS f (j + 1)] = _
    have e : gS f (j + 1) = more.getD j 0 := by
      unfold gS
      rw [h.b2, show 5 + 4 * (tx.length - 1 + k) + 2 * (j + 1) = 7 + 4 * (tx.length - 1 + k) + 2 * j by omega, h.psN j (by omega)]; rfl
    rw [ih, e, List.take_add_one, List.getElem?_eq_getElem (by omega)]
    simp [List.getD, List.getElem?_eq_getElem (by omega : j < more.length)]
theorem Dbl.flat : (gTop f (gN f)).flatMap (symT (gTx f (bt f 2))) = repL tx (2 ^ k) ++ more := by
  have hp := h.pos
  rw [h.gn, Nat.add_comm, h.tops _ (Nat.le_refl _), List.take_length, List.flatMap_cons, h.b2]
  congr 1
  · have h1 := h.txs (tx.length - 1 + k) (Nat.le_refl _)
    have hd : dW tx (tx.length - 1 + k) = repL tx (2 ^ k) := by
      unfold dW
      by_cases hk : k = 0
      · subst hk
        rw [if_pos (by omega), List.take_of_length_le (by omega)]
        simp [repL]
      · rw [if_neg (by omega), show tx.length - 1 + k + 1 - tx.length = k by omega]
    rw [← hd]
    unfold symOf
    by_cases h0 : tx.length - 1 + k = 0
    · rw [if_pos h0, h0]
      unfold symT dW
      rw [if_pos (h.get_lt 0), if_pos (by omega), List.take_add_one, List.take_zero, List.getElem?_eq_getElem (by omega)]
      simp [List.getD, List.getElem?_eq_getElem (by omega : 0 < tx.length)]
    · rw [if_neg h0, h1]
      unfold symT
      rw [if_neg (by omega), show 255 + (tx.length - 1 + k) - 256 = tx.length - 1 + k - 1 by omega]
      simp only [List.getD]
      rw [List.getElem?_map, List.getElem?_range (by omega)]
      simp
      congr 1; omega
  · have : ∀ l : List Nat, (∀ c, c ∈ l → c < 256) → ∀ T, l.flatMap (symT T) = l := by
      intro l
      induction l with
      | nil => intro _ _; rfl
      | cons x l ih =>
        intro hl T
        have e : symT T x = [x] := if_pos (hl x (by simp))
        rw [List.flatMap_cons, e, ih (fun y hy => hl y (by simp [hy])) T]; rfl
    exact this more h.mbyte _
/-- What the code's reader makes of it. -/
theorem Dbl.stext : SFile f (sgT f) ∧ SText (sgT f) (gTx f (bt f 2)) ∧ (sgT f).start.flatMap (symT (gTx f (bt f 2))) = repL tx (2 ^ k) ++ more := by
  have hg := h.ok
  have hf : SFile f (sgT f) := SFile.rules (by have := hg.five; omega) hg.most hg.sg hg.ok
  obtain ⟨e1, e2, e3, e4, e5⟩ := hg.read
  have hR : (sgT f).rules = gRu f (bt f 2) := by show (sgG f).1 = _; rw [e2]
  have hSt : (sgT f).start = gTop f (gN f) := e5
  have hW : (sgT f).whole = ptOf ((gTop f (gN f)).flatMap (symT (gTx f (bt f 2)))) := by
    show wholeP (sgG f).1 (sgS f).1 = _
    rw [e2, e5]
    exact whole_pt (hg.sound _ (Nat.le_refl _)) _ (fun s hs => by rw [gTx_len]; exact hg.top _ (Nat.le_refl _) s hs) []
  refine ⟨hf, ⟨by rw [hR]; exact hg.sound _ (Nat.le_refl _), by rw [hR, hSt, gRu_len]; exact fun s hs => hg.top _ (Nat.le_refl _) s hs, by rw [hSt]; exact hW, by rw [hR, gRu_len]; have := hg.r; omega, by rw [hSt, gTop_len]; have := hg.n; omega⟩, by rw [hSt]; exact h.flat⟩
end

end Go.Proofs.Ytgifhgnccmnbiaa
