/- The document's PackZ: does the text begin with it; the entry that is taken. -/
import Derived.Test.YtgifhgnccmnbiaaZwAll
import Derived.Test.YtgifhgnccmnbiaaRfRun
set_option linter.unusedVariables false
set_option linter.unusedSimpArgs false
namespace Go.Proofs.Ytgifhgnccmnbiaa
open Go.RowKit Go.IntWalk

theorem toList_loop (bs : ByteArray) : ∀ (k i : Nat) (r : List UInt8), k = bs.size - i → ByteArray.toList.loop bs i r = r.reverse ++ bs.data.toList.drop i
  | 0, i, r, h => by
    have hi : bs.data.toList.length ≤ i := by have : bs.size = bs.data.toList.length := rfl; omega
    rw [ByteArray.toList.loop.eq_1, if_neg (by omega), List.drop_eq_nil_of_le hi, List.append_nil]
  | k + 1, i, r, h => by
    have hi : i < bs.data.toList.length := by have : bs.size = bs.data.toList.length := rfl; omega
    rw [ByteArray.toList.loop.eq_1, if_pos (by omega), toList_loop bs k (i + 1) _ (by omega), List.drop_eq_getElem_cons hi]
    have e : bs.get! i = bs.data.toList[i] := by
      show bs.data[i]! = _
      have hi2 : i < bs.data.size := hi
      rw [getElem!_pos bs.data i hi2]
      exact (Array.getElem_toList hi2).symm
    rw [e]; simp
theorem toList_data (bs : ByteArray) : bs.toList = bs.data.toList := by
  unfold ByteArray.toList
  rw [toList_loop bs bs.size 0 [] (by omega)]; simp
theorem toList_eq {a b : ByteArray} : (a.toList == b.toList) = decide (bytesN a = bytesN b) := by
  rw [toList_data, toList_data]
  have : bytesN a = bytesN b ↔ a.data.toList = b.data.toList := by
    unfold bytesN
    constructor
    · intro h
      exact (List.map_inj_right (fun x y hxy => UInt8.toNat_inj.1 hxy)).1 h
    · intro h; rw [h]
  by_cases h : a.data.toList = b.data.toList
  · rw [decide_eq_true (this.2 h)]; exact beq_iff_eq.2 h
  · rw [decide_eq_false (fun hc => h (this.1 hc))]; exact beq_eq_false_iff_ne.2 h
theorem bytesN_take (t : ByteArray) (n : Nat) : bytesN (t.extract 0 n) = (bytesN t).take n := by
  unfold bytesN
  rw [ByteArray.data_extract]
  simp [List.map_take]
theorem bytesN_drop (t : ByteArray) (n : Nat) : bytesN (t.extract n t.size) = (bytesN t).drop n := by
  unfold bytesN
  have h : (t.extract n t.size).data.toList = t.data.toList.drop n := by
    rw [ByteArray.data_extract, Array.toList_extract, List.extract_eq_take_drop, List.take_of_length_le]
    rw [List.length_drop]
    show t.data.toList.length - n ≤ t.size - n
    exact Nat.le_refl _
  rw [h, List.map_drop]

def begB (t s : ByteArray) : Bool := decide (s.size ≤ t.size ∧ (bytesN t).take s.size = bytesN s)
set_option maxHeartbeats 1000000 in
theorem begins_any (t s : ByteArray) (ht : t.size ≤ 1000) (w : World) :
    Calls Try.prog 55 #[.string t, .string s] w fun e w' => e = .returned (.bool (begB t s)) ∧ w' = w := by
  by_cases h : (s.size : Int) ≤ (t.size : Int)
  · have e : Hid (((t.extract 0 s.size).toList == s.toList) = begB t s) := by
      show _ = _
      rw [toList_eq, bytesN_take]
      unfold begB
      simp only [show s.size ≤ t.size by omega, true_and]
    have hs2 : (s.size : Int) ≤ 1000 := by omega
    go_enter Try.func55, Try.ntmps55
    go_wp2
    go_ret
    exact ⟨by rw [← e.out]; rfl, rfl⟩
  · have e : Hid (begB t s = false) := by show _ = _; unfold begB; exact decide_eq_false (fun hc => by omega)
    go_enter Try.func55, Try.ntmps55
    go_wp2
    go_ret
    exact ⟨by rw [e.out]; rfl, rfl⟩

/-- The code and the length that are taken, so far as the first q entries. -/
def dpick (x : ByteArray) (D : List ByteArray) : Nat → Nat × Nat
  | 0 => (bt x 0, 1)
  | q + 1 => if begB x (D.getD q ByteArray.empty) = true ∧ (dpick x D q).2 < (D.getD q ByteArray.empty).size then (257 + q, (D.getD q ByteArray.empty).size) else dpick x D q
theorem dpick_bd {x : ByteArray} (h : 1 ≤ x.size) (D : List ByteArray) : ∀ q, 1 ≤ (dpick x D q).2 ∧ (dpick x D q).2 ≤ x.size ∧ (dpick x D q).1 ≤ 257 + q
  | 0 => ⟨Nat.le_refl _, h, by have := bt_bd x 0; show bt x 0 ≤ _; omega⟩
  | q + 1 => by
    obtain ⟨a, b, c⟩ := dpick_bd h D q
    unfold dpick
    split
    · rename_i hc
      have h1 := hc.1
      unfold begB at h1
      rw [decide_eq_true_eq] at h1
      exact ⟨by simp only []; omega, h1.1, by simp only []; omega⟩
    · exact ⟨a, b, by omega⟩
def dfree (n wd : Nat) : Nat := if 2 ^ wd < (if 1 < n then 257 + n - 1 else 257) then 2 ^ wd else if 1 < n then 257 + n - 1 else 257
def bitsOf (c w : Nat) : List Nat := (List.range w).map fun i => c / 2 ^ i % 2
theorem bitsOf_succ (c w : Nat) : bitsOf c (w + 1) = bitsOf c w ++ [c / 2 ^ w % 2] := by unfold bitsOf; rw [List.range_succ, List.map_append]; rfl
theorem bitsOf_len (c w : Nat) : (bitsOf c w).length = w := by simp [bitsOf]

structure DS where
  D : List ByteArray
  S : List Nat
  n : Nat
  x : ByteArray
def dstep (wd : Nat) (s : DS) : DS :=
  { D := if (dpick s.x s.D s.D.length).2 < s.x.size ∧ 257 + s.D.length < 2 ^ wd then s.D ++ [s.x.extract 0 ((dpick s.x s.D s.D.length).2 + 1)] else s.D
    S := s.S ++ bitsOf (dpick s.x s.D s.D.length).1 (widP (dfree s.n wd) wd)
    n := s.n + 1
    x := s.x.extract (dpick s.x s.D s.D.length).2 s.x.size }
/-- One byte of the stream, so far as its first i bits. -/
def dbyte (S : List Nat) (p : Nat) : Nat → Nat
  | 0 => 0
  | i + 1 => if p + i < S.length then dbyte S p i + S.getD (p + i) 0 * 2 ^ i else dbyte S p i
def dbytes (S : List Nat) (n : Nat) : List Nat := (List.range n).map fun j => dbyte S (8 * j) 8
theorem dbytes_succ (S : List Nat) (n : Nat) : dbytes S (n + 1) = dbytes S n ++ [dbyte S (8 * n) 8] := by unfold dbytes; rw [List.range_succ, List.map_append]; rfl

end Go.Proofs.Ytgifhgnccmnbiaa
