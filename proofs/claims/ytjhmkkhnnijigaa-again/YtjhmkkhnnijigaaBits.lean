/- The machine: sets of steps as Go's uint64; rows of cells given by a function; is a step in a set. -/
import Derived.Test.YtjhmkkhnnijigaaRead
import Derived.Test.YtjhmkkhnnijigaaGlu
import Derived.WalkSmall
set_option linter.unusedVariables false
set_option linter.unusedSimpArgs false
namespace Go.Proofs.Ytjhmkkhnnijigaa
open Go.RowKit Go.IntWalk

/-- A set as it lies in a cell. -/
abbrev UV (s : B64) : Value := .int .u64 (s.toNat : Int)

theorem wrap_u (n : Nat) (h : n < 18446744073709551616) : IntKind.wrap .u64 (n : Int) = (n : Int) := by
  simp only [IntKind.wrap, IntKind.signed, IntKind.bits]
  simp
  omega
theorem or_u (x y : B64) : bits .or .u64 (x.toNat : Int) (y.toNat : Int) = ((x ||| y).toNat : Int) := by
  show IntKind.wrap .u64 ((BitVec.ofInt 64 (x.toNat : Int) ||| BitVec.ofInt 64 (y.toNat : Int)).toNat : Int) = _
  rw [BitVec.ofInt_natCast, BitVec.ofInt_natCast, BitVec.ofNat_toNat, BitVec.ofNat_toNat, BitVec.setWidth_eq, BitVec.setWidth_eq]
  exact wrap_u _ (x ||| y).isLt
theorem and_u (x y : B64) : bits .and .u64 (x.toNat : Int) (y.toNat : Int) = ((x &&& y).toNat : Int) := by
  show IntKind.wrap .u64 ((BitVec.ofInt 64 (x.toNat : Int) &&& BitVec.ofInt 64 (y.toNat : Int)).toNat : Int) = _
  rw [BitVec.ofInt_natCast, BitVec.ofInt_natCast, BitVec.ofNat_toNat, BitVec.ofNat_toNat, BitVec.setWidth_eq, BitVec.setWidth_eq]
  exact wrap_u _ (x &&& y).isLt
theorem shl_u (x : B64) (n : Nat) : IntKind.wrap .u64 ((x.toNat : Int) * 2 ^ n) = ((x <<< n).toNat : Int) := by
  rw [BitVec.toNat_shiftLeft, Nat.shiftLeft_eq]
  simp only [IntKind.wrap, IntKind.signed, IntKind.bits]
  simp
theorem u_zero (x : B64) : ((x.toNat : Int) = 0) ↔ x = 0#64 := by
  constructor
  · intro h; apply BitVec.eq_of_toNat_eq; simp; omega
  · rintro rfl; rfl
theorem u_none (x : B64) : x = 0#64 ↔ ∀ i, x.getLsbD i = false := by
  constructor
  · rintro rfl i; simp
  · intro h; apply BitVec.eq_of_getLsbD_eq; intro i hi; simp [h i]

/-- Cells given by a function. -/
def cellsF (n : Nat) (f : Nat → Value) : Array Value := ((List.range n).map f).toArray
@[simp] theorem cellsF_size (n : Nat) (f : Nat → Value) : (cellsF n f).size = n := by simp [cellsF]
theorem cellsF_get {n : Nat} (f : Nat → Value) {i : Nat} (h : i < n) : (cellsF n f)[i]? = some (f i) := by simp [cellsF, h]
theorem cellsF_set {n : Nat} (f f' : Nat → Value) (i : Nat) (v : Value) (h : ∀ j, j < n → f' j = if j = i then v else f j) : (cellsF n f).setIfInBounds i v = cellsF n f' := by
  apply Array.ext
  · simp [cellsF]
  · intro j h1 h2
    have hj : j < n := by simpa [cellsF] using h2
    rw [Array.getElem_setIfInBounds (by simpa [cellsF] using hj)]
    simp only [cellsF, List.getElem_toArray, List.getElem_map, List.getElem_range]
    rw [h j hj]
    by_cases hij : i = j
    · subst hij; simp
    · rw [if_neg hij, if_neg (fun hc => hij hc.symm)]
theorem cellsF_congr {n : Nat} {f f' : Nat → Value} (h : ∀ j, j < n → f j = f' j) : cellsF n f = cellsF n f' := by
  apply Array.ext
  · simp [cellsF]
  · intro j h1 h2
    simp only [cellsF, List.getElem_toArray, List.getElem_map, List.getElem_range]
    exact h j (by simpa [cellsF] using h1)
theorem cellsF_extract {n : Nat} (f : Nat → Value) (o m : Nat) (h : o + m ≤ n) : (cellsF n f).extract o (o + m) = cellsF m (fun i => f (o + i)) := by
  apply Array.ext
  · simp [cellsF]; omega
  · intro j h1 h2
    simp only [cellsF, Array.getElem_extract, List.getElem_toArray, List.getElem_map, List.getElem_range]
theorem cellsF_one {n : Nat} {f : Nat → Value} (h : ∀ j, j < n → (f j).oneCell' = true) : (cellsF n f).all (·.oneCell') = true := by
  rw [Array.all_eq_true_iff_forall_mem]
  intro v hv
  simp only [cellsF, List.mem_toArray, List.mem_map, List.mem_range] at hv
  obtain ⟨j, hj, rfl⟩ := hv
  exact h j hj

theorem shr_bit (s : B64) (i : Nat) : ((s.toNat : Int) / 2 ^ i % 2 = 1) ↔ s.getLsbD i = true := by
  rw [BitVec.getLsbD, Nat.testBit_eq_decide_div_mod_eq, decide_eq_true_eq]
  have h2 : ((s.toNat / 2 ^ i % 2 : Nat) : Int) = (s.toNat : Int) / 2 ^ i % 2 := by simp
  constructor
  · intro h; rw [← h2] at h; omega
  · intro h; rw [← h2, h]; rfl

set_option maxHeartbeats 400000 in
theorem has_any (s : B64) (i : Nat) (hi : i < 64) (w : World) :
    Calls Try.prog 109 #[.int .u64 (s.toNat : Int), .int .i64 (i : Int)] w fun e w' => e = .returned (.bool (s.getLsbD i)) ∧ w' = w := by
  have hb := shr_bit s i
  have h0 : (0 : Int) ≤ (s.toNat : Int) / 2 ^ i := Int.ediv_nonneg (by omega) (Int.pow_nonneg (by decide))
  have h1 : (s.toNat : Int) / 2 ^ i ≤ 18446744073709551615 := Int.le_trans (Int.ediv_le_self _ (by omega)) (by have := s.isLt; omega)
  have h2 : Hid (bits .and .u64 ((s.toNat : Int) / 2 ^ i) 1 = (s.toNat : Int) / 2 ^ i % 2) := and_one_u64 _ h0 h1
  clear h0 h1
  have h3 : Hid ((bits .and .u64 ((s.toNat : Int) / 2 ^ i) 1 == 1) = s.getLsbD i) := by
    show (_ == _) = _
    rw [h2.out, Bool.eq_iff_iff, beq_iff_eq]
    exact hb
  clear hb h2
  go_enter Try.func109, Try.ntmps109
  go_wp2
  rw [h3.out]
  go_ret
  exact ⟨rfl, rfl⟩

end Go.Proofs.Ytjhmkkhnnijigaa
