/- The document's answer: bits, widths, entries. -/
import Derived.Test.YtgifhgnccmnbiaaRfRules
import Derived.Laws.IdiomStrings
set_option linter.unusedVariables false
set_option linter.unusedSimpArgs false
namespace Go.Proofs.Ytgifhgnccmnbiaa
open Go.RowKit Go.IntWalk

theorem bt_sfx (f : ByteArray) (h : 3 ≤ f.size) (i : Nat) : bt (f.extract 3 f.size) i = bt f (3 + i) := by
  unfold bt
  by_cases hi : 3 + i < f.size
  · rw [dif_pos (by simp; omega), dif_pos hi]
    congr 1
    show (f.extract 3 f.size).data[i]'_ = f.data[3 + i]'_
    simp
  · rw [dif_neg (by simp; omega), dif_neg hi]

set_option maxHeartbeats 1000000 in
set_option maxRecDepth 100000 in
theorem rbit_any (f : ByteArray) (hf : f.size ≤ 100000) (p : Nat) (hp : 3 + p / 8 < f.size) (w : World) :
    Calls Try.prog 113 #[.string f, .int .i64 (p : Int)] w fun e w' => e = .returned (.int .i64 (bitP (f.extract 3 f.size) p : Int)) ∧ w' = w := by
  obtain ⟨q, hq⟩ : ∃ q, q = p / 8 := ⟨_, rfl⟩
  rw [← hq] at hp
  have hqH : Hid (q = p / 8) := hq
  have e : Hid ((bitP (f.extract 3 f.size) p : Int) = (f[3 + q].toNat / 2 ^ (p % 8) % 2 : Nat)) := by
    show (_ : Int) = _
    unfold bitP
    rw [bt_sfx f (by omega), ← hq, bt_lt hp]
  have ediv : (p : Int).tdiv 8 = (q : Int) := by rw [hq]; exact Int.ofNat_tdiv p 8 |>.symm
  have emod : (p : Int).tmod 8 = ((p % 8 : Nat) : Int) := (Int.ofNat_tmod p 8).symm
  have g1 : (3 : Int) + (q : Int) < (f.size : Int) := by omega
  have g2 : (0 : Int) ≤ 3 + (q : Int) := by omega
  have q2 : q ≤ 1000000 := by omega
  have hpb : p ≤ 10000000 := by omega
  have hb := f[3 + q].toNat_lt
  have e1 : IntKind.i64.wrap (f[3 + q].toNat : Int) = (f[3 + q].toNat : Int) := by rw [IntKind.wrap_i64]; omega
  clear hq
  go_enter Try.func113, Try.ntmps113
  go_wp2
  go_ret
  refine ⟨ret_int ?_, rfl⟩
  rw [e.out]
  have hle : f[3 + q].toNat / 2 ^ (p % 8) ≤ f[3 + q].toNat := Nat.div_le_self _ _
  have := and_one (f[3 + q].toNat / 2 ^ (p % 8)) (by omega)
  rw [← this]
  congr 1

set_option maxHeartbeats 1000000 in
set_option maxRecDepth 100000 in
theorem rwide_any (f m : Nat) (hf : f ≤ 1000000) (hm9 : 9 ≤ m) (hm : m ≤ 12) (w : World) :
    Calls Try.prog 56 #[.int .i64 (f : Int), .int .i64 (m : Int)] w fun e w' => e = .returned (.int .i64 (widP f m : Int)) ∧ w' = w := by
  go_enter Try.func56, Try.ntmps56
  go_wp2_with fail
  go_loop [5] (fun iv => ∃ q : Nat, iv = .int .i64 (q : Int) ∧ 9 ≤ q ∧ q ≤ m ∧ ∀ j, 9 ≤ j → j < q → 2 ^ j ≤ f) (fun iv => ((m : Int) - intOf iv).toNat)
  case atStart => exact ⟨9, rfl, Nat.le_refl _, hm9, fun j h1 h2 => by omega⟩
  case round =>
    obtain ⟨q, rfl, h9, hqm, hall⟩ := hrel
    have hallH : Hid (∀ j, _) := hall
    clear hall
    by_cases hlt : (q : Int) < (m : Int)
    · have hq : q = 9 ∨ q = 10 ∨ q = 11 := by omega
      by_cases hfq : 2 ^ q ≤ f
      · have hn : Hid (∀ j, 9 ≤ j → j < q + 1 → 2 ^ j ≤ f) := fun j h1 h2 => by
          by_cases hj : j = q
          · subst hj; exact hfq
          · exact hallH.out j h1 (by omega)
        clear hallH
        have hq12 : Hid (q + 1 ≤ m) := by show q + 1 ≤ m; omega
        rcases hq with rfl | rfl | rfl <;>
        · simp only [Nat.reducePow] at hfq
          have hz : ¬ (f : Int) < _ := Int.not_lt.2 (Int.ofNat_le.2 hfq)
          go_wp2
          refine ⟨⟨_, rfl, by decide, hq12.out, hn.out⟩, ?_⟩
          simp only [intOf]; omega
      · have hw : Hid (widP f m = q) := by
          have a9 := hallH.out 9 (by omega)
          have a10 := hallH.out 10 (by omega)
          show widP f m = q
          unfold widP
          rcases hq with rfl | rfl | rfl
          · rw [if_pos (by simp at hfq; omega)]
          · have := a9 (by omega)
            simp at hfq this
            rw [if_neg (by omega), if_pos (by omega)]
          · have t1 := a9 (by omega)
            have t2 := a10 (by omega)
            simp at hfq t1 t2
            rw [if_neg (by omega), if_neg (by omega), if_pos (by omega)]
        clear hallH
        rcases hq with rfl | rfl | rfl <;>
        · simp only [Nat.reducePow] at hfq
          have hz : (f : Int) < _ := Int.ofNat_lt.2 (Nat.lt_of_not_le hfq)
          go_wp2
          go_ret
          exact ⟨ret_int (by rw [hw.out]; rfl), rfl⟩
    · have hw : Hid (widP f m = m) := by
        have hqe : q = m := by omega
        have a9 := hallH.out 9 (by omega)
        have a10 := hallH.out 10 (by omega)
        have a11 := hallH.out 11 (by omega)
        show widP f m = m
        have hq : m = 9 ∨ m = 10 ∨ m = 11 ∨ m = 12 := by omega
        rw [hqe] at a9 a10 a11
        unfold widP
        rcases hq with rfl | rfl | rfl | rfl
        · rw [if_pos (by omega)]
        · have := a9 (by omega)
          simp at this
          rw [if_neg (by omega), if_pos (by omega)]
        · have t1 := a9 (by omega)
          have t2 := a10 (by omega)
          simp at t1 t2
          rw [if_neg (by omega), if_neg (by omega), if_pos (by omega)]
        · have t1 := a9 (by omega)
          have t2 := a10 (by omega)
          have t3 := a11 (by omega)
          simp at t1 t2 t3
          rw [if_neg (by omega), if_neg (by omega), if_neg (by omega)]
      clear hallH
      go_wp2
      go_ret
      exact ⟨ret_int (by rw [hw.out]), rfl⟩

/-- The entry of a number. -/
def entB (tab : List ByteArray) (c : Nat) : ByteArray := if c < 256 then ⟨#[c.toUInt8]⟩ else tab.getD (c - 257) ByteArray.empty
def strRow (l : List ByteArray) : List Value := l.map Value.string

set_option maxHeartbeats 1000000 in
set_option maxRecDepth 100000 in
theorem entry_any (tab : List ByteArray) (v : Value) (Bd : Nat) (c : Nat) (hc : c < 256 ∨ (257 ≤ c ∧ c - 257 < tab.length)) (ht : tab.length ≤ 10000) (w : World) (hown : w.ownsRow Bd 9 1 v tab.length (strRow tab)) :
    Calls Try.prog 114 #[v, .int .i64 (c : Int)] w fun e w' => e = .returned (.string (entB tab c)) ∧ Kept [] w w' := by
  by_cases h : (c : Int) < 256
  · obtain ⟨a, k, cap, rfl⟩ := own_shape hown
    have e : Hid (entB tab c = ⟨#[c.toUInt8]⟩) := if_pos (by omega)
    have hk : Hid (∀ o, Kept [] w (w.alloc o)) := fun o => (Kept.refl [] w).alloc o
    have hc8 : (c.toUInt8.toNat : Int) = (c : Int) := by rw [Nat.toUInt8_eq, UInt8.toNat_ofNat']; omega
    have hconv : (convert 98 9 (.slice (some ⟨w.heap.size, 0, none⟩) 1 1)).run Try.prog (w.alloc (.cells #[.int .u8 (c : Int)] 5)) = .ok (.string ⟨#[c.toUInt8]⟩) (w.alloc (.cells #[.int .u8 (c : Int)] 5)) := by
      refine run_convert_bytes_back (P := Try.prog) (w.alloc (.cells #[.int .u8 (c : Int)] 5)) 98 9 5 ⟨w.heap.size, 0, none⟩ 1 [c.toUInt8] Try.underlying98 Try.underlying5 Try.underlying9 (fun j hj => ?_)
      have hj0 : j = 0 := by simp at hj; omega
      subst hj0
      rw [ptr_add, (Blk.new w #[.int .u8 (c : Int)] 5).cell]
      show some (Value.int .u8 (c : Int)) = some (.int .u8 (c.toUInt8.toNat : Int))
      rw [hc8]
    clear hown hc8
    go_enter Try.func114, Try.ntmps114
    go_wp2
    go_ret
    exact ⟨by rw [e.out]; rfl, hk.out _⟩
  · obtain ⟨d, rfl⟩ : ∃ d, c = d + 257 := ⟨c - 257, by omega⟩
    have hd : d < tab.length := by omega
    obtain ⟨g, cap, rfl⟩ := own_form hown (by omega)
    have hcell : w.cell? ⟨g, d, none⟩ = some (.string (tab.getD d ByteArray.empty)) := by
      have := hown.cells (g := g) rfl d (.string (tab.getD d ByteArray.empty)) (by simp [strRow, List.getD, hd])
      rwa [ptr_add] at this
    have e : Hid (entB tab (d + 257) = tab.getD d ByteArray.empty) := by
      show entB _ _ = _
      unfold entB; rw [if_neg (by omega), Nat.add_sub_cancel]
    have lt : (d : Int) < (tab.length : Int) := by omega
    generalize tab.length = n at *
    generalize tab.getD d ByteArray.empty = s at *
    clear hown h hc
    go_enter Try.func114, Try.ntmps114
    go_wp2
    go_ret
    exact ⟨by rw [e.out]; rfl, Kept.refl _ _⟩

end Go.Proofs.Ytgifhgnccmnbiaa
