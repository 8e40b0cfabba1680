/- Package packed: numbers written bit by bit. -/
import Derived.Test.YtgifhgnccmnbiaaCutText
set_option linter.unusedVariables false
set_option linter.unusedSimpArgs false
namespace Go.Proofs.Ytgifhgnccmnbiaa
open Go.RowKit Go.IntWalk

/-- The bytes of a number, the lowest one first. -/
def dig (V i : Nat) : Nat := V / 256 ^ i % 256
def digs (V n : Nat) : List Nat := (List.range n).map (dig V)
theorem digs_len (V n : Nat) : (digs V n).length = n := by simp [digs]
theorem digs_succ (V n : Nat) : digs V (n + 1) = digs V n ++ [dig V n] := by unfold digs; rw [List.range_succ, List.map_append]; rfl
theorem digs_lt (V n : Nat) : ∀ c, c ∈ digs V n → c < 256 := fun c hc => by
  unfold digs at hc
  obtain ⟨i, _, rfl⟩ := List.mem_map.1 hc
  unfold dig; omega
theorem pow8 (m k : Nat) : 2 ^ (8 * m + k) = 256 ^ m * 2 ^ k := by rw [Nat.pow_add, Nat.pow_mul]
theorem div_more (V n m k : Nat) : (V + n * 2 ^ (8 * m + k)) / 256 ^ m = V / 256 ^ m + n * 2 ^ k := by
  have hp : 0 < 256 ^ m := Nat.pow_pos (by decide)
  rw [pow8, show n * (256 ^ m * 2 ^ k) = (n * 2 ^ k) * 256 ^ m by rw [Nat.mul_comm (256 ^ m), Nat.mul_assoc], Nat.add_mul_div_right _ _ hp]
theorem digs_keep (V n m k : Nat) : digs (V + n * 2 ^ (8 * m + k)) m = digs V m := by
  unfold digs
  refine List.map_congr_left fun i hi => ?_
  have hi2 : i < m := List.mem_range.1 hi
  unfold dig
  obtain ⟨d, hd⟩ : ∃ d, m = i + 1 + d := ⟨m - (i + 1), by omega⟩
  have e : 8 * m + k = 8 * i + (8 + 8 * d + k) := by omega
  rw [e, div_more, Nat.pow_add, Nat.pow_add, show (2 : Nat) ^ 8 = 256 by decide]
  rw [show n * (256 * 2 ^ (8 * d) * 2 ^ k) = 256 * (n * (2 ^ (8 * d) * 2 ^ k)) by rw [Nat.mul_assoc 256, Nat.mul_left_comm]]
  rw [Nat.add_mul_mod_self_left]
theorem div_next (V m : Nat) : V / 256 ^ m / 256 = V / 256 ^ (m + 1) := by rw [Nat.div_div_eq_div_mul, Nat.pow_succ]
theorem val_less {V n K w : Nat} (hV : V < 2 ^ K) (hn : n < 2 ^ w) : V + n * 2 ^ K < 2 ^ (K + w) := by
  have h1 : (n + 1) * 2 ^ K ≤ 2 ^ w * 2 ^ K := Nat.mul_le_mul_right _ hn
  rw [Nat.add_mul, Nat.one_mul] at h1
  rw [Nat.pow_add, Nat.mul_comm (2 ^ K) (2 ^ w)]
  omega
theorem rest_lt {V m k : Nat} (hV : V < 2 ^ (8 * m + k)) : V / 256 ^ m < 2 ^ k := by
  rw [pow8] at hV
  exact Nat.div_lt_of_lt_mul hV
theorem or_add (r n k : Nat) (hr : r < 2 ^ k) (hk : k ≤ 8) (hn : n < 65536) : bits .or .i64 (r : Int) ((n * 2 ^ k : Nat) : Int) = ((r + n * 2 ^ k : Nat) : Int) := by
  have hp : 2 ^ k ≤ 2 ^ 8 := Nat.pow_le_pow_right (by omega) hk
  have h1 : n * 2 ^ k ≤ 65536 * 256 := Nat.mul_le_mul (by omega) hp
  have h2 : (2 : Nat) ^ 8 = 256 := by decide
  rw [(bits_nat .i64 62 (by decide) wraps_i64 r (n * 2 ^ k) (by omega) (by omega)).2]
  have := Nat.two_pow_add_eq_or_of_lt hr n
  rw [Nat.or_comm, Nat.mul_comm n, ← this, Nat.add_comm]

/-- A writer of bits at the front of block b: m bytes are written, the rest is what is left of V. -/
structure BWL (w : World) (b : Nat) (post : Array Value) (E V m r : Nat) (v : Value) : Prop where
  blk : Blk w b (#[v, .int .i64 ((V / 256 ^ m : Nat) : Int), .int .i64 (r : Int)] ++ post) E
  row : w.ownsRow (b + 1) 5 1 v m (byteCells (digs V m))
theorem pre0 (post : Array Value) (a c d u : Value) : (#[a, c, d] ++ post).setIfInBounds 0 u = #[u, c, d] ++ post := by apply Array.ext'; simp
theorem pre1 (post : Array Value) (a c d u : Value) : (#[a, c, d] ++ post).setIfInBounds 1 u = #[a, u, d] ++ post := by apply Array.ext'; simp
theorem pre2 (post : Array Value) (a c d u : Value) : (#[a, c, d] ++ post).setIfInBounds 2 u = #[a, c, u] ++ post := by apply Array.ext'; simp
theorem preGet (post : Array Value) (a c d : Value) (j : Nat) (hj : j < 3) : (#[a, c, d] ++ post)[j]? = #[a, c, d][j]? := by rw [Array.getElem?_append_left (by simpa using hj)]
theorem digs_eq {V V' m : Nat} (h : digs V m = digs V' m) (hl : True) : byteCells (digs V m) = byteCells (digs V' m) := by rw [h]

/-- What writing a number leaves. -/
structure NumOut (w w' : World) (b : Nat) (post : Array Value) (E V K : Nat) : Prop where
  below : Below b w w'
  stay : ∀ k cs e, k ≠ b → e ≠ 5 → Blk w k cs e → Blk w' k cs e
  bd : V < 2 ^ K
  ex : ∃ v, BWL w' b post E V (K / 8) (K % 8) v

/-- While whole bytes are taken off. -/
structure NumLoop (w w' : World) (b : Nat) (post : Array Value) (E V m r : Nat) : Prop where
  below : Below b w w'
  stay : ∀ k cs e, k ≠ b → e ≠ 5 → Blk w k cs e → Blk w' k cs e
  ex : ∃ a k c, BWL w' b post E V m r (.slice a k c)

def rAt (w : World) (b : Nat) : Nat :=
  match w.cell? ⟨b, 2, none⟩ with
  | some (.int _ r) => r.toNat
  | _ => 0
theorem rAt_of {w : World} {b r : Nat} (h : w.cell? ⟨b, 2, none⟩ = some (.int .i64 (r : Int))) : rAt w b = r := by unfold rAt; rw [h]; rfl

set_option maxHeartbeats 4000000 in
set_option maxRecDepth 100000 in
theorem number_any (w : World) (b : Nat) (post : Array Value) (E V K : Nat) (v : Value) (h : BWL w b post E V (K / 8) (K % 8) v) (hE : E ≠ 5) (hV : V < 2 ^ K) (n wd : Nat) (hn : n < 2 ^ wd) (hw : wd ≤ 16) (hK : K ≤ 1000000) :
    Calls Try.prog 81 #[.pointer (some ⟨b, 0, none⟩), .int .i64 (n : Int), .int .i64 (wd : Int)] w fun e w' => e = .returned (.tuple #[]) ∧ NumOut w w' b post E (V + n * 2 ^ K) (K + wd) := by
  obtain ⟨m, hm⟩ : ∃ m, m = K / 8 := ⟨_, rfl⟩
  obtain ⟨k, hk⟩ : ∃ k, k = K % 8 := ⟨_, rfl⟩
  rw [← hm, ← hk] at h
  have hKe : K = 8 * m + k := by omega
  have hk8 : k < 8 := by omega
  have hVl := val_less hV hn
  have hn16 : n < 65536 := Nat.lt_of_lt_of_le hn (Nat.pow_le_pow_right (by decide) hw)
  have hr := rest_lt (V := V) (m := m) (k := k) (by rw [← hKe]; exact hV)
  have hor := or_add (V / 256 ^ m) n k hr (by omega) hn16
  have hdm := div_more V n m k
  rw [← hdm] at hor
  have hdk := digs_keep V n m k
  have hrow2 : w.ownsRow (b + 1) 5 1 v m (byteCells (digs (V + n * 2 ^ (8 * m + k)) m)) := by rw [hdk]; exact h.row
  have hdH : Hid (digs (V + n * 2 ^ (8 * m + k)) m = digs V m) := hdk
  rw [hKe] at hVl
  have hKm : m ≤ 125000 := by omega
  have hVlH : Hid (V + n * 2 ^ (8 * m + k) < 2 ^ (8 * m + k + wd)) := hVl
  have hp8 : n * 2 ^ k ≤ 65536 * 256 := Nat.mul_le_mul (by omega) (Nat.pow_le_pow_right (by omega) (by omega : k ≤ 8))
  have hwr : IntKind.wrap .i64 ((n : Int) * 2 ^ k) = ((n * 2 ^ k : Nat) : Int) := by
    have e : ((n : Int) * 2 ^ k) = ((n * 2 ^ k : Nat) : Int) := by simp [Int.natCast_mul, Int.natCast_pow]
    rw [e, IntKind.wrap_i64]; omega
  obtain ⟨va, vk, vc, rfl⟩ := own_shape h.row
  have hgoal : Hid (K = 8 * m + k) := hKe
  obtain ⟨V2, hV2⟩ : ∃ V2, V2 = V + n * 2 ^ (8 * m + k) := ⟨_, rfl⟩
  rw [← hV2] at hor hdH hVlH hrow2
  have c1 : w.cell? ⟨b, 1, none⟩ = some (.int .i64 ((V / 256 ^ m : Nat) : Int)) := by rw [h.blk.cell, preGet _ _ _ _ 1 (by omega)]; rfl
  have c2 : w.cell? ⟨b, 2, none⟩ = some (.int .i64 (k : Int)) := by rw [h.blk.cell, preGet _ _ _ _ 2 (by omega)]; rfl
  have f1 := h.blk.frozen 1
  have f2 := h.blk.frozen 2
  have hbl := h.blk.lt
  have hst : Hid (NumLoop w ((w.setCell ⟨b, 1, none⟩ (.int .i64 ((V2 / 256 ^ m : Nat) : Int))).setCell ⟨b, 2, none⟩ (.int .i64 ((k : Int) + (wd : Int)))).drew b post E V2 m (k + wd)) := by
    have hk0 : Kept [b] w ((w.setCell ⟨b, 1, none⟩ (.int .i64 ((V2 / 256 ^ m : Nat) : Int))).setCell ⟨b, 2, none⟩ (.int .i64 ((k : Int) + (wd : Int)))).drew := (((Kept.refl [b] w).setCell (Or.inl (by simp)) _).setCell (Or.inl (by simp)) _).drew
    refine ⟨hk0.below (Nat.le_of_lt hbl) (by simp), fun j cs e hj _ hb => hb.kept hk0 (by simp; omega), va, vk, vc, ?_, ?_⟩
    · have h1 := (h.blk.set 1 (.int .i64 ((V2 / 256 ^ m : Nat) : Int))).set 2 (.int .i64 ((k : Int) + (wd : Int)))
      rw [pre1, pre2] at h1
      exact h1.kept ((Kept.refl [] _).drew) (by simp)
    · exact row_stay (S := []) (row_set (row_set hrow2 (Nat.lt_succ_self b) _ _) (Nat.lt_succ_self b) _ _) ((Kept.refl [] _).drew) (fun _ _ => by simp)
  clear h hdm hdk hrow2 hr hVl hV hKe hK hm hk
  have hV2H : Hid (V2 = V + n * 2 ^ (8 * m + k)) := hV2
  clear hV2
  generalize V / 256 ^ m = R0 at *
  generalize V2 / 256 ^ m = R1 at hor hst
  generalize n * 2 ^ k = N2 at *
  obtain ⟨i0, hi0, hz0, hz1, hz2⟩ := info_parts infoU8
  go_enter Try.func81, Try.ntmps81
  go_wp2_with fail
  go_region
  go_wp2_with fail
  clear hor hwr c1 c2 f1 f2 hp8
  go_loopw [] (fun wr => ∃ j r : Nat, k + wd = r + 8 * j ∧ NumLoop w wr b post E V2 (m + j) r) (fun wr => rAt wr b)
  case atStart => exact ⟨0, k + wd, rfl, hst.out⟩
  case round =>
    obtain ⟨j, r, hjr, hI⟩ := hrel
    clear hst
    obtain ⟨hBl, hSt, va, vk, vc, hW⟩ := hI
    have hVr : V2 < 2 ^ (8 * (m + j) + r) := by have := hVlH.out; rwa [show 8 * m + k + wd = 8 * (m + j) + r by omega] at this
    have hR := rest_lt hVr
    have hR24 : V2 / 256 ^ (m + j) < 16777216 := Nat.lt_of_lt_of_le hR (Nat.le_trans (Nat.pow_le_pow_right (by decide) (by omega : r ≤ 24)) (by decide))
    have hdn := div_next V2 (m + j)
    have hds := digs_succ V2 (m + j)
    have hdg : Hid (dig V2 (m + j) = V2 / 256 ^ (m + j) % 256) := rfl
    have hBlH : Hid (Below _ _ _) := hBl
    have hStH : Hid (∀ k cs e, _) := hSt
    have hWH : Hid (BWL _ _ _ _ _ _ _ _) := hW
    have c0 : wr.cell? ⟨b, 0, none⟩ = some (.slice va vk vc) := by rw [hW.blk.cell, preGet _ _ _ _ 0 (by omega)]; rfl
    have c1 : wr.cell? ⟨b, 1, none⟩ = some (.int .i64 ((V2 / 256 ^ (m + j) : Nat) : Int)) := by rw [hW.blk.cell, preGet _ _ _ _ 1 (by omega)]; rfl
    have c2 : wr.cell? ⟨b, 2, none⟩ = some (.int .i64 (r : Int)) := by rw [hW.blk.cell, preGet _ _ _ _ 2 (by omega)]; rfl
    have hmeas : Hid (rAt wr b = r) := rAt_of c2
    have hbw : b < wr.heap.size := hW.blk.lt
    clear hBl hSt hVr hR
    by_cases h8 : (8 : Int) ≤ (r : Int)
    · have own : ∀ o, (wr.alloc o).ownsRow (b + 1) 5 1 (.slice va vk vc) (m + j) (byteCells (digs V2 (m + j))) := fun o => row_stay (S := []) hW.row ((Kept.refl [] wr).alloc o) (fun _ _ => by simp)
      have own2 : ∀ o, (wr.alloc o).drew.ownsRow (b + 1) 5 1 (.slice va vk vc) (m + j) (byteCells (digs V2 (m + j))) := fun o => row_stay (S := []) hW.row (((Kept.refl [] wr).alloc o).drew) (fun _ _ => by simp)
      have up : ∀ o, b + 1 ≤ (wr.alloc o).heap.size := fun o => by simp; omega
      have mb : m + j + 1 ≤ maxLen := by unfold maxLen; omega
      have mc : (m + j + 1) * 1 ≤ 140737488355328 := by omega
      have hw8 : IntKind.wrap .u8 ((V2 / 256 ^ (m + j) : Nat) : Int) = ((dig V2 (m + j) : Nat) : Int) := by rw [IntKind.wrap_u8, hdg.out]; omega
      have hnext : Hid (∀ (w4 : World) (g cap : Nat), w4.ownsRow (b + 1) 5 1 (.slice (some ⟨g, 0, none⟩) (m + j + 1) cap) (m + j + 1) (byteCells (digs V2 (m + j)) ++ [.int .u8 ((dig V2 (m + j) : Nat) : Int)]) → ∀ o, (wr.alloc o).drew.grownBy w4 (Value.slice va vk vc).ownBlock →
          Blk w4 b (#[.slice va vk vc, .int .i64 ((V2 / 256 ^ (m + j) : Nat) : Int), .int .i64 (r : Int)] ++ post) E ∧
          NumLoop w (((w4.setCell ⟨b, 0, none⟩ (.slice (some ⟨g, 0, none⟩) (m + j + 1) cap)).setCell ⟨b, 1, none⟩ (.int .i64 ((V2 / 256 ^ (m + j + 1) : Nat) : Int))).setCell ⟨b, 2, none⟩ (.int .i64 ((r : Int) - 8))) b post E V2 (m + (j + 1)) (r - 8)) := fun w4 g cap hown o hg => by
        have hk0 : Kept [] wr (wr.alloc o).drew := ((Kept.refl [] wr).alloc o).drew
        have hne : ∀ i, i ≤ b → some i ≠ (Value.slice va vk vc).ownBlock := fun i hi hc => by have := (hWH.out.row.lt i hc.symm).1; omega
        have hb4 := (hg.block b (by have := hk0.size; omega) (hne b (Nat.le_refl _))).trans (hWH.out.blk.kept hk0 (by simp))
        have hbel : Below b w w4 := (hBlH.out.trans (hk0.below (Nat.le_of_lt hbw) (by simp))).trans ⟨hg.os, hg.tape, hg.output, hg.size, fun i hi => hg.block i (by have := hk0.size; omega) (hne i (by omega))⟩
        have hst4 : ∀ i cs e, i ≠ b → e ≠ 5 → Blk w i cs e → Blk w4 i cs e := fun i cs e hi he hb => by
          have h1 := (hStH.out i cs e hi he hb).kept hk0 (by simp)
          exact (hg.block i h1.lt (fun hc => he (own_type (row_stay (S := []) hWH.out.row hk0 (fun _ _ => by simp)) h1 hc.symm))).trans h1
        have hk4 : Kept [b] w4 (((w4.setCell ⟨b, 0, none⟩ (.slice (some ⟨g, 0, none⟩) (m + j + 1) cap)).setCell ⟨b, 1, none⟩ (.int .i64 ((V2 / 256 ^ (m + j + 1) : Nat) : Int))).setCell ⟨b, 2, none⟩ (.int .i64 ((r : Int) - 8))) := (((Kept.refl [b] w4).setCell (Or.inl (by simp)) _).setCell (Or.inl (by simp)) _).setCell (Or.inl (by simp)) _
        have hblk : Blk (((w4.setCell ⟨b, 0, none⟩ (.slice (some ⟨g, 0, none⟩) (m + j + 1) cap)).setCell ⟨b, 1, none⟩ (.int .i64 ((V2 / 256 ^ (m + j + 1) : Nat) : Int))).setCell ⟨b, 2, none⟩ (.int .i64 ((r : Int) - 8))) b (#[.slice (some ⟨g, 0, none⟩) (m + j + 1) cap, .int .i64 ((V2 / 256 ^ (m + j + 1) : Nat) : Int), .int .i64 ((r : Int) - 8)] ++ post) E := by
          have h1 := ((Blk.set hb4 0 (.slice (some ⟨g, 0, none⟩) (m + j + 1) cap)).set 1 (.int .i64 ((V2 / 256 ^ (m + j + 1) : Nat) : Int))).set 2 (.int .i64 ((r : Int) - 8))
          rw [pre0, pre1, pre2] at h1
          exact h1
        refine ⟨hb4, ⟨hbel.trans (hk4.below (by have := Blk.lt hb4; omega) (by simp)), fun i cs e hi he hb => (hst4 i cs e hi he hb).kept hk4 (by simp; omega), some ⟨g, 0, none⟩, m + j + 1, cap, ⟨?_, ?_⟩⟩⟩
        · rw [show ((r - 8 : Nat) : Int) = (r : Int) - 8 by omega]
          exact hblk
        · rw [show m + (j + 1) = m + j + 1 by omega, digs_succ, byteCells_app]
          exact row_set (row_set (row_set hown (Nat.lt_succ_self b) _ _) (Nat.lt_succ_self b) _ _) (Nat.lt_succ_self b) _ _
      have hml : Hid (∀ W : World, W.cell? ⟨b, 2, none⟩ = some (.int .i64 ((r - 8 : Nat) : Int)) → rAt W b < rAt wr b) := fun W hW => by rw [rAt_of hW, hmeas.out]; omega
      clear hW hds hmeas
      rw [← hdn] at hnext
      generalize dig V2 (m + j) = Dg at *
      generalize V2 / 256 ^ (m + j) = R at *
      have eR : ((R / 256 : Nat) : Int) = (R : Int) / 256 := by omega
      rw [eR] at hnext
      clear eR
      go_wp2_with fail
      go_region_law (refine step_append_owned rfl (.tmp 37) (.tmp 43) 98 rfl 5 i0 _ 1 1 Try.underlying98 hi0 hz0 hz1 hz2 rfl (by decide) (b + 1) (.slice va vk vc) (m + j) (byteCells (digs V2 (m + j))) (by simp [Act.eval, Act.put]) (by first | exact own2 _ | exact own _) ⟨wr.heap.size, 0, none⟩ 1 1 [.int .u8 (Dg : Int)] (by simp [Act.eval, Act.put]) rfl (by first | exact cells_new _ _ _ _ (by simp) | exact fun j u hj => cells_new _ _ _ _ (by simp) j u hj) (by simp [Value.oneCell']) mb mc (by exact up _) ?_; intro v' w4 hown hgrow; obtain ⟨g, cap, rfl⟩ := own_form hown (by omega); obtain ⟨hb4, hNL⟩ := hnext.out w4 g cap hown _ hgrow; have e0 : w4.cell? ⟨b, 0, none⟩ = some (.slice va vk vc) := (Blk.cell hb4 0).trans (preGet _ _ _ _ 0 (by omega)); have e1 : w4.cell? ⟨b, 1, none⟩ = some (.int .i64 (R : Int)) := (Blk.cell hb4 1).trans (preGet _ _ _ _ 1 (by omega)); have e2 : w4.cell? ⟨b, 2, none⟩ = some (.int .i64 (r : Int)) := (Blk.cell hb4 2).trans (preGet _ _ _ _ 2 (by omega)); have g0 := Blk.frozen hb4 0; have g1 := Blk.frozen hb4 1; have g2 := Blk.frozen hb4 2; have hb4l := Blk.lt hb4; have hNL : Hid (NumLoop _ _ _ _ _ _ _ _) := hNL; clear hb4 hown hgrow)
      all_goals
        go_wp2_with fail
        refine ⟨⟨j + 1, r - 8, by omega, hNL.out⟩, hml.out _ ?_⟩
        obtain ⟨_, _, _, _, _, hW2⟩ := hNL.out
        exact (Blk.cell hW2.blk 2).trans (preGet _ _ _ _ 2 (by omega))
    · have hKK := hgoal.out
      have e1 : m + j = (K + wd) / 8 := by omega
      have e2 : r = (K + wd) % 8 := by omega
      have hVV : V + n * 2 ^ K = V2 := by rw [hKK]; exact hV2H.out.symm
      have hfin : Hid (NumOut w wr b post E (V + n * 2 ^ K) (K + wd)) := by
        rw [hVV]
        refine ⟨hBlH.out, hStH.out, ?_, .slice va vk vc, ?_⟩
        · have := hVlH.out; rwa [← hKK] at this
        · rw [← e1, ← e2]; exact hWH.out
      clear hW hKK e1 e2 hVV hdn hds hmeas
      go_wp2
      go_end0
      exact ⟨rfl, hfin.out⟩

set_option maxHeartbeats 2000000 in
set_option maxRecDepth 100000 in
theorem bend_any (w : World) (b : Nat) (post : Array Value) (E V K : Nat) (v : Value) (h : BWL w b post E V (K / 8) (K % 8) v) (hE : E ≠ 5) (hV : V < 2 ^ K) (hK : K ≤ 900000) :
    Calls Try.prog 84 #[.pointer (some ⟨b, 0, none⟩)] w fun e w' => e = .returned (.string (bytesB (digs V ((K + 7) / 8)))) ∧ Below b w w' := by
  obtain ⟨va, vk, vc, rfl⟩ := own_shape h.row
  have c0 : w.cell? ⟨b, 0, none⟩ = some (.slice va vk vc) := by rw [h.blk.cell, preGet _ _ _ _ 0 (by omega)]; rfl
  have c2 : w.cell? ⟨b, 2, none⟩ = some (.int .i64 ((K % 8 : Nat) : Int)) := by rw [h.blk.cell, preGet _ _ _ _ 2 (by omega)]; rfl
  have hbl := h.blk.lt
  have hb0 : Hid (Below b w w) := Below.refl _ _
  obtain ⟨k, hk⟩ : ∃ k, k = K % 8 := ⟨_, rfl⟩
  rw [← hk] at c2
  obtain ⟨R, hR⟩ : ∃ R, Hid (bytesB (digs V ((K + 7) / 8)) = R) := ⟨_, rfl⟩
  by_cases h0 : (0 : Int) < (k : Int)
  · have hc : Hid (Calls Try.prog 81 #[.pointer (some ⟨b, 0, none⟩), .int .i64 0, .int .i64 (8 - (k : Int))] w fun e w' => e = .returned (.tuple #[]) ∧ NumOut w w' b post E (V + 0 * 2 ^ K) (K + (8 - k))) := by
      have := number_any w b post E V K _ h hE hV 0 (8 - k) (Nat.pow_pos (by decide)) (by omega) (by omega)
      rwa [show ((8 - k : Nat) : Int) = 8 - (k : Int) by omega] at this
    have e1 : (K + (8 - k)) / 8 = (K + 7) / 8 := by omega
    have e2 : V + 0 * 2 ^ K = V := by simp
    rw [e2] at hc
    have e1H : Hid (_ = _) := e1
    have hk8 : k < 8 := by omega
    clear h hV e2 e1 hk hK
    go_enter Try.func84, Try.ntmps84
    go_wp2_with fail
    refine hc.out.mono ?_
    rintro e w1 ⟨rfl, o⟩
    obtain ⟨v1, hW⟩ := o.ex
    have hrow := hW.row
    rw [e1H.out] at hrow
    obtain ⟨xa, xk, xc, rfl⟩ := own_shape hrow
    have hl := digs_len V ((K + 7) / 8)
    have hconv := conv_out (out := digs V ((K + 7) / 8)) (by rw [hl]; exact hrow) (digs_lt _ _)
    rw [hR.out] at hconv
    have d0 : w1.cell? ⟨b, 0, none⟩ = some (.slice xa xk xc) := (Blk.cell hW.blk 0).trans (preGet _ _ _ _ 0 (by omega))
    have hB : Hid (Below b w w1) := o.below
    clear o hW hrow hl hc c0 c2
    go_wp2
    go_ret
    exact ⟨by rw [hR.out]; rfl, hB.out⟩
  · have e1 : K / 8 = (K + 7) / 8 := by omega
    have hrow := h.row
    rw [e1] at hrow
    have hl := digs_len V ((K + 7) / 8)
    have hconv := conv_out (out := digs V ((K + 7) / 8)) (by rw [hl]; exact hrow) (digs_lt _ _)
    rw [hR.out] at hconv
    clear h hV e1 hk hrow hl
    go_enter Try.func84, Try.ntmps84
    go_wp2
    go_ret
    exact ⟨by rw [hR.out]; rfl, hb0.out⟩

end Go.Proofs.Ytgifhgnccmnbiaa
