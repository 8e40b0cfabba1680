/- The machine: beside: the steps of one part behind those of another. -/
import Derived.Test.YtjhmkkhnnijigaaBuildP
set_option linter.unusedVariables false
set_option linter.unusedSimpArgs false
namespace Go.Proofs.Ytjhmkkhnnijigaa
open Go.RowKit Go.IntWalk

/-- Beside, so far as the first q steps of the second part. -/
def besideQ (a b : GP) (q : Nat) : GP where
  count := a.count + b.count
  next := fun s => if a.count ≤ s ∧ s < a.count + q ∧ s < 60 then b.next (s - a.count) <<< a.count else a.next s
  node := fun s => if a.count ≤ s ∧ s < a.count + q ∧ s < 60 then b.node (s - a.count) else a.node s
/-- Beside, behind the ways of step q, and ahead of its node. -/
def besideW (a b : GP) (q : Nat) : GP := { besideQ a b (q + 1) with node := (besideQ a b q).node }
theorem besideW_of {a b : GP} {q : Nat} (h : a.count + q < 60) : (besideW a b q).Same { besideQ a b q with next := fun j => if j = a.count + q then b.next q <<< a.count else (besideQ a b q).next j } := by
  refine ⟨rfl, rfl, rfl, rfl, fun s hs => ?_, fun _ _ => rfl⟩
  simp only [besideW, besideQ]
  by_cases h1 : s = a.count + q
  · subst h1; rw [if_pos ⟨by omega, by omega, hs⟩, if_pos rfl, show a.count + q - a.count = q by omega]
  · rw [if_neg h1]
    by_cases h2 : a.count ≤ s ∧ s < a.count + q ∧ s < 60
    · rw [if_pos (by omega), if_pos h2]
    · rw [if_neg (by omega), if_neg h2]
theorem besideQ_of {a b : GP} {q : Nat} (h : a.count + q < 60) : (besideQ a b (q + 1)).Same { besideW a b q with node := fun j => if j = a.count + q then b.node q else (besideW a b q).node j } := by
  refine ⟨rfl, rfl, rfl, rfl, fun _ _ => rfl, fun s hs => ?_⟩
  simp only [besideW, besideQ]
  by_cases h1 : s = a.count + q
  · subst h1; rw [if_pos ⟨by omega, by omega, hs⟩, if_pos rfl, show a.count + q - a.count = q by omega]
  · rw [if_neg h1]
    by_cases h2 : a.count ≤ s ∧ s < a.count + q ∧ s < 60
    · rw [if_pos (by omega), if_pos h2]
    · rw [if_neg (by omega), if_neg h2]

set_option maxHeartbeats 2000000 in
set_option maxRecDepth 100000 in
theorem beside_any (a b : GP) (hr : a.count + b.count ≤ 60) (w : World) :
    PartCall 123 #[.agg (gpCells a), .agg (gpCells b)] w (besideP a b) := by
  unfold PartCall
  have hz := zeroV_part
  have ca := part_g0 a
  have cb := part_g0 b
  have hA : ∀ o1 o2, Blk (((w.alloc (.cells (gpCells a) 102)).alloc o1).alloc o2) w.heap.size (gpCells a) 102 := fun o1 o2 => ((Blk.new _ _ _).alloc _).alloc _
  go_enter Try.func123, Try.ntmps123
  go_wp2_with (first
    | (refine wpList_load_ways rfl (.tmp 12) rfl w.heap.size rfl a (hA _ _) ?_)
    | (refine wpList_load_nodes rfl (.tmp 14) rfl w.heap.size rfl a (hA _ _) ?_)
    | (refine wpList_build_beside rfl (.tmp 11) (.tmp 13) (.tmp 15) rfl (a.count + b.count) _ (Int.natCast_add _ _).symm a rfl rfl rfl ?_)
    | (refine wpList_store_part rfl (.tmp 5) (.tmp 16) rfl (w.heap.size + 1 + 1 + 1) rfl {} { count := a.count + b.count, next := a.next, node := a.node } (by simp [Act.eval]) (Blk.new3 w (.cells (gpCells a) 102) (.cells (gpCells b) 102) (.cells (gpCells {}) 102) (gpCells {}) 102) ?_
       intro w5 hb5 hk5 hs5
       have b0 : Blk w5 w.heap.size (gpCells a) 102 := ((hA (.cells (gpCells b) 102) (.cells (gpCells {}) 102)).alloc (.cells (gpCells {}) 102)).kept hk5 (by simp; omega)
       have b1 : Blk w5 (w.heap.size + 1) (gpCells b) 102 := (((Blk.new1 w (.cells (gpCells a) 102) (gpCells b) 102).alloc (.cells (gpCells {}) 102)).alloc (.cells (gpCells {}) 102)).kept hk5 (by simp)
       have b2 : Blk w5 (w.heap.size + 1 + 1) (gpCells {}) 102 := ((Blk.new2 w (.cells (gpCells a) 102) (.cells (gpCells b) 102) (gpCells {}) 102).alloc (.cells (gpCells {}) 102)).kept hk5 (by simp)
       have k0 : Kept [] w w5 := (((((Kept.refl _ _).alloc _).alloc _).alloc _).alloc _).into hk5 (by omega)))
  go_loopw [6] (fun iv wr => ∃ q : Nat, iv = .int .i64 (q : Int) ∧ q ≤ b.count ∧ Blk wr (w.heap.size + 1 + 1 + 1) (gpCells (besideQ a b q)) 102 ∧ Blk wr w.heap.size (gpCells a) 102 ∧ Blk wr (w.heap.size + 1) (gpCells b) 102 ∧ Blk wr (w.heap.size + 1 + 1) (gpCells {}) 102 ∧ Kept [] w wr) (fun iv _ => ((b.count : Int) - intOf iv).toNat)
  case atStart =>
    have e0 : gpCells (besideQ a b 0) = gpCells { count := a.count + b.count, next := a.next, node := a.node } := gpCells_same ⟨rfl, rfl, rfl, rfl, fun i _ => by simp only [besideQ]; rw [if_neg (by omega)], fun i _ => by simp only [besideQ]; rw [if_neg (by omega)]⟩
    exact ⟨0, rfl, by omega, by rw [e0]; exact hb5, b0, b1, b2, k0⟩
  case round =>
    obtain ⟨q, rfl, hq, d5, d0, d1, d2, dk⟩ := hrel
    have c0 : wr.cell? ⟨w.heap.size, 0, none⟩ = some (.int .i64 (a.count : Int)) := by rw [d0.cell, part_c0]
    have c1 : wr.cell? ⟨w.heap.size + 1, 0, none⟩ = some (.int .i64 (b.count : Int)) := by rw [d1.cell, part_c0]
    have h5 : Hid (Blk _ _ _ _) := d5
    have h0 : Hid (Blk _ _ _ _) := d0
    have h1 : Hid (Blk _ _ _ _) := d1
    have h2 : Hid (Blk _ _ _ _) := d2
    have hk : Hid (Kept _ _ _) := dk
    clear ca cb hA hz
    by_cases hlt : (q : Int) < (b.count : Int)
    · have hqn : q < 60 := by omega
      have hqa : a.count + q < 60 := by omega
      have c2 : wr.cell? ⟨w.heap.size + 1, 4 + q, none⟩ = some (UV (b.next q)) := by rw [d1.cell, part_next _ _ hqn]
      have c3 : wr.cell? ⟨w.heap.size + 1, 64 + q, none⟩ = some (.int .i64 (b.node q : Int)) := by rw [d1.cell, part_node _ _ hqn]
      have c4 := d5.cell (4 + (a.count + q))
      rw [part_next _ _ hqa] at c4
      have c5 := d5.cell (64 + (a.count + q))
      rw [part_node _ _ hqa] at c5
      have f4 := d5.frozen (4 + (a.count + q))
      have f5 := d5.frozen (64 + (a.count + q))
      have hsh := shl_u (b.next q) a.count
      have i1 : (a.count : Int) + (q : Int) < 60 := by omega
      have i2 : ((a.count : Int) + (q : Int)).toNat = a.count + q := by omega
      have n5 : Hid (Blk _ _ _ _) := ((h5.out.drew.set (4 + (a.count + q)) (UV (b.next q <<< a.count))).drew.set (64 + (a.count + q)) (.int .i64 (b.node q : Int)))
      rw [part_set_next _ _ _ _ hqa (besideW_of hqa), part_set_node _ _ _ _ hqa (besideQ_of hqa)] at n5
      clear d5 d0 d1 d2 dk
      go_wp2_with fail
      go_region
      go_wp2_with fail
      go_region
      go_wp2
      refine ⟨⟨q + 1, by go_num, by omega, n5.out, ((h0.out.drew.other _ _ (by omega)).drew.other _ _ (by omega)), ((h1.out.drew.other _ _ (by omega)).drew.other _ _ (by omega)), ((h2.out.drew.other _ _ (by omega)).drew.other _ _ (by omega)), ((hk.out.drew.setCell (Or.inr (by simp; omega)) _).drew.setCell (Or.inr (by simp; omega)) _)⟩, ?_⟩
      simp only [intOf]; omega
    · have hqe : q = b.count := by omega
      subst hqe
      clear d5 d0 d1 d2 dk
      go_wp2_with (first | (refine wpList_load_part rfl (.tmp 5) rfl (w.heap.size + 1 + 1 + 1) rfl _ h5.out ?_) | (refine wpList_store_part rfl (.tmp 4) (.tmp 54) rfl (w.heap.size + 1 + 1) rfl {} _ rfl h2.out ?_; intro w6 hb6 hk6 hs6))
      exact bodyPost_ret (v := .agg (gpCells (besideQ a b b.count))) (results_part Try.results123 _ _ _ _ rfl hb6) rfl ⟨rfl, hk.out.into hk6 (by omega)⟩

end Go.Proofs.Ytjhmkkhnnijigaa
