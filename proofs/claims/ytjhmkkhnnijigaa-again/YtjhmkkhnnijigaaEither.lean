/- The machine: either: one of two parts. -/
import Derived.Test.YtjhmkkhnnijigaaBoth
set_option linter.unusedVariables false
set_option linter.unusedSimpArgs false
namespace Go.Proofs.Ytjhmkkhnnijigaa
open Go.RowKit Go.IntWalk

theorem either_case {a b : GP} {ea eb : Bool} (ha : a.empty = ea) (hb : b.empty = eb) :
    eitherP a b = { besideP a b with empty := ea || eb, first := a.first ||| b.first <<< a.count, last := a.last ||| b.last <<< a.count } := by
  unfold eitherP
  rw [ha, hb]

set_option maxHeartbeats 2000000 in
set_option maxRecDepth 100000 in
theorem meither_any (a b : GP) (hr : a.count + b.count ≤ 60) (w : World) :
    PartCall 105 #[.agg (gpCells a), .agg (gpCells b)] w (eitherP a b) := by
  unfold PartCall
  have hz := zeroV_part
  have h0 := TwoIn.start w a b
  have hbes : Hid (∀ w, PartCall 123 #[.agg (gpCells a), .agg (gpCells b)] w (besideP a b)) := fun w => beside_any a b hr w
  obtain ⟨ea, ha⟩ : ∃ e, a.empty = e := ⟨_, rfl⟩
  obtain ⟨eb, hb⟩ : ∃ e, b.empty = e := ⟨_, rfl⟩
  rw [either_case ha hb]
  have hsh := shl_u b.first a.count
  have hsh2 := shl_u b.last a.count
  have hor1 := or_u a.first (b.first <<< a.count)
  have hor2 := or_u a.last (b.last <<< a.count)
  have hca : a.count ≤ 60 := by omega
  generalize b.first <<< a.count = F at *
  generalize b.last <<< a.count = L at *
  cases ea <;> cases eb
  · simp only [Bool.or_true, Bool.or_false, Bool.true_or, Bool.false_or]
    go_enter Try.func105, Try.ntmps105
    go_wp2_with (first
      | (with_reducible refine wpList_load_part ?_ (.tmp 2) ?_ w.heap.size ?_ a ?_ ?_
         · rfl
         · rfl
         · rfl
         · exact h0.b0)
      | (with_reducible refine wpList_load_part ?_ (.tmp 3) ?_ (w.heap.size + 1) ?_ b ?_ ?_
         · rfl
         · rfl
         · rfl
         · exact h0.b1)
      | (go_at_call 123
         refine (hbes.out _).mono ?_
         rintro e w1 ⟨rfl, k1⟩
         have h1 := h0.kept k1)
      | (with_reducible refine wpList_store_part ?_ (.tmp 5) (.tmp 8) ?_ w1.heap.size ?_ {} (besideP a b) ?_ ?_ ?_
         · rfl
         · rfl
         · rfl
         · rfl
         · exact Blk.new w1 (gpCells {}) 102
         intro w5 hb5 hk5 hs5
         have hg1 := h1.b2.lt
         have h5 := (h1.kept ((Kept.refl [] w1).alloc (.cells (gpCells {}) 102))).into hk5 hg1
         have c00 := h5.b0.part0
         have c01 := h5.b0.part1
         have c02 := h5.b0.part2
         have c03 := h5.b0.part3
         have c11 := h5.b1.part1
         have c12 := h5.b1.part2
         have c13 := h5.b1.part3
         rw [ha] at c01
         rw [hb] at c11
         have d1 := hb5.part1
         have d2 := hb5.part2
         have d3 := hb5.part3
         have f1 := hb5.frozen 1
         have f2 := hb5.frozen 2
         have f3 := hb5.frozen 3
         have hW : Hid (Blk _ _ _ _) := (((hb5.setE false).setF (a.first ||| F)).setL (a.last ||| L))
         have hO : Hid (Blk _ _ _ _) := (((h5.b2.other (b' := w1.heap.size) 1 (.bool false) (by omega)).other (b' := w1.heap.size) 2 (UV (a.first ||| F)) (by omega)).other (b' := w1.heap.size) 3 (UV (a.last ||| L)) (by omega))
         have hK : Hid (Kept _ _ _) := (((h5.k.setCell (p := ⟨w1.heap.size, 1, none⟩) (Or.inr (by simp; omega)) (.bool false)).setCell (p := ⟨w1.heap.size, 2, none⟩) (Or.inr (by simp; omega)) (UV (a.first ||| F))).setCell (p := ⟨w1.heap.size, 3, none⟩) (Or.inr (by simp; omega)) (UV (a.last ||| L)))
         clear hb5 hk5 h1 hz)
      | (with_reducible refine wpList_load_part ?_ (.tmp 5) ?_ w1.heap.size ?_ { besideP a b with empty := false, first := (a.first ||| F), last := (a.last ||| L) } ?_ ?_
         · rfl
         · rfl
         · rfl
         · exact hW.out)
      | (with_reducible refine wpList_store_part ?_ (.tmp 4) (.tmp 36) ?_ (w.heap.size + 1 + 1) ?_ {} { besideP a b with empty := false, first := (a.first ||| F), last := (a.last ||| L) } ?_ ?_ ?_
         · rfl
         · rfl
         · rfl
         · rfl
         · exact hO.out
         intro w8 hb8 hk8 hs8))
    exact bodyPost_ret (v := .agg (gpCells { besideP a b with empty := false, first := (a.first ||| F), last := (a.last ||| L) })) (results_part Try.results105 _ _ _ { besideP a b with empty := false, first := (a.first ||| F), last := (a.last ||| L) } rfl hb8) rfl ⟨rfl, hK.out.into hk8 (by omega)⟩
  · simp only [Bool.or_true, Bool.or_false, Bool.true_or, Bool.false_or]
    go_enter Try.func105, Try.ntmps105
    go_wp2_with (first
      | (with_reducible refine wpList_load_part ?_ (.tmp 2) ?_ w.heap.size ?_ a ?_ ?_
         · rfl
         · rfl
         · rfl
         · exact h0.b0)
      | (with_reducible refine wpList_load_part ?_ (.tmp 3) ?_ (w.heap.size + 1) ?_ b ?_ ?_
         · rfl
         · rfl
         · rfl
         · exact h0.b1)
      | (go_at_call 123
         refine (hbes.out _).mono ?_
         rintro e w1 ⟨rfl, k1⟩
         have h1 := h0.kept k1)
      | (with_reducible refine wpList_store_part ?_ (.tmp 5) (.tmp 8) ?_ w1.heap.size ?_ {} (besideP a b) ?_ ?_ ?_
         · rfl
         · rfl
         · rfl
         · rfl
         · exact Blk.new w1 (gpCells {}) 102
         intro w5 hb5 hk5 hs5
         have hg1 := h1.b2.lt
         have h5 := (h1.kept ((Kept.refl [] w1).alloc (.cells (gpCells {}) 102))).into hk5 hg1
         have c00 := h5.b0.part0
         have c01 := h5.b0.part1
         have c02 := h5.b0.part2
         have c03 := h5.b0.part3
         have c11 := h5.b1.part1
         have c12 := h5.b1.part2
         have c13 := h5.b1.part3
         rw [ha] at c01
         rw [hb] at c11
         have d1 := hb5.part1
         have d2 := hb5.part2
         have d3 := hb5.part3
         have f1 := hb5.frozen 1
         have f2 := hb5.frozen 2
         have f3 := hb5.frozen 3
         have hW : Hid (Blk _ _ _ _) := (((hb5.setE true).setF (a.first ||| F)).setL (a.last ||| L))
         have hO : Hid (Blk _ _ _ _) := (((h5.b2.other (b' := w1.heap.size) 1 (.bool true) (by omega)).other (b' := w1.heap.size) 2 (UV (a.first ||| F)) (by omega)).other (b' := w1.heap.size) 3 (UV (a.last ||| L)) (by omega))
         have hK : Hid (Kept _ _ _) := (((h5.k.setCell (p := ⟨w1.heap.size, 1, none⟩) (Or.inr (by simp; omega)) (.bool true)).setCell (p := ⟨w1.heap.size, 2, none⟩) (Or.inr (by simp; omega)) (UV (a.first ||| F))).setCell (p := ⟨w1.heap.size, 3, none⟩) (Or.inr (by simp; omega)) (UV (a.last ||| L)))
         clear hb5 hk5 h1 hz)
      | (with_reducible refine wpList_load_part ?_ (.tmp 5) ?_ w1.heap.size ?_ { besideP a b with empty := true, first := (a.first ||| F), last := (a.last ||| L) } ?_ ?_
         · rfl
         · rfl
         · rfl
         · exact hW.out)
      | (with_reducible refine wpList_store_part ?_ (.tmp 4) (.tmp 36) ?_ (w.heap.size + 1 + 1) ?_ {} { besideP a b with empty := true, first := (a.first ||| F), last := (a.last ||| L) } ?_ ?_ ?_
         · rfl
         · rfl
         · rfl
         · rfl
         · exact hO.out
         intro w8 hb8 hk8 hs8))
    exact bodyPost_ret (v := .agg (gpCells { besideP a b with empty := true, first := (a.first ||| F), last := (a.last ||| L) })) (results_part Try.results105 _ _ _ { besideP a b with empty := true, first := (a.first ||| F), last := (a.last ||| L) } rfl hb8) rfl ⟨rfl, hK.out.into hk8 (by omega)⟩
  · simp only [Bool.or_true, Bool.or_false, Bool.true_or, Bool.false_or]
    go_enter Try.func105, Try.ntmps105
    go_wp2_with (first
      | (with_reducible refine wpList_load_part ?_ (.tmp 2) ?_ w.heap.size ?_ a ?_ ?_
         · rfl
         · rfl
         · rfl
         · exact h0.b0)
      | (with_reducible refine wpList_load_part ?_ (.tmp 3) ?_ (w.heap.size + 1) ?_ b ?_ ?_
         · rfl
         · rfl
         · rfl
         · exact h0.b1)
      | (go_at_call 123
         refine (hbes.out _).mono ?_
         rintro e w1 ⟨rfl, k1⟩
         have h1 := h0.kept k1)
      | (with_reducible refine wpList_store_part ?_ (.tmp 5) (.tmp 8) ?_ w1.heap.size ?_ {} (besideP a b) ?_ ?_ ?_
         · rfl
         · rfl
         · rfl
         · rfl
         · exact Blk.new w1 (gpCells {}) 102
         intro w5 hb5 hk5 hs5
         have hg1 := h1.b2.lt
         have h5 := (h1.kept ((Kept.refl [] w1).alloc (.cells (gpCells {}) 102))).into hk5 hg1
         have c00 := h5.b0.part0
         have c01 := h5.b0.part1
         have c02 := h5.b0.part2
         have c03 := h5.b0.part3
         have c11 := h5.b1.part1
         have c12 := h5.b1.part2
         have c13 := h5.b1.part3
         rw [ha] at c01
         rw [hb] at c11
         have d1 := hb5.part1
         have d2 := hb5.part2
         have d3 := hb5.part3
         have f1 := hb5.frozen 1
         have f2 := hb5.frozen 2
         have f3 := hb5.frozen 3
         have hW : Hid (Blk _ _ _ _) := (((hb5.setE true).setF (a.first ||| F)).setL (a.last ||| L))
         have hO : Hid (Blk _ _ _ _) := (((h5.b2.other (b' := w1.heap.size) 1 (.bool true) (by omega)).other (b' := w1.heap.size) 2 (UV (a.first ||| F)) (by omega)).other (b' := w1.heap.size) 3 (UV (a.last ||| L)) (by omega))
         have hK : Hid (Kept _ _ _) := (((h5.k.setCell (p := ⟨w1.heap.size, 1, none⟩) (Or.inr (by simp; omega)) (.bool true)).setCell (p := ⟨w1.heap.size, 2, none⟩) (Or.inr (by simp; omega)) (UV (a.first ||| F))).setCell (p := ⟨w1.heap.size, 3, none⟩) (Or.inr (by simp; omega)) (UV (a.last ||| L)))
         clear hb5 hk5 h1 hz)
      | (with_reducible refine wpList_load_part ?_ (.tmp 5) ?_ w1.heap.size ?_ { besideP a b with empty := true, first := (a.first ||| F), last := (a.last ||| L) } ?_ ?_
         · rfl
         · rfl
         · rfl
         · exact hW.out)
      | (with_reducible refine wpList_store_part ?_ (.tmp 4) (.tmp 36) ?_ (w.heap.size + 1 + 1) ?_ {} { besideP a b with empty := true, first := (a.first ||| F), last := (a.last ||| L) } ?_ ?_ ?_
         · rfl
         · rfl
         · rfl
         · rfl
         · exact hO.out
         intro w8 hb8 hk8 hs8))
    exact bodyPost_ret (v := .agg (gpCells { besideP a b with empty := true, first := (a.first ||| F), last := (a.last ||| L) })) (results_part Try.results105 _ _ _ { besideP a b with empty := true, first := (a.first ||| F), last := (a.last ||| L) } rfl hb8) rfl ⟨rfl, hK.out.into hk8 (by omega)⟩
  · simp only [Bool.or_true, Bool.or_false, Bool.true_or, Bool.false_or]
    go_enter Try.func105, Try.ntmps105
    go_wp2_with (first
      | (with_reducible refine wpList_load_part ?_ (.tmp 2) ?_ w.heap.size ?_ a ?_ ?_
         · rfl
         · rfl
         · rfl
         · exact h0.b0)
      | (with_reducible refine wpList_load_part ?_ (.tmp 3) ?_ (w.heap.size + 1) ?_ b ?_ ?_
         · rfl
         · rfl
         · rfl
         · exact h0.b1)
      | (go_at_call 123
         refine (hbes.out _).mono ?_
         rintro e w1 ⟨rfl, k1⟩
         have h1 := h0.kept k1)
      | (with_reducible refine wpList_store_part ?_ (.tmp 5) (.tmp 8) ?_ w1.heap.size ?_ {} (besideP a b) ?_ ?_ ?_
         · rfl
         · rfl
         · rfl
         · rfl
         · exact Blk.new w1 (gpCells {}) 102
         intro w5 hb5 hk5 hs5
         have hg1 := h1.b2.lt
         have h5 := (h1.kept ((Kept.refl [] w1).alloc (.cells (gpCells {}) 102))).into hk5 hg1
         have c00 := h5.b0.part0
         have c01 := h5.b0.part1
         have c02 := h5.b0.part2
         have c03 := h5.b0.part3
         have c11 := h5.b1.part1
         have c12 := h5.b1.part2
         have c13 := h5.b1.part3
         rw [ha] at c01
         rw [hb] at c11
         have d1 := hb5.part1
         have d2 := hb5.part2
         have d3 := hb5.part3
         have f1 := hb5.frozen 1
         have f2 := hb5.frozen 2
         have f3 := hb5.frozen 3
         have hW : Hid (Blk _ _ _ _) := (((hb5.setE true).setF (a.first ||| F)).setL (a.last ||| L))
         have hO : Hid (Blk _ _ _ _) := (((h5.b2.other (b' := w1.heap.size) 1 (.bool true) (by omega)).other (b' := w1.heap.size) 2 (UV (a.first ||| F)) (by omega)).other (b' := w1.heap.size) 3 (UV (a.last ||| L)) (by omega))
         have hK : Hid (Kept _ _ _) := (((h5.k.setCell (p := ⟨w1.heap.size, 1, none⟩) (Or.inr (by simp; omega)) (.bool true)).setCell (p := ⟨w1.heap.size, 2, none⟩) (Or.inr (by simp; omega)) (UV (a.first ||| F))).setCell (p := ⟨w1.heap.size, 3, none⟩) (Or.inr (by simp; omega)) (UV (a.last ||| L)))
         clear hb5 hk5 h1 hz)
      | (with_reducible refine wpList_load_part ?_ (.tmp 5) ?_ w1.heap.size ?_ { besideP a b with empty := true, first := (a.first ||| F), last := (a.last ||| L) } ?_ ?_
         · rfl
         · rfl
         · rfl
         · exact hW.out)
      | (with_reducible refine wpList_store_part ?_ (.tmp 4) (.tmp 36) ?_ (w.heap.size + 1 + 1) ?_ {} { besideP a b with empty := true, first := (a.first ||| F), last := (a.last ||| L) } ?_ ?_ ?_
         · rfl
         · rfl
         · rfl
         · rfl
         · exact hO.out
         intro w8 hb8 hk8 hs8))
    exact bodyPost_ret (v := .agg (gpCells { besideP a b with empty := true, first := (a.first ||| F), last := (a.last ||| L) })) (results_part Try.results105 _ _ _ { besideP a b with empty := true, first := (a.first ||| F), last := (a.last ||| L) } rfl hb8) rfl ⟨rfl, hK.out.into hk8 (by omega)⟩

end Go.Proofs.Ytjhmkkhnnijigaa
