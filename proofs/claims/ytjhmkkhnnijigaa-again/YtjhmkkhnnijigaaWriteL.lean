/- The machine: a row of one part; one part more in the row. -/
import Derived.Test.YtjhmkkhnnijigaaPartOf
import Derived.Test.YtjhmkkhnnijigaaRefMem
set_option linter.unusedVariables false
set_option linter.unusedSimpArgs false
namespace Go.Proofs.Ytjhmkkhnnijigaa
open Go.RowKit Go.IntWalk

theorem cellsF_of (z : Array Value) : z = cellsF z.size (fun i => z.getD i undef) := by
  apply Array.ext
  · simp
  · intro j h1 h2
    simp only [cellsF, List.getElem_toArray, List.getElem_map, List.getElem_range]
    simp [h1]
theorem overlay_whole (z : Array Value) (n : Nat) (hz : z.size = n) (g : Nat → Value) :
    Array.foldl (fun cs (x : Value × Nat) => cs.setIfInBounds (0 + x.2) x.1) z (cellsF n g).zipIdx 0 n = cellsF n g := by
  rw [cellsF_of z, hz, overlay_F]
  refine cellsF_congr fun j hj => ?_
  rw [if_pos (by omega), Nat.sub_zero]

theorem zeroPartInfo : (Try.prog.info? 102).map (fun i => (i.zero, i.size, i.bytes)) = some (some (.agg (gpCells {})), 124, 992) := by kernel_rfl

theorem buildSlice_part (w : World) (p : GP) :
    (Instr.buildSlice 137 1 #[(0, .agg (gpCells p))]).run Try.prog w = .ok (.slice (some ⟨w.heap.size, 0, none⟩) 1 1) (w.alloc (.cells (gpCells p) 102)) := by
  obtain ⟨i0, hi0, hz0, hz1, hz2⟩ := info_parts zeroPartInfo
  have hs : ∀ w, (sizeOf 102).run Try.prog w = .ok 124 w := fun w => by simp [sizeOf, typeInfo, hi0, hz1]
  unfold Instr.buildSlice
  rw [Sem.run_bind, run_underlying Try.underlying137]
  simp only [Result.andThen_ok]
  rw [Sem.run_bind, hs]
  simp only [Result.andThen_ok]
  rw [if_neg (by decide), if_neg (by decide)]
  simp [Sem.run_bind, zeroV_part, Instr.fill, newRow, go_sem]
  refine congrArg (fun c => w.alloc (.cells c 102)) ?_
  have h := fun z hz => overlay_whole z 124 hz (pCell p)
  simp only [Nat.zero_add] at h
  exact h _ rfl

/-- A row of one part, as an operation. -/
theorem wpList_row_part {ops : Array Oper} {rest : List Oper} {o : Oper} {a : Act} {w : World} {Q : Exit → Act → World → Prop} (hgd : o.guard = none) (x : Operand) (ho : o.op = .buildSlice 137 1 #[(0, x)])
    (p : GP) (hx : a.eval x = .agg (gpCells p))
    (h : wpList Try.prog ops Q rest (a.put o.dst (.slice (some ⟨w.heap.size, 0, none⟩) 1 1)) (w.alloc (.cells (gpCells p) 102))) : wpList Try.prog ops Q (o :: rest) a w := by
  refine wpList_plain hgd fun K hK => ?_
  unfold Oper.wp execOp
  simp only [ho, List.map_toArray, List.map_cons, List.map_nil, hx, buildSlice_part, Result.andThen_ok, Sem.run_bind, Sem.run_pure]
  exact hK _ _ h

/-- One part more. -/
theorem wpList_append_part {ops : Array Oper} {rest : List Oper} {o : Oper} {a : Act} {w : World} {Q : Exit → Act → World → Prop} (hgd : o.guard = none) (s x : Operand)
    (ho : o.op = .call { callee := .builtin .append, args := #[s, x], argTypes := #[137, 137] })
    (B g : Nat) (v : Value) (ps : List GP) (p : GP) (hs : a.eval s = v) (hx : a.eval x = .slice (some ⟨g, 0, none⟩) 1 1) (hl : ps.length ≤ 1000) (hown : PartsIn w B v ps) (hg : Blk w g (gpCells p) 102) (hB : B ≤ w.heap.size)
    (h : ∀ v' w', PartsIn w' B v' (ps ++ [p]) → w.grownBy w' v.ownBlock → wpList Try.prog ops Q rest (a.put o.dst v') w') : wpList Try.prog ops Q (o :: rest) a w := by
  obtain ⟨i0, hi0, hz0, hz1, hz2⟩ := info_parts zeroPartInfo
  refine wpList_append_placed hgd s x _ ho B 102 i0 _ 124 992 Try.underlying137 hi0 hz0 hz1 hz2 (by simp [Value.cells]) (by decide) v ps.length (partsCells ps) hs hown ⟨g, 0, none⟩ 1 1 (gpCells p).toList hx (by simp) (fun j u hu => ?_) (fun u hu => ?_) (by unfold maxLen; omega) (by omega) hB (fun v' w' h1 h2 _ => h v' w' ?_ h2)
  · rw [show (⟨g, 0, none⟩ : Addr).add j = ⟨g, j, none⟩ by unfold Addr.add; split <;> simp_all, hg.cell]
    simpa using hu
  · exact (Array.all_eq_true_iff_forall_mem.1 (gpCells_one p)) u (by simpa using hu)
  · unfold PartsIn
    rw [partsCells_snoc, List.length_append]
    exact h1

end Go.Proofs.Ytjhmkkhnnijigaa
