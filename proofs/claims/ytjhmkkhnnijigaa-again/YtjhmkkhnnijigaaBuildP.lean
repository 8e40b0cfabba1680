/- The machine: a part built out of its fields; a whole set of ways read out of a part. -/
import Derived.Test.YtjhmkkhnnijigaaLinked
import Derived.Deep.MidRow
set_option linter.unusedVariables false
set_option linter.unusedSimpArgs false
namespace Go.Proofs.Ytjhmkkhnnijigaa
open Go.RowKit Go.IntWalk

theorem overlay_list (n : Nat) (off : Nat) : ∀ (vs : List Value) (k : Nat) (f : Nat → Value),
    (vs.zipIdx k).foldl (fun cs (x : Value × Nat) => cs.setIfInBounds (off + x.2) x.1) (cellsF n f) = cellsF n (fun i => if off + k ≤ i ∧ i < off + k + vs.length then vs.getD (i - (off + k)) undef else f i)
  | [], k, f => by
    simp only [List.zipIdx_nil, List.foldl_nil]
    refine cellsF_congr fun j _ => ?_
    rw [if_neg (by rw [List.length_nil]; omega)]
  | v :: vs, k, f => by
    simp only [List.zipIdx_cons, List.foldl_cons]
    rw [cellsF_set f (fun i => if i = off + k then v else f i) (off + k) v (fun j _ => rfl), overlay_list n off vs (k + 1)]
    refine cellsF_congr fun j _ => ?_
    simp only [List.length_cons]
    by_cases h1 : off + (k + 1) ≤ j ∧ j < off + (k + 1) + vs.length
    · rw [if_pos h1, if_pos (by omega)]
      obtain ⟨d, rfl⟩ : ∃ d, j = off + (k + 1) + d := ⟨j - (off + (k + 1)), by omega⟩
      rw [show off + (k + 1) + d - (off + (k + 1)) = d by omega, show off + (k + 1) + d - (off + k) = d + 1 by omega]
      rfl
    · rw [if_neg h1]
      by_cases h2 : j = off + k
      · subst h2; rw [if_pos rfl, if_pos (by omega), Nat.sub_self]; rfl
      · rw [if_neg h2, if_neg (by omega)]

theorem overlay_F (n m off : Nat) (f g : Nat → Value) :
    Array.foldl (fun cs (x : Value × Nat) => cs.setIfInBounds (off + x.2) x.1) (cellsF n f) (cellsF m g).zipIdx 0 m = cellsF n (fun i => if off ≤ i ∧ i < off + m then g (i - off) else f i) := by
  have hs : (cellsF m g).zipIdx.size = m := by simp
  have e : ∀ F : Array Value → Value × Nat → Array Value, ∀ x, Array.foldl F x (cellsF m g).zipIdx 0 m = (cellsF m g).zipIdx.foldl F x := fun F x => by
    conv => rhs; rw [hs]
  rw [e, ← Array.foldl_toList, Array.toList_zipIdx, overlay_list n off _ 0 f]
  refine cellsF_congr fun j _ => ?_
  simp only [Nat.add_zero, cellsF, List.length_map, List.length_range]
  by_cases h : off ≤ j ∧ j < off + m
  · rw [if_pos h, if_pos h]
    rw [List.getD_eq_getElem?_getD, List.getElem?_map, List.getElem?_range (by omega)]
    rfl
  · rw [if_neg h, if_neg h]

theorem build_part (w : World) (c : Nat) (p : GP) :
    (Instr.build 102 #[(0, .int .i64 (c : Int)), (4, .agg (cellsF 60 (fun i => UV (p.next i)))), (5, .agg (cellsF 60 (fun i => .int .i64 (p.node i : Int))))]).run Try.prog w = .ok (.agg (gpCells { count := c, next := p.next, node := p.node })) w := by
  unfold Instr.build
  rw [Sem.run_bind, zeroV_part w]
  simp [Sem.run_bind, run_underlying Try.underlying102, go_sem]
  rw [part_set_count, show gpCells { count := c } = cellsF 124 (pCell { count := c }) from rfl, overlay_F, overlay_F]
  have hne : gpCells {} ≠ #[] := fun h => by have := gpCells_size {}; rw [h] at this; simp at this
  rw [if_neg hne, if_neg (by simp)]
  simp only [Sem.run_pure]
  congr 2

theorem build_none (w : World) : (Instr.build 102 #[(1, .bool true)]).run Try.prog w = .ok (.agg (gpCells noneP)) w := by
  unfold Instr.build
  rw [Sem.run_bind, zeroV_part w]
  simp [Sem.run_bind, run_underlying Try.underlying102, go_sem]
  have hne : gpCells {} ≠ #[] := fun h => by have := gpCells_size {}; rw [h] at this; simp at this
  rw [part_set_empty]
  simp [noneP, hne]
theorem build_step (w : World) : (Instr.build 102 #[(0, .int .i64 1), (2, .int .u64 1), (3, .int .u64 1)]).run Try.prog w = .ok (.agg (gpCells { count := 1, first := 1#64, last := 1#64 })) w := by
  unfold Instr.build
  rw [Sem.run_bind, zeroV_part w]
  simp [Sem.run_bind, run_underlying Try.underlying102, go_sem]
  have hne : gpCells {} ≠ #[] := fun h => by have := gpCells_size {}; rw [h] at this; simp at this
  have e : (((gpCells {}).setIfInBounds 0 (.int .i64 1)).setIfInBounds 2 (.int .u64 1)).setIfInBounds 3 (.int .u64 1) = gpCells { count := 1, first := 1#64, last := 1#64 } := by
    have h0 := part_set_count {} 1
    have h1 := part_set_first { count := 1 } 1#64
    have h2 := part_set_last { count := 1, first := 1#64 } 1#64
    have e1 : UV 1#64 = .int .u64 1 := rfl
    rw [e1] at h1 h2
    rw [← h2, ← h1, ← h0]
    rfl
  rw [e]
  simp [hne]

theorem size_ways : (Try.prog.info? 99).map (·.size) = some 60 := by kernel_rfl
theorem size_nodes : (Try.prog.info? 100).map (·.size) = some 60 := by kernel_rfl

/-- The ways of a part, or its nodes, read out of its block. -/
theorem wpList_load_ways {ops : Array Oper} {rest : List Oper} {o : Oper} {a : Act} {w : World} {Q : Exit → Act → World → Prop} (hgd : o.guard = none) (x : Operand) (ho : o.op = .load 99 x)
    (g : Nat) (hx : a.eval x = .pointer (some ⟨g, 4, none⟩)) (p : GP) (hg : Blk w g (gpCells p) 102)
    (h : wpList Try.prog ops Q rest (a.put o.dst (.agg (cellsF 60 (fun i => UV (p.next i))))) w) : wpList Try.prog ops Q (o :: rest) a w :=
  wpList_load_mid hgd _ x ho g 4 hx (cellsF 60 (fun i => UV (p.next i))).toList _ (fun j v hv => by
    have hj : j < 60 := by have := (List.getElem?_eq_some_iff.1 hv).1; simpa using this
    rw [hg.cell, part_next _ _ hj, ← hv, Array.getElem?_toList, cellsF_get _ hj]) Try.underlying99 rfl (by simpa using size_ways) (by simpa using h)
theorem wpList_load_nodes {ops : Array Oper} {rest : List Oper} {o : Oper} {a : Act} {w : World} {Q : Exit → Act → World → Prop} (hgd : o.guard = none) (x : Operand) (ho : o.op = .load 100 x)
    (g : Nat) (hx : a.eval x = .pointer (some ⟨g, 64, none⟩)) (p : GP) (hg : Blk w g (gpCells p) 102)
    (h : wpList Try.prog ops Q rest (a.put o.dst (.agg (cellsF 60 (fun i => .int .i64 (p.node i : Int))))) w) : wpList Try.prog ops Q (o :: rest) a w :=
  wpList_load_mid hgd _ x ho g 64 hx (cellsF 60 (fun i => .int .i64 (p.node i : Int))).toList _ (fun j v hv => by
    have hj : j < 60 := by have := (List.getElem?_eq_some_iff.1 hv).1; simpa using this
    rw [hg.cell, part_node _ _ hj, ← hv, Array.getElem?_toList, cellsF_get _ hj]) Try.underlying100 rfl (by simpa using size_nodes) (by simpa using h)

theorem wpList_build_value {P : Program} {ops : Array Oper} {rest : List Oper} {o : Oper} {a : Act} {w : World} {Q : Exit → Act → World → Prop} (hgd : o.guard = none) (t : TypeId) (parts : Array (Nat × Operand)) (ho : o.op = .build t parts)
    (vs : Array (Nat × Value)) (he : (parts.map fun x => (x.1, a.eval x.2)) = vs) (v : Value) (hv : (Instr.build t vs).run P w = .ok v w) (h : wpList P ops Q rest (a.put o.dst v) w) : wpList P ops Q (o :: rest) a w := by
  subst he
  refine wpList_plain hgd fun K hK => ?_
  unfold Oper.wp execOp
  simp only [ho, hv, Result.andThen_ok, Sem.run_bind, Sem.run_pure]
  exact hK _ _ h

/-- A part built of a count, ways and nodes. -/
theorem wpList_build_beside {ops : Array Oper} {rest : List Oper} {o : Oper} {a : Act} {w : World} {Q : Exit → Act → World → Prop} (hgd : o.guard = none) (x y z : Operand) (ho : o.op = .build 102 #[(0, x), (4, y), (5, z)])
    (c : Nat) (ci : Int) (hc : ci = (c : Int)) (p : GP) (hx : a.eval x = .int .i64 ci) (hy : a.eval y = .agg (cellsF 60 (fun i => UV (p.next i)))) (hz : a.eval z = .agg (cellsF 60 (fun i => .int .i64 (p.node i : Int))))
    (h : wpList Try.prog ops Q rest (a.put o.dst (.agg (gpCells { count := c, next := p.next, node := p.node }))) w) : wpList Try.prog ops Q (o :: rest) a w :=
  wpList_build_value hgd _ _ ho _ (by simp only [List.map_toArray, List.map_cons, List.map_nil, hx, hy, hz, hc]) _ (build_part w c p) h
/-- The part that takes nothing. -/
theorem wpList_build_none {ops : Array Oper} {rest : List Oper} {o : Oper} {a : Act} {w : World} {Q : Exit → Act → World → Prop} (hgd : o.guard = none) (ho : o.op = .build 102 #[(1, .const (.bool true))])
    (h : wpList Try.prog ops Q rest (a.put o.dst (.agg (gpCells noneP))) w) : wpList Try.prog ops Q (o :: rest) a w :=
  wpList_build_value hgd _ _ ho #[(1, .bool true)] (by simp [Act.eval]) _ (build_none w) h
/-- One step. -/
theorem wpList_build_step {ops : Array Oper} {rest : List Oper} {o : Oper} {a : Act} {w : World} {Q : Exit → Act → World → Prop} (hgd : o.guard = none) (ho : o.op = .build 102 #[(0, .const (.int .i64 1)), (2, .const (.int .u64 1)), (3, .const (.int .u64 1))])
    (h : wpList Try.prog ops Q rest (a.put o.dst (.agg (gpCells { count := 1, first := 1#64, last := 1#64 }))) w) : wpList Try.prog ops Q (o :: rest) a w :=
  wpList_build_value hgd _ _ ho #[(0, .int .i64 1), (2, .int .u64 1), (3, .int .u64 1)] (by simp [Act.eval]) _ (build_step w) h

end Go.Proofs.Ytjhmkkhnnijigaa
