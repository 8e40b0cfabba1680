/- The machine: a part built out of its fields; a whole set of ways read out of a part. -/
import Derived.Test.YtgifhgnccmnbiaaG04
import Derived.Deep.MidRow
set_option linter.unusedVariables false
set_option linter.unusedSimpArgs false
namespace Go.Proofs.Ytgifhgnccmnbiaa
open Go.RowKit Go.IntWalk

theorem overlay_list (n : Nat) (off : Nat) : ∀ (vs : List Value) (k : Nat) (f : Nat → Value),
    (vs.zipIdx k).foldl (fun cs (x : Value × Nat) => cs.setIfInBounds (off + x.2) x.1) (cellsF n f) = cellsF n (fun i => if off + k ≤ i ∧ i < off + k + vs.length then vs.getD (i - (off + k)) undef else f i)
  | [], k, f => by
    simp only [List.zipIdx_nil, List.foldl_nil]
    refine cellsF_congr fun j _ => ?_
    rw [if_neg (by rw [List.length_nil]; omega)]
  | v :: vs, k, f => by
    simp only [List.zipIdx_cons, List.foldl_cons]
    rw [cellsF_set f (fun i => if i = off + k then v else f i) (off + k) v (fun j _ => rfl), overlay_list n off vs (k + 1)]
    refine cellsF_congr fun j _ => ?_
    simp only [List.length_cons]
    by_cases h1 : off + (k + 1) ≤ j ∧ j < off + (k + 1) + vs.length
    · rw [if_pos h1, if_pos (by omega)]
      obtain ⟨d, rfl⟩ : ∃ d, j = off + (k + 1) + d := ⟨j - (off + (k + 1)), by omega⟩
      rw [show off + (k + 1) + d - (off + (k + 1)) = d by omega, show off + (k + 1) + d - (off + k) = d + 1 by omega]
      rfl
    · rw [if_neg h1]
      by_cases h2 : j = off + k
      · subst h2; rw [if_pos rfl, if_pos (by omega), Nat.sub_self]; rfl
      · rw [if_neg h2, if_neg (by omega)]

theorem overlay_F (n m off : Nat) (f g : Nat → Value) :
    Array.foldl (fun cs (x : Value × Nat) => cs.setIfInBounds (off + x.2) x.1) (cellsF n f) (cellsF m g).zipIdx 0 m = cellsF n (fun i => if off ≤ i ∧ i < off + m then g (i - off) else f i) := by
  have hs : (cellsF m g).zipIdx.size = m := by simp
  have e : ∀ F : Array Value → Value × Nat → Array Value, ∀ x, Array.foldl F x (cellsF m g).zipIdx 0 m = (cellsF m g).zipIdx.foldl F x := fun F x => by
    conv => rhs; rw [hs]
  rw [e, ← Array.foldl_toList, Array.toList_zipIdx, overlay_list n off _ 0 f]
  refine cellsF_congr fun j _ => ?_
  simp only [Nat.add_zero, cellsF, List.length_map, List.length_range]
  by_cases h : off ≤ j ∧ j < off + m
  · rw [if_pos h, if_pos h]
    rw [List.getD_eq_getElem?_getD, List.getElem?_map, List.getElem?_range (by omega)]
    rfl
  · rw [if_neg h, if_neg h]

theorem build_part (w : World) (c : Nat) (p : GP) :
    (Instr.build 113 #[(0, .int .i64 (c : Int)), (4, .agg (cellsF 60 (fun i => UV (p.next i)))), (5, .agg (cellsF 60 (fun i => .int .i64 (p.node i : Int))))]).run Try.prog w = .ok (.agg (gpCells { count := c, next := p.next, node := p.node })) w := by
  unfold Instr.build
  rw [Sem.run_bind, zeroV_part w]
  simp [Sem.run_bind, run_underlying Try.underlying113, go_sem]
  rw [part_set_count, show gpCells { count := c } = cellsF 124 (pCell { count := c }) from rfl, overlay_F, overlay_F]
  have hne : gpCells {} ≠ #[] := fun h => by have := gpCells_size {}; rw [h] at this; simp at this
  rw [if_neg hne, if_neg (by simp)]
  simp only [Sem.run_pure]
  congr 2

theorem build_none (w : World) : (Instr.build 113 #[(1, .bool true)]).run Try.prog w = .ok (.agg (gpCells noneP)) w := by
  unfold Instr.build
  rw [Sem.run_bind, zeroV_part w]
  simp [Sem.run_bind, run_underlying Try.underlying113, go_sem]
  have hne : gpCells {} ≠ #[] := fun h => by have := gpCells_size {}; rw [h] at this; simp at this
  rw [part_set_empty]
  simp [noneP, hne]
theorem build_step (w : World) : (Instr.build 113 #[(0, .int .i64 1), (2, .int .u64 1), (3, .int .u64 1)]).run Try.prog w = .ok (.agg (gpCells { count := 1, first := 1#64, last := 1#64 })) w := by
  unfold Instr.build
  rw [Sem.run_bind, zeroV_part w]
  simp [Sem.run_bind, run_underlying Try.underlying113, go_sem]
  have hne : gpCells {} ≠ #[] := fun h => by have := gpCells_size {}; rw [h] at this; simp at this
  have e : (((gpCells {}).setIfInBounds 0 (.int .i64 1)).setIfInBounds 2 (.int .u64 1)).setIfInBounds 3 (.int .u64 1) = gpCells { count := 1, first := 1#64, last := 1#64 } := by
    have h0 := part_set_count {} 1
    have h1 := part_set_first { count := 1 } 1#64
    have h2 := part_set_last { count := 1, first := 1#64 } 1#64
    have e1 : UV 1#64 = .int .u64 1 := rfl
    rw [e1] at h1 h2
    rw [← h2, ← h1, ← h0]
    rfl
  rw [e]
  simp [hne]

theorem size_ways : (Try.prog.info? 110).map (·.size) = some 60 := by kernel_rfl
theorem size_nodes : (Try.prog.info? 111).map (·.size) = some 60 := by kernel_rfl

/-- The ways of a part, or its nodes, read out of its block. -/
theorem wpList_load_ways {ops : Array Oper} {rest : List Oper} {o : Oper} {a : Act} {w : World} {Q : Exit → Act → World → Prop} (hgd : o.guard = none) (x : Operand) (ho : o.op = .load 110 x)
    (g : Nat) (hx : a.eval x = .pointer (some ⟨g, 4, none⟩)) (p : GP) (hg : Blk w g (gpCells p) 113)
    (h : wpList Try.prog ops Q rest (a.put o.dst (.agg (cellsF 60 (fun i => UV (p.next i))))) w) : wpList Try.prog ops Q (o :: rest) a w :=
  wpList_load_mid hgd _ x ho g 4 hx (cellsF 60 (fun i => UV (p.next i))).toList _ (fun j v hv => by
    have hj : j < 60 := by have := (List.getElem?_eq_some_iff.1 hv).1; simpa using this
    rw [hg.cell, part_next _ _ hj, ← hv, Array.getElem?_toList, cellsF_get _ hj]) Try.underlying110 rfl (by simpa using size_ways) (by simpa using h)
theorem wpList_load_nodes {ops : Array Oper} {rest : List Oper} {o : Oper} {a : Act} {w : World} {Q : Exit → Act → World → Prop} (hgd : o.guard = none) (x : Operand) (ho : o.op = .load 111 x)
    (g : Nat) (hx : a.eval x = .pointer (some ⟨g, 64, none⟩)) (p : GP) (hg : Blk w g (gpCells p) 113)
    (h : wpList Try.prog ops Q rest (a.put o.dst (.agg (cellsF 60 (fun i => .int .i64 (p.node i : Int))))) w) : wpList Try.prog ops Q (o :: rest) a w :=
  wpList_load_mid hgd _ x ho g 64 hx (cellsF 60 (fun i => .int .i64 (p.node i : Int))).toList _ (fun j v hv => by
    have hj : j < 60 := by have := (List.getElem?_eq_some_iff.1 hv).1; simpa using this
    rw [hg.cell, part_node _ _ hj, ← hv, Array.getElem?_toList, cellsF_get _ hj]) Try.underlying111 rfl (by simpa using size_nodes) (by simpa using h)

theorem wpList_build_value {P : Program} {ops : Array Oper} {rest : List Oper} {o : Oper} {a : Act} {w : World} {Q : Exit → Act → World → Prop} (hgd : o.guard = none) (t : TypeId) (parts : Array (Nat × Operand)) (ho : o.op = .build t parts)
    (vs : Array (Nat × Value)) (he : (parts.map fun x => (x.1, a.eval x.2)) = vs) (v : Value) (hv : (Instr.build t vs).run P w = .ok v w) (h : wpList P ops Q rest (a.put o.dst v) w) : wpList P ops Q (o :: rest) a w := by
  subst he
  refine wpList_plain hgd fun K hK => ?_
  unfold Oper.wp execOp
  simp only [ho, hv, Result.andThen_ok, Sem.run_bind, Sem.run_pure]
  exact hK _ _ h

/-- A part built of a count, ways and nodes. -/
theorem wpList_build_beside {ops : Array Oper} {rest : List Oper} {o : Oper} {a : Act} {w : World} {Q : Exit → Act → World → Prop} (hgd : o.guard = none) (x y z : Operand) (ho : o.op = .build 113 #[(0, x), (4, y), (5, z)])
    (c : Nat) (ci : Int) (hc : ci = (c : Int)) (p : GP) (hx : a.eval x = .int .i64 ci) (hy : a.eval y = .agg (cellsF 60 (fun i => UV (p.next i)))) (hz : a.eval z = .agg (cellsF 60 (fun i => .int .i64 (p.node i : Int))))
    (h : wpList Try.prog ops Q rest (a.put o.dst (.agg (gpCells { count := c, next := p.next, node := p.node }))) w) : wpList Try.prog ops Q (o :: rest) a w :=
  wpList_build_value hgd _ _ ho _ (by simp only [List.map_toArray, List.map_cons, List.map_nil, hx, hy, hz, hc]) _ (build_part w c p) h
/-- The part that takes nothing. -/
theorem wpList_build_none {ops : Array Oper} {rest : List Oper} {o : Oper} {a : Act} {w : World} {Q : Exit → Act → World → Prop} (hgd : o.guard = none) (ho : o.op = .build 113 #[(1, .const (.bool true))])
    (h : wpList Try.prog ops Q rest (a.put o.dst (.agg (gpCells noneP))) w) : wpList Try.prog ops Q (o :: rest) a w :=
  wpList_build_value hgd _ _ ho #[(1, .bool true)] (by simp [Act.eval]) _ (build_none w) h
/-- One step. -/
theorem wpList_build_step {ops : Array Oper} {rest : List Oper} {o : Oper} {a : Act} {w : World} {Q : Exit → Act → World → Prop} (hgd : o.guard = none) (ho : o.op = .build 113 #[(0, .const (.int .i64 1)), (2, .const (.int .u64 1)), (3, .const (.int .u64 1))])
    (h : wpList Try.prog ops Q rest (a.put o.dst (.agg (gpCells { count := 1, first := 1#64, last := 1#64 }))) w) : wpList Try.prog ops Q (o :: rest) a w :=
  wpList_build_value hgd _ _ ho #[(0, .int .i64 1), (2, .int .u64 1), (3, .int .u64 1)] (by simp [Act.eval]) _ (build_step w) h

end Go.Proofs.Ytgifhgnccmnbiaa

set_option linter.unusedVariables false
set_option linter.unusedSimpArgs false
namespace Go.Proofs.Ytgifhgnccmnbiaa
open Go.RowKit Go.IntWalk

/-- Beside, so far as the first q steps of the second part. -/
def besideQ (a b : GP) (q : Nat) : GP where
  count := a.count + b.count
  next := fun s => if a.count ≤ s ∧ s < a.count + q ∧ s < 60 then b.next (s - a.count) <<< a.count else a.next s
  node := fun s => if a.count ≤ s ∧ s < a.count + q ∧ s < 60 then b.node (s - a.count) else a.node s
/-- Beside, behind the ways of step q, and ahead of its node. -/
def besideW (a b : GP) (q : Nat) : GP := { besideQ a b (q + 1) with node := (besideQ a b q).node }
theorem besideW_of {a b : GP} {q : Nat} (h : a.count + q < 60) : (besideW a b q).Same { besideQ a b q with next := fun j => if j = a.count + q then b.next q <<< a.count else (besideQ a b q).next j } := by
  refine ⟨rfl, rfl, rfl, rfl, fun s hs => ?_, fun _ _ => rfl⟩
  simp only [besideW, besideQ]
  by_cases h1 : s = a.count + q
  · subst h1; rw [if_pos ⟨by omega, by omega, hs⟩, if_pos rfl, show a.count + q - a.count = q by omega]
  · rw [if_neg h1]
    by_cases h2 : a.count ≤ s ∧ s < a.count + q ∧ s < 60
    · rw [if_pos (by omega), if_pos h2]
    · rw [if_neg (by omega), if_neg h2]
theorem besideQ_of {a b : GP} {q : Nat} (h : a.count + q < 60) : (besideQ a b (q + 1)).Same { besideW a b q with node := fun j => if j = a.count + q then b.node q else (besideW a b q).node j } := by
  refine ⟨rfl, rfl, rfl, rfl, fun _ _ => rfl, fun s hs => ?_⟩
  simp only [besideW, besideQ]
  by_cases h1 : s = a.count + q
  · subst h1; rw [if_pos ⟨by omega, by omega, hs⟩, if_pos rfl, show a.count + q - a.count = q by omega]
  · rw [if_neg h1]
    by_cases h2 : a.count ≤ s ∧ s < a.count + q ∧ s < 60
    · rw [if_pos (by omega), if_pos h2]
    · rw [if_neg (by omega), if_neg h2]

set_option maxHeartbeats 2000000 in
set_option maxRecDepth 100000 in
theorem beside_any (a b : GP) (hr : a.count + b.count ≤ 60) (w : World) :
    PartCall 151 #[.agg (gpCells a), .agg (gpCells b)] w (besideP a b) := by
  unfold PartCall
  have hz := zeroV_part
  have ca := part_g0 a
  have cb := part_g0 b
  have hA : ∀ o1 o2, Blk (((w.alloc (.cells (gpCells a) 113)).alloc o1).alloc o2) w.heap.size (gpCells a) 113 := fun o1 o2 => ((Blk.new _ _ _).alloc _).alloc _
  go_enter Try.func151, Try.ntmps151
  go_wp2_with (first
    | (refine wpList_load_ways rfl (.tmp 12) rfl w.heap.size rfl a (hA _ _) ?_)
    | (refine wpList_load_nodes rfl (.tmp 14) rfl w.heap.size rfl a (hA _ _) ?_)
    | (refine wpList_build_beside rfl (.tmp 11) (.tmp 13) (.tmp 15) rfl (a.count + b.count) _ (Int.natCast_add _ _).symm a rfl rfl rfl ?_)
    | (refine wpList_store_part rfl (.tmp 5) (.tmp 16) rfl (w.heap.size + 1 + 1 + 1) rfl {} { count := a.count + b.count, next := a.next, node := a.node } (by simp [Act.eval]) (Blk.new3 w (.cells (gpCells a) 113) (.cells (gpCells b) 113) (.cells (gpCells {}) 113) (gpCells {}) 113) ?_
       intro w5 hb5 hk5 hs5
       have b0 : Blk w5 w.heap.size (gpCells a) 113 := ((hA (.cells (gpCells b) 113) (.cells (gpCells {}) 113)).alloc (.cells (gpCells {}) 113)).kept hk5 (by simp; omega)
       have b1 : Blk w5 (w.heap.size + 1) (gpCells b) 113 := (((Blk.new1 w (.cells (gpCells a) 113) (gpCells b) 113).alloc (.cells (gpCells {}) 113)).alloc (.cells (gpCells {}) 113)).kept hk5 (by simp)
       have b2 : Blk w5 (w.heap.size + 1 + 1) (gpCells {}) 113 := ((Blk.new2 w (.cells (gpCells a) 113) (.cells (gpCells b) 113) (gpCells {}) 113).alloc (.cells (gpCells {}) 113)).kept hk5 (by simp)
       have k0 : Kept [] w w5 := (((((Kept.refl _ _).alloc _).alloc _).alloc _).alloc _).into hk5 (by omega)))
  go_loopw [6] (fun iv wr => ∃ q : Nat, iv = .int .i64 (q : Int) ∧ q ≤ b.count ∧ Blk wr (w.heap.size + 1 + 1 + 1) (gpCells (besideQ a b q)) 113 ∧ Blk wr w.heap.size (gpCells a) 113 ∧ Blk wr (w.heap.size + 1) (gpCells b) 113 ∧ Blk wr (w.heap.size + 1 + 1) (gpCells {}) 113 ∧ Kept [] w wr) (fun iv _ => ((b.count : Int) - intOf iv).toNat)
  case atStart =>
    have e0 : gpCells (besideQ a b 0) = gpCells { count := a.count + b.count, next := a.next, node := a.node } := gpCells_same ⟨rfl, rfl, rfl, rfl, fun i _ => by simp only [besideQ]; rw [if_neg (by omega)], fun i _ => by simp only [besideQ]; rw [if_neg (by omega)]⟩
    exact ⟨0, rfl, by omega, by rw [e0]; exact hb5, b0, b1, b2, k0⟩
  case round =>
    obtain ⟨q, rfl, hq, d5, d0, d1, d2, dk⟩ := hrel
    have c0 : wr.cell? ⟨w.heap.size, 0, none⟩ = some (.int .i64 (a.count : Int)) := by rw [d0.cell, part_c0]
    have c1 : wr.cell? ⟨w.heap.size + 1, 0, none⟩ = some (.int .i64 (b.count : Int)) := by rw [d1.cell, part_c0]
    have h5 : Hid (Blk _ _ _ _) := d5
    have h0 : Hid (Blk _ _ _ _) := d0
    have h1 : Hid (Blk _ _ _ _) := d1
    have h2 : Hid (Blk _ _ _ _) := d2
    have hk : Hid (Kept _ _ _) := dk
    clear ca cb hA hz
    by_cases hlt : (q : Int) < (b.count : Int)
    · have hqn : q < 60 := by omega
      have hqa : a.count + q < 60 := by omega
      have c2 : wr.cell? ⟨w.heap.size + 1, 4 + q, none⟩ = some (UV (b.next q)) := by rw [d1.cell, part_next _ _ hqn]
      have c3 : wr.cell? ⟨w.heap.size + 1, 64 + q, none⟩ = some (.int .i64 (b.node q : Int)) := by rw [d1.cell, part_node _ _ hqn]
      have c4 := d5.cell (4 + (a.count + q))
      rw [part_next _ _ hqa] at c4
      have c5 := d5.cell (64 + (a.count + q))
      rw [part_node _ _ hqa] at c5
      have f4 := d5.frozen (4 + (a.count + q))
      have f5 := d5.frozen (64 + (a.count + q))
      have hsh := shl_u (b.next q) a.count
      have i1 : (a.count : Int) + (q : Int) < 60 := by omega
      have i2 : ((a.count : Int) + (q : Int)).toNat = a.count + q := by omega
      have n5 : Hid (Blk _ _ _ _) := ((h5.out.drew.set (4 + (a.count + q)) (UV (b.next q <<< a.count))).drew.set (64 + (a.count + q)) (.int .i64 (b.node q : Int)))
      rw [part_set_next _ _ _ _ hqa (besideW_of hqa), part_set_node _ _ _ _ hqa (besideQ_of hqa)] at n5
      clear d5 d0 d1 d2 dk
      go_wp2_with fail
      go_region
      go_wp2_with fail
      go_region
      go_wp2
      refine ⟨⟨q + 1, by go_num, by omega, n5.out, ((h0.out.drew.other _ _ (by omega)).drew.other _ _ (by omega)), ((h1.out.drew.other _ _ (by omega)).drew.other _ _ (by omega)), ((h2.out.drew.other _ _ (by omega)).drew.other _ _ (by omega)), ((hk.out.drew.setCell (Or.inr (by simp; omega)) _).drew.setCell (Or.inr (by simp; omega)) _)⟩, ?_⟩
      simp only [intOf]; omega
    · have hqe : q = b.count := by omega
      subst hqe
      clear d5 d0 d1 d2 dk
      go_wp2_with (first | (refine wpList_load_part rfl (.tmp 5) rfl (w.heap.size + 1 + 1 + 1) rfl _ h5.out ?_) | (refine wpList_store_part rfl (.tmp 4) (.tmp 54) rfl (w.heap.size + 1 + 1) rfl {} _ rfl h2.out ?_; intro w6 hb6 hk6 hs6))
      exact bodyPost_ret (v := .agg (gpCells (besideQ a b b.count))) (results_part Try.results151 _ _ _ _ rfl hb6) rfl ⟨rfl, hk.out.into hk6 (by omega)⟩

end Go.Proofs.Ytgifhgnccmnbiaa

set_option linter.unusedVariables false
set_option linter.unusedSimpArgs false
namespace Go.Proofs.Ytgifhgnccmnbiaa
open Go.RowKit Go.IntWalk

theorem both_case {a b : GP} {ea eb : Bool} (ha : a.empty = ea) (hb : b.empty = eb) :
    bothP a b = linkedP { besideP a b with empty := ea && eb, first := cond ea (a.first ||| b.first <<< a.count) a.first, last := cond eb (b.last <<< a.count ||| a.last) (b.last <<< a.count) } a.last (b.first <<< a.count) := by
  unfold bothP
  rw [ha, hb]
  rcases ea with _ | _ <;> rcases eb with _ | _ <;> rfl

/-- Two parts in blocks of their own, and room for the result. -/
structure TwoIn (w0 w : World) (a b : GP) : Prop where
  b0 : Blk w w0.heap.size (gpCells a) 113
  b1 : Blk w (w0.heap.size + 1) (gpCells b) 113
  b2 : Blk w (w0.heap.size + 1 + 1) (gpCells {}) 113
  k : Kept [] w0 w
theorem TwoIn.start (w : World) (a b : GP) : TwoIn w (((w.alloc (.cells (gpCells a) 113)).alloc (.cells (gpCells b) 113)).alloc (.cells (gpCells {}) 113)) a b :=
  ⟨((Blk.new w _ _).alloc _).alloc _, (Blk.new1 w _ _ _).alloc _, Blk.new2 w _ _ _ _, (((Kept.refl _ _).alloc _).alloc _).alloc _⟩
theorem TwoIn.kept {w0 w w' : World} {a b : GP} (h : TwoIn w0 w a b) (k : Kept [] w w') : TwoIn w0 w' a b :=
  ⟨h.b0.kept k (by simp), h.b1.kept k (by simp), h.b2.kept k (by simp), h.k.trans k⟩
theorem TwoIn.into {w0 w w' : World} {a b : GP} {g : Nat} (h : TwoIn w0 w a b) (k : Kept [g] w w') (hg : w0.heap.size + 1 + 1 < g) : TwoIn w0 w' a b :=
  ⟨h.b0.kept k (by simp; omega), h.b1.kept k (by simp; omega), h.b2.kept k (by simp; omega), h.k.into k (by omega)⟩

section
variable {w : World} {g : Nat} {p : GP} {t : TypeId}
theorem Blk.setE (h : Blk w g (gpCells p) t) (e : Bool) : Blk (w.setCell ⟨g, 1, none⟩ (.bool e)) g (gpCells { p with empty := e }) t := by
  have := h.set 1 (.bool e); rwa [part_set_empty] at this
theorem Blk.setF (h : Blk w g (gpCells p) t) (s : B64) : Blk (w.setCell ⟨g, 2, none⟩ (UV s)) g (gpCells { p with first := s }) t := by
  have := h.set 2 (UV s); rwa [part_set_first] at this
theorem Blk.setL (h : Blk w g (gpCells p) t) (s : B64) : Blk (w.setCell ⟨g, 3, none⟩ (UV s)) g (gpCells { p with last := s }) t := by
  have := h.set 3 (UV s); rwa [part_set_last] at this
theorem Blk.part0 (h : Blk w g (gpCells p) t) : w.cell? ⟨g, 0, none⟩ = some (.int .i64 (p.count : Int)) := by rw [h.cell, part_c0]
theorem Blk.part1 (h : Blk w g (gpCells p) t) : w.cell? ⟨g, 1, none⟩ = some (.bool p.empty) := by rw [h.cell, part_c1]
theorem Blk.part2 (h : Blk w g (gpCells p) t) : w.cell? ⟨g, 2, none⟩ = some (UV p.first) := by rw [h.cell, part_c2]
theorem Blk.part3 (h : Blk w g (gpCells p) t) : w.cell? ⟨g, 3, none⟩ = some (UV p.last) := by rw [h.cell, part_c3]
end

set_option maxHeartbeats 2000000 in
set_option maxRecDepth 100000 in
theorem both_any (a b : GP) (hr : a.count + b.count ≤ 60) (w : World) :
    PartCall 132 #[.agg (gpCells a), .agg (gpCells b)] w (bothP a b) := by
  unfold PartCall
  have hz := zeroV_part
  have h0 := TwoIn.start w a b
  have hbes : Hid (∀ w, PartCall 151 #[.agg (gpCells a), .agg (gpCells b)] w (besideP a b)) := fun w => beside_any a b hr w
  obtain ⟨ea, ha⟩ : ∃ e, a.empty = e := ⟨_, rfl⟩
  obtain ⟨eb, hb⟩ : ∃ e, b.empty = e := ⟨_, rfl⟩
  rw [both_case ha hb]
  have hlk : Hid (∀ w, PartCall 152 #[.agg (gpCells { besideP a b with empty := ea && eb, first := cond ea (a.first ||| b.first <<< a.count) a.first, last := cond eb (b.last <<< a.count ||| a.last) (b.last <<< a.count) }), UV a.last, UV (b.first <<< a.count)] w _) := fun w => linked_any _ _ _ w
  have hsh := shl_u b.first a.count
  have hsh2 := shl_u b.last a.count
  have hor1 := or_u a.first (b.first <<< a.count)
  have hor2 := or_u (b.last <<< a.count) a.last
  have hca : a.count ≤ 60 := by omega
  generalize b.first <<< a.count = F at *
  generalize b.last <<< a.count = L at *
  cases ea <;> cases eb
  · simp only [cond_true, cond_false, Bool.and_true, Bool.and_false, Bool.true_and, Bool.false_and] at hlk ⊢
    generalize linkedP _ a.last F = P at hlk ⊢
    go_enter Try.func132, Try.ntmps132
    go_wp2_with (first
      | (with_reducible refine wpList_load_part ?_ (.tmp 2) ?_ w.heap.size ?_ a ?_ ?_
         · rfl
         · rfl
         · rfl
         · exact h0.b0)
      | (with_reducible refine wpList_load_part ?_ (.tmp 3) ?_ (w.heap.size + 1) ?_ b ?_ ?_
         · rfl
         · rfl
         · rfl
         · exact h0.b1)
      | (go_at_call 151
         refine (hbes.out _).mono ?_
         rintro e w1 ⟨rfl, k1⟩
         have h1 := h0.kept k1)
      | (with_reducible refine wpList_store_part ?_ (.tmp 5) (.tmp 9) ?_ w1.heap.size ?_ {} (besideP a b) ?_ ?_ ?_
         · rfl
         · rfl
         · rfl
         · rfl
         · exact Blk.new w1 (gpCells {}) 113
         intro w5 hb5 hk5 hs5
         have hg1 := h1.b2.lt
         have h5 := (h1.kept ((Kept.refl [] w1).alloc (.cells (gpCells {}) 113))).into hk5 hg1
         have c00 := h5.b0.part0
         have c01 := h5.b0.part1
         have c02 := h5.b0.part2
         have c03 := h5.b0.part3
         have c11 := h5.b1.part1
         have c12 := h5.b1.part2
         have c13 := h5.b1.part3
         rw [ha] at c01
         rw [hb] at c11
         have d1 := hb5.part1
         have d2 := hb5.part2
         have d3 := hb5.part3
         have f1 := hb5.frozen 1
         have f2 := hb5.frozen 2
         have f3 := hb5.frozen 3
         have hW : Hid (Blk _ _ _ _) := (((hb5.setE false).setF a.first).setL L)
         have hO : Hid (Blk _ _ _ _) := (((h5.b2.other (b' := w1.heap.size) 1 (.bool false) (by omega)).other (b' := w1.heap.size) 2 (UV a.first) (by omega)).other (b' := w1.heap.size) 3 (UV L) (by omega))
         have hK : Hid (Kept _ _ _) := (((h5.k.setCell (p := ⟨w1.heap.size, 1, none⟩) (Or.inr (by simp; omega)) (.bool false)).setCell (p := ⟨w1.heap.size, 2, none⟩) (Or.inr (by simp; omega)) (UV a.first)).setCell (p := ⟨w1.heap.size, 3, none⟩) (Or.inr (by simp; omega)) (UV L))
         clear hb5 hk5 h1 hz)
      | (with_reducible refine wpList_load_part ?_ (.tmp 5) ?_ w1.heap.size ?_ { besideP a b with empty := false, first := a.first, last := L } ?_ ?_
         · rfl
         · rfl
         · rfl
         · exact hW.out)
      | (go_at_call 152
         refine (hlk.out _).mono ?_
         rintro e w7 ⟨rfl, k7⟩
         have hO7 := hO.out.kept k7 (by simp)
         have hK7 := hK.out.trans k7)
      | (with_reducible refine wpList_store_part ?_ (.tmp 4) (.tmp 52) ?_ (w.heap.size + 1 + 1) ?_ {} P ?_ ?_ ?_
         · rfl
         · rfl
         · rfl
         · rfl
         · exact hO7
         intro w8 hb8 hk8 hs8))
    exact bodyPost_ret (v := .agg (gpCells P)) (results_part Try.results132 _ _ _ P rfl hb8) rfl ⟨rfl, hK7.into hk8 (by omega)⟩
  · simp only [cond_true, cond_false, Bool.and_true, Bool.and_false, Bool.true_and, Bool.false_and] at hlk ⊢
    generalize linkedP _ a.last F = P at hlk ⊢
    go_enter Try.func132, Try.ntmps132
    go_wp2_with (first
      | (with_reducible refine wpList_load_part ?_ (.tmp 2) ?_ w.heap.size ?_ a ?_ ?_
         · rfl
         · rfl
         · rfl
         · exact h0.b0)
      | (with_reducible refine wpList_load_part ?_ (.tmp 3) ?_ (w.heap.size + 1) ?_ b ?_ ?_
         · rfl
         · rfl
         · rfl
         · exact h0.b1)
      | (go_at_call 151
         refine (hbes.out _).mono ?_
         rintro e w1 ⟨rfl, k1⟩
         have h1 := h0.kept k1)
      | (with_reducible refine wpList_store_part ?_ (.tmp 5) (.tmp 9) ?_ w1.heap.size ?_ {} (besideP a b) ?_ ?_ ?_
         · rfl
         · rfl
         · rfl
         · rfl
         · exact Blk.new w1 (gpCells {}) 113
         intro w5 hb5 hk5 hs5
         have hg1 := h1.b2.lt
         have h5 := (h1.kept ((Kept.refl [] w1).alloc (.cells (gpCells {}) 113))).into hk5 hg1
         have c00 := h5.b0.part0
         have c01 := h5.b0.part1
         have c02 := h5.b0.part2
         have c03 := h5.b0.part3
         have c11 := h5.b1.part1
         have c12 := h5.b1.part2
         have c13 := h5.b1.part3
         rw [ha] at c01
         rw [hb] at c11
         have d1 := hb5.part1
         have d2 := hb5.part2
         have d3 := hb5.part3
         have f1 := hb5.frozen 1
         have f2 := hb5.frozen 2
         have f3 := hb5.frozen 3
         have hW : Hid (Blk _ _ _ _) := ((((hb5.setE false).setF a.first).setL L).setL (L ||| a.last))
         have hO : Hid (Blk _ _ _ _) := ((((h5.b2.other (b' := w1.heap.size) 1 (.bool false) (by omega)).other (b' := w1.heap.size) 2 (UV a.first) (by omega)).other (b' := w1.heap.size) 3 (UV L) (by omega)).other (b' := w1.heap.size) 3 (UV (L ||| a.last)) (by omega))
         have hK : Hid (Kept _ _ _) := ((((h5.k.setCell (p := ⟨w1.heap.size, 1, none⟩) (Or.inr (by simp; omega)) (.bool false)).setCell (p := ⟨w1.heap.size, 2, none⟩) (Or.inr (by simp; omega)) (UV a.first)).setCell (p := ⟨w1.heap.size, 3, none⟩) (Or.inr (by simp; omega)) (UV L)).setCell (p := ⟨w1.heap.size, 3, none⟩) (Or.inr (by simp; omega)) (UV (L ||| a.last)))
         clear hb5 hk5 h1 hz)
      | (with_reducible refine wpList_load_part ?_ (.tmp 5) ?_ w1.heap.size ?_ { besideP a b with empty := false, first := a.first, last := (L ||| a.last) } ?_ ?_
         · rfl
         · rfl
         · rfl
         · exact hW.out)
      | (go_at_call 152
         refine (hlk.out _).mono ?_
         rintro e w7 ⟨rfl, k7⟩
         have hO7 := hO.out.kept k7 (by simp)
         have hK7 := hK.out.trans k7)
      | (with_reducible refine wpList_store_part ?_ (.tmp 4) (.tmp 52) ?_ (w.heap.size + 1 + 1) ?_ {} P ?_ ?_ ?_
         · rfl
         · rfl
         · rfl
         · rfl
         · exact hO7
         intro w8 hb8 hk8 hs8))
    exact bodyPost_ret (v := .agg (gpCells P)) (results_part Try.results132 _ _ _ P rfl hb8) rfl ⟨rfl, hK7.into hk8 (by omega)⟩
  · simp only [cond_true, cond_false, Bool.and_true, Bool.and_false, Bool.true_and, Bool.false_and] at hlk ⊢
    generalize linkedP _ a.last F = P at hlk ⊢
    go_enter Try.func132, Try.ntmps132
    go_wp2_with (first
      | (with_reducible refine wpList_load_part ?_ (.tmp 2) ?_ w.heap.size ?_ a ?_ ?_
         · rfl
         · rfl
         · rfl
         · exact h0.b0)
      | (with_reducible refine wpList_load_part ?_ (.tmp 3) ?_ (w.heap.size + 1) ?_ b ?_ ?_
         · rfl
         · rfl
         · rfl
         · exact h0.b1)
      | (go_at_call 151
         refine (hbes.out _).mono ?_
         rintro e w1 ⟨rfl, k1⟩
         have h1 := h0.kept k1)
      | (with_reducible refine wpList_store_part ?_ (.tmp 5) (.tmp 9) ?_ w1.heap.size ?_ {} (besideP a b) ?_ ?_ ?_
         · rfl
         · rfl
         · rfl
         · rfl
         · exact Blk.new w1 (gpCells {}) 113
         intro w5 hb5 hk5 hs5
         have hg1 := h1.b2.lt
         have h5 := (h1.kept ((Kept.refl [] w1).alloc (.cells (gpCells {}) 113))).into hk5 hg1
         have c00 := h5.b0.part0
         have c01 := h5.b0.part1
         have c02 := h5.b0.part2
         have c03 := h5.b0.part3
         have c11 := h5.b1.part1
         have c12 := h5.b1.part2
         have c13 := h5.b1.part3
         rw [ha] at c01
         rw [hb] at c11
         have d1 := hb5.part1
         have d2 := hb5.part2
         have d3 := hb5.part3
         have f1 := hb5.frozen 1
         have f2 := hb5.frozen 2
         have f3 := hb5.frozen 3
         have hW : Hid (Blk _ _ _ _) := ((((hb5.setE false).setF a.first).setF (a.first ||| F)).setL L)
         have hO : Hid (Blk _ _ _ _) := ((((h5.b2.other (b' := w1.heap.size) 1 (.bool false) (by omega)).other (b' := w1.heap.size) 2 (UV a.first) (by omega)).other (b' := w1.heap.size) 2 (UV (a.first ||| F)) (by omega)).other (b' := w1.heap.size) 3 (UV L) (by omega))
         have hK : Hid (Kept _ _ _) := ((((h5.k.setCell (p := ⟨w1.heap.size, 1, none⟩) (Or.inr (by simp; omega)) (.bool false)).setCell (p := ⟨w1.heap.size, 2, none⟩) (Or.inr (by simp; omega)) (UV a.first)).setCell (p := ⟨w1.heap.size, 2, none⟩) (Or.inr (by simp; omega)) (UV (a.first ||| F))).setCell (p := ⟨w1.heap.size, 3, none⟩) (Or.inr (by simp; omega)) (UV L))
         clear hb5 hk5 h1 hz)
      | (with_reducible refine wpList_load_part ?_ (.tmp 5) ?_ w1.heap.size ?_ { besideP a b with empty := false, first := (a.first ||| F), last := L } ?_ ?_
         · rfl
         · rfl
         · rfl
         · exact hW.out)
      | (go_at_call 152
         refine (hlk.out _).mono ?_
         rintro e w7 ⟨rfl, k7⟩
         have hO7 := hO.out.kept k7 (by simp)
         have hK7 := hK.out.trans k7)
      | (with_reducible refine wpList_store_part ?_ (.tmp 4) (.tmp 52) ?_ (w.heap.size + 1 + 1) ?_ {} P ?_ ?_ ?_
         · rfl
         · rfl
         · rfl
         · rfl
         · exact hO7
         intro w8 hb8 hk8 hs8))
    exact bodyPost_ret (v := .agg (gpCells P)) (results_part Try.results132 _ _ _ P rfl hb8) rfl ⟨rfl, hK7.into hk8 (by omega)⟩
  · simp only [cond_true, cond_false, Bool.and_true, Bool.and_false, Bool.true_and, Bool.false_and] at hlk ⊢
    generalize linkedP _ a.last F = P at hlk ⊢
    go_enter Try.func132, Try.ntmps132
    go_wp2_with (first
      | (with_reducible refine wpList_load_part ?_ (.tmp 2) ?_ w.heap.size ?_ a ?_ ?_
         · rfl
         · rfl
         · rfl
         · exact h0.b0)
      | (with_reducible refine wpList_load_part ?_ (.tmp 3) ?_ (w.heap.size + 1) ?_ b ?_ ?_
         · rfl
         · rfl
         · rfl
         · exact h0.b1)
      | (go_at_call 151
         refine (hbes.out _).mono ?_
         rintro e w1 ⟨rfl, k1⟩
         have h1 := h0.kept k1)
      | (with_reducible refine wpList_store_part ?_ (.tmp 5) (.tmp 9) ?_ w1.heap.size ?_ {} (besideP a b) ?_ ?_ ?_
         · rfl
         · rfl
         · rfl
         · rfl
         · exact Blk.new w1 (gpCells {}) 113
         intro w5 hb5 hk5 hs5
         have hg1 := h1.b2.lt
         have h5 := (h1.kept ((Kept.refl [] w1).alloc (.cells (gpCells {}) 113))).into hk5 hg1
         have c00 := h5.b0.part0
         have c01 := h5.b0.part1
         have c02 := h5.b0.part2
         have c03 := h5.b0.part3
         have c11 := h5.b1.part1
         have c12 := h5.b1.part2
         have c13 := h5.b1.part3
         rw [ha] at c01
         rw [hb] at c11
         have d1 := hb5.part1
         have d2 := hb5.part2
         have d3 := hb5.part3
         have f1 := hb5.frozen 1
         have f2 := hb5.frozen 2
         have f3 := hb5.frozen 3
         have hW : Hid (Blk _ _ _ _) := (((((hb5.setE true).setF a.first).setF (a.first ||| F)).setL L).setL (L ||| a.last))
         have hO : Hid (Blk _ _ _ _) := (((((h5.b2.other (b' := w1.heap.size) 1 (.bool true) (by omega)).other (b' := w1.heap.size) 2 (UV a.first) (by omega)).other (b' := w1.heap.size) 2 (UV (a.first ||| F)) (by omega)).other (b' := w1.heap.size) 3 (UV L) (by omega)).other (b' := w1.heap.size) 3 (UV (L ||| a.last)) (by omega))
         have hK : Hid (Kept _ _ _) := (((((h5.k.setCell (p := ⟨w1.heap.size, 1, none⟩) (Or.inr (by simp; omega)) (.bool true)).setCell (p := ⟨w1.heap.size, 2, none⟩) (Or.inr (by simp; omega)) (UV a.first)).setCell (p := ⟨w1.heap.size, 2, none⟩) (Or.inr (by simp; omega)) (UV (a.first ||| F))).setCell (p := ⟨w1.heap.size, 3, none⟩) (Or.inr (by simp; omega)) (UV L)).setCell (p := ⟨w1.heap.size, 3, none⟩) (Or.inr (by simp; omega)) (UV (L ||| a.last)))
         clear hb5 hk5 h1 hz)
      | (with_reducible refine wpList_load_part ?_ (.tmp 5) ?_ w1.heap.size ?_ { besideP a b with empty := true, first := (a.first ||| F), last := (L ||| a.last) } ?_ ?_
         · rfl
         · rfl
         · rfl
         · exact hW.out)
      | (go_at_call 152
         refine (hlk.out _).mono ?_
         rintro e w7 ⟨rfl, k7⟩
         have hO7 := hO.out.kept k7 (by simp)
         have hK7 := hK.out.trans k7)
      | (with_reducible refine wpList_store_part ?_ (.tmp 4) (.tmp 52) ?_ (w.heap.size + 1 + 1) ?_ {} P ?_ ?_ ?_
         · rfl
         · rfl
         · rfl
         · rfl
         · exact hO7
         intro w8 hb8 hk8 hs8))
    exact bodyPost_ret (v := .agg (gpCells P)) (results_part Try.results132 _ _ _ P rfl hb8) rfl ⟨rfl, hK7.into hk8 (by omega)⟩

end Go.Proofs.Ytgifhgnccmnbiaa

set_option linter.unusedVariables false
set_option linter.unusedSimpArgs false
namespace Go.Proofs.Ytgifhgnccmnbiaa
open Go.RowKit Go.IntWalk

theorem either_case {a b : GP} {ea eb : Bool} (ha : a.empty = ea) (hb : b.empty = eb) :
    eitherP a b = { besideP a b with empty := ea || eb, first := a.first ||| b.first <<< a.count, last := a.last ||| b.last <<< a.count } := by
  unfold eitherP
  rw [ha, hb]

set_option maxHeartbeats 2000000 in
set_option maxRecDepth 100000 in
theorem meither_any (a b : GP) (hr : a.count + b.count ≤ 60) (w : World) :
    PartCall 133 #[.agg (gpCells a), .agg (gpCells b)] w (eitherP a b) := by
  unfold PartCall
  have hz := zeroV_part
  have h0 := TwoIn.start w a b
  have hbes : Hid (∀ w, PartCall 151 #[.agg (gpCells a), .agg (gpCells b)] w (besideP a b)) := fun w => beside_any a b hr w
  obtain ⟨ea, ha⟩ : ∃ e, a.empty = e := ⟨_, rfl⟩
  obtain ⟨eb, hb⟩ : ∃ e, b.empty = e := ⟨_, rfl⟩
  rw [either_case ha hb]
  have hsh := shl_u b.first a.count
  have hsh2 := shl_u b.last a.count
  have hor1 := or_u a.first (b.first <<< a.count)
  have hor2 := or_u a.last (b.last <<< a.count)
  have hca : a.count ≤ 60 := by omega
  generalize b.first <<< a.count = F at *
  generalize b.last <<< a.count = L at *
  cases ea <;> cases eb
  · simp only [Bool.or_true, Bool.or_false, Bool.true_or, Bool.false_or]
    go_enter Try.func133, Try.ntmps133
    go_wp2_with (first
      | (with_reducible refine wpList_load_part ?_ (.tmp 2) ?_ w.heap.size ?_ a ?_ ?_
         · rfl
         · rfl
         · rfl
         · exact h0.b0)
      | (with_reducible refine wpList_load_part ?_ (.tmp 3) ?_ (w.heap.size + 1) ?_ b ?_ ?_
         · rfl
         · rfl
         · rfl
         · exact h0.b1)
      | (go_at_call 151
         refine (hbes.out _).mono ?_
         rintro e w1 ⟨rfl, k1⟩
         have h1 := h0.kept k1)
      | (with_reducible refine wpList_store_part ?_ (.tmp 5) (.tmp 8) ?_ w1.heap.size ?_ {} (besideP a b) ?_ ?_ ?_
         · rfl
         · rfl
         · rfl
         · rfl
         · exact Blk.new w1 (gpCells {}) 113
         intro w5 hb5 hk5 hs5
         have hg1 := h1.b2.lt
         have h5 := (h1.kept ((Kept.refl [] w1).alloc (.cells (gpCells {}) 113))).into hk5 hg1
         have c00 := h5.b0.part0
         have c01 := h5.b0.part1
         have c02 := h5.b0.part2
         have c03 := h5.b0.part3
         have c11 := h5.b1.part1
         have c12 := h5.b1.part2
         have c13 := h5.b1.part3
         rw [ha] at c01
         rw [hb] at c11
         have d1 := hb5.part1
         have d2 := hb5.part2
         have d3 := hb5.part3
         have f1 := hb5.frozen 1
         have f2 := hb5.frozen 2
         have f3 := hb5.frozen 3
         have hW : Hid (Blk _ _ _ _) := (((hb5.setE false).setF (a.first ||| F)).setL (a.last ||| L))
         have hO : Hid (Blk _ _ _ _) := (((h5.b2.other (b' := w1.heap.size) 1 (.bool false) (by omega)).other (b' := w1.heap.size) 2 (UV (a.first ||| F)) (by omega)).other (b' := w1.heap.size) 3 (UV (a.last ||| L)) (by omega))
         have hK : Hid (Kept _ _ _) := (((h5.k.setCell (p := ⟨w1.heap.size, 1, none⟩) (Or.inr (by simp; omega)) (.bool false)).setCell (p := ⟨w1.heap.size, 2, none⟩) (Or.inr (by simp; omega)) (UV (a.first ||| F))).setCell (p := ⟨w1.heap.size, 3, none⟩) (Or.inr (by simp; omega)) (UV (a.last ||| L)))
         clear hb5 hk5 h1 hz)
      | (with_reducible refine wpList_load_part ?_ (.tmp 5) ?_ w1.heap.size ?_ { besideP a b with empty := false, first := (a.first ||| F), last := (a.last ||| L) } ?_ ?_
         · rfl
         · rfl
         · rfl
         · exact hW.out)
      | (with_reducible refine wpList_store_part ?_ (.tmp 4) (.tmp 36) ?_ (w.heap.size + 1 + 1) ?_ {} { besideP a b with empty := false, first := (a.first ||| F), last := (a.last ||| L) } ?_ ?_ ?_
         · rfl
         · rfl
         · rfl
         · rfl
         · exact hO.out
         intro w8 hb8 hk8 hs8))
    exact bodyPost_ret (v := .agg (gpCells { besideP a b with empty := false, first := (a.first ||| F), last := (a.last ||| L) })) (results_part Try.results133 _ _ _ { besideP a b with empty := false, first := (a.first ||| F), last := (a.last ||| L) } rfl hb8) rfl ⟨rfl, hK.out.into hk8 (by omega)⟩
  · simp only [Bool.or_true, Bool.or_false, Bool.true_or, Bool.false_or]
    go_enter Try.func133, Try.ntmps133
    go_wp2_with (first
      | (with_reducible refine wpList_load_part ?_ (.tmp 2) ?_ w.heap.size ?_ a ?_ ?_
         · rfl
         · rfl
         · rfl
         · exact h0.b0)
      | (with_reducible refine wpList_load_part ?_ (.tmp 3) ?_ (w.heap.size + 1) ?_ b ?_ ?_
         · rfl
         · rfl
         · rfl
         · exact h0.b1)
      | (go_at_call 151
         refine (hbes.out _).mono ?_
         rintro e w1 ⟨rfl, k1⟩
         have h1 := h0.kept k1)
      | (with_reducible refine wpList_store_part ?_ (.tmp 5) (.tmp 8) ?_ w1.heap.size ?_ {} (besideP a b) ?_ ?_ ?_
         · rfl
         · rfl
         · rfl
         · rfl
         · exact Blk.new w1 (gpCells {}) 113
         intro w5 hb5 hk5 hs5
         have hg1 := h1.b2.lt
         have h5 := (h1.kept ((Kept.refl [] w1).alloc (.cells (gpCells {}) 113))).into hk5 hg1
         have c00 := h5.b0.part0
         have c01 := h5.b0.part1
         have c02 := h5.b0.part2
         have c03 := h5.b0.part3
         have c11 := h5.b1.part1
         have c12 := h5.b1.part2
         have c13 := h5.b1.part3
         rw [ha] at c01
         rw [hb] at c11
         have d1 := hb5.part1
         have d2 := hb5.part2
         have d3 := hb5.part3
         have f1 := hb5.frozen 1
         have f2 := hb5.frozen 2
         have f3 := hb5.frozen 3
         have hW : Hid (Blk _ _ _ _) := (((hb5.setE true).setF (a.first ||| F)).setL (a.last ||| L))
         have hO : Hid (Blk _ _ _ _) := (((h5.b2.other (b' := w1.heap.size) 1 (.bool true) (by omega)).other (b' := w1.heap.size) 2 (UV (a.first ||| F)) (by omega)).other (b' := w1.heap.size) 3 (UV (a.last ||| L)) (by omega))
         have hK : Hid (Kept _ _ _) := (((h5.k.setCell (p := ⟨w1.heap.size, 1, none⟩) (Or.inr (by simp; omega)) (.bool true)).setCell (p := ⟨w1.heap.size, 2, none⟩) (Or.inr (by simp; omega)) (UV (a.first ||| F))).setCell (p := ⟨w1.heap.size, 3, none⟩) (Or.inr (by simp; omega)) (UV (a.last ||| L)))
         clear hb5 hk5 h1 hz)
      | (with_reducible refine wpList_load_part ?_ (.tmp 5) ?_ w1.heap.size ?_ { besideP a b with empty := true, first := (a.first ||| F), last := (a.last ||| L) } ?_ ?_
         · rfl
         · rfl
         · rfl
         · exact hW.out)
      | (with_reducible refine wpList_store_part ?_ (.tmp 4) (.tmp 36) ?_ (w.heap.size + 1 + 1) ?_ {} { besideP a b with empty := true, first := (a.first ||| F), last := (a.last ||| L) } ?_ ?_ ?_
         · rfl
         · rfl
         · rfl
         · rfl
         · exact hO.out
         intro w8 hb8 hk8 hs8))
    exact bodyPost_ret (v := .agg (gpCells { besideP a b with empty := true, first := (a.first ||| F), last := (a.last ||| L) })) (results_part Try.results133 _ _ _ { besideP a b with empty := true, first := (a.first ||| F), last := (a.last ||| L) } rfl hb8) rfl ⟨rfl, hK.out.into hk8 (by omega)⟩
  · simp only [Bool.or_true, Bool.or_false, Bool.true_or, Bool.false_or]
    go_enter Try.func133, Try.ntmps133
    go_wp2_with (first
      | (with_reducible refine wpList_load_part ?_ (.tmp 2) ?_ w.heap.size ?_ a ?_ ?_
         · rfl
         · rfl
         · rfl
         · exact h0.b0)
      | (with_reducible refine wpList_load_part ?_ (.tmp 3) ?_ (w.heap.size + 1) ?_ b ?_ ?_
         · rfl
         · rfl
         · rfl
         · exact h0.b1)
      | (go_at_call 151
         refine (hbes.out _).mono ?_
         rintro e w1 ⟨rfl, k1⟩
         have h1 := h0.kept k1)
      | (with_reducible refine wpList_store_part ?_ (.tmp 5) (.tmp 8) ?_ w1.heap.size ?_ {} (besideP a b) ?_ ?_ ?_
         · rfl
         · rfl
         · rfl
         · rfl
         · exact Blk.new w1 (gpCells {}) 113
         intro w5 hb5 hk5 hs5
         have hg1 := h1.b2.lt
         have h5 := (h1.kept ((Kept.refl [] w1).alloc (.cells (gpCells {}) 113))).into hk5 hg1
         have c00 := h5.b0.part0
         have c01 := h5.b0.part1
         have c02 := h5.b0.part2
         have c03 := h5.b0.part3
         have c11 := h5.b1.part1
         have c12 := h5.b1.part2
         have c13 := h5.b1.part3
         rw [ha] at c01
         rw [hb] at c11
         have d1 := hb5.part1
         have d2 := hb5.part2
         have d3 := hb5.part3
         have f1 := hb5.frozen 1
         have f2 := hb5.frozen 2
         have f3 := hb5.frozen 3
         have hW : Hid (Blk _ _ _ _) := (((hb5.setE true).setF (a.first ||| F)).setL (a.last ||| L))
         have hO : Hid (Blk _ _ _ _) := (((h5.b2.other (b' := w1.heap.size) 1 (.bool true) (by omega)).other (b' := w1.heap.size) 2 (UV (a.first ||| F)) (by omega)).other (b' := w1.heap.size) 3 (UV (a.last ||| L)) (by omega))
         have hK : Hid (Kept _ _ _) := (((h5.k.setCell (p := ⟨w1.heap.size, 1, none⟩) (Or.inr (by simp; omega)) (.bool true)).setCell (p := ⟨w1.heap.size, 2, none⟩) (Or.inr (by simp; omega)) (UV (a.first ||| F))).setCell (p := ⟨w1.heap.size, 3, none⟩) (Or.inr (by simp; omega)) (UV (a.last ||| L)))
         clear hb5 hk5 h1 hz)
      | (with_reducible refine wpList_load_part ?_ (.tmp 5) ?_ w1.heap.size ?_ { besideP a b with empty := true, first := (a.first ||| F), last := (a.last ||| L) } ?_ ?_
         · rfl
         · rfl
         · rfl
         · exact hW.out)
      | (with_reducible refine wpList_store_part ?_ (.tmp 4) (.tmp 36) ?_ (w.heap.size + 1 + 1) ?_ {} { besideP a b with empty := true, first := (a.first ||| F), last := (a.last ||| L) } ?_ ?_ ?_
         · rfl
         · rfl
         · rfl
         · rfl
         · exact hO.out
         intro w8 hb8 hk8 hs8))
    exact bodyPost_ret (v := .agg (gpCells { besideP a b with empty := true, first := (a.first ||| F), last := (a.last ||| L) })) (results_part Try.results133 _ _ _ { besideP a b with empty := true, first := (a.first ||| F), last := (a.last ||| L) } rfl hb8) rfl ⟨rfl, hK.out.into hk8 (by omega)⟩
  · simp only [Bool.or_true, Bool.or_false, Bool.true_or, Bool.false_or]
    go_enter Try.func133, Try.ntmps133
    go_wp2_with (first
      | (with_reducible refine wpList_load_part ?_ (.tmp 2) ?_ w.heap.size ?_ a ?_ ?_
         · rfl
         · rfl
         · rfl
         · exact h0.b0)
      | (with_reducible refine wpList_load_part ?_ (.tmp 3) ?_ (w.heap.size + 1) ?_ b ?_ ?_
         · rfl
         · rfl
         · rfl
         · exact h0.b1)
      | (go_at_call 151
         refine (hbes.out _).mono ?_
         rintro e w1 ⟨rfl, k1⟩
         have h1 := h0.kept k1)
      | (with_reducible refine wpList_store_part ?_ (.tmp 5) (.tmp 8) ?_ w1.heap.size ?_ {} (besideP a b) ?_ ?_ ?_
         · rfl
         · rfl
         · rfl
         · rfl
         · exact Blk.new w1 (gpCells {}) 113
         intro w5 hb5 hk5 hs5
         have hg1 := h1.b2.lt
         have h5 := (h1.kept ((Kept.refl [] w1).alloc (.cells (gpCells {}) 113))).into hk5 hg1
         have c00 := h5.b0.part0
         have c01 := h5.b0.part1
         have c02 := h5.b0.part2
         have c03 := h5.b0.part3
         have c11 := h5.b1.part1
         have c12 := h5.b1.part2
         have c13 := h5.b1.part3
         rw [ha] at c01
         rw [hb] at c11
         have d1 := hb5.part1
         have d2 := hb5.part2
         have d3 := hb5.part3
         have f1 := hb5.frozen 1
         have f2 := hb5.frozen 2
         have f3 := hb5.frozen 3
         have hW : Hid (Blk _ _ _ _) := (((hb5.setE true).setF (a.first ||| F)).setL (a.last ||| L))
         have hO : Hid (Blk _ _ _ _) := (((h5.b2.other (b' := w1.heap.size) 1 (.bool true) (by omega)).other (b' := w1.heap.size) 2 (UV (a.first ||| F)) (by omega)).other (b' := w1.heap.size) 3 (UV (a.last ||| L)) (by omega))
         have hK : Hid (Kept _ _ _) := (((h5.k.setCell (p := ⟨w1.heap.size, 1, none⟩) (Or.inr (by simp; omega)) (.bool true)).setCell (p := ⟨w1.heap.size, 2, none⟩) (Or.inr (by simp; omega)) (UV (a.first ||| F))).setCell (p := ⟨w1.heap.size, 3, none⟩) (Or.inr (by simp; omega)) (UV (a.last ||| L)))
         clear hb5 hk5 h1 hz)
      | (with_reducible refine wpList_load_part ?_ (.tmp 5) ?_ w1.heap.size ?_ { besideP a b with empty := true, first := (a.first ||| F), last := (a.last ||| L) } ?_ ?_
         · rfl
         · rfl
         · rfl
         · exact hW.out)
      | (with_reducible refine wpList_store_part ?_ (.tmp 4) (.tmp 36) ?_ (w.heap.size + 1 + 1) ?_ {} { besideP a b with empty := true, first := (a.first ||| F), last := (a.last ||| L) } ?_ ?_ ?_
         · rfl
         · rfl
         · rfl
         · rfl
         · exact hO.out
         intro w8 hb8 hk8 hs8))
    exact bodyPost_ret (v := .agg (gpCells { besideP a b with empty := true, first := (a.first ||| F), last := (a.last ||| L) })) (results_part Try.results133 _ _ _ { besideP a b with empty := true, first := (a.first ||| F), last := (a.last ||| L) } rfl hb8) rfl ⟨rfl, hK.out.into hk8 (by omega)⟩

end Go.Proofs.Ytgifhgnccmnbiaa
