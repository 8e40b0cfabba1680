/- The machine: a part of a pattern as it lies in memory: 124 cells in a block; what the program does to such a block as a whole. -/
import Derived.Test.YtjhmkkhnnijigaaBits
import Derived.Laws.Rows
import Derived.Laws.Tables
set_option linter.unusedVariables false
set_option linter.unusedSimpArgs false
namespace Go.Proofs.Ytjhmkkhnnijigaa
open Go.RowKit Go.IntWalk

def pCell (p : GP) (i : Nat) : Value :=
  if i = 0 then .int .i64 (p.count : Int) else if i = 1 then .bool p.empty else if i = 2 then UV p.first else if i = 3 then UV p.last
  else if i < 64 then UV (p.next (i - 4)) else .int .i64 (p.node (i - 64) : Int)
def gpCells (p : GP) : Array Value := cellsF 124 (pCell p)
@[simp] theorem gpCells_size (p : GP) : (gpCells p).size = 124 := cellsF_size _ _
theorem pCell_one (p : GP) (i : Nat) : (pCell p i).oneCell' = true := by
  unfold pCell
  repeat' split
  all_goals rfl
theorem gpCells_one (p : GP) : (gpCells p).all (·.oneCell') = true := cellsF_one fun j _ => pCell_one p j

theorem part_c0 (p : GP) : (gpCells p)[0]? = some (.int .i64 (p.count : Int)) := cellsF_get _ (by decide)
theorem part_c1 (p : GP) : (gpCells p)[1]? = some (.bool p.empty) := cellsF_get _ (by decide)
theorem part_c2 (p : GP) : (gpCells p)[2]? = some (UV p.first) := cellsF_get _ (by decide)
theorem part_c3 (p : GP) : (gpCells p)[3]? = some (UV p.last) := cellsF_get _ (by decide)
theorem part_next (p : GP) (i : Nat) (h : i < 60) : (gpCells p)[4 + i]? = some (UV (p.next i)) := by
  unfold gpCells
  rw [cellsF_get _ (by omega)]
  unfold pCell
  rw [if_neg (by omega), if_neg (by omega), if_neg (by omega), if_neg (by omega), if_pos (by omega), show 4 + i - 4 = i by omega]
theorem part_node (p : GP) (i : Nat) (h : i < 60) : (gpCells p)[64 + i]? = some (.int .i64 (p.node i : Int)) := by
  unfold gpCells
  rw [cellsF_get _ (by omega)]
  unfold pCell
  rw [if_neg (by omega), if_neg (by omega), if_neg (by omega), if_neg (by omega), if_neg (by omega), show 64 + i - 64 = i by omega]

theorem get_of {α : Type} {xs : Array α} {i : Nat} {v : α} (h : xs[i]? = some v) (hi : i < xs.size) : xs[i] = v := by
  rw [Array.getElem?_eq_getElem hi] at h; exact Option.some.inj h
theorem part_g0 (p : GP) (h : 0 < (gpCells p).size) : (gpCells p)[0] = .int .i64 (p.count : Int) := get_of (part_c0 p) h
theorem part_g1 (p : GP) (h : 1 < (gpCells p).size) : (gpCells p)[1] = .bool p.empty := get_of (part_c1 p) h
theorem part_g2 (p : GP) (h : 2 < (gpCells p).size) : (gpCells p)[2] = UV p.first := get_of (part_c2 p) h
theorem part_g3 (p : GP) (h : 3 < (gpCells p).size) : (gpCells p)[3] = UV p.last := get_of (part_c3 p) h

/-- Two parts that lie the same. -/
structure GP.Same (p q : GP) : Prop where
  count : p.count = q.count
  empty : p.empty = q.empty
  first : p.first = q.first
  last : p.last = q.last
  next : ∀ i, i < 60 → p.next i = q.next i
  node : ∀ i, i < 60 → p.node i = q.node i
theorem gpCells_same {p q : GP} (h : p.Same q) : gpCells p = gpCells q := cellsF_congr fun j hj => by
  unfold pCell
  rw [h.count, h.empty, h.first, h.last]
  repeat' split
  all_goals first | rfl | rw [h.next _ (by omega)] | rw [h.node _ (by omega)]

theorem part_set_count (p : GP) (n : Nat) : (gpCells p).setIfInBounds 0 (.int .i64 (n : Int)) = gpCells { p with count := n } := cellsF_set _ _ _ _ fun j hj => by
  unfold pCell; split <;> rfl
theorem part_set_empty (p : GP) (b : Bool) : (gpCells p).setIfInBounds 1 (.bool b) = gpCells { p with empty := b } := cellsF_set _ _ _ _ fun j hj => by
  by_cases h : j = 1
  · subst h; rfl
  · unfold pCell; simp only [if_neg h]
theorem part_set_first (p : GP) (s : B64) : (gpCells p).setIfInBounds 2 (UV s) = gpCells { p with first := s } := cellsF_set _ _ _ _ fun j hj => by
  by_cases h : j = 2
  · subst h; rfl
  · unfold pCell; simp only [if_neg h]
theorem part_set_last (p : GP) (s : B64) : (gpCells p).setIfInBounds 3 (UV s) = gpCells { p with last := s } := cellsF_set _ _ _ _ fun j hj => by
  by_cases h : j = 3
  · subst h; rfl
  · unfold pCell; simp only [if_neg h]
theorem part_set_next (p q : GP) (i : Nat) (s : B64) (hi : i < 60) (hq : q.Same { p with next := fun j => if j = i then s else p.next j }) : (gpCells p).setIfInBounds (4 + i) (UV s) = gpCells q := by
  rw [gpCells_same hq]
  refine cellsF_set _ _ _ _ fun j hj => ?_
  unfold pCell
  simp only []
  by_cases h : j = 4 + i
  · subst h
    rw [if_neg (by omega), if_neg (by omega), if_neg (by omega), if_neg (by omega), if_pos (by omega), if_pos (by omega), if_pos rfl]
  · rw [if_neg h]
    repeat' split
    all_goals first | rfl | omega
theorem part_set_node (p q : GP) (i : Nat) (n : Nat) (hi : i < 60) (hq : q.Same { p with node := fun j => if j = i then n else p.node j }) : (gpCells p).setIfInBounds (64 + i) (.int .i64 (n : Int)) = gpCells q := by
  rw [gpCells_same hq]
  refine cellsF_set _ _ _ _ fun j hj => ?_
  unfold pCell
  simp only []
  by_cases h : j = 64 + i
  · subst h
    rw [if_neg (by omega), if_neg (by omega), if_neg (by omega), if_neg (by omega), if_neg (by omega), if_pos (by omega), if_pos rfl]
  · rw [if_neg h]
    repeat' split
    all_goals first | rfl | omega

theorem zero_part : (Try.prog.info? 102).map (fun i => (i.zero, i.size)) = some (some (.agg (gpCells {})), 124) := by kernel_rfl
theorem zeroV_part (w : World) : (zeroValue 102).run Try.prog w = .ok (.agg (gpCells {})) w := by
  have h := zero_part
  cases hq : Try.prog.info? 102 with
  | none => simp [hq] at h
  | some i =>
    simp [hq] at h
    simp [zeroValue, typeInfo, hq, h.1]
theorem size_part : (Try.prog.info? 102).map (·.size) = some 124 := by kernel_rfl

/-- A PART READ OUT OF A BLOCK, WHOLE. -/
theorem wpList_load_part {ops : Array Oper} {rest : List Oper} {o : Oper} {a : Act} {w : World} {Q : Exit → Act → World → Prop} (hgd : o.guard = none) (x : Operand) (ho : o.op = .load 102 x)
    (g : Nat) (hx : a.eval x = .pointer (some ⟨g, 0, none⟩)) (p : GP) (hg : Blk w g (gpCells p) 102)
    (h : wpList Try.prog ops Q rest (a.put o.dst (.agg (gpCells p))) w) : wpList Try.prog ops Q (o :: rest) a w :=
  wpList_load_row hgd _ x ho g hx _ _ _ _ hg Try.underlying102 rfl (by rw [gpCells_size]; exact size_part) h

theorem Blk.storeRow {w : World} {g : Nat} {cs cs' : Array Value} {t : TypeId} (h : Blk w g cs t) : Blk (w.setRow g cs') g cs' t := setRow_heap w g cs cs' t (0, 0) h
theorem Kept.setRow (w : World) (g : Nat) (cs : Array Value) : Kept [g] w (w.setRow g cs) :=
  ⟨rfl, rfl, rfl, by simp, fun k hk hn => setRow_other w g k cs (by rintro rfl; exact hn (List.mem_singleton_self _))⟩

/-- A PART LAID INTO A BLOCK, WHOLE. -/
theorem wpList_store_part {ops : Array Oper} {rest : List Oper} {o : Oper} {a : Act} {w : World} {Q : Exit → Act → World → Prop} (hgd : o.guard = none) (x y : Operand) (ho : o.op = .store 102 x y)
    (g : Nat) (hx : a.eval x = .pointer (some ⟨g, 0, none⟩)) (q p : GP) (hy : a.eval y = .agg (gpCells p)) (hg : Blk w g (gpCells q) 102)
    (h : ∀ w', Blk w' g (gpCells p) 102 → Kept [g] w w' → w'.heap.size = w.heap.size → wpList Try.prog ops Q rest (a.put o.dst undef) w') : wpList Try.prog ops Q (o :: rest) a w := by
  refine wpList_plain hgd fun K hK => ?_
  have hr := run_storeVar_row (P := Try.prog) w g 102 102 (gpCells q) (gpCells p) hg (by rw [gpCells_size]; exact size_part) (by simp) (gpCells_one p)
  unfold Oper.wp execOp
  simp only [ho, hx, hy, Instr.storeAt, Instr.sureAddr, Sem.run_bind, Sem.run_pure, Result.andThen_ok, hr]
  exact hK _ _ (h _ hg.storeRow (Kept.setRow w g _) (by simp))

theorem Blk.new1 (w : World) (o1 : Obj) (cs : Array Value) (e : TypeId) : Blk ((w.alloc o1).alloc (.cells cs e)) (w.heap.size + 1) cs e := by
  have := Blk.new (w.alloc o1) cs e; simpa using this
theorem Blk.new2 (w : World) (o1 o2 : Obj) (cs : Array Value) (e : TypeId) : Blk (((w.alloc o1).alloc o2).alloc (.cells cs e)) (w.heap.size + 1 + 1) cs e := by
  have := Blk.new ((w.alloc o1).alloc o2) cs e; simpa using this
theorem Blk.new3 (w : World) (o1 o2 o3 : Obj) (cs : Array Value) (e : TypeId) : Blk ((((w.alloc o1).alloc o2).alloc o3).alloc (.cells cs e)) (w.heap.size + 1 + 1 + 1) cs e := by
  have := Blk.new (((w.alloc o1).alloc o2).alloc o3) cs e; simpa using this
theorem Kept.into {w x w' : World} {g : Nat} (h : Kept [] w x) (k : Kept [g] x w') (hg : w.heap.size ≤ g) : Kept [] w w' :=
  ⟨k.os.trans h.os, k.tape.trans h.tape, k.output.trans h.output, Nat.le_trans h.size k.size, fun i hi _ => (k.block i (Nat.lt_of_lt_of_le hi h.size) (by simp; omega)).trans (h.block i hi (by simp))⟩

theorem results_part {fn : Func} {r : Tmp} (h : fn.results = #[.cell r 102]) (tmps : Array Value) (w : World) (g : Nat) (p : GP)
    (hp : tmps.getD r undef = .pointer (some ⟨g, 0, none⟩)) (hg : Blk w g (gpCells p) 102) : (results fn tmps).run Try.prog w = .ok (.agg (gpCells p)) w :=
  results_cell_row h tmps w g _ _ _ _ hp hg Try.underlying102 rfl (by rw [gpCells_size]; exact size_part)

end Go.Proofs.Ytjhmkkhnnijigaa
