/- The machine: Build: the machine of a pattern's nodes. -/
import Derived.Test.YtjhmkkhnnijigaaLearnOf
set_option linter.unusedVariables false
set_option linter.unusedSimpArgs false
namespace Go.Proofs.Ytjhmkkhnnijigaa
open Go.RowKit Go.IntWalk

theorem mCell_one (m : MP) (i : Nat) : (mCell m i).oneCell' = true := by
  unfold mCell
  repeat' split
  all_goals rfl
theorem mCells_one (m : MP) : (mCells m).all (·.oneCell') = true := cellsF_one fun j _ => mCell_one m j
theorem zero_mach : (Try.prog.info? 63).map (fun i => (i.zero, i.size)) = some (some (.agg (mCells {})), 321) := by kernel_rfl
theorem zeroV_mach (w : World) : (zeroValue 63).run Try.prog w = .ok (.agg (mCells {})) w := by
  have h := zero_mach
  cases hq : Try.prog.info? 63 with
  | none => simp [hq] at h
  | some i =>
    simp [hq] at h
    simp [zeroValue, typeInfo, hq, h.1]
theorem size_mach : (Try.prog.info? 63).map (·.size) = some 321 := by kernel_rfl

theorem wpList_load_mach {ops : Array Oper} {rest : List Oper} {o : Oper} {a : Act} {w : World} {Q : Exit → Act → World → Prop} (hgd : o.guard = none) (x : Operand) (ho : o.op = .load 63 x)
    (g : Nat) (hx : a.eval x = .pointer (some ⟨g, 0, none⟩)) (p : MP) (hg : MIn w g p)
    (h : wpList Try.prog ops Q rest (a.put o.dst (.agg (mCells p))) w) : wpList Try.prog ops Q (o :: rest) a w :=
  wpList_load_row hgd _ x ho g hx _ _ _ _ hg Try.underlying63 rfl (by rw [mCells_size]; exact size_mach) h
theorem wpList_store_mach {ops : Array Oper} {rest : List Oper} {o : Oper} {a : Act} {w : World} {Q : Exit → Act → World → Prop} (hgd : o.guard = none) (x y : Operand) (ho : o.op = .store 63 x y)
    (g : Nat) (hx : a.eval x = .pointer (some ⟨g, 0, none⟩)) (q p : MP) (hy : a.eval y = .agg (mCells p)) (hg : MIn w g q)
    (h : ∀ w', MIn w' g p → Kept [g] w w' → w'.heap.size = w.heap.size → wpList Try.prog ops Q rest (a.put o.dst undef) w') : wpList Try.prog ops Q (o :: rest) a w := by
  refine wpList_plain hgd fun K hK => ?_
  have hr := run_storeVar_row (P := Try.prog) w g 63 63 (mCells q) (mCells p) hg (by rw [mCells_size]; exact size_mach) (by simp) (mCells_one p)
  unfold Oper.wp execOp
  simp only [ho, hx, hy, Instr.storeAt, Instr.sureAddr, Sem.run_bind, Sem.run_pure, Result.andThen_ok, hr]
  exact hK _ _ (h _ (Blk.storeRow hg) (Kept.setRow w g _) (by simp))
theorem results_mach {fn : Func} {r : Tmp} (h : fn.results = #[.cell r 63]) (tmps : Array Value) (w : World) (g : Nat) (p : MP)
    (hp : tmps.getD r undef = .pointer (some ⟨g, 0, none⟩)) (hg : MIn w g p) : (results fn tmps).run Try.prog w = .ok (.agg (mCells p)) w :=
  results_cell_row h tmps w g _ _ _ _ hp hg Try.underlying63 rfl (by rw [mCells_size]; exact size_mach)

theorem m_set_whole (m : MP) (b : Bool) : (mCells m).setIfInBounds 0 (.bool b) = mCells { m with whole := b } := cellsF_set _ _ _ _ fun j hj => by
  by_cases h : j = 0
  · subst h; rfl
  · unfold mCell; simp only [if_neg h]
theorem build_mach (w : World) (b : Bool) (s : B64) : (Instr.build 63 #[(0, .bool b), (5, .int .u64 (s.toNat : Int))]).run Try.prog w = .ok (.agg (mCells { whole := b, last := s })) w := by
  unfold Instr.build
  rw [Sem.run_bind, zeroV_mach w]
  simp [Sem.run_bind, run_underlying Try.underlying63, go_sem]
  have hne : mCells {} ≠ #[] := fun h => by have := mCells_size {}; rw [h] at this; simp at this
  have e := m_set_last { whole := b } s
  have e0 : (mCells {}).setIfInBounds 0 (.bool b) = mCells { whole := b } := m_set_whole {} b
  rw [← e0] at e
  rw [e]
  simp [hne]
theorem wpList_build_mach {ops : Array Oper} {rest : List Oper} {o : Oper} {a : Act} {w : World} {Q : Exit → Act → World → Prop} (hgd : o.guard = none) (x y : Operand) (ho : o.op = .build 63 #[(0, x), (5, y)])
    (b : Bool) (s : B64) (hx : a.eval x = .bool b) (hy : a.eval y = .int .u64 (s.toNat : Int))
    (h : wpList Try.prog ops Q rest (a.put o.dst (.agg (mCells { whole := b, last := s }))) w) : wpList Try.prog ops Q (o :: rest) a w :=
  wpList_build_value hgd _ _ ho _ (by simp only [List.map_toArray, List.map_cons, List.map_nil, hx, hy]) _ (build_mach w b s) h

def nextM (m : MP) (q : Nat) (s : B64) : MP := { m with next := fun j => if j = q then s else m.next j }
def build0 (p : GP) (whole : Bool) : MP := { nextM { whole := whole, last := p.last } 60 p.first with last := if p.empty = true then p.last ||| startB else p.last }
def buildQ (ns : List AN) (p : GP) (fold whole : Bool) : Nat → MP
  | 0 => build0 p whole
  | q + 1 =>
    match ns[p.node q]? with
    | some n => learnP (nextM (buildQ ns p fold whole q) q (p.next q)) (1#64 <<< q) n fold
    | none => nextM (buildQ ns p fold whole q) q (p.next q)
def buildP (ns : List AN) (p : GP) (fold whole : Bool) : MP := buildQ ns p fold whole p.count

/-- The pattern, the result's room, the part, the machine so far. -/
structure BdIn (w0 w : World) (gp g : Nat) (v : Value) (size : Int) (p : GP) (m : MP) : Prop where
  mi : MIn w g m
  pt : Blk w gp (gpCells p) 102
  pat : Blk w w0.heap.size #[v, .int .i64 size] 53
  res : MIn w (w0.heap.size + 1) {}
  k : Kept [] w0 w
  lt : w0.heap.size + 1 < gp
  ltg : gp < g
theorem BdIn.into {w0 w w' : World} {gp g : Nat} {v : Value} {size : Int} {p : GP} {m m' : MP} (h : BdIn w0 w gp g v size p m) (hm : MIn w' g m') (k : Kept [g] w w') : BdIn w0 w' gp g v size p m' := by
  have := h.lt
  have := h.ltg
  exact ⟨hm, h.pt.kept k (by simp; omega), h.pat.kept k (by simp; omega), Blk.kept h.res k (by simp; omega), h.k.into k (by omega), h.lt, h.ltg⟩
theorem BdIn.set {w0 w : World} {gp g : Nat} {v : Value} {size : Int} {p : GP} {m m' : MP} (h : BdIn w0 w gp g v size p m) (i : Nat) (u : Value) (he : (mCells m).setIfInBounds i u = mCells m') : BdIn w0 (w.setCell ⟨g, i, none⟩ u) gp g v size p m' := by
  refine h.into (m' := m') ?_ ((Kept.refl _ _).setCell (Or.inl (by simp)) _)
  have := Blk.set h.mi i u
  rw [he] at this
  exact this

end Go.Proofs.Ytjhmkkhnnijigaa
