/- The machine: Build: the machine of a pattern's nodes. -/
import Derived.Test.YtgifhgnccmnbiaaG08
set_option linter.unusedVariables false
set_option linter.unusedSimpArgs false
namespace Go.Proofs.Ytgifhgnccmnbiaa
open Go.RowKit Go.IntWalk

theorem mCell_one (m : MP) (i : Nat) : (mCell m i).oneCell' = true := by
  unfold mCell
  repeat' split
  all_goals rfl
theorem mCells_one (m : MP) : (mCells m).all (·.oneCell') = true := cellsF_one fun j _ => mCell_one m j
theorem zero_mach : (Try.prog.info? 71).map (fun i => (i.zero, i.size)) = some (some (.agg (mCells {})), 324) := by kernel_rfl
theorem zeroV_mach (w : World) : (zeroValue 71).run Try.prog w = .ok (.agg (mCells {})) w := by
  have h := zero_mach
  cases hq : Try.prog.info? 71 with
  | none => simp [hq] at h
  | some i =>
    simp [hq] at h
    simp [zeroValue, typeInfo, hq, h.1]
theorem size_mach : (Try.prog.info? 71).map (·.size) = some 324 := by kernel_rfl

theorem wpList_load_mach {ops : Array Oper} {rest : List Oper} {o : Oper} {a : Act} {w : World} {Q : Exit → Act → World → Prop} (hgd : o.guard = none) (x : Operand) (ho : o.op = .load 71 x)
    (g : Nat) (hx : a.eval x = .pointer (some ⟨g, 0, none⟩)) (p : MP) (hg : MIn w g p)
    (h : wpList Try.prog ops Q rest (a.put o.dst (.agg (mCells p))) w) : wpList Try.prog ops Q (o :: rest) a w :=
  wpList_load_row hgd _ x ho g hx _ _ _ _ hg Try.underlying71 rfl (by rw [mCells_size]; exact size_mach) h
theorem wpList_store_mach {ops : Array Oper} {rest : List Oper} {o : Oper} {a : Act} {w : World} {Q : Exit → Act → World → Prop} (hgd : o.guard = none) (x y : Operand) (ho : o.op = .store 71 x y)
    (g : Nat) (hx : a.eval x = .pointer (some ⟨g, 0, none⟩)) (q p : MP) (hy : a.eval y = .agg (mCells p)) (hg : MIn w g q)
    (h : ∀ w', MIn w' g p → Kept [g] w w' → w'.heap.size = w.heap.size → wpList Try.prog ops Q rest (a.put o.dst undef) w') : wpList Try.prog ops Q (o :: rest) a w := by
  refine wpList_plain hgd fun K hK => ?_
  have hr := run_storeVar_row (P := Try.prog) w g 71 71 (mCells q) (mCells p) hg (by rw [mCells_size]; exact size_mach) (by simp) (mCells_one p)
  unfold Oper.wp execOp
  simp only [ho, hx, hy, Instr.storeAt, Instr.sureAddr, Sem.run_bind, Sem.run_pure, Result.andThen_ok, hr]
  exact hK _ _ (h _ (Blk.storeRow hg) (Kept.setRow w g _) (by simp))
theorem results_mach {fn : Func} {r : Tmp} (h : fn.results = #[.cell r 71]) (tmps : Array Value) (w : World) (g : Nat) (p : MP)
    (hp : tmps.getD r undef = .pointer (some ⟨g, 0, none⟩)) (hg : MIn w g p) : (results fn tmps).run Try.prog w = .ok (.agg (mCells p)) w :=
  results_cell_row h tmps w g _ _ _ _ hp hg Try.underlying71 rfl (by rw [mCells_size]; exact size_mach)

theorem m_set_beg (m : MP) (s : B64) : (mCells m).setIfInBounds 0 (UV s) = mCells { m with beg := s } := cellsF_set _ _ _ _ fun j hj => by
  by_cases h : j = 0
  · subst h; rfl
  · unfold mCell; simp only [if_neg h]
theorem m_set_en (m : MP) (s : B64) : (mCells m).setIfInBounds 1 (UV s) = mCells { m with en := s } := cellsF_set _ _ _ _ fun j hj => by
  by_cases h : j = 1
  · subst h; rfl
  · unfold mCell; simp only [if_neg h]
theorem build_mach (w : World) (b : Bool) (s : B64) : (Instr.build 71 #[(6, .int .u64 (s.toNat : Int))]).run Try.prog w = .ok (.agg (mCells { whole := b, last := s })) w := by
  unfold Instr.build
  rw [Sem.run_bind, zeroV_mach w]
  simp [Sem.run_bind, run_underlying Try.underlying71, go_sem]
  have hne : mCells {} ≠ #[] := fun h => by have := mCells_size {}; rw [h] at this; simp at this
  have e := m_set_last { whole := b } s
  have e0 : mCells { whole := b } = mCells {} := rfl
  rw [e0] at e
  rw [e]
theorem wpList_build_mach {ops : Array Oper} {rest : List Oper} {o : Oper} {a : Act} {w : World} {Q : Exit → Act → World → Prop} (hgd : o.guard = none) (y : Operand) (ho : o.op = .build 71 #[(6, y)])
    (b : Bool) (s : B64) (hy : a.eval y = .int .u64 (s.toNat : Int))
    (h : wpList Try.prog ops Q rest (a.put o.dst (.agg (mCells { whole := b, last := s }))) w) : wpList Try.prog ops Q (o :: rest) a w :=
  wpList_build_value hgd _ _ ho _ (by simp only [List.map_toArray, List.map_cons, List.map_nil, hy]) _ (build_mach w b s) h

def nextM (m : MP) (q : Nat) (s : B64) : MP := { m with next := fun j => if j = q then s else m.next j }
def build0 (p : GP) (whole : Bool) : MP := { nextM { whole := whole, last := p.last } 60 p.first with last := if p.empty = true then p.last ||| startB else p.last }
def buildQ (ns : List AN) (p : GP) (fold whole : Bool) : Nat → MP
  | 0 => build0 p whole
  | q + 1 =>
    match ns[p.node q]? with
    | some n => learnP (nextM (buildQ ns p fold whole q) q (p.next q)) (1#64 <<< q) n fold
    | none => nextM (buildQ ns p fold whole q) q (p.next q)
def buildP (ns : List AN) (p : GP) (fold whole : Bool) : MP := buildQ ns p fold whole p.count

/-- The pattern, the result's room, the part, the machine so far. -/
structure BdIn (w0 w : World) (gp g : Nat) (v : Value) (size : Int) (p : GP) (m : MP) : Prop where
  mi : MIn w g m
  pt : Blk w gp (gpCells p) 113
  pat : Blk w w0.heap.size #[v, .int .i64 size] 57
  res : MIn w (w0.heap.size + 1) {}
  k : Kept [] w0 w
  lt : w0.heap.size + 1 < gp
  ltg : gp < g
theorem BdIn.into {w0 w w' : World} {gp g : Nat} {v : Value} {size : Int} {p : GP} {m m' : MP} (h : BdIn w0 w gp g v size p m) (hm : MIn w' g m') (k : Kept [g] w w') : BdIn w0 w' gp g v size p m' := by
  have := h.lt
  have := h.ltg
  exact ⟨hm, h.pt.kept k (by simp; omega), h.pat.kept k (by simp; omega), Blk.kept h.res k (by simp; omega), h.k.into k (by omega), h.lt, h.ltg⟩
theorem BdIn.set {w0 w : World} {gp g : Nat} {v : Value} {size : Int} {p : GP} {m m' : MP} (h : BdIn w0 w gp g v size p m) (i : Nat) (u : Value) (he : (mCells m).setIfInBounds i u = mCells m') : BdIn w0 (w.setCell ⟨g, i, none⟩ u) gp g v size p m' := by
  refine h.into (m' := m') ?_ ((Kept.refl _ _).setCell (Or.inl (by simp)) _)
  have := Blk.set h.mi i u
  rw [he] at this
  exact this

end Go.Proofs.Ytgifhgnccmnbiaa

set_option linter.unusedVariables false
set_option linter.unusedSimpArgs false
namespace Go.Proofs.Ytgifhgnccmnbiaa
open Go.RowKit Go.IntWalk

theorem MIn.set {w : World} {g : Nat} {m m' : MP} (h : MIn w g m) (i : Nat) (u : Value) (he : (mCells m).setIfInBounds i u = mCells m') : MIn (w.setCell ⟨g, i, none⟩ u) g m' := by
  have := Blk.set h i u
  rw [he] at this
  exact this

theorem MIn.drew' {w : World} {g : Nat} {m : MP} (h : MIn w g m) : MIn w.drew g m := Blk.kept h ((Kept.refl [] _).drew) (by simp)

end Go.Proofs.Ytgifhgnccmnbiaa

set_option linter.unusedVariables false
set_option linter.unusedSimpArgs false
namespace Go.Proofs.Ytgifhgnccmnbiaa
open Go.RowKit Go.IntWalk

theorem into_zero (m : MP) (S : B64) : ∀ q, intoQ m 0#64 S q = 0#64
  | 0 => rfl
  | q + 1 => by rw [intoQ, if_pos (by simp), into_zero m S q]
theorem enough_zero (m : MP) (X : B64) : ∀ q, enoughQ m 0#64 X q = X
  | 0 => rfl
  | q + 1 => by
    rw [enoughQ, enough_zero m X q]
    unfold intoP
    rw [into_zero]
    simp

set_option maxHeartbeats 2000000 in
set_option maxRecDepth 100000 in
theorem enoughBy_any (m : MP) (g : Nat) (free : B64) (w : World) (h : MIn w g m) :
    Calls Try.prog 96 #[.pointer (some ⟨g, 0, none⟩), .int .u64 (free.toNat : Int)] w fun e w' => e = .returned (.int .u64 ((enoughP m free).toNat : Int)) ∧ Kept [] w w' := by
  have hg : g < w.heap.size := Blk.lt h
  have c0 := h.last
  have ho := or_u m.last foundB
  rw [foundB_nat] at ho
  have e0 : Hid (enoughP m free = enoughQ m free (m.last ||| foundB) 60) := rfl
  have hI : Hid (MIn (w.alloc (.cells #[.pointer (some ⟨g, 2, none⟩), UV free] 123)) g m) := Blk.alloc h _
  have hB : Hid (Blk (w.alloc (.cells #[.pointer (some ⟨g, 2, none⟩), UV free] 123)) w.heap.size #[.pointer (some ⟨g, 2, none⟩), UV free] 123) := Blk.new w _ _
  have hK : Hid (Kept [] w (w.alloc (.cells #[.pointer (some ⟨g, 2, none⟩), UV free] 123))) := (Kept.refl [] w).alloc _
  generalize m.last ||| foundB = X at *
  clear h
  go_enter Try.func96, Try.ntmps96
  go_wp2_with fail
  go_loopw [6, 7] (fun ev iv wr => ∃ q : Nat, ev = .int .u64 ((enoughQ m free X q).toNat : Int) ∧ iv = .int .i64 (q : Int) ∧ q ≤ 60 ∧ MIn wr g m ∧ Blk wr w.heap.size #[.pointer (some ⟨g, 2, none⟩), UV free] 123 ∧ Kept [] w wr) (fun _ iv _ => (60 - intOf iv).toNat)
  case atStart => exact ⟨0, rfl, rfl, by omega, hI.out, hB.out, hK.out⟩
  case round =>
    obtain ⟨q, rfl, rfl, hq, hI1, hB1, hK1⟩ := hrel
    clear hI hB hK
    by_cases hlt : (q : Int) < 60
    · by_cases hf : free = 0#64
      · have hf0 : (free.toNat : Int) = 0 := (u_zero _).2 hf
        have e1 : Hid (enoughP m free = enoughQ m free X q) := by show enoughP m free = _; rw [e0.out, hf, enough_zero, enough_zero]
        have hKH : Hid (Kept _ _ _) := hK1
        clear hf e0 hI1 hB1 hK1
        generalize enoughQ m free X q = Y at *
        go_wp2
        go_ret
        exact ⟨by rw [e1.out]; rfl, hKH.out⟩
      · have hf0 : (free.toNat : Int) ≠ 0 := fun hc => hf ((u_zero _).1 hc)
        have hc : Hid (Calls _ _ _ wr _) := into_any m g 2 free (enoughQ m free X q) wr hI1.tab
        have hor := or_u (enoughQ m free X q) (intoP m free (enoughQ m free X q))
        have e1 : Hid (enoughQ m free X (q + 1) = enoughQ m free X q ||| intoP m free (enoughQ m free X q)) := rfl
        have d0 : wr.cell? ⟨w.heap.size, 0, none⟩ = some (.pointer (some ⟨g, 2, none⟩)) := hB1.cell 0
        have d1 : wr.cell? ⟨w.heap.size, 1, none⟩ = some (UV free) := hB1.cell 1
        have hI2 : Hid (MIn wr g m) := hI1
        have hB2 : Hid (Blk wr w.heap.size #[.pointer (some ⟨g, 2, none⟩), UV free] 123) := hB1
        have hK2 : Hid (Kept [] w wr) := hK1
        clear hf e0 hI1 hB1 hK1 ho c0
        generalize intoP m free (enoughQ m free X q) = V at *
        generalize enoughQ m free X q ||| V = Z at *
        go_wp2_with (go_at_call 137; refine hc.out.mono ?_; rintro _ w2 ⟨rfl, k2⟩)
        refine ⟨⟨q + 1, by rw [e1.out], by go_num, by omega, Blk.kept hI2.out k2 (by simp), hB2.out.kept k2 (by simp), hK2.out.trans k2⟩, ?_⟩
        simp only [intOf]; omega
    · have hqe : q = 60 := by omega
      subst hqe
      have hKH : Hid (Kept _ _ _) := hK1
      clear hI1 hB1 hK1
      go_wp2
      go_ret
      exact ⟨by rw [e0.out]; rfl, hKH.out⟩

set_option maxHeartbeats 4000000 in
set_option maxRecDepth 100000 in
theorem findEnds_any (m : MP) (g : Nat) (w : World) (h : MIn w g m) :
    Calls Try.prog 67 #[.pointer (some ⟨g, 0, none⟩)] w fun e w' => e = .returned (.tuple #[]) ∧ MIn w' g (begM m) ∧ Kept [g] w w' := by
  have hg : g < w.heap.size := Blk.lt h
  have c0 := h.begins
  have f0 := h.frozen 0
  have b0 := h.beg
  have hst : Hid (∀ o, MIn ((w.setCell ⟨g, 0, none⟩ (.int .u64 5764607523034234880)).alloc o).drew g { m with beg := begQ m 0 } ∧ Kept [g] w ((w.setCell ⟨g, 0, none⟩ (.int .u64 5764607523034234880)).alloc o).drew) := fun o =>
    ⟨MIn.drew' (Blk.alloc (MIn.set h 0 _ (m_set_beg m (begQ m 0))) o), ((((Kept.refl [g] w).setCell (Or.inl (by simp)) _).alloc o).drew)⟩
  have hwy : Hid (Blk ((w.setCell ⟨g, 0, none⟩ (.int .u64 5764607523034234880)).alloc (.cells #[.pointer (some ⟨g, 2, none⟩), UV m.begins] 123)).drew w.heap.size #[.pointer (some ⟨g, 2, none⟩), UV m.begins] 123) := by
    have h1 := Blk.new (w.setCell ⟨g, 0, none⟩ (.int .u64 5764607523034234880)) #[.pointer (some ⟨g, 2, none⟩), UV m.begins] 123
    have e : (w.setCell ⟨g, 0, none⟩ (.int .u64 5764607523034234880)).heap.size = w.heap.size := by simp
    rw [e] at h1
    exact h1.kept ((Kept.refl [] _).drew) (by simp)
  clear h
  go_enter Try.func67, Try.ntmps67
  go_wp2_with fail
  go_region
  go_wp2_with fail
  go_loopw [3] (fun iv wr => ∃ q : Nat, iv = .int .i64 (q : Int) ∧ q ≤ 60 ∧ MIn wr g { m with beg := begQ m q } ∧ Blk wr w.heap.size #[.pointer (some ⟨g, 2, none⟩), UV m.begins] 123 ∧ Kept [g] w wr) (fun iv _ => (60 - intOf iv).toNat)
  case atStart =>
    obtain ⟨h1, h2⟩ := hst.out (.cells #[.pointer (some ⟨g, 2, none⟩), UV m.begins] 123)
    exact ⟨0, rfl, by omega, h1, hwy.out, h2⟩
  case round =>
    obtain ⟨q, rfl, hq, hI, hB, hK⟩ := hrel
    clear hst hwy c0 f0 b0
    by_cases hlt : (q : Int) < 60
    · have hc : Hid (∀ w', Kept [] wr w' → Calls Try.prog 70 #[WV g 2 m.begins, .int .u64 ((begQ m q).toNat : Int)] w' fun e w2 => e = .returned (.int .u64 ((fromP m m.begins (begQ m q)).toNat : Int)) ∧ Kept [] w' w2) := fun w' k => from_any m g 2 m.begins (begQ m q) w' (TabAt.kept hI.tab k (Blk.lt hI))
      have hor := or_u (begQ m q) (fromP m m.begins (begQ m q))
      have e1 : Hid (begQ m (q + 1) = begQ m q ||| fromP m m.begins (begQ m q)) := rfl
      have d0 : wr.cell? ⟨w.heap.size, 0, none⟩ = some (.pointer (some ⟨g, 2, none⟩)) := hB.cell 0
      have d1 : wr.cell? ⟨w.heap.size, 1, none⟩ = some (UV m.begins) := hB.cell 1
      have b0 : wr.cell? ⟨g, 0, none⟩ = some (UV (begQ m q)) := hI.beg
      have hgr : g < wr.heap.size := Blk.lt hI
      have hIH : Hid (MIn _ _ _) := hI
      have hBH : Hid (Blk _ _ _ _) := hB
      have hKH : Hid (Kept _ _ _) := hK
      clear hI hB hK
      generalize fromP m m.begins (begQ m q) = V at *
      generalize begQ m q ||| V = Z at *
      go_wp2_with fail
      go_region_law (go_simp; go_at_call 70; refine (hc.out _ ((Kept.refl [] _).drew)).mono ?_; rintro _ w5 ⟨rfl, k5⟩; have K5 := ((Kept.refl [] wr).drew).trans k5; have r0 : w5.cell? ⟨g, 0, none⟩ = some (UV (begQ m q)) := (K5.cell hgr 0).trans b0; have q0 : w5.frozen? ⟨g, 0, none⟩ = false := (Blk.kept hIH.out K5 (by simp)).frozen 0)
      all_goals
        go_wp2
        refine ⟨⟨q + 1, by go_num, by omega, ?_, ?_, ?_⟩, ?_⟩
        · rw [e1.out]
          exact MIn.set (Blk.kept hIH.out K5 (by simp)) 0 _ (m_set_beg _ Z)
        · exact (hBH.out.kept K5 (by simp)).other _ _ (by omega)
        · exact (hKH.out.trans (K5.mono (by simp))).setCell (Or.inl (by simp)) _
        · simp only [intOf]; omega
    · have hqe : q = 60 := by omega
      subst hqe
      have hgr : g < wr.heap.size := Blk.lt hI
      have b0 : wr.cell? ⟨g, 0, none⟩ = some (UV (begP m)) := hI.beg
      have h1 : Hid (Calls Try.prog 96 #[.pointer (some ⟨g, 0, none⟩), .int .u64 (m.ends.toNat : Int)] wr fun e w2 => e = .returned (.int .u64 ((enoughP m m.ends).toNat : Int)) ∧ Kept [] wr w2) := by
        have := enoughBy_any { m with beg := begQ m 60 } g m.ends wr hI
        rw [enoughP_next (m := m) (m' := { m with beg := begQ m 60 }) rfl rfl] at this
        exact this
      have h2 : Hid (∀ w', MIn w' g { m with beg := begP m, en := enoughP m m.ends } → Calls Try.prog 96 #[.pointer (some ⟨g, 0, none⟩), .int .u64 ((m.ends ||| m.begins).toNat : Int)] w' fun e w2 => e = .returned (.int .u64 ((enoughP m (m.ends ||| m.begins)).toNat : Int)) ∧ Kept [] w' w2) := fun w' hi => by
        have := enoughBy_any { m with beg := begP m, en := enoughP m m.ends } g (m.ends ||| m.begins) w' hi
        rw [enoughP_next (m := m) (m' := { m with beg := begP m, en := enoughP m m.ends }) rfl rfl] at this
        exact this
      have hst : Hid (∀ w1, Kept [] wr w1 → MIn (w1.setCell ⟨g, 1, none⟩ (UV (enoughP m m.ends))) g { m with beg := begP m, en := enoughP m m.ends } ∧ Kept [g] wr (w1.setCell ⟨g, 1, none⟩ (UV (enoughP m m.ends)))) := fun w1 k =>
        ⟨(MIn.set (m := { m with beg := begQ m 60 }) (Blk.kept hI k (by simp)) 1 _ (m_set_en _ (enoughP m m.ends))), (k.mono (by simp)).setCell (Or.inl (by simp)) _⟩
      have hfin : Hid (begM m = { m with beg := begP m, en := if begP m &&& enoughP m (m.ends ||| m.begins) = 0#64 then enoughP m m.ends else enoughP m m.ends ||| freshB }) := rfl
      have hor := or_u m.ends m.begins
      have hand := and_u (begP m) (enoughP m (m.ends ||| m.begins))
      have hof := or_u (enoughP m m.ends) freshB
      rw [freshB_nat] at hof
      have c1 : wr.cell? ⟨g, 322, none⟩ = some (UV m.ends) := hI.ends
      have c2 : wr.cell? ⟨g, 321, none⟩ = some (UV m.begins) := hI.begins
      have c3 : wr.cell? ⟨g, 1, none⟩ = some (UV m.en) := hI.en
      have f1 : wr.frozen? ⟨g, 1, none⟩ = false := hI.frozen 1
      have hIH : Hid (MIn _ _ _) := hI
      have hKH : Hid (Kept _ _ _) := hK
      clear hI hB hK
      generalize m.ends ||| m.begins = EB at *
      generalize enoughP m EB = E2 at *
      generalize hE1 : enoughP m m.ends = E1 at *
      generalize E1 ||| freshB = EF at *
      generalize begP m = B0 at hfin b0 hst h2 hand
      generalize B0 &&& E2 = X at *
      clear hE1
      by_cases hX : X = 0#64
      · have hX0 : (X.toNat : Int) = 0 := (u_zero _).2 hX
        rw [if_pos hX] at hfin
        clear hX hof
        go_wp2_with (go_at_call 96; refine h1.out.mono ?_; rintro _ w1 ⟨rfl, k1⟩; have r0 := (k1.cell hgr 0).trans b0; have r1 := (k1.cell hgr 1).trans c3; have r2 := (k1.cell hgr 322).trans c1; have r3 := (k1.cell hgr 321).trans c2; have q1 : w1.frozen? ⟨g, 1, none⟩ = false := (Blk.kept hIH.out k1 (by simp)).frozen 1; have s1 : Hid (_ ∧ _) := hst.out _ k1)
        go_region_law (go_simp; go_at_call 96; refine (h2.out _ (MIn.drew' s1.out.1)).mono ?_; rintro _ w5 ⟨rfl, k5⟩; have K5 : Hid (MIn _ _ _ ∧ Kept _ _ _) := ⟨Blk.kept (MIn.drew' s1.out.1) k5 (by simp), s1.out.2.trans ((((Kept.refl [] _).drew).trans k5).mono (by simp))⟩; have r5 : w5.cell? ⟨g, 1, none⟩ = some (UV E1) := K5.out.1.en; have r6 : w5.cell? ⟨g, 0, none⟩ = some (UV B0) := K5.out.1.beg; have q5 : w5.frozen? ⟨g, 1, none⟩ = false := K5.out.1.frozen 1)
        all_goals
          go_wp2
          go_end0
          exact ⟨rfl, by rw [hfin.out]; exact K5.out.1, hKH.out.trans K5.out.2⟩
      · have hX0 : (X.toNat : Int) ≠ 0 := fun hc => hX ((u_zero _).1 hc)
        rw [if_neg hX] at hfin
        clear hX
        go_wp2_with (go_at_call 96; refine h1.out.mono ?_; rintro _ w1 ⟨rfl, k1⟩; have r0 := (k1.cell hgr 0).trans b0; have r1 := (k1.cell hgr 1).trans c3; have r2 := (k1.cell hgr 322).trans c1; have r3 := (k1.cell hgr 321).trans c2; have q1 : w1.frozen? ⟨g, 1, none⟩ = false := (Blk.kept hIH.out k1 (by simp)).frozen 1; have s1 : Hid (_ ∧ _) := hst.out _ k1)
        go_region_law (go_simp; go_at_call 96; refine (h2.out _ (MIn.drew' s1.out.1)).mono ?_; rintro _ w5 ⟨rfl, k5⟩; have K5 : Hid (MIn _ _ _ ∧ Kept _ _ _) := ⟨Blk.kept (MIn.drew' s1.out.1) k5 (by simp), s1.out.2.trans ((((Kept.refl [] _).drew).trans k5).mono (by simp))⟩; have r5 : w5.cell? ⟨g, 1, none⟩ = some (UV E1) := K5.out.1.en; have r6 : w5.cell? ⟨g, 0, none⟩ = some (UV B0) := K5.out.1.beg; have q5 : w5.frozen? ⟨g, 1, none⟩ = false := K5.out.1.frozen 1)
        all_goals
          go_wp2
          go_end0
          exact ⟨rfl, by rw [hfin.out]; exact MIn.set K5.out.1 1 _ (m_set_en _ EF), (hKH.out.trans K5.out.2).setCell (Or.inl (by simp)) _⟩

end Go.Proofs.Ytgifhgnccmnbiaa

set_option linter.unusedVariables false
set_option linter.unusedSimpArgs false
namespace Go.Proofs.Ytgifhgnccmnbiaa
open Go.RowKit Go.IntWalk

theorem any_step (m : MP) (q : Nat) (hc : m.last.getLsbD q = true ∨ q = 61) (s : B64) (hs : s = (anyQ m q).next q ||| foundB) (hq : q < 63) : (mCells (anyQ m q)).setIfInBounds (2 + q) (UV s) = mCells (anyQ m (q + 1)) := by
  subst hs
  refine m_set_next _ _ q _ hq ⟨rfl, rfl⟩ rfl (fun j _ => ?_) rfl rfl rfl
  unfold anyQ
  simp only []
  by_cases h : j = q
  · subst h
    have e : ¬ (j < j ∧ (m.last.getLsbD j = true ∨ j = 61)) := fun hc => Nat.lt_irrefl _ hc.1
    rw [if_pos ⟨Nat.lt_succ_self _, hc⟩, if_pos rfl, if_neg e]
  · rw [if_neg h]
    by_cases h2 : j < q ∧ (m.last.getLsbD j = true ∨ j = 61)
    · rw [if_pos ⟨by omega, h2.2⟩, if_pos h2]
    · rw [if_neg (fun h3 => h2 ⟨by omega, h3.2⟩), if_neg h2]
theorem any_skip (m : MP) (q : Nat) (hc : ¬ (m.last.getLsbD q = true ∨ q = 61)) : anyQ m (q + 1) = anyQ m q := by
  unfold anyQ
  congr 1
  funext j
  by_cases h2 : j < q ∧ (m.last.getLsbD j = true ∨ j = 61)
  · rw [if_pos ⟨by omega, h2.2⟩, if_pos h2]
  · rw [if_neg (fun h3 => h2 ⟨by
      have := h3.1
      have : j ≠ q := fun he => hc (he ▸ h3.2)
      omega, h3.2⟩), if_neg h2]
theorem take_step (m : MP) (q : Nat) (hq : q < 256) (s : B64) (hs : s = (takeQ m q).takes q ||| (startB ||| foundB)) : (mCells (takeQ m q)).setIfInBounds (65 + q) (UV s) = mCells (takeQ m (q + 1)) := by
  subst hs
  refine m_set_takes _ _ q _ hq ⟨rfl, rfl⟩ rfl (fun j _ => ?_) rfl rfl rfl
  unfold takeQ
  simp only []
  by_cases h : j = q
  · subst h
    rw [if_pos (Nat.lt_succ_self _), if_pos rfl, if_neg (by omega)]
  · rw [if_neg h]
    by_cases h2 : j < q
    · rw [if_pos (by omega), if_pos h2]
    · rw [if_neg (by omega), if_neg h2]

theorem any_first (m : MP) : (mCells m).setIfInBounds 62 (UV (m.next 60 ||| startB)) = mCells (anyQ m 0) := by
  show (mCells m).setIfInBounds (2 + 60) _ = _
  refine m_set_next _ _ 60 _ (by decide) ⟨rfl, rfl⟩ rfl (fun j _ => ?_) rfl rfl rfl
  unfold anyQ
  simp only []
  rw [if_neg (by omega)]
  by_cases h : j = 60
  · subst h; rfl
  · rw [if_neg h, if_neg h]

set_option maxHeartbeats 4000000 in
set_option maxRecDepth 100000 in
theorem allowAnywhere_any (m : MP) (g : Nat) (w : World) (h : MIn w g m) :
    Calls Try.prog 68 #[.pointer (some ⟨g, 0, none⟩)] w fun e w' => e = .returned (.tuple #[]) ∧ MIn w' g (anyP m) ∧ Kept [g] w w' := by
  have hg : g < w.heap.size := Blk.lt h
  have c0 : w.cell? ⟨g, 62, none⟩ = some (UV (m.next 60)) := h.next (i := 60) (by decide)
  have f0 := h.frozen 62
  have ho := or_u (m.next 60) startB
  rw [startB_nat] at ho
  have hst : Hid (MIn (w.drew.setCell ⟨g, 62, none⟩ (UV (m.next 60 ||| startB))) g (anyQ m 0) ∧ Kept [g] w (w.drew.setCell ⟨g, 62, none⟩ (UV (m.next 60 ||| startB)))) := ⟨MIn.set h.drew' 62 _ (any_first m), ((Kept.refl [g] w).drew).setCell (Or.inl (by simp)) _⟩
  clear h
  generalize m.next 60 ||| startB = Z0 at *
  go_enter Try.func68, Try.ntmps68
  go_wp2_with fail
  go_region
  go_wp2_with fail
  go_loopw [2] (fun iv wr => ∃ q : Nat, iv = .int .i64 (q : Int) ∧ q ≤ 63 ∧ MIn wr g (anyQ m q) ∧ Kept [g] w wr) (fun iv _ => (63 - intOf iv).toNat)
  case atStart => exact ⟨0, rfl, by omega, hst.out.1, hst.out.2⟩
  case round =>
    obtain ⟨q, rfl, hq, hI, hK⟩ := hrel
    clear hst c0 f0 ho
    by_cases hlt : (q : Int) < 63
    · have hqn : q < 63 := by omega
      have d0 : wr.cell? ⟨g, 323, none⟩ = some (UV m.last) := hI.last
      have d1 : wr.cell? ⟨g, 2 + q, none⟩ = some (UV ((anyQ m q).next q)) := hI.next hqn
      have f1 := hI.frozen (2 + q)
      have hor := or_u ((anyQ m q).next q) foundB
      rw [foundB_nat] at hor
      have hhas : Hid (∀ w, Calls Try.prog 97 #[.int .u64 (m.last.toNat : Int), .int .i64 (q : Int)] w fun e w' => e = .returned (.bool (m.last.getLsbD q)) ∧ w' = w) := fun w => has_any m.last q (by omega) w
      have hon : Hid ((m.last.getLsbD q = true ∨ q = 61) → MIn (wr.drew.setCell ⟨g, 2 + q, none⟩ (UV ((anyQ m q).next q ||| foundB))) g (anyQ m (q + 1)) ∧ Kept [g] w (wr.drew.setCell ⟨g, 2 + q, none⟩ (UV ((anyQ m q).next q ||| foundB)))) := fun hb => ⟨MIn.set hI.drew' _ _ (any_step m q hb _ rfl hqn), (hK.drew).setCell (Or.inl (by simp)) _⟩
      have hoff : Hid (¬ (m.last.getLsbD q = true ∨ q = 61) → MIn wr g (anyQ m (q + 1)) ∧ Kept [g] w wr) := fun hb => by rw [any_skip m q hb]; exact ⟨hI, hK⟩
      clear hI hK
      generalize (anyQ m q).next q ||| foundB = Z at *
      generalize (anyQ m q).next q = V at *
      cases hbit : m.last.getLsbD q with
      | true =>
        have H : Hid (_ ∧ _) := hon.out (Or.inl hbit)
        rw [hbit] at hhas
        clear hon hoff hbit
        go_wp2_with (go_at_call 97; refine (hhas.out _).mono ?_; rintro _ _ ⟨rfl, rfl⟩)
        go_region
        go_wp2
        refine ⟨⟨q + 1, by go_num, by omega, H.out.1, H.out.2⟩, ?_⟩
        simp only [intOf]; omega
      | false =>
        by_cases h61 : (q : Int) = 61
        · have H : Hid (_ ∧ _) := hon.out (Or.inr (by omega))
          have hb61 : ((q : Int) == 61) = true := by simp [h61]
          rw [hbit] at hhas
          clear hon hoff hbit h61
          go_wp2_with (go_at_call 97; refine (hhas.out _).mono ?_; rintro _ _ ⟨rfl, rfl⟩)
          go_region
          go_wp2
          refine ⟨⟨q + 1, by go_num, by omega, H.out.1, H.out.2⟩, ?_⟩
          simp only [intOf]; omega
        · have H : Hid (_ ∧ _) := hoff.out (fun hc => by
            rcases hc with hc | hc
            · rw [hbit] at hc; exact absurd hc (by decide)
            · omega)
          rw [hbit] at hhas
          clear hon hoff hbit
          go_wp2_with (go_at_call 97; refine (hhas.out _).mono ?_; rintro _ _ ⟨rfl, rfl⟩)
          refine ⟨⟨q + 1, by go_num, by omega, H.out.1, H.out.2⟩, ?_⟩
          simp only [intOf]; omega
    · have hqe : q = 63 := by omega
      subst hqe
      have hst2 : Hid (MIn wr g (takeQ (anyQ m 63) 0) ∧ Kept [g] w wr) := ⟨by
        have e : takeQ (anyQ m 63) 0 = anyQ m 63 := by unfold takeQ; congr 1
        rw [e]; exact hI, hK⟩
      clear hI hK hlt hq
      have eA : Hid (anyP m = takeQ (anyQ m 63) 256) := rfl
      generalize anyQ m 63 = M at *
      go_wp2_with fail
      go_loopw [3] (fun iv wr => ∃ q : Nat, iv = .int .i64 (q : Int) ∧ q ≤ 256 ∧ MIn wr g (takeQ M q) ∧ Kept [g] w wr) (fun iv _ => (256 - intOf iv).toNat)
      case atStart => exact ⟨0, rfl, by omega, hst2.out.1, hst2.out.2⟩
      case round =>
        obtain ⟨q, rfl, hq, hI, hK⟩ := hrel
        clear hst2
        by_cases hlt : (q : Int) < 256
        · have hqn : q < 256 := by omega
          have d1 := hI.takes hqn
          have f1 := hI.frozen (65 + q)
          have hor := or_u ((takeQ M q).takes q) (startB ||| foundB)
          have hcn : (((startB ||| foundB : B64).toNat : Nat) : Int) = 3458764513820540928 := rfl
          rw [hcn] at hor
          have H : Hid (MIn (wr.drew.setCell ⟨g, 65 + q, none⟩ (UV ((takeQ M q).takes q ||| (startB ||| foundB)))) g (takeQ M (q + 1)) ∧ Kept [g] w (wr.drew.setCell ⟨g, 65 + q, none⟩ (UV ((takeQ M q).takes q ||| (startB ||| foundB))))) := ⟨MIn.set hI.drew' _ _ (take_step M q hqn _ rfl), (hK.drew).setCell (Or.inl (by simp)) _⟩
          clear hI hK hcn
          generalize (takeQ M q).takes q ||| (startB ||| foundB) = Z at *
          generalize (takeQ M q).takes q = V at *
          go_wp2_with fail
          go_region
          go_wp2
          refine ⟨⟨q + 1, by go_num, by omega, H.out.1, H.out.2⟩, ?_⟩
          simp only [intOf]; omega
        · have hqe : q = 256 := by omega
          subst hqe
          have hIH : Hid (MIn _ _ _) := hI
          have hKH : Hid (Kept _ _ _) := hK
          clear hI hK
          go_wp2
          go_end0
          exact ⟨rfl, by rw [eA.out]; exact hIH.out, hKH.out⟩

set_option maxHeartbeats 2000000 in
set_option maxRecDepth 100000 in
theorem way_any (m : MP) (g c : Nat) (hc : c < 256) (w : World) (h : MIn w g m) :
    Calls Try.prog 69 #[.pointer (some ⟨g, 0, none⟩), .int .u8 (c : Int)] w fun e w' => e = .returned (WV g 2 (m.takes c)) ∧ Kept [] w w' := by
  have hg : g < w.heap.size := Blk.lt h
  have c0 := h.takes hc
  clear h
  generalize m.takes c = V at *
  have hk : Hid (Kept [] w (w.alloc (.cells #[.pointer (some ⟨g, 2, none⟩), UV V] 123)).drew) := ((Kept.refl [] w).alloc _).drew
  go_enter Try.func69, Try.ntmps69
  go_wp2_with fail
  go_region
  go_wp2
  refine bodyPost_ret (v := WV g 2 V) (by simp [results, Try.results69, go_sem]) rfl ⟨rfl, hk.out⟩

/-- Behind some bytes of a line. -/
structure MaIn (w0 w : World) (g : Nat) (m : MP) : Prop where
  mi : MIn w g m
  k : Kept [] w0 w

set_option maxHeartbeats 4000000 in
set_option maxRecDepth 100000 in
theorem matches_any (M : MP) (g : Nat) (t : ByteArray) (ht : t.size ≤ 1000) (w : World) (h : MIn w g M) :
    Calls Try.prog 45 #[.pointer (some ⟨g, 0, none⟩), .string t] w fun e w' => e = .returned (.bool (matchesN M t)) ∧ Kept [] w w' := by
  have hg : g < w.heap.size := Blk.lt h
  have c0 := h.beg
  have hst : Hid (MIn w g M ∧ Kept [] w w) := ⟨h, Kept.refl _ _⟩
  clear h
  go_enter Try.func45, Try.ntmps45
  go_wp2_with fail
  go_loopw [5, 6] (fun sv iv wr => ∃ q : Nat, sv = .int .u64 ((setN M t q).toNat : Int) ∧ iv = .int .i64 (q : Int) ∧ q ≤ t.size ∧ MIn wr g M ∧ Kept [] w wr) (fun _ iv _ => ((t.size : Int) - intOf iv).toNat)
  case atStart => exact ⟨0, rfl, rfl, by omega, hst.out.1, hst.out.2⟩
  case round =>
    obtain ⟨q, rfl, rfl, hq, hI, hK⟩ := hrel
    clear hst c0
    by_cases hlt : (q : Int) < (t.size : Int)
    · have hqn : q < t.size := by omega
      have hc256 : t[q].toNat < 256 := t[q].toNat_lt
      have hwy : Hid (Calls _ _ _ _ _) := way_any M g t[q].toNat hc256 wr hI
      have e1 : Hid (setN M t (q + 1) = fromP M (M.takes t[q].toNat) (setN M t q)) := by show setN M t (q + 1) = _; rw [setN, dif_pos hqn]
      have hfr : Hid (∀ w', Kept [] wr w' → Calls Try.prog 70 #[WV g 2 (M.takes t[q].toNat), .int .u64 ((setN M t q).toNat : Int)] w' fun e w2 => e = .returned (.int .u64 ((fromP M (M.takes t[q].toNat) (setN M t q)).toNat : Int)) ∧ Kept [] w' w2) := fun w' k => from_any M g 2 _ _ w' (TabAt.kept hI.tab k (Blk.lt hI))
      have hIH : Hid (MIn _ _ _) := hI
      have hKH : Hid (Kept _ _ _) := hK
      clear hI hK
      generalize fromP M (M.takes t[q].toNat) (setN M t q) = F at *
      generalize M.takes t[q].toNat = T at *
      generalize setN M t q = S at *
      go_wp2_with (first
        | (go_at_call 69
           refine hwy.out.mono ?_
           rintro _ w1 ⟨rfl, k1⟩
           have k2 : Kept [] wr (w1.alloc (.cells #[.pointer (some ⟨g, 2, none⟩), UV T] 123)) := k1.alloc _)
        | (go_at_call 70
           refine (hfr.out _ k2).mono ?_
           rintro _ w3 ⟨rfl, k3⟩
           have k4 := k2.trans k3))
      refine ⟨⟨q + 1, by rw [e1.out], by go_num, by omega, Blk.kept hIH.out k4 (by simp), hKH.out.trans k4⟩, ?_⟩
      simp only [intOf]; omega
    · have hqe : q = t.size := by omega
      subst hqe
      have d0 := hI.en
      have ha := and_u (setN M t t.size) M.en
      have hKH : Hid (Kept _ _ _) := hK
      have e0 : Hid (matchesN M t = !decide (setN M t t.size &&& M.en = 0#64)) := rfl
      clear hI hK
      generalize setN M t t.size &&& M.en = X at *
      by_cases hz : X = 0#64
      · have hX0 : (X.toNat : Int) = 0 := (u_zero _).2 hz
        have e1 : Hid (matchesN M t = false) := by show matchesN M t = false; rw [e0.out]; simp [hz]
        clear hz e0
        go_wp2
        go_ret
        exact ⟨by rw [e1.out]; rfl, hKH.out⟩
      · have hX0 : (X.toNat : Int) ≠ 0 := fun hc => hz ((u_zero _).1 hc)
        have e1 : Hid (matchesN M t = true) := by show matchesN M t = true; rw [e0.out]; simp [hz]
        clear hz e0
        go_wp2
        go_ret
        have hb : (((X.toNat : Nat) : Int) != 0) = true := bne_iff_ne.2 hX0
        exact ⟨by rw [e1.out]; show Ending.returned (Value.bool (((X.toNat : Nat) : Int) != 0)) = _; rw [hb], hKH.out⟩

end Go.Proofs.Ytgifhgnccmnbiaa

set_option linter.unusedVariables false
set_option linter.unusedSimpArgs false
namespace Go.Proofs.Ytgifhgnccmnbiaa
open Go.RowKit Go.IntWalk

theorem nextM_set (m : MP) (q : Nat) (s : B64) (hq : q < 63) : (mCells m).setIfInBounds (2 + q) (UV s) = mCells (nextM m q s) :=
  m_set_next _ _ q s hq ⟨rfl, rfl⟩ rfl (fun _ _ => rfl) rfl rfl rfl

/-- A pattern's nodes in memory. -/
structure NodesIn (w : World) (B : Nat) (v : Value) (ns : List AN) (xs : List IV) : Prop where
  row : w.ownsRow B 119 8 v ns.length (nodesCells ns xs)
  len : xs.length = ns.length
  items : ∀ (i : Nat) (n : AN) (x : IV), ns[i]? = some n → xs[i]? = some x → ItemsOk w B x n.its
theorem row_kept0 {w w' : World} {B e z n : Nat} {v : Value} {ys : List Value} (h : w.ownsRow B e z v n ys) (k : Kept [] w w') : w'.ownsRow B e z v n ys := by
  refine ⟨h.1, ?_⟩
  rcases h.2 with h1 | ⟨g, cap, cur, h1, h2, h3, h4⟩
  · exact Or.inl h1
  · have hlt : g < w.heap.size := (Array.getElem?_eq_some_iff.1 h3).1
    exact Or.inr ⟨g, cap, cur, h1, h2, (k.block g hlt (by simp)).trans h3, h4⟩
theorem NodesIn.kept {w w' : World} {B : Nat} {v : Value} {ns : List AN} {xs : List IV} (h : NodesIn w B v ns xs) (k : Kept [] w w') : NodesIn w' B v ns xs :=
  ⟨row_kept0 h.row k, h.len, fun i n x a c => row_kept0 (h.items i n x a c) k⟩

theorem learnQ_whole (m : MP) (st : B64) (n : AN) (fold : Bool) : ∀ q, (learnQ m st n fold q).whole = m.whole := fun q => by
  unfold learnQ
  rfl
theorem learnP_whole (m : MP) (st : B64) (n : AN) (fold : Bool) : (learnP m st n fold).whole = m.whole := by
  unfold learnP
  repeat' split
  all_goals first | rfl | exact learnQ_whole _ _ _ _ _
theorem buildQ_whole (ns : List AN) (P : GP) (fold whole : Bool) : ∀ q, (buildQ ns P fold whole q).whole = whole
  | 0 => rfl
  | q + 1 => by
    rw [buildQ]
    cases ns[P.node q]? with
    | none => exact buildQ_whole ns P fold whole q
    | some n => exact (learnP_whole _ _ _ _).trans (buildQ_whole ns P fold whole q)

set_option maxHeartbeats 1000000 in
set_option maxRecDepth 100000 in
theorem build_any (ns : List AN) (xs : List IV) (B : Nat) (v : Value) (size : Int) (fold whole : Bool) (w : World) (h : NodesIn w B v ns xs) (hl : ns.length ≤ 900) (hn : NodesFit ns) (hits : ∀ n, n ∈ ns → n.its.length ≤ 1000) (hfit : (lastQ ns ns.length).count ≤ 60) (hnd : ∀ i, (lastQ ns ns.length).node i ≤ 10000) :
    Calls Try.prog 44 #[.agg #[v, .int .i64 size], .bool fold, .bool whole] w fun e w' => e = .returned (.agg (mCells (finP (buildP ns (lastQ ns ns.length) fold whole)))) ∧ Kept [] w w' := by
  have hz := zeroV_part
  have hzm := zeroV_mach
  have hw : Hid (∀ w', Kept [] w w' → PartCall _ _ w' _) := fun w' k => write_any ns xs B v w' (row_kept0 h.row k) h.len hl hn
  generalize hP : lastQ ns ns.length = P at *
  obtain ⟨va, cap, hv⟩ : ∃ a cap, v = .slice a ns.length cap := by
    rcases h.row.2 with ⟨h1, h2⟩ | ⟨g, cap, _, h1, _⟩
    · exact ⟨none, 0, by rw [h1, h2]⟩
    · exact ⟨_, cap, h1⟩
  subst hv
  have k0 : Kept [] w ((w.alloc (.cells #[.slice va ns.length cap, .int .i64 size] 57)).alloc (.cells (mCells {}) 71)) := ((Kept.refl _ _).alloc _).alloc _
  have p0 : Blk ((w.alloc (.cells #[.slice va ns.length cap, .int .i64 size] 57)).alloc (.cells (mCells {}) 71)) w.heap.size #[.slice va ns.length cap, .int .i64 size] 57 := (Blk.new _ _ _).alloc _
  have r0 : MIn ((w.alloc (.cells #[.slice va ns.length cap, .int .i64 size] 57)).alloc (.cells (mCells {}) 71)) (w.heap.size + 1) {} := Blk.new1 w _ _ _
  have k0 : Hid (Kept _ _ _) := k0
  have p0 : Hid (Blk _ _ _ _) := p0
  have r0 : Hid (MIn _ _ _) := r0
  cases hem : P.empty with
  | false =>
    go_enter Try.func44, Try.ntmps44
    go_wp2_with (first
      | (go_at_call 65
         refine (hw.out _ k0.out).mono ?_
         rintro e w1 ⟨rfl, k1⟩
         have p1 := p0.out.kept k1 (by simp)
         have r1 := Blk.kept r0.out k1 (by simp)
         have K1 := k0.out.trans k1
         have L1 := Blk.lt r1)
      | (with_reducible refine wpList_store_part ?_ (.tmp 7) (.tmp 13) ?_ w1.heap.size ?_ {} P ?_ ?_ ?_
         · rfl
         · rfl
         · rfl
         · rfl
         · exact Blk.new w1 (gpCells {}) 113
         intro w2 hb2 hk2 hs2
         have p2 := (p1.alloc (.cells (gpCells {}) 113)).kept hk2 (by simp; omega)
         have r2 := Blk.kept (Blk.alloc r1 (.cells (gpCells {}) 113)) hk2 (by simp; omega)
         have K2 : Kept [] w w2 := (K1.alloc (.cells (gpCells {}) 113)).into hk2 (by omega)
         have c3 := hb2.part3
         have L2 := hb2.lt
         clear hs2 hk2)
      | (refine wpList_build_mach rfl (.tmp 15) rfl whole P.last rfl ?_)
      | (with_reducible refine wpList_store_mach ?_ (.tmp 8) (.tmp 16) ?_ w2.heap.size ?_ {} { whole := whole, last := P.last } ?_ ?_ ?_
         · rfl
         · rfl
         · rfl
         · rfl
         · exact Blk.new w2 (mCells {}) 71
         intro w3 hb3 hk3 hs3
         have I3 : BdIn w w3 w1.heap.size w2.heap.size (.slice va ns.length cap) size P { whole := whole, last := P.last } := ⟨hb3, (hb2.alloc (.cells (mCells {}) 71)).kept hk3 (by simp; omega), (p2.alloc (.cells (mCells {}) 71)).kept hk3 (by simp; omega), Blk.kept (Blk.alloc r2 (.cells (mCells {}) 71)) hk3 (by simp; omega), (K2.alloc (.cells (mCells {}) 71)).into hk3 (by omega), L1, L2⟩
         clear c3 hs3 hk3
         have d1 := I3.pt.part1
         rw [hem] at d1
         have d2 := I3.pt.part2
         have d3 := I3.mi.next (i := 60) (by decide)
         have f3 := I3.mi.frozen 62
         have d4 := I3.mi.last
         have f4 := I3.mi.frozen 323
         have H0 : Hid (BdIn w (w3.setCell ⟨w2.heap.size, 62, none⟩ (UV P.first)) w1.heap.size w2.heap.size (.slice va ns.length cap) size P (buildQ ns P fold whole 0)) := by
           have e : buildQ ns P fold whole 0 = nextM { whole := whole, last := P.last } 60 P.first := by simp [buildQ, build0, hem, nextM]
           rw [e]
           exact I3.set 62 (UV P.first) (nextM_set _ 60 _ (by decide))))
    go_loopw [9] (fun iv wr => ∃ q : Nat, iv = .int .i64 (q : Int) ∧ q ≤ P.count ∧ BdIn w wr w1.heap.size w2.heap.size (.slice va ns.length cap) size P (buildQ ns P fold whole q)) (fun iv _ => ((P.count : Int) - intOf iv).toNat)
    case atStart => exact ⟨0, rfl, Nat.zero_le _, H0.out⟩
    case round =>
      obtain ⟨q, rfl, hq, hI⟩ := hrel
      clear H0 k0 p0 r0 hw K1 K2 p1 r1 k1 p2 r2 hb2 hb3 I3 d1 d2 d3 d4 f3 f4 hz hzm
      have hgs : w.heap.size ≤ w2.heap.size := by omega
      by_cases hlt : (q : Int) < (P.count : Int)
      · have hqn : q < P.count := by omega
        have hq60 : q < 60 := by omega
        have hq60i : (q : Int) < 60 := by omega
        have c0 := hI.pt.part0
        have c1 : wr.cell? ⟨w1.heap.size, 4 + q, none⟩ = some (UV (P.next q)) := by rw [hI.pt.cell, part_next _ _ hq60]
        have c2 : wr.cell? ⟨w1.heap.size, 64 + q, none⟩ = some (.int .i64 (P.node q : Int)) := by rw [hI.pt.cell, part_node _ _ hq60]
        have c3 : wr.cell? ⟨w.heap.size, 0, none⟩ = some (.slice va ns.length cap) := by rw [hI.pat.cell]; rfl
        have c4 := hI.mi.next (i := q) (by omega)
        have f4 := hI.mi.frozen (2 + q)
        have L3 := hI.lt
        have L4 := hI.ltg
        have I9 := hI.set (2 + q) (UV (P.next q)) (nextM_set _ q _ (by omega))
        have hnq := hnd q
        by_cases hnode : (P.node q : Int) < (ns.length : Int)
        · have hnn : P.node q < ns.length := by omega
          obtain ⟨n, hn1⟩ : ∃ n, ns[P.node q]? = some n := ⟨_, List.getElem?_eq_getElem hnn⟩
          obtain ⟨x, hx1⟩ : ∃ x, xs[P.node q]? = some x := ⟨_, List.getElem?_eq_getElem (by have := h.len; omega)⟩
          obtain ⟨gN, cap', hv⟩ := own_form h.row (by omega)
          simp only [Value.slice.injEq] at hv
          obtain ⟨rfl, _, rfl⟩ := hv
          have hrg := range_kept (node_range h.row hn1 hx1) I9.k (by simp) (by simp [AN.cells])
          have hits1 := h.items _ _ _ hn1 hx1
          have hne : (ivV x).ownBlock ≠ some w2.heap.size := fun hc => by have := hits1.lt _ hc; omega
          have hlearn : Hid (Calls _ _ _ _ _) := learn_any _ w2.heap.size (1#64 <<< q) n x fold B _ I9.mi (row_kept0 hits1 I9.k) (hits n (List.mem_of_getElem? hn1)) hne
          have eB : Hid (buildQ ns P fold whole (q + 1) = learnP (nextM (buildQ ns P fold whole q) q (P.next q)) (1#64 <<< q) n fold) := by
            show buildQ ns P fold whole (q + 1) = _
            rw [buildQ, hn1]
          have I9H : Hid (BdIn _ _ _ _ _ _ _ _) := I9
          have hw1 : IntKind.wrap .u64 ((2 : Int) ^ q) = ((1#64 <<< q : B64).toNat : Int) := by rw [← one_shl (by omega)]; exact wrap_u _ (BitVec.isLt _)
          have hw2 : IntKind.wrap .u64 (1 * (2 : Int) ^ q) = ((1#64 <<< q : B64).toNat : Int) := by rw [Int.one_mul]; exact hw1
          generalize hSS : (1#64 <<< q : B64) = S at *
          clear hSS hn1 hx1 hits1 hne h hits hI I9 hn hfit hnd
          go_wp2_with (first
            | (with_reducible refine wpList_load_node ?_ (.tmp 65) ?_ gN (P.node q * 8) ?_ n x ?_ ?_
               · rfl
               · rfl
               · first | rfl | (simp [Act.eval])
               · exact hrg)
            | (go_at_call 66
               with_reducible refine hlearn.out.mono ?_
               rintro e w8 ⟨rfl, h8, k8⟩
               have I10 : Hid (BdIn _ _ _ _ _ _ _ _) := I9H.out.into h8 k8))
          refine ⟨⟨q + 1, by go_num, by omega, by rw [eB.out]; exact I10.out⟩, ?_⟩
          simp only [intOf]; omega
        · have hnn : ns[P.node q]? = none := List.getElem?_eq_none (by omega)
          have eB : Hid (buildQ ns P fold whole (q + 1) = nextM (buildQ ns P fold whole q) q (P.next q)) := by
            show buildQ ns P fold whole (q + 1) = _
            rw [buildQ, hnn]
          have I9H : Hid (BdIn _ _ _ _ _ _ _ _) := I9
          have hnode : (ns.length : Int) ≤ (P.node q : Int) := by omega
          clear hnn h hits hI I9 hn hfit hnd
          go_wp2
          refine ⟨⟨q + 1, by go_num, by omega, by rw [eB.out]; exact I9H.out⟩, ?_⟩
          simp only [intOf]; omega
      · have hqe : P.count = q := by omega
        have eB : Hid (buildP ns P fold whole = buildQ ns P fold whole q) := by show buildP ns P fold whole = _; unfold buildP; rw [hqe]
        have c0 := hI.pt.part0
        have hIH : Hid (BdIn _ _ _ _ _ _ _ _) := hI
        have hMw : (buildQ ns P fold whole q).whole = whole := buildQ_whole ns P fold whole q
        clear hqe hI h hits hn hfit hnd
        generalize buildQ ns P fold whole q = M at *
        have eF : Hid (finP (buildP ns P fold whole) = if whole = true then begM M else anyP (begM M)) := by
          show finP _ = _
          rw [eB.out]
          unfold finP
          rw [hMw]
        clear eB hMw
        have hfe : Hid (∀ w', MIn w' w2.heap.size M → Calls _ _ _ w' _) := fun w' h => findEnds_any M w2.heap.size w' h
        have haa : Hid (∀ w', MIn w' w2.heap.size (begM M) → Calls _ _ _ w' _) := fun w' h => allowAnywhere_any (begM M) w2.heap.size w' h
        cases whole with
        | true =>
          rw [if_pos rfl] at eF
          generalize hN : begM M = N at *
          clear hN haa
          go_wp2_with (first
            | (go_at_call 67
               with_reducible refine (hfe.out _ hIH.out.mi).mono ?_
               rintro e w7 ⟨rfl, h7, k7⟩
               have I7 : Hid (BdIn _ _ _ _ _ _ _ _) := hIH.out.into h7 k7)
            | (with_reducible refine wpList_load_mach ?_ (.tmp 8) ?_ w2.heap.size ?_ N ?_ ?_
               · rfl
               · rfl
               · rfl
               · exact I7.out.mi)
            | (with_reducible refine wpList_store_mach ?_ (.tmp 6) (.tmp 73) ?_ (w.heap.size + 1) ?_ {} N ?_ ?_ ?_
               · rfl
               · rfl
               · rfl
               · rfl
               · exact I7.out.res
               intro w8 hb8 hk8 hs8
               have hK8 := I7.out.k.into hk8 (by omega)))
          exact bodyPost_ret (v := .agg (mCells N)) (results_mach Try.results44 _ _ _ N rfl hb8) rfl ⟨by rw [eF.out], hK8⟩
        | false =>
          rw [if_neg (by decide)] at eF
          generalize hN : anyP (begM M) = N at *
          clear hN
          go_wp2_with (first
            | (go_at_call 67
               with_reducible refine (hfe.out _ hIH.out.mi).mono ?_
               rintro e w7 ⟨rfl, h7, k7⟩
               have I7 : Hid (BdIn _ _ _ _ _ _ _ _) := hIH.out.into h7 k7)
            | (go_at_call 68
               with_reducible refine (haa.out _ I7.out.mi).mono ?_
               rintro e w6 ⟨rfl, h6, k6⟩
               have I6 : Hid (BdIn _ _ _ _ _ _ _ _) := I7.out.into h6 k6)
            | (with_reducible refine wpList_load_mach ?_ (.tmp 8) ?_ w2.heap.size ?_ N ?_ ?_
               · rfl
               · rfl
               · rfl
               · exact I6.out.mi)
            | (with_reducible refine wpList_store_mach ?_ (.tmp 6) (.tmp 73) ?_ (w.heap.size + 1) ?_ {} N ?_ ?_ ?_
               · rfl
               · rfl
               · rfl
               · rfl
               · exact I6.out.res
               intro w8 hb8 hk8 hs8
               have hK8 := I6.out.k.into hk8 (by omega)))
          exact bodyPost_ret (v := .agg (mCells N)) (results_mach Try.results44 _ _ _ N rfl hb8) rfl ⟨by rw [eF.out], hK8⟩
  | true =>
    have hor := or_u P.last startB
    rw [startB_nat] at hor
    obtain ⟨Z, hZ⟩ : ∃ Z, Hid (P.last ||| startB = Z) := ⟨_, rfl⟩
    rw [hZ.out] at hor
    go_enter Try.func44, Try.ntmps44
    go_wp2_with (first
      | (go_at_call 65
         refine (hw.out _ k0.out).mono ?_
         rintro e w1 ⟨rfl, k1⟩
         have p1 := p0.out.kept k1 (by simp)
         have r1 := Blk.kept r0.out k1 (by simp)
         have K1 := k0.out.trans k1
         have L1 := Blk.lt r1)
      | (with_reducible refine wpList_store_part ?_ (.tmp 7) (.tmp 13) ?_ w1.heap.size ?_ {} P ?_ ?_ ?_
         · rfl
         · rfl
         · rfl
         · rfl
         · exact Blk.new w1 (gpCells {}) 113
         intro w2 hb2 hk2 hs2
         have p2 := (p1.alloc (.cells (gpCells {}) 113)).kept hk2 (by simp; omega)
         have r2 := Blk.kept (Blk.alloc r1 (.cells (gpCells {}) 113)) hk2 (by simp; omega)
         have K2 : Kept [] w w2 := (K1.alloc (.cells (gpCells {}) 113)).into hk2 (by omega)
         have c3 := hb2.part3
         have L2 := hb2.lt
         clear hs2 hk2)
      | (refine wpList_build_mach rfl (.tmp 15) rfl whole P.last rfl ?_)
      | (with_reducible refine wpList_store_mach ?_ (.tmp 8) (.tmp 16) ?_ w2.heap.size ?_ {} { whole := whole, last := P.last } ?_ ?_ ?_
         · rfl
         · rfl
         · rfl
         · rfl
         · exact Blk.new w2 (mCells {}) 71
         intro w3 hb3 hk3 hs3
         have I3 : BdIn w w3 w1.heap.size w2.heap.size (.slice va ns.length cap) size P { whole := whole, last := P.last } := ⟨hb3, (hb2.alloc (.cells (mCells {}) 71)).kept hk3 (by simp; omega), (p2.alloc (.cells (mCells {}) 71)).kept hk3 (by simp; omega), Blk.kept (Blk.alloc r2 (.cells (mCells {}) 71)) hk3 (by simp; omega), (K2.alloc (.cells (mCells {}) 71)).into hk3 (by omega), L1, L2⟩
         clear c3 hs3 hk3
         have d1 := I3.pt.part1
         rw [hem] at d1
         have d2 := I3.pt.part2
         have d3 := I3.mi.next (i := 60) (by decide)
         have f3 := I3.mi.frozen 62
         have d4 := I3.mi.last
         have f4 := I3.mi.frozen 323
         have H0 : Hid (BdIn w ((w3.setCell ⟨w2.heap.size, 62, none⟩ (UV P.first)).setCell ⟨w2.heap.size, 323, none⟩ (UV Z)) w1.heap.size w2.heap.size (.slice va ns.length cap) size P (buildQ ns P fold whole 0)) := by
           have e : buildQ ns P fold whole 0 = { nextM { whole := whole, last := P.last } 60 P.first with last := Z } := by simp [buildQ, build0, hem, nextM, hZ.out]
           rw [e]
           exact (I3.set 62 (UV P.first) (nextM_set _ 60 _ (by decide))).set 323 (UV Z) (m_set_last _ Z)))
    go_loopw [9] (fun iv wr => ∃ q : Nat, iv = .int .i64 (q : Int) ∧ q ≤ P.count ∧ BdIn w wr w1.heap.size w2.heap.size (.slice va ns.length cap) size P (buildQ ns P fold whole q)) (fun iv _ => ((P.count : Int) - intOf iv).toNat)
    case atStart => exact ⟨0, rfl, Nat.zero_le _, H0.out⟩
    case round =>
      obtain ⟨q, rfl, hq, hI⟩ := hrel
      clear H0 k0 p0 r0 hw K1 K2 p1 r1 k1 p2 r2 hb2 hb3 I3 d1 d2 d3 d4 f3 f4 hz hzm
      have hgs : w.heap.size ≤ w2.heap.size := by omega
      by_cases hlt : (q : Int) < (P.count : Int)
      · have hqn : q < P.count := by omega
        have hq60 : q < 60 := by omega
        have hq60i : (q : Int) < 60 := by omega
        have c0 := hI.pt.part0
        have c1 : wr.cell? ⟨w1.heap.size, 4 + q, none⟩ = some (UV (P.next q)) := by rw [hI.pt.cell, part_next _ _ hq60]
        have c2 : wr.cell? ⟨w1.heap.size, 64 + q, none⟩ = some (.int .i64 (P.node q : Int)) := by rw [hI.pt.cell, part_node _ _ hq60]
        have c3 : wr.cell? ⟨w.heap.size, 0, none⟩ = some (.slice va ns.length cap) := by rw [hI.pat.cell]; rfl
        have c4 := hI.mi.next (i := q) (by omega)
        have f4 := hI.mi.frozen (2 + q)
        have L3 := hI.lt
        have L4 := hI.ltg
        have I9 := hI.set (2 + q) (UV (P.next q)) (nextM_set _ q _ (by omega))
        have hnq := hnd q
        by_cases hnode : (P.node q : Int) < (ns.length : Int)
        · have hnn : P.node q < ns.length := by omega
          obtain ⟨n, hn1⟩ : ∃ n, ns[P.node q]? = some n := ⟨_, List.getElem?_eq_getElem hnn⟩
          obtain ⟨x, hx1⟩ : ∃ x, xs[P.node q]? = some x := ⟨_, List.getElem?_eq_getElem (by have := h.len; omega)⟩
          obtain ⟨gN, cap', hv⟩ := own_form h.row (by omega)
          simp only [Value.slice.injEq] at hv
          obtain ⟨rfl, _, rfl⟩ := hv
          have hrg := range_kept (node_range h.row hn1 hx1) I9.k (by simp) (by simp [AN.cells])
          have hits1 := h.items _ _ _ hn1 hx1
          have hne : (ivV x).ownBlock ≠ some w2.heap.size := fun hc => by have := hits1.lt _ hc; omega
          have hlearn : Hid (Calls _ _ _ _ _) := learn_any _ w2.heap.size (1#64 <<< q) n x fold B _ I9.mi (row_kept0 hits1 I9.k) (hits n (List.mem_of_getElem? hn1)) hne
          have eB : Hid (buildQ ns P fold whole (q + 1) = learnP (nextM (buildQ ns P fold whole q) q (P.next q)) (1#64 <<< q) n fold) := by
            show buildQ ns P fold whole (q + 1) = _
            rw [buildQ, hn1]
          have I9H : Hid (BdIn _ _ _ _ _ _ _ _) := I9
          have hw1 : IntKind.wrap .u64 ((2 : Int) ^ q) = ((1#64 <<< q : B64).toNat : Int) := by rw [← one_shl (by omega)]; exact wrap_u _ (BitVec.isLt _)
          have hw2 : IntKind.wrap .u64 (1 * (2 : Int) ^ q) = ((1#64 <<< q : B64).toNat : Int) := by rw [Int.one_mul]; exact hw1
          generalize hSS : (1#64 <<< q : B64) = S at *
          clear hSS hn1 hx1 hits1 hne h hits hI I9 hn hfit hnd
          go_wp2_with (first
            | (with_reducible refine wpList_load_node ?_ (.tmp 65) ?_ gN (P.node q * 8) ?_ n x ?_ ?_
               · rfl
               · rfl
               · first | rfl | (simp [Act.eval])
               · exact hrg)
            | (go_at_call 66
               with_reducible refine hlearn.out.mono ?_
               rintro e w8 ⟨rfl, h8, k8⟩
               have I10 : Hid (BdIn _ _ _ _ _ _ _ _) := I9H.out.into h8 k8))
          refine ⟨⟨q + 1, by go_num, by omega, by rw [eB.out]; exact I10.out⟩, ?_⟩
          simp only [intOf]; omega
        · have hnn : ns[P.node q]? = none := List.getElem?_eq_none (by omega)
          have eB : Hid (buildQ ns P fold whole (q + 1) = nextM (buildQ ns P fold whole q) q (P.next q)) := by
            show buildQ ns P fold whole (q + 1) = _
            rw [buildQ, hnn]
          have I9H : Hid (BdIn _ _ _ _ _ _ _ _) := I9
          have hnode : (ns.length : Int) ≤ (P.node q : Int) := by omega
          clear hnn h hits hI I9 hn hfit hnd
          go_wp2
          refine ⟨⟨q + 1, by go_num, by omega, by rw [eB.out]; exact I9H.out⟩, ?_⟩
          simp only [intOf]; omega
      · have hqe : P.count = q := by omega
        have eB : Hid (buildP ns P fold whole = buildQ ns P fold whole q) := by show buildP ns P fold whole = _; unfold buildP; rw [hqe]
        have c0 := hI.pt.part0
        have hIH : Hid (BdIn _ _ _ _ _ _ _ _) := hI
        have hMw : (buildQ ns P fold whole q).whole = whole := buildQ_whole ns P fold whole q
        clear hqe hI h hits hn hfit hnd
        generalize buildQ ns P fold whole q = M at *
        have eF : Hid (finP (buildP ns P fold whole) = if whole = true then begM M else anyP (begM M)) := by
          show finP _ = _
          rw [eB.out]
          unfold finP
          rw [hMw]
        clear eB hMw
        have hfe : Hid (∀ w', MIn w' w2.heap.size M → Calls _ _ _ w' _) := fun w' h => findEnds_any M w2.heap.size w' h
        have haa : Hid (∀ w', MIn w' w2.heap.size (begM M) → Calls _ _ _ w' _) := fun w' h => allowAnywhere_any (begM M) w2.heap.size w' h
        cases whole with
        | true =>
          rw [if_pos rfl] at eF
          generalize hN : begM M = N at *
          clear hN haa
          go_wp2_with (first
            | (go_at_call 67
               with_reducible refine (hfe.out _ hIH.out.mi).mono ?_
               rintro e w7 ⟨rfl, h7, k7⟩
               have I7 : Hid (BdIn _ _ _ _ _ _ _ _) := hIH.out.into h7 k7)
            | (with_reducible refine wpList_load_mach ?_ (.tmp 8) ?_ w2.heap.size ?_ N ?_ ?_
               · rfl
               · rfl
               · rfl
               · exact I7.out.mi)
            | (with_reducible refine wpList_store_mach ?_ (.tmp 6) (.tmp 73) ?_ (w.heap.size + 1) ?_ {} N ?_ ?_ ?_
               · rfl
               · rfl
               · rfl
               · rfl
               · exact I7.out.res
               intro w8 hb8 hk8 hs8
               have hK8 := I7.out.k.into hk8 (by omega)))
          exact bodyPost_ret (v := .agg (mCells N)) (results_mach Try.results44 _ _ _ N rfl hb8) rfl ⟨by rw [eF.out], hK8⟩
        | false =>
          rw [if_neg (by decide)] at eF
          generalize hN : anyP (begM M) = N at *
          clear hN
          go_wp2_with (first
            | (go_at_call 67
               with_reducible refine (hfe.out _ hIH.out.mi).mono ?_
               rintro e w7 ⟨rfl, h7, k7⟩
               have I7 : Hid (BdIn _ _ _ _ _ _ _ _) := hIH.out.into h7 k7)
            | (go_at_call 68
               with_reducible refine (haa.out _ I7.out.mi).mono ?_
               rintro e w6 ⟨rfl, h6, k6⟩
               have I6 : Hid (BdIn _ _ _ _ _ _ _ _) := I7.out.into h6 k6)
            | (with_reducible refine wpList_load_mach ?_ (.tmp 8) ?_ w2.heap.size ?_ N ?_ ?_
               · rfl
               · rfl
               · rfl
               · exact I6.out.mi)
            | (with_reducible refine wpList_store_mach ?_ (.tmp 6) (.tmp 73) ?_ (w.heap.size + 1) ?_ {} N ?_ ?_ ?_
               · rfl
               · rfl
               · rfl
               · rfl
               · exact I6.out.res
               intro w8 hb8 hk8 hs8
               have hK8 := I6.out.k.into hk8 (by omega)))
          exact bodyPost_ret (v := .agg (mCells N)) (results_mach Try.results44 _ _ _ N rfl hb8) rfl ⟨by rw [eF.out], hK8⟩

end Go.Proofs.Ytgifhgnccmnbiaa
