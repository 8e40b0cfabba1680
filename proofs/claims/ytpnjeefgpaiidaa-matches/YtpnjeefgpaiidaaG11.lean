/- The machine: Build: the machine of a pattern's nodes. -/
import Derived.Test.YtpnjeefgpaiidaaG10
import Derived.Test.YtpnjeefgpaiidaaG06
set_option linter.unusedVariables false
set_option linter.unusedSimpArgs false
namespace Go.Proofs.Ytpnjeefgpaiidaa
open Go.RowKit Go.IntWalk

theorem mCell_one (m : MP) (i : Nat) : (mCell m i).oneCell' = true := by
  unfold mCell
  repeat' split
  all_goals rfl
theorem mCells_one (m : MP) : (mCells m).all (·.oneCell') = true := cellsF_one fun j _ => mCell_one m j
theorem zero_mach : (Try.prog.info? 67).map (fun i => (i.zero, i.size)) = some (some (.agg (mCells {})), 321) := by kernel_rfl
theorem zeroV_mach (w : World) : (zeroValue 67).run Try.prog w = .ok (.agg (mCells {})) w := by
  have h := zero_mach
  cases hq : Try.prog.info? 67 with
  | none => simp [hq] at h
  | some i =>
    simp [hq] at h
    simp [zeroValue, typeInfo, hq, h.1]
theorem size_mach : (Try.prog.info? 67).map (·.size) = some 321 := by kernel_rfl

theorem wpList_load_mach {ops : Array Oper} {rest : List Oper} {o : Oper} {a : Act} {w : World} {Q : Exit → Act → World → Prop} (hgd : o.guard = none) (x : Operand) (ho : o.op = .load 67 x)
    (g : Nat) (hx : a.eval x = .pointer (some ⟨g, 0, none⟩)) (p : MP) (hg : MIn w g p)
    (h : wpList Try.prog ops Q rest (a.put o.dst (.agg (mCells p))) w) : wpList Try.prog ops Q (o :: rest) a w :=
  wpList_load_row hgd _ x ho g hx _ _ _ _ hg Try.underlying67 rfl (by rw [mCells_size]; exact size_mach) h
theorem wpList_store_mach {ops : Array Oper} {rest : List Oper} {o : Oper} {a : Act} {w : World} {Q : Exit → Act → World → Prop} (hgd : o.guard = none) (x y : Operand) (ho : o.op = .store 67 x y)
    (g : Nat) (hx : a.eval x = .pointer (some ⟨g, 0, none⟩)) (q p : MP) (hy : a.eval y = .agg (mCells p)) (hg : MIn w g q)
    (h : ∀ w', MIn w' g p → Kept [g] w w' → w'.heap.size = w.heap.size → wpList Try.prog ops Q rest (a.put o.dst undef) w') : wpList Try.prog ops Q (o :: rest) a w := by
  refine wpList_plain hgd fun K hK => ?_
  have hr := run_storeVar_row (P := Try.prog) w g 67 67 (mCells q) (mCells p) hg (by rw [mCells_size]; exact size_mach) (by simp) (mCells_one p)
  unfold Oper.wp execOp
  simp only [ho, hx, hy, Instr.storeAt, Instr.sureAddr, Sem.run_bind, Sem.run_pure, Result.andThen_ok, hr]
  exact hK _ _ (h _ (Blk.storeRow hg) (Kept.setRow w g _) (by simp))
theorem results_mach {fn : Func} {r : Tmp} (h : fn.results = #[.cell r 67]) (tmps : Array Value) (w : World) (g : Nat) (p : MP)
    (hp : tmps.getD r undef = .pointer (some ⟨g, 0, none⟩)) (hg : MIn w g p) : (results fn tmps).run Try.prog w = .ok (.agg (mCells p)) w :=
  results_cell_row h tmps w g _ _ _ _ hp hg Try.underlying67 rfl (by rw [mCells_size]; exact size_mach)

theorem m_set_whole (m : MP) (b : Bool) : (mCells m).setIfInBounds 0 (.bool b) = mCells { m with whole := b } := cellsF_set _ _ _ _ fun j hj => by
  by_cases h : j = 0
  · subst h; rfl
  · unfold mCell; simp only [if_neg h]
theorem build_mach (w : World) (b : Bool) (s : B64) : (Instr.build 67 #[(0, .bool b), (5, .int .u64 (s.toNat : Int))]).run Try.prog w = .ok (.agg (mCells { whole := b, last := s })) w := by
  unfold Instr.build
  rw [Sem.run_bind, zeroV_mach w]
  simp [Sem.run_bind, run_underlying Try.underlying67, go_sem]
  have hne : mCells {} ≠ #[] := fun h => by have := mCells_size {}; rw [h] at this; simp at this
  have e := m_set_last { whole := b } s
  have e0 : (mCells {}).setIfInBounds 0 (.bool b) = mCells { whole := b } := m_set_whole {} b
  rw [← e0] at e
  rw [e]
  simp [hne]
theorem wpList_build_mach {ops : Array Oper} {rest : List Oper} {o : Oper} {a : Act} {w : World} {Q : Exit → Act → World → Prop} (hgd : o.guard = none) (x y : Operand) (ho : o.op = .build 67 #[(0, x), (5, y)])
    (b : Bool) (s : B64) (hx : a.eval x = .bool b) (hy : a.eval y = .int .u64 (s.toNat : Int))
    (h : wpList Try.prog ops Q rest (a.put o.dst (.agg (mCells { whole := b, last := s }))) w) : wpList Try.prog ops Q (o :: rest) a w :=
  wpList_build_value hgd _ _ ho _ (by simp only [List.map_toArray, List.map_cons, List.map_nil, hx, hy]) _ (build_mach w b s) h

def nextM (m : MP) (q : Nat) (s : B64) : MP := { m with next := fun j => if j = q then s else m.next j }
def build0 (p : GP) (whole : Bool) : MP := { nextM { whole := whole, last := p.last } 60 p.first with last := if p.empty = true then p.last ||| startB else p.last }
def buildQ (ns : List AN) (p : GP) (fold whole : Bool) : Nat → MP
  | 0 => build0 p whole
  | q + 1 =>
    match ns[p.node q]? with
    | some n => learnP (nextM (buildQ ns p fold whole q) q (p.next q)) (1#64 <<< q) n fold
    | none => nextM (buildQ ns p fold whole q) q (p.next q)
def buildP (ns : List AN) (p : GP) (fold whole : Bool) : MP := buildQ ns p fold whole p.count

/-- The pattern, the result's room, the part, the machine so far. -/
structure BdIn (w0 w : World) (gp g : Nat) (v : Value) (size : Int) (p : GP) (m : MP) : Prop where
  mi : MIn w g m
  pt : Blk w gp (gpCells p) 109
  pat : Blk w w0.heap.size #[v, .int .i64 size] 57
  res : MIn w (w0.heap.size + 1) {}
  k : Kept [] w0 w
  lt : w0.heap.size + 1 < gp
  ltg : gp < g
theorem BdIn.into {w0 w w' : World} {gp g : Nat} {v : Value} {size : Int} {p : GP} {m m' : MP} (h : BdIn w0 w gp g v size p m) (hm : MIn w' g m') (k : Kept [g] w w') : BdIn w0 w' gp g v size p m' := by
  have := h.lt
  have := h.ltg
  exact ⟨hm, h.pt.kept k (by simp; omega), h.pat.kept k (by simp; omega), Blk.kept h.res k (by simp; omega), h.k.into k (by omega), h.lt, h.ltg⟩
theorem BdIn.set {w0 w : World} {gp g : Nat} {v : Value} {size : Int} {p : GP} {m m' : MP} (h : BdIn w0 w gp g v size p m) (i : Nat) (u : Value) (he : (mCells m).setIfInBounds i u = mCells m') : BdIn w0 (w.setCell ⟨g, i, none⟩ u) gp g v size p m' := by
  refine h.into (m' := m') ?_ ((Kept.refl _ _).setCell (Or.inl (by simp)) _)
  have := Blk.set h.mi i u
  rw [he] at this
  exact this

end Go.Proofs.Ytpnjeefgpaiidaa

set_option linter.unusedVariables false
set_option linter.unusedSimpArgs false
namespace Go.Proofs.Ytpnjeefgpaiidaa
open Go.RowKit Go.IntWalk

theorem nextM_set (m : MP) (q : Nat) (s : B64) (hq : q < 61) : (mCells m).setIfInBounds (1 + q) (UV s) = mCells (nextM m q s) :=
  m_set_next _ _ q s hq rfl rfl (fun _ _ => rfl) rfl rfl rfl

theorem one_shl {q : Nat} (hq : q < 64) : ((1#64 <<< q : B64).toNat : Int) = 2 ^ q := by
  have h : 2 ^ q < 2 ^ 64 := Nat.pow_lt_pow_right (by decide) hq
  rw [BitVec.toNat_shiftLeft, Nat.shiftLeft_eq, Nat.mod_eq_of_lt (by simpa using h)]
  simp

/-- A pattern's nodes in memory. -/
structure NodesIn (w : World) (B : Nat) (v : Value) (ns : List AN) (xs : List IV) : Prop where
  row : w.ownsRow B 115 8 v ns.length (nodesCells ns xs)
  len : xs.length = ns.length
  items : ∀ (i : Nat) (n : AN) (x : IV), ns[i]? = some n → xs[i]? = some x → ItemsOk w B x n.its
theorem row_kept0 {w w' : World} {B e z n : Nat} {v : Value} {ys : List Value} (h : w.ownsRow B e z v n ys) (k : Kept [] w w') : w'.ownsRow B e z v n ys := by
  refine ⟨h.1, ?_⟩
  rcases h.2 with h1 | ⟨g, cap, cur, h1, h2, h3, h4⟩
  · exact Or.inl h1
  · have hlt : g < w.heap.size := (Array.getElem?_eq_some_iff.1 h3).1
    exact Or.inr ⟨g, cap, cur, h1, h2, (k.block g hlt (by simp)).trans h3, h4⟩
theorem NodesIn.kept {w w' : World} {B : Nat} {v : Value} {ns : List AN} {xs : List IV} (h : NodesIn w B v ns xs) (k : Kept [] w w') : NodesIn w' B v ns xs :=
  ⟨row_kept0 h.row k, h.len, fun i n x a c => row_kept0 (h.items i n x a c) k⟩

set_option maxHeartbeats 1000000 in
set_option maxRecDepth 100000 in
theorem build_any (ns : List AN) (xs : List IV) (B : Nat) (v : Value) (size : Int) (fold whole : Bool) (w : World) (h : NodesIn w B v ns xs) (hl : ns.length ≤ 900) (hn : NodesFit ns) (hits : ∀ n, n ∈ ns → n.its.length ≤ 1000) (hfit : (lastQ ns ns.length).count ≤ 60) (hnd : ∀ i, (lastQ ns ns.length).node i ≤ 10000) :
    Calls Try.prog 43 #[.agg #[v, .int .i64 size], .bool fold, .bool whole] w fun e w' => e = .returned (.agg (mCells (buildP ns (lastQ ns ns.length) fold whole))) ∧ Kept [] w w' := by
  have hz := zeroV_part
  have hzm := zeroV_mach
  have hw : Hid (∀ w', Kept [] w w' → PartCall _ _ w' _) := fun w' k => write_any ns xs B v w' (row_kept0 h.row k) h.len hl hn
  generalize hP : lastQ ns ns.length = P at *
  obtain ⟨va, cap, hv⟩ : ∃ a cap, v = .slice a ns.length cap := by
    rcases h.row.2 with ⟨h1, h2⟩ | ⟨g, cap, _, h1, _⟩
    · exact ⟨none, 0, by rw [h1, h2]⟩
    · exact ⟨_, cap, h1⟩
  subst hv
  have k0 : Kept [] w ((w.alloc (.cells #[.slice va ns.length cap, .int .i64 size] 57)).alloc (.cells (mCells {}) 67)) := ((Kept.refl _ _).alloc _).alloc _
  have p0 : Blk ((w.alloc (.cells #[.slice va ns.length cap, .int .i64 size] 57)).alloc (.cells (mCells {}) 67)) w.heap.size #[.slice va ns.length cap, .int .i64 size] 57 := (Blk.new _ _ _).alloc _
  have r0 : MIn ((w.alloc (.cells #[.slice va ns.length cap, .int .i64 size] 57)).alloc (.cells (mCells {}) 67)) (w.heap.size + 1) {} := Blk.new1 w _ _ _
  have k0 : Hid (Kept _ _ _) := k0
  have p0 : Hid (Blk _ _ _ _) := p0
  have r0 : Hid (MIn _ _ _) := r0
  cases hem : P.empty with
  | false =>
    go_enter Try.func43, Try.ntmps43
    go_wp2_with (first
      | (go_at_call 64
         refine (hw.out _ k0.out).mono ?_
         rintro e w1 ⟨rfl, k1⟩
         have p1 := p0.out.kept k1 (by simp)
         have r1 := Blk.kept r0.out k1 (by simp)
         have K1 := k0.out.trans k1
         have L1 := Blk.lt r1)
      | (with_reducible refine wpList_store_part ?_ (.tmp 7) (.tmp 13) ?_ w1.heap.size ?_ {} P ?_ ?_ ?_
         · rfl
         · rfl
         · rfl
         · rfl
         · exact Blk.new w1 (gpCells {}) 109
         intro w2 hb2 hk2 hs2
         have p2 := (p1.alloc (.cells (gpCells {}) 109)).kept hk2 (by simp; omega)
         have r2 := Blk.kept (Blk.alloc r1 (.cells (gpCells {}) 109)) hk2 (by simp; omega)
         have K2 : Kept [] w w2 := (K1.alloc (.cells (gpCells {}) 109)).into hk2 (by omega)
         have c3 := hb2.part3
         have L2 := hb2.lt
         clear hs2 hk2)
      | (refine wpList_build_mach rfl (.tmp 14) (.tmp 16) rfl whole P.last rfl rfl ?_)
      | (with_reducible refine wpList_store_mach ?_ (.tmp 8) (.tmp 17) ?_ w2.heap.size ?_ {} { whole := whole, last := P.last } ?_ ?_ ?_
         · rfl
         · rfl
         · rfl
         · rfl
         · exact Blk.new w2 (mCells {}) 67
         intro w3 hb3 hk3 hs3
         have I3 : BdIn w w3 w1.heap.size w2.heap.size (.slice va ns.length cap) size P { whole := whole, last := P.last } := ⟨hb3, (hb2.alloc (.cells (mCells {}) 67)).kept hk3 (by simp; omega), (p2.alloc (.cells (mCells {}) 67)).kept hk3 (by simp; omega), Blk.kept (Blk.alloc r2 (.cells (mCells {}) 67)) hk3 (by simp; omega), (K2.alloc (.cells (mCells {}) 67)).into hk3 (by omega), L1, L2⟩
         clear c3 hs3 hk3
         have d1 := I3.pt.part1
         rw [hem] at d1
         have d2 := I3.pt.part2
         have d3 := I3.mi.next (i := 60) (by decide)
         have f3 := I3.mi.frozen 61
         have d4 := I3.mi.last
         have f4 := I3.mi.frozen 320
         have H0 : Hid (BdIn w (w3.setCell ⟨w2.heap.size, 61, none⟩ (UV P.first)) w1.heap.size w2.heap.size (.slice va ns.length cap) size P (buildQ ns P fold whole 0)) := by
           have e : buildQ ns P fold whole 0 = nextM { whole := whole, last := P.last } 60 P.first := by simp [buildQ, build0, hem, nextM]
           rw [e]
           exact I3.set 61 (UV P.first) (nextM_set _ 60 _ (by decide))))
    go_loopw [9] (fun iv wr => ∃ q : Nat, iv = .int .i64 (q : Int) ∧ q ≤ P.count ∧ BdIn w wr w1.heap.size w2.heap.size (.slice va ns.length cap) size P (buildQ ns P fold whole q)) (fun iv _ => ((P.count : Int) - intOf iv).toNat)
    case atStart => exact ⟨0, rfl, Nat.zero_le _, H0.out⟩
    case round =>
      obtain ⟨q, rfl, hq, hI⟩ := hrel
      clear H0 k0 p0 r0 hw K1 K2 p1 r1 k1 p2 r2 hb2 hb3 I3 d1 d2 d3 d4 f3 f4 hz hzm
      have hgs : w.heap.size ≤ w2.heap.size := by omega
      by_cases hlt : (q : Int) < (P.count : Int)
      · have hqn : q < P.count := by omega
        have hq60 : q < 60 := by omega
        have hq60i : (q : Int) < 60 := by omega
        have c0 := hI.pt.part0
        have c1 : wr.cell? ⟨w1.heap.size, 4 + q, none⟩ = some (UV (P.next q)) := by rw [hI.pt.cell, part_next _ _ hq60]
        have c2 : wr.cell? ⟨w1.heap.size, 64 + q, none⟩ = some (.int .i64 (P.node q : Int)) := by rw [hI.pt.cell, part_node _ _ hq60]
        have c3 : wr.cell? ⟨w.heap.size, 0, none⟩ = some (.slice va ns.length cap) := by rw [hI.pat.cell]; rfl
        have c4 := hI.mi.next (i := q) (by omega)
        have f4 := hI.mi.frozen (1 + q)
        have L3 := hI.lt
        have L4 := hI.ltg
        have I9 := hI.set (1 + q) (UV (P.next q)) (nextM_set _ q _ (by omega))
        have hnq := hnd q
        by_cases hnode : (P.node q : Int) < (ns.length : Int)
        · have hnn : P.node q < ns.length := by omega
          obtain ⟨n, hn1⟩ : ∃ n, ns[P.node q]? = some n := ⟨_, List.getElem?_eq_getElem hnn⟩
          obtain ⟨x, hx1⟩ : ∃ x, xs[P.node q]? = some x := ⟨_, List.getElem?_eq_getElem (by have := h.len; omega)⟩
          obtain ⟨gN, cap', hv⟩ := own_form h.row (by omega)
          simp only [Value.slice.injEq] at hv
          obtain ⟨rfl, _, rfl⟩ := hv
          have hrg := range_kept (node_range h.row hn1 hx1) I9.k (by simp) (by simp [AN.cells])
          have hits1 := h.items _ _ _ hn1 hx1
          have hne : (ivV x).ownBlock ≠ some w2.heap.size := fun hc => by have := hits1.lt _ hc; omega
          have hlearn : Hid (Calls _ _ _ _ _) := learn_any _ w2.heap.size (1#64 <<< q) n x fold B _ I9.mi (row_kept0 hits1 I9.k) (hits n (List.mem_of_getElem? hn1)) hne
          have eB : Hid (buildQ ns P fold whole (q + 1) = learnP (nextM (buildQ ns P fold whole q) q (P.next q)) (1#64 <<< q) n fold) := by
            show buildQ ns P fold whole (q + 1) = _
            rw [buildQ, hn1]
          have I9H : Hid (BdIn _ _ _ _ _ _ _ _) := I9
          have hw1 : IntKind.wrap .u64 ((2 : Int) ^ q) = ((1#64 <<< q : B64).toNat : Int) := by rw [← one_shl (by omega)]; exact wrap_u _ (BitVec.isLt _)
          have hw2 : IntKind.wrap .u64 (1 * (2 : Int) ^ q) = ((1#64 <<< q : B64).toNat : Int) := by rw [Int.one_mul]; exact hw1
          generalize hSS : (1#64 <<< q : B64) = S at *
          clear hSS hn1 hx1 hits1 hne h hits hI I9 hn hfit hnd
          go_wp2_with (first
            | (with_reducible refine wpList_load_node ?_ (.tmp 64) ?_ gN (P.node q * 8) ?_ n x ?_ ?_
               · rfl
               · rfl
               · first | rfl | (simp [Act.eval])
               · exact hrg)
            | (go_at_call 65
               with_reducible refine hlearn.out.mono ?_
               rintro e w8 ⟨rfl, h8, k8⟩
               have I10 : Hid (BdIn _ _ _ _ _ _ _ _) := I9H.out.into h8 k8))
          refine ⟨⟨q + 1, by go_num, by omega, by rw [eB.out]; exact I10.out⟩, ?_⟩
          simp only [intOf]; omega
        · have hnn : ns[P.node q]? = none := List.getElem?_eq_none (by omega)
          have eB : Hid (buildQ ns P fold whole (q + 1) = nextM (buildQ ns P fold whole q) q (P.next q)) := by
            show buildQ ns P fold whole (q + 1) = _
            rw [buildQ, hnn]
          have I9H : Hid (BdIn _ _ _ _ _ _ _ _) := I9
          have hnode : (ns.length : Int) ≤ (P.node q : Int) := by omega
          clear hnn h hits hI I9 hn hfit hnd
          go_wp2
          refine ⟨⟨q + 1, by go_num, by omega, by rw [eB.out]; exact I9H.out⟩, ?_⟩
          simp only [intOf]; omega
      · have hqe : P.count = q := by omega
        have eB : Hid (buildP ns P fold whole = buildQ ns P fold whole q) := by show buildP ns P fold whole = _; unfold buildP; rw [hqe]
        have c0 := hI.pt.part0
        have hIH : Hid (BdIn _ _ _ _ _ _ _ _) := hI
        clear hqe hI h hits hn hfit hnd
        generalize buildQ ns P fold whole q = M at *
        go_wp2_with (first
          | (with_reducible refine wpList_load_mach ?_ (.tmp 8) ?_ w2.heap.size ?_ M ?_ ?_
             · rfl
             · rfl
             · rfl
             · exact hIH.out.mi)
          | (with_reducible refine wpList_store_mach ?_ (.tmp 6) (.tmp 68) ?_ (w.heap.size + 1) ?_ {} M ?_ ?_ ?_
             · rfl
             · rfl
             · rfl
             · rfl
             · exact hIH.out.res
             intro w8 hb8 hk8 hs8
             have hK8 := hIH.out.k.into hk8 (by omega)))
        exact bodyPost_ret (v := .agg (mCells M)) (results_mach Try.results43 _ _ _ M rfl hb8) rfl ⟨by rw [eB.out], hK8⟩
  | true =>
    have hor := or_u P.last startB
    rw [startB_nat] at hor
    obtain ⟨Z, hZ⟩ : ∃ Z, Hid (P.last ||| startB = Z) := ⟨_, rfl⟩
    rw [hZ.out] at hor
    go_enter Try.func43, Try.ntmps43
    go_wp2_with (first
      | (go_at_call 64
         refine (hw.out _ k0.out).mono ?_
         rintro e w1 ⟨rfl, k1⟩
         have p1 := p0.out.kept k1 (by simp)
         have r1 := Blk.kept r0.out k1 (by simp)
         have K1 := k0.out.trans k1
         have L1 := Blk.lt r1)
      | (with_reducible refine wpList_store_part ?_ (.tmp 7) (.tmp 13) ?_ w1.heap.size ?_ {} P ?_ ?_ ?_
         · rfl
         · rfl
         · rfl
         · rfl
         · exact Blk.new w1 (gpCells {}) 109
         intro w2 hb2 hk2 hs2
         have p2 := (p1.alloc (.cells (gpCells {}) 109)).kept hk2 (by simp; omega)
         have r2 := Blk.kept (Blk.alloc r1 (.cells (gpCells {}) 109)) hk2 (by simp; omega)
         have K2 : Kept [] w w2 := (K1.alloc (.cells (gpCells {}) 109)).into hk2 (by omega)
         have c3 := hb2.part3
         have L2 := hb2.lt
         clear hs2 hk2)
      | (refine wpList_build_mach rfl (.tmp 14) (.tmp 16) rfl whole P.last rfl rfl ?_)
      | (with_reducible refine wpList_store_mach ?_ (.tmp 8) (.tmp 17) ?_ w2.heap.size ?_ {} { whole := whole, last := P.last } ?_ ?_ ?_
         · rfl
         · rfl
         · rfl
         · rfl
         · exact Blk.new w2 (mCells {}) 67
         intro w3 hb3 hk3 hs3
         have I3 : BdIn w w3 w1.heap.size w2.heap.size (.slice va ns.length cap) size P { whole := whole, last := P.last } := ⟨hb3, (hb2.alloc (.cells (mCells {}) 67)).kept hk3 (by simp; omega), (p2.alloc (.cells (mCells {}) 67)).kept hk3 (by simp; omega), Blk.kept (Blk.alloc r2 (.cells (mCells {}) 67)) hk3 (by simp; omega), (K2.alloc (.cells (mCells {}) 67)).into hk3 (by omega), L1, L2⟩
         clear c3 hs3 hk3
         have d1 := I3.pt.part1
         rw [hem] at d1
         have d2 := I3.pt.part2
         have d3 := I3.mi.next (i := 60) (by decide)
         have f3 := I3.mi.frozen 61
         have d4 := I3.mi.last
         have f4 := I3.mi.frozen 320
         have H0 : Hid (BdIn w ((w3.setCell ⟨w2.heap.size, 61, none⟩ (UV P.first)).setCell ⟨w2.heap.size, 320, none⟩ (UV Z)) w1.heap.size w2.heap.size (.slice va ns.length cap) size P (buildQ ns P fold whole 0)) := by
           have e : buildQ ns P fold whole 0 = { nextM { whole := whole, last := P.last } 60 P.first with last := Z } := by simp [buildQ, build0, hem, nextM, hZ.out]
           rw [e]
           exact (I3.set 61 (UV P.first) (nextM_set _ 60 _ (by decide))).set 320 (UV Z) (m_set_last _ Z)))
    go_loopw [9] (fun iv wr => ∃ q : Nat, iv = .int .i64 (q : Int) ∧ q ≤ P.count ∧ BdIn w wr w1.heap.size w2.heap.size (.slice va ns.length cap) size P (buildQ ns P fold whole q)) (fun iv _ => ((P.count : Int) - intOf iv).toNat)
    case atStart => exact ⟨0, rfl, Nat.zero_le _, H0.out⟩
    case round =>
      obtain ⟨q, rfl, hq, hI⟩ := hrel
      clear H0 k0 p0 r0 hw K1 K2 p1 r1 k1 p2 r2 hb2 hb3 I3 d1 d2 d3 d4 f3 f4 hz hzm
      have hgs : w.heap.size ≤ w2.heap.size := by omega
      by_cases hlt : (q : Int) < (P.count : Int)
      · have hqn : q < P.count := by omega
        have hq60 : q < 60 := by omega
        have hq60i : (q : Int) < 60 := by omega
        have c0 := hI.pt.part0
        have c1 : wr.cell? ⟨w1.heap.size, 4 + q, none⟩ = some (UV (P.next q)) := by rw [hI.pt.cell, part_next _ _ hq60]
        have c2 : wr.cell? ⟨w1.heap.size, 64 + q, none⟩ = some (.int .i64 (P.node q : Int)) := by rw [hI.pt.cell, part_node _ _ hq60]
        have c3 : wr.cell? ⟨w.heap.size, 0, none⟩ = some (.slice va ns.length cap) := by rw [hI.pat.cell]; rfl
        have c4 := hI.mi.next (i := q) (by omega)
        have f4 := hI.mi.frozen (1 + q)
        have L3 := hI.lt
        have L4 := hI.ltg
        have I9 := hI.set (1 + q) (UV (P.next q)) (nextM_set _ q _ (by omega))
        have hnq := hnd q
        by_cases hnode : (P.node q : Int) < (ns.length : Int)
        · have hnn : P.node q < ns.length := by omega
          obtain ⟨n, hn1⟩ : ∃ n, ns[P.node q]? = some n := ⟨_, List.getElem?_eq_getElem hnn⟩
          obtain ⟨x, hx1⟩ : ∃ x, xs[P.node q]? = some x := ⟨_, List.getElem?_eq_getElem (by have := h.len; omega)⟩
          obtain ⟨gN, cap', hv⟩ := own_form h.row (by omega)
          simp only [Value.slice.injEq] at hv
          obtain ⟨rfl, _, rfl⟩ := hv
          have hrg := range_kept (node_range h.row hn1 hx1) I9.k (by simp) (by simp [AN.cells])
          have hits1 := h.items _ _ _ hn1 hx1
          have hne : (ivV x).ownBlock ≠ some w2.heap.size := fun hc => by have := hits1.lt _ hc; omega
          have hlearn : Hid (Calls _ _ _ _ _) := learn_any _ w2.heap.size (1#64 <<< q) n x fold B _ I9.mi (row_kept0 hits1 I9.k) (hits n (List.mem_of_getElem? hn1)) hne
          have eB : Hid (buildQ ns P fold whole (q + 1) = learnP (nextM (buildQ ns P fold whole q) q (P.next q)) (1#64 <<< q) n fold) := by
            show buildQ ns P fold whole (q + 1) = _
            rw [buildQ, hn1]
          have I9H : Hid (BdIn _ _ _ _ _ _ _ _) := I9
          have hw1 : IntKind.wrap .u64 ((2 : Int) ^ q) = ((1#64 <<< q : B64).toNat : Int) := by rw [← one_shl (by omega)]; exact wrap_u _ (BitVec.isLt _)
          have hw2 : IntKind.wrap .u64 (1 * (2 : Int) ^ q) = ((1#64 <<< q : B64).toNat : Int) := by rw [Int.one_mul]; exact hw1
          generalize hSS : (1#64 <<< q : B64) = S at *
          clear hSS hn1 hx1 hits1 hne h hits hI I9 hn hfit hnd
          go_wp2_with (first
            | (with_reducible refine wpList_load_node ?_ (.tmp 64) ?_ gN (P.node q * 8) ?_ n x ?_ ?_
               · rfl
               · rfl
               · first | rfl | (simp [Act.eval])
               · exact hrg)
            | (go_at_call 65
               with_reducible refine hlearn.out.mono ?_
               rintro e w8 ⟨rfl, h8, k8⟩
               have I10 : Hid (BdIn _ _ _ _ _ _ _ _) := I9H.out.into h8 k8))
          refine ⟨⟨q + 1, by go_num, by omega, by rw [eB.out]; exact I10.out⟩, ?_⟩
          simp only [intOf]; omega
        · have hnn : ns[P.node q]? = none := List.getElem?_eq_none (by omega)
          have eB : Hid (buildQ ns P fold whole (q + 1) = nextM (buildQ ns P fold whole q) q (P.next q)) := by
            show buildQ ns P fold whole (q + 1) = _
            rw [buildQ, hnn]
          have I9H : Hid (BdIn _ _ _ _ _ _ _ _) := I9
          have hnode : (ns.length : Int) ≤ (P.node q : Int) := by omega
          clear hnn h hits hI I9 hn hfit hnd
          go_wp2
          refine ⟨⟨q + 1, by go_num, by omega, by rw [eB.out]; exact I9H.out⟩, ?_⟩
          simp only [intOf]; omega
      · have hqe : P.count = q := by omega
        have eB : Hid (buildP ns P fold whole = buildQ ns P fold whole q) := by show buildP ns P fold whole = _; unfold buildP; rw [hqe]
        have c0 := hI.pt.part0
        have hIH : Hid (BdIn _ _ _ _ _ _ _ _) := hI
        clear hqe hI h hits hn hfit hnd
        generalize buildQ ns P fold whole q = M at *
        go_wp2_with (first
          | (with_reducible refine wpList_load_mach ?_ (.tmp 8) ?_ w2.heap.size ?_ M ?_ ?_
             · rfl
             · rfl
             · rfl
             · exact hIH.out.mi)
          | (with_reducible refine wpList_store_mach ?_ (.tmp 6) (.tmp 68) ?_ (w.heap.size + 1) ?_ {} M ?_ ?_ ?_
             · rfl
             · rfl
             · rfl
             · rfl
             · exact hIH.out.res
             intro w8 hb8 hk8 hs8
             have hK8 := hIH.out.k.into hk8 (by omega)))
        exact bodyPost_ret (v := .agg (mCells M)) (results_mach Try.results43 _ _ _ M rfl hb8) rfl ⟨by rw [eB.out], hK8⟩

end Go.Proofs.Ytpnjeefgpaiidaa

set_option linter.unusedVariables false
set_option linter.unusedSimpArgs false
namespace Go.Proofs.Ytpnjeefgpaiidaa
open Go.RowKit Go.IntWalk

/-- No newline among the first q bytes. -/
def noNl (t : ByteArray) (q : Nat) : Prop := ∀ i, i < q → ∀ h : i < t.size, t[i].toNat ≠ 10
def IsLine (t : ByteArray) : Prop := t.size ≤ 600 ∧ noNl t t.size

open Classical in
noncomputable def lineB (t : ByteArray) : Bool := decide (IsLine t)
theorem lineB_true {t : ByteArray} (h : IsLine t) : lineB t = true := by unfold lineB; exact @decide_eq_true _ (Classical.propDecidable _) h
theorem lineB_false {t : ByteArray} (h : ¬ IsLine t) : lineB t = false := by unfold lineB; exact @decide_eq_false _ (Classical.propDecidable _) h

set_option maxHeartbeats 1000000 in
theorem isLine_any (t : ByteArray) (ht : t.size ≤ maxLen) (w : World) :
    Calls Try.prog 42 #[.string t] w fun e w' => e = .returned (.bool (lineB t)) ∧ w' = w := by
  unfold maxLen at ht
  by_cases hl : (600 : Int) < (t.size : Int)
  · have hN : Hid (¬ IsLine t) := fun hc => by have := hc.1; omega
    go_enter Try.func42, Try.ntmps42
    go_wp2
    go_ret
    exact ⟨by rw [lineB_false hN.out]; rfl, rfl⟩
  · have hl2 : (t.size : Int) ≤ 600 := by omega
    clear hl
    go_enter Try.func42, Try.ntmps42
    go_wp2
    go_loop [3] (fun iv => ∃ q : Nat, iv = .int .i64 (q : Int) ∧ q ≤ t.size ∧ noNl t q) (fun iv => ((t.size : Int) - intOf iv).toNat)
    case atStart => exact ⟨0, rfl, by omega, fun i hi => by omega⟩
    case round =>
      obtain ⟨q, rfl, hq, hno⟩ := hrel
      have hnoH : Hid (noNl t q) := hno
      clear hno
      by_cases hlt : (q : Int) < (t.size : Int)
      · have hqn : q < t.size := by omega
        by_cases hc : (t[q].toNat : Int) = 10
        · have hN : Hid (¬ IsLine t) := fun hl => by have := hl.2 q hqn hqn; omega
          go_wp2
          go_ret
          exact ⟨by rw [lineB_false hN.out]; rfl, rfl⟩
        · have hnext : Hid (noNl t (q + 1)) := fun i hi h => by
            by_cases hiq : i = q
            · subst hiq; omega
            · exact hnoH.out i (by omega) h
          have hne : (t[q].toNat : Int) ≠ 10 := hc
          go_wp2
          refine ⟨⟨q + 1, by go_num, by omega, hnext.out⟩, ?_⟩
          simp only [intOf]; omega
      · have hqe : q = t.size := by omega
        have hY : Hid (IsLine t) := ⟨by omega, by have := hnoH.out; rw [hqe] at this; exact this⟩
        clear hqe
        go_wp2
        go_ret
        exact ⟨by rw [lineB_true hY.out]; rfl, rfl⟩

/-- What the reader's list must be, so that a machine can be built of it. -/
structure Ready (ns : List AN) : Prop where
  len : ns.length ≤ 900
  fit : NodesFit ns
  its : ∀ n, n ∈ ns → n.its.length ≤ 1000
  count : (lastQ ns ns.length).count ≤ 60
  node : ∀ i, (lastQ ns ns.length).node i ≤ 10000
def allReady : Prop := ∀ (t : ByteArray) (r : Nat × PS), t.size ≤ 40 → Ev t 0 0 st0 r → ¬ BadR t r → sizeAt r.2.2 r.1 ≤ 60 → Ready r.2.2

/-- What Match comes to. -/
def MatchOut (inv fold whole : Bool) (mx : Int) (t l : ByteArray) (e : Ending) : Prop :=
  (mx < 0 ∧ e = .returned (.tuple #[.bool false, .int .i64 1])) ∨
  (0 ≤ mx ∧ 40 < t.size ∧ e = .returned (.tuple #[.bool false, .int .i64 3])) ∨
  (0 ≤ mx ∧ t.size ≤ 40 ∧ ∃ r : Nat × PS, Ev t 0 0 st0 r ∧ r.1 < r.2.2.length ∧
    ((BadR t r ∧ e = .returned (.tuple #[.bool false, .int .i64 2])) ∨
     (¬ BadR t r ∧ 60 < sizeAt r.2.2 r.1 ∧ e = .returned (.tuple #[.bool false, .int .i64 3])) ∨
     (¬ BadR t r ∧ sizeAt r.2.2 r.1 ≤ 60 ∧ ¬ IsLine l ∧ e = .returned (.tuple #[.bool false, .int .i64 8])) ∨
     (¬ BadR t r ∧ sizeAt r.2.2 r.1 ≤ 60 ∧ IsLine l ∧ e = .returned (.tuple #[.bool (matchesP (buildP r.2.2 (lastQ r.2.2 r.2.2.length) fold whole) l != inv), .int .i64 0]))))

theorem NV.nodesIn {w : World} {b : Nat} {t : ByteArray} {s : RS} {ns : List AN} {v : Value} {xs : List IV} (h : NV w b t s ns v xs) : NodesIn w (b + 1) v ns xs := ⟨h.row, h.len, h.items⟩

theorem Kept.cell {w w' : World} (k : Kept [] w w') {g : Nat} (hg : g < w.heap.size) (j : Nat) : w'.cell? ⟨g, j, none⟩ = w.cell? ⟨g, j, none⟩ := by
  unfold World.cell?
  simp only []
  rw [k.block g hg (by simp)]

set_option maxHeartbeats 2000000 in
set_option maxRecDepth 100000 in
theorem match_any (hready : allReady) (inv fold whole num : Bool) (mx : Int) (t l : ByteArray) (w : World) (hm1 : -9223372036854775808 ≤ mx) (hm2 : mx ≤ 9223372036854775807) (ht : t.size ≤ maxLen) (hl : l.size ≤ maxLen) :
    Calls Try.prog 18 #[.agg #[.bool inv, .bool fold, .bool whole, .bool num, .int .i64 mx], .string t, .string l] w fun e w' => MatchOut inv fold whole mx t l e ∧ Below w.heap.size w w' := by
  by_cases hmx : mx < 0
  · go_enter Try.func18, Try.ntmps18
    go_wp2
    go_ret2
    exact ⟨Or.inl ⟨hmx, rfl⟩, (Below.refl _ _).alloc (Nat.le_refl _) _⟩
  have hmx : 0 ≤ mx := by omega
  by_cases hlen : 40 < t.size
  · have hc : Hid (∀ w, Calls _ _ _ w _) := fun w => read_long t w hlen ht
    go_enter Try.func18, Try.ntmps18
    go_wp2_with (go_at_call 40; refine (hc.out _).mono ?_; rintro e w1 ⟨rfl, b1⟩)
    go_ret2
    exact ⟨Or.inr (Or.inl ⟨hmx, hlen, rfl⟩), (((Below.refl w.heap.size w).alloc (Nat.le_refl _) _).trans (b1.mono (by simp))).alloc (by have := b1.size; simp at this; omega) _⟩
  have hlen : t.size ≤ 40 := by omega
  go_enter Try.func18, Try.ntmps18
  go_wp2_with fail
  refine (read_any t _ hlen).mono ?_
  rintro e w1 ⟨b1, r, hev, hidx, hcase⟩
  have hsz1 := b1.size
  simp at hsz1
  have B1 : Below w.heap.size w w1 := ((Below.refl w.heap.size w).alloc (Nat.le_refl _) _).trans (b1.mono (by simp))
  have c0 : w1.cell? ⟨w.heap.size, 0, none⟩ = some (.bool inv) := by
    have h1 := (b1.block w.heap.size (by simp)).trans (Blk.new w #[.bool inv, .bool fold, .bool whole, .bool num, .int .i64 mx] 28)
    exact Blk.cell (cs := #[.bool inv, .bool fold, .bool whole, .bool num, .int .i64 mx]) (e := 28) h1 0
  have c1 : w1.cell? ⟨w.heap.size, 1, none⟩ = some (.bool fold) := by
    have h1 := (b1.block w.heap.size (by simp)).trans (Blk.new w #[.bool inv, .bool fold, .bool whole, .bool num, .int .i64 mx] 28)
    exact Blk.cell (cs := #[.bool inv, .bool fold, .bool whole, .bool num, .int .i64 mx]) (e := 28) h1 1
  have c2 : w1.cell? ⟨w.heap.size, 2, none⟩ = some (.bool whole) := by
    have h1 := (b1.block w.heap.size (by simp)).trans (Blk.new w #[.bool inv, .bool fold, .bool whole, .bool num, .int .i64 mx] 28)
    exact Blk.cell (cs := #[.bool inv, .bool fold, .bool whole, .bool num, .int .i64 mx]) (e := 28) h1 2
  have hB1 : Hid (Below w.heap.size w w1) := B1
  have hlt1 : w.heap.size < w1.heap.size := by omega
  have hOut : Hid (∀ e, _ → MatchOut inv fold whole mx t l e) := fun e h => Or.inr (Or.inr ⟨hmx, hlen, r, hev, hidx, h⟩)
  have hEv : Hid (Ev t 0 0 st0 r) := hev
  clear b1 hev hidx hsz1 B1
  rcases hcase with ⟨hb, rfl⟩ | ⟨hb, hz, rfl⟩ | ⟨hb, hz, b, ao, n, c, xs, hbb, hn, rfl⟩
  · have hfin : Hid (∀ o, MatchOut inv fold whole mx t l (.returned (.tuple #[.bool false, .int .i64 2])) ∧ Below w.heap.size w (w1.alloc o)) := fun o => ⟨hOut.out _ (Or.inl ⟨hb, rfl⟩), hB1.out.alloc (by omega) o⟩
    clear hOut hb
    go_wp2
    go_ret2
    exact hfin.out _
  · have hfin : Hid (∀ o, MatchOut inv fold whole mx t l (.returned (.tuple #[.bool false, .int .i64 3])) ∧ Below w.heap.size w (w1.alloc o)) := fun o => ⟨hOut.out _ (Or.inr (Or.inl ⟨hb, hz, rfl⟩)), hB1.out.alloc (by omega) o⟩
    clear hOut hb hz
    go_wp2
    go_ret2
    exact hfin.out _
  · obtain ⟨rd1, rd2, rd3, rd4, rd5⟩ := hready t r hlen hEv.out hb hz
    have hli : Hid (∀ w, Calls _ _ _ w _) := fun w => isLine_any l hl w
    by_cases hline : IsLine l
    · rw [lineB_true hline] at hli
      have hls : l.size ≤ 1000 := by have := hline.1; omega
      have hfin : Hid (∀ w', Below w.heap.size w w' → MatchOut inv fold whole mx t l (.returned (.tuple #[.bool (matchesP (buildP r.2.2 (lastQ r.2.2 r.2.2.length) fold whole) l != inv), .int .i64 0])) ∧ Below w.heap.size w w') := fun w' h => ⟨hOut.out _ (Or.inr (Or.inr (Or.inr ⟨hb, hz, hline, rfl⟩))), h⟩
      have hbuild : Hid (∀ w', Kept [] w1 w' → Calls _ _ _ w' _) := fun w' k => build_any r.2.2 xs (b + 1) (.slice ao n c) (sizeAt r.2.2 r.1) fold whole w' (hn.nodesIn.kept k) rd1 rd2 rd3 rd4 rd5
      clear hOut hb hz hline hEv hn rd2 rd3 rd4 rd5
      generalize hM : buildP r.2.2 (lastQ r.2.2 r.2.2.length) fold whole = M at *
      have hmat : Hid (∀ w' g, MIn w' g M → Calls _ _ _ w' _) := fun w' g h => matches_any M g l hls w' h
      generalize matchesP M l = Y at *
      have hzm := zeroV_mach
      have kA : Kept [] w1 (w1.alloc (.cells #[.slice ao n c, .int .i64 (sizeAt r.2.2 r.1)] 57)) := (Kept.refl _ _).alloc _
      have kA : Hid (Kept _ _ _) := kA
      go_wp2_with (first
        | (go_at_call 42
           refine (hli.out _).mono ?_
           rintro e w2 ⟨rfl, rfl⟩)
        | (go_at_call 43
           refine (hbuild.out _ kA.out).mono ?_
           rintro e w5 ⟨rfl, k5⟩
           have K5 := kA.out.trans k5
           have d0 := K5.cell hlt1 0
           rw [c0] at d0)
        | (with_reducible refine wpList_store_mach ?_ (.tmp 10) (.tmp 31) ?_ w5.heap.size ?_ {} M ?_ ?_ ?_
           · rfl
           · rfl
           · rfl
           · rfl
           · exact Blk.new w5 (mCells {}) 67
           intro w6 hb6 hk6 hs6
           have hlt5 := K5.size
           have K6 : Kept [] w1 w6 := (K5.alloc (.cells (mCells {}) 67)).into hk6 (by omega)
           have e0 := K6.cell hlt1 0
           rw [c0] at e0
           clear hk6 hs6 d0)
        | (go_at_call 44
           refine (hmat.out _ _ hb6).mono ?_
           rintro e w7 ⟨rfl, rfl⟩))
      go_ret2
      exact hfin.out _ (hB1.out.trans ((K6.below (Nat.le_refl _) (by simp)).mono (by omega)))
    · rw [lineB_false hline] at hli
      have hfin : Hid (∀ o, MatchOut inv fold whole mx t l (.returned (.tuple #[.bool false, .int .i64 8])) ∧ Below w.heap.size w (w1.alloc o)) := fun o => ⟨hOut.out _ (Or.inr (Or.inr (Or.inl ⟨hb, hz, hline, rfl⟩))), hB1.out.alloc (by omega) o⟩
      clear hOut hb hz hline hEv hn rd2 rd3 rd4 rd5
      go_wp2_with (go_at_call 42; refine (hli.out _).mono ?_; rintro e w2 ⟨rfl, rfl⟩)
      go_ret2
      exact hfin.out _

end Go.Proofs.Ytpnjeefgpaiidaa

set_option linter.unusedVariables false
set_option linter.unusedSimpArgs false
namespace Go.Proofs.Ytpnjeefgpaiidaa

/-- Words: of the numbers of nodes that are steps. -/
inductive W (ns : List AN) : Nat → List Nat → Prop
  | none {k n} : ns[k]? = some n → n.kind = 0 → W ns k []
  | step {k n} : ns[k]? = some n → (n.kind = 1 ∨ n.kind = 2 ∨ n.kind = 3) → W ns k [k]
  | both {k n l r u v} : ns[k]? = some n → n.kind = 4 → n.left = ((l : Nat) : Int) → n.right = ((r : Nat) : Int) → W ns l u → W ns r v → W ns k (u ++ v)
  | left {k n l u} : ns[k]? = some n → n.kind = 5 → n.left = ((l : Nat) : Int) → W ns l u → W ns k u
  | right {k n r u} : ns[k]? = some n → n.kind = 5 → n.right = ((r : Nat) : Int) → W ns r u → W ns k u
  | rep {k n l} {us : List (List Nat)} : ns[k]? = some n → n.kind = 6 → n.left = ((l : Nat) : Int) → (∀ u, u ∈ us → W ns l u) → n.least ≤ (us.length : Int) → (n.most = -1 ∨ (us.length : Int) ≤ n.most) → W ns k us.flatten

section
variable {ns : List AN} {k : Nat} {n : AN} {u : List Nat}
theorem W.zero (hn : ns[k]? = some n) (hk : n.kind = 0) : W ns k u ↔ u = [] := by
  constructor
  · intro h
    cases h with
    | none => rfl
    | step a b => rw [hn] at a; cases a; omega
    | both a b => rw [hn] at a; cases a; omega
    | left a b => rw [hn] at a; cases a; omega
    | right a b => rw [hn] at a; cases a; omega
    | rep a b => rw [hn] at a; cases a; omega
  · rintro rfl; exact W.none hn hk
theorem W.one (hn : ns[k]? = some n) (hk : n.kind = 1 ∨ n.kind = 2 ∨ n.kind = 3) : W ns k u ↔ u = [k] := by
  constructor
  · intro h
    cases h with
    | none a b => rw [hn] at a; cases a; omega
    | step => rfl
    | both a b => rw [hn] at a; cases a; omega
    | left a b => rw [hn] at a; cases a; omega
    | right a b => rw [hn] at a; cases a; omega
    | rep a b => rw [hn] at a; cases a; omega
  · rintro rfl; exact W.step hn hk
theorem W.two (hn : ns[k]? = some n) (hk : n.kind = 4) {l r : Nat} (hl : n.left = (l : Int)) (hr : n.right = (r : Int)) : W ns k u ↔ ∃ x y, u = x ++ y ∧ W ns l x ∧ W ns r y := by
  constructor
  · intro h
    cases h with
    | none a b => rw [hn] at a; cases a; omega
    | step a b => rw [hn] at a; cases a; omega
    | both a b c d x y =>
      rw [hn] at a; cases a
      rw [hl] at c; rw [hr] at d
      cases Int.ofNat_inj.1 c; cases Int.ofNat_inj.1 d
      exact ⟨_, _, rfl, x, y⟩
    | left a b => rw [hn] at a; cases a; omega
    | right a b => rw [hn] at a; cases a; omega
    | rep a b => rw [hn] at a; cases a; omega
  · rintro ⟨x, y, rfl, h1, h2⟩; exact W.both hn hk hl hr h1 h2
theorem W.alt (hn : ns[k]? = some n) (hk : n.kind = 5) {l r : Nat} (hl : n.left = (l : Int)) (hr : n.right = (r : Int)) : W ns k u ↔ W ns l u ∨ W ns r u := by
  constructor
  · intro h
    cases h with
    | none a b => rw [hn] at a; cases a; omega
    | step a b => rw [hn] at a; cases a; omega
    | both a b => rw [hn] at a; cases a; omega
    | left a b c x => rw [hn] at a; cases a; rw [hl] at c; cases Int.ofNat_inj.1 c; exact Or.inl x
    | right a b c x => rw [hn] at a; cases a; rw [hr] at c; cases Int.ofNat_inj.1 c; exact Or.inr x
    | rep a b => rw [hn] at a; cases a; omega
  · rintro (h | h)
    · exact W.left hn hk hl h
    · exact W.right hn hk hr h
theorem W.many (hn : ns[k]? = some n) (hk : n.kind = 6) {l : Nat} (hl : n.left = (l : Int)) : W ns k u ↔ ∃ m, n.least ≤ ((m : Nat) : Int) ∧ (n.most = -1 ∨ (m : Int) ≤ n.most) ∧ Many (W ns l) m u := by
  constructor
  · intro h
    cases h with
    | none a b => rw [hn] at a; cases a; omega
    | step a b => rw [hn] at a; cases a; omega
    | both a b => rw [hn] at a; cases a; omega
    | left a b => rw [hn] at a; cases a; omega
    | right a b => rw [hn] at a; cases a; omega
    | rep a b c x y z => rw [hn] at a; cases a; rw [hl] at c; cases Int.ofNat_inj.1 c; exact ⟨_, y, z, _, rfl, rfl, x⟩
  · rintro ⟨m, h1, h2, us, rfl, rfl, h3⟩; exact W.rep hn hk hl h3 h1 h2
end

/-- The part of the node at place q. -/
def partN (ns : List AN) (q : Nat) : GP := partOfP (ns.getD q dummyN) q (partsQ ns q)
theorem partsQ_get (ns : List AN) : ∀ q i, i < q → (partsQ ns q)[i]? = some (partN ns i)
  | 0, i, h => by omega
  | q + 1, i, h => by
    rw [partsQ]
    by_cases hi : i < q
    · rw [List.getElem?_append_left (by rw [partsQ_length]; exact hi)]
      exact partsQ_get ns q i hi
    · obtain rfl : i = q := by omega
      rw [List.getElem?_append_right (by rw [partsQ_length]; omega), partsQ_length, Nat.sub_self]
      rfl
theorem partAt_get (ns : List AN) {q l : Nat} (h : l < q) : partAtP (partsQ ns q) (l : Int) = partN ns l := by
  unfold partAtP
  rw [if_pos (by omega), Int.toNat_natCast, partsQ_get ns q l h]
  rfl
theorem lastQ_eq (ns : List AN) (q : Nat) : lastQ ns (q + 1) = partN ns q := rfl

theorem stepP_fit (k : Nat) : (stepP k).Fit := by
  have h1 : ∀ i, (1#64 : B64).getLsbD i = true → i < 1 := fun i h => by
    rw [BitVec.getLsbD_one] at h
    simp at h
    omega
  exact ⟨by show (1 : Nat) ≤ 60; omega, h1, h1, fun s i h => by simp [stepP] at h⟩
theorem stepP_lang (k : Nat) (u : List Nat) : (stepP k).Lang u ↔ u = [k] := by
  have hb : (1#64 : B64).getLsbD 0 = true := by decide
  constructor
  · rintro ⟨l, hl, rfl⟩
    cases l with
    | nil => simp [GP.Acc, stepP] at hl
    | cons d r =>
      have hd := (stepP_fit k).first d hl.1
      simp only [stepP] at hd
      obtain rfl : d = 0 := by omega
      cases r with
      | nil => rfl
      | cons e r => have := hl.2.1; simp [stepP] at this
  · rintro rfl
    exact ⟨[0], ⟨hb, hb⟩, rfl⟩

/-- What is to be shown of a node's part. -/
structure PartOfN (ns : List AN) (q : Nat) : Prop where
  fit : (partN ns q).Fit
  count : ((partN ns q).count : Int) ≤ sizeAt ns q
  lang : ∀ u, (partN ns q).Lang u ↔ W ns q u
  node : ∀ i, (partN ns q).node i ≤ q

theorem repN_le {a b : Int} (h0 : 0 ≤ a) (hb : b = -1 ∨ 0 ≤ b) : ((repN a b : Nat) : Int) ≤ timesS a b := by
  unfold repN timesS
  by_cases h : b = -1
  · rw [if_pos h, if_pos h]; repeat' split
    all_goals omega
  · rw [if_neg h, if_neg h]; split <;> omega

theorem beside_node (a b : GP) (q : Nat) (ha : ∀ i, a.node i ≤ q) (hb : ∀ i, b.node i ≤ q) (i : Nat) : (besideP a b).node i ≤ q := by
  simp only [besideP]; split
  · exact hb _
  · exact ha _
theorem copies_node (a : GP) (q : Nat) (ha : ∀ i, a.node i ≤ q) (e : Bool) (l t : Nat) : ∀ k i, (copiesP a e l t k).node i ≤ q
  | 0, i => Nat.zero_le _
  | k + 1, i => by
    refine beside_node _ _ q (copies_node a q ha e l t k) (fun i => ?_) i
    unfold oneP
    simp only []
    repeat' split
    all_goals exact ha i

theorem part_step {ns : List AN} (hok : NodesOk ns) (hall : ∀ i, i < ns.length → sizeAt ns i ≤ 60) (hlen : ns.length ≤ 900) {q : Nat} (hq : q < ns.length) (ih : ∀ l, l < q → PartOfN ns l) :
    PartOfN ns q ∧ ∃ n, ns[q]? = some n ∧ 0 ≤ n.kind ∧ n.kind ≤ 6 ∧ NodeFits n (partsQ ns q) := by
  obtain ⟨n, hn⟩ : ∃ n, ns[q]? = some n := ⟨_, List.getElem?_eq_getElem hq⟩
  have hgd : ns.getD q dummyN = n := by rw [List.getD_eq_getElem?_getD, hn]; rfl
  have hsz : sizeAt ns q = n.size := by unfold sizeAt; rw [hn]; rfl
  have h60 := hall q hq
  obtain ⟨h1, h2, h3, h4⟩ := hok q n hn
  have hP : partN ns q = partOfP n q (partsQ ns q) := by unfold partN; rw [hgd]
  rcases h4 with ⟨hk, hl, hr, hs⟩ | ⟨hk, l, r, hlq, hrq, hl, hr, hs⟩ | ⟨hk, l, hlq, hl, hr, b1, b2, b3, b4, b5, hs⟩
  · refine ⟨?_, n, hn, by omega, by omega, ⟨by omega, by omega, fun h => by omega, fun h => by omega, fun h => by omega⟩⟩
    by_cases h0 : n.kind = 0
    · have e : partN ns q = noneP := by rw [hP]; unfold partOfP; rw [if_pos h0]
      exact ⟨by rw [e]; exact noneP_fit, by rw [e, hsz]; show ((0 : Nat) : Int) ≤ _; omega, fun u => by rw [e, noneP_lang, W.zero hn h0], fun i => by rw [e]; exact Nat.zero_le _⟩
    · have e : partN ns q = stepP q := by rw [hP]; unfold partOfP; rw [if_neg h0, if_neg (by omega), if_neg (by omega), if_neg (by omega)]
      exact ⟨by rw [e]; exact stepP_fit q, by rw [e, hsz]; show ((1 : Nat) : Int) ≤ _; omega, fun u => by rw [e, stepP_lang, W.one hn (by omega)], fun i => by rw [e]; simp only [stepP]; split <;> omega⟩
  · have pl := ih l hlq
    have pr := ih r hrq
    have el := partAt_get ns hlq
    have er := partAt_get ns hrq
    have hsum : (partN ns l).count + (partN ns r).count ≤ 60 := by
      have := pl.count; have := pr.count
      rw [hsz, hs] at h60
      split at h60 <;> omega
    have hcnt : (((partN ns l).count + (partN ns r).count : Nat) : Int) ≤ sizeAt ns q := by
      have := pl.count; have := pr.count
      rw [hsz, hs]
      rw [hsz, hs] at h60
      split <;> split at h60 <;> omega
    refine ⟨?_, n, hn, by omega, by omega, ⟨by omega, by omega, fun _ => by rw [hl, hr, el, er]; exact hsum, fun h => by omega, fun h => by omega⟩⟩
    rcases hk with hk | hk
    · have e : partN ns q = bothP (partN ns l) (partN ns r) := by rw [hP]; unfold partOfP; rw [if_neg (by omega), if_pos hk, hl, hr, el, er]
      refine ⟨by rw [e]; exact both_fit pl.fit pr.fit hsum, by rw [e]; exact hcnt, fun u => ?_, fun i => by rw [e]; exact beside_node _ _ q (fun i => by have := pl.node i; omega) (fun i => by have := pr.node i; omega) i⟩
      rw [e, both_lang pl.fit pr.fit hsum, W.two hn hk hl hr]
      simp only [pl.lang, pr.lang]
    · have e : partN ns q = eitherP (partN ns l) (partN ns r) := by rw [hP]; unfold partOfP; rw [if_neg (by omega), if_neg (by omega), if_pos hk, hl, hr, el, er]
      refine ⟨by rw [e]; exact either_fit pl.fit pr.fit hsum, by rw [e]; exact hcnt, fun u => ?_, fun i => by rw [e]; exact beside_node _ _ q (fun i => by have := pl.node i; omega) (fun i => by have := pr.node i; omega) i⟩
      rw [e, either_lang pl.fit pr.fit hsum, W.alt hn hk hl hr]
      simp only [pl.lang, pr.lang]
  · have pl := ih l hlq
    have el := partAt_get ns hlq
    have hle := repN_le (a := n.least) (b := n.most) b1 (by omega)
    have hsl : 1 ≤ sizeAt ns l := (hok.size (by omega)).1
    have hmul : ((repN n.least n.most * (partN ns l).count : Nat) : Int) ≤ sizeAt ns l * timesS n.least n.most := by
      rw [Int.natCast_mul, Int.mul_comm]
      exact Int.mul_le_mul pl.count hle (by omega) (by omega)
    have hrep : repN n.least n.most * (partN ns l).count ≤ 60 := by
      rw [hsz, hs] at h60
      split at h60 <;> omega
    have hcnt : ((repN n.least n.most * (partN ns l).count : Nat) : Int) ≤ sizeAt ns q := by
      rw [hsz, hs]
      rw [hsz, hs] at h60
      split <;> split at h60 <;> omega
    refine ⟨?_, n, hn, by omega, by omega, ⟨by omega, by omega, fun h => by omega, fun _ => by rw [hl, el]; exact pl.fit, fun _ => ⟨b1, b2, b3, b4, by rw [hl, el]; exact hrep⟩⟩⟩
    have e : partN ns q = repP (partN ns l) n.least n.most := by rw [hP]; unfold partOfP; rw [if_neg (by omega), if_neg (by omega), if_neg (by omega), if_pos hk, hl, el]
    have hnode : ∀ i, (partN ns q).node i ≤ q := fun i => by
      rw [e]; unfold repP
      split <;> exact copies_node _ q (fun i => by have := pl.node i; omega) _ _ _ _ i
    by_cases hm : n.most = -1
    · have er : repN n.least n.most = (if n.least.toNat < 1 then 1 else n.least.toNat) := by unfold repN; rw [if_pos hm]
      have ep : repP (partN ns l) n.least n.most = copiesP (partN ns l) true n.least.toNat (repN n.least n.most) (repN n.least n.most) := by rw [er]; unfold repP; rw [if_pos hm]
      obtain ⟨f1, f2⟩ := copiesP_fit pl.fit true n.least.toNat (repN n.least n.most) (repN n.least n.most) hrep
      refine ⟨by rw [e, ep]; exact f1, by rw [e, ep, f2]; exact hcnt, fun u => ?_, hnode⟩
      rw [e, ep, er, endless_lang pl.fit n.least.toNat (by rw [← er]; exact hrep), W.many hn hk hl]
      constructor
      · rintro ⟨m, h5, us, h6, h7, h8⟩; exact ⟨m, by omega, Or.inl hm, us, h6, h7, fun x hx => (pl.lang x).1 (h8 x hx)⟩
      · rintro ⟨m, h5, _, us, h6, h7, h8⟩; exact ⟨m, by omega, us, h6, h7, fun x hx => (pl.lang x).2 (h8 x hx)⟩
    · have er : repN n.least n.most = n.most.toNat := by unfold repN; rw [if_neg hm]
      have ep : repP (partN ns l) n.least n.most = copiesP (partN ns l) false n.least.toNat (repN n.least n.most) (repN n.least n.most) := by rw [er]; unfold repP; rw [if_neg hm]
      obtain ⟨f1, f2⟩ := copiesP_fit pl.fit false n.least.toNat (repN n.least n.most) (repN n.least n.most) hrep
      refine ⟨by rw [e, ep]; exact f1, by rw [e, ep, f2]; exact hcnt, fun u => ?_, hnode⟩
      rw [e, ep, er, upto_lang pl.fit n.least.toNat n.most.toNat (by rw [← er]; exact hrep) (by omega), W.many hn hk hl]
      constructor
      · rintro ⟨m, h5, h9, us, h6, h7, h8⟩; exact ⟨m, by omega, Or.inr (by omega), us, h6, h7, fun x hx => (pl.lang x).1 (h8 x hx)⟩
      · rintro ⟨m, h5, h9, us, h6, h7, h8⟩; exact ⟨m, by omega, by omega, us, h6, h7, fun x hx => (pl.lang x).2 (h8 x hx)⟩

theorem part_all {ns : List AN} (hok : NodesOk ns) (hall : ∀ i, i < ns.length → sizeAt ns i ≤ 60) (hlen : ns.length ≤ 900) : ∀ m q, q < m → q < ns.length → PartOfN ns q
  | 0, _, h, _ => by omega
  | m + 1, q, h, hq => (part_step hok hall hlen hq (fun l hl => part_all hok hall hlen m l (by omega) (by omega))).1
theorem nodes_fit {ns : List AN} (hok : NodesOk ns) (hall : ∀ i, i < ns.length → sizeAt ns i ≤ 60) (hlen : ns.length ≤ 900) : NodesFit ns := fun q n hn => by
  have hq := (List.getElem?_eq_some_iff.1 hn).1
  obtain ⟨_, n', hn', h⟩ := part_step hok hall hlen hq (fun l hl => part_all hok hall hlen q l hl (by omega))
  rw [hn] at hn'
  cases hn'
  exact h

end Go.Proofs.Ytpnjeefgpaiidaa

set_option linter.unusedVariables false
set_option linter.unusedSimpArgs false
namespace Go.Proofs.Ytpnjeefgpaiidaa

theorem D.fw {t : ByteArray} {tag cur : Nat} {st : PS} {r : Nat × PS} (h : D t tag cur st r) : Fits t st.1 → Fw t st r := by
  induction h with
  | pattern _ _ a b => intro hf; have f1 := a hf; have f2 := b f1.fit; exact ⟨f2.fit, Nat.le_trans f1.ge f2.ge⟩
  | empty he => intro hf; exact ⟨hf, Nat.le_refl _⟩
  | branch he _ _ a b => intro hf; have f1 := a hf; have f2 := b f1.fit; exact ⟨f2.fit, Nat.le_trans f1.ge f2.ge⟩
  | piece _ _ a b => intro hf; have f1 := a hf; have f2 := b f1.fit; exact ⟨f2.fit, Nat.le_trans f1.ge f2.ge⟩
  | @group cur st r1 he _ a =>
    intro hf
    have f1 := close_fw (a (fits_next hf))
    exact ⟨f1.fit, Nat.le_trans (next_ge hf) f1.ge⟩
  | @list cur st he =>
    intro hf
    have f1 := list_fw (t := t) (st := ((nextS t st.1).2, st.2)) (fits_next hf)
    exact ⟨f1.fit, Nat.le_trans (next_ge hf) f1.ge⟩
  | @plain cur st h1 h2 =>
    intro hf
    have f1 := plain_fw (t := t) (c := (nextS t st.1).1) (st := ((nextS t st.1).2, st.2)) (fits_next hf)
    exact ⟨f1.fit, Nat.le_trans (next_ge hf) f1.ge⟩
  | @or cur st r1 r he _ _ a b =>
    intro hf
    have f1 := a (fits_take (by omega) hf)
    have f2 := b f1.fit
    exact ⟨f2.fit, Nat.le_trans (take_ge (t := t) (c := 124) (s := st.1)) (Nat.le_trans f1.ge f2.ge)⟩
  | orEnd he => intro hf; exact ⟨hf, Nat.le_refl _⟩
  | and he _ _ a b => intro hf; have f1 := a hf; have f2 := b f1.fit; exact ⟨f2.fit, Nat.le_trans f1.ge f2.ge⟩
  | andEnd he => intro hf; exact ⟨hf, Nat.le_refl _⟩
  | @rep cur st r he _ a =>
    intro hf
    have f2 := a (fits_repeat hf)
    exact ⟨f2.fit, Nat.le_trans (Nat.le_of_lt (repeat_gt (repS_lt he))) f2.ge⟩
  | repEnd he => intro hf; exact ⟨hf, Nat.le_refl _⟩

theorem close_len (t : ByteArray) (r : Nat × PS) : (closeS t r).2.2 = r.2.2 := by unfold closeS; rfl
theorem plain_len (t : ByteArray) (c : Int) (st : PS) : (plainS t c st).2.2.length = st.2.length + 1 := by
  unfold plainS bytesS addS
  repeat' split
  all_goals simp

/-- How many nodes: at most four for each byte, and one. -/
theorem D.nodes {t : ByteArray} {tag cur : Nat} {st : PS} {r : Nat × PS} (h : D t tag cur st r) : Fits t st.1 → (tag = 2 ∨ tag = 3 → st.1.1 < t.size) →
    r.2.2.length + 4 * (t.size - r.2.1.1) + (if tag = 2 ∨ tag = 3 then 3 else 0) ≤ st.2.length + 4 * (t.size - st.1.1) + (if tag = 0 ∨ tag = 1 then 1 else 0) := by
  induction h with
  | pattern d1 _ a b =>
    intro hf _
    have h1 := a hf (by omega)
    have h2 := b (d1.fw hf).fit (by omega)
    simp at h1 h2 ⊢
    omega
  | empty he => intro hf _; simp [addS]; omega
  | branch he d1 _ a b =>
    intro hf _
    have h1 := a hf (fun _ => endS_lt he)
    have h2 := b (d1.fw hf).fit (by omega)
    simp at h1 h2 ⊢
    omega
  | piece d1 _ a b =>
    intro hf hl
    have h1 := a hf (fun _ => hl (Or.inl rfl))
    have h2 := b (d1.fw hf).fit (by omega)
    simp at h1 h2 ⊢
    omega
  | @group cur st r1 he d a =>
    intro hf hl
    have hlt := hl (Or.inr rfl)
    have hgt := next_gt hlt
    have hfn : (nextS t st.1).2.1 ≤ t.size := fits_next hf
    have h1 := a (fits_next hf) (by omega)
    have f0 := d.fw (fits_next hf)
    have f1 := (close_fw f0).ge
    have hcf : (closeS t r1).2.1.1 ≤ t.size := (close_fw f0).fit
    have hge : r1.2.1.1 ≤ (closeS t r1).2.1.1 := by
      have g3 := take_ge (t := t) (c := 41) (s := r1.2.1)
      have : r1.2.1.1 ≤ t.size := f0.fit
      unfold closeS
      simp only []
      split
      · exact g3
      · exact this
    rw [close_len]
    simp at h1 ⊢
    omega
  | @list cur st he =>
    intro hf hl
    have hlt := hl (Or.inr rfl)
    have hgt := next_gt hlt
    have f1 := (list_fw (t := t) (st := ((nextS t st.1).2, st.2)) (fits_next hf)).ge
    have hlen : (listS t ((nextS t st.1).2, st.2)).2.2.length = st.2.length + 1 := by unfold listS; simp [addS]
    rw [hlen]
    simp at f1 ⊢
    omega
  | @plain cur st h1 h2 =>
    intro hf hl
    have hlt := hl (Or.inr rfl)
    have hgt := next_gt hlt
    have f1 := (plain_fw (t := t) (c := (nextS t st.1).1) (st := ((nextS t st.1).2, st.2)) (fits_next hf)).ge
    rw [plain_len]
    simp at f1 ⊢
    omega
  | @or cur st r1 r he d1 _ a b =>
    intro hf _
    have hgt := take_gt he
    have hft : (takeS t 124 st.1).2.1 ≤ t.size := fits_take (by omega) hf
    have h1 := a hft (by omega)
    have h2 := b (d1.fw hft).fit (by omega)
    simp [joinS, addS] at h1 h2 ⊢
    omega
  | orEnd he => intro hf _; simp
  | @and cur st r1 r he d1 _ a b =>
    intro hf _
    have h1 := a hf (fun _ => endS_lt he)
    have h2 := b (d1.fw hf).fit (by omega)
    simp [joinS, addS] at h1 h2 ⊢
    omega
  | andEnd he => intro hf _; simp
  | @rep cur st r he _ a =>
    intro hf _
    have hgt := repeat_gt (repS_lt he)
    have hfr : (repeatS t st.1).2.1 ≤ t.size := fits_repeat hf
    have h2 := a hfr (by omega)
    simp [againS, addS] at h2 ⊢
    omega
  | repEnd he => intro hf _; simp

/-- What is known of a pattern that was read, and is small enough. -/
structure Okay (t : ByteArray) (r : Nat × PS) : Prop where
  ok : NodesOk r.2.2
  len : r.2.2.length ≤ 900
  top : r.1 + 1 = r.2.2.length
  all : ∀ i, i < r.2.2.length → sizeAt r.2.2 i ≤ 60

theorem okay_of {t : ByteArray} {r : Nat × PS} (ht : t.size ≤ 40) (h : Ev t 0 0 st0 r) (hs : sizeAt r.2.2 r.1 ≤ 60) : Okay t r := by
  have hf : Fits t st0.1 := Nat.zero_le _
  have d := h.deriv hf
  have g := d.gr (by omega) (fun q n hn => by simp [st0] at hn) (fun h => by omega)
  have hn := d.nodes hf (by omega)
  simp [st0] at hn
  exact ⟨g.ok, by omega, g.top, fun i hi => Int.le_trans (g.big i (Nat.zero_le _) hi) hs⟩

theorem all_ready : allReady := fun t r ht h _ hs => by
  have o := okay_of ht h hs
  have hl : lastQ r.2.2 r.2.2.length = partN r.2.2 r.1 := by rw [← o.top]; rfl
  have p := part_all o.ok o.all o.len (r.1 + 1) r.1 (by omega) (by have := o.top; omega)
  have hlen := o.len
  have htop := o.top
  refine ⟨o.len, nodes_fit o.ok o.all o.len, fun n hn => ?_, by rw [hl]; exact p.fit.room, fun i => by rw [hl]; have := p.node i; omega⟩
  obtain ⟨q, hq⟩ := List.mem_iff_getElem?.1 hn
  exact (o.ok q n hq).2.2.1

end Go.Proofs.Ytpnjeefgpaiidaa
