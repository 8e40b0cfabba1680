/- The machine: a row of one part; one part more in the row. -/
import Derived.Test.YtpnjeefgpaiidaaG09
import Derived.Test.YtpnjeefgpaiidaaG02
set_option linter.unusedVariables false
set_option linter.unusedSimpArgs false
namespace Go.Proofs.Ytpnjeefgpaiidaa
open Go.RowKit Go.IntWalk

theorem cellsF_of (z : Array Value) : z = cellsF z.size (fun i => z.getD i undef) := by
  apply Array.ext
  · simp
  · intro j h1 h2
    simp only [cellsF, List.getElem_toArray, List.getElem_map, List.getElem_range]
    simp [h1]
theorem overlay_whole (z : Array Value) (n : Nat) (hz : z.size = n) (g : Nat → Value) :
    Array.foldl (fun cs (x : Value × Nat) => cs.setIfInBounds (0 + x.2) x.1) z (cellsF n g).zipIdx 0 n = cellsF n g := by
  rw [cellsF_of z, hz, overlay_F]
  refine cellsF_congr fun j hj => ?_
  rw [if_pos (by omega), Nat.sub_zero]

theorem zeroPartInfo : (Try.prog.info? 109).map (fun i => (i.zero, i.size, i.bytes)) = some (some (.agg (gpCells {})), 124, 992) := by kernel_rfl

theorem buildSlice_part (w : World) (p : GP) :
    (Instr.buildSlice 156 1 #[(0, .agg (gpCells p))]).run Try.prog w = .ok (.slice (some ⟨w.heap.size, 0, none⟩) 1 1) (w.alloc (.cells (gpCells p) 109)) := by
  obtain ⟨i0, hi0, hz0, hz1, hz2⟩ := info_parts zeroPartInfo
  have hs : ∀ w, (sizeOf 109).run Try.prog w = .ok 124 w := fun w => by simp [sizeOf, typeInfo, hi0, hz1]
  unfold Instr.buildSlice
  rw [Sem.run_bind, run_underlying Try.underlying156]
  simp only [Result.andThen_ok]
  rw [Sem.run_bind, hs]
  simp only [Result.andThen_ok]
  rw [if_neg (by decide), if_neg (by decide)]
  simp [Sem.run_bind, zeroV_part, Instr.fill, newRow, go_sem]
  refine congrArg (fun c => w.alloc (.cells c 109)) ?_
  have h := fun z hz => overlay_whole z 124 hz (pCell p)
  simp only [Nat.zero_add] at h
  exact h _ rfl

/-- A row of one part, as an operation. -/
theorem wpList_row_part {ops : Array Oper} {rest : List Oper} {o : Oper} {a : Act} {w : World} {Q : Exit → Act → World → Prop} (hgd : o.guard = none) (x : Operand) (ho : o.op = .buildSlice 156 1 #[(0, x)])
    (p : GP) (hx : a.eval x = .agg (gpCells p))
    (h : wpList Try.prog ops Q rest (a.put o.dst (.slice (some ⟨w.heap.size, 0, none⟩) 1 1)) (w.alloc (.cells (gpCells p) 109))) : wpList Try.prog ops Q (o :: rest) a w := by
  refine wpList_plain hgd fun K hK => ?_
  unfold Oper.wp execOp
  simp only [ho, List.map_toArray, List.map_cons, List.map_nil, hx, buildSlice_part, Result.andThen_ok, Sem.run_bind, Sem.run_pure]
  exact hK _ _ h

/-- One part more. -/
theorem wpList_append_part {ops : Array Oper} {rest : List Oper} {o : Oper} {a : Act} {w : World} {Q : Exit → Act → World → Prop} (hgd : o.guard = none) (s x : Operand)
    (ho : o.op = .call { callee := .builtin .append, args := #[s, x], argTypes := #[156, 156] })
    (B g : Nat) (v : Value) (ps : List GP) (p : GP) (hs : a.eval s = v) (hx : a.eval x = .slice (some ⟨g, 0, none⟩) 1 1) (hl : ps.length ≤ 1000) (hown : PartsIn w B v ps) (hg : Blk w g (gpCells p) 109) (hB : B ≤ w.heap.size)
    (h : ∀ v' w', PartsIn w' B v' (ps ++ [p]) → w.grownBy w' v.ownBlock → wpList Try.prog ops Q rest (a.put o.dst v') w') : wpList Try.prog ops Q (o :: rest) a w := by
  obtain ⟨i0, hi0, hz0, hz1, hz2⟩ := info_parts zeroPartInfo
  refine wpList_append_placed hgd s x _ ho B 109 i0 _ 124 992 Try.underlying156 hi0 hz0 hz1 hz2 (by simp [Value.cells]) (by decide) v ps.length (partsCells ps) hs hown ⟨g, 0, none⟩ 1 1 (gpCells p).toList hx (by simp) (fun j u hu => ?_) (fun u hu => ?_) (by unfold maxLen; omega) (by omega) hB (fun v' w' h1 h2 _ => h v' w' ?_ h2)
  · rw [show (⟨g, 0, none⟩ : Addr).add j = ⟨g, j, none⟩ by unfold Addr.add; split <;> simp_all, hg.cell]
    simpa using hu
  · exact (Array.all_eq_true_iff_forall_mem.1 (gpCells_one p)) u (by simpa using hu)
  · unfold PartsIn
    rw [partsCells_snoc, List.length_append]
    exact h1

end Go.Proofs.Ytpnjeefgpaiidaa

set_option linter.unusedVariables false
set_option linter.unusedSimpArgs false
namespace Go.Proofs.Ytpnjeefgpaiidaa
open Go.RowKit Go.IntWalk

def dummyN : AN := { kind := 0, size := 0 }
/-- The parts of the first q nodes; the latest one. -/
def partsQ (ns : List AN) : Nat → List GP
  | 0 => []
  | q + 1 => partsQ ns q ++ [partOfP (ns.getD q dummyN) q (partsQ ns q)]
theorem partsQ_length (ns : List AN) : ∀ q, (partsQ ns q).length = q
  | 0 => rfl
  | q + 1 => by simp [partsQ, partsQ_length ns q]
def lastQ (ns : List AN) : Nat → GP
  | 0 => noneP
  | q + 1 => partOfP (ns.getD q dummyN) q (partsQ ns q)

/-- All nodes fit. -/
def NodesFit (ns : List AN) : Prop := ∀ q n, ns[q]? = some n → 0 ≤ n.kind ∧ n.kind ≤ 6 ∧ NodeFits n (partsQ ns q)

theorem infoNode2 : (Try.prog.info? 115).map (·.size) = some 8 := by kernel_rfl

theorem wpList_load_node {ops : Array Oper} {rest : List Oper} {o : Oper} {a : Act} {w : World} {Q : Exit → Act → World → Prop} (hgd : o.guard = none) (y : Operand) (ho : o.op = .load 115 y)
    (g off : Nat) (hx : a.eval y = .pointer (some ⟨g, off, none⟩)) (n : AN) (x : IV) (hg : w.rangeAt g off (n.cells x))
    (h : wpList Try.prog ops Q rest (a.put o.dst (.agg #[.int .i64 n.kind, .slice x.1 x.2.1 x.2.2, .bool n.neg, .int .i64 n.left, .int .i64 n.right, .int .i64 n.least, .int .i64 n.most, .int .i64 n.size])) w) : wpList Try.prog ops Q (o :: rest) a w :=
  wpList_load_mid hgd _ y ho g off hx (n.cells x) _ hg Try.underlying115 rfl (by simpa [AN.cells] using infoNode2) h

theorem node_range {w : World} {B g cap : Nat} {ns : List AN} {xs : List IV} (h : w.ownsRow B 115 8 (.slice (some ⟨g, 0, none⟩) ns.length cap) ns.length (nodesCells ns xs)) {q : Nat} {n : AN} {x : IV} (hn : ns[q]? = some n) (hx : xs[q]? = some x) :
    w.rangeAt g (q * 8) (n.cells x) := fun j v hv => by
  have hj : j < 8 := by have := (List.getElem?_eq_some_iff.1 hv).1; simpa [AN.cells] using this
  have h1 := h.cells (g := g) rfl (q * 8 + j) v (by rw [nodesCells_get ns xs q j n x hn hx hj, ← hv])
  rwa [show (⟨g, 0, none⟩ : Addr).add (q * 8 + j) = ⟨g, q * 8 + j, none⟩ by simp [Addr.add]; omega] at h1

theorem range_kept {w w' : World} {g off : Nat} {cs : List Value} {S : List Nat} (h : w.rangeAt g off cs) (k : Kept S w w') (hs : ¬ g ∈ S) (hc : 0 < cs.length) : w'.rangeAt g off cs := fun j v hv => by
  have h1 := h j v hv
  have hlt : g < w.heap.size := by
    obtain ⟨u, hu⟩ : ∃ u, cs[0]? = some u := ⟨_, List.getElem?_eq_getElem hc⟩
    exact block_lt_of_cell (h 0 u hu)
  unfold World.cell? at *
  simp only [] at *
  rw [k.block g hlt hs]
  exact h1

/-- The result's room, the latest part, the row of the parts. -/
structure WrIn (w0 w : World) (ns : List AN) (q : Nat) (v : Value) : Prop where
  b0 : Blk w w0.heap.size (gpCells {}) 109
  b1 : Blk w (w0.heap.size + 1) (gpCells (lastQ ns q)) 109
  ps : PartsIn w (w0.heap.size + 1 + 1) v (partsQ ns q)
  k : Kept [] w0 w

set_option maxHeartbeats 2000000 in
set_option maxRecDepth 100000 in
theorem write_any (ns : List AN) (xs : List IV) (B0 : Nat) (v : Value) (w : World) (h : w.ownsRow B0 115 8 v ns.length (nodesCells ns xs)) (hx : xs.length = ns.length) (hl : ns.length ≤ 900) (hn : NodesFit ns) :
    PartCall 64 #[v] w (lastQ ns ns.length) := by
  unfold PartCall
  have hz := zeroV_part
  obtain ⟨va, cap, rfl⟩ : ∃ a cap, v = .slice a ns.length cap := by
    rcases h.2 with ⟨h1, h2⟩ | ⟨g, cap, _, h1, _⟩
    · exact ⟨none, 0, by rw [h1, h2]⟩
    · exact ⟨_, cap, h1⟩
  have hst : ∀ w1, Blk w1 (w.heap.size + 1) (gpCells noneP) 109 → Kept [w.heap.size + 1] ((w.alloc (.cells (gpCells {}) 109)).alloc (.cells (gpCells {}) 109)) w1 → WrIn w w1 ns 0 (.slice none 0 0) := fun w1 hb hk =>
    ⟨((Blk.new w _ _).alloc _).kept hk (by simp), hb, World.ownsRow_nil _ _ _ _, (((Kept.refl _ _).alloc _).alloc _).into hk (by omega)⟩
  have hstH : Hid (∀ w1, _ → _ → _) := hst
  clear hst
  go_enter Try.func64, Try.ntmps64
  go_wp2_with (first
    | (refine wpList_build_none rfl rfl ?_)
    | (with_reducible refine wpList_store_part ?_ (.tmp 3) (.tmp 6) ?_ (w.heap.size + 1) ?_ {} noneP ?_ ?_ ?_
       · rfl
       · rfl
       · rfl
       · rfl
       · exact Blk.new1 w (.cells (gpCells {}) 109) (gpCells {}) 109
       intro w1 hb1 hk1 hs1
       have hs0 := hstH.out w1 hb1 hk1
       clear hb1 hk1 hs1))
  go_loopw [4, 5] (fun tv iv wr => ∃ (q : Nat) (pv : Value), tv = pv ∧ iv = .int .i64 (q : Int) ∧ q ≤ ns.length ∧ WrIn w wr ns q pv) (fun _ iv _ => ((ns.length : Int) - intOf iv).toNat)
  case atStart => exact ⟨0, _, rfl, rfl, Nat.zero_le _, hs0⟩
  case round =>
    obtain ⟨q, tv, htv, rfl, hq, hI⟩ := hrel
    obtain rfl := htv.symm
    clear hs0 hstH
    by_cases hlt : (q : Int) < (ns.length : Int)
    · have hqn : q < ns.length := by omega
      obtain ⟨n, hnn⟩ : ∃ n, ns[q]? = some n := ⟨_, List.getElem?_eq_getElem hqn⟩
      obtain ⟨x, hxx⟩ : ∃ x, xs[q]? = some x := ⟨_, List.getElem?_eq_getElem (by omega)⟩
      obtain ⟨g, cap', hv⟩ := own_form h (by omega)
      simp only [Value.slice.injEq] at hv
      obtain ⟨rfl, _, rfl⟩ := hv
      have hrg : wr.rangeAt g (q * 8) (n.cells x) := range_kept (node_range h hnn hxx) hI.k (by simp) (by simp [AN.cells])
      obtain ⟨f1, f2, f3⟩ := hn q n hnn
      have hgd : ns.getD q dummyN = n := by rw [List.getD_eq_getElem?_getD, hnn]; rfl
      have e1 : Hid (lastQ ns (q + 1) = partOfP n q (partsQ ns q)) := by show lastQ ns (q + 1) = _; rw [lastQ, hgd]
      have e2 : Hid (partsQ ns (q + 1) = partsQ ns q ++ [partOfP n q (partsQ ns q)]) := by show partsQ ns (q + 1) = _; rw [partsQ, hgd]
      have hcall : Hid (∀ w', PartsIn w' (w.heap.size + 1 + 1) tv (partsQ ns q) → PartCall _ _ w' _) := fun w' h' => partOf_any n x q (partsQ ns q) _ tv w' h' (by rw [partsQ_length]; omega) (by omega) f3 f1 f2
      have hlp : (partsQ ns q).length ≤ 1000 := by rw [partsQ_length]; omega
      have hIH : Hid (WrIn _ _ _ _ _) := hI
      clear hI hgd hnn hxx f1 f2 f3 h hn
      have hgt := hIH.out.b1.lt
      generalize partOfP n q (partsQ ns q) = P at *
      go_wp2_with (first
        | (with_reducible refine wpList_load_node ?_ (.tmp 15) ?_ g (q * 8) ?_ n x ?_ ?_
           · rfl
           · rfl
           · first | rfl | (simp [Act.eval])
           · exact hrg)
        | (go_at_call 92
           refine (hcall.out _ hIH.out.ps).mono ?_
           rintro e w1 ⟨rfl, k1⟩
           have g0 := hIH.out.b0.kept k1 (by simp)
           have g1 := hIH.out.b1.kept k1 (by simp)
           have g2 := hIH.out.ps.keep k1 (by simp)
           have g3 := hIH.out.k.trans k1)
        | (with_reducible refine wpList_store_part ?_ (.tmp 3) (.tmp 19) ?_ (w.heap.size + 1) ?_ (lastQ ns q) P ?_ ?_ ?_
           · rfl
           · rfl
           · rfl
           · rfl
           · exact g1
           intro w2 hb2 hk2 hs2
           have p0 := g0.kept hk2 (by simp)
           have p2 := g2.keep hk2 (by simp)
           have p3 := g3.into hk2 (by omega)
           clear hk2 hs2 hrg)
        | (with_reducible refine wpList_load_part ?_ (.tmp 3) ?_ (w.heap.size + 1) ?_ P ?_ ?_
           · rfl
           · rfl
           · rfl
           · exact hb2)
        | (with_reducible refine wpList_row_part ?_ (.tmp 21) ?_ P ?_ ?_
           · rfl
           · rfl
           · rfl)
        | (at_builtin
           with_reducible refine wpList_append_part ?_ (.tmp 20) (.tmp 22) ?_ (w.heap.size + 1 + 1) w2.heap.size tv (partsQ ns q) P ?_ ?_ ?_ ?_ ?_ ?_ ?_
           · rfl
           · rfl
           · rfl
           · rfl
           · exact hlp
           · exact p2.keep ((Kept.refl [] w2).alloc (.cells (gpCells P) 109)) (by simp)
           · exact Blk.new w2 (gpCells P) 109
           · have := hb2.lt; simp; omega
           intro v' w3 hown hgrow
           have q3 : WrIn w w3 ns (q + 1) v' := by
             have hlt2 := hb2.lt
             have bl : ∀ k, k < w2.heap.size → tv.ownBlock ≠ some k → w3.heap[k]? = w2.heap[k]? := fun k hk hne => by
               rw [hgrow.block k (by simp; omega) (fun hc => hne hc.symm), Below.heap_alloc _ _ _ hk]
             have hne : ∀ k, k < w.heap.size + 1 + 1 → tv.ownBlock ≠ some k := fun k hk hc => by have := (p2.lt k hc).1; omega
             refine ⟨?_, ?_, ?_, ?_⟩
             · exact (bl _ (by omega) (hne _ (by omega))).trans p0
             · rw [e1.out]; exact (bl _ (by omega) (hne _ (by omega))).trans hb2
             · rw [e2.out]; exact hown
             · have hs2 : w2.heap.size ≤ w3.heap.size := by have := hgrow.size; simp at this; omega
               exact ⟨hgrow.os.trans p3.os, hgrow.tape.trans p3.tape, hgrow.output.trans p3.output, Nat.le_trans p3.size hs2, fun i hi hn => by
                 have := p3.size
                 rw [bl i (by omega) (hne i (by omega))]; exact p3.block i hi hn⟩
           have q3H : Hid (WrIn _ _ _ _ _) := q3
           clear q3 hown hgrow))
      refine ⟨⟨q + 1, v', rfl, by go_num, by omega, q3H.out⟩, ?_⟩
      simp only [intOf]; omega
    · have hqe : ns.length = q := by omega
      have hbH : Hid (Blk wr (w.heap.size + 1) (gpCells (lastQ ns ns.length)) 109) := by rw [hqe]; exact hI.b1
      clear hqe
      go_wp2_with (first
        | (with_reducible refine wpList_load_part ?_ (.tmp 3) ?_ (w.heap.size + 1) ?_ (lastQ ns ns.length) ?_ ?_
           · rfl
           · rfl
           · rfl
           · exact hbH.out)
        | (with_reducible refine wpList_store_part ?_ (.tmp 2) (.tmp 24) ?_ w.heap.size ?_ {} (lastQ ns ns.length) ?_ ?_ ?_
           · rfl
           · rfl
           · rfl
           · rfl
           · exact hI.b0
           intro w8 hb8 hk8 hs8
           have hK8 := hI.k.into hk8 (by omega)))
      exact bodyPost_ret (v := .agg (gpCells (lastQ ns ns.length))) (results_part Try.results64 _ _ _ (lastQ ns ns.length) rfl hb8) rfl ⟨rfl, hK8⟩

end Go.Proofs.Ytpnjeefgpaiidaa

set_option linter.unusedVariables false
set_option linter.unusedSimpArgs false
namespace Go.Proofs.Ytpnjeefgpaiidaa
open Go.RowKit Go.IntWalk

structure MP where
  whole : Bool := false
  next : Nat → B64 := fun _ => 0#64
  takes : Nat → B64 := fun _ => 0#64
  begins : B64 := 0#64
  ends : B64 := 0#64
  last : B64 := 0#64

def mCell (m : MP) (i : Nat) : Value :=
  if i = 0 then .bool m.whole else if i < 62 then UV (m.next (i - 1)) else if i < 318 then UV (m.takes (i - 62))
  else if i = 318 then UV m.begins else if i = 319 then UV m.ends else UV m.last
def mCells (m : MP) : Array Value := cellsF 321 (mCell m)
@[simp] theorem mCells_size (m : MP) : (mCells m).size = 321 := cellsF_size _ _

def MIn (w : World) (g : Nat) (m : MP) : Prop := Blk w g (mCells m) 67
section
variable {w : World} {g : Nat} {m : MP}
theorem MIn.c0 (h : MIn w g m) : w.cell? ⟨g, 0, none⟩ = some (.bool m.whole) := by rw [Blk.cell h]; exact cellsF_get _ (by decide)
theorem MIn.begins (h : MIn w g m) : w.cell? ⟨g, 318, none⟩ = some (UV m.begins) := by rw [Blk.cell h]; exact cellsF_get _ (by decide)
theorem MIn.ends (h : MIn w g m) : w.cell? ⟨g, 319, none⟩ = some (UV m.ends) := by rw [Blk.cell h]; exact cellsF_get _ (by decide)
theorem MIn.last (h : MIn w g m) : w.cell? ⟨g, 320, none⟩ = some (UV m.last) := by rw [Blk.cell h]; exact cellsF_get _ (by decide)
theorem MIn.next (h : MIn w g m) {i : Nat} (hi : i < 61) : w.cell? ⟨g, 1 + i, none⟩ = some (UV (m.next i)) := by
  rw [Blk.cell h]
  unfold mCells
  rw [cellsF_get _ (by omega)]
  unfold mCell
  rw [if_neg (by omega), if_pos (by omega), show 1 + i - 1 = i by omega]
theorem MIn.takes (h : MIn w g m) {i : Nat} (hi : i < 256) : w.cell? ⟨g, 62 + i, none⟩ = some (UV (m.takes i)) := by
  rw [Blk.cell h]
  unfold mCells
  rw [cellsF_get _ (by omega)]
  unfold mCell
  rw [if_neg (by omega), if_neg (by omega), if_pos (by omega), show 62 + i - 62 = i by omega]
end

def followQ (m : MP) (s : B64) : Nat → B64
  | 0 => 0#64
  | q + 1 => if s.getLsbD q = true then followQ m s q ||| m.next q else followQ m s q
def followP (m : MP) (s : B64) : B64 := followQ m s 61
def stillQ (m : MP) (free : B64) (s : B64) : Nat → B64
  | 0 => s
  | q + 1 => stillQ m free s q ||| (followP m (stillQ m free s q) &&& free)
def stillP (m : MP) (s free : B64) : B64 := stillQ m free s 60

set_option maxHeartbeats 2000000 in
set_option maxRecDepth 100000 in
theorem follow_any (m : MP) (g : Nat) (s : B64) (w : World) (h : MIn w g m) :
    Calls Try.prog 95 #[.pointer (some ⟨g, 0, none⟩), .int .u64 (s.toNat : Int)] w fun e w' => e = .returned (.int .u64 ((followP m s).toNat : Int)) ∧ w' = w := by
  go_enter Try.func95, Try.ntmps95
  go_wp2_with fail
  go_loop [5, 6] (fun sv iv => ∃ q : Nat, sv = .int .u64 ((followQ m s q).toNat : Int) ∧ iv = .int .i64 (q : Int) ∧ q ≤ 61) (fun _ iv => (61 - intOf iv).toNat)
  case atStart => exact ⟨0, rfl, rfl, by omega⟩
  case round =>
    obtain ⟨q, rfl, rfl, hq⟩ := hrel
    by_cases hlt : (q : Int) ≤ 60
    · have hqn : q < 61 := by omega
      have hc := h.next hqn
      have hhas : Hid (Calls _ _ _ _ _) := has_any s q (by omega) w
      have hor := or_u (followQ m s q) (m.next q)
      have hon : Hid (s.getLsbD q = true → followQ m s (q + 1) = followQ m s q ||| m.next q) := fun hb => by rw [followQ, if_pos hb]
      have hoff : Hid (s.getLsbD q = false → followQ m s (q + 1) = followQ m s q) := fun hb => by rw [followQ, if_neg (by rw [hb]; decide)]
      cases hbit : s.getLsbD q with
      | true =>
        have e := hon.out hbit
        rw [hbit] at hhas
        clear hbit hon hoff h
        generalize followQ m s q ||| m.next q = Z at hor e
        have eH : Hid (_ = _) := e
        clear e
        go_wp2_with (go_at_call 135; refine hhas.out.mono ?_; rintro _ _ ⟨rfl, rfl⟩)
        go_round
        case rel => exact ⟨q + 1, by rw [eH.out], by go_num, by omega⟩
        case measure => simp [intOf]; omega
      | false =>
        have e := hoff.out hbit
        have eH : Hid (_ = _) := e
        rw [hbit] at hhas
        clear hbit e hon hoff h
        go_wp2_with (go_at_call 135; refine hhas.out.mono ?_; rintro _ _ ⟨rfl, rfl⟩)
        go_round
        case rel => exact ⟨q + 1, by rw [eH.out], by go_num, by omega⟩
        case measure => simp [intOf]; omega
    · have hqe : q = 61 := by omega
      subst hqe
      go_wp2
      go_ret
      exact ⟨rfl, rfl⟩

set_option maxHeartbeats 2000000 in
set_option maxRecDepth 100000 in
theorem still_any (m : MP) (g : Nat) (s free : B64) (w : World) (h : MIn w g m) :
    Calls Try.prog 94 #[.pointer (some ⟨g, 0, none⟩), .int .u64 (s.toNat : Int), .int .u64 (free.toNat : Int)] w fun e w' => e = .returned (.int .u64 ((stillP m s free).toNat : Int)) ∧ w' = w := by
  go_enter Try.func94, Try.ntmps94
  go_wp2_with fail
  go_loop [1, 7] (fun sv iv => ∃ q : Nat, sv = .int .u64 ((stillQ m free s q).toNat : Int) ∧ iv = .int .i64 (q : Int) ∧ q ≤ 60) (fun _ iv => (60 - intOf iv).toNat)
  case atStart => exact ⟨0, rfl, rfl, by omega⟩
  case round =>
    obtain ⟨q, rfl, rfl, hq⟩ := hrel
    by_cases hlt : (q : Int) < 60
    · have hf : Hid (Calls _ _ _ _ _) := follow_any m g (stillQ m free s q) w h
      have ha := and_u (followP m (stillQ m free s q)) free
      have hor := or_u (stillQ m free s q) (followP m (stillQ m free s q) &&& free)
      have e : Hid (stillQ m free s (q + 1) = stillQ m free s q ||| (followP m (stillQ m free s q) &&& free)) := rfl
      generalize followP m (stillQ m free s q) &&& free = Y at ha hor e
      generalize stillQ m free s q ||| Y = Z at hor e
      clear h
      go_wp2_with (go_at_call 95; refine hf.out.mono ?_; rintro _ _ ⟨rfl, rfl⟩)
      go_round
      case rel => exact ⟨q + 1, by rw [e.out], by go_num, by omega⟩
      case measure => simp [intOf]; omega
    · have hqe : q = 60 := by omega
      subst hqe
      go_wp2
      go_ret
      exact ⟨rfl, rfl⟩

def startB : B64 := 1152921504606846976#64
def foundB : B64 := 2305843009213693952#64
theorem startB_nat : ((startB.toNat : Nat) : Int) = 1152921504606846976 := rfl
theorem foundB_nat : ((foundB.toNat : Nat) : Int) = 2305843009213693952 := rfl

def beginP (m : MP) : B64 := stillP m startB m.begins
def afterP (m : MP) (s : B64) (c : Nat) : B64 := followP m s &&& m.takes c
def behindP (m : MP) (s : B64) (c : Nat) : B64 :=
  if m.whole = true then afterP m s c
  else ((if s &&& m.last = 0#64 then afterP m s c else afterP m s c ||| foundB) ||| (s &&& foundB)) ||| startB
def freeP (m : MP) (empty : Bool) : B64 := if empty = true then m.ends ||| m.begins else m.ends
def acceptsP (m : MP) (s : B64) (empty : Bool) : Bool := !decide (stillP m s (freeP m empty) &&& (m.last ||| foundB) = 0#64)

set_option maxHeartbeats 2000000 in
set_option maxRecDepth 100000 in
theorem begin_any (m : MP) (g : Nat) (w : World) (h : MIn w g m) :
    Calls Try.prog 66 #[.pointer (some ⟨g, 0, none⟩)] w fun e w' => e = .returned (.int .u64 ((beginP m).toNat : Int)) ∧ w' = w := by
  have hc := h.begins
  have hs : Hid (Calls _ _ _ _ _) := still_any m g startB m.begins w h
  rw [startB_nat] at hs
  clear h
  go_enter Try.func66, Try.ntmps66
  go_wp2_with (go_at_call 94; refine hs.out.mono ?_; rintro _ _ ⟨rfl, rfl⟩)
  go_ret
  exact ⟨rfl, rfl⟩

set_option maxHeartbeats 2000000 in
set_option maxRecDepth 100000 in
theorem behind_any (m : MP) (g : Nat) (s : B64) (c : Nat) (hc : c < 256) (w : World) (h : MIn w g m) :
    Calls Try.prog 67 #[.pointer (some ⟨g, 0, none⟩), .int .u64 (s.toNat : Int), .int .u8 (c : Int)] w fun e w' => e = .returned (.int .u64 ((behindP m s c).toNat : Int)) ∧ w' = w := by
  have hf : Hid (Calls _ _ _ _ _) := follow_any m g s w h
  have c0 := h.c0
  have c1 := h.takes hc
  have c2 := h.last
  have h1 := and_u (followP m s) (m.takes c)
  have h2 := and_u s m.last
  have h3 := and_u s foundB
  rw [foundB_nat] at h3
  clear h
  have e : Hid (behindP m s c = if m.whole = true then afterP m s c else ((if s &&& m.last = 0#64 then afterP m s c else afterP m s c ||| foundB) ||| (s &&& foundB)) ||| startB) := rfl
  unfold afterP at e
  generalize followP m s &&& m.takes c = A at *
  generalize s &&& m.last = L at *
  generalize s &&& foundB = F at *
  generalize behindP m s c = R at *
  cases hw : m.whole with
  | true =>
    rw [hw] at c0 e
    have eH : Hid (R = A) := by show R = A; have := e.out; simpa using this
    clear hw e
    go_enter Try.func67, Try.ntmps67
    go_wp2_with (go_at_call 95; refine hf.out.mono ?_; rintro _ _ ⟨rfl, rfl⟩)
    go_ret
    exact ⟨by rw [eH.out]; rfl, rfl⟩
  | false =>
    rw [hw] at c0 e
    have e2 : R = ((if L = 0#64 then A else A ||| foundB) ||| F) ||| startB := by have := e.out; simpa using this
    clear hw e
    have o1 := or_u A F
    have o2 := or_u (A ||| F) startB
    have o3 := or_u A foundB
    have o4 := or_u (A ||| foundB) F
    have o5 := or_u (A ||| foundB ||| F) startB
    rw [startB_nat] at o2 o5
    rw [foundB_nat] at o3
    by_cases hL : L = 0#64
    · rw [if_pos hL] at e2
      have eL : (L.toNat : Int) = 0 := (u_zero L).2 hL
      clear o3 o4 o5 hL
      generalize A ||| F = X at *
      generalize X ||| startB = Y at *
      have eH : Hid (R = Y) := e2
      clear e2
      go_enter Try.func67, Try.ntmps67
      go_wp2_with (go_at_call 95; refine hf.out.mono ?_; rintro _ _ ⟨rfl, rfl⟩)
      go_ret
      exact ⟨by rw [eH.out]; rfl, rfl⟩
    · rw [if_neg hL] at e2
      have eL : (L.toNat : Int) ≠ 0 := fun hc => hL ((u_zero L).1 hc)
      clear o1 o2 hL
      generalize A ||| foundB = X at *
      generalize X ||| F = Z at *
      generalize Z ||| startB = Y at *
      have eH : Hid (R = Y) := e2
      clear e2
      go_enter Try.func67, Try.ntmps67
      go_wp2_with (go_at_call 95; refine hf.out.mono ?_; rintro _ _ ⟨rfl, rfl⟩)
      go_ret
      exact ⟨by rw [eH.out]; rfl, rfl⟩

set_option maxHeartbeats 2000000 in
set_option maxRecDepth 100000 in
theorem accepts_any (m : MP) (g : Nat) (s : B64) (empty : Bool) (w : World) (h : MIn w g m) :
    Calls Try.prog 68 #[.pointer (some ⟨g, 0, none⟩), .int .u64 (s.toNat : Int), .bool empty] w fun e w' => e = .returned (.bool (acceptsP m s empty)) ∧ w' = w := by
  have hs : Hid (Calls _ _ _ _ _) := still_any m g s (freeP m empty) w h
  have c1 := h.begins
  have c2 := h.ends
  have c3 := h.last
  have o1 := or_u m.ends m.begins
  have o2 := or_u m.last foundB
  rw [foundB_nat] at o2
  have o3 := and_u (stillP m s (freeP m empty)) (m.last ||| foundB)
  have e : Hid (acceptsP m s empty = !decide (stillP m s (freeP m empty) &&& (m.last ||| foundB) = 0#64)) := rfl
  clear h
  generalize acceptsP m s empty = R at *
  cases empty with
  | true =>
    have ef : freeP m true = m.ends ||| m.begins := rfl
    rw [ef] at hs o3 e
    clear ef
    generalize m.ends ||| m.begins = X at *
    generalize stillP m s X = Y at *
    generalize m.last ||| foundB = L at *
    generalize Y &&& L = Z at *
    by_cases hz : Z = 0#64
    · have eZ : (Z.toNat : Int) = 0 := (u_zero Z).2 hz
      have eR : Hid (R = false) := by show R = false; have := e.out; simpa [hz] using this
      clear hz e
      go_enter Try.func68, Try.ntmps68
      go_wp2_with (go_at_call 94; refine hs.out.mono ?_; rintro _ _ ⟨rfl, rfl⟩)
      go_ret
      exact ⟨by rw [eR.out]; rfl, rfl⟩
    · have eZ : (Z.toNat : Int) ≠ 0 := fun hc => hz ((u_zero Z).1 hc)
      have eR : Hid (R = true) := by show R = true; have := e.out; simpa [hz] using this
      clear hz e
      go_enter Try.func68, Try.ntmps68
      go_wp2_with (go_at_call 94; refine hs.out.mono ?_; rintro _ _ ⟨rfl, rfl⟩)
      go_ret
      exact ⟨ret_bool (by rw [eR.out]; exact bne_iff_ne.2 eZ), rfl⟩
  | false =>
    have ef : freeP m false = m.ends := rfl
    rw [ef] at hs o3 e
    clear ef
    generalize stillP m s m.ends = Y at *
    generalize m.last ||| foundB = L at *
    generalize Y &&& L = Z at *
    by_cases hz : Z = 0#64
    · have eZ : (Z.toNat : Int) = 0 := (u_zero Z).2 hz
      have eR : Hid (R = false) := by show R = false; have := e.out; simpa [hz] using this
      clear hz e
      go_enter Try.func68, Try.ntmps68
      go_wp2_with (go_at_call 94; refine hs.out.mono ?_; rintro _ _ ⟨rfl, rfl⟩)
      go_ret
      exact ⟨by rw [eR.out]; rfl, rfl⟩
    · have eZ : (Z.toNat : Int) ≠ 0 := fun hc => hz ((u_zero Z).1 hc)
      have eR : Hid (R = true) := by show R = true; have := e.out; simpa [hz] using this
      clear hz e
      go_enter Try.func68, Try.ntmps68
      go_wp2_with (go_at_call 94; refine hs.out.mono ?_; rintro _ _ ⟨rfl, rfl⟩)
      go_ret
      exact ⟨ret_bool (by rw [eR.out]; exact bne_iff_ne.2 eZ), rfl⟩

/-- Behind so many bytes of a line. -/
def setQ (m : MP) (t : ByteArray) : Nat → B64
  | 0 => beginP m
  | q + 1 => behindP m (setQ m t q) (if h : q < t.size then t[q].toNat else 0)
def matchesP (m : MP) (t : ByteArray) : Bool := acceptsP m (setQ m t t.size) (t.size == 0)

set_option maxHeartbeats 2000000 in
set_option maxRecDepth 100000 in
theorem matches_any (m : MP) (g : Nat) (t : ByteArray) (ht : t.size ≤ 1000) (w : World) (h : MIn w g m) :
    Calls Try.prog 44 #[.pointer (some ⟨g, 0, none⟩), .string t] w fun e w' => e = .returned (.bool (matchesP m t)) ∧ w' = w := by
  have hb : Hid (Calls _ _ _ _ _) := begin_any m g w h
  have ha : Hid (∀ s e, Calls _ _ _ _ _) := fun s e => accepts_any m g s e w h
  have hs : Hid (∀ s c, c < 256 → Calls _ _ _ _ _) := fun s c hc => behind_any m g s c hc w h
  clear h
  go_enter Try.func44, Try.ntmps44
  go_wp2_with (go_at_call 66; refine hb.out.mono ?_; rintro _ _ ⟨rfl, rfl⟩)
  go_loop [5, 6] (fun sv iv => ∃ q : Nat, sv = .int .u64 ((setQ m t q).toNat : Int) ∧ iv = .int .i64 (q : Int) ∧ q ≤ t.size) (fun _ iv => ((t.size : Int) - intOf iv).toNat)
  case atStart => exact ⟨0, rfl, rfl, by omega⟩
  case round =>
    obtain ⟨q, rfl, rfl, hq⟩ := hrel
    clear hb
    by_cases hlt : (q : Int) < (t.size : Int)
    · have hqn : q < t.size := by omega
      have e : Hid (setQ m t (q + 1) = behindP m (setQ m t q) t[q].toNat) := by show setQ m t (q + 1) = _; rw [setQ, dif_pos hqn]
      have hs2 : Hid (Calls _ _ _ _ _) := hs.out (setQ m t q) t[q].toNat t[q].toNat_lt
      clear ha hs
      go_wp2_with (go_at_call 67; refine hs2.out.mono ?_; rintro _ _ ⟨rfl, rfl⟩)
      go_round
      case rel => exact ⟨q + 1, by rw [e.out], by go_num, by omega⟩
      case measure => simp [intOf]; omega
    · have hqe : q = t.size := by omega
      subst hqe
      have e : Hid (matchesP m t = acceptsP m (setQ m t t.size) (t.size == 0)) := rfl
      clear hs
      by_cases h0 : (t.size : Int) = 0
      · have ha2 := ha.out (setQ m t t.size) true
        have e2 : Hid (matchesP m t = acceptsP m (setQ m t t.size) true) := by rw [show true = (t.size == 0) from by rw [beq_iff_eq.2 (by omega)]]; exact e.out
        have ha3 : Hid (Calls _ _ _ _ _) := ha2
        clear ha ha2 e
        generalize setQ m t t.size = S at *
        go_wp2_with (go_at_call 68; refine ha3.out.mono ?_; rintro _ _ ⟨rfl, rfl⟩)
        go_ret
        exact ⟨by rw [e2.out]; rfl, rfl⟩
      · have ha2 := ha.out (setQ m t t.size) false
        have e2 : Hid (matchesP m t = acceptsP m (setQ m t t.size) false) := by rw [show false = (t.size == 0) from by rw [beq_eq_false_iff_ne.2 (by omega)]]; exact e.out
        have ha3 : Hid (Calls _ _ _ _ _) := ha2
        have hpos : (0 : Int) < (t.size : Int) := by omega
        have hbeq : ((t.size : Int) == 0) = false := beq_eq_false_iff_ne.2 h0
        clear ha ha2 e h0
        generalize setQ m t t.size = S at *
        go_wp2_with (go_at_call 68; with_reducible refine ha3.out.mono ?_; rintro _ _ ⟨rfl, rfl⟩)
        go_ret
        exact ⟨by rw [e2.out]; rfl, rfl⟩

end Go.Proofs.Ytpnjeefgpaiidaa

set_option linter.unusedVariables false
set_option linter.unusedSimpArgs false
namespace Go.Proofs.Ytpnjeefgpaiidaa
open Go.RowKit Go.IntWalk

def holdsP (its : List (Int × Int)) (c : Int) : Bool := its.any fun x => decide (x.1 ≤ c) && decide (c ≤ x.2)
def otherC (c : Nat) : Nat := if 65 ≤ c ∧ c ≤ 90 then c + 32 else if 97 ≤ c ∧ c ≤ 122 then c - 32 else c

theorem itemCells_get : ∀ (l : List (Int × Int)) (i : Nat) (x : Int × Int), l[i]? = some x → (itemCells l)[i * 2]? = some (.int .i64 x.1) ∧ (itemCells l)[i * 2 + 1]? = some (.int .i64 x.2)
  | [], i, x, h => by simp at h
  | y :: l, 0, x, h => by simp at h; subst h; exact ⟨rfl, rfl⟩
  | y :: l, i + 1, x, h => by
    simp at h
    have := itemCells_get l i x h
    have e : (i + 1) * 2 = i * 2 + 1 + 1 := by omega
    rw [e]
    exact this

theorem ItemsOk.keep {w w' : World} {B : Nat} {x : IV} {its : List (Int × Int)} {S : List Nat} (h : ItemsOk w B x its) (k : Kept S w w') (hs : ∀ g, g ∈ S → (ivV x).ownBlock ≠ some g) : ItemsOk w' B x its := by
  refine ⟨h.1, ?_⟩
  rcases h.2 with h1 | ⟨g, cap, cur, h1, h2, h3, h4⟩
  · exact Or.inl h1
  · have hlt : g < w.heap.size := (Array.getElem?_eq_some_iff.1 h3).1
    refine Or.inr ⟨g, cap, cur, h1, h2, (k.block g hlt (fun hc => ?_)).trans h3, h4⟩
    have := hs g hc
    rw [h1] at this
    exact this rfl
theorem ItemsOk.same {w w' : World} {B : Nat} {x : IV} {its : List (Int × Int)} (h : ItemsOk w B x its) (k : w'.heap = w.heap) : ItemsOk w' B x its := by
  refine ⟨h.1, ?_⟩
  rcases h.2 with h1 | ⟨g, cap, cur, h1, h2, h3, h4⟩
  · exact Or.inl h1
  · exact Or.inr ⟨g, cap, cur, h1, h2, by rw [k]; exact h3, h4⟩

set_option maxHeartbeats 2000000 in
set_option maxRecDepth 100000 in
theorem holds_any (its : List (Int × Int)) (B : Nat) (x : IV) (c : Int) (w : World) (h : ItemsOk w B x its) (hl : its.length ≤ 1000) (hc0 : 0 ≤ c) (hc : c ≤ 255) :
    Calls Try.prog 133 #[.slice x.1 x.2.1 x.2.2, .int .i64 c] w fun e w' => e = .returned (.bool (holdsP its c)) ∧ w' = w := by
  obtain ⟨a, cap, hx⟩ : ∃ a cap, ivV x = .slice a its.length cap := by
    rcases h.2 with ⟨h1, h2⟩ | ⟨g, cap, _, h1, _⟩
    · exact ⟨none, 0, by rw [h1, h2]⟩
    · exact ⟨_, cap, h1⟩
  have hx' : Value.slice x.1 x.2.1 x.2.2 = .slice a its.length cap := hx
  rw [hx']
  clear hx'
  go_enter Try.func133, Try.ntmps133
  go_wp2_with fail
  go_loop [5] (fun iv => ∃ q : Nat, iv = .int .i64 (q : Int) ∧ q ≤ its.length ∧ holdsP (its.take q) c = false) (fun iv => ((its.length : Int) - intOf iv).toNat)
  case atStart => exact ⟨0, rfl, by omega, rfl⟩
  case round =>
    obtain ⟨q, rfl, hq, hno⟩ := hrel
    by_cases hlt : (q : Int) < (its.length : Int)
    · have hqn : q < its.length := by omega
      obtain ⟨y, hy⟩ : ∃ y, its[q]? = some y := ⟨_, List.getElem?_eq_getElem hqn⟩
      obtain ⟨g, cap', hv⟩ := own_form h (by omega)
      rw [hx] at hv
      simp only [Value.slice.injEq] at hv
      obtain ⟨rfl, _, rfl⟩ := hv
      obtain ⟨g1, g2⟩ := itemCells_get its q y hy
      have hown : w.ownsRow B 205 2 (.slice (some ⟨g, 0, none⟩) its.length cap) its.length (itemCells its) := by have := h; unfold ItemsOk at this; rwa [hx] at this
      have c1 := hown.cells (g := g) rfl _ _ g1
      have c2 := hown.cells (g := g) rfl _ _ g2
      rw [show (⟨g, 0, none⟩ : Addr).add (q * 2) = ⟨g, q * 2, none⟩ by simp [Addr.add]; omega] at c1
      rw [show (⟨g, 0, none⟩ : Addr).add (q * 2 + 1) = ⟨g, q * 2 + 1, none⟩ by simp [Addr.add]] at c2
      have hsnoc : its.take (q + 1) = its.take q ++ [y] := by rw [List.take_add_one, hy]; rfl
      have hnext : Hid (¬ (y.1 ≤ c ∧ c ≤ y.2) → holdsP (its.take (q + 1)) c = false) := fun hn => by
        unfold holdsP at *
        rw [hsnoc, List.any_append, hno]
        simpa using fun h1 => by have := fun h2 => hn ⟨h1, h2⟩; omega
      have hyes : Hid (y.1 ≤ c → c ≤ y.2 → holdsP its c = true) := fun h1 h2 => by
        unfold holdsP
        exact List.any_eq_true.2 ⟨y, List.mem_of_getElem? hy, by simp [h1, h2]⟩
      clear hx hown g1 g2 hno hsnoc hy h
      generalize hlo : y.1 = lo at *
      generalize hhi : y.2 = hi at *
      clear hlo hhi
      by_cases h1 : lo ≤ c
      · by_cases h2 : c ≤ hi
        · have hyH : Hid (holdsP its c = true) := hyes.out h1 h2
          clear hyes hnext
          go_wp2
          go_ret
          exact ⟨by rw [hyH.out]; rfl, rfl⟩
        · have hnH : Hid _ := hnext.out (fun hc => h2 hc.2)
          clear hyes hnext
          have h2 : hi < c := by omega
          go_wp2
          refine ⟨⟨q + 1, by go_num, by omega, hnH.out⟩, ?_⟩
          simp only [intOf]; omega
      · have hnH : Hid _ := hnext.out (fun hc => h1 hc.1)
        clear hyes hnext
        have h1 : c < lo := by omega
        go_wp2
        refine ⟨⟨q + 1, by go_num, by omega, hnH.out⟩, ?_⟩
        simp only [intOf]; omega
    · have hqe : q = its.length := by omega
      subst hqe
      rw [List.take_length] at hno
      have hnH : Hid (_ = _) := hno
      clear hno hx h
      go_wp2
      go_ret
      exact ⟨by rw [hnH.out]; rfl, rfl⟩

set_option maxHeartbeats 1000000 in
theorem otherCase_any (c : Nat) (hc : c < 256) (w : World) :
    Calls Try.prog 134 #[.int .i64 (c : Int)] w fun e w' => e = .returned (.int .i64 (otherC c : Int)) ∧ w' = w := by
  by_cases h1 : 65 ≤ c ∧ c ≤ 90
  · obtain ⟨a1, a2⟩ := h1
    have e : Hid (((otherC c : Nat) : Int) = (c : Int) - 65 + 97) := by show ((otherC c : Nat) : Int) = _; unfold otherC; rw [if_pos ⟨a1, a2⟩]; omega
    go_enter Try.func134, Try.ntmps134
    go_wp2
    go_ret
    exact ⟨ret_int (by have := e.out; omega), rfl⟩
  · by_cases h2 : 97 ≤ c ∧ c ≤ 122
    · obtain ⟨a1, a2⟩ := h2
      clear h1
      have e : Hid (((otherC c : Nat) : Int) = (c : Int) - 97 + 65) := by show ((otherC c : Nat) : Int) = _; unfold otherC; rw [if_neg (by omega), if_pos ⟨a1, a2⟩]; omega
      go_enter Try.func134, Try.ntmps134
      go_wp2
      go_ret
      exact ⟨ret_int (by have := e.out; omega), rfl⟩
    · have e : Hid (otherC c = c) := by show otherC c = c; unfold otherC; rw [if_neg h1, if_neg h2]
      have cs : c < 65 ∨ (90 < c ∧ c < 97) ∨ 122 < c := by omega
      clear h1 h2
      rcases cs with h1 | ⟨h1, h2⟩ | h1 <;>
      · go_enter Try.func134, Try.ntmps134
        go_wp2
        go_ret
        exact ⟨ret_int (by rw [e.out]), rfl⟩

end Go.Proofs.Ytpnjeefgpaiidaa

set_option linter.unusedVariables false
set_option linter.unusedSimpArgs false
namespace Go.Proofs.Ytpnjeefgpaiidaa
open Go.RowKit Go.IntWalk

theorem m_set_takes (m m' : MP) (i : Nat) (s : B64) (hi : i < 256) (h0 : m'.whole = m.whole) (h1 : m'.next = m.next) (h2 : ∀ j, j < 256 → m'.takes j = if j = i then s else m.takes j) (h3 : m'.begins = m.begins) (h4 : m'.ends = m.ends) (h5 : m'.last = m.last) :
    (mCells m).setIfInBounds (62 + i) (UV s) = mCells m' := by
  refine cellsF_set _ _ _ _ fun j hj => ?_
  unfold mCell
  rw [h0, h1, h3, h4, h5]
  by_cases h : j = 62 + i
  · subst h
    rw [if_neg (by omega), if_neg (by omega), if_pos (by omega), if_pos rfl, h2 _ (by omega), if_pos (by omega)]
  · rw [if_neg h]
    repeat' split
    all_goals first | rfl | (rw [h2 _ (by omega), if_neg (by omega)])
theorem m_set_next (m m' : MP) (i : Nat) (s : B64) (hi : i < 61) (h0 : m'.whole = m.whole) (h1 : m'.takes = m.takes) (h2 : ∀ j, j < 61 → m'.next j = if j = i then s else m.next j) (h3 : m'.begins = m.begins) (h4 : m'.ends = m.ends) (h5 : m'.last = m.last) :
    (mCells m).setIfInBounds (1 + i) (UV s) = mCells m' := by
  refine cellsF_set _ _ _ _ fun j hj => ?_
  unfold mCell
  rw [h0, h1, h3, h4, h5]
  by_cases h : j = 1 + i
  · subst h
    rw [if_neg (by omega), if_pos (by omega), if_pos rfl, h2 _ (by omega), if_pos (by omega)]
  · rw [if_neg h]
    repeat' split
    all_goals first | rfl | (rw [h2 _ (by omega), if_neg (by omega)])
theorem m_set_begins (m : MP) (s : B64) : (mCells m).setIfInBounds 318 (UV s) = mCells { m with begins := s } := cellsF_set _ _ _ _ fun j hj => by
  by_cases h : j = 318
  · subst h; rfl
  · unfold mCell; simp only [if_neg h]
theorem m_set_ends (m : MP) (s : B64) : (mCells m).setIfInBounds 319 (UV s) = mCells { m with ends := s } := cellsF_set _ _ _ _ fun j hj => by
  by_cases h : j = 319
  · subst h; rfl
  · unfold mCell; simp only [if_neg h]
theorem m_set_last (m : MP) (s : B64) : (mCells m).setIfInBounds 320 (UV s) = mCells { m with last := s } := cellsF_set _ _ _ _ fun j hj => by
  by_cases h : j = 320
  · subst h; rfl
  · unfold mCell; repeat' split
    all_goals first | rfl | omega

def takesP (n : AN) (fold : Bool) (c : Nat) : Bool := (holdsP n.its (c : Int) || (fold && holdsP n.its (otherC c : Int))) != n.neg
def learnQ (m : MP) (step : B64) (n : AN) (fold : Bool) (q : Nat) : MP := { m with takes := fun c => if c < q ∧ takesP n fold c = true then m.takes c ||| step else m.takes c }
def learnP (m : MP) (step : B64) (n : AN) (fold : Bool) : MP :=
  if n.kind = 2 then { m with begins := m.begins ||| step } else if n.kind = 3 then { m with ends := m.ends ||| step } else if n.kind = 1 then learnQ m step n fold 256 else m

theorem learnQ_off {m : MP} {step : B64} {n : AN} {fold : Bool} {q : Nat} (h : takesP n fold q = false) : learnQ m step n fold (q + 1) = learnQ m step n fold q := by
  unfold learnQ
  congr 1
  funext c
  by_cases hc : c = q
  · subst hc; rw [if_neg (by simp [h]), if_neg (by simp [h])]
  · by_cases h1 : c < q ∧ takesP n fold c = true
    · rw [if_pos ⟨by omega, h1.2⟩, if_pos h1]
    · rw [if_neg (fun hc => h1 ⟨by omega, hc.2⟩), if_neg h1]
theorem learnQ_on {m : MP} {step : B64} {n : AN} {fold : Bool} {q : Nat} (hq : q < 256) (h : takesP n fold q = true) : (mCells (learnQ m step n fold q)).setIfInBounds (62 + q) (UV (m.takes q ||| step)) = mCells (learnQ m step n fold (q + 1)) := by
  refine m_set_takes _ _ q _ hq rfl rfl (fun j _ => ?_) rfl rfl rfl
  simp only [learnQ]
  by_cases hs : j = q
  · subst hs; rw [if_pos ⟨by omega, h⟩, if_pos rfl]
  · rw [if_neg hs]
    by_cases h1 : j < q ∧ takesP n fold j = true
    · rw [if_pos ⟨by omega, h1.2⟩, if_pos h1]
    · rw [if_neg (fun hc => h1 ⟨by omega, hc.2⟩), if_neg h1]

theorem MIn.frozen {w : World} {g : Nat} {m : MP} (h : MIn w g m) (j : Nat) : w.frozen? ⟨g, j, none⟩ = false := Blk.frozen h j
theorem MIn.drewN {w : World} {g : Nat} {m : MP} (h : MIn w g m) (n : Nat) : MIn (w.drewN n) g m := h

/-- What one round of learnBytes leaves. -/
structure LbIn (w0 w : World) (g : Nat) (m : MP) (n : AN) (x : IV) : Prop where
  mi : MIn w g m
  nb : Blk w w0.heap.size #[.int .i64 n.kind, .slice x.1 x.2.1 x.2.2, .bool n.neg, .int .i64 n.left, .int .i64 n.right, .int .i64 n.least, .int .i64 n.most, .int .i64 n.size] 115
  k : Kept [g] w0 w
theorem LbIn.drewN {w0 w : World} {g : Nat} {m : MP} {n : AN} {x : IV} (h : LbIn w0 w g m n x) (q : Nat) : LbIn w0 (w.drewN q) g m n x := ⟨h.mi, h.nb, h.k.drewN q⟩
theorem LbIn.drew {w0 w : World} {g : Nat} {m : MP} {n : AN} {x : IV} (h : LbIn w0 w g m n x) : LbIn w0 w.drew g m n x := ⟨h.mi, h.nb, h.k.drew⟩
theorem LbIn.set {w0 w : World} {g : Nat} {m m' : MP} {n : AN} {x : IV} (h : LbIn w0 w g m n x) (hg : g < w0.heap.size) (i : Nat) (u : Value) (he : (mCells m).setIfInBounds i u = mCells m') : LbIn w0 (w.setCell ⟨g, i, none⟩ u) g m' n x := by
  refine ⟨?_, h.nb.other _ _ (by omega), h.k.setCell (Or.inl (by simp)) _⟩
  have := Blk.set h.mi i u
  rw [he] at this
  exact this

set_option maxHeartbeats 4000000 in
set_option maxRecDepth 100000 in
theorem learnBytes_any (m : MP) (g : Nat) (step : B64) (n : AN) (x : IV) (fold : Bool) (B : Nat) (w : World) (h : MIn w g m) (hx : ItemsOk w B x n.its) (hl : n.its.length ≤ 1000) (hne : (ivV x).ownBlock ≠ some g) :
    Calls Try.prog 93 #[.pointer (some ⟨g, 0, none⟩), .int .u64 (step.toNat : Int), .agg #[.int .i64 n.kind, .slice x.1 x.2.1 x.2.2, .bool n.neg, .int .i64 n.left, .int .i64 n.right, .int .i64 n.least, .int .i64 n.most, .int .i64 n.size], .bool fold] w
      fun e w' => e = .returned (.tuple #[]) ∧ MIn w' g (learnQ m step n fold 256) ∧ Kept [g] w w' := by
  have hg : g < w.heap.size := Blk.lt h
  have hst : LbIn w (w.alloc (.cells #[.int .i64 n.kind, .slice x.1 x.2.1 x.2.2, .bool n.neg, .int .i64 n.left, .int .i64 n.right, .int .i64 n.least, .int .i64 n.most, .int .i64 n.size] 115)) g (learnQ m step n fold 0) n x := by
    refine ⟨?_, Blk.new _ _ _, (Kept.refl _ _).alloc _⟩
    have e : learnQ m step n fold 0 = m := by unfold learnQ; congr 1
    rw [e]
    exact Blk.alloc h _
  have hstH : Hid (LbIn _ _ _ _ _ _) := hst
  clear hst
  go_enter Try.func93, Try.ntmps93
  go_wp2_with fail
  go_loopw [8] (fun iv wr => ∃ q : Nat, iv = .int .i64 (q : Int) ∧ q ≤ 256 ∧ LbIn w wr g (learnQ m step n fold q) n x) (fun iv _ => (256 - intOf iv).toNat)
  case atStart => exact ⟨0, rfl, by omega, hstH.out⟩
  case round =>
    obtain ⟨q, rfl, hq, hI⟩ := hrel
    clear hstH
    by_cases hlt : (q : Int) < 256
    · have hqn : q < 256 := by omega
      have hoc : otherC q ≤ 255 := by unfold otherC; repeat' split
                                      all_goals omega
      have hx1 : ItemsOk wr B x n.its := hx.keep hI.k (by simpa using hne)
      have hh1 : Hid (∀ w', w'.heap = wr.heap → Calls _ _ _ w' _) := fun w' e => holds_any n.its B x (q : Int) w' (hx1.same e) hl (by omega) (by omega)
      have hh2 : Hid (∀ w', w'.heap = wr.heap → Calls _ _ _ w' _) := fun w' e => holds_any n.its B x (otherC q : Int) w' (hx1.same e) hl (by omega) (by omega)
      have ho : Hid (∀ w', Calls _ _ _ w' _) := fun w' => otherCase_any q hqn w'
      have c1 : wr.cell? ⟨w.heap.size, 1, none⟩ = some (.slice x.1 x.2.1 x.2.2) := by rw [hI.nb.cell]; rfl
      have c2 : wr.cell? ⟨w.heap.size, 2, none⟩ = some (.bool n.neg) := by rw [hI.nb.cell]; rfl
      have c3 := hI.mi.takes hqn
      have c4 := hI.mi.frozen (62 + q)
      have et : (learnQ m step n fold q).takes q = m.takes q := by simp [learnQ]
      rw [et] at c3
      have hor := or_u (m.takes q) step
      have hon : Hid (takesP n fold q = true → LbIn w (wr.drew.setCell ⟨g, 62 + q, none⟩ (UV (m.takes q ||| step))) g (learnQ m step n fold (q + 1)) n x ∧ ∀ k, LbIn w ((wr.drewN k).drew.setCell ⟨g, 62 + q, none⟩ (UV (m.takes q ||| step))) g (learnQ m step n fold (q + 1)) n x) := fun hb =>
        ⟨hI.drew.set hg _ _ (learnQ_on hqn hb), fun k => (hI.drewN k).drew.set hg _ _ (learnQ_on hqn hb)⟩
      have hoff : Hid (takesP n fold q = false → LbIn w wr g (learnQ m step n fold (q + 1)) n x ∧ ∀ k, LbIn w (wr.drewN k) g (learnQ m step n fold (q + 1)) n x) := fun hb => by
        rw [learnQ_off hb]; exact ⟨hI, fun k => hI.drewN k⟩
      have etk : takesP n fold q = ((holdsP n.its (q : Int) || (fold && holdsP n.its (otherC q : Int))) != n.neg) := rfl
      clear et hI hx1 hx h hlt
      have hlt : (q : Int) < 256 := by omega
      generalize m.takes q ||| step = Z at *
      generalize takesP n fold q = TT at *
      generalize holdsP n.its (q : Int) = b1 at *
      generalize holdsP n.its (otherC q : Int) = b2 at *
      generalize hneg : n.neg = ng at *
      clear hneg
      cases b1 <;> cases ng <;> cases fold <;> cases b2 <;> simp only [Bool.or_true, Bool.or_false, Bool.true_or, Bool.false_or, Bool.true_and, Bool.false_and, Bool.and_true, Bool.and_false, bne_self_eq_false, Bool.true_bne, Bool.false_bne, Bool.bne_true, Bool.bne_false, Bool.not_true, Bool.not_false] at etk <;> subst etk
      · have H : Hid (_ ∧ _) := hoff.out rfl
        clear hon hoff
        go_wp2_with (go_at_call 133; refine (hh1.out _ rfl).mono ?_; rintro _ _ ⟨rfl, rfl⟩)
        refine ⟨⟨q + 1, by go_num, by omega, H.out.1⟩, ?_⟩
        simp only [intOf]; omega
      · have H : Hid (_ ∧ _) := hoff.out rfl
        clear hon hoff
        go_wp2_with (go_at_call 133; refine (hh1.out _ rfl).mono ?_; rintro _ _ ⟨rfl, rfl⟩)
        refine ⟨⟨q + 1, by go_num, by omega, H.out.1⟩, ?_⟩
        simp only [intOf]; omega
      · have H : Hid (_ ∧ _) := hoff.out rfl
        clear hon hoff
        go_wp2_with (go_at_call 133; refine (hh1.out _ rfl).mono ?_; rintro _ _ ⟨rfl, rfl⟩)
        go_quiet (first | (go_at_call 134; exact Calls.quiet_of_same (ho.out _)) | (go_at_call 133; exact Calls.quiet_of_same (hh2.out _ rfl)))
        go_wp2
        refine ⟨⟨q + 1, by go_num, by omega, H.out.2 _⟩, ?_⟩
        simp only [intOf]; omega
      · have H : Hid (_ ∧ _) := hon.out rfl
        clear hon hoff
        go_wp2_with (go_at_call 133; refine (hh1.out _ rfl).mono ?_; rintro _ _ ⟨rfl, rfl⟩)
        go_quiet (first | (go_at_call 134; exact Calls.quiet_of_same (ho.out _)) | (go_at_call 133; exact Calls.quiet_of_same (hh2.out _ rfl)))
        go_wp2
        go_region
        go_wp2
        refine ⟨⟨q + 1, by go_num, by omega, H.out.2 _⟩, ?_⟩
        simp only [intOf]; omega
      · have H : Hid (_ ∧ _) := hon.out rfl
        clear hon hoff
        go_wp2_with (go_at_call 133; refine (hh1.out _ rfl).mono ?_; rintro _ _ ⟨rfl, rfl⟩)
        go_region
        go_wp2
        refine ⟨⟨q + 1, by go_num, by omega, H.out.1⟩, ?_⟩
        simp only [intOf]; omega
      · have H : Hid (_ ∧ _) := hon.out rfl
        clear hon hoff
        go_wp2_with (go_at_call 133; refine (hh1.out _ rfl).mono ?_; rintro _ _ ⟨rfl, rfl⟩)
        go_region
        go_wp2
        refine ⟨⟨q + 1, by go_num, by omega, H.out.1⟩, ?_⟩
        simp only [intOf]; omega
      · have H : Hid (_ ∧ _) := hon.out rfl
        clear hon hoff
        go_wp2_with (go_at_call 133; refine (hh1.out _ rfl).mono ?_; rintro _ _ ⟨rfl, rfl⟩)
        go_quiet (first | (go_at_call 134; exact Calls.quiet_of_same (ho.out _)) | (go_at_call 133; exact Calls.quiet_of_same (hh2.out _ rfl)))
        go_wp2
        go_region
        go_wp2
        refine ⟨⟨q + 1, by go_num, by omega, H.out.2 _⟩, ?_⟩
        simp only [intOf]; omega
      · have H : Hid (_ ∧ _) := hoff.out rfl
        clear hon hoff
        go_wp2_with (go_at_call 133; refine (hh1.out _ rfl).mono ?_; rintro _ _ ⟨rfl, rfl⟩)
        go_quiet (first | (go_at_call 134; exact Calls.quiet_of_same (ho.out _)) | (go_at_call 133; exact Calls.quiet_of_same (hh2.out _ rfl)))
        go_wp2
        refine ⟨⟨q + 1, by go_num, by omega, H.out.2 _⟩, ?_⟩
        simp only [intOf]; omega
      · have H : Hid (_ ∧ _) := hon.out rfl
        clear hon hoff
        go_wp2_with (go_at_call 133; refine (hh1.out _ rfl).mono ?_; rintro _ _ ⟨rfl, rfl⟩)
        go_region
        go_wp2
        refine ⟨⟨q + 1, by go_num, by omega, H.out.1⟩, ?_⟩
        simp only [intOf]; omega
      · have H : Hid (_ ∧ _) := hon.out rfl
        clear hon hoff
        go_wp2_with (go_at_call 133; refine (hh1.out _ rfl).mono ?_; rintro _ _ ⟨rfl, rfl⟩)
        go_region
        go_wp2
        refine ⟨⟨q + 1, by go_num, by omega, H.out.1⟩, ?_⟩
        simp only [intOf]; omega
      · have H : Hid (_ ∧ _) := hon.out rfl
        clear hon hoff
        go_wp2_with (go_at_call 133; refine (hh1.out _ rfl).mono ?_; rintro _ _ ⟨rfl, rfl⟩)
        go_region
        go_wp2
        refine ⟨⟨q + 1, by go_num, by omega, H.out.1⟩, ?_⟩
        simp only [intOf]; omega
      · have H : Hid (_ ∧ _) := hon.out rfl
        clear hon hoff
        go_wp2_with (go_at_call 133; refine (hh1.out _ rfl).mono ?_; rintro _ _ ⟨rfl, rfl⟩)
        go_region
        go_wp2
        refine ⟨⟨q + 1, by go_num, by omega, H.out.1⟩, ?_⟩
        simp only [intOf]; omega
      · have H : Hid (_ ∧ _) := hoff.out rfl
        clear hon hoff
        go_wp2_with (go_at_call 133; refine (hh1.out _ rfl).mono ?_; rintro _ _ ⟨rfl, rfl⟩)
        refine ⟨⟨q + 1, by go_num, by omega, H.out.1⟩, ?_⟩
        simp only [intOf]; omega
      · have H : Hid (_ ∧ _) := hoff.out rfl
        clear hon hoff
        go_wp2_with (go_at_call 133; refine (hh1.out _ rfl).mono ?_; rintro _ _ ⟨rfl, rfl⟩)
        refine ⟨⟨q + 1, by go_num, by omega, H.out.1⟩, ?_⟩
        simp only [intOf]; omega
      · have H : Hid (_ ∧ _) := hoff.out rfl
        clear hon hoff
        go_wp2_with (go_at_call 133; refine (hh1.out _ rfl).mono ?_; rintro _ _ ⟨rfl, rfl⟩)
        refine ⟨⟨q + 1, by go_num, by omega, H.out.1⟩, ?_⟩
        simp only [intOf]; omega
      · have H : Hid (_ ∧ _) := hoff.out rfl
        clear hon hoff
        go_wp2_with (go_at_call 133; refine (hh1.out _ rfl).mono ?_; rintro _ _ ⟨rfl, rfl⟩)
        refine ⟨⟨q + 1, by go_num, by omega, H.out.1⟩, ?_⟩
        simp only [intOf]; omega
    · have hqe : q = 256 := by omega
      subst hqe
      have h1 := hI.mi
      have h2 := hI.k
      clear hI h hx
      go_wp2
      go_end0
      exact ⟨rfl, h1, h2⟩

end Go.Proofs.Ytpnjeefgpaiidaa

set_option linter.unusedVariables false
set_option linter.unusedSimpArgs false
namespace Go.Proofs.Ytpnjeefgpaiidaa
open Go.RowKit Go.IntWalk

set_option maxHeartbeats 2000000 in
set_option maxRecDepth 100000 in
theorem learn_any (m : MP) (g : Nat) (step : B64) (n : AN) (x : IV) (fold : Bool) (B : Nat) (w : World) (h : MIn w g m) (hx : ItemsOk w B x n.its) (hl : n.its.length ≤ 1000) (hne : (ivV x).ownBlock ≠ some g) :
    Calls Try.prog 65 #[.pointer (some ⟨g, 0, none⟩), .int .u64 (step.toNat : Int), .agg #[.int .i64 n.kind, .slice x.1 x.2.1 x.2.2, .bool n.neg, .int .i64 n.left, .int .i64 n.right, .int .i64 n.least, .int .i64 n.most, .int .i64 n.size], .bool fold] w
      fun e w' => e = .returned (.tuple #[]) ∧ MIn w' g (learnP m step n fold) ∧ Kept [g] w w' := by
  have hg : g < w.heap.size := Blk.lt h
  have hA : MIn (w.alloc (.cells #[.int .i64 n.kind, .slice x.1 x.2.1 x.2.2, .bool n.neg, .int .i64 n.left, .int .i64 n.right, .int .i64 n.least, .int .i64 n.most, .int .i64 n.size] 115)) g m := Blk.alloc h _
  have k0 : Kept [g] w (w.alloc (.cells #[.int .i64 n.kind, .slice x.1 x.2.1 x.2.2, .bool n.neg, .int .i64 n.left, .int .i64 n.right, .int .i64 n.least, .int .i64 n.most, .int .i64 n.size] 115)) := (Kept.refl _ _).alloc _
  by_cases e2 : n.kind = 2
  · have hP : Hid (learnP m step n fold = { m with begins := m.begins ||| step }) := by show learnP m step n fold = _; unfold learnP; rw [if_pos e2]
    have hor := or_u m.begins step
    have c1 := h.begins
    have f1 := h.frozen 318
    have hI := (Blk.set h 318 (UV (m.begins ||| step)))
    rw [m_set_begins] at hI
    have hIH : Hid (Blk _ _ _ _) := hI.alloc (.cells #[.int .i64 n.kind, .slice x.1 x.2.1 x.2.2, .bool n.neg, .int .i64 n.left, .int .i64 n.right, .int .i64 n.least, .int .i64 n.most, .int .i64 n.size] 115)
    have hKH : Hid (Kept _ _ _) := ((Kept.refl [g] w).setCell (p := ⟨g, 318, none⟩) (Or.inl (by simp)) (UV (m.begins ||| step))).alloc (.cells #[.int .i64 n.kind, .slice x.1 x.2.1 x.2.2, .bool n.neg, .int .i64 n.left, .int .i64 n.right, .int .i64 n.least, .int .i64 n.most, .int .i64 n.size] 115)
    have b2 : (n.kind == 2) = true := by rw [e2]; rfl
    clear hI hA h hx k0 e2
    generalize m.begins ||| step = Z at *
    go_enter Try.func65, Try.ntmps65
    go_wp2
    go_end0
    exact ⟨rfl, by rw [hP.out]; exact hIH.out, hKH.out⟩
  by_cases e3 : n.kind = 3
  · have hP : Hid (learnP m step n fold = { m with ends := m.ends ||| step }) := by show learnP m step n fold = _; unfold learnP; rw [if_neg e2, if_pos e3]
    have hor := or_u m.ends step
    have c1 := h.ends
    have f1 := h.frozen 319
    have hI := (Blk.set h 319 (UV (m.ends ||| step)))
    rw [m_set_ends] at hI
    have hIH : Hid (Blk _ _ _ _) := hI.alloc (.cells #[.int .i64 n.kind, .slice x.1 x.2.1 x.2.2, .bool n.neg, .int .i64 n.left, .int .i64 n.right, .int .i64 n.least, .int .i64 n.most, .int .i64 n.size] 115)
    have hKH : Hid (Kept _ _ _) := ((Kept.refl [g] w).setCell (p := ⟨g, 319, none⟩) (Or.inl (by simp)) (UV (m.ends ||| step))).alloc (.cells #[.int .i64 n.kind, .slice x.1 x.2.1 x.2.2, .bool n.neg, .int .i64 n.left, .int .i64 n.right, .int .i64 n.least, .int .i64 n.most, .int .i64 n.size] 115)
    have b2 : (n.kind == 2) = false := by rw [e3]; rfl
    have b3 : (n.kind == 3) = true := by rw [e3]; rfl
    clear hI hA h hx k0 e2 e3
    generalize m.ends ||| step = Z at *
    go_enter Try.func65, Try.ntmps65
    go_wp2
    go_end0
    exact ⟨rfl, by rw [hP.out]; exact hIH.out, hKH.out⟩
  by_cases e1 : n.kind = 1
  · have hP : Hid (learnP m step n fold = learnQ m step n fold 256) := by show learnP m step n fold = _; unfold learnP; rw [if_neg e2, if_neg e3, if_pos e1]
    have hc : Hid (Calls _ _ _ _ _) := learnBytes_any m g step n x fold B _ hA (hx.keep k0 (by simpa using hne)) hl hne
    have hrg : World.rangeAt (w.alloc (.cells #[.int .i64 n.kind, .slice x.1 x.2.1 x.2.2, .bool n.neg, .int .i64 n.left, .int .i64 n.right, .int .i64 n.least, .int .i64 n.most, .int .i64 n.size] 115)) w.heap.size 0 (n.cells x) := fun j v hv => by
      rw [Nat.zero_add, (Blk.new w _ _).cell, ← hv]
      show (n.cells x).toArray[j]? = _
      simp
    have hkH : Hid (Kept _ _ _) := k0
    have hK : Hid (n.kind = 1) := e1
    have ek : (w.alloc (.cells #[.int .i64 n.kind, .slice x.1 x.2.1 x.2.2, .bool n.neg, .int .i64 n.left, .int .i64 n.right, .int .i64 n.least, .int .i64 n.most, .int .i64 n.size] 115)).cell? ⟨w.heap.size, 0, none⟩ = some (.int .i64 1) := by
      rw [(Blk.new w _ _).cell, ← e1]; rfl
    have hk1 : ∀ kd, kd = n.kind → n.kind = 1 := fun _ _ => e1
    clear hA h hx k0 e2 e3 e1 ek hk1
    go_enter Try.func65, Try.ntmps65
    have e1 := hK.out
    have e1' : (n.kind == 2) = false := by rw [e1]; rfl
    have e1'' : (n.kind == 3) = false := by rw [e1]; rfl
    have e1''' : (n.kind == 1) = true := by rw [e1]; rfl
    clear e1
    go_wp2_with (first
      | (with_reducible refine wpList_load_node ?_ (.tmp 6) ?_ w.heap.size 0 ?_ n x ?_ ?_
         · rfl
         · rfl
         · rfl
         · exact hrg)
      | (go_at_call 93
         refine hc.out.mono ?_
         rintro e w5 ⟨rfl, h5, k5⟩))
    go_end0
    exact ⟨rfl, by rw [hP.out]; exact h5, hkH.out.trans k5⟩
  · have hP : Hid (learnP m step n fold = m) := by show learnP m step n fold = _; unfold learnP; rw [if_neg e2, if_neg e3, if_neg e1]
    have hIH : Hid (MIn _ _ _) := hA
    have hkH : Hid (Kept _ _ _) := k0
    clear hA h hx k0
    go_enter Try.func65, Try.ntmps65
    go_wp2
    go_end0
    exact ⟨rfl, by rw [hP.out]; exact hIH.out, hkH.out⟩

end Go.Proofs.Ytpnjeefgpaiidaa
