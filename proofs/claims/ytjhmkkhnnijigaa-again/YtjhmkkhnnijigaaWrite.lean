/- The machine: write: the parts of all nodes, one behind the other. -/
import Derived.Test.YtjhmkkhnnijigaaWriteL
set_option linter.unusedVariables false
set_option linter.unusedSimpArgs false
namespace Go.Proofs.Ytjhmkkhnnijigaa
open Go.RowKit Go.IntWalk

def dummyN : AN := { kind := 0, size := 0 }
/-- The parts of the first q nodes; the latest one. -/
def partsQ (ns : List AN) : Nat → List GP
  | 0 => []
  | q + 1 => partsQ ns q ++ [partOfP (ns.getD q dummyN) q (partsQ ns q)]
theorem partsQ_length (ns : List AN) : ∀ q, (partsQ ns q).length = q
  | 0 => rfl
  | q + 1 => by simp [partsQ, partsQ_length ns q]
def lastQ (ns : List AN) : Nat → GP
  | 0 => noneP
  | q + 1 => partOfP (ns.getD q dummyN) q (partsQ ns q)

/-- All nodes fit. -/
def NodesFit (ns : List AN) : Prop := ∀ q n, ns[q]? = some n → 0 ≤ n.kind ∧ n.kind ≤ 6 ∧ NodeFits n (partsQ ns q)

theorem infoNode2 : (Try.prog.info? 109).map (·.size) = some 8 := by kernel_rfl

theorem wpList_load_node {ops : Array Oper} {rest : List Oper} {o : Oper} {a : Act} {w : World} {Q : Exit → Act → World → Prop} (hgd : o.guard = none) (y : Operand) (ho : o.op = .load 109 y)
    (g off : Nat) (hx : a.eval y = .pointer (some ⟨g, off, none⟩)) (n : AN) (x : IV) (hg : w.rangeAt g off (n.cells x))
    (h : wpList Try.prog ops Q rest (a.put o.dst (.agg #[.int .i64 n.kind, .slice x.1 x.2.1 x.2.2, .bool n.neg, .int .i64 n.left, .int .i64 n.right, .int .i64 n.least, .int .i64 n.most, .int .i64 n.size])) w) : wpList Try.prog ops Q (o :: rest) a w :=
  wpList_load_mid hgd _ y ho g off hx (n.cells x) _ hg Try.underlying109 rfl (by simpa [AN.cells] using infoNode2) h

theorem node_range {w : World} {B g cap : Nat} {ns : List AN} {xs : List IV} (h : w.ownsRow B 109 8 (.slice (some ⟨g, 0, none⟩) ns.length cap) ns.length (nodesCells ns xs)) {q : Nat} {n : AN} {x : IV} (hn : ns[q]? = some n) (hx : xs[q]? = some x) :
    w.rangeAt g (q * 8) (n.cells x) := fun j v hv => by
  have hj : j < 8 := by have := (List.getElem?_eq_some_iff.1 hv).1; simpa [AN.cells] using this
  have h1 := h.cells (g := g) rfl (q * 8 + j) v (by rw [nodesCells_get ns xs q j n x hn hx hj, ← hv])
  rwa [show (⟨g, 0, none⟩ : Addr).add (q * 8 + j) = ⟨g, q * 8 + j, none⟩ by simp [Addr.add]; omega] at h1

theorem range_kept {w w' : World} {g off : Nat} {cs : List Value} {S : List Nat} (h : w.rangeAt g off cs) (k : Kept S w w') (hs : ¬ g ∈ S) (hc : 0 < cs.length) : w'.rangeAt g off cs := fun j v hv => by
  have h1 := h j v hv
  have hlt : g < w.heap.size := by
    obtain ⟨u, hu⟩ : ∃ u, cs[0]? = some u := ⟨_, List.getElem?_eq_getElem hc⟩
    exact block_lt_of_cell (h 0 u hu)
  unfold World.cell? at *
  simp only [] at *
  rw [k.block g hlt hs]
  exact h1

/-- The result's room, the latest part, the row of the parts. -/
structure WrIn (w0 w : World) (ns : List AN) (q : Nat) (v : Value) : Prop where
  b0 : Blk w w0.heap.size (gpCells {}) 102
  b1 : Blk w (w0.heap.size + 1) (gpCells (lastQ ns q)) 102
  ps : PartsIn w (w0.heap.size + 1 + 1) v (partsQ ns q)
  k : Kept [] w0 w

set_option maxHeartbeats 2000000 in
set_option maxRecDepth 100000 in
theorem write_any (ns : List AN) (xs : List IV) (B0 : Nat) (v : Value) (w : World) (h : w.ownsRow B0 109 8 v ns.length (nodesCells ns xs)) (hx : xs.length = ns.length) (hl : ns.length ≤ 900) (hn : NodesFit ns) :
    PartCall 50 #[v] w (lastQ ns ns.length) := by
  unfold PartCall
  have hz := zeroV_part
  obtain ⟨va, cap, rfl⟩ : ∃ a cap, v = .slice a ns.length cap := by
    rcases h.2 with ⟨h1, h2⟩ | ⟨g, cap, _, h1, _⟩
    · exact ⟨none, 0, by rw [h1, h2]⟩
    · exact ⟨_, cap, h1⟩
  have hst : ∀ w1, Blk w1 (w.heap.size + 1) (gpCells noneP) 102 → Kept [w.heap.size + 1] ((w.alloc (.cells (gpCells {}) 102)).alloc (.cells (gpCells {}) 102)) w1 → WrIn w w1 ns 0 (.slice none 0 0) := fun w1 hb hk =>
    ⟨((Blk.new w _ _).alloc _).kept hk (by simp), hb, World.ownsRow_nil _ _ _ _, (((Kept.refl _ _).alloc _).alloc _).into hk (by omega)⟩
  have hstH : Hid (∀ w1, _ → _ → _) := hst
  clear hst
  go_enter Try.func50, Try.ntmps50
  go_wp2_with (first
    | (refine wpList_build_none rfl rfl ?_)
    | (with_reducible refine wpList_store_part ?_ (.tmp 3) (.tmp 6) ?_ (w.heap.size + 1) ?_ {} noneP ?_ ?_ ?_
       · rfl
       · rfl
       · rfl
       · rfl
       · exact Blk.new1 w (.cells (gpCells {}) 102) (gpCells {}) 102
       intro w1 hb1 hk1 hs1
       have hs0 := hstH.out w1 hb1 hk1
       clear hb1 hk1 hs1))
  go_loopw [4, 5] (fun tv iv wr => ∃ (q : Nat) (pv : Value), tv = pv ∧ iv = .int .i64 (q : Int) ∧ q ≤ ns.length ∧ WrIn w wr ns q pv) (fun _ iv _ => ((ns.length : Int) - intOf iv).toNat)
  case atStart => exact ⟨0, _, rfl, rfl, Nat.zero_le _, hs0⟩
  case round =>
    obtain ⟨q, tv, htv, rfl, hq, hI⟩ := hrel
    obtain rfl := htv.symm
    clear hs0 hstH
    by_cases hlt : (q : Int) < (ns.length : Int)
    · have hqn : q < ns.length := by omega
      obtain ⟨n, hnn⟩ : ∃ n, ns[q]? = some n := ⟨_, List.getElem?_eq_getElem hqn⟩
      obtain ⟨x, hxx⟩ : ∃ x, xs[q]? = some x := ⟨_, List.getElem?_eq_getElem (by omega)⟩
      obtain ⟨g, cap', hv⟩ := own_form h (by omega)
      simp only [Value.slice.injEq] at hv
      obtain ⟨rfl, _, rfl⟩ := hv
      have hrg : wr.rangeAt g (q * 8) (n.cells x) := range_kept (node_range h hnn hxx) hI.k (by simp) (by simp [AN.cells])
      obtain ⟨f1, f2, f3⟩ := hn q n hnn
      have hgd : ns.getD q dummyN = n := by rw [List.getD_eq_getElem?_getD, hnn]; rfl
      have e1 : Hid (lastQ ns (q + 1) = partOfP n q (partsQ ns q)) := by show lastQ ns (q + 1) = _; rw [lastQ, hgd]
      have e2 : Hid (partsQ ns (q + 1) = partsQ ns q ++ [partOfP n q (partsQ ns q)]) := by show partsQ ns (q + 1) = _; rw [partsQ, hgd]
      have hcall : Hid (∀ w', PartsIn w' (w.heap.size + 1 + 1) tv (partsQ ns q) → PartCall _ _ w' _) := fun w' h' => partOf_any n x q (partsQ ns q) _ tv w' h' (by rw [partsQ_length]; omega) (by omega) f3 f1 f2
      have hlp : (partsQ ns q).length ≤ 1000 := by rw [partsQ_length]; omega
      have hIH : Hid (WrIn _ _ _ _ _) := hI
      clear hI hgd hnn hxx f1 f2 f3 h hn
      have hgt := hIH.out.b1.lt
      generalize partOfP n q (partsQ ns q) = P at *
      go_wp2_with (first
        | (with_reducible refine wpList_load_node ?_ (.tmp 15) ?_ g (q * 8) ?_ n x ?_ ?_
           · rfl
           · rfl
           · first | rfl | (simp [Act.eval])
           · exact hrg)
        | (go_at_call 71
           refine (hcall.out _ hIH.out.ps).mono ?_
           rintro e w1 ⟨rfl, k1⟩
           have g0 := hIH.out.b0.kept k1 (by simp)
           have g1 := hIH.out.b1.kept k1 (by simp)
           have g2 := hIH.out.ps.keep k1 (by simp)
           have g3 := hIH.out.k.trans k1)
        | (with_reducible refine wpList_store_part ?_ (.tmp 3) (.tmp 19) ?_ (w.heap.size + 1) ?_ (lastQ ns q) P ?_ ?_ ?_
           · rfl
           · rfl
           · rfl
           · rfl
           · exact g1
           intro w2 hb2 hk2 hs2
           have p0 := g0.kept hk2 (by simp)
           have p2 := g2.keep hk2 (by simp)
           have p3 := g3.into hk2 (by omega)
           clear hk2 hs2 hrg)
        | (with_reducible refine wpList_load_part ?_ (.tmp 3) ?_ (w.heap.size + 1) ?_ P ?_ ?_
           · rfl
           · rfl
           · rfl
           · exact hb2)
        | (with_reducible refine wpList_row_part ?_ (.tmp 21) ?_ P ?_ ?_
           · rfl
           · rfl
           · rfl)
        | (at_builtin
           with_reducible refine wpList_append_part ?_ (.tmp 20) (.tmp 22) ?_ (w.heap.size + 1 + 1) w2.heap.size tv (partsQ ns q) P ?_ ?_ ?_ ?_ ?_ ?_ ?_
           · rfl
           · rfl
           · rfl
           · rfl
           · exact hlp
           · exact p2.keep ((Kept.refl [] w2).alloc (.cells (gpCells P) 102)) (by simp)
           · exact Blk.new w2 (gpCells P) 102
           · have := hb2.lt; simp; omega
           intro v' w3 hown hgrow
           have q3 : WrIn w w3 ns (q + 1) v' := by
             have hlt2 := hb2.lt
             have bl : ∀ k, k < w2.heap.size → tv.ownBlock ≠ some k → w3.heap[k]? = w2.heap[k]? := fun k hk hne => by
               rw [hgrow.block k (by simp; omega) (fun hc => hne hc.symm), Below.heap_alloc _ _ _ hk]
             have hne : ∀ k, k < w.heap.size + 1 + 1 → tv.ownBlock ≠ some k := fun k hk hc => by have := (p2.lt k hc).1; omega
             refine ⟨?_, ?_, ?_, ?_⟩
             · exact (bl _ (by omega) (hne _ (by omega))).trans p0
             · rw [e1.out]; exact (bl _ (by omega) (hne _ (by omega))).trans hb2
             · rw [e2.out]; exact hown
             · have hs2 : w2.heap.size ≤ w3.heap.size := by have := hgrow.size; simp at this; omega
               exact ⟨hgrow.os.trans p3.os, hgrow.tape.trans p3.tape, hgrow.output.trans p3.output, Nat.le_trans p3.size hs2, fun i hi hn => by
                 have := p3.size
                 rw [bl i (by omega) (hne i (by omega))]; exact p3.block i hi hn⟩
           have q3H : Hid (WrIn _ _ _ _ _) := q3
           clear q3 hown hgrow))
      refine ⟨⟨q + 1, v', rfl, by go_num, by omega, q3H.out⟩, ?_⟩
      simp only [intOf]; omega
    · have hqe : ns.length = q := by omega
      have hbH : Hid (Blk wr (w.heap.size + 1) (gpCells (lastQ ns ns.length)) 102) := by rw [hqe]; exact hI.b1
      clear hqe
      go_wp2_with (first
        | (with_reducible refine wpList_load_part ?_ (.tmp 3) ?_ (w.heap.size + 1) ?_ (lastQ ns ns.length) ?_ ?_
           · rfl
           · rfl
           · rfl
           · exact hbH.out)
        | (with_reducible refine wpList_store_part ?_ (.tmp 2) (.tmp 24) ?_ w.heap.size ?_ {} (lastQ ns ns.length) ?_ ?_ ?_
           · rfl
           · rfl
           · rfl
           · rfl
           · exact hI.b0
           intro w8 hb8 hk8 hs8
           have hK8 := hI.k.into hk8 (by omega)))
      exact bodyPost_ret (v := .agg (gpCells (lastQ ns ns.length))) (results_part Try.results50 _ _ _ (lastQ ns ns.length) rfl hb8) rfl ⟨rfl, hK8⟩

end Go.Proofs.Ytjhmkkhnnijigaa
