/- The machine: Build, walked. -/
import Derived.Test.YtjhmkkhnnijigaaMBuild
set_option linter.unusedVariables false
set_option linter.unusedSimpArgs false
namespace Go.Proofs.Ytjhmkkhnnijigaa
open Go.RowKit Go.IntWalk

theorem nextM_set (m : MP) (q : Nat) (s : B64) (hq : q < 61) : (mCells m).setIfInBounds (1 + q) (UV s) = mCells (nextM m q s) :=
  m_set_next _ _ q s hq rfl rfl (fun _ _ => rfl) rfl rfl rfl

theorem one_shl {q : Nat} (hq : q < 64) : ((1#64 <<< q : B64).toNat : Int) = 2 ^ q := by
  have h : 2 ^ q < 2 ^ 64 := Nat.pow_lt_pow_right (by decide) hq
  rw [BitVec.toNat_shiftLeft, Nat.shiftLeft_eq, Nat.mod_eq_of_lt (by simpa using h)]
  simp

/-- A pattern's nodes in memory. -/
structure NodesIn (w : World) (B : Nat) (v : Value) (ns : List AN) (xs : List IV) : Prop where
  row : w.ownsRow B 109 8 v ns.length (nodesCells ns xs)
  len : xs.length = ns.length
  items : ∀ (i : Nat) (n : AN) (x : IV), ns[i]? = some n → xs[i]? = some x → ItemsOk w B x n.its
theorem row_kept0 {w w' : World} {B e z n : Nat} {v : Value} {ys : List Value} (h : w.ownsRow B e z v n ys) (k : Kept [] w w') : w'.ownsRow B e z v n ys := by
  refine ⟨h.1, ?_⟩
  rcases h.2 with h1 | ⟨g, cap, cur, h1, h2, h3, h4⟩
  · exact Or.inl h1
  · have hlt : g < w.heap.size := (Array.getElem?_eq_some_iff.1 h3).1
    exact Or.inr ⟨g, cap, cur, h1, h2, (k.block g hlt (by simp)).trans h3, h4⟩
theorem NodesIn.kept {w w' : World} {B : Nat} {v : Value} {ns : List AN} {xs : List IV} (h : NodesIn w B v ns xs) (k : Kept [] w w') : NodesIn w' B v ns xs :=
  ⟨row_kept0 h.row k, h.len, fun i n x a c => row_kept0 (h.items i n x a c) k⟩

set_option maxHeartbeats 1000000 in
set_option maxRecDepth 100000 in
theorem build_any (ns : List AN) (xs : List IV) (B : Nat) (v : Value) (size : Int) (fold whole : Bool) (w : World) (h : NodesIn w B v ns xs) (hl : ns.length ≤ 900) (hn : NodesFit ns) (hits : ∀ n, n ∈ ns → n.its.length ≤ 1000) (hfit : (lastQ ns ns.length).count ≤ 60) (hnd : ∀ i, (lastQ ns ns.length).node i ≤ 10000) :
    Calls Try.prog 34 #[.agg #[v, .int .i64 size], .bool fold, .bool whole] w fun e w' => e = .returned (.agg (mCells (buildP ns (lastQ ns ns.length) fold whole))) ∧ Kept [] w w' := by
  have hz := zeroV_part
  have hzm := zeroV_mach
  have hw : Hid (∀ w', Kept [] w w' → PartCall _ _ w' _) := fun w' k => write_any ns xs B v w' (row_kept0 h.row k) h.len hl hn
  generalize hP : lastQ ns ns.length = P at *
  obtain ⟨va, cap, hv⟩ : ∃ a cap, v = .slice a ns.length cap := by
    rcases h.row.2 with ⟨h1, h2⟩ | ⟨g, cap, _, h1, _⟩
    · exact ⟨none, 0, by rw [h1, h2]⟩
    · exact ⟨_, cap, h1⟩
  subst hv
  have k0 : Kept [] w ((w.alloc (.cells #[.slice va ns.length cap, .int .i64 size] 53)).alloc (.cells (mCells {}) 63)) := ((Kept.refl _ _).alloc _).alloc _
  have p0 : Blk ((w.alloc (.cells #[.slice va ns.length cap, .int .i64 size] 53)).alloc (.cells (mCells {}) 63)) w.heap.size #[.slice va ns.length cap, .int .i64 size] 53 := (Blk.new _ _ _).alloc _
  have r0 : MIn ((w.alloc (.cells #[.slice va ns.length cap, .int .i64 size] 53)).alloc (.cells (mCells {}) 63)) (w.heap.size + 1) {} := Blk.new1 w _ _ _
  have k0 : Hid (Kept _ _ _) := k0
  have p0 : Hid (Blk _ _ _ _) := p0
  have r0 : Hid (MIn _ _ _) := r0
  cases hem : P.empty with
  | false =>
    go_enter Try.func34, Try.ntmps34
    go_wp2_with (first
      | (go_at_call 50
         refine (hw.out _ k0.out).mono ?_
         rintro e w1 ⟨rfl, k1⟩
         have p1 := p0.out.kept k1 (by simp)
         have r1 := Blk.kept r0.out k1 (by simp)
         have K1 := k0.out.trans k1
         have L1 := Blk.lt r1)
      | (with_reducible refine wpList_store_part ?_ (.tmp 7) (.tmp 13) ?_ w1.heap.size ?_ {} P ?_ ?_ ?_
         · rfl
         · rfl
         · rfl
         · rfl
         · exact Blk.new w1 (gpCells {}) 102
         intro w2 hb2 hk2 hs2
         have p2 := (p1.alloc (.cells (gpCells {}) 102)).kept hk2 (by simp; omega)
         have r2 := Blk.kept (Blk.alloc r1 (.cells (gpCells {}) 102)) hk2 (by simp; omega)
         have K2 : Kept [] w w2 := (K1.alloc (.cells (gpCells {}) 102)).into hk2 (by omega)
         have c3 := hb2.part3
         have L2 := hb2.lt
         clear hs2 hk2)
      | (refine wpList_build_mach rfl (.tmp 14) (.tmp 16) rfl whole P.last rfl rfl ?_)
      | (with_reducible refine wpList_store_mach ?_ (.tmp 8) (.tmp 17) ?_ w2.heap.size ?_ {} { whole := whole, last := P.last } ?_ ?_ ?_
         · rfl
         · rfl
         · rfl
         · rfl
         · exact Blk.new w2 (mCells {}) 63
         intro w3 hb3 hk3 hs3
         have I3 : BdIn w w3 w1.heap.size w2.heap.size (.slice va ns.length cap) size P { whole := whole, last := P.last } := ⟨hb3, (hb2.alloc (.cells (mCells {}) 63)).kept hk3 (by simp; omega), (p2.alloc (.cells (mCells {}) 63)).kept hk3 (by simp; omega), Blk.kept (Blk.alloc r2 (.cells (mCells {}) 63)) hk3 (by simp; omega), (K2.alloc (.cells (mCells {}) 63)).into hk3 (by omega), L1, L2⟩
         clear c3 hs3 hk3
         have d1 := I3.pt.part1
         rw [hem] at d1
         have d2 := I3.pt.part2
         have d3 := I3.mi.next (i := 60) (by decide)
         have f3 := I3.mi.frozen 61
         have d4 := I3.mi.last
         have f4 := I3.mi.frozen 320
         have H0 : Hid (BdIn w (w3.setCell ⟨w2.heap.size, 61, none⟩ (UV P.first)) w1.heap.size w2.heap.size (.slice va ns.length cap) size P (buildQ ns P fold whole 0)) := by
           have e : buildQ ns P fold whole 0 = nextM { whole := whole, last := P.last } 60 P.first := by simp [buildQ, build0, hem, nextM]
           rw [e]
           exact I3.set 61 (UV P.first) (nextM_set _ 60 _ (by decide))))
    go_loopw [9] (fun iv wr => ∃ q : Nat, iv = .int .i64 (q : Int) ∧ q ≤ P.count ∧ BdIn w wr w1.heap.size w2.heap.size (.slice va ns.length cap) size P (buildQ ns P fold whole q)) (fun iv _ => ((P.count : Int) - intOf iv).toNat)
    case atStart => exact ⟨0, rfl, Nat.zero_le _, H0.out⟩
    case round =>
      obtain ⟨q, rfl, hq, hI⟩ := hrel
      clear H0 k0 p0 r0 hw K1 K2 p1 r1 k1 p2 r2 hb2 hb3 I3 d1 d2 d3 d4 f3 f4 hz hzm
      have hgs : w.heap.size ≤ w2.heap.size := by omega
      by_cases hlt : (q : Int) < (P.count : Int)
      · have hqn : q < P.count := by omega
        have hq60 : q < 60 := by omega
        have hq60i : (q : Int) < 60 := by omega
        have c0 := hI.pt.part0
        have c1 : wr.cell? ⟨w1.heap.size, 4 + q, none⟩ = some (UV (P.next q)) := by rw [hI.pt.cell, part_next _ _ hq60]
        have c2 : wr.cell? ⟨w1.heap.size, 64 + q, none⟩ = some (.int .i64 (P.node q : Int)) := by rw [hI.pt.cell, part_node _ _ hq60]
        have c3 : wr.cell? ⟨w.heap.size, 0, none⟩ = some (.slice va ns.length cap) := by rw [hI.pat.cell]; rfl
        have c4 := hI.mi.next (i := q) (by omega)
        have f4 := hI.mi.frozen (1 + q)
        have L3 := hI.lt
        have L4 := hI.ltg
        have I9 := hI.set (1 + q) (UV (P.next q)) (nextM_set _ q _ (by omega))
        have hnq := hnd q
        by_cases hnode : (P.node q : Int) < (ns.length : Int)
        · have hnn : P.node q < ns.length := by omega
          obtain ⟨n, hn1⟩ : ∃ n, ns[P.node q]? = some n := ⟨_, List.getElem?_eq_getElem hnn⟩
          obtain ⟨x, hx1⟩ : ∃ x, xs[P.node q]? = some x := ⟨_, List.getElem?_eq_getElem (by have := h.len; omega)⟩
          obtain ⟨gN, cap', hv⟩ := own_form h.row (by omega)
          simp only [Value.slice.injEq] at hv
          obtain ⟨rfl, _, rfl⟩ := hv
          have hrg := range_kept (node_range h.row hn1 hx1) I9.k (by simp) (by simp [AN.cells])
          have hits1 := h.items _ _ _ hn1 hx1
          have hne : (ivV x).ownBlock ≠ some w2.heap.size := fun hc => by have := hits1.lt _ hc; omega
          have hlearn : Hid (Calls _ _ _ _ _) := learn_any _ w2.heap.size (1#64 <<< q) n x fold B _ I9.mi (row_kept0 hits1 I9.k) (hits n (List.mem_of_getElem? hn1)) hne
          have eB : Hid (buildQ ns P fold whole (q + 1) = learnP (nextM (buildQ ns P fold whole q) q (P.next q)) (1#64 <<< q) n fold) := by
            show buildQ ns P fold whole (q + 1) = _
            rw [buildQ, hn1]
          have I9H : Hid (BdIn _ _ _ _ _ _ _ _) := I9
          have hw1 : IntKind.wrap .u64 ((2 : Int) ^ q) = ((1#64 <<< q : B64).toNat : Int) := by rw [← one_shl (by omega)]; exact wrap_u _ (BitVec.isLt _)
          have hw2 : IntKind.wrap .u64 (1 * (2 : Int) ^ q) = ((1#64 <<< q : B64).toNat : Int) := by rw [Int.one_mul]; exact hw1
          generalize hSS : (1#64 <<< q : B64) = S at *
          clear hSS hn1 hx1 hits1 hne h hits hI I9 hn hfit hnd
          go_wp2_with (first
            | (with_reducible refine wpList_load_node ?_ (.tmp 64) ?_ gN (P.node q * 8) ?_ n x ?_ ?_
               · rfl
               · rfl
               · first | rfl | (simp [Act.eval])
               · exact hrg)
            | (go_at_call 51
               with_reducible refine hlearn.out.mono ?_
               rintro e w8 ⟨rfl, h8, k8⟩
               have I10 : Hid (BdIn _ _ _ _ _ _ _ _) := I9H.out.into h8 k8))
          refine ⟨⟨q + 1, by go_num, by omega, by rw [eB.out]; exact I10.out⟩, ?_⟩
          simp only [intOf]; omega
        · have hnn : ns[P.node q]? = none := List.getElem?_eq_none (by omega)
          have eB : Hid (buildQ ns P fold whole (q + 1) = nextM (buildQ ns P fold whole q) q (P.next q)) := by
            show buildQ ns P fold whole (q + 1) = _
            rw [buildQ, hnn]
          have I9H : Hid (BdIn _ _ _ _ _ _ _ _) := I9
          have hnode : (ns.length : Int) ≤ (P.node q : Int) := by omega
          clear hnn h hits hI I9 hn hfit hnd
          go_wp2
          refine ⟨⟨q + 1, by go_num, by omega, by rw [eB.out]; exact I9H.out⟩, ?_⟩
          simp only [intOf]; omega
      · have hqe : P.count = q := by omega
        have eB : Hid (buildP ns P fold whole = buildQ ns P fold whole q) := by show buildP ns P fold whole = _; unfold buildP; rw [hqe]
        have c0 := hI.pt.part0
        have hIH : Hid (BdIn _ _ _ _ _ _ _ _) := hI
        clear hqe hI h hits hn hfit hnd
        generalize buildQ ns P fold whole q = M at *
        go_wp2_with (first
          | (with_reducible refine wpList_load_mach ?_ (.tmp 8) ?_ w2.heap.size ?_ M ?_ ?_
             · rfl
             · rfl
             · rfl
             · exact hIH.out.mi)
          | (with_reducible refine wpList_store_mach ?_ (.tmp 6) (.tmp 68) ?_ (w.heap.size + 1) ?_ {} M ?_ ?_ ?_
             · rfl
             · rfl
             · rfl
             · rfl
             · exact hIH.out.res
             intro w8 hb8 hk8 hs8
             have hK8 := hIH.out.k.into hk8 (by omega)))
        exact bodyPost_ret (v := .agg (mCells M)) (results_mach Try.results34 _ _ _ M rfl hb8) rfl ⟨by rw [eB.out], hK8⟩
  | true =>
    have hor := or_u P.last startB
    rw [startB_nat] at hor
    obtain ⟨Z, hZ⟩ : ∃ Z, Hid (P.last ||| startB = Z) := ⟨_, rfl⟩
    rw [hZ.out] at hor
    go_enter Try.func34, Try.ntmps34
    go_wp2_with (first
      | (go_at_call 50
         refine (hw.out _ k0.out).mono ?_
         rintro e w1 ⟨rfl, k1⟩
         have p1 := p0.out.kept k1 (by simp)
         have r1 := Blk.kept r0.out k1 (by simp)
         have K1 := k0.out.trans k1
         have L1 := Blk.lt r1)
      | (with_reducible refine wpList_store_part ?_ (.tmp 7) (.tmp 13) ?_ w1.heap.size ?_ {} P ?_ ?_ ?_
         · rfl
         · rfl
         · rfl
         · rfl
         · exact Blk.new w1 (gpCells {}) 102
         intro w2 hb2 hk2 hs2
         have p2 := (p1.alloc (.cells (gpCells {}) 102)).kept hk2 (by simp; omega)
         have r2 := Blk.kept (Blk.alloc r1 (.cells (gpCells {}) 102)) hk2 (by simp; omega)
         have K2 : Kept [] w w2 := (K1.alloc (.cells (gpCells {}) 102)).into hk2 (by omega)
         have c3 := hb2.part3
         have L2 := hb2.lt
         clear hs2 hk2)
      | (refine wpList_build_mach rfl (.tmp 14) (.tmp 16) rfl whole P.last rfl rfl ?_)
      | (with_reducible refine wpList_store_mach ?_ (.tmp 8) (.tmp 17) ?_ w2.heap.size ?_ {} { whole := whole, last := P.last } ?_ ?_ ?_
         · rfl
         · rfl
         · rfl
         · rfl
         · exact Blk.new w2 (mCells {}) 63
         intro w3 hb3 hk3 hs3
         have I3 : BdIn w w3 w1.heap.size w2.heap.size (.slice va ns.length cap) size P { whole := whole, last := P.last } := ⟨hb3, (hb2.alloc (.cells (mCells {}) 63)).kept hk3 (by simp; omega), (p2.alloc (.cells (mCells {}) 63)).kept hk3 (by simp; omega), Blk.kept (Blk.alloc r2 (.cells (mCells {}) 63)) hk3 (by simp; omega), (K2.alloc (.cells (mCells {}) 63)).into hk3 (by omega), L1, L2⟩
         clear c3 hs3 hk3
         have d1 := I3.pt.part1
         rw [hem] at d1
         have d2 := I3.pt.part2
         have d3 := I3.mi.next (i := 60) (by decide)
         have f3 := I3.mi.frozen 61
         have d4 := I3.mi.last
         have f4 := I3.mi.frozen 320
         have H0 : Hid (BdIn w ((w3.setCell ⟨w2.heap.size, 61, none⟩ (UV P.first)).setCell ⟨w2.heap.size, 320, none⟩ (UV Z)) w1.heap.size w2.heap.size (.slice va ns.length cap) size P (buildQ ns P fold whole 0)) := by
           have e : buildQ ns P fold whole 0 = { nextM { whole := whole, last := P.last } 60 P.first with last := Z } := by simp [buildQ, build0, hem, nextM, hZ.out]
           rw [e]
           exact (I3.set 61 (UV P.first) (nextM_set _ 60 _ (by decide))).set 320 (UV Z) (m_set_last _ Z)))
    go_loopw [9] (fun iv wr => ∃ q : Nat, iv = .int .i64 (q : Int) ∧ q ≤ P.count ∧ BdIn w wr w1.heap.size w2.heap.size (.slice va ns.length cap) size P (buildQ ns P fold whole q)) (fun iv _ => ((P.count : Int) - intOf iv).toNat)
    case atStart => exact ⟨0, rfl, Nat.zero_le _, H0.out⟩
    case round =>
      obtain ⟨q, rfl, hq, hI⟩ := hrel
      clear H0 k0 p0 r0 hw K1 K2 p1 r1 k1 p2 r2 hb2 hb3 I3 d1 d2 d3 d4 f3 f4 hz hzm
      have hgs : w.heap.size ≤ w2.heap.size := by omega
      by_cases hlt : (q : Int) < (P.count : Int)
      · have hqn : q < P.count := by omega
        have hq60 : q < 60 := by omega
        have hq60i : (q : Int) < 60 := by omega
        have c0 := hI.pt.part0
        have c1 : wr.cell? ⟨w1.heap.size, 4 + q, none⟩ = some (UV (P.next q)) := by rw [hI.pt.cell, part_next _ _ hq60]
        have c2 : wr.cell? ⟨w1.heap.size, 64 + q, none⟩ = some (.int .i64 (P.node q : Int)) := by rw [hI.pt.cell, part_node _ _ hq60]
        have c3 : wr.cell? ⟨w.heap.size, 0, none⟩ = some (.slice va ns.length cap) := by rw [hI.pat.cell]; rfl
        have c4 := hI.mi.next (i := q) (by omega)
        have f4 := hI.mi.frozen (1 + q)
        have L3 := hI.lt
        have L4 := hI.ltg
        have I9 := hI.set (1 + q) (UV (P.next q)) (nextM_set _ q _ (by omega))
        have hnq := hnd q
        by_cases hnode : (P.node q : Int) < (ns.length : Int)
        · have hnn : P.node q < ns.length := by omega
          obtain ⟨n, hn1⟩ : ∃ n, ns[P.node q]? = some n := ⟨_, List.getElem?_eq_getElem hnn⟩
          obtain ⟨x, hx1⟩ : ∃ x, xs[P.node q]? = some x := ⟨_, List.getElem?_eq_getElem (by have := h.len; omega)⟩
          obtain ⟨gN, cap', hv⟩ := own_form h.row (by omega)
          simp only [Value.slice.injEq] at hv
          obtain ⟨rfl, _, rfl⟩ := hv
          have hrg := range_kept (node_range h.row hn1 hx1) I9.k (by simp) (by simp [AN.cells])
          have hits1 := h.items _ _ _ hn1 hx1
          have hne : (ivV x).ownBlock ≠ some w2.heap.size := fun hc => by have := hits1.lt _ hc; omega
          have hlearn : Hid (Calls _ _ _ _ _) := learn_any _ w2.heap.size (1#64 <<< q) n x fold B _ I9.mi (row_kept0 hits1 I9.k) (hits n (List.mem_of_getElem? hn1)) hne
          have eB : Hid (buildQ ns P fold whole (q + 1) = learnP (nextM (buildQ ns P fold whole q) q (P.next q)) (1#64 <<< q) n fold) := by
            show buildQ ns P fold whole (q + 1) = _
            rw [buildQ, hn1]
          have I9H : Hid (BdIn _ _ _ _ _ _ _ _) := I9
          have hw1 : IntKind.wrap .u64 ((2 : Int) ^ q) = ((1#64 <<< q : B64).toNat : Int) := by rw [← one_shl (by omega)]; exact wrap_u _ (BitVec.isLt _)
          have hw2 : IntKind.wrap .u64 (1 * (2 : Int) ^ q) = ((1#64 <<< q : B64).toNat : Int) := by rw [Int.one_mul]; exact hw1
          generalize hSS : (1#64 <<< q : B64) = S at *
          clear hSS hn1 hx1 hits1 hne h hits hI I9 hn hfit hnd
          go_wp2_with (first
            | (with_reducible refine wpList_load_node ?_ (.tmp 64) ?_ gN (P.node q * 8) ?_ n x ?_ ?_
               · rfl
               · rfl
               · first | rfl | (simp [Act.eval])
               · exact hrg)
            | (go_at_call 51
               with_reducible refine hlearn.out.mono ?_
               rintro e w8 ⟨rfl, h8, k8⟩
               have I10 : Hid (BdIn _ _ _ _ _ _ _ _) := I9H.out.into h8 k8))
          refine ⟨⟨q + 1, by go_num, by omega, by rw [eB.out]; exact I10.out⟩, ?_⟩
          simp only [intOf]; omega
        · have hnn : ns[P.node q]? = none := List.getElem?_eq_none (by omega)
          have eB : Hid (buildQ ns P fold whole (q + 1) = nextM (buildQ ns P fold whole q) q (P.next q)) := by
            show buildQ ns P fold whole (q + 1) = _
            rw [buildQ, hnn]
          have I9H : Hid (BdIn _ _ _ _ _ _ _ _) := I9
          have hnode : (ns.length : Int) ≤ (P.node q : Int) := by omega
          clear hnn h hits hI I9 hn hfit hnd
          go_wp2
          refine ⟨⟨q + 1, by go_num, by omega, by rw [eB.out]; exact I9H.out⟩, ?_⟩
          simp only [intOf]; omega
      · have hqe : P.count = q := by omega
        have eB : Hid (buildP ns P fold whole = buildQ ns P fold whole q) := by show buildP ns P fold whole = _; unfold buildP; rw [hqe]
        have c0 := hI.pt.part0
        have hIH : Hid (BdIn _ _ _ _ _ _ _ _) := hI
        clear hqe hI h hits hn hfit hnd
        generalize buildQ ns P fold whole q = M at *
        go_wp2_with (first
          | (with_reducible refine wpList_load_mach ?_ (.tmp 8) ?_ w2.heap.size ?_ M ?_ ?_
             · rfl
             · rfl
             · rfl
             · exact hIH.out.mi)
          | (with_reducible refine wpList_store_mach ?_ (.tmp 6) (.tmp 68) ?_ (w.heap.size + 1) ?_ {} M ?_ ?_ ?_
             · rfl
             · rfl
             · rfl
             · rfl
             · exact hIH.out.res
             intro w8 hb8 hk8 hs8
             have hK8 := hIH.out.k.into hk8 (by omega)))
        exact bodyPost_ret (v := .agg (mCells M)) (results_mach Try.results34 _ _ _ M rfl hb8) rfl ⟨by rw [eB.out], hK8⟩

end Go.Proofs.Ytjhmkkhnnijigaa
