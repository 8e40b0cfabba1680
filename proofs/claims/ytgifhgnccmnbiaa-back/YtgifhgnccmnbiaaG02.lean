/- The reader of patterns: the reader's list of nodes in memory; a node's size; one more node. -/
import Derived.Test.YtgifhgnccmnbiaaG01
import Derived.Deep.RegionLaw
set_option linter.unusedVariables false
set_option linter.unusedSimpArgs false
namespace Go.Proofs.Ytgifhgnccmnbiaa
open Go.RowKit Go.IntWalk

/-- append TO A ROW OF THE CALL's OWN (nil, with room or without), as one step of a region that draws. -/
theorem step_append_owned {P : Program} {ops : Array Oper} {o : Oper} {a : Act} {w : World} {K : Act → World → Prop} {Q : Exit → Act → World → Prop} {E : Prop}
    (hg : o.guard = none) (s x : Operand) (t : TypeId) (hop : o.op = Op.call { callee := Callee.builtin Builtin.append, args := #[s, x], argTypes := #[t, t] })
    (e : TypeId) (i : TypeInfo) (z : Value) (size bytes : Nat) (h1 : P.underlying t = some (.slice e)) (h2 : P.info? e = some i) (h3 : i.zero = some z) (h4 : i.size = size) (h5 : i.bytes = bytes) (h6 : z.cells.size = size) (h7 : 0 < size)
    (base : Nat) (v : Value) (n : Nat) (xs : List Value) (hs : a.eval s = v) (hown : w.ownsRow base e size v n xs)
    (ad : Addr) (m c : Nat) (news : List Value) (hx : a.eval x = .slice (some ad) m c) (hn : news.length = m * size) (hc : ∀ j u, news[j]? = some u → w.cell? (ad.add j) = some u) (h1c : ∀ u ∈ news, u.oneCell' = true)
    (b1 : n + m ≤ maxLen) (b2 : (n + m) * bytes ≤ 140737488355328) (hbase : base ≤ w.heap.size)
    (hK : ∀ v' w', w'.ownsRow base e size v' (n + m) (xs ++ news) → w.grownBy w' v.ownBlock → K (a.put o.dst v') w') :
    if Region.wanted o (yielded ops a.tmps) = true then Oper.wp P o a w K Q else E := by
  have hw : Region.wanted o (yielded ops a.tmps) = true := by simp [Region.wanted, hg]
  rw [if_pos hw]
  obtain ⟨v', w', hrun, r1, r2, _⟩ := run_append_own (P := P) w base t o.type e i z size bytes h1 h2 h3 h4 h5 h6 h7 v n xs hown ad m c news hn hc h1c b1 b2 hbase
  unfold Oper.wp
  simp [execOp, hop, resolve, invoke, builtin, hs, hx, hrun, Result.andThen]
  exact hK v' w' r1 r2

/-- A slice as it lies in a cell: address, length, room. -/
abbrev IV := Option Addr × Nat × Nat
def ivV (x : IV) : Value := .slice x.1 x.2.1 x.2.2
def AN.cells (n : AN) (x : IV) : List Value :=
  [.int .i64 n.kind, .slice x.1 x.2.1 x.2.2, .bool n.neg, .int .i64 n.left, .int .i64 n.right, .int .i64 n.least, .int .i64 n.most, .int .i64 n.size]
def nodesCells : List AN → List IV → List Value
  | n :: ns, x :: xs => n.cells x ++ nodesCells ns xs
  | _, _ => []
def itemCells : List (Int × Int) → List Value
  | [] => []
  | x :: r => .int .i64 x.1 :: .int .i64 x.2 :: itemCells r

theorem nodesCells_length : ∀ (ns : List AN) (xs : List IV), xs.length = ns.length → (nodesCells ns xs).length = ns.length * 8
  | [], _, _ => by simp [nodesCells]
  | n :: ns, x :: xs, h => by simp [nodesCells, AN.cells, nodesCells_length ns xs (by simpa using h)]; omega
  | n :: ns, [], h => by simp at h
theorem nodesCells_snoc : ∀ (ns : List AN) (xs : List IV) (n : AN) (x : IV), xs.length = ns.length → nodesCells (ns ++ [n]) (xs ++ [x]) = nodesCells ns xs ++ n.cells x
  | [], [], n, x, _ => by simp [nodesCells]
  | [], _ :: _, n, x, h => by simp at h
  | m :: ns, y :: xs, n, x, h => by simp [nodesCells, nodesCells_snoc ns xs n x (by simpa using h)]
  | m :: ns, [], n, x, h => by simp at h
theorem nodesCells_get : ∀ (ns : List AN) (xs : List IV) (i j : Nat) (n : AN) (x : IV), ns[i]? = some n → xs[i]? = some x → j < 8 → (nodesCells ns xs)[i * 8 + j]? = (n.cells x)[j]?
  | [], _, i, j, n, x, h, _, _ => by simp at h
  | m :: ns, [], i, j, n, x, _, h, _ => by simp at h
  | m :: ns, y :: xs, 0, j, n, x, h, h', hj => by
    simp at h h'; subst h h'
    rw [nodesCells, Nat.zero_mul, Nat.zero_add, List.getElem?_append_left (by simp [AN.cells]; omega)]
  | m :: ns, y :: xs, i + 1, j, n, x, h, h', hj => by
    simp at h h'
    rw [nodesCells, List.getElem?_append_right (by simp [AN.cells]; omega)]
    have e : (i + 1) * 8 + j - (m.cells y).length = i * 8 + j := by simp [AN.cells]; omega
    rw [e]
    exact nodesCells_get ns xs i j n x h h' hj
theorem itemCells_length : ∀ l : List (Int × Int), (itemCells l).length = l.length * 2
  | [] => rfl
  | x :: r => by simp [itemCells, itemCells_length r]; omega
theorem itemCells_snoc : ∀ (l : List (Int × Int)) (x : Int × Int), itemCells (l ++ [x]) = itemCells l ++ [.int .i64 x.1, .int .i64 x.2]
  | [], x => rfl
  | y :: r, x => by simp [itemCells, itemCells_snoc r x]

/-- A node's items, in a row of their own. -/
def ItemsOk (w : World) (base : Nat) (x : IV) (its : List (Int × Int)) : Prop := w.ownsRow base 208 2 (ivV x) its.length (itemCells its)

/-- The reader with its nodes. -/
structure NV (w : World) (b : Nat) (t : ByteArray) (s : RS) (ns : List AN) (v : Value) (xs : List IV) : Prop where
  rd : RD w b t s v
  row : w.ownsRow (b + 1) 119 8 v ns.length (nodesCells ns xs)
  len : xs.length = ns.length
  items : ∀ (i : Nat) (n : AN) (x : IV), ns[i]? = some n → xs[i]? = some x → ItemsOk w (b + 1) x n.its
  sized : Sized ns
def NS (w : World) (b : Nat) (t : ByteArray) (st : PS) : Prop := ∃ v xs, NV w b t st.1 st.2 v xs

section
variable {w w' : World} {b : Nat} {t : ByteArray} {s s' : RS} {ns : List AN} {v : Value} {xs : List IV}
theorem own_ge {w : World} {base : Nat} {e : TypeId} {size : Nat} {v : Value} {n : Nat} {xs : List Value} (h : w.ownsRow base e size v n xs) {g : Nat} (hg : v.ownBlock = some g) : base ≤ g := (h.lt g hg).1

/-- Rows of two element types lie in two blocks. -/
theorem own_ne {w : World} {b1 b2 e1 e2 z1 z2 : Nat} {v1 v2 : Value} {n1 n2 : Nat} {x1 x2 : List Value} (h1 : w.ownsRow b1 e1 z1 v1 n1 x1) (h2 : w.ownsRow b2 e2 z2 v2 n2 x2) (he : e1 ≠ e2) :
    v1.ownBlock = none ∨ v1.ownBlock ≠ v2.ownBlock := by
  rcases h1.2 with ⟨rfl, _⟩ | ⟨g1, c1, u1, rfl, _, hg1, _⟩
  · exact Or.inl rfl
  · refine Or.inr (fun hc => ?_)
    rcases h2.2 with ⟨rfl, _⟩ | ⟨g2, c2, u2, rfl, _, hg2, _⟩
    · simp [Value.ownBlock] at hc
    · simp only [Value.ownBlock, Option.some.injEq] at hc
      subst hc
      rw [hg1] at hg2
      simp only [Option.some.injEq, Obj.cells.injEq] at hg2
      exact he hg2.2.1

/-- What a scanning step leaves: the reader's block alone has turned. -/
theorem NV.scan (h : NV w b t s ns v xs) (r : RD w' b t s' v) (k : Kept [b] w w') : NV w' b t s' ns v xs := by
  have gr : w.grownBy w' (some b) := ⟨k.os, k.tape, k.output, k.size, fun i hi hn => k.block i hi (by simpa using hn)⟩
  refine ⟨r, h.row.kept gr ?_, h.len, fun i n x hn hx => ?_, h.sized⟩
  · cases hv : v.ownBlock with
    | none => exact Or.inl rfl
    | some g => refine Or.inr ?_; have := own_ge h.row hv; simp; omega
  · have h1 := h.items i n x hn hx
    refine World.ownsRow.kept h1 gr ?_
    cases hv : (ivV x).ownBlock with
    | none => exact Or.inl rfl
    | some g => refine Or.inr ?_; have := own_ge h1 hv; simp; omega
end

set_option maxHeartbeats 400000 in
theorem size_any (b i : Nat) (t : ByteArray) (s : RS) (ns : List AN) (v : Value) (xs : List IV) (w : World) (h : NV w b t s ns v xs) (hi : i < ns.length) (hl : ns.length ≤ 1000) :
    Calls Try.prog 62 #[.pointer (some ⟨b, 0, none⟩), .int .i64 (i : Int)] w fun e w' => e = .returned (.int .i64 (sizeAt ns i)) ∧ w' = w := by
  have h2 := h.rd.c2
  obtain ⟨x, hx⟩ : ∃ x, xs[i]? = some x := by have := h.len; exact ⟨xs[i], List.getElem?_eq_getElem (by omega)⟩
  obtain ⟨n, hn⟩ : ∃ n, ns[i]? = some n := ⟨ns[i], List.getElem?_eq_getElem hi⟩
  have hget := nodesCells_get ns xs i 7 n x hn hx (by omega)
  have hv : ∃ g cap, v = .slice (some ⟨g, 0, none⟩) ns.length cap := by
    rcases h.row.2 with ⟨_, h⟩ | ⟨g, cap, _, h, _⟩
    · omega
    · exact ⟨g, cap, h⟩
  obtain ⟨g, cap, rfl⟩ := hv
  have hc : w.cell? ⟨g, i * 8 + 7, none⟩ = some (.int .i64 n.size) := by
    have := h.row.cells (g := g) rfl (i * 8 + 7) (.int .i64 n.size) (by rw [hget]; rfl)
    rwa [show (⟨g, 0, none⟩ : Addr).add (i * 8 + 7) = ⟨g, i * 8 + 7, none⟩ by simp [Addr.add]] at this
  have e : sizeAt ns i = n.size := by simp [sizeAt, hn]
  rw [e]
  clear hget e hn hx h
  go_enter Try.func62, Try.ntmps62
  go_wp2
  go_ret
  exact ⟨rfl, rfl⟩

end Go.Proofs.Ytgifhgnccmnbiaa

set_option linter.unusedVariables false
set_option linter.unusedSimpArgs false
namespace Go.Proofs.Ytgifhgnccmnbiaa
open Go.RowKit Go.IntWalk

def PT.arr (p : PT) : Array Value := #[.int .i64 p.len, .int .i64 p.nl, .int .i64 p.first, .int .i64 p.last]
def PT.val (p : PT) : Value := .agg p.arr
structure PTsmall (p : PT) : Prop where
  len : p.len ≤ 1099511627777
  nl : p.nl ≤ 1099511627777
theorem ptOf_small (t : List Nat) : PTsmall (ptOf t) := ⟨by rw [ptOf_len]; exact capL_le _, by rw [ptOf_nl]; exact capL_le _⟩
theorem byteP_small (c : Nat) : PTsmall (byteP c) := by rw [← ptOf_one]; exact ptOf_small _
theorem joinP_small {a b : PT} (ha : PTsmall a) (hb : PTsmall b) : PTsmall (joinP a b) := by
  unfold joinP
  split
  · exact hb
  · split
    · exact ha
    · exact ⟨capL_le _, capL_le _⟩

set_option maxHeartbeats 400000 in
theorem bounded_any (n : Nat) (hn : n ≤ 3000000000000) (w : World) : Calls Try.prog 155 #[.int .i64 (n : Int)] w fun e w' => e = .returned (.int .i64 (capL n : Int)) ∧ w' = w := by
  unfold capL
  by_cases h : (1099511627777 : Int) < (n : Int)
  · rw [if_pos (by omega)]
    go_enter Try.func155, Try.ntmps155
    go_wp2
    go_ret
    exact ⟨rfl, rfl⟩
  · rw [if_neg (by omega)]
    go_enter Try.func155, Try.ntmps155
    go_wp2
    go_ret
    exact ⟨rfl, rfl⟩

set_option maxHeartbeats 400000 in
theorem partOfByte_any (c : Nat) (w : World) : Calls Try.prog 145 #[.int .i64 (c : Int)] w fun e w' => e = .returned (byteP c).val ∧ Kept [] w w' := by
  have hk : Hid (∀ o1 o2, Kept [] w ((w.alloc o1).alloc o2)) := fun o1 o2 => ((Kept.refl [] w).alloc _).alloc _
  unfold byteP PT.val PT.arr
  by_cases h : (c : Int) = 10
  · rw [if_pos (by omega)]
    have hc : c = 10 := by omega
    subst hc
    clear h
    go_enter Try.func145, Try.ntmps145
    go_wp2
    refine bodyPost_ret (v := .agg #[.int .i64 1, .int .i64 1, .int .i64 10, .int .i64 10]) (by simp [results, Try.results145, go_sem]) rfl ⟨rfl, hk.out _ _⟩
  · rw [if_neg (by omega)]
    have hb : ((c : Int) == 10) = false := beq_eq_false_iff_ne.2 h
    go_enter Try.func145, Try.ntmps145
    go_wp2
    refine bodyPost_ret (v := .agg #[.int .i64 1, .int .i64 0, .int .i64 c, .int .i64 c]) (by simp [results, Try.results145, go_sem]) rfl ⟨rfl, hk.out _ _⟩

set_option maxHeartbeats 1000000 in
set_option maxRecDepth 100000 in
theorem pjoin_any (a b : PT) (ha : PTsmall a) (hb : PTsmall b) (w : World) : Calls Try.prog 140 #[a.val, b.val] w fun e w' => e = .returned (joinP a b).val ∧ Kept [] w w' := by
  have hk : Hid (∀ o1 o2 o3, Kept [] w (((w.alloc o1).alloc o2).alloc o3)) := fun o1 o2 o3 => (((Kept.refl [] w).alloc _).alloc _).alloc _
  obtain ⟨a1, a2, a3, a4⟩ := a
  obtain ⟨b1, b2, b3, b4⟩ := b
  obtain ⟨ha1, ha2⟩ := ha
  obtain ⟨hb1, hb2⟩ := hb
  simp only [] at ha1 ha2 hb1 hb2
  unfold joinP PT.val PT.arr
  simp only []
  by_cases h1 : a1 = 0
  · subst h1
    rw [if_pos rfl]
    go_enter Try.func140, Try.ntmps140
    go_wp2
    refine bodyPost_ret (v := .agg #[.int .i64 b1, .int .i64 b2, .int .i64 b3, .int .i64 b4]) (by simp [results, Try.results140, go_sem]) rfl ⟨rfl, hk.out _ _ _⟩
  · rw [if_neg h1]
    have e1 : ((a1 : Int) == 0) = false := beq_eq_false_iff_ne.2 (by omega)
    by_cases h2 : b1 = 0
    · subst h2
      rw [if_pos rfl]
      go_enter Try.func140, Try.ntmps140
      go_wp2
      refine bodyPost_ret (v := .agg #[.int .i64 a1, .int .i64 a2, .int .i64 a3, .int .i64 a4]) (by simp [results, Try.results140, go_sem]) rfl ⟨rfl, hk.out _ _ _⟩
    · rw [if_neg h2]
      have e2 : ((b1 : Int) == 0) = false := beq_eq_false_iff_ne.2 (by omega)
      have g1 := fun w => bounded_any (a1 + b1) (by omega) w
      have g2 := fun w => bounded_any (a2 + b2) (by omega) w
      simp only [Int.natCast_add] at g1 g2
      have g1 : Hid (∀ w, _) := g1
      have g2 : Hid (∀ w, _) := g2
      clear h1 h2
      generalize capL (a1 + b1) = L1 at *
      generalize capL (a2 + b2) = L2 at *
      go_enter Try.func140, Try.ntmps140
      go_wp2_with fail
      refine (g1.out _).mono ?_
      rintro e w1 ⟨rfl, rfl⟩
      go_wp2_with fail
      refine (g2.out _).mono ?_
      rintro e w1 ⟨rfl, rfl⟩
      go_wp2
      refine bodyPost_ret (v := .agg #[.int .i64 L1, .int .i64 L2, .int .i64 a3, .int .i64 b4]) (by simp [results, Try.results140, go_sem]) rfl ⟨rfl, hk.out _ _ _⟩

end Go.Proofs.Ytgifhgnccmnbiaa

set_option linter.unusedVariables false
set_option linter.unusedSimpArgs false
namespace Go.Proofs.Ytgifhgnccmnbiaa
open Go.RowKit Go.IntWalk

theorem infoNode : (Try.prog.info? 119).map (fun i => (i.zero, i.size, i.bytes)) =
    some (some (.agg #[.int .i64 0, .slice none 0 0, .bool false, .int .i64 0, .int .i64 0, .int .i64 0, .int .i64 0, .int .i64 0]), 8, 80) := by kernel_rfl

/-- The node as it comes in, by value. -/
def AN.val (n : AN) (x : IV) : Value :=
  .agg #[.int .i64 n.kind, .slice x.1 x.2.1 x.2.2, .bool n.neg, .int .i64 n.left, .int .i64 n.right, .int .i64 n.least, .int .i64 n.most, .int .i64 n.size]

theorem cells_new (w0 : World) (cs : Array Value) (e : TypeId) (k : Nat) (hk : k = w0.heap.size) :
    ∀ j u, cs.toList[j]? = some u → (w0.alloc (.cells cs e)).cell? ((⟨k, 0, none⟩ : Addr).add j) = some u := by
  intro j u hu
  subst hk
  rw [show (⟨w0.heap.size, 0, none⟩ : Addr).add j = ⟨w0.heap.size, j, none⟩ by unfold Addr.add; split <;> simp_all, (Blk.new w0 cs e).cell]
  simpa using hu

theorem own_form {w : World} {base : Nat} {e : TypeId} {size : Nat} {v : Value} {n : Nat} {xs : List Value} (h : w.ownsRow base e size v n xs) (hn : 0 < n) :
    ∃ g cap, v = .slice (some ⟨g, 0, none⟩) n cap := by
  rcases h.2 with ⟨_, h⟩ | ⟨g, cap, _, h, _⟩
  · omega
  · exact ⟨g, cap, h⟩

theorem sized_snoc {ns : List AN} {n : AN} (h : Sized ns) (hn : 0 ≤ n.size) : Sized (ns ++ [capN n]) := sized_add (n := n) (st := ((0, false), ns)) h hn

/-- What is left behind the append and the store. -/
theorem add_fin {b : Nat} {t : ByteArray} {s : RS} {ns : List AN} {v : Value} {xs : List IV} {n : AN} {x : IV} {w w1 : World} (h : NV w b t s ns v xs) (hx : ItemsOk w (b + 1) x n.its) (hn : 0 ≤ n.size)
    (o1 o2 : Obj) (g cap : Nat) (news : List Value) (hnews : news = (capN n).cells x)
    (hown : w1.ownsRow (b + 1) 119 8 (.slice (some ⟨g, 0, none⟩) (ns.length + 1) cap) (ns.length + 1) (nodesCells ns xs ++ news))
    (hgrow : ((w.alloc o1).alloc o2).drew.grownBy w1 v.ownBlock) :
    RD w1 b t s v ∧ NS (w1.setCell ⟨b, 2, none⟩ (.slice (some ⟨g, 0, none⟩) (ns.length + 1) cap)) b t (s, ns ++ [capN n]) ∧ Below b w (w1.setCell ⟨b, 2, none⟩ (.slice (some ⟨g, 0, none⟩) (ns.length + 1) cap)) := by
  subst hnews
  have hb := h.rd.blk.lt
  have hvb : some b ≠ v.ownBlock := fun hc => by have := own_ge h.row hc.symm; omega
  have bl : ∀ k, k < w.heap.size → some k ≠ v.ownBlock → w1.heap[k]? = w.heap[k]? := fun k hk hne => by
    rw [hgrow.block k (by show k < ((w.alloc o1).alloc o2).heap.size; simp; omega) hne]
    show ((w.alloc o1).alloc o2).heap[k]? = _
    rw [Below.heap_alloc _ _ _ (by simp; omega), Below.heap_alloc _ _ _ hk]
  have e2 : ((w.alloc o1).alloc o2).drew.heap.size = w.heap.size + 1 + 1 := by
    show ((w.alloc o1).alloc o2).heap.size = _
    simp
  have gsz : w.heap.size ≤ w1.heap.size := by have := hgrow.size; omega
  have gw : w.grownBy w1 v.ownBlock := ⟨hgrow.os, hgrow.tape, hgrow.output, gsz, bl⟩
  have r1 : RD w1 b t s v := ⟨(bl b hb hvb).trans h.rd.blk, h.rd.fits, h.rd.small⟩
  have gb : ∀ u, w1.grownBy (w1.setCell ⟨b, 2, none⟩ u) (some b) := fun u => ⟨rfl, rfl, rfl, by simp [World.setCell], fun k hk hne => Below.heap_setCell _ _ _ _ (by rintro rfl; exact hne rfl)⟩
  have keepRow : ∀ {e z m : Nat} {y : Value} {ys : List Value} (u : Value), w1.ownsRow (b + 1) e z y m ys → (w1.setCell ⟨b, 2, none⟩ u).ownsRow (b + 1) e z y m ys := fun {e z m y ys} u hy => by
    refine hy.kept (gb u) ?_
    cases hv : y.ownBlock with
    | none => exact Or.inl rfl
    | some g => refine Or.inr ?_; have := own_ge hy hv; simp; omega
  have items1 : ∀ (y : IV) (its : List (Int × Int)), ItemsOk w (b + 1) y its → ItemsOk w1 (b + 1) y its := fun y its hy =>
    World.ownsRow.kept hy gw (own_ne hy h.row (by decide))
  refine ⟨r1, ⟨.slice (some ⟨g, 0, none⟩) (ns.length + 1) cap, xs ++ [x], ?_, ?_, ?_, ?_, ?_⟩, ?_⟩
  · exact ⟨Blk.set r1.blk 2 _, h.rd.fits, h.rd.small⟩
  · rw [nodesCells_snoc ns xs (capN n) x h.len, List.length_append]
    exact keepRow _ hown
  · simp [h.len]
  · intro i m y hm hy
    by_cases hi : i < ns.length
    · rw [List.getElem?_append_left hi] at hm
      rw [List.getElem?_append_left (by rw [h.len]; exact hi)] at hy
      exact keepRow _ (items1 y m.its (h.items i m y hm hy))
    · have hi2 : i = ns.length := by
        have := (List.getElem?_eq_some_iff.1 hm).1
        simp at this; omega
      subst hi2
      rw [List.getElem?_append_right (Nat.le_refl _), Nat.sub_self] at hm
      rw [List.getElem?_append_right (by rw [h.len]; exact Nat.le_refl _), h.len, Nat.sub_self] at hy
      simp at hm hy
      subst hm hy
      exact keepRow _ (items1 x n.its hx)
  · exact sized_snoc h.sized hn
  · have hbel : Below b w w1 := ⟨gw.os, gw.tape, gw.output, gw.size, fun k hk => bl k (by omega) (fun hc => by have := own_ge h.row hc.symm; omega)⟩
    exact hbel.setCell (Nat.le_refl _) _

set_option maxHeartbeats 1000000 in
set_option maxRecDepth 100000 in
theorem add_any (b : Nat) (t : ByteArray) (s : RS) (ns : List AN) (v : Value) (xs : List IV) (n : AN) (x : IV) (w : World) (h : NV w b t s ns v xs) (hl : ns.length ≤ 1000)
    (hx : ItemsOk w (b + 1) x n.its) (hn : 0 ≤ n.size) (hn' : n.size ≤ 1000) :
    Calls Try.prog 125 #[.pointer (some ⟨b, 0, none⟩), n.val x] w fun e w' => e = .returned (.int .i64 ((addS n (s, ns)).1 : Int)) ∧ NS w' b t (addS n (s, ns)).2 ∧ Below b w w' := by
  obtain ⟨i0, hi0, hz0, hz1, hz2⟩ := info_parts infoNode
  obtain ⟨ao, il, ic⟩ := x
  obtain ⟨kind, its, neg, left, right, least, most, size⟩ := n
  have hbw := h.rd.blk.lt
  have h2 := h.rd.c2
  have f2 := h.rd.f 2
  unfold AN.val
  by_cases hc : 61 < size
  · go_enter Try.func125, Try.ntmps125
    go_wp2_with fail
    have ow : ∀ o1 o2, ((w.alloc o1).alloc o2).ownsRow (b + 1) 119 8 v ns.length (nodesCells ns xs) := fun o1 o2 => (h.row.alloc o1).alloc o2
    have mb : ns.length + 1 ≤ maxLen := by unfold maxLen; omega
    have hsz : ∀ o1 o2, b + 1 ≤ ((w.alloc o1).alloc o2).heap.size := fun o1 o2 => by simp; omega
    go_region_law (refine step_append_owned rfl (.tmp 13) (.tmp 15) 55 rfl 119 i0 _ 8 80 Try.underlying55 hi0 hz0 hz1 hz2 rfl (by decide) (b + 1) v ns.length (nodesCells ns xs) (by simp [Act.eval, Act.put]) (by exact ow _ _) ⟨w.heap.size + 1, 0, none⟩ 1 1 [.int .i64 kind, .slice ao il ic, .bool neg, .int .i64 left, .int .i64 right, .int .i64 least, .int .i64 most, .int .i64 61] (by simp [Act.eval, Act.put]) rfl (by exact cells_new _ _ _ _ (by simp)) (by simp [Value.oneCell']) mb (by omega) (by exact hsz _ _) ?_; intro v' w1 hown hgrow; obtain ⟨g, cap, rfl⟩ := own_form hown (by omega); obtain ⟨r1, r2, r3⟩ := add_fin (n := ⟨kind, its, neg, left, right, least, most, size⟩) h hx hn _ _ g cap _ (by simp [AN.cells, capN, hc]) hown hgrow; have c2 := r1.c2; have g2 := r1.f 2)
    all_goals
      go_wp2
      go_ret
      exact ⟨ret_int (by simp only [addS]; first | done | omega), r2, r3⟩
  · have ecap : Hid ((if 61 < size then (61 : Int) else size) = size) := if_neg hc
    go_enter Try.func125, Try.ntmps125
    go_wp2_with fail
    have ow : ∀ o1 o2, ((w.alloc o1).alloc o2).ownsRow (b + 1) 119 8 v ns.length (nodesCells ns xs) := fun o1 o2 => (h.row.alloc o1).alloc o2
    have mb : ns.length + 1 ≤ maxLen := by unfold maxLen; omega
    have hsz : ∀ o1 o2, b + 1 ≤ ((w.alloc o1).alloc o2).heap.size := fun o1 o2 => by simp; omega
    go_region_law (refine step_append_owned rfl (.tmp 13) (.tmp 15) 55 rfl 119 i0 _ 8 80 Try.underlying55 hi0 hz0 hz1 hz2 rfl (by decide) (b + 1) v ns.length (nodesCells ns xs) (by simp [Act.eval, Act.put]) (by exact ow _ _) ⟨w.heap.size + 1, 0, none⟩ 1 1 [.int .i64 kind, .slice ao il ic, .bool neg, .int .i64 left, .int .i64 right, .int .i64 least, .int .i64 most, .int .i64 size] (by simp [Act.eval, Act.put]) rfl (by exact cells_new _ _ _ _ (by simp)) (by simp [Value.oneCell']) mb (by omega) (by exact hsz _ _) ?_; intro v' w1 hown hgrow; obtain ⟨g, cap, rfl⟩ := own_form hown (by omega); obtain ⟨r1, r2, r3⟩ := add_fin (n := ⟨kind, its, neg, left, right, least, most, size⟩) h hx hn _ _ g cap _ (by simp [AN.cells, capN, ecap.out]) hown hgrow; have c2 := r1.c2; have g2 := r1.f 2)
    all_goals
      go_wp2
      go_ret
      exact ⟨ret_int (by simp only [addS]; first | done | omega), r2, r3⟩

end Go.Proofs.Ytgifhgnccmnbiaa

set_option linter.unusedVariables false
set_option linter.unusedSimpArgs false
namespace Go.Proofs.Ytgifhgnccmnbiaa
open Go.RowKit Go.IntWalk

/-- What stands outside of some blocks stays: all below B but block b. -/
structure Fra (B b : Nat) (w w' : World) : Prop where
  os : w'.os = w.os
  tape : w'.tape = w.tape
  output : w'.output = w.output
  size : w.heap.size ≤ w'.heap.size
  block : ∀ k, k < B → k ≠ b → w'.heap[k]? = w.heap[k]?
theorem Fra.refl (B b : Nat) (w : World) : Fra B b w w := ⟨rfl, rfl, rfl, Nat.le_refl _, fun _ _ _ => rfl⟩
theorem Fra.trans {B b : Nat} {u v w : World} (h : Fra B b u v) (k : Fra B b v w) : Fra B b u w :=
  ⟨k.os.trans h.os, k.tape.trans h.tape, k.output.trans h.output, Nat.le_trans h.size k.size, fun i hi hb => (k.block i hi hb).trans (h.block i hi hb)⟩
theorem Fra.of_kept {B b : Nat} {w w' : World} (k : Kept [] w w') (hB : B ≤ w.heap.size) : Fra B b w w' := ⟨k.os, k.tape, k.output, k.size, fun i hi _ => k.block i (by omega) (by simp)⟩
theorem Fra.drew {B b : Nat} {w w' : World} (h : Fra B b w w') : Fra B b w w'.drew := ⟨h.os, h.tape, h.output, h.size, h.block⟩
theorem Fra.set {B b : Nat} {w w' : World} (h : Fra B b w w') {p : Addr} (hp : p.block = b ∨ B ≤ p.block) (u : Value) : Fra B b w (w'.setCell p u) :=
  ⟨h.os, h.tape, h.output, by simpa [World.setCell] using h.size, fun k hk hb => by
    rw [Below.heap_setCell _ _ _ _ (by rintro rfl; omega)]; exact h.block k hk hb⟩
theorem Fra.blk {B b k : Nat} {w w' : World} {cs : Array Value} {e : TypeId} (h : Fra B b w w') (hk : Blk w k cs e) (h1 : k < B) (h2 : k ≠ b) : Blk w' k cs e := (h.block k h1 h2).trans hk
theorem Fra.below {B b : Nat} {w w' : World} (h : Fra B b w w') {C : Nat} (hC : C ≤ B) (hb : C ≤ b) : Below C w w' := ⟨h.os, h.tape, h.output, h.size, fun k hk => h.block k (by omega) (by omega)⟩

/-- A text: its kind, how many symbols the file has, its rules, its symbols, what is told of it. -/
structure TT where
  kind : Int
  syms : Nat := 0
  rules : List RU := []
  start : List Nat := []
  whole : PT := {}
def RU.cells (x : RU) : List Value := [.int .i64 x.l, .int .i64 x.r, .int .i64 x.pt.len, .int .i64 x.pt.nl, .int .i64 x.pt.first, .int .i64 x.pt.last]
def ruCells (l : List RU) : List Value := l.flatMap RU.cells
def symCells (l : List Nat) : List Value := l.map (fun (s : Nat) => Value.int .i64 (s : Int))
def TT.cells (t : TT) (rv sv : Value) : Array Value := #[.int .i64 t.kind, .int .i64 t.syms, rv, sv, .int .i64 t.whole.len, .int .i64 t.whole.nl, .int .i64 t.whole.first, .int .i64 t.whole.last]

theorem ruCells_snoc (l : List RU) (x : RU) : ruCells (l ++ [x]) = ruCells l ++ x.cells := by simp [ruCells]
theorem symCells_snoc (l : List Nat) (x : Nat) : symCells (l ++ [x]) = symCells l ++ [.int .i64 (x : Int)] := by simp [symCells]
theorem ruCells_length : ∀ l : List RU, (ruCells l).length = l.length * 6
  | [] => rfl
  | x :: l => by
    have := ruCells_length l
    simp only [ruCells, List.flatMap_cons, List.length_append, List.length_cons, RU.cells, List.length_nil] at this ⊢
    omega
theorem ruCells_get : ∀ (l : List RU) (i j : Nat) (x : RU), l[i]? = some x → j < 6 → (ruCells l)[i * 6 + j]? = x.cells[j]?
  | [], i, j, x, h, _ => by simp at h
  | y :: l, 0, j, x, h, hj => by
    simp at h; subst h
    rw [Nat.zero_mul, Nat.zero_add]
    show (y.cells ++ ruCells l)[j]? = _
    rw [List.getElem?_append_left (by simp [RU.cells]; omega)]
  | y :: l, i + 1, j, x, h, hj => by
    simp at h
    show (y.cells ++ ruCells l)[(i + 1) * 6 + j]? = _
    rw [List.getElem?_append_right (by simp [RU.cells]; omega)]
    have e : (i + 1) * 6 + j - y.cells.length = i * 6 + j := by simp [RU.cells]; omega
    rw [e]
    exact ruCells_get l i j x h hj

/-- A text in memory: at place o of block b, whose other cells are pre and post; its lists lie at B or above. -/
structure TM (w : World) (b : Nat) (pre post : Array Value) (E B : Nat) (t : TT) (rv sv : Value) : Prop where
  blk : Blk w b (pre ++ t.cells rv sv ++ post) E
  lt : b < B
  up : B ≤ w.heap.size
  rules : w.ownsRow B 178 6 rv t.rules.length (ruCells t.rules)
  start : w.ownsRow B 3 1 sv t.start.length (symCells t.start)
  small : ∀ x, x ∈ t.rules → PTsmall x.pt
  whole : PTsmall t.whole

theorem row_stay {w w2 : World} {S : List Nat} {base e z n : Nat} {v : Value} {xs : List Value} (h : w.ownsRow base e z v n xs) (k : Kept S w w2) (hg : ∀ g, v.ownBlock = some g → ¬ g ∈ S) : w2.ownsRow base e z v n xs := by
  refine ⟨h.1, ?_⟩
  rcases h.2 with h1 | ⟨g, cap, cur, h1, h2, h3, r⟩
  · exact Or.inl h1
  · exact Or.inr ⟨g, cap, cur, h1, h2, (k.block g (Array.getElem?_eq_some_iff.1 h3).1 (hg g (by rw [h1]; rfl))).trans h3, r⟩

section
variable {w w' : World} {b E B : Nat} {pre post : Array Value} {t : TT} {rv sv : Value}
theorem TM.cell (h : TM w b pre post E B t rv sv) {o : Nat} (ho : o = pre.size) (j : Nat) (hj : j < 8) : w.cell? ⟨b, o + j, none⟩ = (t.cells rv sv)[j]? := by
  rw [h.blk.cell, ho, Array.append_assoc, Array.getElem?_append_right (by omega), Array.getElem?_append_left (by simp [TT.cells]; omega), Nat.add_sub_cancel_left]
theorem TM.kept (h : TM w b pre post E B t rv sv) (k : Kept [] w w') : TM w' b pre post E B t rv sv :=
  ⟨h.blk.kept k (by simp), h.lt, Nat.le_trans h.up k.size, row_stay (S := []) h.rules k (fun _ _ => by simp), row_stay (S := []) h.start k (fun _ _ => by simp), h.small, h.whole⟩
theorem TM.other (h : TM w b pre post E B t rv sv) {b' : Nat} (k : Kept [b'] w w') (h1 : b' < B) (h2 : b' ≠ b) : TM w' b pre post E B t rv sv :=
  ⟨h.blk.kept k (by simp; omega), h.lt, Nat.le_trans h.up k.size, row_stay (S := [b']) h.rules k (fun g hg hc => by simp at hc; have := (h.rules.lt g hg).1; omega), row_stay (S := [b']) h.start k (fun g hg hc => by simp at hc; have := (h.start.lt g hg).1; omega), h.small, h.whole⟩
end

/-- The rule of a symbol. -/
def ruleAt (rs : List RU) (s : Int) : RU := if 0 ≤ s - 256 then (rs[(s - 256).toNat]?).getD ⟨0, 0, {}⟩ else ⟨0, 0, {}⟩
def RU.val (x : RU) : Value := .agg x.cells.toArray

theorem ptr_add (g j : Nat) : (⟨g, 0, none⟩ : Addr).add j = ⟨g, j, none⟩ := by unfold Addr.add; split <;> simp_all

set_option maxHeartbeats 1000000 in
set_option maxRecDepth 100000 in
theorem rule_any {w : World} {b E B : Nat} {pre post : Array Value} {t : TT} {rv sv : Value} (h : TM w b pre post E B t rv sv) {o : Nat} (ho : o = pre.size) (s : Nat) (hs : s ≤ 100000) (hl : t.rules.length ≤ 100000) :
    Calls Try.prog 117 #[.pointer (some ⟨b, o, none⟩), .int .i64 (s : Int)] w fun e w' => e = .returned (ruleAt t.rules s).val ∧ Kept [] w w' := by
  have hk : Hid (∀ o1, Kept [] w (w.alloc o1)) := fun o1 => (Kept.refl [] w).alloc _
  have c2 : w.cell? ⟨b, o + 2, none⟩ = some rv := h.cell ho 2 (by omega)
  have hbw : b < w.heap.size := h.blk.lt
  by_cases h1 : (s : Int) - 256 < 0
  · have e : ruleAt t.rules s = ⟨0, 0, {}⟩ := by unfold ruleAt; rw [if_neg (by omega)]
    rw [e]
    unfold RU.val RU.cells
    clear h e c2
    go_enter Try.func117, Try.ntmps117
    go_wp2
    refine bodyPost_ret (v := .agg #[.int .i64 0, .int .i64 0, .int .i64 0, .int .i64 0, .int .i64 0, .int .i64 0]) (by simp [results, Try.results117, go_sem]) rfl ⟨rfl, hk.out _⟩
  · obtain ⟨k, rfl⟩ : ∃ k : Nat, s = k + 256 := ⟨s - 256, by omega⟩
    have hn : Hid (∀ x, t.rules[k]? = x → ruleAt t.rules ((k + 256 : Nat) : Int) = x.getD ⟨0, 0, {}⟩) := fun x hx => by
      unfold ruleAt; rw [if_pos (by omega), show (((k + 256 : Nat) : Int) - 256).toNat = k by omega, hx]
    clear h1
    by_cases h2 : k < t.rules.length
    · obtain ⟨x, hx⟩ : ∃ x, t.rules[k]? = some x := ⟨_, List.getElem?_eq_getElem h2⟩
      rw [hn.out _ hx]
      obtain ⟨g, cap, rfl⟩ := own_form h.rules (by omega)
      have hgw : g < w.heap.size := (h.rules.lt g rfl).2
      have hc : ∀ j, j < 6 → w.cell? ⟨g, k * 6 + j, none⟩ = x.cells[j]? := fun j hj => by
        obtain ⟨u, hu⟩ : ∃ u, x.cells[j]? = some u := ⟨_, List.getElem?_eq_getElem (by simp [RU.cells]; omega)⟩
        have := h.rules.cells (g := g) rfl (k * 6 + j) u (by rw [ruCells_get _ _ _ _ hx hj]; exact hu)
        rw [ptr_add] at this
        rw [this, hu]
      obtain ⟨l, r, ⟨p1, p2, p3, p4⟩⟩ := x
      have d0 : w.cell? ⟨g, k * 6, none⟩ = some (.int .i64 l) := hc 0 (by omega)
      have d1 : w.cell? ⟨g, k * 6 + 1, none⟩ = some (.int .i64 r) := hc 1 (by omega)
      have d2 : w.cell? ⟨g, k * 6 + 2, none⟩ = some (.int .i64 p1) := hc 2 (by omega)
      have d3 : w.cell? ⟨g, k * 6 + 3, none⟩ = some (.int .i64 p2) := hc 3 (by omega)
      have d4 : w.cell? ⟨g, k * 6 + 4, none⟩ = some (.int .i64 p3) := hc 4 (by omega)
      have d5 : w.cell? ⟨g, k * 6 + 5, none⟩ = some (.int .i64 p4) := hc 5 (by omega)
      show Calls _ _ _ _ (fun e w' => e = .returned (.agg #[.int .i64 l, .int .i64 r, .int .i64 p1, .int .i64 p2, .int .i64 p3, .int .i64 p4]) ∧ Kept [] w w')
      generalize t.rules.length = n at *
      have lt : (k : Int) < (n : Int) := by omega
      clear h hc hx hn ho
      go_enter Try.func117, Try.ntmps117
      go_wp2
      refine bodyPost_ret (v := .agg #[.int .i64 l, .int .i64 r, .int .i64 p1, .int .i64 p2, .int .i64 p3, .int .i64 p4]) (by simp [results, Try.results117, go_sem]) rfl ⟨rfl, hk.out _⟩
    · rw [hn.out none (List.getElem?_eq_none (by omega))]
      show Calls _ _ _ _ (fun e w' => e = .returned (.agg #[.int .i64 0, .int .i64 0, .int .i64 0, .int .i64 0, .int .i64 0, .int .i64 0]) ∧ Kept [] w w')
      have hv : ∃ a cap, rv = .slice a t.rules.length cap := by
        rcases h.rules.2 with ⟨h3, h4⟩ | ⟨g, cap, _, h3, _⟩
        · exact ⟨none, 0, by rw [h3, h4]⟩
        · exact ⟨_, cap, h3⟩
      obtain ⟨a, cap, rfl⟩ := hv
      generalize t.rules.length = n at *
      have lt : ¬ (k : Int) < (n : Int) := by omega
      clear h hn ho h2
      go_enter Try.func117, Try.ntmps117
      go_wp2
      refine bodyPost_ret (v := .agg #[.int .i64 0, .int .i64 0, .int .i64 0, .int .i64 0, .int .i64 0, .int .i64 0]) (by simp [results, Try.results117, go_sem]) rfl ⟨rfl, hk.out _⟩

end Go.Proofs.Ytgifhgnccmnbiaa

set_option linter.unusedVariables false
set_option linter.unusedSimpArgs false
namespace Go.Proofs.Ytgifhgnccmnbiaa
open Go.RowKit Go.IntWalk

theorem TM.part_small {w : World} {b E B : Nat} {pre post : Array Value} {t : TT} {rv sv : Value} (h : TM w b pre post E B t rv sv) (s : Nat) : PTsmall (partAt t.rules s) := by
  unfold partAt
  split
  · exact byteP_small s
  · cases hx : t.rules[s - 256]? with
    | none => exact ⟨by simp, by simp⟩
    | some x => exact h.small x (List.mem_of_getElem? hx)

theorem kept4 {w w1 : World} (k : Kept [] w w1) {g : Nat} (hg : w.heap.size ≤ g) (u0 u1 u2 u3 : Value) :
    Kept [] w ((((w1.setCell ⟨g, 0, none⟩ u0).setCell ⟨g, 1, none⟩ u1).setCell ⟨g, 2, none⟩ u2).setCell ⟨g, 3, none⟩ u3) :=
  (((k.setCell (Or.inr hg) _).setCell (Or.inr hg) _).setCell (Or.inr hg) _).setCell (Or.inr hg) _
def zero4 : Array Value := #[.int .i64 0, .int .i64 0, .int .i64 0, .int .i64 0]
theorem set4 {w : World} {g : Nat} {E : TypeId} (h : Blk w g zero4 E) (u0 u1 u2 u3 : Value) :
    Blk ((((w.setCell ⟨g, 0, none⟩ u0).setCell ⟨g, 1, none⟩ u1).setCell ⟨g, 2, none⟩ u2).setCell ⟨g, 3, none⟩ u3) g #[u0, u1, u2, u3] E :=
  (((h.set 0 u0).set 1 u1).set 2 u2).set 3 u3
theorem size_ppart : (Try.prog.info? 79).map (·.size) = some 4 := by kernel_rfl
theorem field_part (l r p1 p2 p3 p4 : Value) (w : World) : (Instr.field 178 (.agg #[l, r, p1, p2, p3, p4]) 2).run Try.prog w = .ok (.agg #[p1, p2, p3, p4]) w := by kernel_rfl
theorem results_ppart {fn : Func} {r : Tmp} (h : fn.results = #[.cell r 79]) (tmps : Array Value) (w : World) (g : Nat) (p : PT)
    (hp : tmps.getD r undef = .pointer (some ⟨g, 0, none⟩)) (hg : Blk w g p.arr 79) : (results fn tmps).run Try.prog w = .ok p.val w :=
  results_cell_row h tmps w g _ _ _ _ hp hg Try.underlying79 rfl size_ppart

set_option maxHeartbeats 1000000 in
set_option maxRecDepth 100000 in
theorem part_any {w : World} {b E B : Nat} {pre post : Array Value} {t : TT} {rv sv : Value} (h : TM w b pre post E B t rv sv) {o : Nat} (ho : o = pre.size) (s : Nat) (hs : s ≤ 100000) (hl : t.rules.length ≤ 100000) :
    Calls Try.prog 116 #[.pointer (some ⟨b, o, none⟩), .int .i64 (s : Int)] w fun e w' => e = .returned (partAt t.rules s).val ∧ Kept [] w w' := by
  have hk : Kept [] w (w.alloc (.cells zero4 79)) := (Kept.refl [] w).alloc _
  have hfin : Hid (∀ w1, Kept [] (w.alloc (.cells zero4 79)) w1 → Blk w1 w.heap.size zero4 79 ∧ (∀ u0 u1 u2 u3, Blk ((((w1.setCell ⟨w.heap.size, 0, none⟩ u0).setCell ⟨w.heap.size, 1, none⟩ u1).setCell ⟨w.heap.size, 2, none⟩ u2).setCell ⟨w.heap.size, 3, none⟩ u3) w.heap.size #[u0, u1, u2, u3] 79) ∧ ∀ u0 u1 u2 u3, Kept [] w ((((w1.setCell ⟨w.heap.size, 0, none⟩ u0).setCell ⟨w.heap.size, 1, none⟩ u1).setCell ⟨w.heap.size, 2, none⟩ u2).setCell ⟨w.heap.size, 3, none⟩ u3)) := fun w1 k1 =>
    ⟨(Blk.new w _ _).kept k1 (by simp), fun u0 u1 u2 u3 => set4 ((Blk.new w _ _).kept k1 (by simp)) u0 u1 u2 u3, fun u0 u1 u2 u3 => kept4 (hk.trans k1) (Nat.le_refl _) u0 u1 u2 u3⟩
  by_cases h1 : (s : Int) < 256
  · have e : partAt t.rules s = byteP s := by unfold partAt; rw [if_pos (by omega)]
    rw [e]
    have hb : Hid (∀ w, Calls _ _ _ w _) := fun w => partOfByte_any s w
    clear e h ho hk
    generalize byteP s = p at *
    obtain ⟨p1, p2, p3, p4⟩ := p
    unfold PT.val PT.arr at hb ⊢
    unfold zero4 at hfin
    simp only [] at hb ⊢
    go_enter Try.func116, Try.ntmps116
    go_wp2_with fail
    refine (hb.out _).mono ?_
    rintro e w1 ⟨rfl, k1⟩
    obtain ⟨hb1, hS, hK⟩ := hfin.out _ k1
    have hS : Hid (∀ u0 u1 u2 u3, _) := hS
    have hK : Hid (∀ u0 u1 u2 u3, _) := hK
    have c0 : w1.cell? ⟨w.heap.size, 0, none⟩ = some (.int .i64 0) := hb1.cell 0
    have c1 : w1.cell? ⟨w.heap.size, 1, none⟩ = some (.int .i64 0) := hb1.cell 1
    have c2 : w1.cell? ⟨w.heap.size, 2, none⟩ = some (.int .i64 0) := hb1.cell 2
    have c3 : w1.cell? ⟨w.heap.size, 3, none⟩ = some (.int .i64 0) := hb1.cell 3
    have f0 : w1.frozen? ⟨w.heap.size, 0, none⟩ = false := hb1.frozen 0
    have f1 : w1.frozen? ⟨w.heap.size, 1, none⟩ = false := hb1.frozen 1
    have f2 : w1.frozen? ⟨w.heap.size, 2, none⟩ = false := hb1.frozen 2
    have f3 : w1.frozen? ⟨w.heap.size, 3, none⟩ = false := hb1.frozen 3
    clear hb1 k1 hb hfin
    go_wp2
    exact bodyPost_ret (v := .agg #[.int .i64 p1, .int .i64 p2, .int .i64 p3, .int .i64 p4]) (results_ppart Try.results116 _ _ w.heap.size ⟨p1, p2, p3, p4⟩ rfl (hS.out _ _ _ _)) rfl ⟨rfl, hK.out _ _ _ _⟩
  · have e : (ruleAt t.rules s).pt = partAt t.rules s := by
      unfold ruleAt partAt
      rw [if_pos (by omega), if_neg (by omega), show ((s : Int) - 256).toNat = s - 256 by omega]
      cases t.rules[s - 256]? <;> rfl
    have hr : Hid (Calls _ _ _ (w.alloc (.cells zero4 79)) _) := rule_any (h.kept hk) ho s hs hl
    rw [← e]
    clear e h hk ho
    generalize ruleAt t.rules (s : Int) = x at *
    obtain ⟨l, r, ⟨p1, p2, p3, p4⟩⟩ := x
    unfold RU.val RU.cells at hr
    unfold PT.val PT.arr
    unfold zero4 at hfin hr
    simp only [] at hr ⊢
    have hfp := field_part
    go_enter Try.func116, Try.ntmps116
    go_wp2_with fail
    refine hr.out.mono ?_
    rintro e w1 ⟨rfl, k1⟩
    obtain ⟨hb1, hS, hK⟩ := hfin.out _ k1
    have hS : Hid (∀ u0 u1 u2 u3, _) := hS
    have hK : Hid (∀ u0 u1 u2 u3, _) := hK
    have c0 : w1.cell? ⟨w.heap.size, 0, none⟩ = some (.int .i64 0) := hb1.cell 0
    have c1 : w1.cell? ⟨w.heap.size, 1, none⟩ = some (.int .i64 0) := hb1.cell 1
    have c2 : w1.cell? ⟨w.heap.size, 2, none⟩ = some (.int .i64 0) := hb1.cell 2
    have c3 : w1.cell? ⟨w.heap.size, 3, none⟩ = some (.int .i64 0) := hb1.cell 3
    have f0 : w1.frozen? ⟨w.heap.size, 0, none⟩ = false := hb1.frozen 0
    have f1 : w1.frozen? ⟨w.heap.size, 1, none⟩ = false := hb1.frozen 1
    have f2 : w1.frozen? ⟨w.heap.size, 2, none⟩ = false := hb1.frozen 2
    have f3 : w1.frozen? ⟨w.heap.size, 3, none⟩ = false := hb1.frozen 3
    clear hb1 k1 hr hfin
    go_wp2
    exact bodyPost_ret (v := .agg #[.int .i64 p1, .int .i64 p2, .int .i64 p3, .int .i64 p4]) (results_ppart Try.results116 _ _ w.heap.size ⟨p1, p2, p3, p4⟩ rfl (hS.out _ _ _ _)) rfl ⟨rfl, hK.out _ _ _ _⟩

section
variable {w w0 w1 : World} {b E B : Nat} {pre post : Array Value} {t : TT} {rv sv : Value}
theorem TM.grow_rules (h : TM w0 b pre post E B t rv sv) (g : w0.grownBy w1 rv.ownBlock) : Blk w1 b (pre ++ t.cells rv sv ++ post) E ∧ w1.ownsRow B 3 1 sv t.start.length (symCells t.start) ∧ Fra B b w0 w1 := by
  have hlow : ∀ k, k < B → some k ≠ rv.ownBlock := fun k hk hc => by have := (h.rules.lt k hc.symm).1; omega
  refine ⟨(g.block b h.blk.lt (hlow b h.lt)).trans h.blk, World.ownsRow.kept h.start g (own_ne h.start h.rules (by decide)), ⟨g.os, g.tape, g.output, g.size, fun k hk _ => g.block k (Nat.lt_of_lt_of_le hk h.up) (hlow k hk)⟩⟩
theorem TM.grow_start (h : TM w0 b pre post E B t rv sv) (g : w0.grownBy w1 sv.ownBlock) : Blk w1 b (pre ++ t.cells rv sv ++ post) E ∧ w1.ownsRow B 178 6 rv t.rules.length (ruCells t.rules) ∧ Fra B b w0 w1 := by
  have hlow : ∀ k, k < B → some k ≠ sv.ownBlock := fun k hk hc => by have := (h.start.lt k hc.symm).1; omega
  refine ⟨(g.block b h.blk.lt (hlow b h.lt)).trans h.blk, World.ownsRow.kept h.rules g (own_ne h.rules h.start (by decide)), ⟨g.os, g.tape, g.output, g.size, fun k hk _ => g.block k (Nat.lt_of_lt_of_le hk h.up) (hlow k hk)⟩⟩
theorem row_set {e z n : Nat} {v : Value} {xs : List Value} (h : w.ownsRow B e z v n xs) (hb : b < B) (j : Nat) (u : Value) : (w.setCell ⟨b, j, none⟩ u).ownsRow B e z v n xs :=
  row_stay (S := [b]) h ((Kept.refl [b] w).setCell (Or.inl (by simp)) u) (fun g hg hc => by simp at hc; have := (h.lt g hg).1; omega)
theorem text_set {cs cs' : Array Value} (hb : Blk w b (pre ++ cs ++ post) E) {o j : Nat} (ho : o = pre.size) (hj : j < cs.size) (u : Value) (e : cs.setIfInBounds j u = cs') : Blk (w.setCell ⟨b, o + j, none⟩ u) b (pre ++ cs' ++ post) E := by
  have h := hb.set (o + j) u
  rwa [show (pre ++ cs ++ post).setIfInBounds (o + j) u = pre ++ cs' ++ post by
    subst ho
    rw [← e]
    apply Array.ext'
    simp only [Array.toList_setIfInBounds, Array.toList_append, List.append_assoc]
    rw [List.set_append, if_neg (by simp), List.set_append, if_pos (by simp; omega)]
    simp] at h

end

end Go.Proofs.Ytgifhgnccmnbiaa

set_option linter.unusedVariables false
set_option linter.unusedSimpArgs false
namespace Go.Proofs.Ytgifhgnccmnbiaa
open Go.RowKit Go.IntWalk

theorem infoRule : (Try.prog.info? 178).map (fun i => (i.zero, i.size, i.bytes)) =
    some (some (.agg #[.int .i64 0, .int .i64 0, .int .i64 0, .int .i64 0, .int .i64 0, .int .i64 0]), 6, 48) := by kernel_rfl
theorem infoInt : (Try.prog.info? 3).map (fun i => (i.zero, i.size, i.bytes)) = some (some (.int .i64 0), 1, 8) := by kernel_rfl

section
variable {w0 w1 : World} {b E B : Nat} {pre post : Array Value} {t : TT} {rv sv : Value}
/-- What is left behind the append to the rules and the store. -/
theorem rule_fin (h : TM w0 b pre post E B t rv sv) (g : w0.grownBy w1 rv.ownBlock) {v' : Value} {x : RU} (hx : PTsmall x.pt) (hown : w1.ownsRow B 178 6 v' (t.rules.length + 1) (ruCells t.rules ++ x.cells)) {o : Nat} (ho : o = pre.size) :
    w1.cell? ⟨b, o + 2, none⟩ = some rv ∧ w1.frozen? ⟨b, o + 2, none⟩ = false ∧ b < w1.heap.size ∧
    TM (w1.setCell ⟨b, o + 2, none⟩ v') b pre post E B { t with rules := t.rules ++ [x] } v' sv ∧ Fra B b w0 (w1.setCell ⟨b, o + 2, none⟩ v') := by
  obtain ⟨hb, hs, hf⟩ := h.grow_rules g
  have hc : w1.cell? ⟨b, o + 2, none⟩ = some rv := by
    rw [hb.cell, ho, Array.append_assoc, Array.getElem?_append_right (by omega), Array.getElem?_append_left (by simp [TT.cells]), Nat.add_sub_cancel_left]; rfl
  refine ⟨hc, hb.frozen _, hb.lt, ⟨?_, h.lt, ?_, ?_, ?_, ?_, h.whole⟩, ?_⟩
  · exact text_set (cs := t.cells rv sv) (cs' := TT.cells { t with rules := t.rules ++ [x] } v' sv) hb ho (by simp [TT.cells]) v' rfl
  · have := hf.size; have := h.up; simp [World.setCell]; omega
  · rw [show ({ t with rules := t.rules ++ [x] } : TT).rules = t.rules ++ [x] from rfl, ruCells_snoc, List.length_append]
    exact row_set hown h.lt _ _
  · exact row_set hs h.lt _ _
  · intro y hy
    rcases List.mem_append.1 hy with hy | hy
    · exact h.small y hy
    · simp at hy; subst hy; exact hx
  · exact hf.set (Or.inl rfl) _
end

set_option maxHeartbeats 2000000 in
set_option maxRecDepth 100000 in
theorem addRule_any {w : World} {b E B : Nat} {pre post : Array Value} {t : TT} {rv sv : Value} (h : TM w b pre post E B t rv sv) {o : Nat} (ho : o = pre.size) (l r : Nat) (hl : l ≤ 100000) (hr : r ≤ 100000) (hlen : t.rules.length ≤ 90000) :
    Calls Try.prog 106 #[.pointer (some ⟨b, o, none⟩), .int .i64 (l : Int), .int .i64 (r : Int)] w fun e w' => e = .returned (.tuple #[]) ∧ Fra B b w w' ∧ ∃ v', TM w' b pre post E B { t with rules := t.rules ++ [ruleP t.rules l r] } v' sv := by
  obtain ⟨i0, hi0, hz0, hz1, hz2⟩ := info_parts infoRule
  have h1 : Hid (∀ w', Kept [] w w' → Calls _ _ _ w' _) := fun w' k => part_any (h.kept k) ho l hl (by omega)
  have h2 : Hid (∀ w', Kept [] w w' → Calls _ _ _ w' _) := fun w' k => part_any (h.kept k) ho r hr (by omega)
  have hj : Hid (∀ w, Calls _ _ _ w _) := fun w => pjoin_any (partAt t.rules l) (partAt t.rules r) (h.part_small l) (h.part_small r) w
  have hsm : PTsmall (ruleP t.rules l r).pt := joinP_small (h.part_small l) (h.part_small r)
  obtain ⟨x, hx⟩ : ∃ x, x = ruleP t.rules l r := ⟨_, rfl⟩
  have hp : joinP (partAt t.rules l) (partAt t.rules r) = x.pt := by rw [hx]; rfl
  have hxl : x.l = l := by rw [hx]; rfl
  have hxr : x.r = r := by rw [hx]; rfl
  rw [← hx] at hsm ⊢
  rw [hp] at hj
  clear hp hx
  obtain ⟨l', r', ⟨p1, p2, p3, p4⟩⟩ := x
  simp only [] at hxl hxr
  subst hxl hxr
  generalize partAt t.rules l' = pa at *
  generalize partAt t.rules r' = pb at *
  obtain ⟨a1, a2, a3, a4⟩ := pa
  obtain ⟨b1, b2, b3, b4⟩ := pb
  unfold PT.val PT.arr at h1 h2 hj
  simp only [] at h1 h2 hj
  have k0 : Hid (Kept [] w w) := Kept.refl _ _
  have hoH : Hid (o = pre.size) := ho
  clear ho
  go_enter Try.func106, Try.ntmps106
  go_wp2_with fail
  refine (h1.out _ k0.out).mono ?_
  rintro e w1 ⟨rfl, k1⟩
  have k1H : Hid (∀ o, Kept [] w (w1.alloc o)) := fun o => (k0.out.trans k1).alloc o
  clear k1
  go_wp2_with fail
  refine (h2.out _ (k1H.out _)).mono ?_
  rintro e w2 ⟨rfl, k2⟩
  have hA : Blk w2 w1.heap.size #[.int .i64 a1, .int .i64 a2, .int .i64 a3, .int .i64 a4] 79 := (Blk.new w1 _ _).kept k2 (by simp)
  have d0 : w2.cell? ⟨w1.heap.size, 0, none⟩ = some (.int .i64 a1) := hA.cell 0
  have d1 : w2.cell? ⟨w1.heap.size, 1, none⟩ = some (.int .i64 a2) := hA.cell 1
  have d2 : w2.cell? ⟨w1.heap.size, 2, none⟩ = some (.int .i64 a3) := hA.cell 2
  have d3 : w2.cell? ⟨w1.heap.size, 3, none⟩ = some (.int .i64 a4) := hA.cell 3
  have hA1 : w1.heap.size < w2.heap.size := hA.lt
  have k2H : Hid (∀ o, Kept [] w (w2.alloc o)) := fun o => ((k1H.out _).trans k2).alloc o
  clear k2 hA k1H h1 h2
  go_wp2_with fail
  refine (hj.out _).mono ?_
  rintro e w3 ⟨rfl, k3⟩
  have k3' := (k2H.out _).trans k3
  have hT := h.kept k3'
  have c2 : w3.cell? ⟨b, o + 2, none⟩ = some rv := hT.cell hoH.out 2 (by omega)
  have hbw : b < w3.heap.size := hT.blk.lt
  have hbup : b + 1 ≤ w3.heap.size := hbw
  have k3H : Hid (∀ o1 o2, Kept [] w ((w3.alloc o1).alloc o2).drew) := fun o1 o2 => ((k3'.alloc o1).alloc o2).drew
  clear k3 k3' k2H hj d0 d1 d2 d3 hT
  go_wp2_with fail
  have own : ∀ o1 o2, ((w3.alloc o1).alloc o2).ownsRow B 178 6 rv t.rules.length (ruCells t.rules) := fun o1 o2 => (h.kept (k3H.out o1 o2)).rules
  have up : ∀ o1 o2, B ≤ ((w3.alloc o1).alloc o2).heap.size := fun o1 o2 => (h.kept (k3H.out o1 o2)).up
  have mb : t.rules.length + 1 ≤ maxLen := by unfold maxLen; omega
  go_region_law (refine step_append_owned rfl (.tmp 25) (.tmp 27) 76 rfl 178 i0 _ 6 48 Try.underlying76 hi0 hz0 hz1 hz2 rfl (by decide) B rv t.rules.length (ruCells t.rules) (by simp [Act.eval, Act.put]) (by exact own _ _) ⟨w3.heap.size + 1, 0, none⟩ 1 1 [.int .i64 l', .int .i64 r', .int .i64 p1, .int .i64 p2, .int .i64 p3, .int .i64 p4] (by simp [Act.eval, Act.put]) rfl (by exact cells_new _ _ _ _ (by simp)) (by simp [Value.oneCell']) mb (by omega) (by exact up _ _) ?_; intro v' w4 hown hgrow; obtain ⟨g, cap, rfl⟩ := own_form hown (by omega); obtain ⟨e2, f2, b2, hT2, hF2⟩ := rule_fin (x := ⟨l', r', ⟨p1, p2, p3, p4⟩⟩) (h.kept (k3H.out _ _)) hgrow hsm hown hoH.out)
  all_goals
    have hT3 : Hid (TM _ _ _ _ _ _ _ _ _) := hT2
    have hF3 : Hid (Fra B b w _) := (Fra.of_kept (k3H.out _ _) h.up).trans hF2
    clear hT2 hF2 hown hgrow own up
    go_wp2
    go_end0
    exact ⟨rfl, hF3.out, _, hT3.out⟩

section
variable {w0 w1 : World} {b E B : Nat} {pre post : Array Value} {t : TT} {rv sv : Value}
/-- What is left behind the append to the symbols and the store. -/
theorem start_fin (h : TM w0 b pre post E B t rv sv) (g : w0.grownBy w1 sv.ownBlock) {v' : Value} {x : Nat} (hown : w1.ownsRow B 3 1 v' (t.start.length + 1) (symCells t.start ++ [.int .i64 (x : Int)])) {o : Nat} (ho : o = pre.size) :
    w1.cell? ⟨b, o + 3, none⟩ = some sv ∧ w1.frozen? ⟨b, o + 3, none⟩ = false ∧ b < w1.heap.size ∧ (∀ j, j < 8 → w1.cell? ⟨b, o + j, none⟩ = (t.cells rv sv)[j]?) ∧
    TM (w1.setCell ⟨b, o + 3, none⟩ v') b pre post E B { t with start := t.start ++ [x] } rv v' ∧ Fra B b w0 (w1.setCell ⟨b, o + 3, none⟩ v') := by
  obtain ⟨hb, hs, hf⟩ := h.grow_start g
  have hc : w1.cell? ⟨b, o + 3, none⟩ = some sv := by
    rw [hb.cell, ho, Array.append_assoc, Array.getElem?_append_right (by omega), Array.getElem?_append_left (by simp [TT.cells]), Nat.add_sub_cancel_left]; rfl
  refine ⟨hc, hb.frozen _, hb.lt, fun j hj => ?_, ⟨?_, h.lt, ?_, ?_, ?_, h.small, h.whole⟩, ?_⟩
  · rw [hb.cell, ho, Array.append_assoc, Array.getElem?_append_right (by omega), Array.getElem?_append_left (by simp [TT.cells]; omega), Nat.add_sub_cancel_left]
  · exact text_set (cs := t.cells rv sv) (cs' := TT.cells { t with start := t.start ++ [x] } rv v') hb ho (by simp [TT.cells]) v' rfl
  · have := hf.size; have := h.up; simp [World.setCell]; omega
  · exact row_set hs h.lt _ _
  · rw [show ({ t with start := t.start ++ [x] } : TT).start = t.start ++ [x] from rfl, symCells_snoc, List.length_append]
    exact row_set hown h.lt _ _
  · exact hf.set (Or.inl rfl) _
/-- The store of what is told of the whole. -/
theorem whole_fin (h : TM w0 b pre post E B t rv sv) {p : PT} (hp : PTsmall p) {o : Nat} (ho : o = pre.size) :
    TM ((((w0.setCell ⟨b, o + 4, none⟩ (.int .i64 p.len)).setCell ⟨b, o + 5, none⟩ (.int .i64 p.nl)).setCell ⟨b, o + 6, none⟩ (.int .i64 p.first)).setCell ⟨b, o + 7, none⟩ (.int .i64 p.last)) b pre post E B { t with whole := p } rv sv ∧
    Fra B b w0 ((((w0.setCell ⟨b, o + 4, none⟩ (.int .i64 p.len)).setCell ⟨b, o + 5, none⟩ (.int .i64 p.nl)).setCell ⟨b, o + 6, none⟩ (.int .i64 p.first)).setCell ⟨b, o + 7, none⟩ (.int .i64 p.last)) := by
  refine ⟨⟨?_, h.lt, by have := h.up; simp [World.setCell]; omega, ?_, ?_, h.small, hp⟩, ?_⟩
  · have h4 := text_set (cs := t.cells rv sv) (cs' := #[.int .i64 t.kind, .int .i64 t.syms, rv, sv, .int .i64 p.len, .int .i64 t.whole.nl, .int .i64 t.whole.first, .int .i64 t.whole.last]) h.blk ho (j := 4) (by simp [TT.cells]) (.int .i64 p.len) rfl
    have h5 := text_set (cs' := #[.int .i64 t.kind, .int .i64 t.syms, rv, sv, .int .i64 p.len, .int .i64 p.nl, .int .i64 t.whole.first, .int .i64 t.whole.last]) h4 ho (j := 5) (by simp) (.int .i64 p.nl) rfl
    have h6 := text_set (cs' := #[.int .i64 t.kind, .int .i64 t.syms, rv, sv, .int .i64 p.len, .int .i64 p.nl, .int .i64 p.first, .int .i64 t.whole.last]) h5 ho (j := 6) (by simp) (.int .i64 p.first) rfl
    exact text_set (cs' := TT.cells { t with whole := p } rv sv) h6 ho (j := 7) (by simp) (.int .i64 p.last) rfl
  · exact row_set (row_set (row_set (row_set h.rules h.lt _ _) h.lt _ _) h.lt _ _) h.lt _ _
  · exact row_set (row_set (row_set (row_set h.start h.lt _ _) h.lt _ _) h.lt _ _) h.lt _ _
  · exact ((((Fra.refl B b w0).set (Or.inl rfl) _).set (Or.inl rfl) _).set (Or.inl rfl) _).set (Or.inl rfl) _
end

set_option maxHeartbeats 2000000 in
set_option maxRecDepth 100000 in
theorem addToStart_any {w : World} {b E B : Nat} {pre post : Array Value} {t : TT} {rv sv : Value} (h : TM w b pre post E B t rv sv) {o : Nat} (ho : o = pre.size) (s : Nat) (hs : s ≤ 100000) (hlen : t.rules.length ≤ 90000) (hst : t.start.length ≤ 90000) :
    Calls Try.prog 107 #[.pointer (some ⟨b, o, none⟩), .int .i64 (s : Int)] w fun e w' => e = .returned (.tuple #[]) ∧ Fra B b w w' ∧ ∃ v', TM w' b pre post E B { t with start := t.start ++ [s], whole := joinP t.whole (partAt t.rules s) } rv v' := by
  obtain ⟨i0, hi0, hz0, hz1, hz2⟩ := info_parts infoInt
  have h1 : Hid (Calls _ _ _ w _) := part_any h ho s hs (by omega)
  have hj : Hid (∀ w, Calls _ _ _ w _) := fun w => pjoin_any t.whole (partAt t.rules s) h.whole (h.part_small s) w
  have hsm : PTsmall (joinP t.whole (partAt t.rules s)) := joinP_small h.whole (h.part_small s)
  generalize joinP t.whole (partAt t.rules s) = x at *
  obtain ⟨p1, p2, p3, p4⟩ := x
  generalize partAt t.rules s = pa at *
  obtain ⟨a1, a2, a3, a4⟩ := pa
  unfold PT.val PT.arr at h1 hj
  simp only [] at h1 hj
  have hoH : Hid (o = pre.size) := ho
  clear ho
  go_enter Try.func107, Try.ntmps107
  go_wp2_with fail
  refine h1.out.mono ?_
  rintro e w1 ⟨rfl, k1⟩
  have hT := h.kept k1
  have c3 : w1.cell? ⟨b, o + 3, none⟩ = some sv := hT.cell hoH.out 3 (by omega)
  have hbw : b < w1.heap.size := hT.blk.lt
  have own : ∀ o1 o2, ((w1.alloc o1).alloc o2).ownsRow B 3 1 sv t.start.length (symCells t.start) := fun o1 o2 => (h.kept ((k1.alloc o1).alloc o2)).start
  have up : ∀ o1 o2, B ≤ ((w1.alloc o1).alloc o2).heap.size := fun o1 o2 => (h.kept ((k1.alloc o1).alloc o2)).up
  have mb : t.start.length + 1 ≤ maxLen := by unfold maxLen; omega
  have k1H : Hid (∀ o1 o2, Kept [] w ((w1.alloc o1).alloc o2)) := fun o1 o2 => (k1.alloc o1).alloc o2
  have hw1 : w.heap.size ≤ w1.heap.size := k1.size
  clear hT k1 h1
  go_wp2_with (at_builtin; refine wpList_append_own _ rfl (.tmp 12) (.tmp 14) 77 rfl B 3 i0 _ 1 8 Try.underlying77 hi0 hz0 hz1 hz2 rfl (by decide) sv t.start.length (symCells t.start) rfl ?own ⟨w1.heap.size + 1, 0, none⟩ 1 1 [.int .i64 (s : Int)] rfl rfl ?c1 ?c2 ?b1 ?b2 ?b3 ?k)
  case own => exact own _ _
  case c1 => exact cells_new _ _ _ _ (by simp)
  case c2 => simp [Value.oneCell']
  case b1 => exact mb
  case b2 => omega
  case b3 => exact up _ _
  case k =>
    intro v' w3 hown hgrow _
    obtain ⟨g, cap, rfl⟩ := own_form hown (by omega)
    have hT1 := h.kept (k1H.out (.cells #[.int .i64 a1, .int .i64 a2, .int .i64 a3, .int .i64 a4] 79) (.cells #[.int .i64 s] 3))
    obtain ⟨e3, f3, b3, hcs, hT2, hF2⟩ := start_fin (x := s) hT1 hgrow hown hoH.out
    have hA : Blk w3 w1.heap.size #[.int .i64 a1, .int .i64 a2, .int .i64 a3, .int .i64 a4] 79 :=
      (hgrow.block _ (by simp; omega) (fun hc => by have := (h.start.lt _ hc.symm).2; omega)).trans ((Blk.new w1 _ _).alloc _)
    have hF2H : Hid (Fra B b w _) := (Fra.of_kept (k1H.out _ _) h.up).trans hF2
    have hT2H : Hid (TM _ _ _ _ _ _ _ _ _) := hT2
    have hb3 : w1.heap.size < w3.heap.size := hA.lt
    have d0 : w3.cell? ⟨w1.heap.size, 0, none⟩ = some (.int .i64 a1) := hA.cell 0
    have d1 : w3.cell? ⟨w1.heap.size, 1, none⟩ = some (.int .i64 a2) := hA.cell 1
    have d2 : w3.cell? ⟨w1.heap.size, 2, none⟩ = some (.int .i64 a3) := hA.cell 2
    have d3 : w3.cell? ⟨w1.heap.size, 3, none⟩ = some (.int .i64 a4) := hA.cell 3
    have g4 : w3.cell? ⟨b, o + 4, none⟩ = some (.int .i64 t.whole.len) := hcs 4 (by omega)
    have g5 : w3.cell? ⟨b, o + 4 + 1, none⟩ = some (.int .i64 t.whole.nl) := hcs 5 (by omega)
    have g6 : w3.cell? ⟨b, o + 4 + 2, none⟩ = some (.int .i64 t.whole.first) := hcs 6 (by omega)
    have g7 : w3.cell? ⟨b, o + 4 + 3, none⟩ = some (.int .i64 t.whole.last) := hcs 7 (by omega)
    have hne : b ≠ w1.heap.size := by omega
    clear hT1 hgrow hown hcs hA hT2 hF2 own up k1H c3
    go_wp2_with fail
    go_region_law (go_simp; go_at_call 140; refine (hj.out _).mono ?_; rintro _ w5 ⟨rfl, k5⟩; have hT5 := (hT2H.out.kept ((Kept.refl [] _).drew)).kept k5; have r4 : w5.cell? ⟨b, o + 4, none⟩ = some (.int .i64 t.whole.len) := hT5.cell hoH.out 4 (by omega); have r5 : w5.cell? ⟨b, o + 4 + 1, none⟩ = some (.int .i64 t.whole.nl) := hT5.cell hoH.out 5 (by omega); have r6 : w5.cell? ⟨b, o + 4 + 2, none⟩ = some (.int .i64 t.whole.first) := hT5.cell hoH.out 6 (by omega); have r7 : w5.cell? ⟨b, o + 4 + 3, none⟩ = some (.int .i64 t.whole.last) := hT5.cell hoH.out 7 (by omega); have q4 : w5.frozen? ⟨b, o + 4, none⟩ = false := hT5.blk.frozen _; have q5 : w5.frozen? ⟨b, o + 4 + 1, none⟩ = false := hT5.blk.frozen _; have q6 : w5.frozen? ⟨b, o + 4 + 2, none⟩ = false := hT5.blk.frozen _; have q7 : w5.frozen? ⟨b, o + 4 + 3, none⟩ = false := hT5.blk.frozen _; have q8 := hT5.blk.lt)
    all_goals
      obtain ⟨hT6, hF6⟩ := whole_fin hT5 hsm hoH.out
      have hT7 : Hid (TM _ _ _ _ _ _ _ _ _) := hT6
      have hF7 : Hid (Fra B b w _) := (hF2H.out.trans ((Fra.of_kept ((Kept.refl [] _).drew.trans k5) hT2H.out.up).trans hF6))
      clear hT6 hF6 hT5
      go_wp2
      go_end0
      exact ⟨rfl, hF7.out, _, hT7.out⟩

end Go.Proofs.Ytgifhgnccmnbiaa
