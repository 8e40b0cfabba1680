/- The reader of patterns: the reader's list of nodes in memory; a node's size; one more node. -/
import Derived.Test.YtgifhgnccmnbiaaRd3
import Derived.Test.YtgifhgnccmnbiaaNodesPure
import Derived.Deep.RegionLaw
set_option linter.unusedVariables false
set_option linter.unusedSimpArgs false
namespace Go.Proofs.Ytgifhgnccmnbiaa
open Go.RowKit Go.IntWalk

/-- append TO A ROW OF THE CALL's OWN (nil, with room or without), as one step of a region that draws. -/
theorem step_append_owned {P : Program} {ops : Array Oper} {o : Oper} {a : Act} {w : World} {K : Act → World → Prop} {Q : Exit → Act → World → Prop} {E : Prop}
    (hg : o.guard = none) (s x : Operand) (t : TypeId) (hop : o.op = Op.call { callee := Callee.builtin Builtin.append, args := #[s, x], argTypes := #[t, t] })
    (e : TypeId) (i : TypeInfo) (z : Value) (size bytes : Nat) (h1 : P.underlying t = some (.slice e)) (h2 : P.info? e = some i) (h3 : i.zero = some z) (h4 : i.size = size) (h5 : i.bytes = bytes) (h6 : z.cells.size = size) (h7 : 0 < size)
    (base : Nat) (v : Value) (n : Nat) (xs : List Value) (hs : a.eval s = v) (hown : w.ownsRow base e size v n xs)
    (ad : Addr) (m c : Nat) (news : List Value) (hx : a.eval x = .slice (some ad) m c) (hn : news.length = m * size) (hc : ∀ j u, news[j]? = some u → w.cell? (ad.add j) = some u) (h1c : ∀ u ∈ news, u.oneCell' = true)
    (b1 : n + m ≤ maxLen) (b2 : (n + m) * bytes ≤ 140737488355328) (hbase : base ≤ w.heap.size)
    (hK : ∀ v' w', w'.ownsRow base e size v' (n + m) (xs ++ news) → w.grownBy w' v.ownBlock → K (a.put o.dst v') w') :
    if Region.wanted o (yielded ops a.tmps) = true then Oper.wp P o a w K Q else E := by
  have hw : Region.wanted o (yielded ops a.tmps) = true := by simp [Region.wanted, hg]
  rw [if_pos hw]
  obtain ⟨v', w', hrun, r1, r2, _⟩ := run_append_own (P := P) w base t o.type e i z size bytes h1 h2 h3 h4 h5 h6 h7 v n xs hown ad m c news hn hc h1c b1 b2 hbase
  unfold Oper.wp
  simp [execOp, hop, resolve, invoke, builtin, hs, hx, hrun, Result.andThen]
  exact hK v' w' r1 r2

/-- A slice as it lies in a cell: address, length, room. -/
abbrev IV := Option Addr × Nat × Nat
def ivV (x : IV) : Value := .slice x.1 x.2.1 x.2.2
def AN.cells (n : AN) (x : IV) : List Value :=
  [.int .i64 n.kind, .slice x.1 x.2.1 x.2.2, .bool n.neg, .int .i64 n.left, .int .i64 n.right, .int .i64 n.least, .int .i64 n.most, .int .i64 n.size]
def nodesCells : List AN → List IV → List Value
  | n :: ns, x :: xs => n.cells x ++ nodesCells ns xs
  | _, _ => []
def itemCells : List (Int × Int) → List Value
  | [] => []
  | x :: r => .int .i64 x.1 :: .int .i64 x.2 :: itemCells r

theorem nodesCells_length : ∀ (ns : List AN) (xs : List IV), xs.length = ns.length → (nodesCells ns xs).length = ns.length * 8
  | [], _, _ => by simp [nodesCells]
  | n :: ns, x :: xs, h => by simp [nodesCells, AN.cells, nodesCells_length ns xs (by simpa using h)]; omega
  | n :: ns, [], h => by simp at h
theorem nodesCells_snoc : ∀ (ns : List AN) (xs : List IV) (n : AN) (x : IV), xs.length = ns.length → nodesCells (ns ++ [n]) (xs ++ [x]) = nodesCells ns xs ++ n.cells x
  | [], [], n, x, _ => by simp [nodesCells]
  | [], _ :: _, n, x, h => by simp at h
  | m :: ns, y :: xs, n, x, h => by simp [nodesCells, nodesCells_snoc ns xs n x (by simpa using h)]
  | m :: ns, [], n, x, h => by simp at h
theorem nodesCells_get : ∀ (ns : List AN) (xs : List IV) (i j : Nat) (n : AN) (x : IV), ns[i]? = some n → xs[i]? = some x → j < 8 → (nodesCells ns xs)[i * 8 + j]? = (n.cells x)[j]?
  | [], _, i, j, n, x, h, _, _ => by simp at h
  | m :: ns, [], i, j, n, x, _, h, _ => by simp at h
  | m :: ns, y :: xs, 0, j, n, x, h, h', hj => by
    simp at h h'; subst h h'
    rw [nodesCells, Nat.zero_mul, Nat.zero_add, List.getElem?_append_left (by simp [AN.cells]; omega)]
  | m :: ns, y :: xs, i + 1, j, n, x, h, h', hj => by
    simp at h h'
    rw [nodesCells, List.getElem?_append_right (by simp [AN.cells]; omega)]
    have e : (i + 1) * 8 + j - (m.cells y).length = i * 8 + j := by simp [AN.cells]; omega
    rw [e]
    exact nodesCells_get ns xs i j n x h h' hj
theorem itemCells_length : ∀ l : List (Int × Int), (itemCells l).length = l.length * 2
  | [] => rfl
  | x :: r => by simp [itemCells, itemCells_length r]; omega
theorem itemCells_snoc : ∀ (l : List (Int × Int)) (x : Int × Int), itemCells (l ++ [x]) = itemCells l ++ [.int .i64 x.1, .int .i64 x.2]
  | [], x => rfl
  | y :: r, x => by simp [itemCells, itemCells_snoc r x]

/-- A node's items, in a row of their own. -/
def ItemsOk (w : World) (base : Nat) (x : IV) (its : List (Int × Int)) : Prop := w.ownsRow base 208 2 (ivV x) its.length (itemCells its)

/-- The reader with its nodes. -/
structure NV (w : World) (b : Nat) (t : ByteArray) (s : RS) (ns : List AN) (v : Value) (xs : List IV) : Prop where
  rd : RD w b t s v
  row : w.ownsRow (b + 1) 119 8 v ns.length (nodesCells ns xs)
  len : xs.length = ns.length
  items : ∀ (i : Nat) (n : AN) (x : IV), ns[i]? = some n → xs[i]? = some x → ItemsOk w (b + 1) x n.its
  sized : Sized ns
def NS (w : World) (b : Nat) (t : ByteArray) (st : PS) : Prop := ∃ v xs, NV w b t st.1 st.2 v xs

section
variable {w w' : World} {b : Nat} {t : ByteArray} {s s' : RS} {ns : List AN} {v : Value} {xs : List IV}
theorem own_ge {w : World} {base : Nat} {e : TypeId} {size : Nat} {v : Value} {n : Nat} {xs : List Value} (h : w.ownsRow base e size v n xs) {g : Nat} (hg : v.ownBlock = some g) : base ≤ g := (h.lt g hg).1

/-- Rows of two element types lie in two blocks. -/
theorem own_ne {w : World} {b1 b2 e1 e2 z1 z2 : Nat} {v1 v2 : Value} {n1 n2 : Nat} {x1 x2 : List Value} (h1 : w.ownsRow b1 e1 z1 v1 n1 x1) (h2 : w.ownsRow b2 e2 z2 v2 n2 x2) (he : e1 ≠ e2) :
    v1.ownBlock = none ∨ v1.ownBlock ≠ v2.ownBlock := by
  rcases h1.2 with ⟨rfl, _⟩ | ⟨g1, c1, u1, rfl, _, hg1, _⟩
  · exact Or.inl rfl
  · refine Or.inr (fun hc => ?_)
    rcases h2.2 with ⟨rfl, _⟩ | ⟨g2, c2, u2, rfl, _, hg2, _⟩
    · simp [Value.ownBlock] at hc
    · simp only [Value.ownBlock, Option.some.injEq] at hc
      subst hc
      rw [hg1] at hg2
      simp only [Option.some.injEq, Obj.cells.injEq] at hg2
      exact he hg2.2.1

/-- What a scanning step leaves: the reader's block alone has turned. -/
theorem NV.scan (h : NV w b t s ns v xs) (r : RD w' b t s' v) (k : Kept [b] w w') : NV w' b t s' ns v xs := by
  have gr : w.grownBy w' (some b) := ⟨k.os, k.tape, k.output, k.size, fun i hi hn => k.block i hi (by simpa using hn)⟩
  refine ⟨r, h.row.kept gr ?_, h.len, fun i n x hn hx => ?_, h.sized⟩
  · cases hv : v.ownBlock with
    | none => exact Or.inl rfl
    | some g => refine Or.inr ?_; have := own_ge h.row hv; simp; omega
  · have h1 := h.items i n x hn hx
    refine World.ownsRow.kept h1 gr ?_
    cases hv : (ivV x).ownBlock with
    | none => exact Or.inl rfl
    | some g => refine Or.inr ?_; have := own_ge h1 hv; simp; omega
end

set_option maxHeartbeats 400000 in
theorem size_any (b i : Nat) (t : ByteArray) (s : RS) (ns : List AN) (v : Value) (xs : List IV) (w : World) (h : NV w b t s ns v xs) (hi : i < ns.length) (hl : ns.length ≤ 1000) :
    Calls Try.prog 62 #[.pointer (some ⟨b, 0, none⟩), .int .i64 (i : Int)] w fun e w' => e = .returned (.int .i64 (sizeAt ns i)) ∧ w' = w := by
  have h2 := h.rd.c2
  obtain ⟨x, hx⟩ : ∃ x, xs[i]? = some x := by have := h.len; exact ⟨xs[i], List.getElem?_eq_getElem (by omega)⟩
  obtain ⟨n, hn⟩ : ∃ n, ns[i]? = some n := ⟨ns[i], List.getElem?_eq_getElem hi⟩
  have hget := nodesCells_get ns xs i 7 n x hn hx (by omega)
  have hv : ∃ g cap, v = .slice (some ⟨g, 0, none⟩) ns.length cap := by
    rcases h.row.2 with ⟨_, h⟩ | ⟨g, cap, _, h, _⟩
    · omega
    · exact ⟨g, cap, h⟩
  obtain ⟨g, cap, rfl⟩ := hv
  have hc : w.cell? ⟨g, i * 8 + 7, none⟩ = some (.int .i64 n.size) := by
    have := h.row.cells (g := g) rfl (i * 8 + 7) (.int .i64 n.size) (by rw [hget]; rfl)
    rwa [show (⟨g, 0, none⟩ : Addr).add (i * 8 + 7) = ⟨g, i * 8 + 7, none⟩ by simp [Addr.add]] at this
  have e : sizeAt ns i = n.size := by simp [sizeAt, hn]
  rw [e]
  clear hget e hn hx h
  go_enter Try.func62, Try.ntmps62
  go_wp2
  go_ret
  exact ⟨rfl, rfl⟩

end Go.Proofs.Ytgifhgnccmnbiaa
