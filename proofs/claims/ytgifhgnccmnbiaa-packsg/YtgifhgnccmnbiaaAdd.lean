/- The reader of patterns: one more node: what 'add' makes of the reader's list. -/
import Derived.Test.YtgifhgnccmnbiaaNodes
set_option linter.unusedVariables false
set_option linter.unusedSimpArgs false
namespace Go.Proofs.Ytgifhgnccmnbiaa
open Go.RowKit Go.IntWalk

theorem infoNode : (Try.prog.info? 119).map (fun i => (i.zero, i.size, i.bytes)) =
    some (some (.agg #[.int .i64 0, .slice none 0 0, .bool false, .int .i64 0, .int .i64 0, .int .i64 0, .int .i64 0, .int .i64 0]), 8, 80) := by kernel_rfl

/-- The node as it comes in, by value. -/
def AN.val (n : AN) (x : IV) : Value :=
  .agg #[.int .i64 n.kind, .slice x.1 x.2.1 x.2.2, .bool n.neg, .int .i64 n.left, .int .i64 n.right, .int .i64 n.least, .int .i64 n.most, .int .i64 n.size]

theorem cells_new (w0 : World) (cs : Array Value) (e : TypeId) (k : Nat) (hk : k = w0.heap.size) :
    ∀ j u, cs.toList[j]? = some u → (w0.alloc (.cells cs e)).cell? ((⟨k, 0, none⟩ : Addr).add j) = some u := by
  intro j u hu
  subst hk
  rw [show (⟨w0.heap.size, 0, none⟩ : Addr).add j = ⟨w0.heap.size, j, none⟩ by unfold Addr.add; split <;> simp_all, (Blk.new w0 cs e).cell]
  simpa using hu

theorem own_form {w : World} {base : Nat} {e : TypeId} {size : Nat} {v : Value} {n : Nat} {xs : List Value} (h : w.ownsRow base e size v n xs) (hn : 0 < n) :
    ∃ g cap, v = .slice (some ⟨g, 0, none⟩) n cap := by
  rcases h.2 with ⟨_, h⟩ | ⟨g, cap, _, h, _⟩
  · omega
  · exact ⟨g, cap, h⟩

theorem sized_snoc {ns : List AN} {n : AN} (h : Sized ns) (hn : 0 ≤ n.size) : Sized (ns ++ [capN n]) := sized_add (n := n) (st := ((0, false), ns)) h hn

/-- What is left behind the append and the store. -/
theorem add_fin {b : Nat} {t : ByteArray} {s : RS} {ns : List AN} {v : Value} {xs : List IV} {n : AN} {x : IV} {w w1 : World} (h : NV w b t s ns v xs) (hx : ItemsOk w (b + 1) x n.its) (hn : 0 ≤ n.size)
    (o1 o2 : Obj) (g cap : Nat) (news : List Value) (hnews : news = (capN n).cells x)
    (hown : w1.ownsRow (b + 1) 119 8 (.slice (some ⟨g, 0, none⟩) (ns.length + 1) cap) (ns.length + 1) (nodesCells ns xs ++ news))
    (hgrow : ((w.alloc o1).alloc o2).drew.grownBy w1 v.ownBlock) :
    RD w1 b t s v ∧ NS (w1.setCell ⟨b, 2, none⟩ (.slice (some ⟨g, 0, none⟩) (ns.length + 1) cap)) b t (s, ns ++ [capN n]) ∧ Below b w (w1.setCell ⟨b, 2, none⟩ (.slice (some ⟨g, 0, none⟩) (ns.length + 1) cap)) := by
  subst hnews
  have hb := h.rd.blk.lt
  have hvb : some b ≠ v.ownBlock := fun hc => by have := own_ge h.row hc.symm; omega
  have bl : ∀ k, k < w.heap.size → some k ≠ v.ownBlock → w1.heap[k]? = w.heap[k]? := fun k hk hne => by
    rw [hgrow.block k (by show k < ((w.alloc o1).alloc o2).heap.size; simp; omega) hne]
    show ((w.alloc o1).alloc o2).heap[k]? = _
    rw [Below.heap_alloc _ _ _ (by simp; omega), Below.heap_alloc _ _ _ hk]
  have e2 : ((w.alloc o1).alloc o2).drew.heap.size = w.heap.size + 1 + 1 := by
    show ((w.alloc o1).alloc o2).heap.size = _
    simp
  have gsz : w.heap.size ≤ w1.heap.size := by have := hgrow.size; omega
  have gw : w.grownBy w1 v.ownBlock := ⟨hgrow.os, hgrow.tape, hgrow.output, gsz, bl⟩
  have r1 : RD w1 b t s v := ⟨(bl b hb hvb).trans h.rd.blk, h.rd.fits, h.rd.small⟩
  have gb : ∀ u, w1.grownBy (w1.setCell ⟨b, 2, none⟩ u) (some b) := fun u => ⟨rfl, rfl, rfl, by simp [World.setCell], fun k hk hne => Below.heap_setCell _ _ _ _ (by rintro rfl; exact hne rfl)⟩
  have keepRow : ∀ {e z m : Nat} {y : Value} {ys : List Value} (u : Value), w1.ownsRow (b + 1) e z y m ys → (w1.setCell ⟨b, 2, none⟩ u).ownsRow (b + 1) e z y m ys := fun {e z m y ys} u hy => by
    refine hy.kept (gb u) ?_
    cases hv : y.ownBlock with
    | none => exact Or.inl rfl
    | some g => refine Or.inr ?_; have := own_ge hy hv; simp; omega
  have items1 : ∀ (y : IV) (its : List (Int × Int)), ItemsOk w (b + 1) y its → ItemsOk w1 (b + 1) y its := fun y its hy =>
    World.ownsRow.kept hy gw (own_ne hy h.row (by decide))
  refine ⟨r1, ⟨.slice (some ⟨g, 0, none⟩) (ns.length + 1) cap, xs ++ [x], ?_, ?_, ?_, ?_, ?_⟩, ?_⟩
  · exact ⟨Blk.set r1.blk 2 _, h.rd.fits, h.rd.small⟩
  · rw [nodesCells_snoc ns xs (capN n) x h.len, List.length_append]
    exact keepRow _ hown
  · simp [h.len]
  · intro i m y hm hy
    by_cases hi : i < ns.length
    · rw [List.getElem?_append_left hi] at hm
      rw [List.getElem?_append_left (by rw [h.len]; exact hi)] at hy
      exact keepRow _ (items1 y m.its (h.items i m y hm hy))
    · have hi2 : i = ns.length := by
        have := (List.getElem?_eq_some_iff.1 hm).1
        simp at this; omega
      subst hi2
      rw [List.getElem?_append_right (Nat.le_refl _), Nat.sub_self] at hm
      rw [List.getElem?_append_right (by rw [h.len]; exact Nat.le_refl _), h.len, Nat.sub_self] at hy
      simp at hm hy
      subst hm hy
      exact keepRow _ (items1 x n.its hx)
  · exact sized_snoc h.sized hn
  · have hbel : Below b w w1 := ⟨gw.os, gw.tape, gw.output, gw.size, fun k hk => bl k (by omega) (fun hc => by have := own_ge h.row hc.symm; omega)⟩
    exact hbel.setCell (Nat.le_refl _) _

set_option maxHeartbeats 1000000 in
set_option maxRecDepth 100000 in
theorem add_any (b : Nat) (t : ByteArray) (s : RS) (ns : List AN) (v : Value) (xs : List IV) (n : AN) (x : IV) (w : World) (h : NV w b t s ns v xs) (hl : ns.length ≤ 1000)
    (hx : ItemsOk w (b + 1) x n.its) (hn : 0 ≤ n.size) (hn' : n.size ≤ 1000) :
    Calls Try.prog 125 #[.pointer (some ⟨b, 0, none⟩), n.val x] w fun e w' => e = .returned (.int .i64 ((addS n (s, ns)).1 : Int)) ∧ NS w' b t (addS n (s, ns)).2 ∧ Below b w w' := by
  obtain ⟨i0, hi0, hz0, hz1, hz2⟩ := info_parts infoNode
  obtain ⟨ao, il, ic⟩ := x
  obtain ⟨kind, its, neg, left, right, least, most, size⟩ := n
  have hbw := h.rd.blk.lt
  have h2 := h.rd.c2
  have f2 := h.rd.f 2
  unfold AN.val
  by_cases hc : 61 < size
  · go_enter Try.func125, Try.ntmps125
    go_wp2_with fail
    have ow : ∀ o1 o2, ((w.alloc o1).alloc o2).ownsRow (b + 1) 119 8 v ns.length (nodesCells ns xs) := fun o1 o2 => (h.row.alloc o1).alloc o2
    have mb : ns.length + 1 ≤ maxLen := by unfold maxLen; omega
    have hsz : ∀ o1 o2, b + 1 ≤ ((w.alloc o1).alloc o2).heap.size := fun o1 o2 => by simp; omega
    go_region_law (refine step_append_owned rfl (.tmp 13) (.tmp 15) 55 rfl 119 i0 _ 8 80 Try.underlying55 hi0 hz0 hz1 hz2 rfl (by decide) (b + 1) v ns.length (nodesCells ns xs) (by simp [Act.eval, Act.put]) (by exact ow _ _) ⟨w.heap.size + 1, 0, none⟩ 1 1 [.int .i64 kind, .slice ao il ic, .bool neg, .int .i64 left, .int .i64 right, .int .i64 least, .int .i64 most, .int .i64 61] (by simp [Act.eval, Act.put]) rfl (by exact cells_new _ _ _ _ (by simp)) (by simp [Value.oneCell']) mb (by omega) (by exact hsz _ _) ?_; intro v' w1 hown hgrow; obtain ⟨g, cap, rfl⟩ := own_form hown (by omega); obtain ⟨r1, r2, r3⟩ := add_fin (n := ⟨kind, its, neg, left, right, least, most, size⟩) h hx hn _ _ g cap _ (by simp [AN.cells, capN, hc]) hown hgrow; have c2 := r1.c2; have g2 := r1.f 2)
    all_goals
      go_wp2
      go_ret
      exact ⟨ret_int (by simp only [addS]; first | done | omega), r2, r3⟩
  · have ecap : Hid ((if 61 < size then (61 : Int) else size) = size) := if_neg hc
    go_enter Try.func125, Try.ntmps125
    go_wp2_with fail
    have ow : ∀ o1 o2, ((w.alloc o1).alloc o2).ownsRow (b + 1) 119 8 v ns.length (nodesCells ns xs) := fun o1 o2 => (h.row.alloc o1).alloc o2
    have mb : ns.length + 1 ≤ maxLen := by unfold maxLen; omega
    have hsz : ∀ o1 o2, b + 1 ≤ ((w.alloc o1).alloc o2).heap.size := fun o1 o2 => by simp; omega
    go_region_law (refine step_append_owned rfl (.tmp 13) (.tmp 15) 55 rfl 119 i0 _ 8 80 Try.underlying55 hi0 hz0 hz1 hz2 rfl (by decide) (b + 1) v ns.length (nodesCells ns xs) (by simp [Act.eval, Act.put]) (by exact ow _ _) ⟨w.heap.size + 1, 0, none⟩ 1 1 [.int .i64 kind, .slice ao il ic, .bool neg, .int .i64 left, .int .i64 right, .int .i64 least, .int .i64 most, .int .i64 size] (by simp [Act.eval, Act.put]) rfl (by exact cells_new _ _ _ _ (by simp)) (by simp [Value.oneCell']) mb (by omega) (by exact hsz _ _) ?_; intro v' w1 hown hgrow; obtain ⟨g, cap, rfl⟩ := own_form hown (by omega); obtain ⟨r1, r2, r3⟩ := add_fin (n := ⟨kind, its, neg, left, right, least, most, size⟩) h hx hn _ _ g cap _ (by simp [AN.cells, capN, ecap.out]) hown hgrow; have c2 := r1.c2; have g2 := r1.f 2)
    all_goals
      go_wp2
      go_ret
      exact ⟨ret_int (by simp only [addS]; first | done | omega), r2, r3⟩

end Go.Proofs.Ytgifhgnccmnbiaa
