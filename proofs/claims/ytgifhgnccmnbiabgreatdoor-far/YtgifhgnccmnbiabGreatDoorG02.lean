/- The reader of patterns: one more node: what 'add' makes of the reader's list. -/
import Derived.Test.YtgifhgnccmnbiabGreatDoorG01
set_option linter.unusedVariables false
set_option linter.unusedSimpArgs false
namespace Go.Proofs.YtgifhgnccmnbiabGreatDoor
open Go.RowKit Go.IntWalk

theorem infoNode : (Tryz.prog.info? 164).map (fun i => (i.zero, i.size, i.bytes)) =
    some (some (.agg #[.int .i64 0, .slice none 0 0, .bool false, .int .i64 0, .int .i64 0, .int .i64 0, .int .i64 0, .int .i64 0]), 8, 80) := by kernel_rfl

/-- The node as it comes in, by value. -/
def AN.val (n : AN) (x : IV) : Value :=
  .agg #[.int .i64 n.kind, .slice x.1 x.2.1 x.2.2, .bool n.neg, .int .i64 n.left, .int .i64 n.right, .int .i64 n.least, .int .i64 n.most, .int .i64 n.size]

theorem cells_new (w0 : World) (cs : Array Value) (e : TypeId) (k : Nat) (hk : k = w0.heap.size) :
    ∀ j u, cs.toList[j]? = some u → (w0.alloc (.cells cs e)).cell? ((⟨k, 0, none⟩ : Addr).add j) = some u := by
  intro j u hu
  subst hk
  rw [show (⟨w0.heap.size, 0, none⟩ : Addr).add j = ⟨w0.heap.size, j, none⟩ by unfold Addr.add; split <;> simp_all, (Blk.new w0 cs e).cell]
  simpa using hu

theorem own_form {w : World} {base : Nat} {e : TypeId} {size : Nat} {v : Value} {n : Nat} {xs : List Value} (h : w.ownsRow base e size v n xs) (hn : 0 < n) :
    ∃ g cap, v = .slice (some ⟨g, 0, none⟩) n cap := by
  rcases h.2 with ⟨_, h⟩ | ⟨g, cap, _, h, _⟩
  · omega
  · exact ⟨g, cap, h⟩

theorem sized_snoc {ns : List AN} {n : AN} (h : Sized ns) (hn : 0 ≤ n.size) : Sized (ns ++ [capN n]) := sized_add (n := n) (st := ((0, false), ns)) h hn

/-- What is left behind the append and the store. -/
theorem add_fin {b : Nat} {t : ByteArray} {s : RS} {ns : List AN} {v : Value} {xs : List IV} {n : AN} {x : IV} {w w1 : World} (h : NV w b t s ns v xs) (hx : ItemsOk w (b + 1) x n.its) (hn : 0 ≤ n.size)
    (o1 o2 : Obj) (g cap : Nat) (news : List Value) (hnews : news = (capN n).cells x)
    (hown : w1.ownsRow (b + 1) 164 8 (.slice (some ⟨g, 0, none⟩) (ns.length + 1) cap) (ns.length + 1) (nodesCells ns xs ++ news))
    (hgrow : ((w.alloc o1).alloc o2).drew.grownBy w1 v.ownBlock) :
    RD w1 b t s v ∧ NS (w1.setCell ⟨b, 2, none⟩ (.slice (some ⟨g, 0, none⟩) (ns.length + 1) cap)) b t (s, ns ++ [capN n]) ∧ Below b w (w1.setCell ⟨b, 2, none⟩ (.slice (some ⟨g, 0, none⟩) (ns.length + 1) cap)) := by
  subst hnews
  have hb := h.rd.blk.lt
  have hvb : some b ≠ v.ownBlock := fun hc => by have := own_ge h.row hc.symm; omega
  have bl : ∀ k, k < w.heap.size → some k ≠ v.ownBlock → w1.heap[k]? = w.heap[k]? := fun k hk hne => by
    rw [hgrow.block k (by show k < ((w.alloc o1).alloc o2).heap.size; simp; omega) hne]
    show ((w.alloc o1).alloc o2).heap[k]? = _
    rw [Below.heap_alloc _ _ _ (by simp; omega), Below.heap_alloc _ _ _ hk]
  have e2 : ((w.alloc o1).alloc o2).drew.heap.size = w.heap.size + 1 + 1 := by
    show ((w.alloc o1).alloc o2).heap.size = _
    simp
  have gsz : w.heap.size ≤ w1.heap.size := by have := hgrow.size; omega
  have gw : w.grownBy w1 v.ownBlock := ⟨hgrow.os, hgrow.tape, hgrow.output, gsz, bl⟩
  have r1 : RD w1 b t s v := ⟨(bl b hb hvb).trans h.rd.blk, h.rd.fits, h.rd.small⟩
  have gb : ∀ u, w1.grownBy (w1.setCell ⟨b, 2, none⟩ u) (some b) := fun u => ⟨rfl, rfl, rfl, by simp [World.setCell], fun k hk hne => Below.heap_setCell _ _ _ _ (by rintro rfl; exact hne rfl)⟩
  have keepRow : ∀ {e z m : Nat} {y : Value} {ys : List Value} (u : Value), w1.ownsRow (b + 1) e z y m ys → (w1.setCell ⟨b, 2, none⟩ u).ownsRow (b + 1) e z y m ys := fun {e z m y ys} u hy => by
    refine hy.kept (gb u) ?_
    cases hv : y.ownBlock with
    | none => exact Or.inl rfl
    | some g => refine Or.inr ?_; have := own_ge hy hv; simp; omega
  have items1 : ∀ (y : IV) (its : List (Int × Int)), ItemsOk w (b + 1) y its → ItemsOk w1 (b + 1) y its := fun y its hy =>
    World.ownsRow.kept hy gw (own_ne hy h.row (by decide))
  refine ⟨r1, ⟨.slice (some ⟨g, 0, none⟩) (ns.length + 1) cap, xs ++ [x], ?_, ?_, ?_, ?_, ?_⟩, ?_⟩
  · exact ⟨Blk.set r1.blk 2 _, h.rd.fits, h.rd.small⟩
  · rw [nodesCells_snoc ns xs (capN n) x h.len, List.length_append]
    exact keepRow _ hown
  · simp [h.len]
  · intro i m y hm hy
    by_cases hi : i < ns.length
    · rw [List.getElem?_append_left hi] at hm
      rw [List.getElem?_append_left (by rw [h.len]; exact hi)] at hy
      exact keepRow _ (items1 y m.its (h.items i m y hm hy))
    · have hi2 : i = ns.length := by
        have := (List.getElem?_eq_some_iff.1 hm).1
        simp at this; omega
      subst hi2
      rw [List.getElem?_append_right (Nat.le_refl _), Nat.sub_self] at hm
      rw [List.getElem?_append_right (by rw [h.len]; exact Nat.le_refl _), h.len, Nat.sub_self] at hy
      simp at hm hy
      subst hm hy
      exact keepRow _ (items1 x n.its hx)
  · exact sized_snoc h.sized hn
  · have hbel : Below b w w1 := ⟨gw.os, gw.tape, gw.output, gw.size, fun k hk => bl k (by omega) (fun hc => by have := own_ge h.row hc.symm; omega)⟩
    exact hbel.setCell (Nat.le_refl _) _

set_option maxHeartbeats 1000000 in
set_option maxRecDepth 100000 in
theorem add_any (b : Nat) (t : ByteArray) (s : RS) (ns : List AN) (v : Value) (xs : List IV) (n : AN) (x : IV) (w : World) (h : NV w b t s ns v xs) (hl : ns.length ≤ 1000)
    (hx : ItemsOk w (b + 1) x n.its) (hn : 0 ≤ n.size) (hn' : n.size ≤ 1000) :
    Calls Tryz.prog 196 #[.pointer (some ⟨b, 0, none⟩), n.val x] w fun e w' => e = .returned (.int .i64 ((addS n (s, ns)).1 : Int)) ∧ NS w' b t (addS n (s, ns)).2 ∧ Below b w w' := by
  obtain ⟨i0, hi0, hz0, hz1, hz2⟩ := info_parts infoNode
  obtain ⟨ao, il, ic⟩ := x
  obtain ⟨kind, its, neg, left, right, least, most, size⟩ := n
  have hbw := h.rd.blk.lt
  have h2 := h.rd.c2
  have f2 := h.rd.f 2
  unfold AN.val
  by_cases hc : 61 < size
  · go_enter Tryz.func196, Tryz.ntmps196
    go_wp2_with fail
    have ow : ∀ o1 o2, ((w.alloc o1).alloc o2).ownsRow (b + 1) 164 8 v ns.length (nodesCells ns xs) := fun o1 o2 => (h.row.alloc o1).alloc o2
    have mb : ns.length + 1 ≤ maxLen := by unfold maxLen; omega
    have hsz : ∀ o1 o2, b + 1 ≤ ((w.alloc o1).alloc o2).heap.size := fun o1 o2 => by simp; omega
    go_region_law (refine step_append_owned rfl (.tmp 13) (.tmp 15) 91 rfl 164 i0 _ 8 80 Tryz.underlying91 hi0 hz0 hz1 hz2 rfl (by decide) (b + 1) v ns.length (nodesCells ns xs) (by simp [Act.eval, Act.put]) (by exact ow _ _) ⟨w.heap.size + 1, 0, none⟩ 1 1 [.int .i64 kind, .slice ao il ic, .bool neg, .int .i64 left, .int .i64 right, .int .i64 least, .int .i64 most, .int .i64 61] (by simp [Act.eval, Act.put]) rfl (by exact cells_new _ _ _ _ (by simp)) (by simp [Value.oneCell']) mb (by omega) (by exact hsz _ _) ?_; intro v' w1 hown hgrow; obtain ⟨g, cap, rfl⟩ := own_form hown (by omega); obtain ⟨r1, r2, r3⟩ := add_fin (n := ⟨kind, its, neg, left, right, least, most, size⟩) h hx hn _ _ g cap _ (by simp [AN.cells, capN, hc]) hown hgrow; have c2 := r1.c2; have g2 := r1.f 2)
    all_goals
      go_wp2
      go_ret
      exact ⟨ret_int (by simp only [addS]; first | done | omega), r2, r3⟩
  · have ecap : Hid ((if 61 < size then (61 : Int) else size) = size) := if_neg hc
    go_enter Tryz.func196, Tryz.ntmps196
    go_wp2_with fail
    have ow : ∀ o1 o2, ((w.alloc o1).alloc o2).ownsRow (b + 1) 164 8 v ns.length (nodesCells ns xs) := fun o1 o2 => (h.row.alloc o1).alloc o2
    have mb : ns.length + 1 ≤ maxLen := by unfold maxLen; omega
    have hsz : ∀ o1 o2, b + 1 ≤ ((w.alloc o1).alloc o2).heap.size := fun o1 o2 => by simp; omega
    go_region_law (refine step_append_owned rfl (.tmp 13) (.tmp 15) 91 rfl 164 i0 _ 8 80 Tryz.underlying91 hi0 hz0 hz1 hz2 rfl (by decide) (b + 1) v ns.length (nodesCells ns xs) (by simp [Act.eval, Act.put]) (by exact ow _ _) ⟨w.heap.size + 1, 0, none⟩ 1 1 [.int .i64 kind, .slice ao il ic, .bool neg, .int .i64 left, .int .i64 right, .int .i64 least, .int .i64 most, .int .i64 size] (by simp [Act.eval, Act.put]) rfl (by exact cells_new _ _ _ _ (by simp)) (by simp [Value.oneCell']) mb (by omega) (by exact hsz _ _) ?_; intro v' w1 hown hgrow; obtain ⟨g, cap, rfl⟩ := own_form hown (by omega); obtain ⟨r1, r2, r3⟩ := add_fin (n := ⟨kind, its, neg, left, right, least, most, size⟩) h hx hn _ _ g cap _ (by simp [AN.cells, capN, ecap.out]) hown hgrow; have c2 := r1.c2; have g2 := r1.f 2)
    all_goals
      go_wp2
      go_ret
      exact ⟨ret_int (by simp only [addS]; first | done | omega), r2, r3⟩

end Go.Proofs.YtgifhgnccmnbiabGreatDoor

set_option linter.unusedVariables false
set_option linter.unusedSimpArgs false
namespace Go.Proofs.YtgifhgnccmnbiabGreatDoor
open Go.RowKit Go.IntWalk

theorem items_nil (w : World) (base : Nat) : ItemsOk w base (none, 0, 0) [] := World.ownsRow_nil w _ _ _

theorem add_plain (b : Nat) (t : ByteArray) (s : RS) (ns : List AN) (v : Value) (xs : List IV) (kind left right least most size : Int) (w : World) (h : NV w b t s ns v xs) (hl : ns.length ≤ 1000) (hn : 0 ≤ size) (hn' : size ≤ 1000) :
    Calls Tryz.prog 196 #[.pointer (some ⟨b, 0, none⟩), .agg #[.int .i64 kind, .slice none 0 0, .bool false, .int .i64 left, .int .i64 right, .int .i64 least, .int .i64 most, .int .i64 size]] w fun e w' =>
      e = .returned (.int .i64 ((addS { kind := kind, left := left, right := right, least := least, most := most, size := size } (s, ns)).1 : Int)) ∧ NS w' b t (addS { kind := kind, left := left, right := right, least := least, most := most, size := size } (s, ns)).2 ∧ Below b w w' :=
  add_any b t s ns v xs { kind := kind, left := left, right := right, least := least, most := most, size := size } (none, 0, 0) w h hl (items_nil _ _) hn hn'

theorem add_items (b : Nat) (t : ByteArray) (s : RS) (ns : List AN) (v : Value) (xs : List IV) (ao : Option Addr) (il ic : Nat) (its : List (Int × Int)) (neg : Bool) (w : World) (h : NV w b t s ns v xs) (hl : ns.length ≤ 1000) (hx : ItemsOk w (b + 1) (ao, il, ic) its) :
    Calls Tryz.prog 196 #[.pointer (some ⟨b, 0, none⟩), .agg #[.int .i64 1, .slice ao il ic, .bool neg, .int .i64 0, .int .i64 0, .int .i64 0, .int .i64 0, .int .i64 1]] w fun e w' =>
      e = .returned (.int .i64 ((addS { kind := 1, its := its, neg := neg, size := 1 } (s, ns)).1 : Int)) ∧ NS w' b t (addS { kind := 1, its := its, neg := neg, size := 1 } (s, ns)).2 ∧ Below b w w' :=
  add_any b t s ns v xs { kind := 1, its := its, neg := neg, size := 1 } (ao, il, ic) w h hl hx (by show (0 : Int) ≤ 1; omega) (by show (1 : Int) ≤ 1000; omega)

set_option maxHeartbeats 400000 in
theorem join_any (b l r : Nat) (kind : Int) (t : ByteArray) (s : RS) (ns : List AN) (v : Value) (xs : List IV) (w : World) (h : NV w b t s ns v xs) (hl : l < ns.length) (hr : r < ns.length) (hm : ns.length ≤ 1000) :
    Calls Tryz.prog 170 #[.pointer (some ⟨b, 0, none⟩), .int .i64 kind, .int .i64 (l : Int), .int .i64 (r : Int)] w fun e w' =>
      e = .returned (.int .i64 ((joinS kind l r (s, ns)).1 : Int)) ∧ NS w' b t (joinS kind l r (s, ns)).2 ∧ Below b w w' := by
  have h1 := sizeAt_bd h.sized l
  have h2 := sizeAt_bd h.sized r
  go_enter Tryz.func170, Tryz.ntmps170
  go_wp2_with fail
  refine (size_any b l t s ns v xs _ h hl hm).mono ?_
  rintro e w1 ⟨rfl, rfl⟩
  go_wp2_with fail
  refine (size_any b r t s ns v xs _ h hr hm).mono ?_
  rintro e w1 ⟨rfl, rfl⟩
  go_wp2_with fail
  refine (add_plain b t s ns v xs kind l r 0 0 (sizeAt ns l + sizeAt ns r) _ h hm (by omega) (by omega)).mono ?_
  rintro e w1 ⟨rfl, hs, hb⟩
  go_wp2
  go_ret
  exact ⟨rfl, hs, hb⟩

set_option maxHeartbeats 1000000 in
theorem again_any (b p : Nat) (least most : Int) (t : ByteArray) (s : RS) (ns : List AN) (v : Value) (xs : List IV) (w : World) (h : NV w b t s ns v xs) (hp : p < ns.length) (hm : ns.length ≤ 1000)
    (l0 : 0 ≤ least) (l9 : least ≤ 9) (m0 : -1 ≤ most) (m9 : most ≤ 9) :
    Calls Tryz.prog 208 #[.pointer (some ⟨b, 0, none⟩), .int .i64 (p : Int), .int .i64 least, .int .i64 most] w fun e w' =>
      e = .returned (.int .i64 ((againS p (least, most) (s, ns)).1 : Int)) ∧ NS w' b t (againS p (least, most) (s, ns)).2 ∧ Below b w w' := by
  have h1 := sizeAt_bd h.sized p
  have bd : ∀ k : Int, 0 ≤ k → k ≤ 9 → 0 ≤ sizeAt ns p * k ∧ sizeAt ns p * k ≤ 549 := fun k a c => by
    have := Int.mul_nonneg h1.1 a
    have := Int.mul_le_mul h1.2 c a (by omega : (0 : Int) ≤ 61)
    omega
  have core : ∀ (tm : Int), timesS least most = tm → Calls Tryz.prog 196 #[.pointer (some ⟨b, 0, none⟩), .agg #[.int .i64 6, .slice none 0 0, .bool false, .int .i64 p, .int .i64 0, .int .i64 least, .int .i64 most, .int .i64 (sizeAt ns p * tm)]] w fun e w' =>
      e = .returned (.int .i64 ((againS p (least, most) (s, ns)).1 : Int)) ∧ NS w' b t (againS p (least, most) (s, ns)).2 ∧ Below b w w' := by
    intro tm ht
    have e : againS p (least, most) (s, ns) = addS { kind := 6, left := p, least := least, most := most, size := sizeAt ns p * tm } (s, ns) := by simp only [againS, ht]
    rw [e]
    have : 0 ≤ tm ∧ tm ≤ 9 := by rw [← ht]; unfold timesS; repeat' split
                                 all_goals omega
    have := bd tm this.1 this.2
    exact add_plain b t s ns v xs 6 p 0 least most (sizeAt ns p * tm) w h hm (by omega) (by omega)
  by_cases he : most = -1
  · subst he
    by_cases hl : least < 1
    · have e : timesS least (-1) = 1 := by unfold timesS; rw [if_pos rfl, if_pos hl]
      have hb := bd 1 (by omega) (by omega)
      have core := core 1 e
      clear e bd
      rw [Int.mul_one] at core
      go_enter Tryz.func208, Tryz.ntmps208
      go_wp2_with fail
      refine (size_any b p t s ns v xs _ h hp hm).mono ?_
      rintro e w1 ⟨rfl, rfl⟩
      go_wp2_with fail
      refine core.mono ?_
      rintro e w1 ⟨rfl, hs, hb⟩
      go_wp2
      go_ret
      exact ⟨rfl, hs, hb⟩
    · have e : timesS least (-1) = least := by unfold timesS; rw [if_pos rfl, if_neg hl]
      have hb := bd least (by omega) (by omega)
      have core := core _ e
      clear e bd
      go_enter Tryz.func208, Tryz.ntmps208
      go_wp2_with fail
      refine (size_any b p t s ns v xs _ h hp hm).mono ?_
      rintro e w1 ⟨rfl, rfl⟩
      go_wp2_with fail
      refine core.mono ?_
      rintro e w1 ⟨rfl, hs, hb⟩
      go_wp2
      go_ret
      exact ⟨rfl, hs, hb⟩
  · have hb0 : (most == -1) = false := by simpa using he
    by_cases hl : most < 1
    · have e : timesS least most = 1 := by unfold timesS; rw [if_neg he, if_pos hl]
      have hb := bd 1 (by omega) (by omega)
      have core := core 1 e
      clear e bd
      rw [Int.mul_one] at core
      go_enter Tryz.func208, Tryz.ntmps208
      go_wp2_with fail
      refine (size_any b p t s ns v xs _ h hp hm).mono ?_
      rintro e w1 ⟨rfl, rfl⟩
      go_wp2_with fail
      refine core.mono ?_
      rintro e w1 ⟨rfl, hs, hb⟩
      go_wp2
      go_ret
      exact ⟨rfl, hs, hb⟩
    · have e : timesS least most = most := by unfold timesS; rw [if_neg he, if_neg hl]
      have hb := bd most (by omega) (by omega)
      have core := core _ e
      clear e bd
      go_enter Tryz.func208, Tryz.ntmps208
      go_wp2_with fail
      refine (size_any b p t s ns v xs _ h hp hm).mono ?_
      rintro e w1 ⟨rfl, rfl⟩
      go_wp2_with fail
      refine core.mono ?_
      rintro e w1 ⟨rfl, hs, hb⟩
      go_wp2
      go_ret
      exact ⟨rfl, hs, hb⟩

end Go.Proofs.YtgifhgnccmnbiabGreatDoor

set_option linter.unusedVariables false
set_option linter.unusedSimpArgs false
namespace Go.Proofs.YtgifhgnccmnbiabGreatDoor
open Go.RowKit Go.IntWalk

theorem NV.alloc {w : World} {b : Nat} {t : ByteArray} {s : RS} {ns : List AN} {v : Value} {xs : List IV} (h : NV w b t s ns v xs) (o : Obj) : NV (w.alloc o) b t s ns v xs :=
  ⟨h.rd.kept (Kept.alloc (Kept.refl [] w) o) (by simp), h.row.alloc o, h.len, fun i n x a c => World.ownsRow.alloc (h.items i n x a c) o, h.sized⟩

theorem items_one (w : World) (base : Nat) (lo hi : Int) (k : Nat) (hk : k = w.heap.size) (hb : base ≤ w.heap.size) :
    ItemsOk (w.alloc (.cells #[.int .i64 lo, .int .i64 hi] 270)) base (some ⟨k, 0, none⟩, 1, 1) [(lo, hi)] := by
  subst hk
  exact ⟨rfl, .inr ⟨w.heap.size, 1, #[.int .i64 lo, .int .i64 hi], rfl, hb, heap_alloc_new w _, Nat.le_refl _, by unfold maxLen; omega, rfl, rfl⟩⟩

set_option maxHeartbeats 400000 in
theorem bytes_any (b : Nat) (lo hi : Int) (t : ByteArray) (s : RS) (ns : List AN) (v : Value) (xs : List IV) (w : World) (h : NV w b t s ns v xs) (hm : ns.length ≤ 1000) :
    Calls Tryz.prog 214 #[.pointer (some ⟨b, 0, none⟩), .agg #[.int .i64 lo, .int .i64 hi]] w fun e w' =>
      e = .returned (.int .i64 ((bytesS lo hi (s, ns)).1 : Int)) ∧ NS w' b t (bytesS lo hi (s, ns)).2 ∧ Below b w w' := by
  have hb := h.rd.blk.lt
  go_enter Tryz.func214, Tryz.ntmps214
  go_wp2_with fail
  refine (add_items b t s ns v xs (some ⟨w.heap.size + 1, 0, none⟩) 1 1 [(lo, hi)] false _ ((h.alloc _).alloc _) hm (items_one _ _ _ _ _ (by simp) (by simp; omega))).mono ?_
  rintro e w1 ⟨rfl, hs, hbel⟩
  go_wp2
  go_ret
  exact ⟨rfl, hs, (((Below.refl _ _).alloc (by omega) _).alloc (by simp; omega) _).trans hbel⟩

theorem infoItem : (Tryz.prog.info? 270).map (fun i => (i.zero, i.size, i.bytes)) = some (some (.agg #[.int .i64 0, .int .i64 0]), 2, 16) := by kernel_rfl

def lenOf : Value → Nat | .slice _ n _ => n | _ => 0

theorem own_mono {w : World} {base base' : Nat} {e : TypeId} {size : Nat} {v : Value} {n : Nat} {xs : List Value} (h : w.ownsRow base e size v n xs) (hb : base' ≤ base) : w.ownsRow base' e size v n xs := by
  refine ⟨h.1, ?_⟩
  rcases h.2 with h2 | ⟨g, c, u, h3, h4, r⟩
  · exact Or.inl h2
  · exact Or.inr ⟨g, c, u, h3, Nat.le_trans hb h4, r⟩

theorem ItemsOk.scan {w w' : World} {b B : Nat} {x : IV} {its : List (Int × Int)} (h : ItemsOk w B x its) (k : Kept [b] w w') (hB : b < B) : ItemsOk w' B x its := by
  have gr : w.grownBy w' (some b) := ⟨k.os, k.tape, k.output, k.size, fun i hi hn => k.block i hi (by simpa using hn)⟩
  refine World.ownsRow.kept h gr ?_
  cases hv : (ivV x).ownBlock with
  | none => exact Or.inl rfl
  | some g => refine Or.inr ?_; have := own_ge h hv; simp; omega

/-- The nodes' items lie below B. -/
def OldItems (ns : List AN) (xs : List IV) (B : Nat) : Prop := ∀ (i : Nat) (n : AN) (y : IV), ns[i]? = some n → xs[i]? = some y → ∀ g, (ivV y).ownBlock = some g → g < B
theorem NV.old {w : World} {b : Nat} {t : ByteArray} {s : RS} {ns : List AN} {v : Value} {xs : List IV} (h : NV w b t s ns v xs) : OldItems ns xs w.heap.size :=
  fun i n y hn hy g hg => (World.ownsRow.lt (h.items i n y hn hy) g hg).2

/-- What is left behind the append of an item. -/
theorem items_more {b B : Nat} {t : ByteArray} {s : RS} {ns : List AN} {v : Value} {xs : List IV} {w w1 : World} {x : IV} {its : List (Int × Int)} {y : Int × Int} (h : NV w b t s ns v xs) (hx : ItemsOk w B x its)
    (hB : b < B) (ho : OldItems ns xs B)
    (v' : Value) (hown : w1.ownsRow B 270 2 v' (its.length + 1) (itemCells its ++ [.int .i64 y.1, .int .i64 y.2])) (hgrow : w.grownBy w1 (ivV x).ownBlock) :
    ∃ ao il ic, v' = .slice ao il ic ∧ ItemsOk w1 B (ao, il, ic) (its ++ [y]) ∧ NV w1 b t s ns v xs ∧ Below b w w1 ∧ il = its.length + 1 := by
  obtain ⟨g, cap, rfl⟩ := own_form hown (by omega)
  have hge : ∀ k, (ivV x).ownBlock = some k → B ≤ k := fun k hk => own_ge hx hk
  refine ⟨_, _, _, rfl, ?_, ⟨⟨(hgrow.block b h.rd.blk.lt ?_).trans h.rd.blk, h.rd.fits, h.rd.small⟩, h.row.kept hgrow (own_ne h.row hx (by decide)), h.len, fun i n z hn hz => ?_, h.sized⟩, ?_, rfl⟩
  · unfold ItemsOk
    rw [itemCells_snoc, List.length_append]
    exact hown
  · intro hc; have := hge b hc.symm; omega
  · refine World.ownsRow.kept (h.items i n z hn hz) hgrow ?_
    cases hv : (ivV z).ownBlock with
    | none => exact Or.inl rfl
    | some g =>
      refine Or.inr (fun hc => ?_)
      have h1 := ho i n z hn hz g hv
      have h2 := hge g hc.symm
      omega
  · exact ⟨hgrow.os, hgrow.tape, hgrow.output, hgrow.size, fun k hk => hgrow.block k (by have := h.rd.blk.lt; omega) (fun hc => by have := hge k hc.symm; omega)⟩

set_option maxHeartbeats 2000000 in
set_option maxRecDepth 100000 in
theorem list_any (b : Nat) (t : ByteArray) (s : RS) (ns : List AN) (v : Value) (xs : List IV) (w : World) (h : NV w b t s ns v xs) (hm : ns.length ≤ 1000) :
    Calls Tryz.prog 213 #[.pointer (some ⟨b, 0, none⟩)] w fun e w' =>
      e = .returned (.int .i64 ((listS t (s, ns)).1 : Int)) ∧ NS w' b t (listS t (s, ns)).2 ∧ Below b w w' := by
  have hb := h.rd.blk.lt
  obtain ⟨i0, hi0, hz0, hz1, hz2⟩ := info_parts infoItem
  go_enter Tryz.func213, Tryz.ntmps213
  go_wp2_with fail
  refine (take_any b 94 t s v _ h.rd (by omega) (by omega)).mono ?_
  rintro e w1 ⟨rfl, h1, k1⟩
  have n1 := h.scan h1 k1
  have b1 : Below b w w1 := k1.below (by omega) (by simp)
  clear k1 h1
  have hB : b < w1.heap.size := n1.rd.blk.lt
  obtain ⟨B, hBe⟩ : ∃ B, B = w1.heap.size := ⟨_, rfl⟩
  have ho : OldItems ns xs B := by rw [hBe]; exact n1.old
  have hBw : B ≤ w1.heap.size := by omega
  rw [← hBe] at hB
  clear hBe
  have hsm : Hid (t.size ≤ 40) := h.rd.small
  go_wp2_with fail
  go_loopw [4] (fun it wr => ∃ its ao il ic s', it = .slice ao il ic ∧ ItemsOk wr B (ao, il, ic) its ∧ B ≤ wr.heap.size ∧ NV wr b t s' ns v xs ∧ Below b w wr ∧ itemsS t s' its = itemsS t (takeS t 94 s).2 [] ∧ il = its.length ∧ its.length ≤ s'.1) (fun it _ => 41 - lenOf it)
  case atStart => exact ⟨[], none, 0, 0, _, rfl, items_nil _ _, hBw, n1, b1, rfl, rfl, Nat.zero_le _⟩
  case round =>
    obtain ⟨its, ao, il, ic, s', rfl, hi, hBr, hn, hbel, hit, rfl, hle⟩ := hrel
    have hfit := hn.rd.fits
    have hbr := hn.rd.blk.lt
    have hit : Hid (_ = _) := hit
    by_cases hq : itemQ t s' = true
    · have hlt := itemQ_lt hq
      have hgt := item_gt hlt
      have hon : Hid (_ = _) := itemsS_on (acc := its) hq
      go_wp2_with fail
      refine (atItem_any b t s' v _ hn.rd).mono ?_
      rintro e w2 ⟨rfl, rfl⟩
      go_wp2_with fail
      refine (item_any b t s' v _ hn.rd).mono ?_
      rintro e w2 ⟨rfl, h2, k2⟩
      have n2 := hn.scan h2 k2
      have i2 := hi.scan k2 hB
      have hB2 : B ≤ w2.heap.size := Nat.le_trans hBr k2.size
      have b2 := hbel.trans (k2.below (by omega) (by simp))
      go_wp2_with (at_builtin; refine wpList_append_own _ rfl (.tmp 13) (.tmp 15) 162 rfl B 270 i0 _ 2 16 Tryz.underlying162 hi0 hz0 hz1 hz2 rfl (by decide) (ivV (ao, its.length, ic)) its.length (itemCells its) rfl ?own ⟨w2.heap.size + 1, 0, none⟩ 1 1 [.int .i64 (itemS t s').1.1, .int .i64 (itemS t s').1.2] rfl rfl ?c1 ?c2 ?b1 ?b2 ?b3 ?k)
      case own => exact (World.ownsRow.alloc i2 _).alloc _
      case c1 => exact cells_new _ _ _ _ (by simp)
      case c2 => simp [Value.oneCell']
      case b1 => unfold maxLen; have := hsm.out; simp only [Fits] at hfit; omega
      case b2 => have := hsm.out; simp only [Fits] at hfit; omega
      case b3 => simp; omega
      case k =>
        intro v' w3 hown hgrow hnil
        obtain ⟨ao', il', ic', rfl, i3, n3, b3, rfl⟩ := items_more (x := (ao, its.length, ic)) ((n2.alloc _).alloc _) (World.ownsRow.alloc (World.ownsRow.alloc i2 _) _) hB ho v' hown hgrow
        go_wp2
        refine ⟨⟨its ++ [(itemS t s').1], ao', its.length + 1, ic', (itemS t s').2, rfl, i3, by have := hgrow.size; simp at this; omega, n3, b2.trans ((((Below.refl _ _).alloc (by have := n2.rd.blk.lt; omega) _).alloc (by have := n2.rd.blk.lt; simp; omega) _).trans b3), hon.out.symm.trans hit.out, by simp, by simp; omega⟩, ?_⟩
        have := hsm.out
        simp only [lenOf]
        omega
    · have hf : itemQ t s' = false := by simpa using hq
      have hoff : Hid (_ = _) := itemsS_off (acc := its) hf
      clear hq
      go_wp2_with fail
      refine (atItem_any b t s' v _ hn.rd).mono ?_
      rintro e w2 ⟨rfl, rfl⟩
      have hI : Hid (itemsS t (takeS t 94 s).2 [] = (its, s')) := hit.out.symm.trans hoff.out
      clear hit hoff
      have hL : its.length ≤ 40 := by have := hsm.out; simp only [Fits] at hfit; omega
      have fin : ∀ (s2 : RS), (if (takeS t 93 s').1 = false ∨ its.length = 0 then failS t else (takeS t 93 s').2) = s2 → Hid (listS t (s, ns) = addS { kind := 1, its := its, neg := (takeS t 94 s).1, size := 1 } (s2, ns)) := by
        intro s2 e
        show listS t (s, ns) = _
        unfold listS
        simp only []
        rw [hI.out]
        simp only []
        rw [e]
      by_cases hc : (takeS t 93 s').1 = false
      · have e := fin _ (if_pos (Or.inl hc))
        clear fin hI
        go_wp2_with fail
        refine (take_any b 93 t s' v _ hn.rd (by omega) (by omega)).mono ?_
        rintro e1 w3 ⟨rfl, h3, k3⟩
        have n3 := hn.scan h3 k3
        have i3 := hi.scan k3 hB
        have b3 := hbel.trans (k3.below (by omega) (by simp))
        go_wp2_with fail
        refine (fail_any b t _ v _ h3).mono ?_
        rintro e1 w4 ⟨rfl, h4, k4⟩
        have n4 := n3.scan h4 k4
        have i4 := i3.scan k4 hB
        have b4 := b3.trans (k4.below (by have := h3.blk.lt; omega) (by simp))
        go_wp2_with fail
        refine (add_items b t _ ns v xs ao its.length ic its _ _ n4 hm (own_mono i4 hB)).mono ?_
        rw [← e.out]
        rintro e1 w5 ⟨rfl, h5, b5⟩
        go_wp2
        go_ret
        exact ⟨rfl, h5, b4.trans b5⟩
      have hc : (takeS t 93 s').1 = true := by simpa using hc
      by_cases hz : its.length = 0
      · have e := fin _ (if_pos (Or.inr hz))
        clear fin hI
        obtain rfl := List.length_eq_zero_iff.1 hz
        clear hz
        go_wp2_with fail
        refine (take_any b 93 t s' v _ hn.rd (by omega) (by omega)).mono ?_
        rintro e1 w3 ⟨rfl, h3, k3⟩
        have n3 := hn.scan h3 k3
        have i3 := hi.scan k3 hB
        have b3 := hbel.trans (k3.below (by omega) (by simp))
        go_wp2_with fail
        refine (fail_any b t _ v _ h3).mono ?_
        rintro e1 w4 ⟨rfl, h4, k4⟩
        have n4 := n3.scan h4 k4
        have i4 := i3.scan k4 hB
        have b4 := b3.trans (k4.below (by have := h3.blk.lt; omega) (by simp))
        go_wp2_with fail
        refine (add_items b t _ ns v xs ao 0 ic [] _ _ n4 hm (own_mono i4 hB)).mono ?_
        rw [← e.out]
        rintro e1 w5 ⟨rfl, h5, b5⟩
        go_wp2
        go_ret
        exact ⟨rfl, h5, b4.trans b5⟩
      · have e := fin _ (if_neg (by rw [hc]; simpa using hz))
        clear fin hI
        have hz' : (((its.length : Nat) : Int) == 0) = false := by simpa using hz
        clear hz
        go_wp2_with fail
        refine (take_any b 93 t s' v _ hn.rd (by omega) (by omega)).mono ?_
        rintro e1 w3 ⟨rfl, h3, k3⟩
        have n3 := hn.scan h3 k3
        have i3 := hi.scan k3 hB
        have b3 := hbel.trans (k3.below (by omega) (by simp))
        go_wp2_with fail
        refine (add_items b t _ ns v xs ao its.length ic its _ _ n3 hm (own_mono i3 hB)).mono ?_
        rw [← e.out]
        rintro e1 w5 ⟨rfl, h5, b5⟩
        go_wp2
        go_ret
        exact ⟨rfl, h5, b3.trans b5⟩

end Go.Proofs.YtgifhgnccmnbiabGreatDoor

set_option linter.unusedVariables false
set_option linter.unusedSimpArgs false
namespace Go.Proofs.YtgifhgnccmnbiabGreatDoor

/-- An atom that is neither a group nor a list, behind its first byte c. -/
def plainS (t : ByteArray) (c : Int) (st : PS) : Nat × PS :=
  if c = 46 then bytesS 0 255 st
  else if c = 94 then addS { kind := 2, size := 1 } st
  else if c = 36 then addS { kind := 3, size := 1 } st
  else if c = 92 then bytesS (nextS t st.1).1 (nextS t st.1).1 ((nextS t st.1).2, st.2)
  else if c = 41 ∨ c = 124 ∨ c = 42 ∨ c = 43 ∨ c = 63 ∨ c = 123 then bytesS c c (failS t, st.2)
  else bytesS c c st
/-- Behind a group's pattern. -/
def closeS (t : ByteArray) (r : Nat × PS) : Nat × PS := (r.1, (if (takeS t 41 r.2.1).1 = true then (takeS t 41 r.2.1).2 else failS t, r.2.2))

/-- tag 0: a pattern; 1: a branch; 2: a piece; 3: an atom; 4, 5, 6: what may follow a branch in its pattern, a piece in its branch, an atom in its piece. -/
def goS (t : ByteArray) : Nat → Nat → Nat → PS → Nat × PS
  | 0, _, cur, st => (cur, st)
  | f + 1, tag, cur, st =>
    if tag = 0 then goS t f 4 (goS t f 1 0 st).1 (goS t f 1 0 st).2
    else if tag = 1 then
      if endS t st.1 = true then addS { kind := 0, size := 1 } st
      else goS t f 5 (goS t f 2 0 st).1 (goS t f 2 0 st).2
    else if tag = 2 then goS t f 6 (goS t f 3 0 st).1 (goS t f 3 0 st).2
    else if tag = 3 then
      if (nextS t st.1).1 = 40 then closeS t (goS t f 0 0 ((nextS t st.1).2, st.2))
      else if (nextS t st.1).1 = 91 then listS t ((nextS t st.1).2, st.2)
      else plainS t (nextS t st.1).1 ((nextS t st.1).2, st.2)
    else if tag = 4 then
      if (takeS t 124 st.1).1 = true then
        goS t f 4 (joinS 5 cur (goS t f 1 0 ((takeS t 124 st.1).2, st.2)).1 (goS t f 1 0 ((takeS t 124 st.1).2, st.2)).2).1 (joinS 5 cur (goS t f 1 0 ((takeS t 124 st.1).2, st.2)).1 (goS t f 1 0 ((takeS t 124 st.1).2, st.2)).2).2
      else (cur, st)
    else if tag = 5 then
      if endS t st.1 = true then (cur, st)
      else goS t f 5 (joinS 4 cur (goS t f 2 0 st).1 (goS t f 2 0 st).2).1 (joinS 4 cur (goS t f 2 0 st).1 (goS t f 2 0 st).2).2
    else
      if repS t st.1 = true then goS t f 6 (againS cur (repeatS t st.1).1 ((repeatS t st.1).2, st.2)).1 (againS cur (repeatS t st.1).1 ((repeatS t st.1).2, st.2)).2
      else (cur, st)

def Ev (t : ByteArray) (tag cur : Nat) (st : PS) (r : Nat × PS) : Prop := ∃ f0, ∀ f, f0 ≤ f → goS t f tag cur st = r

theorem ev_max {p q : Nat → Prop} (hp : ∃ a, ∀ f, a ≤ f → p f) (hq : ∃ a, ∀ f, a ≤ f → q f) : ∃ a, ∀ f, a ≤ f → p f ∧ q f := by
  obtain ⟨a, ha⟩ := hp
  obtain ⟨c, hc⟩ := hq
  exact ⟨a + c, fun f hf => ⟨ha f (by omega), hc f (by omega)⟩⟩
theorem ev_succ {p : Nat → Prop} (hp : ∃ a, ∀ f, a ≤ f → p (f + 1)) : ∃ a, ∀ f, a ≤ f → p f := by
  obtain ⟨a, ha⟩ := hp
  refine ⟨a + 1, fun f hf => ?_⟩
  obtain ⟨g, rfl⟩ : ∃ g, f = g + 1 := ⟨f - 1, by omega⟩
  exact ha g (by omega)

section
variable {t : ByteArray} {cur : Nat} {st : PS} {r r1 : Nat × PS}
theorem Ev.pattern (h1 : Ev t 1 0 st r1) (h2 : Ev t 4 r1.1 r1.2 r) : Ev t 0 0 st r :=
  ev_succ (by obtain ⟨a, h⟩ := ev_max h1 h2; exact ⟨a, fun f hf => by obtain ⟨x, y⟩ := h f hf; rw [goS, if_pos rfl, x, y]⟩)
theorem Ev.empty (he : endS t st.1 = true) : Ev t 1 0 st (addS { kind := 0, size := 1 } st) :=
  ev_succ ⟨0, fun f _ => by rw [goS, if_neg (by decide), if_pos rfl, if_pos he]⟩
theorem Ev.branch (he : endS t st.1 = false) (h1 : Ev t 2 0 st r1) (h2 : Ev t 5 r1.1 r1.2 r) : Ev t 1 0 st r :=
  ev_succ (by obtain ⟨a, h⟩ := ev_max h1 h2; exact ⟨a, fun f hf => by obtain ⟨x, y⟩ := h f hf; rw [goS, if_neg (by decide), if_pos rfl, if_neg (by rw [he]; decide), x, y]⟩)
theorem Ev.piece (h1 : Ev t 3 0 st r1) (h2 : Ev t 6 r1.1 r1.2 r) : Ev t 2 0 st r :=
  ev_succ (by obtain ⟨a, h⟩ := ev_max h1 h2; exact ⟨a, fun f hf => by obtain ⟨x, y⟩ := h f hf; rw [goS, if_neg (by decide), if_neg (by decide), if_pos rfl, x, y]⟩)
theorem Ev.group (he : (nextS t st.1).1 = 40) (h1 : Ev t 0 0 ((nextS t st.1).2, st.2) r1) : Ev t 3 0 st (closeS t r1) :=
  ev_succ (by obtain ⟨a, h⟩ := h1; exact ⟨a, fun f hf => by rw [goS, if_neg (by decide), if_neg (by decide), if_neg (by decide), if_pos rfl, if_pos he, h f hf]⟩)
theorem Ev.list (he : (nextS t st.1).1 = 91) : Ev t 3 0 st (listS t ((nextS t st.1).2, st.2)) :=
  ev_succ ⟨0, fun f _ => by rw [goS, if_neg (by decide), if_neg (by decide), if_neg (by decide), if_pos rfl, if_neg (by rw [he]; decide), if_pos he]⟩
theorem Ev.plain (h1 : (nextS t st.1).1 ≠ 40) (h2 : (nextS t st.1).1 ≠ 91) : Ev t 3 0 st (plainS t (nextS t st.1).1 ((nextS t st.1).2, st.2)) :=
  ev_succ ⟨0, fun f _ => by rw [goS, if_neg (by decide), if_neg (by decide), if_neg (by decide), if_pos rfl, if_neg h1, if_neg h2]⟩
theorem Ev.or (he : (takeS t 124 st.1).1 = true) (h1 : Ev t 1 0 ((takeS t 124 st.1).2, st.2) r1) (h2 : Ev t 4 (joinS 5 cur r1.1 r1.2).1 (joinS 5 cur r1.1 r1.2).2 r) : Ev t 4 cur st r :=
  ev_succ (by obtain ⟨a, h⟩ := ev_max h1 h2; exact ⟨a, fun f hf => by
    obtain ⟨x, y⟩ := h f hf
    rw [goS, if_neg (by decide), if_neg (by decide), if_neg (by decide), if_neg (by decide), if_pos rfl, if_pos he, x, y]⟩)
theorem Ev.orEnd (he : (takeS t 124 st.1).1 = false) : Ev t 4 cur st (cur, st) :=
  ev_succ ⟨0, fun f _ => by rw [goS, if_neg (by decide), if_neg (by decide), if_neg (by decide), if_neg (by decide), if_pos rfl, if_neg (by rw [he]; decide)]⟩
theorem Ev.and (he : endS t st.1 = false) (h1 : Ev t 2 0 st r1) (h2 : Ev t 5 (joinS 4 cur r1.1 r1.2).1 (joinS 4 cur r1.1 r1.2).2 r) : Ev t 5 cur st r :=
  ev_succ (by obtain ⟨a, h⟩ := ev_max h1 h2; exact ⟨a, fun f hf => by
    obtain ⟨x, y⟩ := h f hf
    rw [goS, if_neg (by decide), if_neg (by decide), if_neg (by decide), if_neg (by decide), if_neg (by decide), if_pos rfl, if_neg (by rw [he]; decide), x, y]⟩)
theorem Ev.andEnd (he : endS t st.1 = true) : Ev t 5 cur st (cur, st) :=
  ev_succ ⟨0, fun f _ => by rw [goS, if_neg (by decide), if_neg (by decide), if_neg (by decide), if_neg (by decide), if_neg (by decide), if_pos rfl, if_pos he]⟩
theorem Ev.rep (he : repS t st.1 = true) (h2 : Ev t 6 (againS cur (repeatS t st.1).1 ((repeatS t st.1).2, st.2)).1 (againS cur (repeatS t st.1).1 ((repeatS t st.1).2, st.2)).2 r) : Ev t 6 cur st r :=
  ev_succ (by obtain ⟨a, h⟩ := h2; exact ⟨a, fun f hf => by
    rw [goS, if_neg (by decide), if_neg (by decide), if_neg (by decide), if_neg (by decide), if_neg (by decide), if_neg (by decide), if_pos he, h f hf]⟩)
theorem Ev.repEnd (he : repS t st.1 = false) : Ev t 6 cur st (cur, st) :=
  ev_succ ⟨0, fun f _ => by rw [goS, if_neg (by decide), if_neg (by decide), if_neg (by decide), if_neg (by decide), if_neg (by decide), if_neg (by decide), if_neg (by rw [he]; decide)]⟩
/-- There is one outcome. -/
theorem Ev.one {tag : Nat} {r' : Nat × PS} (h : Ev t tag cur st r) (h' : Ev t tag cur st r') : r = r' := by
  obtain ⟨a, ha⟩ := h
  obtain ⟨c, hc⟩ := h'
  rw [← ha (a + c) (by omega), hc (a + c) (by omega)]
end

end Go.Proofs.YtgifhgnccmnbiabGreatDoor

set_option linter.unusedVariables false
set_option linter.unusedSimpArgs false
namespace Go.Proofs.YtgifhgnccmnbiabGreatDoor
open Go.RowKit Go.IntWalk

/-- What a call of the reader's leaves: 'tag' says which; k is 2 where it goes on by a byte at least. -/
structure Out (t : ByteArray) (tag b : Nat) (w w' : World) (st : PS) (k : Nat) (r : Nat × PS) : Prop where
  ev : Ev t tag 0 st r
  ns : NS w' b t r.2
  bel : Below b w w'
  idx : r.1 < r.2.2.length
  grow : st.2.length < r.2.2.length
  ge : st.1.1 ≤ r.2.1.1
  cnt : r.2.2.length + 2 * st.1.1 + k ≤ st.2.length + 2 * r.2.1.1 + 1

theorem out_add {t : ByteArray} {b : Nat} {w w' : World} {s s' : RS} {ns : List AN} {n : AN} (ev : Ev t 3 0 (s, ns) (addS n (s', ns))) (h : NS w' b t (addS n (s', ns)).2) (hb : Below b w w') (hs : s.1 < s'.1) :
    Out t 3 b w w' (s, ns) 2 (addS n (s', ns)) :=
  ⟨ev, h, hb, by simp [addS], by simp [addS], by simp [addS]; omega, by simp [addS]; omega⟩

/-- The pattern's contract, where fewer than m bytes are left. -/
def PatC (t : ByteArray) (m : Nat) : Prop :=
  ∀ (b : Nat) (s : RS) (ns : List AN) (v : Value) (xs : List IV) (w : World), t.size - s.1 < m → NV w b t s ns v xs → ns.length ≤ 500 + 2 * s.1 →
    Calls Tryz.prog 136 #[.pointer (some ⟨b, 0, none⟩)] w fun e w' => ∃ r : Nat × PS, e = .returned (.int .i64 (r.1 : Int)) ∧ Out t 0 b w w' (s, ns) 0 r

def AtomC (t : ByteArray) (b : Nat) (s : RS) (ns : List AN) (w : World) : Prop :=
  Calls Tryz.prog 205 #[.pointer (some ⟨b, 0, none⟩)] w fun e w' => ∃ r : Nat × PS, e = .returned (.int .i64 (r.1 : Int)) ∧ Out t 3 b w w' (s, ns) 2 r

section
variable {t : ByteArray} {b : Nat} {s : RS} {ns : List AN} {v : Value} {xs : List IV} {w : World}

/-- The front of each atom: the next byte is taken. -/
theorem front (h : NV w b t s ns v xs) (hp : s.1 < t.size) : s.1 < (nextS t s).2.1 ∧ b < w.heap.size := ⟨next_gt hp, h.rd.blk.lt⟩

set_option maxHeartbeats 1000000 in
theorem atom_dot (h : NV w b t s ns v xs) (hm : ns.length ≤ 1000) (hp : s.1 < t.size) (hc : (nextS t s).1 = 46) : AtomC t b s ns w := by
  obtain ⟨hgt, hbw⟩ := front h hp
  have ev : Ev t 3 0 (s, ns) (bytesS 0 255 ((nextS t s).2, ns)) := by
    have e := Ev.plain (t := t) (st := (s, ns)) (by rw [hc]; decide) (by rw [hc]; decide)
    simp only [hc, plainS] at e
    exact e
  unfold AtomC
  go_enter Tryz.func205, Tryz.ntmps205
  go_wp2_with fail
  refine (next_any b t s v _ h.rd).mono ?_
  rintro e w1 ⟨rfl, h1, k1⟩
  have n1 := h.scan h1 k1
  have b1 : Below b w w1 := k1.below (by omega) (by simp)
  go_wp2_with fail
  refine (bytes_any b 0 255 t _ ns v xs _ n1 hm).mono ?_
  rintro e w2 ⟨rfl, h2, b2⟩
  go_wp2
  go_ret
  exact ⟨_, rfl, out_add ev h2 (b1.trans b2) hgt⟩

set_option maxHeartbeats 1000000 in
theorem atom_begin (h : NV w b t s ns v xs) (hm : ns.length ≤ 1000) (hp : s.1 < t.size) (hc : (nextS t s).1 = 94) : AtomC t b s ns w := by
  obtain ⟨hgt, hbw⟩ := front h hp
  have ev : Ev t 3 0 (s, ns) (addS { kind := 2, size := 1 } ((nextS t s).2, ns)) := by
    have e := Ev.plain (t := t) (st := (s, ns)) (by rw [hc]; decide) (by rw [hc]; decide)
    simp only [hc, plainS] at e
    exact e
  unfold AtomC
  go_enter Tryz.func205, Tryz.ntmps205
  go_wp2_with fail
  refine (next_any b t s v _ h.rd).mono ?_
  rintro e w1 ⟨rfl, h1, k1⟩
  have n1 := h.scan h1 k1
  have b1 : Below b w w1 := k1.below (by omega) (by simp)
  go_wp2_with fail
  refine (add_plain b t _ ns v xs 2 0 0 0 0 1 _ n1 hm (by omega) (by omega)).mono ?_
  rintro e w2 ⟨rfl, h2, b2⟩
  go_wp2
  go_ret
  exact ⟨_, rfl, out_add ev h2 (b1.trans b2) hgt⟩

set_option maxHeartbeats 1000000 in
theorem atom_end (h : NV w b t s ns v xs) (hm : ns.length ≤ 1000) (hp : s.1 < t.size) (hc : (nextS t s).1 = 36) : AtomC t b s ns w := by
  obtain ⟨hgt, hbw⟩ := front h hp
  have ev : Ev t 3 0 (s, ns) (addS { kind := 3, size := 1 } ((nextS t s).2, ns)) := by
    have e := Ev.plain (t := t) (st := (s, ns)) (by rw [hc]; decide) (by rw [hc]; decide)
    simp only [hc, plainS] at e
    exact e
  unfold AtomC
  go_enter Tryz.func205, Tryz.ntmps205
  go_wp2_with fail
  refine (next_any b t s v _ h.rd).mono ?_
  rintro e w1 ⟨rfl, h1, k1⟩
  have n1 := h.scan h1 k1
  have b1 : Below b w w1 := k1.below (by omega) (by simp)
  go_wp2_with fail
  refine (add_plain b t _ ns v xs 3 0 0 0 0 1 _ n1 hm (by omega) (by omega)).mono ?_
  rintro e w2 ⟨rfl, h2, b2⟩
  go_wp2
  go_ret
  exact ⟨_, rfl, out_add ev h2 (b1.trans b2) hgt⟩

set_option maxHeartbeats 1000000 in
theorem atom_esc (h : NV w b t s ns v xs) (hm : ns.length ≤ 1000) (hp : s.1 < t.size) (hc : (nextS t s).1 = 92) : AtomC t b s ns w := by
  obtain ⟨hgt, hbw⟩ := front h hp
  have hgt2 := next_ge (t := t) (s := (nextS t s).2) (fits_next (Nat.le_of_lt hp))
  have ev : Ev t 3 0 (s, ns) (bytesS (nextS t (nextS t s).2).1 (nextS t (nextS t s).2).1 ((nextS t (nextS t s).2).2, ns)) := by
    have e := Ev.plain (t := t) (st := (s, ns)) (by rw [hc]; decide) (by rw [hc]; decide)
    simp only [hc, plainS] at e
    exact e
  unfold AtomC
  go_enter Tryz.func205, Tryz.ntmps205
  go_wp2_with fail
  refine (next_any b t s v _ h.rd).mono ?_
  rintro e w1 ⟨rfl, h1, k1⟩
  have n1 := h.scan h1 k1
  have b1 : Below b w w1 := k1.below (by omega) (by simp)
  go_wp2_with fail
  refine (next_any b t _ v _ h1).mono ?_
  rintro e w2 ⟨rfl, h2, k2⟩
  have n2 := n1.scan h2 k2
  have b2 : Below b w w2 := b1.trans (k2.below (by have := h1.blk.lt; omega) (by simp))
  go_wp2_with fail
  refine (bytes_any b _ _ t _ ns v xs _ n2 hm).mono ?_
  rintro e w3 ⟨rfl, h3, b3⟩
  go_wp2
  go_ret
  exact ⟨_, rfl, out_add ev h3 (b2.trans b3) (by omega)⟩

set_option maxHeartbeats 1000000 in
theorem atom_list (h : NV w b t s ns v xs) (hm : ns.length ≤ 1000) (hp : s.1 < t.size) (hc : (nextS t s).1 = 91) : AtomC t b s ns w := by
  obtain ⟨hgt, hbw⟩ := front h hp
  have ev : Ev t 3 0 (s, ns) (listS t ((nextS t s).2, ns)) := Ev.list (st := (s, ns)) hc
  unfold AtomC
  go_enter Tryz.func205, Tryz.ntmps205
  go_wp2_with fail
  refine (next_any b t s v _ h.rd).mono ?_
  rintro e w1 ⟨rfl, h1, k1⟩
  have n1 := h.scan h1 k1
  have b1 : Below b w w1 := k1.below (by omega) (by simp)
  go_wp2_with fail
  refine (list_any b t _ ns v xs _ n1 hm).mono ?_
  rintro e w2 ⟨rfl, h2, b2⟩
  go_wp2
  go_ret
  have hl : (nextS t s).2.1 ≤ (if (takeS t 93 (itemsS t (takeS t 94 (nextS t s).2).2 []).2).1 = false ∨ (itemsS t (takeS t 94 (nextS t s).2).2 []).1.length = 0 then failS t else (takeS t 93 (itemsS t (takeS t 94 (nextS t s).2).2 []).2).2).1 := by
    split
    · exact h1.fits
    · exact Nat.le_trans take_ge (Nat.le_trans (itemsS_ge (fits_take (by omega) h1.fits)) take_ge)
  exact ⟨_, rfl, out_add ev h2 (b1.trans b2) (Nat.lt_of_lt_of_le hgt hl)⟩

set_option maxHeartbeats 1000000 in
theorem atom_bad (c : Int) (h : NV w b t s ns v xs) (hm : ns.length ≤ 1000) (hp : s.1 < t.size) (hc : (nextS t s).1 = c) (hcc : c = 41 ∨ c = 124 ∨ c = 42 ∨ c = 43 ∨ c = 63 ∨ c = 123) : AtomC t b s ns w := by
  obtain ⟨hgt, hbw⟩ := front h hp
  have ev : Ev t 3 0 (s, ns) (bytesS c c (failS t, ns)) := by
    have e := Ev.plain (t := t) (st := (s, ns)) (by simp only [hc]; omega) (by simp only [hc]; omega)
    simp only [hc, plainS] at e
    rw [if_neg (by omega), if_neg (by omega), if_neg (by omega), if_neg (by omega), if_pos hcc] at e
    exact e
  unfold AtomC
  rcases hcc with rfl | rfl | rfl | rfl | rfl | rfl
  all_goals
    go_enter Tryz.func205, Tryz.ntmps205
    go_wp2_with fail
    refine (next_any b t s v _ h.rd).mono ?_
    rintro e w1 ⟨rfl, h1, k1⟩
    have n1 := h.scan h1 k1
    have b1 : Below b w w1 := k1.below (by omega) (by simp)
    go_wp2_with fail
    refine (fail_any b t _ v _ h1).mono ?_
    rintro e w2 ⟨rfl, h2, k2⟩
    have n2 := n1.scan h2 k2
    have b2 : Below b w w2 := b1.trans (k2.below (by have := h1.blk.lt; omega) (by simp))
    go_wp2_with fail
    refine (bytes_any b _ _ t _ ns v xs _ n2 hm).mono ?_
    rintro e w3 ⟨rfl, h3, b3⟩
    go_wp2
    go_ret
    exact ⟨_, rfl, out_add ev h3 (b2.trans b3) hp⟩

set_option maxHeartbeats 1000000 in
theorem atom_byte (h : NV w b t s ns v xs) (hm : ns.length ≤ 1000) (hp : s.1 < t.size) (c : Int) (hc : (nextS t s).1 = c)
    (n1 : c ≠ 40) (n2 : c ≠ 91) (n3 : c ≠ 46) (n4 : c ≠ 94) (n5 : c ≠ 36) (n6 : c ≠ 92) (n7 : c ≠ 41) (n8 : c ≠ 124) (n9 : c ≠ 42) (n10 : c ≠ 43) (n11 : c ≠ 63) (n12 : c ≠ 123) : AtomC t b s ns w := by
  obtain ⟨hgt, hbw⟩ := front h hp
  have ev : Ev t 3 0 (s, ns) (bytesS c c ((nextS t s).2, ns)) := by
    have e := Ev.plain (t := t) (st := (s, ns)) (by simp only [hc]; omega) (by simp only [hc]; omega)
    simp only [hc, plainS] at e
    rw [if_neg n3, if_neg n4, if_neg n5, if_neg n6, if_neg (by omega)] at e
    exact e
  have m1 := beq_eq_false_iff_ne.2 n1
  have m2 := beq_eq_false_iff_ne.2 n2
  have m3 := beq_eq_false_iff_ne.2 n3
  have m4 := beq_eq_false_iff_ne.2 n4
  have m5 := beq_eq_false_iff_ne.2 n5
  have m6 := beq_eq_false_iff_ne.2 n6
  have m7 := beq_eq_false_iff_ne.2 n7
  have m8 := beq_eq_false_iff_ne.2 n8
  have m9 := beq_eq_false_iff_ne.2 n9
  have m10 := beq_eq_false_iff_ne.2 n10
  have m11 := beq_eq_false_iff_ne.2 n11
  have m12 := beq_eq_false_iff_ne.2 n12
  clear n1 n2 n3 n4 n5 n6 n7 n8 n9 n10 n11 n12
  unfold AtomC
  go_enter Tryz.func205, Tryz.ntmps205
  go_wp2_with fail
  refine (next_any b t s v _ h.rd).mono ?_
  rw [hc]
  rintro e w1 ⟨rfl, h1, k1⟩
  have n1 := h.scan h1 k1
  have b1 : Below b w w1 := k1.below (by omega) (by simp)
  go_wp2_with fail
  refine (bytes_any b c c t _ ns v xs _ n1 hm).mono ?_
  rintro e w2 ⟨rfl, h2, b2⟩
  go_wp2
  go_ret
  exact ⟨_, rfl, out_add ev h2 (b1.trans b2) hgt⟩

end

end Go.Proofs.YtgifhgnccmnbiabGreatDoor
