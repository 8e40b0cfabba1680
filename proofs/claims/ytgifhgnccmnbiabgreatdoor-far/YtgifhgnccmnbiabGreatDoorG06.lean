/- The machine: partOf: the part of a node. -/
import Derived.Test.YtgifhgnccmnbiabGreatDoorG05
import Derived.Test.YtgifhgnccmnbiabGreatDoorG01
import Derived.Deep.DeepCutAuto
import Derived.Deep.Cut
import Derived.Deep.CutRange
set_option linter.unusedVariables false
set_option linter.unusedSimpArgs false
namespace Go.Proofs.YtgifhgnccmnbiabGreatDoor
open Go.RowKit Go.IntWalk

theorem PartsIn.keep {w w' : World} {B : Nat} {v : Value} {ps : List GP} {S : List Nat} (h : PartsIn w B v ps) (k : Kept S w w') (hs : ∀ g, g ∈ S → g < B) : PartsIn w' B v ps := by
  refine ⟨h.1, ?_⟩
  rcases h.2 with h1 | ⟨g, cap, cur, h1, h2, h3, h4⟩
  · exact Or.inl h1
  · have hlt : g < w.heap.size := (Array.getElem?_eq_some_iff.1 h3).1
    exact Or.inr ⟨g, cap, cur, h1, h2, (k.block g hlt (fun hc => by have := hs g hc; omega)).trans h3, h4⟩
theorem PartsIn.fresh {w w' : World} {B : Nat} {v : Value} {ps : List GP} {o : Obj} (h : PartsIn w B v ps) (k : Kept [w.heap.size] (w.alloc o) w') : PartsIn w' B v ps := by
  refine ⟨h.1, ?_⟩
  rcases h.2 with h1 | ⟨g, cap, cur, h1, h2, h3, h4⟩
  · exact Or.inl h1
  · have hlt : g < w.heap.size := (Array.getElem?_eq_some_iff.1 h3).1
    exact Or.inr ⟨g, cap, cur, h1, h2, ((k.block g (by simp; omega) (by simp; omega)).trans (Below.heap_alloc _ _ _ hlt)).trans h3, h4⟩

def stepP (k : Nat) : GP := { count := 1, first := 1#64, last := 1#64, node := fun i => if i = 0 then k else 0 }
def partOfP (n : AN) (k : Nat) (ps : List GP) : GP :=
  if n.kind = 0 then noneP else if n.kind = 4 then bothP (partAtP ps n.left) (partAtP ps n.right) else if n.kind = 5 then eitherP (partAtP ps n.left) (partAtP ps n.right)
  else if n.kind = 6 then repP (partAtP ps n.left) n.least n.most else stepP k

/-- What a node asks, so that its part has room. -/
structure NodeFits (n : AN) (ps : List GP) : Prop where
  left : -1000 ≤ n.left ∧ n.left ≤ 1000
  right : -1000 ≤ n.right ∧ n.right ≤ 1000
  two : n.kind = 4 ∨ n.kind = 5 → (partAtP ps n.left).count + (partAtP ps n.right).count ≤ 60
  fit : n.kind = 6 → (partAtP ps n.left).Fit
  rep : n.kind = 6 → 0 ≤ n.least ∧ n.least ≤ 9 ∧ -1 ≤ n.most ∧ n.most ≤ 9 ∧ repN n.least n.most * (partAtP ps n.left).count ≤ 60

/-- The node and the result's room. -/
structure OfIn (w0 w : World) (n : AN) (x : IV) : Prop where
  b0 : Blk w w0.heap.size #[.int .i64 n.kind, .slice x.1 x.2.1 x.2.2, .bool n.neg, .int .i64 n.left, .int .i64 n.right, .int .i64 n.least, .int .i64 n.most, .int .i64 n.size] 164
  b1 : Blk w (w0.heap.size + 1) (gpCells {}) 158
  k : Kept [] w0 w
theorem OfIn.kept {w0 w w' : World} {n : AN} {x : IV} (h : OfIn w0 w n x) (k : Kept [] w w') : OfIn w0 w' n x := ⟨h.b0.kept k (by simp), h.b1.kept k (by simp), h.k.trans k⟩
theorem OfIn.fresh {w0 w w' : World} {n : AN} {x : IV} {o : Obj} (h : OfIn w0 w n x) (k : Kept [w.heap.size] (w.alloc o) w') : OfIn w0 w' n x := by
  have := h.b1.lt
  exact ⟨(h.b0.alloc o).kept k (by simp; omega), (h.b1.alloc o).kept k (by simp; omega), (h.k.alloc o).into k (by omega)⟩

set_option maxHeartbeats 2000000 in
set_option maxRecDepth 100000 in
theorem partOf_none (n : AN) (x : IV) (k : Nat) (ps : List GP) (B : Nat) (v : Value) (w : World) (h : PartsIn w B v ps) (hl : ps.length ≤ 1000) (hk : k ≤ 1000) (hn : NodeFits n ps) (hkd : n.kind = 0) :
    PartCall 140 #[.agg #[.int .i64 n.kind, .slice x.1 x.2.1 x.2.2, .bool n.neg, .int .i64 n.left, .int .i64 n.right, .int .i64 n.least, .int .i64 n.most, .int .i64 n.size], .int .i64 (k : Int), v] w (partOfP n k ps) := by
  have eP : partOfP n k ps = noneP := by unfold partOfP; rw [if_pos hkd]
  rw [eP]
  unfold PartCall
  have hz := zeroV_part
  have hB : OfIn w ((w.alloc (.cells #[.int .i64 n.kind, .slice x.1 x.2.1 x.2.2, .bool n.neg, .int .i64 n.left, .int .i64 n.right, .int .i64 n.least, .int .i64 n.most, .int .i64 n.size] 164)).alloc (.cells (gpCells {}) 158)) n x := ⟨(Blk.new _ _ _).alloc _, Blk.new1 _ _ _ _, ((Kept.refl _ _).alloc _).alloc _⟩
  have hPP : PartsIn ((w.alloc (.cells #[.int .i64 n.kind, .slice x.1 x.2.1 x.2.2, .bool n.neg, .int .i64 n.left, .int .i64 n.right, .int .i64 n.least, .int .i64 n.most, .int .i64 n.size] 164)).alloc (.cells (gpCells {}) 158)) B v ps := h.keep (((Kept.refl [] _).alloc _).alloc _) (by simp)
  have hPH : Hid (PartsIn _ _ _ _) := hPP
  have hlH : Hid (∀ w', PartsIn w' B v ps → PartCall 176 #[v, .int .i64 n.left] w' (partAtP ps n.left)) := fun w' h' => partAt_any ps B v n.left w' h' hl hn.left.1 hn.left.2
  have hrH : Hid (∀ w', PartsIn w' B v ps → PartCall 176 #[v, .int .i64 n.right] w' (partAtP ps n.right)) := fun w' h' => partAt_any ps B v n.right w' h' hl hn.right.1 hn.right.2
  have hkH : Hid (_ ) := hkd
  clear h hn hPP hkd
  generalize partAtP ps n.left = L at *
  generalize partAtP ps n.right = R at *
  go_enter Tryz.func140, Tryz.ntmps140
  go_wp2_with (first
    | (go_at_call 176
       refine (hlH.out _ hPH.out).mono ?_
       rintro e w1 ⟨rfl, k1⟩
       have hB1 := hB.kept k1
       have hP1 : Hid (PartsIn _ _ _ _) := hPH.out.keep k1 (by simp)
       clear hPH hB)
    | (with_reducible refine wpList_store_part ?_ (.tmp 7) (.tmp 13) ?_ w1.heap.size ?_ {} L ?_ ?_ ?_
       · rfl
       · rfl
       · rfl
       · rfl
       · exact Blk.new w1 (gpCells {}) 158
       intro w2 hb2 hk2 hs2
       have hB2 := hB1.fresh hk2
       have hP2 : Hid (PartsIn _ _ _ _) := hP1.out.fresh hk2
       have c4 : w2.cell? ⟨w.heap.size, 4, none⟩ = some (.int .i64 n.right) := by rw [hB2.b0.cell]; rfl
       clear hs2)
    | (go_at_call 176
       refine (hrH.out _ hP2.out).mono ?_
       rintro e w3 ⟨rfl, k3⟩
       have hB3 := hB2.kept k3
       have hb3 := hb2.kept k3 (by simp)
       clear c4)
    | (with_reducible refine wpList_store_part ?_ (.tmp 8) (.tmp 17) ?_ w3.heap.size ?_ {} R ?_ ?_ ?_
       · rfl
       · rfl
       · rfl
       · rfl
       · exact Blk.new w3 (gpCells {}) 158
       intro w4 hb4 hk4 hs4
       have hB4 := hB3.fresh hk4
       have hlt3 := hb3.lt
       have hlt1 := hB1.b1.lt
       have hL4 : Blk w4 w1.heap.size (gpCells L) 158 := (hb3.alloc _).kept hk4 (by simp; omega)
       have e0 : w4.cell? ⟨w.heap.size, 0, none⟩ = some (.int .i64 n.kind) := by rw [hB4.b0.cell]; rfl
       have e5 : w4.cell? ⟨w.heap.size, 5, none⟩ = some (.int .i64 n.least) := by rw [hB4.b0.cell]; rfl
       have e6 : w4.cell? ⟨w.heap.size, 6, none⟩ = some (.int .i64 n.most) := by rw [hB4.b0.cell]; rfl
       rw [hkH.out] at e0)
    | (refine wpList_build_none rfl rfl ?_)
    | (with_reducible refine wpList_store_part ?_ (.tmp 6) (.tmp 22) ?_ (w.heap.size + 1) ?_ {} noneP ?_ ?_ ?_
       · rfl
       · rfl
       · rfl
       · rfl
       · exact hB4.b1
       intro w8 hb8 hk8 hs8
       have hK8 := hB4.k.into hk8 (by omega)))
  exact bodyPost_ret (v := .agg (gpCells noneP)) (results_part Tryz.results140 _ _ _ noneP rfl hb8) rfl ⟨rfl, hK8⟩

set_option maxHeartbeats 2000000 in
set_option maxRecDepth 100000 in
theorem partOf_both (n : AN) (x : IV) (k : Nat) (ps : List GP) (B : Nat) (v : Value) (w : World) (h : PartsIn w B v ps) (hl : ps.length ≤ 1000) (hk : k ≤ 1000) (hn : NodeFits n ps) (hkd : n.kind = 4) :
    PartCall 140 #[.agg #[.int .i64 n.kind, .slice x.1 x.2.1 x.2.2, .bool n.neg, .int .i64 n.left, .int .i64 n.right, .int .i64 n.least, .int .i64 n.most, .int .i64 n.size], .int .i64 (k : Int), v] w (partOfP n k ps) := by
  have eP : partOfP n k ps = bothP (partAtP ps n.left) (partAtP ps n.right) := by unfold partOfP; rw [if_neg (by omega), if_pos hkd]
  rw [eP]
  have hcall : Hid (∀ w, PartCall 177 _ w _) := fun w => both_any (partAtP ps n.left) (partAtP ps n.right) (hn.two (Or.inl hkd)) w
  generalize bothP (partAtP ps n.left) (partAtP ps n.right) = P at *
  unfold PartCall
  have hz := zeroV_part
  have hB : OfIn w ((w.alloc (.cells #[.int .i64 n.kind, .slice x.1 x.2.1 x.2.2, .bool n.neg, .int .i64 n.left, .int .i64 n.right, .int .i64 n.least, .int .i64 n.most, .int .i64 n.size] 164)).alloc (.cells (gpCells {}) 158)) n x := ⟨(Blk.new _ _ _).alloc _, Blk.new1 _ _ _ _, ((Kept.refl _ _).alloc _).alloc _⟩
  have hPP : PartsIn ((w.alloc (.cells #[.int .i64 n.kind, .slice x.1 x.2.1 x.2.2, .bool n.neg, .int .i64 n.left, .int .i64 n.right, .int .i64 n.least, .int .i64 n.most, .int .i64 n.size] 164)).alloc (.cells (gpCells {}) 158)) B v ps := h.keep (((Kept.refl [] _).alloc _).alloc _) (by simp)
  have hPH : Hid (PartsIn _ _ _ _) := hPP
  have hlH : Hid (∀ w', PartsIn w' B v ps → PartCall 176 #[v, .int .i64 n.left] w' (partAtP ps n.left)) := fun w' h' => partAt_any ps B v n.left w' h' hl hn.left.1 hn.left.2
  have hrH : Hid (∀ w', PartsIn w' B v ps → PartCall 176 #[v, .int .i64 n.right] w' (partAtP ps n.right)) := fun w' h' => partAt_any ps B v n.right w' h' hl hn.right.1 hn.right.2
  have hkH : Hid (_ ) := hkd
  clear h hn hPP hkd
  generalize partAtP ps n.left = L at *
  generalize partAtP ps n.right = R at *
  go_enter Tryz.func140, Tryz.ntmps140
  go_wp2_with (first
    | (go_at_call 176
       refine (hlH.out _ hPH.out).mono ?_
       rintro e w1 ⟨rfl, k1⟩
       have hB1 := hB.kept k1
       have hP1 : Hid (PartsIn _ _ _ _) := hPH.out.keep k1 (by simp)
       clear hPH hB)
    | (with_reducible refine wpList_store_part ?_ (.tmp 7) (.tmp 13) ?_ w1.heap.size ?_ {} L ?_ ?_ ?_
       · rfl
       · rfl
       · rfl
       · rfl
       · exact Blk.new w1 (gpCells {}) 158
       intro w2 hb2 hk2 hs2
       have hB2 := hB1.fresh hk2
       have hP2 : Hid (PartsIn _ _ _ _) := hP1.out.fresh hk2
       have c4 : w2.cell? ⟨w.heap.size, 4, none⟩ = some (.int .i64 n.right) := by rw [hB2.b0.cell]; rfl
       clear hs2)
    | (go_at_call 176
       refine (hrH.out _ hP2.out).mono ?_
       rintro e w3 ⟨rfl, k3⟩
       have hB3 := hB2.kept k3
       have hb3 := hb2.kept k3 (by simp)
       clear c4)
    | (with_reducible refine wpList_store_part ?_ (.tmp 8) (.tmp 17) ?_ w3.heap.size ?_ {} R ?_ ?_ ?_
       · rfl
       · rfl
       · rfl
       · rfl
       · exact Blk.new w3 (gpCells {}) 158
       intro w4 hb4 hk4 hs4
       have hB4 := hB3.fresh hk4
       have hlt3 := hb3.lt
       have hlt1 := hB1.b1.lt
       have hL4 : Blk w4 w1.heap.size (gpCells L) 158 := (hb3.alloc _).kept hk4 (by simp; omega)
       have e0 : w4.cell? ⟨w.heap.size, 0, none⟩ = some (.int .i64 n.kind) := by rw [hB4.b0.cell]; rfl
       have e5 : w4.cell? ⟨w.heap.size, 5, none⟩ = some (.int .i64 n.least) := by rw [hB4.b0.cell]; rfl
       have e6 : w4.cell? ⟨w.heap.size, 6, none⟩ = some (.int .i64 n.most) := by rw [hB4.b0.cell]; rfl
       rw [hkH.out] at e0)
    | (with_reducible refine wpList_load_part ?_ (.tmp 7) ?_ w1.heap.size ?_ L ?_ ?_
       · rfl
       · rfl
       · rfl
       · exact hL4)
    | (with_reducible refine wpList_load_part ?_ (.tmp 8) ?_ w3.heap.size ?_ R ?_ ?_
       · rfl
       · rfl
       · rfl
       · exact hb4)
    | (go_at_call 177
       refine (hcall.out _).mono ?_
       rintro e w5 ⟨rfl, k5⟩
       have hB5 := hB4.kept k5)
    | (with_reducible refine wpList_store_part ?_ (.tmp 6) (.tmp 27) ?_ (w.heap.size + 1) ?_ {} P ?_ ?_ ?_
       · rfl
       · rfl
       · rfl
       · rfl
       · exact hB5.b1
       intro w8 hb8 hk8 hs8
       have hK8 := hB5.k.into hk8 (by omega)))
  exact bodyPost_ret (v := .agg (gpCells P)) (results_part Tryz.results140 _ _ _ P rfl hb8) rfl ⟨rfl, hK8⟩

set_option maxHeartbeats 2000000 in
set_option maxRecDepth 100000 in
theorem partOf_either (n : AN) (x : IV) (k : Nat) (ps : List GP) (B : Nat) (v : Value) (w : World) (h : PartsIn w B v ps) (hl : ps.length ≤ 1000) (hk : k ≤ 1000) (hn : NodeFits n ps) (hkd : n.kind = 5) :
    PartCall 140 #[.agg #[.int .i64 n.kind, .slice x.1 x.2.1 x.2.2, .bool n.neg, .int .i64 n.left, .int .i64 n.right, .int .i64 n.least, .int .i64 n.most, .int .i64 n.size], .int .i64 (k : Int), v] w (partOfP n k ps) := by
  have eP : partOfP n k ps = eitherP (partAtP ps n.left) (partAtP ps n.right) := by unfold partOfP; rw [if_neg (by omega), if_neg (by omega), if_pos hkd]
  rw [eP]
  have hcall : Hid (∀ w, PartCall 178 _ w _) := fun w => meither_any (partAtP ps n.left) (partAtP ps n.right) (hn.two (Or.inr hkd)) w
  generalize eitherP (partAtP ps n.left) (partAtP ps n.right) = P at *
  unfold PartCall
  have hz := zeroV_part
  have hB : OfIn w ((w.alloc (.cells #[.int .i64 n.kind, .slice x.1 x.2.1 x.2.2, .bool n.neg, .int .i64 n.left, .int .i64 n.right, .int .i64 n.least, .int .i64 n.most, .int .i64 n.size] 164)).alloc (.cells (gpCells {}) 158)) n x := ⟨(Blk.new _ _ _).alloc _, Blk.new1 _ _ _ _, ((Kept.refl _ _).alloc _).alloc _⟩
  have hPP : PartsIn ((w.alloc (.cells #[.int .i64 n.kind, .slice x.1 x.2.1 x.2.2, .bool n.neg, .int .i64 n.left, .int .i64 n.right, .int .i64 n.least, .int .i64 n.most, .int .i64 n.size] 164)).alloc (.cells (gpCells {}) 158)) B v ps := h.keep (((Kept.refl [] _).alloc _).alloc _) (by simp)
  have hPH : Hid (PartsIn _ _ _ _) := hPP
  have hlH : Hid (∀ w', PartsIn w' B v ps → PartCall 176 #[v, .int .i64 n.left] w' (partAtP ps n.left)) := fun w' h' => partAt_any ps B v n.left w' h' hl hn.left.1 hn.left.2
  have hrH : Hid (∀ w', PartsIn w' B v ps → PartCall 176 #[v, .int .i64 n.right] w' (partAtP ps n.right)) := fun w' h' => partAt_any ps B v n.right w' h' hl hn.right.1 hn.right.2
  have hkH : Hid (_ ) := hkd
  clear h hn hPP hkd
  generalize partAtP ps n.left = L at *
  generalize partAtP ps n.right = R at *
  go_enter Tryz.func140, Tryz.ntmps140
  go_wp2_with (first
    | (go_at_call 176
       refine (hlH.out _ hPH.out).mono ?_
       rintro e w1 ⟨rfl, k1⟩
       have hB1 := hB.kept k1
       have hP1 : Hid (PartsIn _ _ _ _) := hPH.out.keep k1 (by simp)
       clear hPH hB)
    | (with_reducible refine wpList_store_part ?_ (.tmp 7) (.tmp 13) ?_ w1.heap.size ?_ {} L ?_ ?_ ?_
       · rfl
       · rfl
       · rfl
       · rfl
       · exact Blk.new w1 (gpCells {}) 158
       intro w2 hb2 hk2 hs2
       have hB2 := hB1.fresh hk2
       have hP2 : Hid (PartsIn _ _ _ _) := hP1.out.fresh hk2
       have c4 : w2.cell? ⟨w.heap.size, 4, none⟩ = some (.int .i64 n.right) := by rw [hB2.b0.cell]; rfl
       clear hs2)
    | (go_at_call 176
       refine (hrH.out _ hP2.out).mono ?_
       rintro e w3 ⟨rfl, k3⟩
       have hB3 := hB2.kept k3
       have hb3 := hb2.kept k3 (by simp)
       clear c4)
    | (with_reducible refine wpList_store_part ?_ (.tmp 8) (.tmp 17) ?_ w3.heap.size ?_ {} R ?_ ?_ ?_
       · rfl
       · rfl
       · rfl
       · rfl
       · exact Blk.new w3 (gpCells {}) 158
       intro w4 hb4 hk4 hs4
       have hB4 := hB3.fresh hk4
       have hlt3 := hb3.lt
       have hlt1 := hB1.b1.lt
       have hL4 : Blk w4 w1.heap.size (gpCells L) 158 := (hb3.alloc _).kept hk4 (by simp; omega)
       have e0 : w4.cell? ⟨w.heap.size, 0, none⟩ = some (.int .i64 n.kind) := by rw [hB4.b0.cell]; rfl
       have e5 : w4.cell? ⟨w.heap.size, 5, none⟩ = some (.int .i64 n.least) := by rw [hB4.b0.cell]; rfl
       have e6 : w4.cell? ⟨w.heap.size, 6, none⟩ = some (.int .i64 n.most) := by rw [hB4.b0.cell]; rfl
       rw [hkH.out] at e0)
    | (with_reducible refine wpList_load_part ?_ (.tmp 7) ?_ w1.heap.size ?_ L ?_ ?_
       · rfl
       · rfl
       · rfl
       · exact hL4)
    | (with_reducible refine wpList_load_part ?_ (.tmp 8) ?_ w3.heap.size ?_ R ?_ ?_
       · rfl
       · rfl
       · rfl
       · exact hb4)
    | (go_at_call 178
       refine (hcall.out _).mono ?_
       rintro e w5 ⟨rfl, k5⟩
       have hB5 := hB4.kept k5)
    | (with_reducible refine wpList_store_part ?_ (.tmp 6) (.tmp 32) ?_ (w.heap.size + 1) ?_ {} P ?_ ?_ ?_
       · rfl
       · rfl
       · rfl
       · rfl
       · exact hB5.b1
       intro w8 hb8 hk8 hs8
       have hK8 := hB5.k.into hk8 (by omega)))
  exact bodyPost_ret (v := .agg (gpCells P)) (results_part Tryz.results140 _ _ _ P rfl hb8) rfl ⟨rfl, hK8⟩

set_option maxHeartbeats 2000000 in
set_option maxRecDepth 100000 in
theorem partOf_rep (n : AN) (x : IV) (k : Nat) (ps : List GP) (B : Nat) (v : Value) (w : World) (h : PartsIn w B v ps) (hl : ps.length ≤ 1000) (hk : k ≤ 1000) (hn : NodeFits n ps) (hkd : n.kind = 6) :
    PartCall 140 #[.agg #[.int .i64 n.kind, .slice x.1 x.2.1 x.2.2, .bool n.neg, .int .i64 n.left, .int .i64 n.right, .int .i64 n.least, .int .i64 n.most, .int .i64 n.size], .int .i64 (k : Int), v] w (partOfP n k ps) := by
  have eP : partOfP n k ps = repP (partAtP ps n.left) n.least n.most := by unfold partOfP; rw [if_neg (by omega), if_neg (by omega), if_neg (by omega), if_pos hkd]
  rw [eP]
  obtain ⟨q1, q2, q3, q4, q5⟩ := hn.rep hkd
  have hcall : Hid (∀ w, PartCall 179 _ w _) := fun w => repeated_any (partAtP ps n.left) (hn.fit hkd) n.least n.most q1 q2 q3 q4 q5 w
  clear q5
  generalize repP (partAtP ps n.left) n.least n.most = P at *
  unfold PartCall
  have hz := zeroV_part
  have hB : OfIn w ((w.alloc (.cells #[.int .i64 n.kind, .slice x.1 x.2.1 x.2.2, .bool n.neg, .int .i64 n.left, .int .i64 n.right, .int .i64 n.least, .int .i64 n.most, .int .i64 n.size] 164)).alloc (.cells (gpCells {}) 158)) n x := ⟨(Blk.new _ _ _).alloc _, Blk.new1 _ _ _ _, ((Kept.refl _ _).alloc _).alloc _⟩
  have hPP : PartsIn ((w.alloc (.cells #[.int .i64 n.kind, .slice x.1 x.2.1 x.2.2, .bool n.neg, .int .i64 n.left, .int .i64 n.right, .int .i64 n.least, .int .i64 n.most, .int .i64 n.size] 164)).alloc (.cells (gpCells {}) 158)) B v ps := h.keep (((Kept.refl [] _).alloc _).alloc _) (by simp)
  have hPH : Hid (PartsIn _ _ _ _) := hPP
  have hlH : Hid (∀ w', PartsIn w' B v ps → PartCall 176 #[v, .int .i64 n.left] w' (partAtP ps n.left)) := fun w' h' => partAt_any ps B v n.left w' h' hl hn.left.1 hn.left.2
  have hrH : Hid (∀ w', PartsIn w' B v ps → PartCall 176 #[v, .int .i64 n.right] w' (partAtP ps n.right)) := fun w' h' => partAt_any ps B v n.right w' h' hl hn.right.1 hn.right.2
  have hkH : Hid (_ ) := hkd
  clear h hn hPP hkd
  generalize partAtP ps n.left = L at *
  generalize partAtP ps n.right = R at *
  go_enter Tryz.func140, Tryz.ntmps140
  go_wp2_with (first
    | (go_at_call 176
       refine (hlH.out _ hPH.out).mono ?_
       rintro e w1 ⟨rfl, k1⟩
       have hB1 := hB.kept k1
       have hP1 : Hid (PartsIn _ _ _ _) := hPH.out.keep k1 (by simp)
       clear hPH hB)
    | (with_reducible refine wpList_store_part ?_ (.tmp 7) (.tmp 13) ?_ w1.heap.size ?_ {} L ?_ ?_ ?_
       · rfl
       · rfl
       · rfl
       · rfl
       · exact Blk.new w1 (gpCells {}) 158
       intro w2 hb2 hk2 hs2
       have hB2 := hB1.fresh hk2
       have hP2 : Hid (PartsIn _ _ _ _) := hP1.out.fresh hk2
       have c4 : w2.cell? ⟨w.heap.size, 4, none⟩ = some (.int .i64 n.right) := by rw [hB2.b0.cell]; rfl
       clear hs2)
    | (go_at_call 176
       refine (hrH.out _ hP2.out).mono ?_
       rintro e w3 ⟨rfl, k3⟩
       have hB3 := hB2.kept k3
       have hb3 := hb2.kept k3 (by simp)
       clear c4)
    | (with_reducible refine wpList_store_part ?_ (.tmp 8) (.tmp 17) ?_ w3.heap.size ?_ {} R ?_ ?_ ?_
       · rfl
       · rfl
       · rfl
       · rfl
       · exact Blk.new w3 (gpCells {}) 158
       intro w4 hb4 hk4 hs4
       have hB4 := hB3.fresh hk4
       have hlt3 := hb3.lt
       have hlt1 := hB1.b1.lt
       have hL4 : Blk w4 w1.heap.size (gpCells L) 158 := (hb3.alloc _).kept hk4 (by simp; omega)
       have e0 : w4.cell? ⟨w.heap.size, 0, none⟩ = some (.int .i64 n.kind) := by rw [hB4.b0.cell]; rfl
       have e5 : w4.cell? ⟨w.heap.size, 5, none⟩ = some (.int .i64 n.least) := by rw [hB4.b0.cell]; rfl
       have e6 : w4.cell? ⟨w.heap.size, 6, none⟩ = some (.int .i64 n.most) := by rw [hB4.b0.cell]; rfl
       rw [hkH.out] at e0)
    | (with_reducible refine wpList_load_part ?_ (.tmp 7) ?_ w1.heap.size ?_ L ?_ ?_
       · rfl
       · rfl
       · rfl
       · exact hL4)
    | (go_at_call 179
       refine (hcall.out _).mono ?_
       rintro e w5 ⟨rfl, k5⟩
       have hB5 := hB4.kept k5)
    | (with_reducible refine wpList_store_part ?_ (.tmp 6) (.tmp 40) ?_ (w.heap.size + 1) ?_ {} P ?_ ?_ ?_
       · rfl
       · rfl
       · rfl
       · rfl
       · exact hB5.b1
       intro w8 hb8 hk8 hs8
       have hK8 := hB5.k.into hk8 (by omega)))
  exact bodyPost_ret (v := .agg (gpCells P)) (results_part Tryz.results140 _ _ _ P rfl hb8) rfl ⟨rfl, hK8⟩

set_option maxHeartbeats 2000000 in
set_option maxRecDepth 100000 in
theorem partOf_step (n : AN) (x : IV) (k : Nat) (ps : List GP) (B : Nat) (v : Value) (w : World) (h : PartsIn w B v ps) (hl : ps.length ≤ 1000) (hk : k ≤ 1000) (hn : NodeFits n ps) (hkd : n.kind = 1 ∨ n.kind = 2 ∨ n.kind = 3) :
    PartCall 140 #[.agg #[.int .i64 n.kind, .slice x.1 x.2.1 x.2.2, .bool n.neg, .int .i64 n.left, .int .i64 n.right, .int .i64 n.least, .int .i64 n.most, .int .i64 n.size], .int .i64 (k : Int), v] w (partOfP n k ps) := by
  have eP : partOfP n k ps = stepP k := by unfold partOfP; rw [if_neg (by omega), if_neg (by omega), if_neg (by omega), if_neg (by omega)]
  rw [eP]
  rw [show n.kind = n.kind from rfl]
  have hk0 : n.kind ≠ 0 := by omega
  have hk4 : n.kind ≠ 4 := by omega
  have hk5' : n.kind ≠ 5 := by omega
  have hk6' : n.kind ≠ 6 := by omega
  unfold PartCall
  have hz := zeroV_part
  have hB : OfIn w ((w.alloc (.cells #[.int .i64 n.kind, .slice x.1 x.2.1 x.2.2, .bool n.neg, .int .i64 n.left, .int .i64 n.right, .int .i64 n.least, .int .i64 n.most, .int .i64 n.size] 164)).alloc (.cells (gpCells {}) 158)) n x := ⟨(Blk.new _ _ _).alloc _, Blk.new1 _ _ _ _, ((Kept.refl _ _).alloc _).alloc _⟩
  have hPP : PartsIn ((w.alloc (.cells #[.int .i64 n.kind, .slice x.1 x.2.1 x.2.2, .bool n.neg, .int .i64 n.left, .int .i64 n.right, .int .i64 n.least, .int .i64 n.most, .int .i64 n.size] 164)).alloc (.cells (gpCells {}) 158)) B v ps := h.keep (((Kept.refl [] _).alloc _).alloc _) (by simp)
  have hPH : Hid (PartsIn _ _ _ _) := hPP
  have hlH : Hid (∀ w', PartsIn w' B v ps → PartCall 176 #[v, .int .i64 n.left] w' (partAtP ps n.left)) := fun w' h' => partAt_any ps B v n.left w' h' hl hn.left.1 hn.left.2
  have hrH : Hid (∀ w', PartsIn w' B v ps → PartCall 176 #[v, .int .i64 n.right] w' (partAtP ps n.right)) := fun w' h' => partAt_any ps B v n.right w' h' hl hn.right.1 hn.right.2
  have hkH : Hid (_ ) := hkd
  clear h hn hPP hkd
  generalize partAtP ps n.left = L at *
  generalize partAtP ps n.right = R at *
  go_enter Tryz.func140, Tryz.ntmps140
  go_wp2_with (first
    | (go_at_call 176
       refine (hlH.out _ hPH.out).mono ?_
       rintro e w1 ⟨rfl, k1⟩
       have hB1 := hB.kept k1
       have hP1 : Hid (PartsIn _ _ _ _) := hPH.out.keep k1 (by simp)
       clear hPH hB)
    | (with_reducible refine wpList_store_part ?_ (.tmp 7) (.tmp 13) ?_ w1.heap.size ?_ {} L ?_ ?_ ?_
       · rfl
       · rfl
       · rfl
       · rfl
       · exact Blk.new w1 (gpCells {}) 158
       intro w2 hb2 hk2 hs2
       have hB2 := hB1.fresh hk2
       have hP2 : Hid (PartsIn _ _ _ _) := hP1.out.fresh hk2
       have c4 : w2.cell? ⟨w.heap.size, 4, none⟩ = some (.int .i64 n.right) := by rw [hB2.b0.cell]; rfl
       clear hs2)
    | (go_at_call 176
       refine (hrH.out _ hP2.out).mono ?_
       rintro e w3 ⟨rfl, k3⟩
       have hB3 := hB2.kept k3
       have hb3 := hb2.kept k3 (by simp)
       clear c4)
    | (with_reducible refine wpList_store_part ?_ (.tmp 8) (.tmp 17) ?_ w3.heap.size ?_ {} R ?_ ?_ ?_
       · rfl
       · rfl
       · rfl
       · rfl
       · exact Blk.new w3 (gpCells {}) 158
       intro w4 hb4 hk4 hs4
       have hB4 := hB3.fresh hk4
       have hlt3 := hb3.lt
       have hlt1 := hB1.b1.lt
       have hL4 : Blk w4 w1.heap.size (gpCells L) 158 := (hb3.alloc _).kept hk4 (by simp; omega)
       have e0 : w4.cell? ⟨w.heap.size, 0, none⟩ = some (.int .i64 n.kind) := by rw [hB4.b0.cell]; rfl
       have e5 : w4.cell? ⟨w.heap.size, 5, none⟩ = some (.int .i64 n.least) := by rw [hB4.b0.cell]; rfl
       have e6 : w4.cell? ⟨w.heap.size, 6, none⟩ = some (.int .i64 n.most) := by rw [hB4.b0.cell]; rfl
       clear hs4)
    | (refine wpList_build_step rfl rfl ?_)
    | (with_reducible refine wpList_store_part ?_ (.tmp 9) (.tmp 41) ?_ w4.heap.size ?_ {} { count := 1, first := 1#64, last := 1#64 } ?_ ?_ ?_
       · rfl
       · rfl
       · rfl
       · rfl
       · exact Blk.new w4 (gpCells {}) 158
       intro w5 hb5 hk5 hs5
       have hB5 := hB4.fresh hk5
       have hlt4 := hB4.b1.lt
       have f5 := hb5.frozen 64
       have d5 := hb5.cell 64
       rw [part_node _ 0 (by decide)] at d5
       have hb6 := hb5.set (64 + 0) (.int .i64 (k : Int))
       rw [part_set_node _ (stepP k) 0 k (by decide) ⟨rfl, rfl, rfl, rfl, fun _ _ => rfl, fun _ _ => rfl⟩] at hb6
       have hb6 : Hid (Blk _ _ _ _) := hb6
       have hB6 : Hid (OfIn _ _ _ _) := ⟨hB5.b0.other (b' := w4.heap.size) (64 + 0) (.int .i64 (k : Int)) (by omega), hB5.b1.other (b' := w4.heap.size) (64 + 0) (.int .i64 (k : Int)) (by omega), hB5.k.setCell (p := ⟨w4.heap.size, 64 + 0, none⟩) (Or.inr (by simp; omega)) (.int .i64 (k : Int))⟩
       clear hk5)
    | (with_reducible refine wpList_load_part ?_ (.tmp 9) ?_ w4.heap.size ?_ (stepP k) ?_ ?_
       · rfl
       · rfl
       · rfl
       · exact hb6.out)
    | (with_reducible refine wpList_store_part ?_ (.tmp 6) (.tmp 45) ?_ (w.heap.size + 1) ?_ {} (stepP k) ?_ ?_ ?_
       · rfl
       · rfl
       · rfl
       · rfl
       · exact hB6.out.b1
       intro w8 hb8 hk8 hs8
       have hK8 := hB6.out.k.into hk8 (by omega)))
  exact bodyPost_ret (v := .agg (gpCells (stepP k))) (results_part Tryz.results140 _ _ _ (stepP k) rfl hb8) rfl ⟨rfl, hK8⟩

theorem partOf_any (n : AN) (x : IV) (k : Nat) (ps : List GP) (B : Nat) (v : Value) (w : World) (h : PartsIn w B v ps) (hl : ps.length ≤ 1000) (hk : k ≤ 1000) (hn : NodeFits n ps) (h0 : 0 ≤ n.kind) (h6 : n.kind ≤ 6) :
    PartCall 140 #[.agg #[.int .i64 n.kind, .slice x.1 x.2.1 x.2.2, .bool n.neg, .int .i64 n.left, .int .i64 n.right, .int .i64 n.least, .int .i64 n.most, .int .i64 n.size], .int .i64 (k : Int), v] w (partOfP n k ps) := by
  by_cases e0 : n.kind = 0
  · exact partOf_none n x k ps B v w h hl hk hn e0
  by_cases e4 : n.kind = 4
  · exact partOf_both n x k ps B v w h hl hk hn e4
  by_cases e5 : n.kind = 5
  · exact partOf_either n x k ps B v w h hl hk hn e5
  by_cases e6 : n.kind = 6
  · exact partOf_rep n x k ps B v w h hl hk hn e6
  exact partOf_step n x k ps B v w h hl hk hn (by omega)

end Go.Proofs.YtgifhgnccmnbiabGreatDoor

set_option linter.unusedVariables false
set_option linter.unusedSimpArgs false
namespace Go.Proofs.YtgifhgnccmnbiabGreatDoor

def markS (s : RS) : RS := (s.1, true)

/-- A part of a pattern; its kids by their numbers. -/
structure PN where
  kind : Int
  ins : Nat → Bool := fun _ => false
  neg : Bool := false
  kids : List Nat := []
  least : Int := 0
  most : Int := 0
def one (c : Int) : Nat → Bool := fun i => decide ((i : Int) = c)
end Go.Proofs.YtgifhgnccmnbiabGreatDoor

set_option linter.unusedVariables false
set_option linter.unusedSimpArgs false
namespace Go.Proofs.YtgifhgnccmnbiabGreatDoor
open Go.RowKit Go.IntWalk

/-- What is left of a text from a place on. -/
def sfx (t : ByteArray) (p : Nat) : ByteArray := t.extract p t.size
/-- The document's reader behind a pointer. -/
structure RR (w : World) (b : Nat) (t : ByteArray) (s : RS) : Prop where
  blk : Blk w b #[.string (sfx t s.1), .bool s.2] 178
  fits : Fits t s
  small : t.size ≤ 40
section
variable {w w' : World} {b : Nat} {t : ByteArray} {s : RS}
theorem RR.c0 (h : RR w b t s) : w.cell? ⟨b, 0, none⟩ = some (.string (sfx t s.1)) := by rw [Blk.cell h.blk]; rfl
theorem RR.c1 (h : RR w b t s) : w.cell? ⟨b, 1, none⟩ = some (.bool s.2) := by rw [Blk.cell h.blk]; rfl
theorem RR.f (h : RR w b t s) (j : Nat) : w.frozen? ⟨b, j, none⟩ = false := Blk.frozen h.blk j
theorem RR.on (h : RR w b t s) (hp : s.1 < t.size) : RR (w.setCell ⟨b, 0, none⟩ (.string (sfx t (s.1 + 1)))) b t (s.1 + 1, s.2) := ⟨Blk.set h.blk 0 _, hp, h.small⟩
theorem RR.mark (h : RR w b t s) : RR (w.setCell ⟨b, 1, none⟩ (.bool true)) b t (s.1, true) := ⟨Blk.set h.blk 1 _, h.fits, h.small⟩
theorem RR.kept {S : List Nat} (h : RR w b t s) (k : Kept S w w') (hb : ¬ b ∈ S) : RR w' b t s := ⟨Blk.kept h.blk k hb, h.fits, h.small⟩
theorem RR.drewN (h : RR w b t s) (n : Nat) : RR (w.drewN n) b t s := ⟨h.blk, h.fits, h.small⟩
end

end Go.Proofs.YtgifhgnccmnbiabGreatDoor

set_option linter.unusedVariables false
set_option linter.unusedSimpArgs false
namespace Go.Proofs.YtgifhgnccmnbiabGreatDoor
open Go.RowKit Go.IntWalk

/-- The 256 truths of a part. -/
def boolCells (f : Nat → Bool) : Array Value := ((List.range 256).map (fun i => Value.bool (f i))).toArray
theorem boolCells_set (f f' : Nat → Bool) (i : Nat) (h : ∀ j, j < 256 → f' j = if j = i then true else f j) : (boolCells f).setIfInBounds i (.bool true) = boolCells f' := by
  apply Array.ext
  · simp [boolCells]
  · intro j h1 h2
    have hj : j < 256 := by simpa [boolCells] using h2
    rw [Array.getElem_setIfInBounds (by simpa [boolCells] using hj)]
    simp only [boolCells, List.getElem_toArray, List.getElem_map, List.getElem_range]
    rw [h j hj]
    by_cases hji : i = j
    · subst hji; simp
    · rw [if_neg hji, if_neg (by omega)]

/-- In the midst of a list. -/
structure LM (w0 w : World) (b a g : Nat) (t : ByteArray) (neg : Bool) (s : RS) (f : Nat → Bool) : Prop where
  rr : RR w b t s
  part : Blk w a #[.int .i64 1, .slice (some ⟨g, 0, none⟩) 256 256, .bool neg, .slice none 0 0, .int .i64 0, .int .i64 0] 229
  ins : Blk w g (boolCells f) 4
  kept : Kept [b, a, g] w0 w
section
variable {w0 w w' : World} {b a g : Nat} {t : ByteArray} {neg : Bool} {s s' : RS} {f f' : Nat → Bool}
theorem LM.scan (h : LM w0 w b a g t neg s f) (r : RR w' b t s') (k : Kept [b] w w') (ha : a ≠ b) (hg : g ≠ b) : LM w0 w' b a g t neg s' f :=
  ⟨r, h.part.kept k (by simpa using ha), h.ins.kept k (by simpa using hg), h.kept.trans (k.mono (by simp))⟩
theorem LM.c1 (h : LM w0 w b a g t neg s f) : w.cell? ⟨a, 1, none⟩ = some (.slice (some ⟨g, 0, none⟩) 256 256) := by rw [h.part.cell]; rfl
theorem LM.set (h : LM w0 w b a g t neg s f) (hg : g ≠ b) (hag : a ≠ g) (i : Nat) (hi : ∀ j, j < 256 → f' j = if j = i then true else f j) :
    LM w0 (w.setCell ⟨g, i, none⟩ (.bool true)) b a g t neg s f' :=
  ⟨⟨Blk.other h.rr.blk _ _ (by omega), h.rr.fits, h.rr.small⟩, Blk.other h.part _ _ hag, by rw [← boolCells_set f f' i hi]; exact h.ins.set i _, h.kept.setCell (by simp) _⟩
end

end Go.Proofs.YtgifhgnccmnbiabGreatDoor

set_option linter.unusedVariables false
set_option linter.unusedSimpArgs false
namespace Go.Proofs.YtgifhgnccmnbiabGreatDoor
open Go.RowKit Go.IntWalk

/-- In the midst of a repeat's bounds. -/
structure BM (w0 w : World) (b a : Nat) (t : ByteArray) (kv : Value) (s : RS) (least most : Int) : Prop where
  rr : RR w b t s
  part : Blk w a #[.int .i64 6, .slice none 0 0, .bool false, kv, .int .i64 least, .int .i64 most] 229
  kept : Kept [b, a] w0 w
section
variable {w0 w w' : World} {b a : Nat} {t : ByteArray} {kv : Value} {s s' : RS} {l m : Int}
theorem BM.scan (h : BM w0 w b a t kv s l m) (r : RR w' b t s') (k : Kept [b] w w') (ha : a ≠ b) : BM w0 w' b a t kv s' l m :=
  ⟨r, h.part.kept k (by simpa using ha), h.kept.trans (k.mono (by simp))⟩
theorem BM.least (h : BM w0 w b a t kv s l m) (ha : a ≠ b) (x : Int) : BM w0 (w.setCell ⟨a, 4, none⟩ (.int .i64 x)) b a t kv s x m :=
  ⟨⟨Blk.other h.rr.blk _ _ (Ne.symm ha), h.rr.fits, h.rr.small⟩, h.part.set 4 _, h.kept.setCell (by simp) _⟩
theorem BM.most (h : BM w0 w b a t kv s l m) (ha : a ≠ b) (x : Int) : BM w0 (w.setCell ⟨a, 5, none⟩ (.int .i64 x)) b a t kv s l x :=
  ⟨⟨Blk.other h.rr.blk _ _ (Ne.symm ha), h.rr.fits, h.rr.small⟩, h.part.set 5 _, h.kept.setCell (by simp) _⟩
theorem BM.mark (h : BM w0 w b a t kv s l m) (ha : a ≠ b) : BM w0 (w.setCell ⟨b, 1, none⟩ (.bool true)) b a t kv (markS s) l m :=
  ⟨h.rr.mark, Blk.other h.part _ _ ha, h.kept.setCell (by simp) _⟩
theorem BM.drewN (h : BM w0 w b a t kv s l m) (n : Nat) : BM w0 (w.drewN n) b a t kv s l m := ⟨⟨h.rr.blk, h.rr.fits, h.rr.small⟩, h.part, h.kept.drewN n⟩
theorem BM.c4 (h : BM w0 w b a t kv s l m) : w.cell? ⟨a, 4, none⟩ = some (.int .i64 l) := by rw [h.part.cell]; rfl
theorem BM.c5 (h : BM w0 w b a t kv s l m) : w.cell? ⟨a, 5, none⟩ = some (.int .i64 m) := by rw [h.part.cell]; rfl
end

end Go.Proofs.YtgifhgnccmnbiabGreatDoor

set_option linter.unusedVariables false
set_option linter.unusedSimpArgs false
namespace Go.Proofs.YtgifhgnccmnbiabGreatDoor
open Go.RowKit Go.IntWalk

theorem own_base {w : World} {base base' : Nat} {e : TypeId} {size : Nat} {v : Value} {n : Nat} {xs : List Value} (h : w.ownsRow base e size v n xs) (hb : base' ≤ base) : w.ownsRow base' e size v n xs := by
  refine ⟨h.1, ?_⟩
  rcases h.2 with h2 | ⟨g, c, u, h3, h4, r⟩
  · exact Or.inl h2
  · exact Or.inr ⟨g, c, u, h3, Nat.le_trans hb h4, r⟩

section
variable {P : Program} (w : World)
/-- append to a row of the call's own, AND WHERE THE RESULT LIES: in the old block, or in a new one. -/
theorem run_append_placed (base : Nat) (t ty e : TypeId) (i : TypeInfo) (z : Value) (size bytes : Nat) (ht : P.underlying t = some (.slice e)) (hi : P.info? e = some i) (hz : i.zero = some z)
    (hsize : i.size = size) (hby : i.bytes = bytes) (hzs : z.cells.size = size) (hsz : 0 < size)
    (v : Value) (n : Nat) (xs : List Value) (hown : w.ownsRow base e size v n xs)
    (a : Addr) (m c : Nat) (news : List Value) (hl : news.length = m * size) (hnews : ∀ j u, news[j]? = some u → w.cell? (a.add j) = some u) (h1 : ∀ u ∈ news, u.oneCell' = true)
    (h63 : n + m ≤ maxLen) (hbytes : (n + m) * bytes ≤ 140737488355328) (hbase : base ≤ w.heap.size) :
    ∃ v' w', (Builtin.append_ #[t, t] ty #[v, .slice (some a) m c]).run P w = .ok v' w' ∧ w'.ownsRow base e size v' (n + m) (xs ++ news) ∧ w.grownBy w' v.ownBlock ∧
      (v'.ownBlock = v.ownBlock ∨ ∀ g, v'.ownBlock = some g → w.heap.size ≤ g) := by
  rcases hown.2 with ⟨rfl, rfl⟩ | ⟨g, cap, cur, rfl, hbg, hg, hnc, hcm, hcs, htake⟩
  · have hx : xs = [] := List.eq_nil_of_length_eq_zero (by simpa using hown.1)
    subst hx
    obtain ⟨v', w', r, o, gr, _⟩ := run_append_own (P := P) w w.heap.size t ty e i z size bytes ht hi hz hsize hby hzs hsz (.slice none 0 0) 0 [] (World.ownsRow_nil w _ e size) a m c news hl hnews h1 h63 hbytes (Nat.le_refl _)
    exact ⟨v', w', r, own_base o hbase, gr, Or.inr (fun g hg => (o.lt g hg).1)⟩
  · by_cases hroom : n + m ≤ cap
    · obtain ⟨v', w', r, o, gr, _⟩ := run_append_own (P := P) w base t ty e i z size bytes ht hi hz hsize hby hzs hsz _ n xs hown a m c news hl hnews h1 h63 hbytes hbase
      subst hsize
      have hfit : n * i.size + news.length ≤ cur.size := by rw [hl, hcs, ← Nat.add_mul]; exact Nat.mul_le_mul_right _ hroom
      have hr := run_append_room (P := P) w t ty e i ht hi g n cap cur hg a m c news hl hnews h1 hroom hfit
      refine ⟨v', w', r, o, gr, Or.inl ?_⟩
      rw [hr] at r
      simp only [Result.ok.injEq] at r
      rw [← r.1]; rfl
    · have holds : ∀ j u, xs[j]? = some u → w.cell? ((⟨g, 0, none⟩ : Addr).add j) = some u := hown.cells (g := g) rfl
      obtain ⟨v', w', r, o, gr⟩ := run_append_arg_grows (P := P) w t ty e i z size bytes ht hi hz hsize hby hzs hsz ⟨g, 0, none⟩ n cap xs hown.1 holds a m c news hl hnews (by omega) h63 hbytes
      exact ⟨v', w', r, own_base o hbase, ⟨gr.os, gr.tape, gr.output, gr.size, fun k hk _ => gr.block k hk (by simp)⟩, Or.inr (fun g hg => (o.lt g hg).1)⟩
end

theorem wpList_append_placed {P : Program} {w : World} {ops : Array Oper} {rest : List Oper} {o : Oper} {a : Act} {Q : Exit → Act → World → Prop} (hgd : o.guard = none) (s x : Operand) (t : TypeId)
    (ho : o.op = .call { callee := .builtin .append, args := #[s, x], argTypes := #[t, t] })
    (base : Nat) (e : TypeId) (i : TypeInfo) (z : Value) (size bytes : Nat) (ht : P.underlying t = some (.slice e)) (hi : P.info? e = some i) (hz : i.zero = some z)
    (hsize : i.size = size) (hby : i.bytes = bytes) (hzs : z.cells.size = size) (hsz : 0 < size)
    (v : Value) (n : Nat) (xs : List Value) (hs : a.eval s = v) (hown : w.ownsRow base e size v n xs)
    (ad : Addr) (m c : Nat) (news : List Value) (hx : a.eval x = .slice (some ad) m c) (hl : news.length = m * size) (hnews : ∀ j u, news[j]? = some u → w.cell? (ad.add j) = some u) (h1 : ∀ u ∈ news, u.oneCell' = true)
    (h63 : n + m ≤ maxLen) (hbytes : (n + m) * bytes ≤ 140737488355328) (hbase : base ≤ w.heap.size)
    (h : ∀ v' w', w'.ownsRow base e size v' (n + m) (xs ++ news) → w.grownBy w' v.ownBlock → (v'.ownBlock = v.ownBlock ∨ ∀ g, v'.ownBlock = some g → w.heap.size ≤ g) → wpList P ops Q rest (a.put o.dst v') w') : wpList P ops Q (o :: rest) a w := by
  refine wpList_plain hgd fun K hK => ?_
  obtain ⟨v', w', hrun, r1, r2, r3⟩ := run_append_placed (P := P) w base t o.type e i z size bytes ht hi hz hsize hby hzs hsz v n xs hown ad m c news hl hnews h1 h63 hbytes hbase
  unfold Oper.wp
  simp [execOp, ho, resolve, invoke, builtin, hs, hx, hrun, Result.andThen]
  exact hK _ _ (h v' w' r1 r2 r3)

theorem getD_app {l more : List Nat} {k : Nat} (h : k < l.length) : (l ++ more).getD k 0 = l.getD k 0 := by
  simp [List.getD, List.getElem?_append_left h]
def ptrTo (adrs : List Nat) (k : Nat) : Value := .pointer (some ⟨adrs.getD k 0, 0, none⟩)

/-- A part, at block a; the blocks that it takes are among F. -/
structure PartOk (w : World) (F : Nat → Prop) (adrs : List Nat) (p : PN) (a : Nat) (iv kv : IV) : Prop where
  blk : Blk w a #[.int .i64 p.kind, .slice iv.1 iv.2.1 iv.2.2, .bool p.neg, .slice kv.1 kv.2.1 kv.2.2, .int .i64 p.least, .int .i64 p.most] 229
  mine : F a
  ins : (p.kind ≤ 3 ∧ ∃ g, iv = (some ⟨g, 0, none⟩, 256, 256) ∧ F g ∧ Blk w g (boolCells p.ins) 4) ∨ (3 < p.kind ∧ iv = (none, 0, 0))
  kids : w.ownsRow 0 111 1 (ivV kv) p.kids.length (p.kids.map (ptrTo adrs))
  kidsF : ∀ g, (ivV kv).ownBlock = some g → F g

/-- The reader and the parts. -/
structure RM (w : World) (b : Nat) (t : ByteArray) (s : RS) (ps : List PN) (adrs : List Nat) (F : Nat → Prop) : Prop where
  rr : RR w b t s
  len : adrs.length = ps.length
  part : ∀ (i : Nat) (p : PN), ps[i]? = some p → (∀ k, k ∈ p.kids → k < i) ∧ ∃ iv kv, PartOk w F adrs p (adrs.getD i 0) iv kv
  old : ∀ k, F k → k < w.heap.size ∧ k ≠ b

section
variable {w w' : World} {b a : Nat} {t : ByteArray} {s s' : RS} {ps : List PN} {adrs : List Nat} {F F' : Nat → Prop} {p : PN} {iv kv : IV}

theorem PartOk.frame (h : PartOk w F adrs p a iv kv) (hf : ∀ k, F k → w'.heap[k]? = w.heap[k]?) : PartOk w' F adrs p a iv kv := by
  refine ⟨(hf a h.mine).trans h.blk, h.mine, ?_, ?_, h.kidsF⟩
  · rcases h.ins with ⟨h1, g, h2, h3, h4⟩ | h5
    · exact Or.inl ⟨h1, g, h2, h3, (hf g h3).trans h4⟩
    · exact Or.inr h5
  · refine ⟨h.kids.1, ?_⟩
    rcases h.kids.2 with h1 | ⟨g, cap, cur, h1, h2, h3, r⟩
    · exact Or.inl h1
    · exact Or.inr ⟨g, cap, cur, h1, h2, (hf g (h.kidsF g (by rw [h1]; rfl))).trans h3, r⟩

theorem PartOk.wider (h : PartOk w F adrs p a iv kv) (hf : ∀ k, F k → F' k) {more : List Nat} (hk : ∀ k, k ∈ p.kids → k < adrs.length) : PartOk w F' (adrs ++ more) p a iv kv := by
  refine ⟨h.blk, hf a h.mine, ?_, ?_, fun g hg => hf g (h.kidsF g hg)⟩
  · rcases h.ins with ⟨h1, g, h2, h3, h4⟩ | h5
    · exact Or.inl ⟨h1, g, h2, hf g h3, h4⟩
    · exact Or.inr h5
  · have e : p.kids.map (ptrTo (adrs ++ more)) = p.kids.map (ptrTo adrs) := by
      apply List.map_congr_left
      intro k hk'
      unfold ptrTo
      rw [getD_app (hk k hk')]
    rw [e]
    exact h.kids

theorem RM.frame (h : RM w b t s ps adrs F) (hf : ∀ k, F k → w'.heap[k]? = w.heap[k]?) (r : RR w' b t s') (hs : w.heap.size ≤ w'.heap.size) : RM w' b t s' ps adrs F :=
  ⟨r, h.len, fun i p hp => ⟨(h.part i p hp).1, by obtain ⟨iv, kv, hk⟩ := (h.part i p hp).2; exact ⟨iv, kv, hk.frame hf⟩⟩, fun k hk => ⟨Nat.lt_of_lt_of_le (h.old k hk).1 hs, (h.old k hk).2⟩⟩

theorem RM.scan (h : RM w b t s ps adrs F) (r : RR w' b t s') (k : Kept [b] w w') : RM w' b t s' ps adrs F :=
  h.frame (fun i hi => k.block i (h.old i hi).1 (by simpa using (h.old i hi).2)) r k.size

/-- One part more. -/
theorem RM.push (h : RM w b t s ps adrs F) (hF : ∀ k, F k → F' k) (hold : ∀ k, F' k → k < w.heap.size ∧ k ≠ b) (hk : ∀ k, k ∈ p.kids → k < ps.length) (hp : PartOk w F' adrs p a iv kv) :
    RM w b t s (ps ++ [p]) (adrs ++ [a]) F' := by
  refine ⟨h.rr, by simp [h.len], fun i q hq => ?_, hold⟩
  by_cases hi : i < ps.length
  · rw [List.getElem?_append_left hi] at hq
    obtain ⟨h1, iv, kv, h2⟩ := h.part i q hq
    refine ⟨h1, iv, kv, ?_⟩
    rw [getD_app (by rw [h.len]; exact hi)]
    exact h2.wider hF (fun k hk => by have := h1 k hk; rw [h.len]; omega)
  · have hi2 : i = ps.length := by
      have := (List.getElem?_eq_some_iff.1 hq).1
      simp at this; omega
    subst hi2
    rw [List.getElem?_append_right (Nat.le_refl _), Nat.sub_self] at hq
    simp at hq
    subst hq
    refine ⟨hk, iv, kv, ?_⟩
    have e : (adrs ++ [a]).getD ps.length 0 = a := by rw [← h.len]; simp [List.getD]
    rw [e]
    exact hp.wider (fun k hk => hk) (fun k hk' => by rw [h.len]; exact hk k hk')
end

end Go.Proofs.YtgifhgnccmnbiabGreatDoor

set_option linter.unusedVariables false
set_option linter.unusedSimpArgs false
namespace Go.Proofs.YtgifhgnccmnbiabGreatDoor
open Go.RowKit Go.IntWalk

theorem cellsF_of (z : Array Value) : z = cellsF z.size (fun i => z.getD i undef) := by
  apply Array.ext
  · simp
  · intro j h1 h2
    simp only [cellsF, List.getElem_toArray, List.getElem_map, List.getElem_range]
    simp [h1]
theorem overlay_whole (z : Array Value) (n : Nat) (hz : z.size = n) (g : Nat → Value) :
    Array.foldl (fun cs (x : Value × Nat) => cs.setIfInBounds (0 + x.2) x.1) z (cellsF n g).zipIdx 0 n = cellsF n g := by
  rw [cellsF_of z, hz, overlay_F]
  refine cellsF_congr fun j hj => ?_
  rw [if_pos (by omega), Nat.sub_zero]

theorem zeroPartInfo : (Tryz.prog.info? 158).map (fun i => (i.zero, i.size, i.bytes)) = some (some (.agg (gpCells {})), 124, 992) := by kernel_rfl

theorem buildSlice_part (w : World) (p : GP) :
    (Instr.buildSlice 217 1 #[(0, .agg (gpCells p))]).run Tryz.prog w = .ok (.slice (some ⟨w.heap.size, 0, none⟩) 1 1) (w.alloc (.cells (gpCells p) 158)) := by
  obtain ⟨i0, hi0, hz0, hz1, hz2⟩ := info_parts zeroPartInfo
  have hs : ∀ w, (sizeOf 158).run Tryz.prog w = .ok 124 w := fun w => by simp [sizeOf, typeInfo, hi0, hz1]
  unfold Instr.buildSlice
  rw [Sem.run_bind, run_underlying Tryz.underlying217]
  simp only [Result.andThen_ok]
  rw [Sem.run_bind, hs]
  simp only [Result.andThen_ok]
  rw [if_neg (by decide), if_neg (by decide)]
  simp [Sem.run_bind, zeroV_part, Instr.fill, newRow, go_sem]
  refine congrArg (fun c => w.alloc (.cells c 158)) ?_
  have h := fun z hz => overlay_whole z 124 hz (pCell p)
  simp only [Nat.zero_add] at h
  exact h _ rfl

/-- A row of one part, as an operation. -/
theorem wpList_row_part {ops : Array Oper} {rest : List Oper} {o : Oper} {a : Act} {w : World} {Q : Exit → Act → World → Prop} (hgd : o.guard = none) (x : Operand) (ho : o.op = .buildSlice 217 1 #[(0, x)])
    (p : GP) (hx : a.eval x = .agg (gpCells p))
    (h : wpList Tryz.prog ops Q rest (a.put o.dst (.slice (some ⟨w.heap.size, 0, none⟩) 1 1)) (w.alloc (.cells (gpCells p) 158))) : wpList Tryz.prog ops Q (o :: rest) a w := by
  refine wpList_plain hgd fun K hK => ?_
  unfold Oper.wp execOp
  simp only [ho, List.map_toArray, List.map_cons, List.map_nil, hx, buildSlice_part, Result.andThen_ok, Sem.run_bind, Sem.run_pure]
  exact hK _ _ h

/-- One part more. -/
theorem wpList_append_part {ops : Array Oper} {rest : List Oper} {o : Oper} {a : Act} {w : World} {Q : Exit → Act → World → Prop} (hgd : o.guard = none) (s x : Operand)
    (ho : o.op = .call { callee := .builtin .append, args := #[s, x], argTypes := #[217, 217] })
    (B g : Nat) (v : Value) (ps : List GP) (p : GP) (hs : a.eval s = v) (hx : a.eval x = .slice (some ⟨g, 0, none⟩) 1 1) (hl : ps.length ≤ 1000) (hown : PartsIn w B v ps) (hg : Blk w g (gpCells p) 158) (hB : B ≤ w.heap.size)
    (h : ∀ v' w', PartsIn w' B v' (ps ++ [p]) → w.grownBy w' v.ownBlock → wpList Tryz.prog ops Q rest (a.put o.dst v') w') : wpList Tryz.prog ops Q (o :: rest) a w := by
  obtain ⟨i0, hi0, hz0, hz1, hz2⟩ := info_parts zeroPartInfo
  refine wpList_append_placed hgd s x _ ho B 158 i0 _ 124 992 Tryz.underlying217 hi0 hz0 hz1 hz2 (by simp [Value.cells]) (by decide) v ps.length (partsCells ps) hs hown ⟨g, 0, none⟩ 1 1 (gpCells p).toList hx (by simp) (fun j u hu => ?_) (fun u hu => ?_) (by unfold maxLen; omega) (by omega) hB (fun v' w' h1 h2 _ => h v' w' ?_ h2)
  · rw [show (⟨g, 0, none⟩ : Addr).add j = ⟨g, j, none⟩ by unfold Addr.add; split <;> simp_all, hg.cell]
    simpa using hu
  · exact (Array.all_eq_true_iff_forall_mem.1 (gpCells_one p)) u (by simpa using hu)
  · unfold PartsIn
    rw [partsCells_snoc, List.length_append]
    exact h1

end Go.Proofs.YtgifhgnccmnbiabGreatDoor

set_option linter.unusedVariables false
set_option linter.unusedSimpArgs false
namespace Go.Proofs.YtgifhgnccmnbiabGreatDoor
open Go.RowKit Go.IntWalk

def dummyN : AN := { kind := 0, size := 0 }
/-- The parts of the first q nodes; the latest one. -/
def partsQ (ns : List AN) : Nat → List GP
  | 0 => []
  | q + 1 => partsQ ns q ++ [partOfP (ns.getD q dummyN) q (partsQ ns q)]
theorem partsQ_length (ns : List AN) : ∀ q, (partsQ ns q).length = q
  | 0 => rfl
  | q + 1 => by simp [partsQ, partsQ_length ns q]
def lastQ (ns : List AN) : Nat → GP
  | 0 => noneP
  | q + 1 => partOfP (ns.getD q dummyN) q (partsQ ns q)

/-- All nodes fit. -/
def NodesFit (ns : List AN) : Prop := ∀ q n, ns[q]? = some n → 0 ≤ n.kind ∧ n.kind ≤ 6 ∧ NodeFits n (partsQ ns q)

theorem infoNode2 : (Tryz.prog.info? 164).map (·.size) = some 8 := by kernel_rfl

theorem wpList_load_node {ops : Array Oper} {rest : List Oper} {o : Oper} {a : Act} {w : World} {Q : Exit → Act → World → Prop} (hgd : o.guard = none) (y : Operand) (ho : o.op = .load 164 y)
    (g off : Nat) (hx : a.eval y = .pointer (some ⟨g, off, none⟩)) (n : AN) (x : IV) (hg : w.rangeAt g off (n.cells x))
    (h : wpList Tryz.prog ops Q rest (a.put o.dst (.agg #[.int .i64 n.kind, .slice x.1 x.2.1 x.2.2, .bool n.neg, .int .i64 n.left, .int .i64 n.right, .int .i64 n.least, .int .i64 n.most, .int .i64 n.size])) w) : wpList Tryz.prog ops Q (o :: rest) a w :=
  wpList_load_mid hgd _ y ho g off hx (n.cells x) _ hg Tryz.underlying164 rfl (by simpa [AN.cells] using infoNode2) h

theorem node_range {w : World} {B g cap : Nat} {ns : List AN} {xs : List IV} (h : w.ownsRow B 164 8 (.slice (some ⟨g, 0, none⟩) ns.length cap) ns.length (nodesCells ns xs)) {q : Nat} {n : AN} {x : IV} (hn : ns[q]? = some n) (hx : xs[q]? = some x) :
    w.rangeAt g (q * 8) (n.cells x) := fun j v hv => by
  have hj : j < 8 := by have := (List.getElem?_eq_some_iff.1 hv).1; simpa [AN.cells] using this
  have h1 := h.cells (g := g) rfl (q * 8 + j) v (by rw [nodesCells_get ns xs q j n x hn hx hj, ← hv])
  rwa [show (⟨g, 0, none⟩ : Addr).add (q * 8 + j) = ⟨g, q * 8 + j, none⟩ by simp [Addr.add]; omega] at h1

theorem range_kept {w w' : World} {g off : Nat} {cs : List Value} {S : List Nat} (h : w.rangeAt g off cs) (k : Kept S w w') (hs : ¬ g ∈ S) (hc : 0 < cs.length) : w'.rangeAt g off cs := fun j v hv => by
  have h1 := h j v hv
  have hlt : g < w.heap.size := by
    obtain ⟨u, hu⟩ : ∃ u, cs[0]? = some u := ⟨_, List.getElem?_eq_getElem hc⟩
    exact block_lt_of_cell (h 0 u hu)
  unfold World.cell? at *
  simp only [] at *
  rw [k.block g hlt hs]
  exact h1

/-- The result's room, the latest part, the row of the parts. -/
structure WrIn (w0 w : World) (ns : List AN) (q : Nat) (v : Value) : Prop where
  b0 : Blk w w0.heap.size (gpCells {}) 158
  b1 : Blk w (w0.heap.size + 1) (gpCells (lastQ ns q)) 158
  ps : PartsIn w (w0.heap.size + 1 + 1) v (partsQ ns q)
  k : Kept [] w0 w

set_option maxHeartbeats 2000000 in
set_option maxRecDepth 100000 in
theorem write_any (ns : List AN) (xs : List IV) (B0 : Nat) (v : Value) (w : World) (h : w.ownsRow B0 164 8 v ns.length (nodesCells ns xs)) (hx : xs.length = ns.length) (hl : ns.length ≤ 900) (hn : NodesFit ns) :
    PartCall 94 #[v] w (lastQ ns ns.length) := by
  unfold PartCall
  have hz := zeroV_part
  obtain ⟨va, cap, rfl⟩ : ∃ a cap, v = .slice a ns.length cap := by
    rcases h.2 with ⟨h1, h2⟩ | ⟨g, cap, _, h1, _⟩
    · exact ⟨none, 0, by rw [h1, h2]⟩
    · exact ⟨_, cap, h1⟩
  have hst : ∀ w1, Blk w1 (w.heap.size + 1) (gpCells noneP) 158 → Kept [w.heap.size + 1] ((w.alloc (.cells (gpCells {}) 158)).alloc (.cells (gpCells {}) 158)) w1 → WrIn w w1 ns 0 (.slice none 0 0) := fun w1 hb hk =>
    ⟨((Blk.new w _ _).alloc _).kept hk (by simp), hb, World.ownsRow_nil _ _ _ _, (((Kept.refl _ _).alloc _).alloc _).into hk (by omega)⟩
  have hstH : Hid (∀ w1, _ → _ → _) := hst
  clear hst
  go_enter Tryz.func94, Tryz.ntmps94
  go_wp2_with (first
    | (refine wpList_build_none rfl rfl ?_)
    | (with_reducible refine wpList_store_part ?_ (.tmp 3) (.tmp 6) ?_ (w.heap.size + 1) ?_ {} noneP ?_ ?_ ?_
       · rfl
       · rfl
       · rfl
       · rfl
       · exact Blk.new1 w (.cells (gpCells {}) 158) (gpCells {}) 158
       intro w1 hb1 hk1 hs1
       have hs0 := hstH.out w1 hb1 hk1
       clear hb1 hk1 hs1))
  go_loopw [4, 5] (fun tv iv wr => ∃ (q : Nat) (pv : Value), tv = pv ∧ iv = .int .i64 (q : Int) ∧ q ≤ ns.length ∧ WrIn w wr ns q pv) (fun _ iv _ => ((ns.length : Int) - intOf iv).toNat)
  case atStart => exact ⟨0, _, rfl, rfl, Nat.zero_le _, hs0⟩
  case round =>
    obtain ⟨q, tv, htv, rfl, hq, hI⟩ := hrel
    obtain rfl := htv.symm
    clear hs0 hstH
    by_cases hlt : (q : Int) < (ns.length : Int)
    · have hqn : q < ns.length := by omega
      obtain ⟨n, hnn⟩ : ∃ n, ns[q]? = some n := ⟨_, List.getElem?_eq_getElem hqn⟩
      obtain ⟨x, hxx⟩ : ∃ x, xs[q]? = some x := ⟨_, List.getElem?_eq_getElem (by omega)⟩
      obtain ⟨g, cap', hv⟩ := own_form h (by omega)
      simp only [Value.slice.injEq] at hv
      obtain ⟨rfl, _, rfl⟩ := hv
      have hrg : wr.rangeAt g (q * 8) (n.cells x) := range_kept (node_range h hnn hxx) hI.k (by simp) (by simp [AN.cells])
      obtain ⟨f1, f2, f3⟩ := hn q n hnn
      have hgd : ns.getD q dummyN = n := by rw [List.getD_eq_getElem?_getD, hnn]; rfl
      have e1 : Hid (lastQ ns (q + 1) = partOfP n q (partsQ ns q)) := by show lastQ ns (q + 1) = _; rw [lastQ, hgd]
      have e2 : Hid (partsQ ns (q + 1) = partsQ ns q ++ [partOfP n q (partsQ ns q)]) := by show partsQ ns (q + 1) = _; rw [partsQ, hgd]
      have hcall : Hid (∀ w', PartsIn w' (w.heap.size + 1 + 1) tv (partsQ ns q) → PartCall _ _ w' _) := fun w' h' => partOf_any n x q (partsQ ns q) _ tv w' h' (by rw [partsQ_length]; omega) (by omega) f3 f1 f2
      have hlp : (partsQ ns q).length ≤ 1000 := by rw [partsQ_length]; omega
      have hIH : Hid (WrIn _ _ _ _ _) := hI
      clear hI hgd hnn hxx f1 f2 f3 h hn
      have hgt := hIH.out.b1.lt
      generalize partOfP n q (partsQ ns q) = P at *
      go_wp2_with (first
        | (with_reducible refine wpList_load_node ?_ (.tmp 15) ?_ g (q * 8) ?_ n x ?_ ?_
           · rfl
           · rfl
           · first | rfl | (simp [Act.eval])
           · exact hrg)
        | (go_at_call 140
           refine (hcall.out _ hIH.out.ps).mono ?_
           rintro e w1 ⟨rfl, k1⟩
           have g0 := hIH.out.b0.kept k1 (by simp)
           have g1 := hIH.out.b1.kept k1 (by simp)
           have g2 := hIH.out.ps.keep k1 (by simp)
           have g3 := hIH.out.k.trans k1)
        | (with_reducible refine wpList_store_part ?_ (.tmp 3) (.tmp 19) ?_ (w.heap.size + 1) ?_ (lastQ ns q) P ?_ ?_ ?_
           · rfl
           · rfl
           · rfl
           · rfl
           · exact g1
           intro w2 hb2 hk2 hs2
           have p0 := g0.kept hk2 (by simp)
           have p2 := g2.keep hk2 (by simp)
           have p3 := g3.into hk2 (by omega)
           clear hk2 hs2 hrg)
        | (with_reducible refine wpList_load_part ?_ (.tmp 3) ?_ (w.heap.size + 1) ?_ P ?_ ?_
           · rfl
           · rfl
           · rfl
           · exact hb2)
        | (with_reducible refine wpList_row_part ?_ (.tmp 21) ?_ P ?_ ?_
           · rfl
           · rfl
           · rfl)
        | (at_builtin
           with_reducible refine wpList_append_part ?_ (.tmp 20) (.tmp 22) ?_ (w.heap.size + 1 + 1) w2.heap.size tv (partsQ ns q) P ?_ ?_ ?_ ?_ ?_ ?_ ?_
           · rfl
           · rfl
           · rfl
           · rfl
           · exact hlp
           · exact p2.keep ((Kept.refl [] w2).alloc (.cells (gpCells P) 158)) (by simp)
           · exact Blk.new w2 (gpCells P) 158
           · have := hb2.lt; simp; omega
           intro v' w3 hown hgrow
           have q3 : WrIn w w3 ns (q + 1) v' := by
             have hlt2 := hb2.lt
             have bl : ∀ k, k < w2.heap.size → tv.ownBlock ≠ some k → w3.heap[k]? = w2.heap[k]? := fun k hk hne => by
               rw [hgrow.block k (by simp; omega) (fun hc => hne hc.symm), Below.heap_alloc _ _ _ hk]
             have hne : ∀ k, k < w.heap.size + 1 + 1 → tv.ownBlock ≠ some k := fun k hk hc => by have := (p2.lt k hc).1; omega
             refine ⟨?_, ?_, ?_, ?_⟩
             · exact (bl _ (by omega) (hne _ (by omega))).trans p0
             · rw [e1.out]; exact (bl _ (by omega) (hne _ (by omega))).trans hb2
             · rw [e2.out]; exact hown
             · have hs2 : w2.heap.size ≤ w3.heap.size := by have := hgrow.size; simp at this; omega
               exact ⟨hgrow.os.trans p3.os, hgrow.tape.trans p3.tape, hgrow.output.trans p3.output, Nat.le_trans p3.size hs2, fun i hi hn => by
                 have := p3.size
                 rw [bl i (by omega) (hne i (by omega))]; exact p3.block i hi hn⟩
           have q3H : Hid (WrIn _ _ _ _ _) := q3
           clear q3 hown hgrow))
      refine ⟨⟨q + 1, v', rfl, by go_num, by omega, q3H.out⟩, ?_⟩
      simp only [intOf]; omega
    · have hqe : ns.length = q := by omega
      have hbH : Hid (Blk wr (w.heap.size + 1) (gpCells (lastQ ns ns.length)) 158) := by rw [hqe]; exact hI.b1
      clear hqe
      go_wp2_with (first
        | (with_reducible refine wpList_load_part ?_ (.tmp 3) ?_ (w.heap.size + 1) ?_ (lastQ ns ns.length) ?_ ?_
           · rfl
           · rfl
           · rfl
           · exact hbH.out)
        | (with_reducible refine wpList_store_part ?_ (.tmp 2) (.tmp 24) ?_ w.heap.size ?_ {} (lastQ ns ns.length) ?_ ?_ ?_
           · rfl
           · rfl
           · rfl
           · rfl
           · exact hI.b0
           intro w8 hb8 hk8 hs8
           have hK8 := hI.k.into hk8 (by omega)))
      exact bodyPost_ret (v := .agg (gpCells (lastQ ns ns.length))) (results_part Tryz.results94 _ _ _ (lastQ ns ns.length) rfl hb8) rfl ⟨rfl, hK8⟩

end Go.Proofs.YtgifhgnccmnbiabGreatDoor

set_option linter.unusedVariables false
set_option linter.unusedSimpArgs false
namespace Go.Proofs.YtgifhgnccmnbiabGreatDoor
open Go.RowKit Go.IntWalk

structure MP where
  whole : Bool := false
  next : Nat → B64 := fun _ => 0#64
  takes : Nat → B64 := fun _ => 0#64
  begins : B64 := 0#64
  ends : B64 := 0#64
  last : B64 := 0#64
  beg : B64 := 0#64
  en : B64 := 0#64

def followQ (m : MP) (s : B64) : Nat → B64
  | 0 => 0#64
  | q + 1 => if s.getLsbD q = true then followQ m s q ||| m.next q else followQ m s q
def followP (m : MP) (s : B64) : B64 := followQ m s 61
def stillQ (m : MP) (free : B64) (s : B64) : Nat → B64
  | 0 => s
  | q + 1 => stillQ m free s q ||| (followP m (stillQ m free s q) &&& free)
def stillP (m : MP) (s free : B64) : B64 := stillQ m free s 60

def startB : B64 := 1152921504606846976#64
def foundB : B64 := 2305843009213693952#64
theorem startB_nat : ((startB.toNat : Nat) : Int) = 1152921504606846976 := rfl
theorem foundB_nat : ((foundB.toNat : Nat) : Int) = 2305843009213693952 := rfl

def beginP (m : MP) : B64 := stillP m startB m.begins
def afterP (m : MP) (s : B64) (c : Nat) : B64 := followP m s &&& m.takes c
def behindP (m : MP) (s : B64) (c : Nat) : B64 :=
  if m.whole = true then afterP m s c
  else ((if s &&& m.last = 0#64 then afterP m s c else afterP m s c ||| foundB) ||| (s &&& foundB)) ||| startB
def freeP (m : MP) (empty : Bool) : B64 := if empty = true then m.ends ||| m.begins else m.ends
def acceptsP (m : MP) (s : B64) (empty : Bool) : Bool := !decide (stillP m s (freeP m empty) &&& (m.last ||| foundB) = 0#64)

/-- Behind so many bytes of a line. -/
def setQ (m : MP) (t : ByteArray) : Nat → B64
  | 0 => beginP m
  | q + 1 => behindP m (setQ m t q) (if h : q < t.size then t[q].toNat else 0)
def matchesP (m : MP) (t : ByteArray) : Bool := acceptsP m (setQ m t t.size) (t.size == 0)

end Go.Proofs.YtgifhgnccmnbiabGreatDoor
