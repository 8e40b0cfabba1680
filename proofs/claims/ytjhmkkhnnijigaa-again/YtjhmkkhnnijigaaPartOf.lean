/- The machine: partOf: the part of a node. -/
import Derived.Test.YtjhmkkhnnijigaaPartAt
set_option linter.unusedVariables false
set_option linter.unusedSimpArgs false
namespace Go.Proofs.Ytjhmkkhnnijigaa
open Go.RowKit Go.IntWalk

theorem PartsIn.keep {w w' : World} {B : Nat} {v : Value} {ps : List GP} {S : List Nat} (h : PartsIn w B v ps) (k : Kept S w w') (hs : ∀ g, g ∈ S → g < B) : PartsIn w' B v ps := by
  refine ⟨h.1, ?_⟩
  rcases h.2 with h1 | ⟨g, cap, cur, h1, h2, h3, h4⟩
  · exact Or.inl h1
  · have hlt : g < w.heap.size := (Array.getElem?_eq_some_iff.1 h3).1
    exact Or.inr ⟨g, cap, cur, h1, h2, (k.block g hlt (fun hc => by have := hs g hc; omega)).trans h3, h4⟩
theorem PartsIn.fresh {w w' : World} {B : Nat} {v : Value} {ps : List GP} {o : Obj} (h : PartsIn w B v ps) (k : Kept [w.heap.size] (w.alloc o) w') : PartsIn w' B v ps := by
  refine ⟨h.1, ?_⟩
  rcases h.2 with h1 | ⟨g, cap, cur, h1, h2, h3, h4⟩
  · exact Or.inl h1
  · have hlt : g < w.heap.size := (Array.getElem?_eq_some_iff.1 h3).1
    exact Or.inr ⟨g, cap, cur, h1, h2, ((k.block g (by simp; omega) (by simp; omega)).trans (Below.heap_alloc _ _ _ hlt)).trans h3, h4⟩

def stepP (k : Nat) : GP := { count := 1, first := 1#64, last := 1#64, node := fun i => if i = 0 then k else 0 }
def partOfP (n : AN) (k : Nat) (ps : List GP) : GP :=
  if n.kind = 0 then noneP else if n.kind = 4 then bothP (partAtP ps n.left) (partAtP ps n.right) else if n.kind = 5 then eitherP (partAtP ps n.left) (partAtP ps n.right)
  else if n.kind = 6 then repP (partAtP ps n.left) n.least n.most else stepP k

/-- What a node asks, so that its part has room. -/
structure NodeFits (n : AN) (ps : List GP) : Prop where
  left : -1000 ≤ n.left ∧ n.left ≤ 1000
  right : -1000 ≤ n.right ∧ n.right ≤ 1000
  two : n.kind = 4 ∨ n.kind = 5 → (partAtP ps n.left).count + (partAtP ps n.right).count ≤ 60
  fit : n.kind = 6 → (partAtP ps n.left).Fit
  rep : n.kind = 6 → 0 ≤ n.least ∧ n.least ≤ 9 ∧ -1 ≤ n.most ∧ n.most ≤ 9 ∧ repN n.least n.most * (partAtP ps n.left).count ≤ 60

/-- The node and the result's room. -/
structure OfIn (w0 w : World) (n : AN) (x : IV) : Prop where
  b0 : Blk w w0.heap.size #[.int .i64 n.kind, .slice x.1 x.2.1 x.2.2, .bool n.neg, .int .i64 n.left, .int .i64 n.right, .int .i64 n.least, .int .i64 n.most, .int .i64 n.size] 109
  b1 : Blk w (w0.heap.size + 1) (gpCells {}) 102
  k : Kept [] w0 w
theorem OfIn.kept {w0 w w' : World} {n : AN} {x : IV} (h : OfIn w0 w n x) (k : Kept [] w w') : OfIn w0 w' n x := ⟨h.b0.kept k (by simp), h.b1.kept k (by simp), h.k.trans k⟩
theorem OfIn.fresh {w0 w w' : World} {n : AN} {x : IV} {o : Obj} (h : OfIn w0 w n x) (k : Kept [w.heap.size] (w.alloc o) w') : OfIn w0 w' n x := by
  have := h.b1.lt
  exact ⟨(h.b0.alloc o).kept k (by simp; omega), (h.b1.alloc o).kept k (by simp; omega), (h.k.alloc o).into k (by omega)⟩

set_option maxHeartbeats 2000000 in
set_option maxRecDepth 100000 in
theorem partOf_none (n : AN) (x : IV) (k : Nat) (ps : List GP) (B : Nat) (v : Value) (w : World) (h : PartsIn w B v ps) (hl : ps.length ≤ 1000) (hk : k ≤ 1000) (hn : NodeFits n ps) (hkd : n.kind = 0) :
    PartCall 71 #[.agg #[.int .i64 n.kind, .slice x.1 x.2.1 x.2.2, .bool n.neg, .int .i64 n.left, .int .i64 n.right, .int .i64 n.least, .int .i64 n.most, .int .i64 n.size], .int .i64 (k : Int), v] w (partOfP n k ps) := by
  have eP : partOfP n k ps = noneP := by unfold partOfP; rw [if_pos hkd]
  rw [eP]
  unfold PartCall
  have hz := zeroV_part
  have hB : OfIn w ((w.alloc (.cells #[.int .i64 n.kind, .slice x.1 x.2.1 x.2.2, .bool n.neg, .int .i64 n.left, .int .i64 n.right, .int .i64 n.least, .int .i64 n.most, .int .i64 n.size] 109)).alloc (.cells (gpCells {}) 102)) n x := ⟨(Blk.new _ _ _).alloc _, Blk.new1 _ _ _ _, ((Kept.refl _ _).alloc _).alloc _⟩
  have hPP : PartsIn ((w.alloc (.cells #[.int .i64 n.kind, .slice x.1 x.2.1 x.2.2, .bool n.neg, .int .i64 n.left, .int .i64 n.right, .int .i64 n.least, .int .i64 n.most, .int .i64 n.size] 109)).alloc (.cells (gpCells {}) 102)) B v ps := h.keep (((Kept.refl [] _).alloc _).alloc _) (by simp)
  have hPH : Hid (PartsIn _ _ _ _) := hPP
  have hlH : Hid (∀ w', PartsIn w' B v ps → PartCall 103 #[v, .int .i64 n.left] w' (partAtP ps n.left)) := fun w' h' => partAt_any ps B v n.left w' h' hl hn.left.1 hn.left.2
  have hrH : Hid (∀ w', PartsIn w' B v ps → PartCall 103 #[v, .int .i64 n.right] w' (partAtP ps n.right)) := fun w' h' => partAt_any ps B v n.right w' h' hl hn.right.1 hn.right.2
  have hkH : Hid (_ ) := hkd
  clear h hn hPP hkd
  generalize partAtP ps n.left = L at *
  generalize partAtP ps n.right = R at *
  go_enter Try.func71, Try.ntmps71
  go_wp2_with (first
    | (go_at_call 103
       refine (hlH.out _ hPH.out).mono ?_
       rintro e w1 ⟨rfl, k1⟩
       have hB1 := hB.kept k1
       have hP1 : Hid (PartsIn _ _ _ _) := hPH.out.keep k1 (by simp)
       clear hPH hB)
    | (with_reducible refine wpList_store_part ?_ (.tmp 7) (.tmp 13) ?_ w1.heap.size ?_ {} L ?_ ?_ ?_
       · rfl
       · rfl
       · rfl
       · rfl
       · exact Blk.new w1 (gpCells {}) 102
       intro w2 hb2 hk2 hs2
       have hB2 := hB1.fresh hk2
       have hP2 : Hid (PartsIn _ _ _ _) := hP1.out.fresh hk2
       have c4 : w2.cell? ⟨w.heap.size, 4, none⟩ = some (.int .i64 n.right) := by rw [hB2.b0.cell]; rfl
       clear hs2)
    | (go_at_call 103
       refine (hrH.out _ hP2.out).mono ?_
       rintro e w3 ⟨rfl, k3⟩
       have hB3 := hB2.kept k3
       have hb3 := hb2.kept k3 (by simp)
       clear c4)
    | (with_reducible refine wpList_store_part ?_ (.tmp 8) (.tmp 17) ?_ w3.heap.size ?_ {} R ?_ ?_ ?_
       · rfl
       · rfl
       · rfl
       · rfl
       · exact Blk.new w3 (gpCells {}) 102
       intro w4 hb4 hk4 hs4
       have hB4 := hB3.fresh hk4
       have hlt3 := hb3.lt
       have hlt1 := hB1.b1.lt
       have hL4 : Blk w4 w1.heap.size (gpCells L) 102 := (hb3.alloc _).kept hk4 (by simp; omega)
       have e0 : w4.cell? ⟨w.heap.size, 0, none⟩ = some (.int .i64 n.kind) := by rw [hB4.b0.cell]; rfl
       have e5 : w4.cell? ⟨w.heap.size, 5, none⟩ = some (.int .i64 n.least) := by rw [hB4.b0.cell]; rfl
       have e6 : w4.cell? ⟨w.heap.size, 6, none⟩ = some (.int .i64 n.most) := by rw [hB4.b0.cell]; rfl
       rw [hkH.out] at e0)
    | (refine wpList_build_none rfl rfl ?_)
    | (with_reducible refine wpList_store_part ?_ (.tmp 6) (.tmp 22) ?_ (w.heap.size + 1) ?_ {} noneP ?_ ?_ ?_
       · rfl
       · rfl
       · rfl
       · rfl
       · exact hB4.b1
       intro w8 hb8 hk8 hs8
       have hK8 := hB4.k.into hk8 (by omega)))
  exact bodyPost_ret (v := .agg (gpCells noneP)) (results_part Try.results71 _ _ _ noneP rfl hb8) rfl ⟨rfl, hK8⟩

set_option maxHeartbeats 2000000 in
set_option maxRecDepth 100000 in
theorem partOf_both (n : AN) (x : IV) (k : Nat) (ps : List GP) (B : Nat) (v : Value) (w : World) (h : PartsIn w B v ps) (hl : ps.length ≤ 1000) (hk : k ≤ 1000) (hn : NodeFits n ps) (hkd : n.kind = 4) :
    PartCall 71 #[.agg #[.int .i64 n.kind, .slice x.1 x.2.1 x.2.2, .bool n.neg, .int .i64 n.left, .int .i64 n.right, .int .i64 n.least, .int .i64 n.most, .int .i64 n.size], .int .i64 (k : Int), v] w (partOfP n k ps) := by
  have eP : partOfP n k ps = bothP (partAtP ps n.left) (partAtP ps n.right) := by unfold partOfP; rw [if_neg (by omega), if_pos hkd]
  rw [eP]
  have hcall : Hid (∀ w, PartCall 104 _ w _) := fun w => both_any (partAtP ps n.left) (partAtP ps n.right) (hn.two (Or.inl hkd)) w
  generalize bothP (partAtP ps n.left) (partAtP ps n.right) = P at *
  unfold PartCall
  have hz := zeroV_part
  have hB : OfIn w ((w.alloc (.cells #[.int .i64 n.kind, .slice x.1 x.2.1 x.2.2, .bool n.neg, .int .i64 n.left, .int .i64 n.right, .int .i64 n.least, .int .i64 n.most, .int .i64 n.size] 109)).alloc (.cells (gpCells {}) 102)) n x := ⟨(Blk.new _ _ _).alloc _, Blk.new1 _ _ _ _, ((Kept.refl _ _).alloc _).alloc _⟩
  have hPP : PartsIn ((w.alloc (.cells #[.int .i64 n.kind, .slice x.1 x.2.1 x.2.2, .bool n.neg, .int .i64 n.left, .int .i64 n.right, .int .i64 n.least, .int .i64 n.most, .int .i64 n.size] 109)).alloc (.cells (gpCells {}) 102)) B v ps := h.keep (((Kept.refl [] _).alloc _).alloc _) (by simp)
  have hPH : Hid (PartsIn _ _ _ _) := hPP
  have hlH : Hid (∀ w', PartsIn w' B v ps → PartCall 103 #[v, .int .i64 n.left] w' (partAtP ps n.left)) := fun w' h' => partAt_any ps B v n.left w' h' hl hn.left.1 hn.left.2
  have hrH : Hid (∀ w', PartsIn w' B v ps → PartCall 103 #[v, .int .i64 n.right] w' (partAtP ps n.right)) := fun w' h' => partAt_any ps B v n.right w' h' hl hn.right.1 hn.right.2
  have hkH : Hid (_ ) := hkd
  clear h hn hPP hkd
  generalize partAtP ps n.left = L at *
  generalize partAtP ps n.right = R at *
  go_enter Try.func71, Try.ntmps71
  go_wp2_with (first
    | (go_at_call 103
       refine (hlH.out _ hPH.out).mono ?_
       rintro e w1 ⟨rfl, k1⟩
       have hB1 := hB.kept k1
       have hP1 : Hid (PartsIn _ _ _ _) := hPH.out.keep k1 (by simp)
       clear hPH hB)
    | (with_reducible refine wpList_store_part ?_ (.tmp 7) (.tmp 13) ?_ w1.heap.size ?_ {} L ?_ ?_ ?_
       · rfl
       · rfl
       · rfl
       · rfl
       · exact Blk.new w1 (gpCells {}) 102
       intro w2 hb2 hk2 hs2
       have hB2 := hB1.fresh hk2
       have hP2 : Hid (PartsIn _ _ _ _) := hP1.out.fresh hk2
       have c4 : w2.cell? ⟨w.heap.size, 4, none⟩ = some (.int .i64 n.right) := by rw [hB2.b0.cell]; rfl
       clear hs2)
    | (go_at_call 103
       refine (hrH.out _ hP2.out).mono ?_
       rintro e w3 ⟨rfl, k3⟩
       have hB3 := hB2.kept k3
       have hb3 := hb2.kept k3 (by simp)
       clear c4)
    | (with_reducible refine wpList_store_part ?_ (.tmp 8) (.tmp 17) ?_ w3.heap.size ?_ {} R ?_ ?_ ?_
       · rfl
       · rfl
       · rfl
       · rfl
       · exact Blk.new w3 (gpCells {}) 102
       intro w4 hb4 hk4 hs4
       have hB4 := hB3.fresh hk4
       have hlt3 := hb3.lt
       have hlt1 := hB1.b1.lt
       have hL4 : Blk w4 w1.heap.size (gpCells L) 102 := (hb3.alloc _).kept hk4 (by simp; omega)
       have e0 : w4.cell? ⟨w.heap.size, 0, none⟩ = some (.int .i64 n.kind) := by rw [hB4.b0.cell]; rfl
       have e5 : w4.cell? ⟨w.heap.size, 5, none⟩ = some (.int .i64 n.least) := by rw [hB4.b0.cell]; rfl
       have e6 : w4.cell? ⟨w.heap.size, 6, none⟩ = some (.int .i64 n.most) := by rw [hB4.b0.cell]; rfl
       rw [hkH.out] at e0)
    | (with_reducible refine wpList_load_part ?_ (.tmp 7) ?_ w1.heap.size ?_ L ?_ ?_
       · rfl
       · rfl
       · rfl
       · exact hL4)
    | (with_reducible refine wpList_load_part ?_ (.tmp 8) ?_ w3.heap.size ?_ R ?_ ?_
       · rfl
       · rfl
       · rfl
       · exact hb4)
    | (go_at_call 104
       refine (hcall.out _).mono ?_
       rintro e w5 ⟨rfl, k5⟩
       have hB5 := hB4.kept k5)
    | (with_reducible refine wpList_store_part ?_ (.tmp 6) (.tmp 27) ?_ (w.heap.size + 1) ?_ {} P ?_ ?_ ?_
       · rfl
       · rfl
       · rfl
       · rfl
       · exact hB5.b1
       intro w8 hb8 hk8 hs8
       have hK8 := hB5.k.into hk8 (by omega)))
  exact bodyPost_ret (v := .agg (gpCells P)) (results_part Try.results71 _ _ _ P rfl hb8) rfl ⟨rfl, hK8⟩

set_option maxHeartbeats 2000000 in
set_option maxRecDepth 100000 in
theorem partOf_either (n : AN) (x : IV) (k : Nat) (ps : List GP) (B : Nat) (v : Value) (w : World) (h : PartsIn w B v ps) (hl : ps.length ≤ 1000) (hk : k ≤ 1000) (hn : NodeFits n ps) (hkd : n.kind = 5) :
    PartCall 71 #[.agg #[.int .i64 n.kind, .slice x.1 x.2.1 x.2.2, .bool n.neg, .int .i64 n.left, .int .i64 n.right, .int .i64 n.least, .int .i64 n.most, .int .i64 n.size], .int .i64 (k : Int), v] w (partOfP n k ps) := by
  have eP : partOfP n k ps = eitherP (partAtP ps n.left) (partAtP ps n.right) := by unfold partOfP; rw [if_neg (by omega), if_neg (by omega), if_pos hkd]
  rw [eP]
  have hcall : Hid (∀ w, PartCall 105 _ w _) := fun w => meither_any (partAtP ps n.left) (partAtP ps n.right) (hn.two (Or.inr hkd)) w
  generalize eitherP (partAtP ps n.left) (partAtP ps n.right) = P at *
  unfold PartCall
  have hz := zeroV_part
  have hB : OfIn w ((w.alloc (.cells #[.int .i64 n.kind, .slice x.1 x.2.1 x.2.2, .bool n.neg, .int .i64 n.left, .int .i64 n.right, .int .i64 n.least, .int .i64 n.most, .int .i64 n.size] 109)).alloc (.cells (gpCells {}) 102)) n x := ⟨(Blk.new _ _ _).alloc _, Blk.new1 _ _ _ _, ((Kept.refl _ _).alloc _).alloc _⟩
  have hPP : PartsIn ((w.alloc (.cells #[.int .i64 n.kind, .slice x.1 x.2.1 x.2.2, .bool n.neg, .int .i64 n.left, .int .i64 n.right, .int .i64 n.least, .int .i64 n.most, .int .i64 n.size] 109)).alloc (.cells (gpCells {}) 102)) B v ps := h.keep (((Kept.refl [] _).alloc _).alloc _) (by simp)
  have hPH : Hid (PartsIn _ _ _ _) := hPP
  have hlH : Hid (∀ w', PartsIn w' B v ps → PartCall 103 #[v, .int .i64 n.left] w' (partAtP ps n.left)) := fun w' h' => partAt_any ps B v n.left w' h' hl hn.left.1 hn.left.2
  have hrH : Hid (∀ w', PartsIn w' B v ps → PartCall 103 #[v, .int .i64 n.right] w' (partAtP ps n.right)) := fun w' h' => partAt_any ps B v n.right w' h' hl hn.right.1 hn.right.2
  have hkH : Hid (_ ) := hkd
  clear h hn hPP hkd
  generalize partAtP ps n.left = L at *
  generalize partAtP ps n.right = R at *
  go_enter Try.func71, Try.ntmps71
  go_wp2_with (first
    | (go_at_call 103
       refine (hlH.out _ hPH.out).mono ?_
       rintro e w1 ⟨rfl, k1⟩
       have hB1 := hB.kept k1
       have hP1 : Hid (PartsIn _ _ _ _) := hPH.out.keep k1 (by simp)
       clear hPH hB)
    | (with_reducible refine wpList_store_part ?_ (.tmp 7) (.tmp 13) ?_ w1.heap.size ?_ {} L ?_ ?_ ?_
       · rfl
       · rfl
       · rfl
       · rfl
       · exact Blk.new w1 (gpCells {}) 102
       intro w2 hb2 hk2 hs2
       have hB2 := hB1.fresh hk2
       have hP2 : Hid (PartsIn _ _ _ _) := hP1.out.fresh hk2
       have c4 : w2.cell? ⟨w.heap.size, 4, none⟩ = some (.int .i64 n.right) := by rw [hB2.b0.cell]; rfl
       clear hs2)
    | (go_at_call 103
       refine (hrH.out _ hP2.out).mono ?_
       rintro e w3 ⟨rfl, k3⟩
       have hB3 := hB2.kept k3
       have hb3 := hb2.kept k3 (by simp)
       clear c4)
    | (with_reducible refine wpList_store_part ?_ (.tmp 8) (.tmp 17) ?_ w3.heap.size ?_ {} R ?_ ?_ ?_
       · rfl
       · rfl
       · rfl
       · rfl
       · exact Blk.new w3 (gpCells {}) 102
       intro w4 hb4 hk4 hs4
       have hB4 := hB3.fresh hk4
       have hlt3 := hb3.lt
       have hlt1 := hB1.b1.lt
       have hL4 : Blk w4 w1.heap.size (gpCells L) 102 := (hb3.alloc _).kept hk4 (by simp; omega)
       have e0 : w4.cell? ⟨w.heap.size, 0, none⟩ = some (.int .i64 n.kind) := by rw [hB4.b0.cell]; rfl
       have e5 : w4.cell? ⟨w.heap.size, 5, none⟩ = some (.int .i64 n.least) := by rw [hB4.b0.cell]; rfl
       have e6 : w4.cell? ⟨w.heap.size, 6, none⟩ = some (.int .i64 n.most) := by rw [hB4.b0.cell]; rfl
       rw [hkH.out] at e0)
    | (with_reducible refine wpList_load_part ?_ (.tmp 7) ?_ w1.heap.size ?_ L ?_ ?_
       · rfl
       · rfl
       · rfl
       · exact hL4)
    | (with_reducible refine wpList_load_part ?_ (.tmp 8) ?_ w3.heap.size ?_ R ?_ ?_
       · rfl
       · rfl
       · rfl
       · exact hb4)
    | (go_at_call 105
       refine (hcall.out _).mono ?_
       rintro e w5 ⟨rfl, k5⟩
       have hB5 := hB4.kept k5)
    | (with_reducible refine wpList_store_part ?_ (.tmp 6) (.tmp 32) ?_ (w.heap.size + 1) ?_ {} P ?_ ?_ ?_
       · rfl
       · rfl
       · rfl
       · rfl
       · exact hB5.b1
       intro w8 hb8 hk8 hs8
       have hK8 := hB5.k.into hk8 (by omega)))
  exact bodyPost_ret (v := .agg (gpCells P)) (results_part Try.results71 _ _ _ P rfl hb8) rfl ⟨rfl, hK8⟩

set_option maxHeartbeats 2000000 in
set_option maxRecDepth 100000 in
theorem partOf_rep (n : AN) (x : IV) (k : Nat) (ps : List GP) (B : Nat) (v : Value) (w : World) (h : PartsIn w B v ps) (hl : ps.length ≤ 1000) (hk : k ≤ 1000) (hn : NodeFits n ps) (hkd : n.kind = 6) :
    PartCall 71 #[.agg #[.int .i64 n.kind, .slice x.1 x.2.1 x.2.2, .bool n.neg, .int .i64 n.left, .int .i64 n.right, .int .i64 n.least, .int .i64 n.most, .int .i64 n.size], .int .i64 (k : Int), v] w (partOfP n k ps) := by
  have eP : partOfP n k ps = repP (partAtP ps n.left) n.least n.most := by unfold partOfP; rw [if_neg (by omega), if_neg (by omega), if_neg (by omega), if_pos hkd]
  rw [eP]
  obtain ⟨q1, q2, q3, q4, q5⟩ := hn.rep hkd
  have hcall : Hid (∀ w, PartCall 106 _ w _) := fun w => repeated_any (partAtP ps n.left) (hn.fit hkd) n.least n.most q1 q2 q3 q4 q5 w
  clear q5
  generalize repP (partAtP ps n.left) n.least n.most = P at *
  unfold PartCall
  have hz := zeroV_part
  have hB : OfIn w ((w.alloc (.cells #[.int .i64 n.kind, .slice x.1 x.2.1 x.2.2, .bool n.neg, .int .i64 n.left, .int .i64 n.right, .int .i64 n.least, .int .i64 n.most, .int .i64 n.size] 109)).alloc (.cells (gpCells {}) 102)) n x := ⟨(Blk.new _ _ _).alloc _, Blk.new1 _ _ _ _, ((Kept.refl _ _).alloc _).alloc _⟩
  have hPP : PartsIn ((w.alloc (.cells #[.int .i64 n.kind, .slice x.1 x.2.1 x.2.2, .bool n.neg, .int .i64 n.left, .int .i64 n.right, .int .i64 n.least, .int .i64 n.most, .int .i64 n.size] 109)).alloc (.cells (gpCells {}) 102)) B v ps := h.keep (((Kept.refl [] _).alloc _).alloc _) (by simp)
  have hPH : Hid (PartsIn _ _ _ _) := hPP
  have hlH : Hid (∀ w', PartsIn w' B v ps → PartCall 103 #[v, .int .i64 n.left] w' (partAtP ps n.left)) := fun w' h' => partAt_any ps B v n.left w' h' hl hn.left.1 hn.left.2
  have hrH : Hid (∀ w', PartsIn w' B v ps → PartCall 103 #[v, .int .i64 n.right] w' (partAtP ps n.right)) := fun w' h' => partAt_any ps B v n.right w' h' hl hn.right.1 hn.right.2
  have hkH : Hid (_ ) := hkd
  clear h hn hPP hkd
  generalize partAtP ps n.left = L at *
  generalize partAtP ps n.right = R at *
  go_enter Try.func71, Try.ntmps71
  go_wp2_with (first
    | (go_at_call 103
       refine (hlH.out _ hPH.out).mono ?_
       rintro e w1 ⟨rfl, k1⟩
       have hB1 := hB.kept k1
       have hP1 : Hid (PartsIn _ _ _ _) := hPH.out.keep k1 (by simp)
       clear hPH hB)
    | (with_reducible refine wpList_store_part ?_ (.tmp 7) (.tmp 13) ?_ w1.heap.size ?_ {} L ?_ ?_ ?_
       · rfl
       · rfl
       · rfl
       · rfl
       · exact Blk.new w1 (gpCells {}) 102
       intro w2 hb2 hk2 hs2
       have hB2 := hB1.fresh hk2
       have hP2 : Hid (PartsIn _ _ _ _) := hP1.out.fresh hk2
       have c4 : w2.cell? ⟨w.heap.size, 4, none⟩ = some (.int .i64 n.right) := by rw [hB2.b0.cell]; rfl
       clear hs2)
    | (go_at_call 103
       refine (hrH.out _ hP2.out).mono ?_
       rintro e w3 ⟨rfl, k3⟩
       have hB3 := hB2.kept k3
       have hb3 := hb2.kept k3 (by simp)
       clear c4)
    | (with_reducible refine wpList_store_part ?_ (.tmp 8) (.tmp 17) ?_ w3.heap.size ?_ {} R ?_ ?_ ?_
       · rfl
       · rfl
       · rfl
       · rfl
       · exact Blk.new w3 (gpCells {}) 102
       intro w4 hb4 hk4 hs4
       have hB4 := hB3.fresh hk4
       have hlt3 := hb3.lt
       have hlt1 := hB1.b1.lt
       have hL4 : Blk w4 w1.heap.size (gpCells L) 102 := (hb3.alloc _).kept hk4 (by simp; omega)
       have e0 : w4.cell? ⟨w.heap.size, 0, none⟩ = some (.int .i64 n.kind) := by rw [hB4.b0.cell]; rfl
       have e5 : w4.cell? ⟨w.heap.size, 5, none⟩ = some (.int .i64 n.least) := by rw [hB4.b0.cell]; rfl
       have e6 : w4.cell? ⟨w.heap.size, 6, none⟩ = some (.int .i64 n.most) := by rw [hB4.b0.cell]; rfl
       rw [hkH.out] at e0)
    | (with_reducible refine wpList_load_part ?_ (.tmp 7) ?_ w1.heap.size ?_ L ?_ ?_
       · rfl
       · rfl
       · rfl
       · exact hL4)
    | (go_at_call 106
       refine (hcall.out _).mono ?_
       rintro e w5 ⟨rfl, k5⟩
       have hB5 := hB4.kept k5)
    | (with_reducible refine wpList_store_part ?_ (.tmp 6) (.tmp 40) ?_ (w.heap.size + 1) ?_ {} P ?_ ?_ ?_
       · rfl
       · rfl
       · rfl
       · rfl
       · exact hB5.b1
       intro w8 hb8 hk8 hs8
       have hK8 := hB5.k.into hk8 (by omega)))
  exact bodyPost_ret (v := .agg (gpCells P)) (results_part Try.results71 _ _ _ P rfl hb8) rfl ⟨rfl, hK8⟩

set_option maxHeartbeats 2000000 in
set_option maxRecDepth 100000 in
theorem partOf_step (n : AN) (x : IV) (k : Nat) (ps : List GP) (B : Nat) (v : Value) (w : World) (h : PartsIn w B v ps) (hl : ps.length ≤ 1000) (hk : k ≤ 1000) (hn : NodeFits n ps) (hkd : n.kind = 1 ∨ n.kind = 2 ∨ n.kind = 3) :
    PartCall 71 #[.agg #[.int .i64 n.kind, .slice x.1 x.2.1 x.2.2, .bool n.neg, .int .i64 n.left, .int .i64 n.right, .int .i64 n.least, .int .i64 n.most, .int .i64 n.size], .int .i64 (k : Int), v] w (partOfP n k ps) := by
  have eP : partOfP n k ps = stepP k := by unfold partOfP; rw [if_neg (by omega), if_neg (by omega), if_neg (by omega), if_neg (by omega)]
  rw [eP]
  rw [show n.kind = n.kind from rfl]
  have hk0 : n.kind ≠ 0 := by omega
  have hk4 : n.kind ≠ 4 := by omega
  have hk5' : n.kind ≠ 5 := by omega
  have hk6' : n.kind ≠ 6 := by omega
  unfold PartCall
  have hz := zeroV_part
  have hB : OfIn w ((w.alloc (.cells #[.int .i64 n.kind, .slice x.1 x.2.1 x.2.2, .bool n.neg, .int .i64 n.left, .int .i64 n.right, .int .i64 n.least, .int .i64 n.most, .int .i64 n.size] 109)).alloc (.cells (gpCells {}) 102)) n x := ⟨(Blk.new _ _ _).alloc _, Blk.new1 _ _ _ _, ((Kept.refl _ _).alloc _).alloc _⟩
  have hPP : PartsIn ((w.alloc (.cells #[.int .i64 n.kind, .slice x.1 x.2.1 x.2.2, .bool n.neg, .int .i64 n.left, .int .i64 n.right, .int .i64 n.least, .int .i64 n.most, .int .i64 n.size] 109)).alloc (.cells (gpCells {}) 102)) B v ps := h.keep (((Kept.refl [] _).alloc _).alloc _) (by simp)
  have hPH : Hid (PartsIn _ _ _ _) := hPP
  have hlH : Hid (∀ w', PartsIn w' B v ps → PartCall 103 #[v, .int .i64 n.left] w' (partAtP ps n.left)) := fun w' h' => partAt_any ps B v n.left w' h' hl hn.left.1 hn.left.2
  have hrH : Hid (∀ w', PartsIn w' B v ps → PartCall 103 #[v, .int .i64 n.right] w' (partAtP ps n.right)) := fun w' h' => partAt_any ps B v n.right w' h' hl hn.right.1 hn.right.2
  have hkH : Hid (_ ) := hkd
  clear h hn hPP hkd
  generalize partAtP ps n.left = L at *
  generalize partAtP ps n.right = R at *
  go_enter Try.func71, Try.ntmps71
  go_wp2_with (first
    | (go_at_call 103
       refine (hlH.out _ hPH.out).mono ?_
       rintro e w1 ⟨rfl, k1⟩
       have hB1 := hB.kept k1
       have hP1 : Hid (PartsIn _ _ _ _) := hPH.out.keep k1 (by simp)
       clear hPH hB)
    | (with_reducible refine wpList_store_part ?_ (.tmp 7) (.tmp 13) ?_ w1.heap.size ?_ {} L ?_ ?_ ?_
       · rfl
       · rfl
       · rfl
       · rfl
       · exact Blk.new w1 (gpCells {}) 102
       intro w2 hb2 hk2 hs2
       have hB2 := hB1.fresh hk2
       have hP2 : Hid (PartsIn _ _ _ _) := hP1.out.fresh hk2
       have c4 : w2.cell? ⟨w.heap.size, 4, none⟩ = some (.int .i64 n.right) := by rw [hB2.b0.cell]; rfl
       clear hs2)
    | (go_at_call 103
       refine (hrH.out _ hP2.out).mono ?_
       rintro e w3 ⟨rfl, k3⟩
       have hB3 := hB2.kept k3
       have hb3 := hb2.kept k3 (by simp)
       clear c4)
    | (with_reducible refine wpList_store_part ?_ (.tmp 8) (.tmp 17) ?_ w3.heap.size ?_ {} R ?_ ?_ ?_
       · rfl
       · rfl
       · rfl
       · rfl
       · exact Blk.new w3 (gpCells {}) 102
       intro w4 hb4 hk4 hs4
       have hB4 := hB3.fresh hk4
       have hlt3 := hb3.lt
       have hlt1 := hB1.b1.lt
       have hL4 : Blk w4 w1.heap.size (gpCells L) 102 := (hb3.alloc _).kept hk4 (by simp; omega)
       have e0 : w4.cell? ⟨w.heap.size, 0, none⟩ = some (.int .i64 n.kind) := by rw [hB4.b0.cell]; rfl
       have e5 : w4.cell? ⟨w.heap.size, 5, none⟩ = some (.int .i64 n.least) := by rw [hB4.b0.cell]; rfl
       have e6 : w4.cell? ⟨w.heap.size, 6, none⟩ = some (.int .i64 n.most) := by rw [hB4.b0.cell]; rfl
       clear hs4)
    | (refine wpList_build_step rfl rfl ?_)
    | (with_reducible refine wpList_store_part ?_ (.tmp 9) (.tmp 41) ?_ w4.heap.size ?_ {} { count := 1, first := 1#64, last := 1#64 } ?_ ?_ ?_
       · rfl
       · rfl
       · rfl
       · rfl
       · exact Blk.new w4 (gpCells {}) 102
       intro w5 hb5 hk5 hs5
       have hB5 := hB4.fresh hk5
       have hlt4 := hB4.b1.lt
       have f5 := hb5.frozen 64
       have d5 := hb5.cell 64
       rw [part_node _ 0 (by decide)] at d5
       have hb6 := hb5.set (64 + 0) (.int .i64 (k : Int))
       rw [part_set_node _ (stepP k) 0 k (by decide) ⟨rfl, rfl, rfl, rfl, fun _ _ => rfl, fun _ _ => rfl⟩] at hb6
       have hb6 : Hid (Blk _ _ _ _) := hb6
       have hB6 : Hid (OfIn _ _ _ _) := ⟨hB5.b0.other (b' := w4.heap.size) (64 + 0) (.int .i64 (k : Int)) (by omega), hB5.b1.other (b' := w4.heap.size) (64 + 0) (.int .i64 (k : Int)) (by omega), hB5.k.setCell (p := ⟨w4.heap.size, 64 + 0, none⟩) (Or.inr (by simp; omega)) (.int .i64 (k : Int))⟩
       clear hk5)
    | (with_reducible refine wpList_load_part ?_ (.tmp 9) ?_ w4.heap.size ?_ (stepP k) ?_ ?_
       · rfl
       · rfl
       · rfl
       · exact hb6.out)
    | (with_reducible refine wpList_store_part ?_ (.tmp 6) (.tmp 45) ?_ (w.heap.size + 1) ?_ {} (stepP k) ?_ ?_ ?_
       · rfl
       · rfl
       · rfl
       · rfl
       · exact hB6.out.b1
       intro w8 hb8 hk8 hs8
       have hK8 := hB6.out.k.into hk8 (by omega)))
  exact bodyPost_ret (v := .agg (gpCells (stepP k))) (results_part Try.results71 _ _ _ (stepP k) rfl hb8) rfl ⟨rfl, hK8⟩

theorem partOf_any (n : AN) (x : IV) (k : Nat) (ps : List GP) (B : Nat) (v : Value) (w : World) (h : PartsIn w B v ps) (hl : ps.length ≤ 1000) (hk : k ≤ 1000) (hn : NodeFits n ps) (h0 : 0 ≤ n.kind) (h6 : n.kind ≤ 6) :
    PartCall 71 #[.agg #[.int .i64 n.kind, .slice x.1 x.2.1 x.2.2, .bool n.neg, .int .i64 n.left, .int .i64 n.right, .int .i64 n.least, .int .i64 n.most, .int .i64 n.size], .int .i64 (k : Int), v] w (partOfP n k ps) := by
  by_cases e0 : n.kind = 0
  · exact partOf_none n x k ps B v w h hl hk hn e0
  by_cases e4 : n.kind = 4
  · exact partOf_both n x k ps B v w h hl hk hn e4
  by_cases e5 : n.kind = 5
  · exact partOf_either n x k ps B v w h hl hk hn e5
  by_cases e6 : n.kind = 6
  · exact partOf_rep n x k ps B v w h hl hk hn e6
  exact partOf_step n x k ps B v w h hl hk hn (by omega)

end Go.Proofs.Ytjhmkkhnnijigaa
