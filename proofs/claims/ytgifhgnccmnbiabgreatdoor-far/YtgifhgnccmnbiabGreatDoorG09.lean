/- Package search: a piece with another one behind it, walked. -/
import Derived.Test.YtgifhgnccmnbiabGreatDoorG08
import Derived.Test.YtgifhgnccmnbiabGreatDoorG07
import Derived.Test.YtgifhgnccmnbiabGreatDoorG01
import Derived.Test.YtgifhgnccmnbiabGreatDoorG02
set_option linter.unusedVariables false
set_option linter.unusedSimpArgs false
namespace Go.Proofs.YtgifhgnccmnbiabGreatDoor
open Go.RowKit Go.IntWalk

theorem all8 {w : World} {g : Nat} {c0 c1 c2 c3 c4 c5 c6 c7 : Value} {t : TypeId} (h : Blk w g #[c0, c1, c2, c3, c4, c5, c6, c7] t) :
    w.cell? ⟨g, 0, none⟩ = some c0 ∧ w.cell? ⟨g, 1, none⟩ = some c1 ∧ w.cell? ⟨g, 2, none⟩ = some c2 ∧ w.cell? ⟨g, 3, none⟩ = some c3 ∧ w.cell? ⟨g, 4, none⟩ = some c4 ∧ w.cell? ⟨g, 5, none⟩ = some c5 ∧ w.cell? ⟨g, 6, none⟩ = some c6 ∧ w.cell? ⟨g, 7, none⟩ = some c7 ∧ g < w.heap.size :=
  ⟨h.cell 0, h.cell 1, h.cell 2, h.cell 3, h.cell 4, h.cell 5, h.cell 6, h.cell 7, h.lt⟩
theorem froz8 {w : World} {g : Nat} {cs : Array Value} {t : TypeId} (h : Blk w g cs t) :
    w.frozen? ⟨g, 0, none⟩ = false ∧ w.frozen? ⟨g, 1, none⟩ = false ∧ w.frozen? ⟨g, 2, none⟩ = false ∧ w.frozen? ⟨g, 3, none⟩ = false ∧ w.frozen? ⟨g, 4, none⟩ = false ∧ w.frozen? ⟨g, 5, none⟩ = false ∧ w.frozen? ⟨g, 6, none⟩ = false ∧ w.frozen? ⟨g, 7, none⟩ = false :=
  ⟨h.frozen 0, h.frozen 1, h.frozen 2, h.frozen 3, h.frozen 4, h.frozen 5, h.frozen 6, h.frozen 7⟩
def z8 : Array Value := #[.int .i64 0, .int .i64 0, .pointer none, .int .u64 0, .int .i64 0, .int .u64 0, .int .u64 0, .int .i64 0]
/-- The result's block, and the one in which a piece is made. -/
structure JW (w x : World) (c : Array Value) : Prop where
  k : Kept [] w x
  r : Blk x w.heap.size z8 169
  c : Blk x (w.heap.size + 1) c 169
theorem JW.kept {w x y : World} {c : Array Value} (h : JW w x c) (k : Kept [] x y) : JW w y c := ⟨h.k.trans k, h.r.kept k (by simp), h.c.kept k (by simp)⟩
theorem JW.set {w x : World} {c : Array Value} (h : JW w x c) (j : Nat) (v : Value) : JW w (x.setCell ⟨w.heap.size + 1, j, none⟩ v) (c.setIfInBounds j v) :=
  ⟨h.k.setCell (Or.inr (by simp)) _, h.r.other _ _ (by omega), h.c.set j v⟩
theorem JW.drew {w x : World} {c : Array Value} (h : JW w x c) : JW w x.drew c := h.kept ((Kept.refl [] x).drew)
theorem JW.begin (w : World) (c : Array Value) : JW w ((w.alloc (.cells z8 169)).alloc (.cells c 169)).drew c :=
  ⟨(((Kept.refl [] w).alloc _).alloc _).drew, ((Blk.new w _ _).alloc _).drew, (Blk.new1 w _ _ _).drew⟩

theorem tabAt_keep {S : List Nat} {w w' : World} {G o : Nat} {m : MP} (h : TabAt w G o m) (k : Kept S w w') (hg : G < w.heap.size) (hn : ¬ G ∈ S) : TabAt w' G o m := fun i hi => by
  rw [← h i hi]
  unfold World.cell?
  simp only []
  rw [k.block G hg hn]
theorem tabAt_lt {w : World} {G o : Nat} {m : MP} (h : TabAt w G o m) : G < w.heap.size := by
  have := h 0 (by omega)
  unfold World.cell? at this
  simp only [] at this
  cases hb : w.heap[G]? with
  | none => rw [hb] at this; simp at this
  | some y => exact (Array.getElem?_eq_some_iff.1 hb).1
/-- The piece that was made is laid into the result's block. -/
theorem JW.done {w x : World} {v0 v1 v2 v3 v4 v5 v6 v7 : Value} (h : JW w x #[v0, v1, v2, v3, v4, v5, v6, v7]) :
    Kept [] w ((((((((x.setCell ⟨w.heap.size, 0, none⟩ v0).setCell ⟨w.heap.size, 1, none⟩ v1).setCell ⟨w.heap.size, 2, none⟩ v2).setCell ⟨w.heap.size, 3, none⟩ v3).setCell ⟨w.heap.size, 4, none⟩ v4).setCell ⟨w.heap.size, 5, none⟩ v5).setCell ⟨w.heap.size, 6, none⟩ v6).setCell ⟨w.heap.size, 7, none⟩ v7) ∧
    Blk ((((((((x.setCell ⟨w.heap.size, 0, none⟩ v0).setCell ⟨w.heap.size, 1, none⟩ v1).setCell ⟨w.heap.size, 2, none⟩ v2).setCell ⟨w.heap.size, 3, none⟩ v3).setCell ⟨w.heap.size, 4, none⟩ v4).setCell ⟨w.heap.size, 5, none⟩ v5).setCell ⟨w.heap.size, 6, none⟩ v6).setCell ⟨w.heap.size, 7, none⟩ v7) w.heap.size #[v0, v1, v2, v3, v4, v5, v6, v7] 169 ∧
    ∀ G K, G ≠ w.heap.size → G < x.heap.size → TabAt x G 0 K → TabAt ((((((((x.setCell ⟨w.heap.size, 0, none⟩ v0).setCell ⟨w.heap.size, 1, none⟩ v1).setCell ⟨w.heap.size, 2, none⟩ v2).setCell ⟨w.heap.size, 3, none⟩ v3).setCell ⟨w.heap.size, 4, none⟩ v4).setCell ⟨w.heap.size, 5, none⟩ v5).setCell ⟨w.heap.size, 6, none⟩ v6).setCell ⟨w.heap.size, 7, none⟩ v7) G 0 K ∧
      G < ((((((((x.setCell ⟨w.heap.size, 0, none⟩ v0).setCell ⟨w.heap.size, 1, none⟩ v1).setCell ⟨w.heap.size, 2, none⟩ v2).setCell ⟨w.heap.size, 3, none⟩ v3).setCell ⟨w.heap.size, 4, none⟩ v4).setCell ⟨w.heap.size, 5, none⟩ v5).setCell ⟨w.heap.size, 6, none⟩ v6).setCell ⟨w.heap.size, 7, none⟩ v7).heap.size := by
  have hr : Blk x w.heap.size #[.int .i64 0, .int .i64 0, .pointer none, .int .u64 0, .int .i64 0, .int .u64 0, .int .u64 0, .int .i64 0] 169 := h.r
  refine ⟨keptP8 h.k (Nat.le_refl _) _ _ _ _ _ _ _ _, res8 hr _ _ _ _ _ _ _ _, fun G K hn hlt hT => ?_⟩
  have k : Kept [w.heap.size] x ((((((((x.setCell ⟨w.heap.size, 0, none⟩ v0).setCell ⟨w.heap.size, 1, none⟩ v1).setCell ⟨w.heap.size, 2, none⟩ v2).setCell ⟨w.heap.size, 3, none⟩ v3).setCell ⟨w.heap.size, 4, none⟩ v4).setCell ⟨w.heap.size, 5, none⟩ v5).setCell ⟨w.heap.size, 6, none⟩ v6).setCell ⟨w.heap.size, 7, none⟩ v7) :=
    ((((((((Kept.refl [w.heap.size] x).setCell (Or.inl (by simp)) _).setCell (Or.inl (by simp)) _).setCell (Or.inl (by simp)) _).setCell (Or.inl (by simp)) _).setCell (Or.inl (by simp)) _).setCell (Or.inl (by simp)) _).setCell (Or.inl (by simp)) _).setCell (Or.inl (by simp)) _
  exact ⟨tabAt_keep hT k hlt (by simpa using hn), Nat.lt_of_lt_of_le hlt k.size⟩

section
variable {w : World} {gs : Nat} {inv : Bool} {ga oa gb ob : Nat} {a b : PCE} {aa ab : Option Addr}

set_option maxHeartbeats 4000000 in
set_option maxRecDepth 100000 in
theorem sjoin_none (ha : PAt w ga oa a aa) (hb : PAt w gb ob b ab) (h0 : a.nl + b.nl = 0) (hl : a.len + b.len ≤ 1099511627776) :
    Calls Tryz.prog 145 #[.pointer (some ⟨gs, 0, none⟩), .pointer (some ⟨ga, oa, none⟩), .pointer (some ⟨gb, ob, none⟩)] w fun e w' => POut w w' [] (joinPC inv a b) e := by
  have hj : joinPC inv a b = { len := a.len + b.len, nl := 0, nx := thenN (tabM a.nx) a.tk (tabM b.nx) b.tk, tk := b.tk } := by unfold joinPC; rw [if_pos h0]
  rw [hj]
  obtain ⟨GA, OA, rfl, tA, lA⟩ := ha.tab (by omega)
  obtain ⟨GB, OB, rfl, tB, lB⟩ := hb.tab (by omega)
  have hn1 : a.nl = 0 := by omega
  have hn2 : b.nl = 0 := by omega
  have a0 := ha.c0
  have a1 := ha.c1
  have a2 := ha.c2
  have a3 := ha.c3
  have b0 := hb.c0
  have b1 := hb.c1
  have b2 := hb.c2
  have b3 := hb.c3
  rw [hn1] at a1
  rw [hn2] at b1
  have lga := ha.lt
  have lgb := hb.lt
  have ba := ha.bd.len
  have bb := hb.bd.len
  have hth : Hid (∀ w', Kept [] w w' → Calls _ _ _ w' _) := fun w' k => wthen_any (tabM a.nx) GA OA a.tk (tabM b.nx) GB OB b.tk w' (tA.kept k lA) (tB.kept k lB) (Nat.lt_of_lt_of_le lA k.size) (Nat.lt_of_lt_of_le lB k.size)
  clear ha hb hj hn1 hn2 tA tB
  generalize a.tk = TA at *
  generalize b.tk = TB at *
  generalize a.len = LA at *
  generalize b.len = LB at *
  go_enter Tryz.func145, Tryz.ntmps145
  go_wp2_with fail
  go_region
  all_goals
    obtain ⟨W1, hW1⟩ : ∃ W1, W1 = ((w.alloc (.cells #[.int .i64 0, .int .i64 0, .pointer none, .int .u64 0, .int .i64 0, .int .u64 0, .int .u64 0, .int .i64 0] 169)).alloc (.cells #[.int .i64 ((LA : Int) + (LB : Int)), .int .i64 0, .pointer none, .int .u64 0, .int .i64 0, .int .u64 0, .int .u64 0, .int .i64 0] 169)).drew := ⟨_, rfl⟩
    have J1 : Hid (JW w W1 #[.int .i64 ((LA : Int) + (LB : Int)), .int .i64 0, .pointer none, .int .u64 0, .int .i64 0, .int .u64 0, .int .u64 0, .int .i64 0]) := by show JW _ _ _; rw [hW1]; exact JW.begin w _
    rw [← hW1]
    clear hW1
    have K1 := J1.out.k
    have a2' := (K1.cell lga (oa + 2)).trans a2
    have a3' := (K1.cell lga (oa + 3)).trans a3
    have b2' := (K1.cell lgb (ob + 2)).trans b2
    have b3' := (K1.cell lgb (ob + 3)).trans b3
    obtain ⟨g0, g1, g2, g3, g4, g5, g6, g7, gl⟩ := all8 J1.out.c
    have K1H : Hid (Kept [] w W1) := K1
    clear K1 a0 a1 a2 a3 b0 b1 b2 b3
    have hlt1 : w.heap.size + 1 < W1.heap.size := gl
    go_wp2_with fail
    go_region_law (go_simp; go_at_call 183; refine (hth.out _ (K1H.out.trans (by first | exact (Kept.refl [] _).drew | exact Kept.refl _ _))).mono ?_; rintro _ w5 ⟨k5, G, rfl, hG, hT5⟩; have J5 := J1.out.kept (Kept.trans (by first | exact (Kept.refl [] _).drew | exact Kept.refl _ _) k5); have J5H : Hid (JW _ _ _) := J5; obtain ⟨g0, g1, g2, g3, g4, g5, g6, g7, gl⟩ := all8 J5.c; obtain ⟨p0, p1, p2, p3, p4, p5, p6, p7⟩ := froz8 J5.c; obtain ⟨r0, r1, r2, r3, r4, r5, r6, r7, rl⟩ := all8 J5.r; obtain ⟨q0, q1, q2, q3, q4, q5, q6, q7⟩ := froz8 J5.r; clear J5)
    all_goals
      go_wp2
      have J6 : JW w _ #[.int .i64 ((LA : Int) + (LB : Int)), .int .i64 0, .pointer (some ⟨G, 0, none⟩), .int .u64 0, .int .i64 0, .int .u64 0, .int .u64 0, .int .i64 0] := J5H.out.set 2 _
      have J7 : JW w _ #[.int .i64 ((LA : Int) + (LB : Int)), .int .i64 0, .pointer (some ⟨G, 0, none⟩), UV TB, .int .i64 0, .int .u64 0, .int .u64 0, .int .i64 0] := J6.set 3 (UV TB)
      obtain ⟨ky, by8, ty⟩ := J7.done
      obtain ⟨x0, x1, x2, x3, x4, x5, x6, x7, _⟩ := all8 by8
      have hG' : W1.heap.size ≤ G := hG
      have hne1 : ¬ G ∈ [w.heap.size + 1] := by simp; omega
      have kS : Kept [w.heap.size + 1] w5 ((w5.setCell ⟨w.heap.size + 1, 2, none⟩ (.pointer (some ⟨G, 0, none⟩))).setCell ⟨w.heap.size + 1, 3, none⟩ (UV TB)) := ((Kept.refl [w.heap.size + 1] w5).setCell (Or.inl (by simp)) _).setCell (Or.inl (by simp)) _
      have hG5 : G < w5.heap.size := tabAt_lt hT5
      obtain ⟨t1, t2⟩ := ty G _ (by omega) (Nat.lt_of_lt_of_le hG5 kS.size) (tabAt_keep hT5 kS hG5 hne1)
      refine bodyPost_ret (v := .agg #[.int .i64 ((LA : Int) + (LB : Int)), .int .i64 0, .pointer (some ⟨G, 0, none⟩), UV TB, .int .i64 0, .int .u64 0, .int .u64 0, .int .i64 0]) (by simp [results, Tryz.results145, go_sem, x0, x1, x2, x3, x4, x5, x6, x7]) rfl ?_
      exact ⟨ky, some ⟨G, 0, none⟩, by unfold pcCells; simp only [Int.natCast_add]; rfl, fun _ => ⟨G, 0, rfl, t1, t2⟩, fun A h => by simp only [Option.some.injEq] at h; subst h; exact Or.inr (by simp only []; omega)⟩

end

end Go.Proofs.YtgifhgnccmnbiabGreatDoor

set_option linter.unusedVariables false
set_option linter.unusedSimpArgs false
namespace Go.Proofs.YtgifhgnccmnbiabGreatDoor
open Go.RowKit Go.IntWalk

section
variable {w : World} {gs : Nat} {inv : Bool} {ga oa gb ob : Nat} {a b : PCE} {aa ab : Option Addr}

set_option maxHeartbeats 4000000 in
set_option maxRecDepth 100000 in
theorem sjoin_both (ha : PAt w ga oa a aa) (hb : PAt w gb ob b ab) (hs : w.cell? ⟨gs, 2, none⟩ = some (.bool inv)) (hgs : gs < w.heap.size) (h1 : a.nl ≠ 0) (h2 : b.nl ≠ 0) (hl : a.len + b.len ≤ 1099511627776) :
    Calls Tryz.prog 145 #[.pointer (some ⟨gs, 0, none⟩), .pointer (some ⟨ga, oa, none⟩), .pointer (some ⟨gb, ob, none⟩)] w fun e w' => POut w w' [] (joinPC inv a b) e := by
  have hj : joinPC inv a b = { len := a.len + b.len, nl := a.nl + b.nl, inside := a.inside + endsP inv b a.la, en := a.en, la := b.la, tail := b.tail } := by
    unfold joinPC
    rw [if_neg (by omega), if_pos (by omega), if_pos (by omega), if_pos (by omega), if_pos (by omega)]
  rw [hj]
  have hfin : Hid (∀ y, Kept [] w y → POut w y [] { len := a.len + b.len, nl := a.nl + b.nl, inside := a.inside + endsP inv b a.la, en := a.en, la := b.la, tail := b.tail } (.returned (.agg #[.int .i64 ((a.len : Int) + (b.len : Int)), .int .i64 ((a.nl : Int) + (b.nl : Int)), .pointer none, .int .u64 0, .int .i64 ((a.inside : Int) + (endsP inv b a.la : Int)), UV a.en, UV b.la, .int .i64 (b.tail : Int)]))) := fun y k =>
    ⟨k, none, by unfold pcCells; simp only [Int.natCast_add]; rfl, (fun h => by simp only [] at h; omega), fun A h => by cases h⟩
  have hce : Hid (∀ w', Kept [] w w' → Calls _ _ _ w' _) := fun w' k => countEnds_any (gs := gs) a.la ((k.cell hgs 2).trans hs) (hb.kept k)
  have he1 := endsP_le inv b a.la
  have a0 := ha.c0
  have a1 := ha.c1
  have a5 := ha.c5
  have a4 := ha.c4
  have a6 := ha.c6
  have b0 := hb.c0
  have b1 := hb.c1
  have b6 := hb.c6
  have b7 := hb.c7
  have lga := ha.lt
  have lgb := hb.lt
  have ba := ha.bd.len
  have bb := hb.bd.len
  have ban := ha.bd.nl
  have bbn := hb.bd.nl
  have bai := ha.bd.inside
  have bbi := hb.bd.inside
  have hna : ((a.nl : Nat) : Int) ≠ 0 := by omega
  have hnb : ((b.nl : Nat) : Int) ≠ 0 := by omega
  have hp1 : (0 : Int) < (a.nl : Int) := by omega
  have hp2 : (0 : Int) < (b.nl : Int) := by omega
  have hne1 : ga ≠ w.heap.size + 1 := by omega
  have hne2 : gb ≠ w.heap.size + 1 := by omega
  clear ha hb hj h1 h2
  generalize a.en = AE at *
  generalize a.la = AL at *
  generalize b.la = BL at *
  generalize endsP inv b AL = EN at *
  generalize a.inside = AI at *
  generalize b.tail = BT at *
  generalize a.len = LA at *
  generalize b.len = LB at *
  generalize a.nl = NA at *
  generalize b.nl = NB at *
  have hsum : ((NA : Int) + (NB : Int)) ≠ 0 := by omega
  go_enter Tryz.func145, Tryz.ntmps145
  go_wp2_with fail
  go_region
  all_goals
    obtain ⟨W1, hW1⟩ : ∃ W1, W1 = ((w.alloc (.cells #[.int .i64 0, .int .i64 0, .pointer none, .int .u64 0, .int .i64 0, .int .u64 0, .int .u64 0, .int .i64 0] 169)).alloc (.cells #[.int .i64 ((LA : Int) + (LB : Int)), .int .i64 ((NA : Int) + (NB : Int)), .pointer none, .int .u64 0, .int .i64 0, .int .u64 0, .int .u64 0, .int .i64 0] 169)).drew := ⟨_, rfl⟩
    have J1 : Hid (JW w W1 #[.int .i64 ((LA : Int) + (LB : Int)), .int .i64 ((NA : Int) + (NB : Int)), .pointer none, .int .u64 0, .int .i64 0, .int .u64 0, .int .u64 0, .int .i64 0]) := by show JW _ _ _; rw [hW1]; exact JW.begin w _
    rw [← hW1]
    clear hW1
    have K1 := J1.out.k
    have a1' := (K1.cell lga (oa + 1)).trans a1
    have b1' := (K1.cell lgb (ob + 1)).trans b1
    obtain ⟨g0, g1, g2, g3, g4, g5, g6, g7, gl⟩ := all8 J1.out.c
    obtain ⟨f0, f1, f2, f3, f4, f5, f6, f7⟩ := froz8 J1.out.c
    obtain ⟨r0, r1, r2, r3, r4, r5, r6, r7, rl⟩ := all8 J1.out.r
    obtain ⟨q0, q1, q2, q3, q4, q5, q6, q7⟩ := froz8 J1.out.r
    have a4' := (K1.cell lga (oa + 4)).trans a4
    have a5' := (K1.cell lga (oa + 5)).trans a5
    have a6' := (K1.cell lga (oa + 6)).trans a6
    have b6' := (K1.cell lgb (ob + 6)).trans b6
    have b7' := (K1.cell lgb (ob + 7)).trans b7
    have K2 : Hid (Kept [] w (W1.setCell ⟨w.heap.size + 1, 5, none⟩ (UV AE))) := K1.setCell (Or.inr (by simp)) _
    clear K1 a0 a1 a4 a5 a6 b0 b1 b6 b7
    go_wp2_with fail
    go_region_law (go_simp; go_at_call 78; refine (hce.out _ (by first | exact K2.out.drew | exact K2.out)).mono ?_; rintro _ _ ⟨rfl, rfl⟩)
    all_goals
      go_wp2
      have J2 : JW w _ #[.int .i64 ((LA : Int) + (LB : Int)), .int .i64 ((NA : Int) + (NB : Int)), .pointer none, .int .u64 0, .int .i64 0, UV AE, .int .u64 0, .int .i64 0] := J1.out.set 5 _
      have J3 : JW w _ #[.int .i64 ((LA : Int) + (LB : Int)), .int .i64 ((NA : Int) + (NB : Int)), .pointer none, .int .u64 0, .int .i64 ((AI : Int) + (EN : Int)), UV AE, .int .u64 0, .int .i64 0] := J2.set 4 _
      have J4 : JW w _ #[.int .i64 ((LA : Int) + (LB : Int)), .int .i64 ((NA : Int) + (NB : Int)), .pointer none, .int .u64 0, .int .i64 ((AI : Int) + (EN : Int)), UV AE, UV BL, .int .i64 0] := J3.set 6 _
      have J5 : JW w _ #[.int .i64 ((LA : Int) + (LB : Int)), .int .i64 ((NA : Int) + (NB : Int)), .pointer none, .int .u64 0, .int .i64 ((AI : Int) + (EN : Int)), UV AE, UV BL, .int .i64 (BT : Int)] := J4.set 7 _
      obtain ⟨ky, by8, _⟩ := J5.done
      obtain ⟨x0, x1, x2, x3, x4, x5, x6, x7, _⟩ := all8 by8.drew
      refine bodyPost_ret (v := .agg #[.int .i64 ((LA : Int) + (LB : Int)), .int .i64 ((NA : Int) + (NB : Int)), .pointer none, .int .u64 0, .int .i64 ((AI : Int) + (EN : Int)), UV AE, UV BL, .int .i64 (BT : Int)]) (by simp [results, Tryz.results145, go_sem, x0, x1, x2, x3, x4, x5, x6, x7]) rfl (hfin.out _ ky.drew)

end

end Go.Proofs.YtgifhgnccmnbiabGreatDoor

set_option linter.unusedVariables false
set_option linter.unusedSimpArgs false
namespace Go.Proofs.YtgifhgnccmnbiabGreatDoor
open Go.RowKit Go.IntWalk

section
variable {w : World} {gs : Nat} {inv : Bool} {ga oa gb ob : Nat} {a b : PCE} {aa ab : Option Addr}

set_option maxHeartbeats 4000000 in
set_option maxRecDepth 100000 in
theorem sjoin_front (ha : PAt w ga oa a aa) (hb : PAt w gb ob b ab) (hs : w.cell? ⟨gs, 2, none⟩ = some (.bool inv)) (hgs : gs < w.heap.size) (h1 : a.nl ≠ 0) (h2 : b.nl = 0) (hl : a.len + b.len ≤ 1099511627776) :
    Calls Tryz.prog 145 #[.pointer (some ⟨gs, 0, none⟩), .pointer (some ⟨ga, oa, none⟩), .pointer (some ⟨gb, ob, none⟩)] w fun e w' => POut w w' [] (joinPC inv a b) e := by
  obtain ⟨GB, OB, rfl, tB, lB⟩ := hb.tab h2
  have hj : joinPC inv a b = { len := a.len + b.len, nl := a.nl, inside := a.inside, en := a.en, la := fromP (tabM b.nx) b.tk a.la, tail := a.tail + b.len } := by
    have e1 : ¬ a.nl + b.nl = 0 := by omega
    have e2 : 0 < a.nl := by omega
    have e3 : ¬ 0 < b.nl := by omega
    unfold joinPC endsP
    rw [if_neg e1]
    simp only [if_pos e2, if_neg e3, if_pos h2]
    rw [h2]; rfl
  rw [hj]
  have hfin : Hid (∀ y, Kept [] w y → POut w y [] { len := a.len + b.len, nl := a.nl, inside := a.inside, en := a.en, la := fromP (tabM b.nx) b.tk a.la, tail := a.tail + b.len } (.returned (.agg #[.int .i64 ((a.len : Int) + (b.len : Int)), .int .i64 (a.nl : Int), .pointer none, .int .u64 0, .int .i64 (a.inside : Int), UV a.en, UV (fromP (tabM b.nx) b.tk a.la), .int .i64 ((a.tail : Int) + (b.len : Int))]))) := fun y k =>
    ⟨k, none, by unfold pcCells; simp only [Int.natCast_add]; rfl, (fun h => by simp only [] at h; omega), fun A h => by cases h⟩
  have hce : Hid (∀ w', Kept [] w w' → Calls Tryz.prog 78 #[.pointer (some ⟨gs, 0, none⟩), .pointer (some ⟨gb, ob, none⟩), .int .u64 (a.la.toNat : Int)] w' fun e w2 => e = .returned (.int .i64 0) ∧ w2 = w') := fun w' k => by
    have h := countEnds_any (gs := gs) a.la ((k.cell hgs 2).trans hs) (hb.kept k)
    have e : endsP inv b a.la = 0 := if_pos h2
    rw [e] at h
    exact h
  have hfr : Hid (∀ w', Kept [] w w' → Calls _ _ _ w' _) := fun w' k => from_any (tabM b.nx) GB OB b.tk a.la w' (tB.kept k lB)
  have a0 := ha.c0
  have a1 := ha.c1
  have a5 := ha.c5
  have a4 := ha.c4
  have a6 := ha.c6
  have a7 := ha.c7
  have b0 := hb.c0
  have b1 := hb.c1
  have b2 := hb.c2
  have b3 := hb.c3
  have lga := ha.lt
  have lgb := hb.lt
  have ba := ha.bd.len
  have bb := hb.bd.len
  have ban := ha.bd.nl
  have bai := ha.bd.inside
  have bat := ha.bd.tail
  have hna : ((a.nl : Nat) : Int) ≠ 0 := by omega
  have hp1 : (0 : Int) < (a.nl : Int) := by omega
  have hne1 : ga ≠ w.heap.size + 1 := by omega
  have hne2 : gb ≠ w.heap.size + 1 := by omega
  rw [h2] at b1
  clear ha hb hj h1 h2 tB
  generalize a.en = AE at *
  generalize fromP (tabM b.nx) b.tk a.la = BL at *
  generalize a.la = AL at *
  generalize b.tk = TB at *
  generalize a.inside = AI at *
  generalize a.tail = AT at *
  generalize a.len = LA at *
  generalize b.len = LB at *
  generalize a.nl = NA at *
  go_enter Tryz.func145, Tryz.ntmps145
  go_wp2_with fail
  go_region
  all_goals
    obtain ⟨W1, hW1⟩ : ∃ W1, W1 = ((w.alloc (.cells #[.int .i64 0, .int .i64 0, .pointer none, .int .u64 0, .int .i64 0, .int .u64 0, .int .u64 0, .int .i64 0] 169)).alloc (.cells #[.int .i64 ((LA : Int) + (LB : Int)), .int .i64 (NA : Int), .pointer none, .int .u64 0, .int .i64 0, .int .u64 0, .int .u64 0, .int .i64 0] 169)).drew := ⟨_, rfl⟩
    have J1 : Hid (JW w W1 #[.int .i64 ((LA : Int) + (LB : Int)), .int .i64 (NA : Int), .pointer none, .int .u64 0, .int .i64 0, .int .u64 0, .int .u64 0, .int .i64 0]) := by show JW _ _ _; rw [hW1]; exact JW.begin w _
    rw [← hW1]
    clear hW1
    have K1 := J1.out.k
    have a1' := (K1.cell lga (oa + 1)).trans a1
    have b1' := (K1.cell lgb (ob + 1)).trans b1
    obtain ⟨g0, g1, g2, g3, g4, g5, g6, g7, gl⟩ := all8 J1.out.c
    obtain ⟨f0, f1, f2, f3, f4, f5, f6, f7⟩ := froz8 J1.out.c
    obtain ⟨r0, r1, r2, r3, r4, r5, r6, r7, rl⟩ := all8 J1.out.r
    obtain ⟨q0, q1, q2, q3, q4, q5, q6, q7⟩ := froz8 J1.out.r
    have a4' := (K1.cell lga (oa + 4)).trans a4
    have a5' := (K1.cell lga (oa + 5)).trans a5
    have a6' := (K1.cell lga (oa + 6)).trans a6
    have K2 : Hid (Kept [] w (W1.setCell ⟨w.heap.size + 1, 5, none⟩ (UV AE))) := K1.setCell (Or.inr (by simp)) _
    clear K1
    go_wp2_with fail
    go_region_law (go_simp; go_at_call 78; refine (hce.out _ (by first | exact K2.out.drew | exact K2.out)).mono ?_; rintro _ _ ⟨rfl, rfl⟩)
    all_goals
      go_wp2_with fail
      obtain ⟨W2, hW2⟩ : ∃ W2, W2 = ((W1.setCell ⟨w.heap.size + 1, 5, none⟩ (UV AE)).setCell ⟨w.heap.size + 1, 4, none⟩ (.int .i64 (AI : Int))).drew := ⟨_, rfl⟩
      have J2 : JW w _ #[.int .i64 ((LA : Int) + (LB : Int)), .int .i64 (NA : Int), .pointer none, .int .u64 0, .int .i64 0, UV AE, .int .u64 0, .int .i64 0] := J1.out.set 5 (UV AE)
      have J3 : JW w _ #[.int .i64 ((LA : Int) + (LB : Int)), .int .i64 (NA : Int), .pointer none, .int .u64 0, .int .i64 (AI : Int), UV AE, .int .u64 0, .int .i64 0] := J2.set 4 (.int .i64 (AI : Int))
      have J4 : Hid (JW w W2 #[.int .i64 ((LA : Int) + (LB : Int)), .int .i64 (NA : Int), .pointer none, .int .u64 0, .int .i64 (AI : Int), UV AE, .int .u64 0, .int .i64 0]) := by show JW _ _ _; rw [hW2]; exact J3.drew
      rw [← hW2]
      clear hW2 J2 J3 J1 K2 a1' b1' a4' a5' a6' g0 g1 g2 g3 g4 g5 g6 g7 gl f0 f1 f2 f3 f4 f5 f6 f7 r0 r1 r2 r3 r4 r5 r6 r7 rl q0 q1 q2 q3 q4 q5 q6 q7
      have K4 := J4.out.k
      have c6' := (K4.cell lga (oa + 6)).trans a6
      have d2' := (K4.cell lgb (ob + 2)).trans b2
      have d3' := (K4.cell lgb (ob + 3)).trans b3
      have K4H : Hid (Kept [] w W2) := K4
      have gl : w.heap.size + 1 < W2.heap.size := J4.out.c.lt
      have a7H : Hid (_ = _) := a7
      have b0H : Hid (_ = _) := b0
      clear K4 a0 a1 a4 a5 a6 a7 b0 b1 b2 b3
      go_wp2_with fail
      go_region_law (go_simp; go_at_call 124; refine (hfr.out _ (by first | exact K4H.out.drew | exact K4H.out)).mono ?_; rintro _ w5 ⟨rfl, k5⟩; have J5 : Hid (JW _ w5 _) := J4.out.kept (Kept.trans (by first | exact (Kept.refl [] _).drew | exact Kept.refl _ _) k5); obtain ⟨g0, g1, g2, g3, g4, g5, g6, g7, gl5⟩ := all8 J5.out.c; obtain ⟨f0, f1, f2, f3, f4, f5, f6, f7⟩ := froz8 J5.out.c; obtain ⟨r0, r1, r2, r3, r4, r5, r6, r7, rl⟩ := all8 J5.out.r; obtain ⟨q0, q1, q2, q3, q4, q5, q6, q7⟩ := froz8 J5.out.r; have a7' := (J5.out.k.cell lga (oa + 7)).trans a7H.out; have b0' := (J5.out.k.cell lgb ob).trans b0H.out)
      all_goals
        go_wp2_with fail
        go_region
        all_goals
          go_wp2
          have J6 : JW w _ #[.int .i64 ((LA : Int) + (LB : Int)), .int .i64 (NA : Int), .pointer none, .int .u64 0, .int .i64 (AI : Int), UV AE, UV BL, .int .i64 0] := J5.out.set 6 (UV BL)
          have J7 : JW w _ #[.int .i64 ((LA : Int) + (LB : Int)), .int .i64 (NA : Int), .pointer none, .int .u64 0, .int .i64 (AI : Int), UV AE, UV BL, .int .i64 ((AT : Int) + (LB : Int))] := J6.set 7 (.int .i64 ((AT : Int) + (LB : Int)))
          obtain ⟨ky, by8, _⟩ := J7.done
          obtain ⟨x0, x1, x2, x3, x4, x5, x6, x7, _⟩ := all8 by8.drew
          refine bodyPost_ret (v := .agg #[.int .i64 ((LA : Int) + (LB : Int)), .int .i64 (NA : Int), .pointer none, .int .u64 0, .int .i64 (AI : Int), UV AE, UV BL, .int .i64 ((AT : Int) + (LB : Int))]) (by simp [results, Tryz.results145, go_sem, x0, x1, x2, x3, x4, x5, x6, x7]) rfl (hfin.out _ ky.drew)

end

end Go.Proofs.YtgifhgnccmnbiabGreatDoor

set_option linter.unusedVariables false
set_option linter.unusedSimpArgs false
namespace Go.Proofs.YtgifhgnccmnbiabGreatDoor
open Go.RowKit Go.IntWalk

section
variable {w : World} {gs : Nat} {inv : Bool} {ga oa gb ob : Nat} {a b : PCE} {aa ab : Option Addr}

set_option maxHeartbeats 4000000 in
set_option maxRecDepth 100000 in
theorem sjoin_back (ha : PAt w ga oa a aa) (hb : PAt w gb ob b ab) (hs : w.cell? ⟨gs, 2, none⟩ = some (.bool inv)) (hgs : gs < w.heap.size) (h1 : a.nl = 0) (h2 : b.nl ≠ 0) (hl : a.len + b.len ≤ 1099511627776) :
    Calls Tryz.prog 145 #[.pointer (some ⟨gs, 0, none⟩), .pointer (some ⟨ga, oa, none⟩), .pointer (some ⟨gb, ob, none⟩)] w fun e w' => POut w w' [] (joinPC inv a b) e := by
  obtain ⟨GA, OA, rfl, tA, lA⟩ := ha.tab h1
  have hj : joinPC inv a b = { len := a.len + b.len, nl := b.nl, inside := b.inside, en := intoP (tabM a.nx) a.tk b.en, la := b.la, tail := b.tail } := by
    unfold joinPC
    rw [if_neg (by omega), if_neg (by omega), if_neg (by omega), if_pos (by omega), if_pos (by omega), h1, Nat.zero_add]
  rw [hj]
  have hfin : Hid (∀ y, Kept [] w y → POut w y [] { len := a.len + b.len, nl := b.nl, inside := b.inside, en := intoP (tabM a.nx) a.tk b.en, la := b.la, tail := b.tail } (.returned (.agg #[.int .i64 ((a.len : Int) + (b.len : Int)), .int .i64 (b.nl : Int), .pointer none, .int .u64 0, .int .i64 (b.inside : Int), UV (intoP (tabM a.nx) a.tk b.en), UV b.la, .int .i64 (b.tail : Int)]))) := fun y k =>
    ⟨k, none, by unfold pcCells; simp only [Int.natCast_add]; rfl, (fun h => by simp only [] at h; omega), fun A h => by cases h⟩
  have hin : Hid (∀ w', Kept [] w w' → Calls _ _ _ w' _) := fun w' k => into_any (tabM a.nx) GA OA a.tk b.en w' (tA.kept k lA)
  have a0 := ha.c0
  have a1 := ha.c1
  have a2 := ha.c2
  have a3 := ha.c3
  have b0 := hb.c0
  have b1 := hb.c1
  have b4 := hb.c4
  have b5 := hb.c5
  have b6 := hb.c6
  have b7 := hb.c7
  have lga := ha.lt
  have lgb := hb.lt
  have ba := ha.bd.len
  have bb := hb.bd.len
  have bbn := hb.bd.nl
  have hnb : ((b.nl : Nat) : Int) ≠ 0 := by omega
  have hp2 : (0 : Int) < (b.nl : Int) := by omega
  have hne1 : ga ≠ w.heap.size + 1 := by omega
  have hne2 : gb ≠ w.heap.size + 1 := by omega
  rw [h1] at a1
  clear ha hb hj h1 h2 tA
  generalize intoP (tabM a.nx) a.tk b.en = IN at *
  generalize a.tk = TA at *
  generalize b.en = BE at *
  generalize b.la = BL at *
  generalize b.inside = BI at *
  generalize b.tail = BT at *
  generalize a.len = LA at *
  generalize b.len = LB at *
  generalize b.nl = NB at *
  go_enter Tryz.func145, Tryz.ntmps145
  go_wp2_with fail
  go_region
  all_goals
    obtain ⟨W1, hW1⟩ : ∃ W1, W1 = ((w.alloc (.cells #[.int .i64 0, .int .i64 0, .pointer none, .int .u64 0, .int .i64 0, .int .u64 0, .int .u64 0, .int .i64 0] 169)).alloc (.cells #[.int .i64 ((LA : Int) + (LB : Int)), .int .i64 (NB : Int), .pointer none, .int .u64 0, .int .i64 0, .int .u64 0, .int .u64 0, .int .i64 0] 169)).drew := ⟨_, rfl⟩
    have J1 : Hid (JW w W1 #[.int .i64 ((LA : Int) + (LB : Int)), .int .i64 (NB : Int), .pointer none, .int .u64 0, .int .i64 0, .int .u64 0, .int .u64 0, .int .i64 0]) := by show JW _ _ _; rw [hW1]; exact JW.begin w _
    rw [← hW1]
    clear hW1
    have K1 := J1.out.k
    have a1' := (K1.cell lga (oa + 1)).trans a1
    have b1' := (K1.cell lgb (ob + 1)).trans b1
    obtain ⟨g0, g1, g2, g3, g4, g5, g6, g7, gl⟩ := all8 J1.out.c
    obtain ⟨f0, f1, f2, f3, f4, f5, f6, f7⟩ := froz8 J1.out.c
    obtain ⟨r0, r1, r2, r3, r4, r5, r6, r7, rl⟩ := all8 J1.out.r
    obtain ⟨q0, q1, q2, q3, q4, q5, q6, q7⟩ := froz8 J1.out.r
    have a2' := (K1.cell lga (oa + 2)).trans a2
    have a3' := (K1.cell lga (oa + 3)).trans a3
    have b5' := (K1.cell lgb (ob + 5)).trans b5
    have K1H : Hid (Kept [] w W1) := K1
    have b1H : Hid (_ = _) := b1
    have b4H : Hid (_ = _) := b4
    have b6H : Hid (_ = _) := b6
    have b7H : Hid (_ = _) := b7
    clear K1 a0 a1 a2 a3 b0 b1 b4 b5 b6 b7
    go_wp2_with fail
    go_region_law (go_simp; go_at_call 182; refine (hin.out _ (by first | exact K1H.out.drew | exact K1H.out)).mono ?_; rintro _ w5 ⟨rfl, k5⟩; have J5 : Hid (JW _ w5 _) := J1.out.kept (Kept.trans (by first | exact (Kept.refl [] _).drew | exact Kept.refl _ _) k5); obtain ⟨g0, g1, g2, g3, g4, g5, g6, g7, gl5⟩ := all8 J5.out.c; obtain ⟨f0, f1, f2, f3, f4, f5, f6, f7⟩ := froz8 J5.out.c; obtain ⟨r0, r1, r2, r3, r4, r5, r6, r7, rl⟩ := all8 J5.out.r; obtain ⟨q0, q1, q2, q3, q4, q5, q6, q7⟩ := froz8 J5.out.r; have b1' := (J5.out.k.cell lgb (ob + 1)).trans b1H.out; have b4' := (J5.out.k.cell lgb (ob + 4)).trans b4H.out; have b6' := (J5.out.k.cell lgb (ob + 6)).trans b6H.out; have b7' := (J5.out.k.cell lgb (ob + 7)).trans b7H.out)
    all_goals
      go_wp2
      have J6 : JW w _ #[.int .i64 ((LA : Int) + (LB : Int)), .int .i64 (NB : Int), .pointer none, .int .u64 0, .int .i64 0, UV IN, .int .u64 0, .int .i64 0] := J5.out.set 5 (UV IN)
      have J7 : JW w _ #[.int .i64 ((LA : Int) + (LB : Int)), .int .i64 (NB : Int), .pointer none, .int .u64 0, .int .i64 (BI : Int), UV IN, .int .u64 0, .int .i64 0] := J6.set 4 (.int .i64 (BI : Int))
      have J8 : JW w _ #[.int .i64 ((LA : Int) + (LB : Int)), .int .i64 (NB : Int), .pointer none, .int .u64 0, .int .i64 (BI : Int), UV IN, UV BL, .int .i64 0] := J7.set 6 (UV BL)
      have J9 : JW w _ #[.int .i64 ((LA : Int) + (LB : Int)), .int .i64 (NB : Int), .pointer none, .int .u64 0, .int .i64 (BI : Int), UV IN, UV BL, .int .i64 (BT : Int)] := J8.set 7 (.int .i64 (BT : Int))
      obtain ⟨ky, by8, _⟩ := J9.done
      obtain ⟨x0, x1, x2, x3, x4, x5, x6, x7, _⟩ := all8 by8
      refine bodyPost_ret (v := .agg #[.int .i64 ((LA : Int) + (LB : Int)), .int .i64 (NB : Int), .pointer none, .int .u64 0, .int .i64 (BI : Int), UV IN, UV BL, .int .i64 (BT : Int)]) (by simp [results, Tryz.results145, go_sem, x0, x1, x2, x3, x4, x5, x6, x7]) rfl (hfin.out _ ky)

theorem sjoin_any (ha : PAt w ga oa a aa) (hb : PAt w gb ob b ab) (hs : w.cell? ⟨gs, 2, none⟩ = some (.bool inv)) (hgs : gs < w.heap.size) (hl : a.len + b.len ≤ 1099511627776) :
    Calls Tryz.prog 145 #[.pointer (some ⟨gs, 0, none⟩), .pointer (some ⟨ga, oa, none⟩), .pointer (some ⟨gb, ob, none⟩)] w fun e w' => POut w w' [] (joinPC inv a b) e := by
  by_cases h1 : a.nl = 0
  · by_cases h2 : b.nl = 0
    · exact sjoin_none ha hb (by omega) hl
    · exact sjoin_back ha hb hs hgs h1 h2 hl
  · by_cases h2 : b.nl = 0
    · exact sjoin_front ha hb hs hgs h1 h2 hl
    · exact sjoin_both ha hb hs hgs h1 h2 hl
end

end Go.Proofs.YtgifhgnccmnbiabGreatDoor

set_option linter.unusedVariables false
set_option linter.unusedSimpArgs false
namespace Go.Proofs.YtgifhgnccmnbiabGreatDoor

/-- A place of a text, behind Y. -/
structure PLC where
  pos : Nat
  beg : Nat
  lines : Nat
  set : B64
def restL (Y : List Nat) : List Nat := (crA [] Y).2
def compL (Y : List Nat) : List (List Nat) := (crA [] Y).1
def plcOf (M : MP) (Y : List Nat) : PLC := ⟨Y.length, Y.length - (restL Y).length, (compL Y).length, runM M (restL Y) M.beg⟩
def behindC (h : PLC) (p : PCE) : PLC :=
  if p.nl = 0 then ⟨h.pos + p.len, h.beg, h.lines + p.nl, fromP (tabM p.nx) p.tk h.set⟩ else ⟨h.pos + p.len, h.pos + p.len - p.tail, h.lines + p.nl, p.la⟩
theorem restL_le (Y : List Nat) : (restL Y).length ≤ Y.length := by have := crA_rest_le Y []; simpa [restL] using this
theorem restL_app (Y x : List Nat) : restL (Y ++ x) = (crA (restL Y) x).2 := by unfold restL; rw [crA_app]
theorem compL_app (Y x : List Nat) : compL (Y ++ x) = compL Y ++ (crA (restL Y) x).1 := by unfold compL restL; rw [crA_app]
theorem plc_ok {M : MP} {inv : Bool} {x : List Nat} {p : PCE} (h : PieceOk M inv x p) (Y : List Nat) : behindC (plcOf M Y) p = plcOf M (Y ++ x) := by
  have hs := h.set (restL Y)
  have hr := h.rest (restL Y)
  have hc := h.count (restL Y)
  have hle := restL_le Y
  unfold setP at hs
  unfold behindC plcOf
  simp only []
  rw [restL_app, compL_app, List.length_append, List.length_append, hc, hr, ← h.len]
  by_cases hn : p.nl = 0
  · rw [if_pos hn] at hs ⊢
    rw [if_pos hn, hs]
    congr 1
    omega
  · rw [if_neg hn] at hs ⊢
    rw [if_neg hn, hs]
theorem ends_ok {M : MP} {inv : Bool} {x : List Nat} {p : PCE} (h : PieceOk M inv x p) (Y : List Nat) : cnt M inv (compL Y) + endsP inv p (plcOf M Y).set = cnt M inv (compL (Y ++ x)) := by
  have he := h.ends (restL Y)
  rw [compL_app, cnt_app, ← he]
  rfl
theorem inLine_ok (M : MP) (Y : List Nat) : (plcOf M Y).beg < (plcOf M Y).pos ↔ restL Y ≠ [] := by
  have hle := restL_le Y
  unfold plcOf
  simp only []
  have := List.length_pos_iff (l := restL Y)
  constructor
  · intro h; rw [← this]; omega
  · intro h
    have := this.2 h
    omega
theorem linesL_cr (X : List Nat) : linesL X = compL X ++ if restL X = [] then [] else [restL X] := linesA_cr X []
def capI (mx : Int) (n : Nat) : Int := if 0 < mx ∧ mx < (n : Int) then mx else (n : Int)
theorem comp_le (Y : List Nat) : (compL Y).length ≤ Y.length := by unfold compL; rw [crA_count]; exact nls_le Y

end Go.Proofs.YtgifhgnccmnbiabGreatDoor

set_option linter.unusedVariables false
set_option linter.unusedSimpArgs false
namespace Go.Proofs.YtgifhgnccmnbiabGreatDoor
open Go.RowKit Go.IntWalk

def PT.arr (p : PT) : Array Value := #[.int .i64 p.len, .int .i64 p.nl, .int .i64 p.first, .int .i64 p.last]
def PT.val (p : PT) : Value := .agg p.arr
structure PTsmall (p : PT) : Prop where
  len : p.len ≤ 1099511627777
  nl : p.nl ≤ 1099511627777
theorem ptOf_small (t : List Nat) : PTsmall (ptOf t) := ⟨by rw [ptOf_len]; exact capL_le _, by rw [ptOf_nl]; exact capL_le _⟩
theorem byteP_small (c : Nat) : PTsmall (byteP c) := by rw [← ptOf_one]; exact ptOf_small _
theorem joinP_small {a b : PT} (ha : PTsmall a) (hb : PTsmall b) : PTsmall (joinP a b) := by
  unfold joinP
  split
  · exact hb
  · split
    · exact ha
    · exact ⟨capL_le _, capL_le _⟩

set_option maxHeartbeats 400000 in
theorem bounded_any (n : Nat) (hn : n ≤ 3000000000000) (w : World) : Calls Tryz.prog 194 #[.int .i64 (n : Int)] w fun e w' => e = .returned (.int .i64 (capL n : Int)) ∧ w' = w := by
  unfold capL
  by_cases h : (1099511627777 : Int) < (n : Int)
  · rw [if_pos (by omega)]
    go_enter Tryz.func194, Tryz.ntmps194
    go_wp2
    go_ret
    exact ⟨rfl, rfl⟩
  · rw [if_neg (by omega)]
    go_enter Tryz.func194, Tryz.ntmps194
    go_wp2
    go_ret
    exact ⟨rfl, rfl⟩

set_option maxHeartbeats 400000 in
theorem partOfByte_any (c : Nat) (w : World) : Calls Tryz.prog 184 #[.int .i64 (c : Int)] w fun e w' => e = .returned (byteP c).val ∧ Kept [] w w' := by
  have hk : Hid (∀ o1 o2, Kept [] w ((w.alloc o1).alloc o2)) := fun o1 o2 => ((Kept.refl [] w).alloc _).alloc _
  unfold byteP PT.val PT.arr
  by_cases h : (c : Int) = 10
  · rw [if_pos (by omega)]
    have hc : c = 10 := by omega
    subst hc
    clear h
    go_enter Tryz.func184, Tryz.ntmps184
    go_wp2
    refine bodyPost_ret (v := .agg #[.int .i64 1, .int .i64 1, .int .i64 10, .int .i64 10]) (by simp [results, Tryz.results184, go_sem]) rfl ⟨rfl, hk.out _ _⟩
  · rw [if_neg (by omega)]
    have hb : ((c : Int) == 10) = false := beq_eq_false_iff_ne.2 h
    go_enter Tryz.func184, Tryz.ntmps184
    go_wp2
    refine bodyPost_ret (v := .agg #[.int .i64 1, .int .i64 0, .int .i64 c, .int .i64 c]) (by simp [results, Tryz.results184, go_sem]) rfl ⟨rfl, hk.out _ _⟩

set_option maxHeartbeats 1000000 in
set_option maxRecDepth 100000 in
theorem pjoin_any (a b : PT) (ha : PTsmall a) (hb : PTsmall b) (w : World) : Calls Tryz.prog 163 #[a.val, b.val] w fun e w' => e = .returned (joinP a b).val ∧ Kept [] w w' := by
  have hk : Hid (∀ o1 o2 o3, Kept [] w (((w.alloc o1).alloc o2).alloc o3)) := fun o1 o2 o3 => (((Kept.refl [] w).alloc _).alloc _).alloc _
  obtain ⟨a1, a2, a3, a4⟩ := a
  obtain ⟨b1, b2, b3, b4⟩ := b
  obtain ⟨ha1, ha2⟩ := ha
  obtain ⟨hb1, hb2⟩ := hb
  simp only [] at ha1 ha2 hb1 hb2
  unfold joinP PT.val PT.arr
  simp only []
  by_cases h1 : a1 = 0
  · subst h1
    rw [if_pos rfl]
    go_enter Tryz.func163, Tryz.ntmps163
    go_wp2
    refine bodyPost_ret (v := .agg #[.int .i64 b1, .int .i64 b2, .int .i64 b3, .int .i64 b4]) (by simp [results, Tryz.results163, go_sem]) rfl ⟨rfl, hk.out _ _ _⟩
  · rw [if_neg h1]
    have e1 : ((a1 : Int) == 0) = false := beq_eq_false_iff_ne.2 (by omega)
    by_cases h2 : b1 = 0
    · subst h2
      rw [if_pos rfl]
      go_enter Tryz.func163, Tryz.ntmps163
      go_wp2
      refine bodyPost_ret (v := .agg #[.int .i64 a1, .int .i64 a2, .int .i64 a3, .int .i64 a4]) (by simp [results, Tryz.results163, go_sem]) rfl ⟨rfl, hk.out _ _ _⟩
    · rw [if_neg h2]
      have e2 : ((b1 : Int) == 0) = false := beq_eq_false_iff_ne.2 (by omega)
      have g1 := fun w => bounded_any (a1 + b1) (by omega) w
      have g2 := fun w => bounded_any (a2 + b2) (by omega) w
      simp only [Int.natCast_add] at g1 g2
      have g1 : Hid (∀ w, _) := g1
      have g2 : Hid (∀ w, _) := g2
      clear h1 h2
      generalize capL (a1 + b1) = L1 at *
      generalize capL (a2 + b2) = L2 at *
      go_enter Tryz.func163, Tryz.ntmps163
      go_wp2_with fail
      refine (g1.out _).mono ?_
      rintro e w1 ⟨rfl, rfl⟩
      go_wp2_with fail
      refine (g2.out _).mono ?_
      rintro e w1 ⟨rfl, rfl⟩
      go_wp2
      refine bodyPost_ret (v := .agg #[.int .i64 L1, .int .i64 L2, .int .i64 a3, .int .i64 b4]) (by simp [results, Tryz.results163, go_sem]) rfl ⟨rfl, hk.out _ _ _⟩

end Go.Proofs.YtgifhgnccmnbiabGreatDoor

set_option linter.unusedVariables false
set_option linter.unusedSimpArgs false
namespace Go.Proofs.YtgifhgnccmnbiabGreatDoor
open Go.RowKit Go.IntWalk

/-- What stands outside of some blocks stays: all below B but block b. -/
structure Fra (B b : Nat) (w w' : World) : Prop where
  os : w'.os = w.os
  tape : w'.tape = w.tape
  output : w'.output = w.output
  size : w.heap.size ≤ w'.heap.size
  block : ∀ k, k < B → k ≠ b → w'.heap[k]? = w.heap[k]?
theorem Fra.refl (B b : Nat) (w : World) : Fra B b w w := ⟨rfl, rfl, rfl, Nat.le_refl _, fun _ _ _ => rfl⟩
theorem Fra.trans {B b : Nat} {u v w : World} (h : Fra B b u v) (k : Fra B b v w) : Fra B b u w :=
  ⟨k.os.trans h.os, k.tape.trans h.tape, k.output.trans h.output, Nat.le_trans h.size k.size, fun i hi hb => (k.block i hi hb).trans (h.block i hi hb)⟩
theorem Fra.of_kept {B b : Nat} {w w' : World} (k : Kept [] w w') (hB : B ≤ w.heap.size) : Fra B b w w' := ⟨k.os, k.tape, k.output, k.size, fun i hi _ => k.block i (by omega) (by simp)⟩
theorem Fra.drew {B b : Nat} {w w' : World} (h : Fra B b w w') : Fra B b w w'.drew := ⟨h.os, h.tape, h.output, h.size, h.block⟩
theorem Fra.set {B b : Nat} {w w' : World} (h : Fra B b w w') {p : Addr} (hp : p.block = b ∨ B ≤ p.block) (u : Value) : Fra B b w (w'.setCell p u) :=
  ⟨h.os, h.tape, h.output, by simpa [World.setCell] using h.size, fun k hk hb => by
    rw [Below.heap_setCell _ _ _ _ (by rintro rfl; omega)]; exact h.block k hk hb⟩
theorem Fra.blk {B b k : Nat} {w w' : World} {cs : Array Value} {e : TypeId} (h : Fra B b w w') (hk : Blk w k cs e) (h1 : k < B) (h2 : k ≠ b) : Blk w' k cs e := (h.block k h1 h2).trans hk
theorem Fra.below {B b : Nat} {w w' : World} (h : Fra B b w w') {C : Nat} (hC : C ≤ B) (hb : C ≤ b) : Below C w w' := ⟨h.os, h.tape, h.output, h.size, fun k hk => h.block k (by omega) (by omega)⟩

/-- A text: its kind, how many symbols the file has, its rules, its symbols, what is told of it. -/
structure TT where
  kind : Int
  syms : Nat := 0
  rules : List RU := []
  start : List Nat := []
  whole : PT := {}
def RU.cells (x : RU) : List Value := [.int .i64 x.l, .int .i64 x.r, .int .i64 x.pt.len, .int .i64 x.pt.nl, .int .i64 x.pt.first, .int .i64 x.pt.last]
def ruCells (l : List RU) : List Value := l.flatMap RU.cells
def symCells (l : List Nat) : List Value := l.map (fun (s : Nat) => Value.int .i64 (s : Int))
def TT.cells (t : TT) (rv sv : Value) : Array Value := #[.int .i64 t.kind, .int .i64 t.syms, rv, sv, .int .i64 t.whole.len, .int .i64 t.whole.nl, .int .i64 t.whole.first, .int .i64 t.whole.last]

theorem ruCells_snoc (l : List RU) (x : RU) : ruCells (l ++ [x]) = ruCells l ++ x.cells := by simp [ruCells]
theorem symCells_snoc (l : List Nat) (x : Nat) : symCells (l ++ [x]) = symCells l ++ [.int .i64 (x : Int)] := by simp [symCells]
theorem ruCells_get : ∀ (l : List RU) (i j : Nat) (x : RU), l[i]? = some x → j < 6 → (ruCells l)[i * 6 + j]? = x.cells[j]?
  | [], i, j, x, h, _ => by simp at h
  | y :: l, 0, j, x, h, hj => by
    simp at h; subst h
    rw [Nat.zero_mul, Nat.zero_add]
    show (y.cells ++ ruCells l)[j]? = _
    rw [List.getElem?_append_left (by simp [RU.cells]; omega)]
  | y :: l, i + 1, j, x, h, hj => by
    simp at h
    show (y.cells ++ ruCells l)[(i + 1) * 6 + j]? = _
    rw [List.getElem?_append_right (by simp [RU.cells]; omega)]
    have e : (i + 1) * 6 + j - y.cells.length = i * 6 + j := by simp [RU.cells]; omega
    rw [e]
    exact ruCells_get l i j x h hj

/-- A text in memory: at place o of block b, whose other cells are pre and post; its lists lie at B or above. -/
structure TM (w : World) (b : Nat) (pre post : Array Value) (E B : Nat) (t : TT) (rv sv : Value) : Prop where
  blk : Blk w b (pre ++ t.cells rv sv ++ post) E
  lt : b < B
  up : B ≤ w.heap.size
  rules : w.ownsRow B 221 6 rv t.rules.length (ruCells t.rules)
  start : w.ownsRow B 3 1 sv t.start.length (symCells t.start)
  small : ∀ x, x ∈ t.rules → PTsmall x.pt
  whole : PTsmall t.whole

theorem row_stay {w w2 : World} {S : List Nat} {base e z n : Nat} {v : Value} {xs : List Value} (h : w.ownsRow base e z v n xs) (k : Kept S w w2) (hg : ∀ g, v.ownBlock = some g → ¬ g ∈ S) : w2.ownsRow base e z v n xs := by
  refine ⟨h.1, ?_⟩
  rcases h.2 with h1 | ⟨g, cap, cur, h1, h2, h3, r⟩
  · exact Or.inl h1
  · exact Or.inr ⟨g, cap, cur, h1, h2, (k.block g (Array.getElem?_eq_some_iff.1 h3).1 (hg g (by rw [h1]; rfl))).trans h3, r⟩

section
variable {w w' : World} {b E B : Nat} {pre post : Array Value} {t : TT} {rv sv : Value}
theorem TM.cell (h : TM w b pre post E B t rv sv) {o : Nat} (ho : o = pre.size) (j : Nat) (hj : j < 8) : w.cell? ⟨b, o + j, none⟩ = (t.cells rv sv)[j]? := by
  rw [h.blk.cell, ho, Array.append_assoc, Array.getElem?_append_right (by omega), Array.getElem?_append_left (by simp [TT.cells]; omega), Nat.add_sub_cancel_left]
theorem TM.kept (h : TM w b pre post E B t rv sv) (k : Kept [] w w') : TM w' b pre post E B t rv sv :=
  ⟨h.blk.kept k (by simp), h.lt, Nat.le_trans h.up k.size, row_stay (S := []) h.rules k (fun _ _ => by simp), row_stay (S := []) h.start k (fun _ _ => by simp), h.small, h.whole⟩
theorem TM.other (h : TM w b pre post E B t rv sv) {b' : Nat} (k : Kept [b'] w w') (h1 : b' < B) (h2 : b' ≠ b) : TM w' b pre post E B t rv sv :=
  ⟨h.blk.kept k (by simp; omega), h.lt, Nat.le_trans h.up k.size, row_stay (S := [b']) h.rules k (fun g hg hc => by simp at hc; have := (h.rules.lt g hg).1; omega), row_stay (S := [b']) h.start k (fun g hg hc => by simp at hc; have := (h.start.lt g hg).1; omega), h.small, h.whole⟩
end

/-- The rule of a symbol. -/
def ruleAt (rs : List RU) (s : Int) : RU := if 0 ≤ s - 256 then (rs[(s - 256).toNat]?).getD ⟨0, 0, {}⟩ else ⟨0, 0, {}⟩
def RU.val (x : RU) : Value := .agg x.cells.toArray

theorem ptr_add (g j : Nat) : (⟨g, 0, none⟩ : Addr).add j = ⟨g, j, none⟩ := by unfold Addr.add; split <;> simp_all

set_option maxHeartbeats 1000000 in
set_option maxRecDepth 100000 in
theorem rule_any {w : World} {b E B : Nat} {pre post : Array Value} {t : TT} {rv sv : Value} (h : TM w b pre post E B t rv sv) {o : Nat} (ho : o = pre.size) (s : Nat) (hs : s ≤ 100000) (hl : t.rules.length ≤ 100000) :
    Calls Tryz.prog 144 #[.pointer (some ⟨b, o, none⟩), .int .i64 (s : Int)] w fun e w' => e = .returned (ruleAt t.rules s).val ∧ Kept [] w w' := by
  have hk : Hid (∀ o1, Kept [] w (w.alloc o1)) := fun o1 => (Kept.refl [] w).alloc _
  have c2 : w.cell? ⟨b, o + 2, none⟩ = some rv := h.cell ho 2 (by omega)
  have hbw : b < w.heap.size := h.blk.lt
  by_cases h1 : (s : Int) - 256 < 0
  · have e : ruleAt t.rules s = ⟨0, 0, {}⟩ := by unfold ruleAt; rw [if_neg (by omega)]
    rw [e]
    unfold RU.val RU.cells
    clear h e c2
    go_enter Tryz.func144, Tryz.ntmps144
    go_wp2
    refine bodyPost_ret (v := .agg #[.int .i64 0, .int .i64 0, .int .i64 0, .int .i64 0, .int .i64 0, .int .i64 0]) (by simp [results, Tryz.results144, go_sem]) rfl ⟨rfl, hk.out _⟩
  · obtain ⟨k, rfl⟩ : ∃ k : Nat, s = k + 256 := ⟨s - 256, by omega⟩
    have hn : Hid (∀ x, t.rules[k]? = x → ruleAt t.rules ((k + 256 : Nat) : Int) = x.getD ⟨0, 0, {}⟩) := fun x hx => by
      unfold ruleAt; rw [if_pos (by omega), show (((k + 256 : Nat) : Int) - 256).toNat = k by omega, hx]
    clear h1
    by_cases h2 : k < t.rules.length
    · obtain ⟨x, hx⟩ : ∃ x, t.rules[k]? = some x := ⟨_, List.getElem?_eq_getElem h2⟩
      rw [hn.out _ hx]
      obtain ⟨g, cap, rfl⟩ := own_form h.rules (by omega)
      have hgw : g < w.heap.size := (h.rules.lt g rfl).2
      have hc : ∀ j, j < 6 → w.cell? ⟨g, k * 6 + j, none⟩ = x.cells[j]? := fun j hj => by
        obtain ⟨u, hu⟩ : ∃ u, x.cells[j]? = some u := ⟨_, List.getElem?_eq_getElem (by simp [RU.cells]; omega)⟩
        have := h.rules.cells (g := g) rfl (k * 6 + j) u (by rw [ruCells_get _ _ _ _ hx hj]; exact hu)
        rw [ptr_add] at this
        rw [this, hu]
      obtain ⟨l, r, ⟨p1, p2, p3, p4⟩⟩ := x
      have d0 : w.cell? ⟨g, k * 6, none⟩ = some (.int .i64 l) := hc 0 (by omega)
      have d1 : w.cell? ⟨g, k * 6 + 1, none⟩ = some (.int .i64 r) := hc 1 (by omega)
      have d2 : w.cell? ⟨g, k * 6 + 2, none⟩ = some (.int .i64 p1) := hc 2 (by omega)
      have d3 : w.cell? ⟨g, k * 6 + 3, none⟩ = some (.int .i64 p2) := hc 3 (by omega)
      have d4 : w.cell? ⟨g, k * 6 + 4, none⟩ = some (.int .i64 p3) := hc 4 (by omega)
      have d5 : w.cell? ⟨g, k * 6 + 5, none⟩ = some (.int .i64 p4) := hc 5 (by omega)
      show Calls _ _ _ _ (fun e w' => e = .returned (.agg #[.int .i64 l, .int .i64 r, .int .i64 p1, .int .i64 p2, .int .i64 p3, .int .i64 p4]) ∧ Kept [] w w')
      generalize t.rules.length = n at *
      have lt : (k : Int) < (n : Int) := by omega
      clear h hc hx hn ho
      go_enter Tryz.func144, Tryz.ntmps144
      go_wp2
      refine bodyPost_ret (v := .agg #[.int .i64 l, .int .i64 r, .int .i64 p1, .int .i64 p2, .int .i64 p3, .int .i64 p4]) (by simp [results, Tryz.results144, go_sem]) rfl ⟨rfl, hk.out _⟩
    · rw [hn.out none (List.getElem?_eq_none (by omega))]
      show Calls _ _ _ _ (fun e w' => e = .returned (.agg #[.int .i64 0, .int .i64 0, .int .i64 0, .int .i64 0, .int .i64 0, .int .i64 0]) ∧ Kept [] w w')
      have hv : ∃ a cap, rv = .slice a t.rules.length cap := by
        rcases h.rules.2 with ⟨h3, h4⟩ | ⟨g, cap, _, h3, _⟩
        · exact ⟨none, 0, by rw [h3, h4]⟩
        · exact ⟨_, cap, h3⟩
      obtain ⟨a, cap, rfl⟩ := hv
      generalize t.rules.length = n at *
      have lt : ¬ (k : Int) < (n : Int) := by omega
      clear h hn ho h2
      go_enter Tryz.func144, Tryz.ntmps144
      go_wp2
      refine bodyPost_ret (v := .agg #[.int .i64 0, .int .i64 0, .int .i64 0, .int .i64 0, .int .i64 0, .int .i64 0]) (by simp [results, Tryz.results144, go_sem]) rfl ⟨rfl, hk.out _⟩

end Go.Proofs.YtgifhgnccmnbiabGreatDoor

set_option linter.unusedVariables false
set_option linter.unusedSimpArgs false
namespace Go.Proofs.YtgifhgnccmnbiabGreatDoor
open Go.RowKit Go.IntWalk

theorem TM.part_small {w : World} {b E B : Nat} {pre post : Array Value} {t : TT} {rv sv : Value} (h : TM w b pre post E B t rv sv) (s : Nat) : PTsmall (partAt t.rules s) := by
  unfold partAt
  split
  · exact byteP_small s
  · cases hx : t.rules[s - 256]? with
    | none => exact ⟨by simp, by simp⟩
    | some x => exact h.small x (List.mem_of_getElem? hx)

theorem kept4 {w w1 : World} (k : Kept [] w w1) {g : Nat} (hg : w.heap.size ≤ g) (u0 u1 u2 u3 : Value) :
    Kept [] w ((((w1.setCell ⟨g, 0, none⟩ u0).setCell ⟨g, 1, none⟩ u1).setCell ⟨g, 2, none⟩ u2).setCell ⟨g, 3, none⟩ u3) :=
  (((k.setCell (Or.inr hg) _).setCell (Or.inr hg) _).setCell (Or.inr hg) _).setCell (Or.inr hg) _
def zero4 : Array Value := #[.int .i64 0, .int .i64 0, .int .i64 0, .int .i64 0]
theorem set4 {w : World} {g : Nat} {E : TypeId} (h : Blk w g zero4 E) (u0 u1 u2 u3 : Value) :
    Blk ((((w.setCell ⟨g, 0, none⟩ u0).setCell ⟨g, 1, none⟩ u1).setCell ⟨g, 2, none⟩ u2).setCell ⟨g, 3, none⟩ u3) g #[u0, u1, u2, u3] E :=
  (((h.set 0 u0).set 1 u1).set 2 u2).set 3 u3
theorem size_ppart : (Tryz.prog.info? 84).map (·.size) = some 4 := by kernel_rfl
theorem field_part (l r p1 p2 p3 p4 : Value) (w : World) : (Instr.field 221 (.agg #[l, r, p1, p2, p3, p4]) 2).run Tryz.prog w = .ok (.agg #[p1, p2, p3, p4]) w := by kernel_rfl
theorem results_ppart {fn : Func} {r : Tmp} (h : fn.results = #[.cell r 84]) (tmps : Array Value) (w : World) (g : Nat) (p : PT)
    (hp : tmps.getD r undef = .pointer (some ⟨g, 0, none⟩)) (hg : Blk w g p.arr 84) : (results fn tmps).run Tryz.prog w = .ok p.val w :=
  results_cell_row h tmps w g _ _ _ _ hp hg Tryz.underlying84 rfl size_ppart

set_option maxHeartbeats 1000000 in
set_option maxRecDepth 100000 in
theorem part_any {w : World} {b E B : Nat} {pre post : Array Value} {t : TT} {rv sv : Value} (h : TM w b pre post E B t rv sv) {o : Nat} (ho : o = pre.size) (s : Nat) (hs : s ≤ 100000) (hl : t.rules.length ≤ 100000) :
    Calls Tryz.prog 147 #[.pointer (some ⟨b, o, none⟩), .int .i64 (s : Int)] w fun e w' => e = .returned (partAt t.rules s).val ∧ Kept [] w w' := by
  have hk : Kept [] w (w.alloc (.cells zero4 84)) := (Kept.refl [] w).alloc _
  have hfin : Hid (∀ w1, Kept [] (w.alloc (.cells zero4 84)) w1 → Blk w1 w.heap.size zero4 84 ∧ (∀ u0 u1 u2 u3, Blk ((((w1.setCell ⟨w.heap.size, 0, none⟩ u0).setCell ⟨w.heap.size, 1, none⟩ u1).setCell ⟨w.heap.size, 2, none⟩ u2).setCell ⟨w.heap.size, 3, none⟩ u3) w.heap.size #[u0, u1, u2, u3] 84) ∧ ∀ u0 u1 u2 u3, Kept [] w ((((w1.setCell ⟨w.heap.size, 0, none⟩ u0).setCell ⟨w.heap.size, 1, none⟩ u1).setCell ⟨w.heap.size, 2, none⟩ u2).setCell ⟨w.heap.size, 3, none⟩ u3)) := fun w1 k1 =>
    ⟨(Blk.new w _ _).kept k1 (by simp), fun u0 u1 u2 u3 => set4 ((Blk.new w _ _).kept k1 (by simp)) u0 u1 u2 u3, fun u0 u1 u2 u3 => kept4 (hk.trans k1) (Nat.le_refl _) u0 u1 u2 u3⟩
  by_cases h1 : (s : Int) < 256
  · have e : partAt t.rules s = byteP s := by unfold partAt; rw [if_pos (by omega)]
    rw [e]
    have hb : Hid (∀ w, Calls _ _ _ w _) := fun w => partOfByte_any s w
    clear e h ho hk
    generalize byteP s = p at *
    obtain ⟨p1, p2, p3, p4⟩ := p
    unfold PT.val PT.arr at hb ⊢
    unfold zero4 at hfin
    simp only [] at hb ⊢
    go_enter Tryz.func147, Tryz.ntmps147
    go_wp2_with fail
    refine (hb.out _).mono ?_
    rintro e w1 ⟨rfl, k1⟩
    obtain ⟨hb1, hS, hK⟩ := hfin.out _ k1
    have hS : Hid (∀ u0 u1 u2 u3, _) := hS
    have hK : Hid (∀ u0 u1 u2 u3, _) := hK
    have c0 : w1.cell? ⟨w.heap.size, 0, none⟩ = some (.int .i64 0) := hb1.cell 0
    have c1 : w1.cell? ⟨w.heap.size, 1, none⟩ = some (.int .i64 0) := hb1.cell 1
    have c2 : w1.cell? ⟨w.heap.size, 2, none⟩ = some (.int .i64 0) := hb1.cell 2
    have c3 : w1.cell? ⟨w.heap.size, 3, none⟩ = some (.int .i64 0) := hb1.cell 3
    have f0 : w1.frozen? ⟨w.heap.size, 0, none⟩ = false := hb1.frozen 0
    have f1 : w1.frozen? ⟨w.heap.size, 1, none⟩ = false := hb1.frozen 1
    have f2 : w1.frozen? ⟨w.heap.size, 2, none⟩ = false := hb1.frozen 2
    have f3 : w1.frozen? ⟨w.heap.size, 3, none⟩ = false := hb1.frozen 3
    clear hb1 k1 hb hfin
    go_wp2
    exact bodyPost_ret (v := .agg #[.int .i64 p1, .int .i64 p2, .int .i64 p3, .int .i64 p4]) (results_ppart Tryz.results147 _ _ w.heap.size ⟨p1, p2, p3, p4⟩ rfl (hS.out _ _ _ _)) rfl ⟨rfl, hK.out _ _ _ _⟩
  · have e : (ruleAt t.rules s).pt = partAt t.rules s := by
      unfold ruleAt partAt
      rw [if_pos (by omega), if_neg (by omega), show ((s : Int) - 256).toNat = s - 256 by omega]
      cases t.rules[s - 256]? <;> rfl
    have hr : Hid (Calls _ _ _ (w.alloc (.cells zero4 84)) _) := rule_any (h.kept hk) ho s hs hl
    rw [← e]
    clear e h hk ho
    generalize ruleAt t.rules (s : Int) = x at *
    obtain ⟨l, r, ⟨p1, p2, p3, p4⟩⟩ := x
    unfold RU.val RU.cells at hr
    unfold PT.val PT.arr
    unfold zero4 at hfin hr
    simp only [] at hr ⊢
    have hfp := field_part
    go_enter Tryz.func147, Tryz.ntmps147
    go_wp2_with fail
    refine hr.out.mono ?_
    rintro e w1 ⟨rfl, k1⟩
    obtain ⟨hb1, hS, hK⟩ := hfin.out _ k1
    have hS : Hid (∀ u0 u1 u2 u3, _) := hS
    have hK : Hid (∀ u0 u1 u2 u3, _) := hK
    have c0 : w1.cell? ⟨w.heap.size, 0, none⟩ = some (.int .i64 0) := hb1.cell 0
    have c1 : w1.cell? ⟨w.heap.size, 1, none⟩ = some (.int .i64 0) := hb1.cell 1
    have c2 : w1.cell? ⟨w.heap.size, 2, none⟩ = some (.int .i64 0) := hb1.cell 2
    have c3 : w1.cell? ⟨w.heap.size, 3, none⟩ = some (.int .i64 0) := hb1.cell 3
    have f0 : w1.frozen? ⟨w.heap.size, 0, none⟩ = false := hb1.frozen 0
    have f1 : w1.frozen? ⟨w.heap.size, 1, none⟩ = false := hb1.frozen 1
    have f2 : w1.frozen? ⟨w.heap.size, 2, none⟩ = false := hb1.frozen 2
    have f3 : w1.frozen? ⟨w.heap.size, 3, none⟩ = false := hb1.frozen 3
    clear hb1 k1 hr hfin
    go_wp2
    exact bodyPost_ret (v := .agg #[.int .i64 p1, .int .i64 p2, .int .i64 p3, .int .i64 p4]) (results_ppart Tryz.results147 _ _ w.heap.size ⟨p1, p2, p3, p4⟩ rfl (hS.out _ _ _ _)) rfl ⟨rfl, hK.out _ _ _ _⟩

section
variable {w w0 w1 : World} {b E B : Nat} {pre post : Array Value} {t : TT} {rv sv : Value}
theorem TM.grow_rules (h : TM w0 b pre post E B t rv sv) (g : w0.grownBy w1 rv.ownBlock) : Blk w1 b (pre ++ t.cells rv sv ++ post) E ∧ w1.ownsRow B 3 1 sv t.start.length (symCells t.start) ∧ Fra B b w0 w1 := by
  have hlow : ∀ k, k < B → some k ≠ rv.ownBlock := fun k hk hc => by have := (h.rules.lt k hc.symm).1; omega
  refine ⟨(g.block b h.blk.lt (hlow b h.lt)).trans h.blk, World.ownsRow.kept h.start g (own_ne h.start h.rules (by decide)), ⟨g.os, g.tape, g.output, g.size, fun k hk _ => g.block k (Nat.lt_of_lt_of_le hk h.up) (hlow k hk)⟩⟩
theorem TM.grow_start (h : TM w0 b pre post E B t rv sv) (g : w0.grownBy w1 sv.ownBlock) : Blk w1 b (pre ++ t.cells rv sv ++ post) E ∧ w1.ownsRow B 221 6 rv t.rules.length (ruCells t.rules) ∧ Fra B b w0 w1 := by
  have hlow : ∀ k, k < B → some k ≠ sv.ownBlock := fun k hk hc => by have := (h.start.lt k hc.symm).1; omega
  refine ⟨(g.block b h.blk.lt (hlow b h.lt)).trans h.blk, World.ownsRow.kept h.rules g (own_ne h.rules h.start (by decide)), ⟨g.os, g.tape, g.output, g.size, fun k hk _ => g.block k (Nat.lt_of_lt_of_le hk h.up) (hlow k hk)⟩⟩
theorem row_set {e z n : Nat} {v : Value} {xs : List Value} (h : w.ownsRow B e z v n xs) (hb : b < B) (j : Nat) (u : Value) : (w.setCell ⟨b, j, none⟩ u).ownsRow B e z v n xs :=
  row_stay (S := [b]) h ((Kept.refl [b] w).setCell (Or.inl (by simp)) u) (fun g hg hc => by simp at hc; have := (h.lt g hg).1; omega)
theorem text_set {cs cs' : Array Value} (hb : Blk w b (pre ++ cs ++ post) E) {o j : Nat} (ho : o = pre.size) (hj : j < cs.size) (u : Value) (e : cs.setIfInBounds j u = cs') : Blk (w.setCell ⟨b, o + j, none⟩ u) b (pre ++ cs' ++ post) E := by
  have h := hb.set (o + j) u
  rwa [show (pre ++ cs ++ post).setIfInBounds (o + j) u = pre ++ cs' ++ post by
    subst ho
    rw [← e]
    apply Array.ext'
    simp only [Array.toList_setIfInBounds, Array.toList_append, List.append_assoc]
    rw [List.set_append, if_neg (by simp), List.set_append, if_pos (by simp; omega)]
    simp] at h

end

end Go.Proofs.YtgifhgnccmnbiabGreatDoor
