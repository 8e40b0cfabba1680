/- Package sift: Match, walked. -/
import Derived.Test.YtjhmkkhnnijigaaMBuild2
set_option linter.unusedVariables false
set_option linter.unusedSimpArgs false
namespace Go.Proofs.Ytjhmkkhnnijigaa
open Go.RowKit Go.IntWalk

/-- No newline among the first q bytes. -/
def noNl (t : ByteArray) (q : Nat) : Prop := ∀ i, i < q → ∀ h : i < t.size, t[i].toNat ≠ 10
def IsLine (t : ByteArray) : Prop := t.size ≤ 600 ∧ noNl t t.size

open Classical in
noncomputable def lineB (t : ByteArray) : Bool := decide (IsLine t)
theorem lineB_true {t : ByteArray} (h : IsLine t) : lineB t = true := by unfold lineB; exact @decide_eq_true _ (Classical.propDecidable _) h
theorem lineB_false {t : ByteArray} (h : ¬ IsLine t) : lineB t = false := by unfold lineB; exact @decide_eq_false _ (Classical.propDecidable _) h

set_option maxHeartbeats 1000000 in
theorem isLine_any (t : ByteArray) (ht : t.size ≤ maxLen) (w : World) :
    Calls Try.prog 33 #[.string t] w fun e w' => e = .returned (.bool (lineB t)) ∧ w' = w := by
  unfold maxLen at ht
  by_cases hl : (600 : Int) < (t.size : Int)
  · have hN : Hid (¬ IsLine t) := fun hc => by have := hc.1; omega
    go_enter Try.func33, Try.ntmps33
    go_wp2
    go_ret
    exact ⟨by rw [lineB_false hN.out]; rfl, rfl⟩
  · have hl2 : (t.size : Int) ≤ 600 := by omega
    clear hl
    go_enter Try.func33, Try.ntmps33
    go_wp2
    go_loop [3] (fun iv => ∃ q : Nat, iv = .int .i64 (q : Int) ∧ q ≤ t.size ∧ noNl t q) (fun iv => ((t.size : Int) - intOf iv).toNat)
    case atStart => exact ⟨0, rfl, by omega, fun i hi => by omega⟩
    case round =>
      obtain ⟨q, rfl, hq, hno⟩ := hrel
      have hnoH : Hid (noNl t q) := hno
      clear hno
      by_cases hlt : (q : Int) < (t.size : Int)
      · have hqn : q < t.size := by omega
        by_cases hc : (t[q].toNat : Int) = 10
        · have hN : Hid (¬ IsLine t) := fun hl => by have := hl.2 q hqn hqn; omega
          go_wp2
          go_ret
          exact ⟨by rw [lineB_false hN.out]; rfl, rfl⟩
        · have hnext : Hid (noNl t (q + 1)) := fun i hi h => by
            by_cases hiq : i = q
            · subst hiq; omega
            · exact hnoH.out i (by omega) h
          have hne : (t[q].toNat : Int) ≠ 10 := hc
          go_wp2
          refine ⟨⟨q + 1, by go_num, by omega, hnext.out⟩, ?_⟩
          simp only [intOf]; omega
      · have hqe : q = t.size := by omega
        have hY : Hid (IsLine t) := ⟨by omega, by have := hnoH.out; rw [hqe] at this; exact this⟩
        clear hqe
        go_wp2
        go_ret
        exact ⟨by rw [lineB_true hY.out]; rfl, rfl⟩

/-- What the reader's list must be, so that a machine can be built of it. -/
structure Ready (ns : List AN) : Prop where
  len : ns.length ≤ 900
  fit : NodesFit ns
  its : ∀ n, n ∈ ns → n.its.length ≤ 1000
  count : (lastQ ns ns.length).count ≤ 60
  node : ∀ i, (lastQ ns ns.length).node i ≤ 10000
def allReady : Prop := ∀ (t : ByteArray) (r : Nat × PS), t.size ≤ 40 → Ev t 0 0 st0 r → ¬ BadR t r → sizeAt r.2.2 r.1 ≤ 60 → Ready r.2.2

/-- What Match comes to. -/
def MatchOut (inv fold whole : Bool) (mx : Int) (t l : ByteArray) (e : Ending) : Prop :=
  (mx < 0 ∧ e = .returned (.tuple #[.bool false, .int .i64 1])) ∨
  (0 ≤ mx ∧ 40 < t.size ∧ e = .returned (.tuple #[.bool false, .int .i64 3])) ∨
  (0 ≤ mx ∧ t.size ≤ 40 ∧ ∃ r : Nat × PS, Ev t 0 0 st0 r ∧ r.1 < r.2.2.length ∧
    ((BadR t r ∧ e = .returned (.tuple #[.bool false, .int .i64 2])) ∨
     (¬ BadR t r ∧ 60 < sizeAt r.2.2 r.1 ∧ e = .returned (.tuple #[.bool false, .int .i64 3])) ∨
     (¬ BadR t r ∧ sizeAt r.2.2 r.1 ≤ 60 ∧ ¬ IsLine l ∧ e = .returned (.tuple #[.bool false, .int .i64 8])) ∨
     (¬ BadR t r ∧ sizeAt r.2.2 r.1 ≤ 60 ∧ IsLine l ∧ e = .returned (.tuple #[.bool (matchesP (buildP r.2.2 (lastQ r.2.2 r.2.2.length) fold whole) l != inv), .int .i64 0]))))

theorem NV.nodesIn {w : World} {b : Nat} {t : ByteArray} {s : RS} {ns : List AN} {v : Value} {xs : List IV} (h : NV w b t s ns v xs) : NodesIn w (b + 1) v ns xs := ⟨h.row, h.len, h.items⟩

theorem Kept.cell {w w' : World} (k : Kept [] w w') {g : Nat} (hg : g < w.heap.size) (j : Nat) : w'.cell? ⟨g, j, none⟩ = w.cell? ⟨g, j, none⟩ := by
  unfold World.cell?
  simp only []
  rw [k.block g hg (by simp)]

set_option maxHeartbeats 2000000 in
set_option maxRecDepth 100000 in
theorem match_any (hready : allReady) (inv fold whole num : Bool) (mx : Int) (t l : ByteArray) (w : World) (hm1 : -9223372036854775808 ≤ mx) (hm2 : mx ≤ 9223372036854775807) (ht : t.size ≤ maxLen) (hl : l.size ≤ maxLen) :
    Calls Try.prog 15 #[.agg #[.bool inv, .bool fold, .bool whole, .bool num, .int .i64 mx], .string t, .string l] w fun e w' => MatchOut inv fold whole mx t l e ∧ Below w.heap.size w w' := by
  by_cases hmx : mx < 0
  · go_enter Try.func15, Try.ntmps15
    go_wp2
    go_ret2
    exact ⟨Or.inl ⟨hmx, rfl⟩, (Below.refl _ _).alloc (Nat.le_refl _) _⟩
  have hmx : 0 ≤ mx := by omega
  by_cases hlen : 40 < t.size
  · have hc : Hid (∀ w, Calls _ _ _ w _) := fun w => read_long t w hlen ht
    go_enter Try.func15, Try.ntmps15
    go_wp2_with (go_at_call 31; refine (hc.out _).mono ?_; rintro e w1 ⟨rfl, b1⟩)
    go_ret2
    exact ⟨Or.inr (Or.inl ⟨hmx, hlen, rfl⟩), (((Below.refl w.heap.size w).alloc (Nat.le_refl _) _).trans (b1.mono (by simp))).alloc (by have := b1.size; simp at this; omega) _⟩
  have hlen : t.size ≤ 40 := by omega
  go_enter Try.func15, Try.ntmps15
  go_wp2_with fail
  refine (read_any t _ hlen).mono ?_
  rintro e w1 ⟨b1, r, hev, hidx, hcase⟩
  have hsz1 := b1.size
  simp at hsz1
  have B1 : Below w.heap.size w w1 := ((Below.refl w.heap.size w).alloc (Nat.le_refl _) _).trans (b1.mono (by simp))
  have c0 : w1.cell? ⟨w.heap.size, 0, none⟩ = some (.bool inv) := by
    have h1 := (b1.block w.heap.size (by simp)).trans (Blk.new w #[.bool inv, .bool fold, .bool whole, .bool num, .int .i64 mx] 28)
    exact Blk.cell (cs := #[.bool inv, .bool fold, .bool whole, .bool num, .int .i64 mx]) (e := 28) h1 0
  have c1 : w1.cell? ⟨w.heap.size, 1, none⟩ = some (.bool fold) := by
    have h1 := (b1.block w.heap.size (by simp)).trans (Blk.new w #[.bool inv, .bool fold, .bool whole, .bool num, .int .i64 mx] 28)
    exact Blk.cell (cs := #[.bool inv, .bool fold, .bool whole, .bool num, .int .i64 mx]) (e := 28) h1 1
  have c2 : w1.cell? ⟨w.heap.size, 2, none⟩ = some (.bool whole) := by
    have h1 := (b1.block w.heap.size (by simp)).trans (Blk.new w #[.bool inv, .bool fold, .bool whole, .bool num, .int .i64 mx] 28)
    exact Blk.cell (cs := #[.bool inv, .bool fold, .bool whole, .bool num, .int .i64 mx]) (e := 28) h1 2
  have hB1 : Hid (Below w.heap.size w w1) := B1
  have hlt1 : w.heap.size < w1.heap.size := by omega
  have hOut : Hid (∀ e, _ → MatchOut inv fold whole mx t l e) := fun e h => Or.inr (Or.inr ⟨hmx, hlen, r, hev, hidx, h⟩)
  have hEv : Hid (Ev t 0 0 st0 r) := hev
  clear b1 hev hidx hsz1 B1
  rcases hcase with ⟨hb, rfl⟩ | ⟨hb, hz, rfl⟩ | ⟨hb, hz, b, ao, n, c, xs, hbb, hn, rfl⟩
  · have hfin : Hid (∀ o, MatchOut inv fold whole mx t l (.returned (.tuple #[.bool false, .int .i64 2])) ∧ Below w.heap.size w (w1.alloc o)) := fun o => ⟨hOut.out _ (Or.inl ⟨hb, rfl⟩), hB1.out.alloc (by omega) o⟩
    clear hOut hb
    go_wp2
    go_ret2
    exact hfin.out _
  · have hfin : Hid (∀ o, MatchOut inv fold whole mx t l (.returned (.tuple #[.bool false, .int .i64 3])) ∧ Below w.heap.size w (w1.alloc o)) := fun o => ⟨hOut.out _ (Or.inr (Or.inl ⟨hb, hz, rfl⟩)), hB1.out.alloc (by omega) o⟩
    clear hOut hb hz
    go_wp2
    go_ret2
    exact hfin.out _
  · obtain ⟨rd1, rd2, rd3, rd4, rd5⟩ := hready t r hlen hEv.out hb hz
    have hli : Hid (∀ w, Calls _ _ _ w _) := fun w => isLine_any l hl w
    by_cases hline : IsLine l
    · rw [lineB_true hline] at hli
      have hls : l.size ≤ 1000 := by have := hline.1; omega
      have hfin : Hid (∀ w', Below w.heap.size w w' → MatchOut inv fold whole mx t l (.returned (.tuple #[.bool (matchesP (buildP r.2.2 (lastQ r.2.2 r.2.2.length) fold whole) l != inv), .int .i64 0])) ∧ Below w.heap.size w w') := fun w' h => ⟨hOut.out _ (Or.inr (Or.inr (Or.inr ⟨hb, hz, hline, rfl⟩))), h⟩
      have hbuild : Hid (∀ w', Kept [] w1 w' → Calls _ _ _ w' _) := fun w' k => build_any r.2.2 xs (b + 1) (.slice ao n c) (sizeAt r.2.2 r.1) fold whole w' (hn.nodesIn.kept k) rd1 rd2 rd3 rd4 rd5
      clear hOut hb hz hline hEv hn rd2 rd3 rd4 rd5
      generalize hM : buildP r.2.2 (lastQ r.2.2 r.2.2.length) fold whole = M at *
      have hmat : Hid (∀ w' g, MIn w' g M → Calls _ _ _ w' _) := fun w' g h => matches_any M g l hls w' h
      generalize matchesP M l = Y at *
      have hzm := zeroV_mach
      have kA : Kept [] w1 (w1.alloc (.cells #[.slice ao n c, .int .i64 (sizeAt r.2.2 r.1)] 53)) := (Kept.refl _ _).alloc _
      have kA : Hid (Kept _ _ _) := kA
      go_wp2_with (first
        | (go_at_call 33
           refine (hli.out _).mono ?_
           rintro e w2 ⟨rfl, rfl⟩)
        | (go_at_call 34
           refine (hbuild.out _ kA.out).mono ?_
           rintro e w5 ⟨rfl, k5⟩
           have K5 := kA.out.trans k5
           have d0 := K5.cell hlt1 0
           rw [c0] at d0)
        | (with_reducible refine wpList_store_mach ?_ (.tmp 10) (.tmp 31) ?_ w5.heap.size ?_ {} M ?_ ?_ ?_
           · rfl
           · rfl
           · rfl
           · rfl
           · exact Blk.new w5 (mCells {}) 63
           intro w6 hb6 hk6 hs6
           have hlt5 := K5.size
           have K6 : Kept [] w1 w6 := (K5.alloc (.cells (mCells {}) 63)).into hk6 (by omega)
           have e0 := K6.cell hlt1 0
           rw [c0] at e0
           clear hk6 hs6 d0)
        | (go_at_call 35
           refine (hmat.out _ _ hb6).mono ?_
           rintro e w7 ⟨rfl, rfl⟩))
      go_ret2
      exact hfin.out _ (hB1.out.trans ((K6.below (Nat.le_refl _) (by simp)).mono (by omega)))
    · rw [lineB_false hline] at hli
      have hfin : Hid (∀ o, MatchOut inv fold whole mx t l (.returned (.tuple #[.bool false, .int .i64 8])) ∧ Below w.heap.size w (w1.alloc o)) := fun o => ⟨hOut.out _ (Or.inr (Or.inr (Or.inl ⟨hb, hz, hline, rfl⟩))), hB1.out.alloc (by omega) o⟩
      clear hOut hb hz hline hEv hn rd2 rd3 rd4 rd5
      go_wp2_with (go_at_call 33; refine (hli.out _).mono ?_; rintro e w2 ⟨rfl, rfl⟩)
      go_ret2
      exact hfin.out _

end Go.Proofs.Ytjhmkkhnnijigaa
