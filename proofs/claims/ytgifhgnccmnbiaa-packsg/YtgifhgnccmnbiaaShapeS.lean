/- Package sift: Shape, walked. -/
import Derived.Test.YtgifhgnccmnbiaaPkFile
set_option linter.unusedVariables false
set_option linter.unusedSimpArgs false
namespace Go.Proofs.Ytgifhgnccmnbiaa
open Go.RowKit Go.IntWalk

def infoV (kind : Int) (syms len lines : Nat) : Array Value := #[.int .i64 kind, .int .i64 (syms : Int), .int .i64 (len : Int), .int .i64 (lines : Int)]
structure ShapeOut (f : ByteArray) (w w' : World) (e : Ending) : Prop where
  below : Below w.heap.size w w'
  out : ((∀ t, ¬ SFile f t) ∧ e = .returned (.tuple #[.agg zero4, .int .i64 4])) ∨
    ∃ t, SFile f t ∧ ((1099511627776 < t.whole.len ∧ e = .returned (.tuple #[.agg zero4, .int .i64 5])) ∨
      (t.whole.len ≤ 1099511627776 ∧ e = .returned (.tuple #[.agg (infoV t.kind t.syms t.whole.len (linesS t.whole)), .int .i64 0])))
theorem size_info : (Try.prog.info? 41).map (·.size) = some 4 := by kernel_rfl
theorem results_info {fn : Func} {p u : Tmp} (h : fn.results = #[.cell p 41, .tmp u]) (tmps : Array Value) (w : World) (g : Nat) (cs : Array Value) (hs : cs.size = 4) (v : Value)
    (hp : tmps.getD p undef = .pointer (some ⟨g, 0, none⟩)) (hv : tmps.getD u undef = v) (hg : Blk w g cs 41) : (results fn tmps).run Try.prog w = .ok (.tuple #[.agg cs, v]) w := by
  rw [results_cell_tmp h, hp, hv]
  simp only [asAddr, Sem.run_pure, Result.andThen_ok]
  rw [run_loadVar_row w g _ 41 cs (0, 0) _ hg Try.underlying41 rfl (by rw [hs]; exact size_info)]
  rfl

set_option maxHeartbeats 4000000 in
set_option maxRecDepth 100000 in
theorem shape_any (f : ByteArray) (hf : f.size ≤ maxLen) (w : World) :
    Calls Try.prog 25 #[.string f] w fun e w' => ShapeOut f w w' e := by
  have hc : Hid (Calls _ _ _ (w.alloc (.cells zero4 41)) _) := read_file f hf _
  unfold zero4 at hc
  have hB : Hid (Below w.heap.size w (w.alloc (.cells zero4 41))) := (Below.refl w.heap.size w).alloc (Nat.le_refl _) _
  unfold zero4 at hB
  go_enter Try.func25, Try.ntmps25
  go_wp2_with fail
  refine hc.out.mono ?_
  rintro e w1 hout
  obtain ⟨hbl, ho⟩ := hout
  have hz1 : Blk w1 w.heap.size zero4 41 := (hbl.block _ (by simp)).trans (Blk.new w _ _)
  have hS : Hid (∀ o u0 u1 u2 u3, Blk (((((w1.setCell ⟨w.heap.size, 0, none⟩ u0).setCell ⟨w.heap.size, 1, none⟩ u1).setCell ⟨w.heap.size, 2, none⟩ u2).setCell ⟨w.heap.size, 3, none⟩ u3).alloc o) w.heap.size #[u0, u1, u2, u3] 41 ∧ Below w.heap.size w (((((w1.setCell ⟨w.heap.size, 0, none⟩ u0).setCell ⟨w.heap.size, 1, none⟩ u1).setCell ⟨w.heap.size, 2, none⟩ u2).setCell ⟨w.heap.size, 3, none⟩ u3).alloc o)) := fun o u0 u1 u2 u3 =>
    ⟨(set4 hz1 u0 u1 u2 u3).alloc o, (((((hB.out.trans (hbl.mono (by simp))).setCell (Nat.le_refl _) _).setCell (Nat.le_refl _) _).setCell (Nat.le_refl _) _).setCell (Nat.le_refl _) _).alloc (by have := hz1.lt; simp [World.setCell]; omega) o⟩
  have hlt1 : w.heap.size < w1.heap.size := hz1.lt
  have z0 : w1.cell? ⟨w.heap.size, 0, none⟩ = some (.int .i64 0) := hz1.cell 0
  have z1 : w1.cell? ⟨w.heap.size, 1, none⟩ = some (.int .i64 0) := hz1.cell 1
  have z2 : w1.cell? ⟨w.heap.size, 2, none⟩ = some (.int .i64 0) := hz1.cell 2
  have z3 : w1.cell? ⟨w.heap.size, 3, none⟩ = some (.int .i64 0) := hz1.cell 3
  have y0 : w1.frozen? ⟨w.heap.size, 0, none⟩ = false := hz1.frozen 0
  have y1 : w1.frozen? ⟨w.heap.size, 1, none⟩ = false := hz1.frozen 1
  have y2 : w1.frozen? ⟨w.heap.size, 2, none⟩ = false := hz1.frozen 2
  have y3 : w1.frozen? ⟨w.heap.size, 3, none⟩ = false := hz1.frozen 3
  clear hz1 hc
  rcases ho with ⟨hn, rfl⟩ | ⟨t, ht, ⟨hb, rfl⟩ | ⟨hb, rv, sv, htv, rfl⟩⟩
  · have hnH : Hid (∀ t, ¬ SFile f t) := hn
    clear hn hbl
    unfold ztext
    go_wp2
    refine bodyPost_ret (v := .tuple #[.agg zero4, .int .i64 4]) (results_info Try.results25 _ _ w.heap.size zero4 rfl _ rfl rfl (hS.out _ _ _ _ _).1) rfl ⟨(hS.out _ _ _ _ _).2, Or.inl ⟨hnH.out, rfl⟩⟩
  · have htH : Hid (SFile f t) := ht
    have hbH : Hid (1099511627776 < t.whole.len) := hb
    clear ht hb hbl
    unfold ztext
    go_wp2
    refine bodyPost_ret (v := .tuple #[.agg zero4, .int .i64 5]) (results_info Try.results25 _ _ w.heap.size zero4 rfl _ rfl rfl (hS.out _ _ _ _ _).1) rfl ⟨(hS.out _ _ _ _ _).2, Or.inr ⟨t, htH.out, Or.inl ⟨hbH.out, rfl⟩⟩⟩
  · obtain ⟨ra, rn, rc, rfl⟩ := own_shape htv.rules
    obtain ⟨sa, sn, sc, rfl⟩ := own_shape htv.start
    have htH : Hid (SFile f t) := ht
    have hnl := htv.whole.nl
    have hL : Hid (linesS t.whole = if 0 < t.whole.len ∧ t.whole.last ≠ 10 then t.whole.nl + 1 else t.whole.nl) := rfl
    clear ht htv hbl
    unfold TT.cells
    obtain ⟨kind, syms, rules, start, ⟨p1, p2, p3, p4⟩⟩ := t
    simp only [] at hb hnl hL
    by_cases h1 : (0 : Int) < (p1 : Int)
    · by_cases h2 : (p4 : Int) = 10
      · have e : Hid (linesS ⟨p1, p2, p3, p4⟩ = p2) := by rw [hL.out]; exact if_neg (fun hc => hc.2 (by omega))
        have h2' : p4 = 10 := by omega
        have h2b : ((p4 : Int) != 10) = false := by rw [h2]; rfl
        clear hL h2 h2'
        go_wp2
        refine bodyPost_ret (v := .tuple #[.agg (infoV kind syms p1 p2), .int .i64 0]) (results_info Try.results25 _ _ w.heap.size (infoV kind syms p1 p2) rfl _ rfl rfl (hS.out _ _ _ _ _).1) rfl ⟨(hS.out _ _ _ _ _).2, Or.inr ⟨_, htH.out, Or.inr ⟨hb, by simp only []; rw [e.out]⟩⟩⟩
      · have e : Hid (linesS ⟨p1, p2, p3, p4⟩ = p2 + 1) := by rw [hL.out]; exact if_pos ⟨by omega, by omega⟩
        have h2b : ((p4 : Int) != 10) = true := by simp; omega
        clear hL h2
        go_wp2
        refine bodyPost_ret (v := .tuple #[.agg (infoV kind syms p1 (p2 + 1)), .int .i64 0]) (results_info Try.results25 _ _ w.heap.size (infoV kind syms p1 (p2 + 1)) rfl _ rfl rfl (hS.out _ _ _ _ _).1) rfl ⟨(hS.out _ _ _ _ _).2, Or.inr ⟨_, htH.out, Or.inr ⟨hb, by simp only []; rw [e.out]⟩⟩⟩
    · have e : Hid (linesS ⟨p1, p2, p3, p4⟩ = p2) := by rw [hL.out]; exact if_neg (fun hc => by have := hc.1; omega)
      clear hL
      go_wp2
      refine bodyPost_ret (v := .tuple #[.agg (infoV kind syms p1 p2), .int .i64 0]) (results_info Try.results25 _ _ w.heap.size (infoV kind syms p1 p2) rfl _ rfl rfl (hS.out _ _ _ _ _).1) rfl ⟨(hS.out _ _ _ _ _).2, Or.inr ⟨_, htH.out, Or.inr ⟨hb, by simp only []; rw [e.out]⟩⟩⟩

end Go.Proofs.Ytgifhgnccmnbiaa
