/- The document's PackG, walked. -/
import Derived.Test.YtgifhgnccmnbiaaRgMet
import Derived.BigQuiet
import Derived.Laws.AppendOwnNone
set_option linter.unusedVariables false
set_option linter.unusedSimpArgs false
namespace Go.Proofs.Ytgifhgnccmnbiaa
open Go.RowKit Go.IntWalk

def rlf (R : List Cand) : List Nat := R.flatMap fun p => [p.a, p.b]
theorem rlf_len (R : List Cand) : (rlf R).length = 2 * R.length := by
  unfold rlf
  induction R with
  | nil => rfl
  | cons p R ih => rw [List.flatMap_cons, List.length_append, ih]; simp; omega
theorem rlf_bytes (R : List Cand) : symBytes (rlf R) = ruleBytes R := by
  unfold rlf symBytes ruleBytes
  induction R with
  | nil => rfl
  | cons p R ih => rw [List.flatMap_cons, List.flatMap_append, ih, List.flatMap_cons]; simp
theorem row_heap {w w' : World} {base e z n : Nat} {v : Value} {xs : List Value} (h : w.ownsRow base e z v n xs) (he : w'.heap = w.heap) : w'.ownsRow base e z v n xs := by
  unfold World.ownsRow at *
  rw [he]; exact h

/-- A block that has just been made, as a row of one's own. -/
theorem own_freshG (w : World) (base : Nat) (hb : base ≤ w.heap.size) (l : List Nat) (h3 : l.length ≤ 1000) : (w.alloc (.cells (byteCells l).toArray 5)).ownsRow base 5 1 (.slice (some ⟨w.heap.size, 0, none⟩) l.length l.length) l.length (byteCells l) := by
  have hl : (byteCells l).length = l.length := by simp [byteCells]
  refine ⟨by rw [hl]; omega, Or.inr ⟨w.heap.size, l.length, (byteCells l).toArray, rfl, hb, ?_, ?_⟩⟩
  · exact Blk.new w _ _
  · refine ⟨Nat.le_refl _, by unfold maxLen; omega, by simp [hl], ?_⟩
    rw [Nat.mul_one, ← hl]
    exact List.take_length


structure RgI (w wr : World) (t : ByteArray) (q : Nat) (lv rv : Value) : Prop where
  k : Kept [] w wr
  lrow : wr.ownsRow w.heap.size 3 1 lv (gst t q).2.length (symCells (gst t q).2)
  rrow : wr.ownsRow w.heap.size 3 1 rv (2 * q) (symCells (rlf (gst t q).1))
  ne : lv.ownBlock = none ∨ lv.ownBlock ≠ rv.ownBlock
/-- The rules have grown. -/
structure RgMid (w w5 : World) (t : ByteArray) (q : Nat) (lv rv2 : Value) : Prop where
  k : Kept [] w w5
  lrow : w5.ownsRow w.heap.size 3 1 lv (gst t q).2.length (symCells (gst t q).2)
  rrow : w5.ownsRow w.heap.size 3 1 rv2 (2 * (q + 1)) (symCells (rlf (gst t (q + 1)).1))
theorem RgI.mid {w wr W w5 : World} {t : ByteArray} {q : Nat} {lv rv rv2 : Value} (h : RgI w wr t q lv rv) (k : Kept [] wr W) (o : Obj) (hg : (W.alloc o).grownBy w5 rv.ownBlock)
    (hown : w5.ownsRow w.heap.size 3 1 rv2 (2 * q + 2) (symCells (rlf (gst t q).1) ++ [.int .i64 ((bestL (gst t q).2).a : Int), .int .i64 ((bestL (gst t q).2).b : Int)])) : RgMid w w5 t q lv rv2 := by
  have k2 := k.alloc o
  have hr := row_stay (S := []) h.rrow k2 (fun _ _ => by simp)
  have hl := row_stay (S := []) h.lrow k2 (fun _ _ => by simp)
  refine ⟨grow_kept (h.k.trans k2) hr hg, World.ownsRow.kept hl hg h.ne, ?_⟩
  have e : symCells (rlf (gst t (q + 1)).1) = symCells (rlf (gst t q).1) ++ [.int .i64 ((bestL (gst t q).2).a : Int), .int .i64 ((bestL (gst t q).2).b : Int)] := by
    show symCells (rlf ((gst t q).1 ++ [bestL (gst t q).2])) = _
    unfold rlf symCells
    rw [List.flatMap_append]; simp
  rw [e, show 2 * (q + 1) = 2 * q + 2 by omega]
  exact hown
theorem RgMid.next {w w5 w6 : World} {t : ByteArray} {q : Nat} {lv rv2 ov : Value} {O : List Nat} (h : RgMid w w5 t q lv rv2) (k6 : Kept [] w5 w6) (hrow : w6.ownsRow w5.heap.size 3 1 ov O.length (symCells O)) (hO : O = (gst t (q + 1)).2) : RgI w w6 t (q + 1) ov rv2 := by
  subst hO
  refine ⟨h.k.trans k6, row_base hrow h.k.size, row_stay (S := []) h.rrow k6 (fun _ _ => by simp), ?_⟩
  cases ho : ov.ownBlock with
  | none => exact Or.inl rfl
  | some g =>
    refine Or.inr (fun hc => ?_)
    have h1 := (hrow.lt g ho).1
    have h2 := (h.rrow.lt g hc.symm).2
    omega
structure NxI (w5 wr : World) (ov : Value) (O : List Nat) : Prop where
  k : Kept [] w5 wr
  row : wr.ownsRow w5.heap.size 3 1 ov O.length (symCells O)
theorem NxI.grow {w5 wr W w' : World} {ov v' : Value} {O : List Nat} {x : Nat} (h : NxI w5 wr ov O) (k : Kept [] wr W) (hg : W.grownBy w' ov.ownBlock) (hown : w'.ownsRow w5.heap.size 3 1 v' (O.length + 1) (symCells O ++ [.int .i64 (x : Int)])) : NxI w5 w' v' (O ++ [x]) := by
  refine ⟨grow_kept (h.k.trans k) (row_stay (S := []) h.row k (fun _ _ => by simp)) hg, ?_⟩
  rw [List.length_append, symCells_snoc]; exact hown
theorem bytesB_appG (l m : List Nat) : bytesB (l ++ m) = bytesB l ++ bytesB m := by
  apply ByteArray.ext
  unfold bytesB
  rw [ByteArray.data_append]
  simp
theorem RgI.keep {w wr wr2 : World} {t : ByteArray} {q : Nat} {lv rv : Value} (h : RgI w wr t q lv rv) (k : Kept [] wr wr2) : RgI w wr2 t q lv rv :=
  ⟨h.k.trans k, row_stay (S := []) h.lrow k (fun _ _ => by simp), row_stay (S := []) h.rrow k (fun _ _ => by simp), h.ne⟩
/-- The bytes written so far, and the numbers that are to be written. -/
structure TI (w wr : World) (ov : Value) (B : List Nat) (rv : Value) (L : List Nat) : Prop where
  k : Kept [] w wr
  orow : wr.ownsRow w.heap.size 5 1 ov B.length (byteCells B)
  rrow : wr.ownsRow w.heap.size 3 1 rv L.length (symCells L)
theorem TI.keep {w wr W : World} {ov rv : Value} {B L : List Nat} (h : TI w wr ov B rv L) (k : Kept [] wr W) : TI w W ov B rv L :=
  ⟨h.k.trans k, row_stay (S := []) h.orow k (fun _ _ => by simp), row_stay (S := []) h.rrow k (fun _ _ => by simp)⟩
theorem TI.growR {w wr W w' : World} {ov rv rv' : Value} {B L M : List Nat} (h : TI w wr ov B rv L) (k : Kept [] wr W) (hg : W.grownBy w' rv.ownBlock) (hown : w'.ownsRow w.heap.size 3 1 rv' (L.length + M.length) (symCells L ++ symCells M)) : TI w w' ov B rv' (L ++ M) := by
  have h2 := h.keep k
  refine ⟨grow_kept h2.k h2.rrow hg, World.ownsRow.kept h2.orow hg (own_ne h2.orow h2.rrow (by decide)), ?_⟩
  have e : symCells (L ++ M) = symCells L ++ symCells M := by simp [symCells]
  rw [e, List.length_append]; exact hown
theorem TI.growO {w wr W w' : World} {ov rv ov' : Value} {B L M : List Nat} (h : TI w wr ov B rv L) (k : Kept [] wr W) (hg : W.grownBy w' ov.ownBlock) (hown : w'.ownsRow w.heap.size 5 1 ov' (B.length + M.length) (byteCells B ++ byteCells M)) : TI w w' ov' (B ++ M) rv L := by
  have h2 := h.keep k
  refine ⟨grow_kept h2.k h2.orow hg, ?_, World.ownsRow.kept h2.rrow hg (own_ne h2.rrow h2.orow (by decide))⟩
  rw [byteCells_app, List.length_append]; exact hown
def gtail (q : Nat) (L : List Nat) : List Nat := [83, 71, q] ++ symBytes L
theorem gtail_file {t : ByteArray} {q : Nat} : bytesB (gtail q (rlf (gst t q).1 ++ [(gst t q).2.length] ++ (gst t q).2)) = gfile (gst t q).1 (gst t q).2 := by
  unfold gfile gbody gtail
  rw [(gst_inv t q).rl, ← rlf_bytes]
  have e : (⟨#[83, 71]⟩ : ByteArray) = bytesB [83, 71] := rfl
  rw [e, ← bytesB_appG]
  congr 1
  unfold symBytes
  simp

/-- But for what was drawn it is the same. -/
structure Drawn (w w' : World) : Prop where
  ex : ∃ k, w' = w.drewN k
theorem Drawn.refl (w : World) : Drawn w w := ⟨0, rfl⟩
theorem Drawn.heap {w w' : World} (h : Drawn w w') : w'.heap = w.heap := by obtain ⟨k, rfl⟩ := h.ex; rfl
theorem Drawn.more {w w' : World} (h : Drawn w w') (n : Nat) : Drawn w (w'.drewN n) := by obtain ⟨k, rfl⟩ := h.ex; exact ⟨k + n, by simp⟩
theorem Drawn.kept {w w' : World} (h : Drawn w w') : Kept [] w w' := by obtain ⟨k, rfl⟩ := h.ex; exact (Kept.refl [] w).drewN k
theorem better_at {n a b m c d : Nat} : better ⟨n, a, b⟩ ⟨m, c, d⟩ ↔ (m < n ∨ (n = m ∧ (a < c ∨ (a = c ∧ b < d)))) := Iff.rfl
/-- The best one so far. -/
def bD (l : List Nat) (i : Nat) : Cand := bestQ (candD l) i
theorem bD_take {l : List Nat} {i : Nat} (h : better (candD l i) (bD l i)) : bD l (i + 1) = candD l i := if_pos h
theorem bD_leave {l : List Nat} {i : Nat} (h : ¬ better (candD l i) (bD l i)) : bD l (i + 1) = bD l i := if_neg h
theorem bD_end (l : List Nat) : bD l (l.length - 1) = bestL l := (best_same l).symm

set_option maxHeartbeats 4000000 in
set_option maxRecDepth 100000 in
theorem rpackG_any (t : ByteArray) (ht : t.size ≤ 600) (w : World) :
    Calls Try.prog 32 #[.string t] w fun e w' => (∃ q, GFin t q ∧ e = .returned (.tuple #[.string (gfile (gst t q).1 (gst t q).2), .int .i64 0])) ∧ Below w.heap.size w w' := by
  have hst : Hid (World.ownsRow w w.heap.size 3 1 (.slice none 0 0) 0 (symCells [])) := by exact World.ownsRow_nil _ _ _ _
  have hk0 : Hid (Kept [] w w) := Kept.refl _ _
  have ht' : (t.size : Int) ≤ 600 := by omega
  go_enter Try.func32, Try.ntmps32
  go_wp2_with fail
  go_loopw [4, 5] (fun sv iv wr => ∃ (i : Nat) (xa : Option Addr) (xk xc : Nat), sv = .slice xa xk xc ∧ iv = .int .i64 (i : Int) ∧ i ≤ t.size ∧ Kept [] w wr ∧ wr.ownsRow w.heap.size 3 1 (.slice xa xk xc) i (symCells ((bytesN t).take i))) (fun _ iv _ => ((t.size : Int) - intOf iv).toNat)
  case atStart => exact ⟨0, none, 0, 0, rfl, rfl, Nat.zero_le _, hk0.out, hst.out⟩
  case round =>
    obtain ⟨i, xa, xk, xc, rfl, rfl, hi, hk, hrow⟩ := hrel
    clear hst hk0
    by_cases hlt : (i : Int) < (t.size : Int)
    · have hin : i < t.size := by omega
      have own : ∀ o, (wr.alloc o).ownsRow w.heap.size 3 1 (.slice xa xk xc) i (symCells ((bytesN t).take i)) := fun o => row_stay (S := []) hrow ((Kept.refl [] wr).alloc o) (fun _ _ => by simp)
      have hka : Hid (∀ o, Kept [] w (wr.alloc o)) := fun o => hk.alloc o
      have hs : Hid (symCells ((bytesN t).take (i + 1)) = symCells ((bytesN t).take i) ++ [.int .i64 (t[i].toNat : Int)]) := by
        show _ = _
        rw [List.take_add_one, bytesN_at hin, ← symCells_snoc]
        rfl
      have hwl : w.heap.size ≤ wr.heap.size := hk.size
      have mb : i + 1 ≤ maxLen := by unfold maxLen; omega
      have hc8 := t[i].toNat_lt
      have hown0 : Hid (∀ o, (wr.alloc o).ownsRow w.heap.size 3 1 (.slice xa xk xc) i (symCells ((bytesN t).take i))) := own
      obtain ⟨i0, hi0, hz0, hz1, hz2⟩ := info_parts infoInt
      clear hk hrow
      go_wp2_with (at_builtin; refine wpList_append_own _ rfl (.tmp 27) (.tmp 32) 77 rfl w.heap.size 3 i0 _ 1 8 Try.underlying77 hi0 hz0 hz1 hz2 rfl (by decide) (.slice xa xk xc) i (symCells ((bytesN t).take i)) rfl (by exact own _) ⟨wr.heap.size, 0, none⟩ 1 1 [.int .i64 (t[i].toNat : Int)] rfl rfl (by exact cells_new _ _ _ _ rfl) (by simp [Value.oneCell']) mb (by omega) (by simp; omega) ?kk)
      case kk =>
        intro v' w3 hown hg _
        obtain ⟨gv, cap, rfl⟩ := own_form hown (by omega)
        have k3 : Hid (Kept [] w w3) := grow_kept (hka.out _) (hown0.out _) hg
        have hown : Hid (w3.ownsRow w.heap.size 3 1 (.slice (some ⟨gv, 0, none⟩) (i + 1) cap) (i + 1) (symCells ((bytesN t).take (i + 1)))) := by show World.ownsRow _ _ _ _ _ _ _; rw [hs.out]; exact hown
        clear hg own
        go_wp2
        refine ⟨⟨i + 1, _, _, _, rfl, by go_num, by omega, k3.out, hown.out⟩, ?_⟩
        simp only [intOf]; omega
    · have e : i = t.size := by omega
      subst e
      have hI : Hid (RgI w wr t 0 (.slice xa xk xc) (.slice none 0 0)) := by
        refine ⟨hk, ?_, by exact World.ownsRow_nil _ _ _ _, ?_⟩
        · rw [List.take_of_length_le (by rw [bytesN_len]; exact Nat.le_refl _)] at hrow
          show wr.ownsRow _ _ _ _ (bytesN t).length (symCells (bytesN t))
          rw [bytesN_len]; exact hrow
        · cases xa with
          | none => exact Or.inl rfl
          | some a => exact Or.inr (by simp [Value.ownBlock])
      have hon0 : Hid (∀ j, j < 0 → 2 ≤ (bestL (gst t j).2).n) := fun j hj => by omega
      clear hk hrow
      go_wp2_with fail
      go_loopw [4, 6] (fun lv rv wr => ∃ (q : Nat) (xa ya : Option Addr) (xk xc yk yc : Nat), lv = .slice xa xk xc ∧ rv = .slice ya yk yc ∧ yk = 2 * q ∧ q ≤ 100 ∧ (∀ j, j < q → 2 ≤ (bestL (gst t j).2).n) ∧ RgI w wr t q (.slice xa xk xc) (.slice ya yk yc)) (fun _ rv _ => 200 - lenS rv)
      case atStart => exact ⟨0, xa, none, xk, xc, 0, 0, rfl, rfl, rfl, by omega, hon0.out, hI.out⟩
      case round =>
        clear hI hon0
        obtain ⟨q, xa, ya, xk, xc, yk, yc, rfl, rfl, hyk, hq, hon, hI⟩ := hrel
        have hin := gst_inv t q
        have hxk : xk = (gst t q).2.length := by
          rcases hI.lrow.2 with ⟨h2, h3⟩ | ⟨g, cap, _, h2, _⟩
          · simp at h2; omega
          · simp at h2; omega
        have hll := hin.sl
        by_cases hlt3 : (yk : Int) < 200
        · obtain ⟨l, hl⟩ : ∃ l, (gst t q).2 = l := ⟨_, rfl⟩
          have hlrow := hI.lrow
          rw [hl] at hlrow hxk hll
          subst hxk
          have hIH : Hid (RgI _ _ _ _ _ _) := hI
          have hinH : Hid (GInv _ _ _) := hin
          have hykH : Hid (yk = 2 * q) := hyk
          have honH : Hid (∀ j, j < q → 2 ≤ (bestL (gst t j).2).n) := hon
          have hlH : Hid ((gst t q).2 = l) := hl
          clear hI hin hyk hon hl
          have hll6 : l.length ≤ 600 := by omega
          have hmet : Hid (∀ (a b : Nat) w1, Drawn wr w1 → ∀ w', w'.heap = w1.heap → Calls Try.prog 58 #[.slice xa l.length xc, .int .i64 (a : Int), .int .i64 (b : Int)] w' _) := fun a b w1 hd w' e => met_any w' (row_heap hlrow (e.trans hd.heap)) hll6 a b
          have hcell : Hid (∀ w1, Drawn wr w1 → ∀ i, i < l.length → ∃ g, xa = some ⟨g, 0, none⟩ ∧ w1.cell? ⟨g, i, none⟩ = some (.int .i64 ((l.getD i 0 : Nat) : Int))) := fun w1 hd i hi => by
            obtain ⟨g, cap, hv⟩ := own_form hlrow (by omega)
            simp only [Value.slice.injEq] at hv
            have := (row_heap hlrow hd.heap).cells (g := g) (by rw [hv.1]; rfl) i _ (symCells_get l i hi)
            rw [ptr_add] at this
            exact ⟨g, hv.1, this⟩
          have hlrowH : Hid (World.ownsRow _ _ _ _ _ _ _) := hlrow
          clear hlrow
          go_wp2_with fail
          go_loopw [7, 8, 9, 10] (fun cv av bv iv wq => ∃ i : Nat, cv = .int .i64 ((bD l i).n : Int) ∧ av = .int .i64 ((bD l i).a : Int) ∧ bv = .int .i64 ((bD l i).b : Int) ∧ iv = .int .i64 (i : Int) ∧ Drawn wr wq ∧ i ≤ l.length - 1) (fun _ _ _ iv _ => ((l.length : Int) - intOf iv).toNat)
          case atStart => exact ⟨0, rfl, rfl, rfl, rfl, Drawn.refl _, Nat.zero_le _⟩
          case round =>
            obtain ⟨i, rfl, rfl, rfl, rfl, hdr, hi⟩ := hrel
            have hdr : Hid (Drawn _ _) := hdr
            by_cases hlt4 : (i : Int) + 1 < (l.length : Int)
            · obtain ⟨g, rfl, c1⟩ := hcell.out _ hdr.out i (by omega)
              obtain ⟨g', hg', c2⟩ := hcell.out _ hdr.out (i + 1) (by omega)
              simp only [Option.some.injEq, Addr.mk.injEq, and_true] at hg'
              subst hg'
              have hm : Hid (∀ w', w'.heap = wr.heap → Calls _ _ _ w' _) := hmet.out (l.getD i 0) (l.getD (i + 1) 0) _ hdr.out
              have hcn : Hid ((better (candD l i) (bD l i) → bD l (i + 1) = candD l i) ∧ (¬ better (candD l i) (bD l i) → bD l (i + 1) = bD l i)) := ⟨bD_take, bD_leave⟩
              have hcd : candD l i = ⟨metL (l.getD i 0) (l.getD (i + 1) 0) l, l.getD i 0, l.getD (i + 1) 0⟩ := rfl
              rw [hcd] at hcn
              clear hcd
              have hi2 : i < l.length := by omega
              have hi3 : i + 1 < l.length := by omega
              generalize metL (l.getD i 0) (l.getD (i + 1) 0) l = n at *
              generalize l.getD i 0 = x at *
              generalize l.getD (i + 1) 0 = y at *
              generalize bD l i = P at *
              obtain ⟨pn, pa, pb⟩ := P
              simp only [] at hcn ⊢
              by_cases h1 : (pn : Int) < (n : Int)
              · have hb : Hid (bD l (i + 1) = _) := hcn.out.1 (better_at.2 (by omega))
                clear hcn hmet hcell
                go_wp2_with fail
                go_quiet (first | (go_at_call 58; exact Calls.quiet_of_same (hm.out _ rfl)))
                go_wp2_with fail
                go_quiet (fail)
                go_wp2
                refine ⟨⟨i + 1, by rw [hb.out], by rw [hb.out], by rw [hb.out], by go_num, hdr.out.more _, by omega⟩, ?_⟩
                simp only [intOf]; omega
              · by_cases h2 : n = pn
                · subst h2
                  by_cases h3 : (x : Int) < (pa : Int)
                  · have hb : Hid (bD l (i + 1) = _) := hcn.out.1 (better_at.2 (by omega))
                    clear hcn hmet hcell
                    go_wp2_with fail
                    go_quiet (first | (go_at_call 58; exact Calls.quiet_of_same (hm.out _ rfl)))
                    go_wp2_with fail
                    go_quiet (fail)
                    go_wp2
                    refine ⟨⟨i + 1, by rw [hb.out], by rw [hb.out], by rw [hb.out], by go_num, hdr.out.more _, by omega⟩, ?_⟩
                    simp only [intOf]; omega
                  · by_cases h4 : x = pa
                    · subst h4
                      by_cases h5 : (y : Int) < (pb : Int)
                      · have hb : Hid (bD l (i + 1) = _) := hcn.out.1 (better_at.2 (by omega))
                        clear hcn hmet hcell
                        go_wp2_with fail
                        go_quiet (first | (go_at_call 58; exact Calls.quiet_of_same (hm.out _ rfl)))
                        go_wp2_with fail
                        go_quiet (fail)
                        go_wp2
                        refine ⟨⟨i + 1, by rw [hb.out], by rw [hb.out], by rw [hb.out], by go_num, hdr.out.more _, by omega⟩, ?_⟩
                        simp only [intOf]; omega
                      · have hb : Hid (bD l (i + 1) = _) := hcn.out.2 (fun hc => by have := better_at.1 hc; omega)
                        clear hcn hmet hcell
                        go_wp2_with fail
                        go_quiet (first | (go_at_call 58; exact Calls.quiet_of_same (hm.out _ rfl)))
                        go_wp2
                        refine ⟨⟨i + 1, by rw [hb.out], by rw [hb.out], by rw [hb.out], by go_num, hdr.out.more _, by omega⟩, ?_⟩
                        simp only [intOf]; omega
                    · have h6 : ¬ (x : Int) = (pa : Int) := by omega
                      have hb : Hid (bD l (i + 1) = _) := hcn.out.2 (fun hc => by have := better_at.1 hc; omega)
                      clear hcn hmet hcell h4
                      go_wp2_with fail
                      go_quiet (first | (go_at_call 58; exact Calls.quiet_of_same (hm.out _ rfl)))
                      go_wp2
                      refine ⟨⟨i + 1, by rw [hb.out], by rw [hb.out], by rw [hb.out], by go_num, hdr.out.more _, by omega⟩, ?_⟩
                      simp only [intOf]; omega
                · have h6 : ¬ (n : Int) = (pn : Int) := by omega
                  have hb : Hid (bD l (i + 1) = _) := hcn.out.2 (fun hc => by have := better_at.1 hc; omega)
                  clear hcn hmet hcell h2
                  go_wp2_with fail
                  go_quiet (first | (go_at_call 58; exact Calls.quiet_of_same (hm.out _ rfl)))
                  go_wp2
                  refine ⟨⟨i + 1, by rw [hb.out], by rw [hb.out], by rw [hb.out], by go_num, hdr.out.more _, by omega⟩, ?_⟩
                  simp only [intOf]; omega
            · have hie : i = l.length - 1 := by omega
              subst hie
              rw [bD_end]
              have hI9 : Hid (RgI w wr t q (.slice xa l.length xc) (.slice ya yk yc)) := hIH.out.keep hdr.out.kept
              have hbest : Hid (bestL (gst t q).2 = bestL l) := by show _ = _; rw [hlH.out]
              have hbd := bestL_lt (l := l) (m := 256 + q) (fun c hc => hinH.out.sb c (by rw [hlH.out]; exact hc)) (by omega)
              have hyk2 : (yk : Int) / 2 = (q : Int) := by have := hykH.out; omega
              clear hIH hmet hcell hlrowH hdr
              obtain ⟨P, hP⟩ : ∃ P, Hid (bestL l = P) := ⟨_, rfl⟩
              rw [hP.out] at hbest hbd ⊢
              obtain ⟨n, a, b⟩ := P
              simp only [] at hbd ⊢
              by_cases h2 : (n : Int) < 2
              · have hF : Hid (GFin t q) := ⟨hq, honH.out, Or.inr (by rw [hbest.out]; simp only []; omega)⟩
                have hlr0 := hI9.out.lrow
                rw [hlH.out] at hlr0
                have hRl : (rlf (gst t q).1).length = yk := by rw [rlf_len, hinH.out.rl, hykH.out]
                have hrr0 := hI9.out.rrow
                rw [← hykH.out] at hrr0
                have hw8q : IntKind.wrap .u8 (q : Int) = (q : Int) := by rw [IntKind.wrap_u8]; omega
                have hfin : Hid (∃ p2, GFin t p2 ∧ Ending.returned (.tuple #[.string (bytesB (gtail q (rlf (gst t q).1 ++ [l.length] ++ l))), .int .i64 0]) = .returned (.tuple #[.string (gfile (gst t p2).1 (gst t p2).2), .int .i64 0])) := ⟨q, hF.out, by rw [← gtail_file, hlH.out]⟩
                have hLb : Hid (∀ c, c ∈ rlf (gst t q).1 ++ [l.length] ++ l → c < 65536) := fun c hc => by
                  rcases List.mem_append.1 hc with hc | hc
                  · rcases List.mem_append.1 hc with hc | hc
                    · unfold rlf at hc
                      obtain ⟨p, hp, hc⟩ := List.mem_flatMap.1 hc
                      have := hinH.out.rb p hp
                      simp at hc; omega
                    · simp at hc; omega
                  · have := hinH.out.sb c (by rw [hlH.out]; exact hc); omega
                have hT0 : Hid (TI w (wr.alloc (.cells (byteCells [83, 71, q]).toArray 5)) (.slice (some ⟨wr.heap.size, 0, none⟩) 3 3) [83, 71, q] (.slice ya yk yc) (rlf (gst t q).1)) :=
                  ⟨hI9.out.k.alloc _, own_freshG wr w.heap.size hI9.out.k.size [83, 71, q] (by simp), row_stay (S := []) (by rw [hRl]; exact hrr0) ((Kept.refl [] wr).alloc _) (fun _ _ => by simp)⟩
                have own1 : ∀ o1 o2, ((wr.alloc o1).alloc o2).ownsRow w.heap.size 3 1 (.slice ya yk yc) yk (symCells (rlf (gst t q).1)) := fun o1 o2 => row_stay (S := []) hrr0 (((Kept.refl [] wr).alloc o1).alloc o2) (fun _ _ => by simp)
                have hlr1 : Hid (∀ o1 o2, ((wr.alloc o1).alloc o2).ownsRow w.heap.size 3 1 (.slice xa l.length xc) l.length (symCells l)) := fun o1 o2 => row_stay (S := []) hlr0 (((Kept.refl [] wr).alloc o1).alloc o2) (fun _ _ => by simp)
                have hne := hI9.out.ne
                have hneH : Hid (_ ∨ _) := hne
                have hwl9 : w.heap.size ≤ wr.heap.size := hI9.out.k.size
                have mb9 : yk + 1 ≤ maxLen := by unfold maxLen; omega
                have hRlH : Hid ((rlf (gst t q).1).length = yk) := hRl
                obtain ⟨i9, hi9, hz90, hz91, hz92⟩ := info_parts infoInt
                have hyk9 : yk ≤ 200 := by have := hykH.out; omega
                clear hne hlr0 hrr0 hRl hI9 hinH hlH
                go_wp2_with (at_builtin; refine wpList_append_own _ rfl (.tmp 154) (.tmp 157) 77 rfl w.heap.size 3 i9 _ 1 8 Try.underlying77 hi9 hz90 hz91 hz92 rfl (by decide) (.slice ya yk yc) yk (symCells (rlf (gst t q).1)) rfl (by exact own1 _ _) ⟨wr.heap.size + 1, 0, none⟩ 1 1 [.int .i64 (l.length : Int)] rfl rfl (by exact cells_new _ _ _ _ (by simp)) (by simp [Value.oneCell']) mb9 (by omega) (by simp; omega) ?ka1)
                case ka1 =>
                  intro v3 w3 hown hg _
                  have hT1 : Hid (TI w w3 (.slice (some ⟨wr.heap.size, 0, none⟩) 3 3) [83, 71, q] v3 (rlf (gst t q).1 ++ [l.length])) := hT0.out.growR (M := [l.length]) ((Kept.refl [] _).alloc _) hg (by rw [hRlH.out]; exact hown)
                  have hlr3 : Hid (w3.ownsRow w.heap.size 3 1 (.slice xa l.length xc) l.length (symCells l)) := World.ownsRow.kept (hlr1.out _ _) hg hneH.out
                  obtain ⟨g3, cap3, rfl⟩ := own_form hown (by omega)
                  clear hown hg own1 hlr1 hT0
                  obtain ⟨L1, hL1⟩ : ∃ L1, rlf (gst t q).1 ++ [l.length] = L1 := ⟨_, rfl⟩
                  rw [hL1] at hT1 hfin hLb
                  have hL1n : Hid (L1.length = yk + 1) := by show _ = _; rw [← hL1, List.length_append, hRlH.out]; rfl
                  obtain ⟨LL, hLL⟩ : ∃ LL, L1 ++ l = LL := ⟨_, rfl⟩
                  rw [hLL] at hfin hLb
                  have hLLH : Hid (_ = _) := hLL
                  have hr1 := hT1.out.rrow
                  rw [hL1n.out] at hr1
                  have hw3 : w.heap.size ≤ w3.heap.size := hT1.out.k.size
                  have mb7 : yk + 1 + l.length ≤ maxLen := by unfold maxLen; omega
                  clear hL1 hLL hRlH
                  rcases hlr3.out.2 with ⟨hnil, hl0⟩ | ⟨gl, capl, cur, hv, _⟩
                  · simp only [Value.slice.injEq] at hnil
                    obtain ⟨rfl, _, rfl⟩ := hnil
                    have hl0' : l = [] := List.eq_nil_of_length_eq_zero hl0
                    subst hl0'
                    have hLe : L1 = LL := by have := hLLH.out; rwa [List.append_nil] at this
                    subst hLe
                    clear hlr3
                    go_wp2_with (at_builtin; refine wpList_append_own_none rfl (.tmp 159) (.tmp 160) 77 rfl w.heap.size 3 i9 1 Try.underlying77 hi9 (.slice (some ⟨g3, 0, none⟩) (yk + 1) cap3) (yk + 1) (symCells L1) rfl (by exact hr1) rfl ?kb1)
                    rw [← hL1n.out]
                    have hT2 := hT1.out
                    rw [← hL1n.out] at hT2
                    have hT2 : Hid (TI w w3 (.slice (some ⟨wr.heap.size, 0, none⟩) 3 3) [83, 71, q] (.slice (some ⟨g3, 0, none⟩) L1.length cap3) L1) := hT2
                    have hLl9 : L1.length ≤ 1000 := by rw [hL1n.out]; omega
                    clear hT1 hr1 hLLH hL1n
                    go_loopw [16, 17] (fun ov iv wq => ∃ (j : Nat) (oa : Option Addr) (ok oc : Nat), ov = .slice oa ok oc ∧ iv = .int .i64 (j : Int) ∧ j ≤ L1.length ∧ TI w wq (.slice oa ok oc) ([83, 71, q] ++ symBytes (L1.take j)) (.slice (some ⟨g3, 0, none⟩) L1.length cap3) L1) (fun _ iv _ => ((L1.length : Int) - intOf iv).toNat)
                    case atStart => exact ⟨0, _, _, _, rfl, rfl, Nat.zero_le _, by have := hT2.out; simpa [symBytes] using this⟩
                    case round =>
                      clear hT2
                      obtain ⟨j, oa, ok, oc, rfl, rfl, hj, hT⟩ := hrel
                      have hbl : ([83, 71, q] ++ symBytes (L1.take j)).length = 3 + 2 * j := by rw [List.length_append, symBytes_len, List.length_take]; simp; omega
                      have hok : ok = ([83, 71, q] ++ symBytes (L1.take j)).length := by
                        rcases hT.orow.2 with ⟨h2, h3⟩ | ⟨g, cap, _, h2, _⟩
                        · simp only [Value.slice.injEq] at h2
                          rw [h2.2.1]; exact h3.symm
                        · simp only [Value.slice.injEq] at h2
                          exact h2.2.1
                      have hTH : Hid (TI _ _ _ _ _ _) := hT
                      by_cases hlt9 : (j : Int) < (L1.length : Int)
                      · have hj1 : j < L1.length := by omega
                        obtain ⟨x, hx⟩ : ∃ x, L1.getD j 0 = x := ⟨_, rfl⟩
                        have hxb : x < 65536 := by rw [← hx]; apply hLb.out; simp [List.getD, hj1]
                        have c1 : wr.cell? ⟨g3, j, none⟩ = some (.int .i64 (x : Int)) := by
                          have := hT.rrow.cells (g := g3) rfl j _ (symCells_get L1 j hj1)
                          rwa [ptr_add, hx] at this
                        have hsb : Hid (symBytes (L1.take (j + 1)) = symBytes (L1.take j) ++ two16 x) := by show _ = _; rw [symBytes_snoc L1 j hj1, hx]
                        obtain ⟨B, hB⟩ : ∃ B, [83, 71, q] ++ symBytes (L1.take j) = B := ⟨_, rfl⟩
                        rw [hB] at hTH hbl hok
                        have hbl9 : B.length ≤ 3000 := by omega
                        clear hbl
                        have hBH : Hid (_ = _) := hB
                        subst hok
                        have own : ∀ o, (wr.alloc o).ownsRow w.heap.size 5 1 (.slice oa B.length oc) B.length (byteCells B) := fun o => (hTH.out.keep ((Kept.refl [] wr).alloc o)).orow
                        have own2 : ∀ o, (wr.alloc o).drew.ownsRow w.heap.size 5 1 (.slice oa B.length oc) B.length (byteCells B) := fun o => (hTH.out.keep (((Kept.refl [] wr).alloc o).drew)).orow
                        have up : ∀ o, w.heap.size ≤ (wr.alloc o).heap.size := fun o => by have := hT.k.size; simp; omega
                        have mb8 : B.length + 2 ≤ maxLen := by unfold maxLen; omega
                        have mc : (B.length + 2) * 1 ≤ 140737488355328 := by omega
                        have hw1 : IntKind.wrap .u8 (x : Int) = ((x % 256 : Nat) : Int) := by rw [IntKind.wrap_u8]; omega
                        have hw2 : IntKind.wrap .u8 ((x : Int) / 256) = ((x / 256 : Nat) : Int) := by rw [IntKind.wrap_u8]; omega
                        have hg3 : g3 < wr.heap.size := (hT.rrow.lt g3 rfl).2
                        have hg3' : ¬ g3 = wr.heap.size := by omega
                        obtain ⟨i8, hi8, hz80, hz81, hz82⟩ := info_parts infoU8
                        have hnext : Hid (∀ (w4 : World) (g cap : Nat) (W : World), Kept [] wr W → w4.ownsRow w.heap.size 5 1 (.slice (some ⟨g, 0, none⟩) (B.length + 2) cap) (B.length + 2) (byteCells B ++ [.int .u8 ((x % 256 : Nat) : Int), .int .u8 ((x / 256 : Nat) : Int)]) → W.grownBy w4 (Value.slice oa B.length oc).ownBlock → TI w w4 (.slice (some ⟨g, 0, none⟩) (B.length + 2) cap) ([83, 71, q] ++ symBytes (L1.take (j + 1))) (.slice (some ⟨g3, 0, none⟩) L1.length cap3) L1) := fun w4 g cap W k hown hg => by
                          rw [hsb.out, ← List.append_assoc, hBH.out]
                          exact hTH.out.growO (M := two16 x) k hg hown
                        have kW : Hid (∀ o, Kept [] wr (wr.alloc o).drew) := fun o => ((Kept.refl [] wr).alloc o).drew
                        clear hT hB hx hLb
                        generalize x % 256 = x1 at *
                        generalize x / 256 = x2 at *
                        go_wp2_with fail
                        go_region_law (refine step_append_owned rfl (.tmp 168) (.tmp 180) 98 rfl 5 i8 _ 1 1 Try.underlying98 hi8 hz80 hz81 hz82 rfl (by decide) w.heap.size (.slice oa B.length oc) B.length (byteCells B) (by simp [Act.eval, Act.put]) (by first | exact own2 _ | exact own _) ⟨wr.heap.size, 0, none⟩ 2 2 [.int .u8 (x1 : Int), .int .u8 (x2 : Int)] (by simp [Act.eval, Act.put]) rfl (by first | exact cells_new _ _ _ _ (by simp) | exact fun j u hj => cells_new _ _ _ _ (by simp) j u hj) (by simp [Value.oneCell']) mb8 mc (by exact up _) ?_; intro v' w4 hown hgrow; obtain ⟨g, cap, rfl⟩ := own_form hown (by omega); have hN : Hid (TI _ _ _ _ _ _) := hnext.out w4 g cap _ (kW.out _) hown hgrow; clear hown hgrow)
                        all_goals
                          go_wp2_with fail
                          refine ⟨⟨j + 1, _, _, _, rfl, by go_num, by omega, hN.out⟩, ?_⟩
                          simp only [intOf]; omega
                      · have e : j = L1.length := by omega
                        subst e
                        rw [List.take_length] at hTH hok
                        subst hok
                        have hconv := conv_out (out := [83, 71, q] ++ symBytes L1) hTH.out.orow (fun c hc => by
                          rcases List.mem_append.1 hc with hc | hc
                          · simp at hc; omega
                          · unfold symBytes at hc
                            obtain ⟨p, hp, hc⟩ := List.mem_flatMap.1 hc
                            have := hLb.out p hp
                            simp [two16] at hc; omega)
                        have hZe : [83, 71, q] ++ symBytes L1 = gtail q L1 := rfl
                        rw [hZe] at hconv hTH ⊢
                        generalize gtail q L1 = Z at *
                        have hbw : Hid (Below w.heap.size w wr) := hTH.out.k.below (Nat.le_refl _) (by simp)
                        clear hT hbl hZe
                        generalize hzb : bytesB Z = Z2 at *
                        go_wp2
                        go_ret2
                        exact ⟨hfin.out, hbw.out⟩
                  · simp only [Value.slice.injEq] at hv
                    obtain ⟨hxa, _, hxc⟩ := hv
                    clear hxc
                    subst hxa
                    have hcl : ∀ (j : Nat) (u : Value), (symCells l)[j]? = some u → w3.cell? ((⟨gl, 0, none⟩ : Addr).add j) = some u := fun j u hu => hlr3.out.cells (g := gl) rfl j u hu
                    have hone : ∀ u ∈ symCells l, u.oneCell' = true := fun u hu => by unfold symCells at hu; obtain ⟨c, _, rfl⟩ := List.mem_map.1 hu; rfl
                    have hsl : (symCells l).length = l.length * 1 := by unfold symCells; simp
                    clear hlr3
                    go_wp2_with (at_builtin; refine wpList_append_own _ rfl (.tmp 159) (.tmp 160) 77 rfl w.heap.size 3 i9 _ 1 8 Try.underlying77 hi9 hz90 hz91 hz92 rfl (by decide) (.slice (some ⟨g3, 0, none⟩) (yk + 1) cap3) (yk + 1) (symCells L1) rfl (by exact hr1) ⟨gl, 0, none⟩ l.length xc (symCells l) rfl (by exact hsl) (by exact hcl) (by exact hone) (by exact mb7) (by omega) (by omega) ?kc1)
                    case kc1 =>
                      intro v4 w4 hown hg _
                      have hT2 := hT1.out.growR (rv' := v4) (M := l) (Kept.refl [] w3) hg (by rw [hL1n.out]; exact hown)
                      obtain ⟨g4, cap4, rfl⟩ := own_form hown (by omega)
                      have hN9 : yk + 1 + l.length = LL.length := by rw [← hLLH.out, List.length_append, hL1n.out]
                      rw [hLLH.out] at hT2
                      rw [hN9] at hT2 ⊢
                      have hT2 : Hid (TI w w4 (.slice (some ⟨wr.heap.size, 0, none⟩) 3 3) [83, 71, q] (.slice (some ⟨g4, 0, none⟩) LL.length cap4) LL) := hT2
                      have hLl9 : LL.length ≤ 1000 := by omega
                      clear hT1 hr1 hLLH hL1n hown hg hcl hone hsl hN9
                      go_wp2_with fail
                      go_loopw [16, 17] (fun ov iv wq => ∃ (j : Nat) (oa : Option Addr) (ok oc : Nat), ov = .slice oa ok oc ∧ iv = .int .i64 (j : Int) ∧ j ≤ LL.length ∧ TI w wq (.slice oa ok oc) ([83, 71, q] ++ symBytes (LL.take j)) (.slice (some ⟨g4, 0, none⟩) LL.length cap4) LL) (fun _ iv _ => ((LL.length : Int) - intOf iv).toNat)
                      case atStart => exact ⟨0, _, _, _, rfl, rfl, Nat.zero_le _, by have := hT2.out; simpa [symBytes] using this⟩
                      case round =>
                        clear hT2
                        obtain ⟨j, oa, ok, oc, rfl, rfl, hj, hT⟩ := hrel
                        have hbl : ([83, 71, q] ++ symBytes (LL.take j)).length = 3 + 2 * j := by rw [List.length_append, symBytes_len, List.length_take]; simp; omega
                        have hok : ok = ([83, 71, q] ++ symBytes (LL.take j)).length := by
                          rcases hT.orow.2 with ⟨h2, h3⟩ | ⟨g, cap, _, h2, _⟩
                          · simp only [Value.slice.injEq] at h2
                            rw [h2.2.1]; exact h3.symm
                          · simp only [Value.slice.injEq] at h2
                            exact h2.2.1
                        have hTH : Hid (TI _ _ _ _ _ _) := hT
                        by_cases hlt9 : (j : Int) < (LL.length : Int)
                        · have hj1 : j < LL.length := by omega
                          obtain ⟨x, hx⟩ : ∃ x, LL.getD j 0 = x := ⟨_, rfl⟩
                          have hxb : x < 65536 := by rw [← hx]; apply hLb.out; simp [List.getD, hj1]
                          have c1 : wr.cell? ⟨g4, j, none⟩ = some (.int .i64 (x : Int)) := by
                            have := hT.rrow.cells (g := g4) rfl j _ (symCells_get LL j hj1)
                            rwa [ptr_add, hx] at this
                          have hsb : Hid (symBytes (LL.take (j + 1)) = symBytes (LL.take j) ++ two16 x) := by show _ = _; rw [symBytes_snoc LL j hj1, hx]
                          obtain ⟨B, hB⟩ : ∃ B, [83, 71, q] ++ symBytes (LL.take j) = B := ⟨_, rfl⟩
                          rw [hB] at hTH hbl hok
                          have hbl9 : B.length ≤ 3000 := by omega
                          clear hbl
                          have hBH : Hid (_ = _) := hB
                          subst hok
                          have own : ∀ o, (wr.alloc o).ownsRow w.heap.size 5 1 (.slice oa B.length oc) B.length (byteCells B) := fun o => (hTH.out.keep ((Kept.refl [] wr).alloc o)).orow
                          have own2 : ∀ o, (wr.alloc o).drew.ownsRow w.heap.size 5 1 (.slice oa B.length oc) B.length (byteCells B) := fun o => (hTH.out.keep (((Kept.refl [] wr).alloc o).drew)).orow
                          have up : ∀ o, w.heap.size ≤ (wr.alloc o).heap.size := fun o => by have := hT.k.size; simp; omega
                          have mb8 : B.length + 2 ≤ maxLen := by unfold maxLen; omega
                          have mc : (B.length + 2) * 1 ≤ 140737488355328 := by omega
                          have hw1 : IntKind.wrap .u8 (x : Int) = ((x % 256 : Nat) : Int) := by rw [IntKind.wrap_u8]; omega
                          have hw2 : IntKind.wrap .u8 ((x : Int) / 256) = ((x / 256 : Nat) : Int) := by rw [IntKind.wrap_u8]; omega
                          have hg4 : g4 < wr.heap.size := (hT.rrow.lt g4 rfl).2
                          have hg4' : ¬ g4 = wr.heap.size := by omega
                          obtain ⟨i8, hi8, hz80, hz81, hz82⟩ := info_parts infoU8
                          have hnext : Hid (∀ (w4 : World) (g cap : Nat) (W : World), Kept [] wr W → w4.ownsRow w.heap.size 5 1 (.slice (some ⟨g, 0, none⟩) (B.length + 2) cap) (B.length + 2) (byteCells B ++ [.int .u8 ((x % 256 : Nat) : Int), .int .u8 ((x / 256 : Nat) : Int)]) → W.grownBy w4 (Value.slice oa B.length oc).ownBlock → TI w w4 (.slice (some ⟨g, 0, none⟩) (B.length + 2) cap) ([83, 71, q] ++ symBytes (LL.take (j + 1))) (.slice (some ⟨g4, 0, none⟩) LL.length cap4) LL) := fun w4 g cap W k hown hg => by
                            rw [hsb.out, ← List.append_assoc, hBH.out]
                            exact hTH.out.growO (M := two16 x) k hg hown
                          have kW : Hid (∀ o, Kept [] wr (wr.alloc o).drew) := fun o => ((Kept.refl [] wr).alloc o).drew
                          clear hT hB hx hLb
                          generalize x % 256 = x1 at *
                          generalize x / 256 = x2 at *
                          go_wp2_with fail
                          go_region_law (refine step_append_owned rfl (.tmp 168) (.tmp 180) 98 rfl 5 i8 _ 1 1 Try.underlying98 hi8 hz80 hz81 hz82 rfl (by decide) w.heap.size (.slice oa B.length oc) B.length (byteCells B) (by simp [Act.eval, Act.put]) (by first | exact own2 _ | exact own _) ⟨wr.heap.size, 0, none⟩ 2 2 [.int .u8 (x1 : Int), .int .u8 (x2 : Int)] (by simp [Act.eval, Act.put]) rfl (by first | exact cells_new _ _ _ _ (by simp) | exact fun j u hj => cells_new _ _ _ _ (by simp) j u hj) (by simp [Value.oneCell']) mb8 mc (by exact up _) ?_; intro v' w4 hown hgrow; obtain ⟨g, cap, rfl⟩ := own_form hown (by omega); have hN : Hid (TI _ _ _ _ _ _) := hnext.out w4 g cap _ (kW.out _) hown hgrow; clear hown hgrow)
                          all_goals
                            go_wp2_with fail
                            refine ⟨⟨j + 1, _, _, _, rfl, by go_num, by omega, hN.out⟩, ?_⟩
                            simp only [intOf]; omega
                        · have e : j = LL.length := by omega
                          subst e
                          rw [List.take_length] at hTH hok
                          subst hok
                          have hconv := conv_out (out := [83, 71, q] ++ symBytes LL) hTH.out.orow (fun c hc => by
                            rcases List.mem_append.1 hc with hc | hc
                            · simp at hc; omega
                            · unfold symBytes at hc
                              obtain ⟨p, hp, hc⟩ := List.mem_flatMap.1 hc
                              have := hLb.out p hp
                              simp [two16] at hc; omega)
                          have hZe : [83, 71, q] ++ symBytes LL = gtail q LL := rfl
                          rw [hZe] at hconv hTH ⊢
                          generalize gtail q LL = Z at *
                          have hbw : Hid (Below w.heap.size w wr) := hTH.out.k.below (Nat.le_refl _) (by simp)
                          clear hT hbl hZe
                          generalize hzb : bytesB Z = Z2 at *
                          go_wp2
                          go_ret2
                          exact ⟨hfin.out, hbw.out⟩
              · have hon2 : Hid (∀ j, j < q + 1 → 2 ≤ (bestL (gst t j).2).n) := fun j hj => by
                  by_cases hjq : j = q
                  · subst hjq; rw [hbest.out]; simp only []; omega
                  · exact honH.out j (by omega)
                have hmid : Hid (∀ (w5 : World) (rv2 : Value) (o : Obj), (wr.alloc o).grownBy w5 (Value.slice ya yk yc).ownBlock → w5.ownsRow w.heap.size 3 1 rv2 (yk + 2) (symCells (rlf (gst t q).1) ++ [.int .i64 (a : Int), .int .i64 (b : Int)]) → RgMid w w5 t q (.slice xa l.length xc) rv2) := fun w5 rv2 o hg hown => by
                  refine hI9.out.mid (Kept.refl _ _) o hg ?_
                  rw [hbest.out, ← hykH.out]
                  exact hown
                have own : ∀ o, (wr.alloc o).ownsRow w.heap.size 3 1 (.slice ya yk yc) yk (symCells (rlf (gst t q).1)) := fun o => by
                  have := row_stay (S := []) hI9.out.rrow ((Kept.refl [] wr).alloc o) (fun _ _ => by simp)
                  rw [← hykH.out] at this; exact this
                have hOe : Hid (replL a b (256 + q) l = (gst t (q + 1)).2) := by
                  show _ = replL (bestL (gst t q).2).a (bestL (gst t q).2).b (256 + (gst t q).1.length) (gst t q).2
                  rw [hbest.out, hinH.out.rl, hlH.out]
                have hwl : w.heap.size ≤ wr.heap.size := hI9.out.k.size
                have mb : yk + 2 ≤ maxLen := by unfold maxLen; omega
                obtain ⟨i0, hi0, hz0, hz1, hz2⟩ := info_parts infoInt
                have hyk9 : yk ≤ 200 := by omega
                clear hi
                go_wp2_with (at_builtin; refine wpList_append_own _ rfl (.tmp 104) (.tmp 107) 77 rfl w.heap.size 3 i0 _ 1 8 Try.underlying77 hi0 hz0 hz1 hz2 rfl (by decide) (.slice ya yk yc) yk (symCells (rlf (gst t q).1)) rfl (by exact own _) ⟨wr.heap.size, 0, none⟩ 2 2 [.int .i64 (a : Int), .int .i64 (b : Int)] rfl rfl (by exact cells_new _ _ _ _ rfl) (by simp [Value.oneCell']) mb (by omega) (by simp; omega) ?kk)
                case kk =>
                  intro v2 w5 hown hg _
                  have hM : Hid (RgMid _ _ _ _ _ _) := hmid.out _ _ _ hg hown
                  obtain ⟨gv, cap, rfl⟩ := own_form hown (by omega)
                  clear hown hg own hmid hI9
                  have hnx0 : Hid (NxI w5 w5 (.slice none 0 0) []) := ⟨Kept.refl _ _, by exact World.ownsRow_nil _ _ _ _⟩
                  go_wp2_with fail
                  go_loopw [13, 14] (fun ov iv wq => ∃ (j : Nat) (O : List Nat) (oa : Option Addr) (ok oc : Nat), ov = .slice oa ok oc ∧ iv = .int .i64 (j : Int) ∧ j ≤ l.length ∧ O.length ≤ j ∧ O ++ replL a b (256 + q) (l.drop j) = replL a b (256 + q) l ∧ NxI w5 wq (.slice oa ok oc) O) (fun _ iv _ => ((l.length : Int) - intOf iv).toNat)
                  case atStart => exact ⟨0, [], none, 0, 0, rfl, rfl, Nat.zero_le _, Nat.le_refl _, rfl, hnx0.out⟩
                  case round =>
                    clear hnx0
                    obtain ⟨j, O, oa, ok, oc, rfl, rfl, hj, hO, hsum, hN⟩ := hrel
                    have hsum : Hid (_ = _) := hsum
                    by_cases hlt5 : (j : Int) < (l.length : Int)
                    · have hj1 : j < l.length := by omega
                      have hlr := row_stay (S := []) (by have := hM.out.lrow; rwa [hlH.out] at this : w5.ownsRow w.heap.size 3 1 (.slice xa l.length xc) l.length (symCells l)) hN.k (fun _ _ => by simp)
                      obtain ⟨rg, rcap, hv⟩ := own_form hlr (by omega)
                      simp only [Value.slice.injEq, true_and] at hv
                      obtain ⟨rfl, rfl⟩ := hv
                      obtain ⟨x, hx⟩ : ∃ x, l.getD j 0 = x := ⟨_, rfl⟩
                      have c1 : wr.cell? ⟨rg, j, none⟩ = some (.int .i64 (x : Int)) := by
                        have := hlr.cells (g := rg) rfl j _ (symCells_get l j hj1)
                        rwa [ptr_add, hx] at this
                      have own : ∀ o, (wr.alloc o).ownsRow w5.heap.size 3 1 (.slice oa ok oc) O.length (symCells O) := fun o => row_stay (S := []) hN.row ((Kept.refl [] wr).alloc o) (fun _ _ => by simp)
                      have kal : Hid (∀ o, Kept [] wr (wr.alloc o)) := fun o => (Kept.refl [] wr).alloc o
                      have mb5 : O.length + 1 ≤ maxLen := by unfold maxLen; omega
                      have hwl5 : w5.heap.size ≤ wr.heap.size := hN.k.size
                      have hNH : Hid (NxI _ _ _ _) := hN
                      have e256 : Hid (((256 + q : Nat) : Int) = 256 + (q : Int)) := by show _ = _; omega
                      have hmiss := fun h => replL_miss (a := a) (b := b) (s := 256 + q) hj1 h
                      rw [hx] at hmiss
                      by_cases h1 : (j : Int) + 1 < (l.length : Int)
                      · have h1n : j + 1 < l.length := by omega
                        obtain ⟨y, hy⟩ : ∃ y, l.getD (j + 1) 0 = y := ⟨_, rfl⟩
                        have c2 : wr.cell? ⟨rg, j + 1, none⟩ = some (.int .i64 (y : Int)) := by
                          have := hlr.cells (g := rg) rfl (j + 1) _ (symCells_get l (j + 1) h1n)
                          rwa [ptr_add, hy] at this
                        by_cases hxa : x = a
                        · by_cases hyb : y = b
                          · have hxa' : (x : Int) = (a : Int) := by omega
                            have hyb' : (y : Int) = (b : Int) := by omega
                            have hrp : Hid (_ = _) := replL_hit (s := 256 + q) h1n (hx.trans hxa) (hy.trans hyb)
                            clear hmiss hlr hx hy hN hxa hyb
                            rw [← e256.out]
                            clear e256 hbd hOe hlH hinH
                            generalize 256 + q = S at *
                            go_wp2_with (at_builtin; refine wpList_append_own _ rfl (.tmp 144) (.tmp 146) 77 rfl w5.heap.size 3 i0 _ 1 8 Try.underlying77 hi0 hz0 hz1 hz2 rfl (by decide) (.slice oa ok oc) O.length (symCells O) rfl (by exact own _) ⟨wr.heap.size, 0, none⟩ 1 1 [.int .i64 (S : Int)] rfl rfl (by exact cells_new _ _ _ _ rfl) (by simp [Value.oneCell']) mb5 (by omega) (by simp; omega) ?kkk)
                            case kkk =>
                              intro v' w3 hown hg _
                              have hN3 : Hid (NxI w5 w3 v' (O ++ [S])) := hNH.out.grow (kal.out _) hg hown
                              obtain ⟨gw, capw, rfl⟩ := own_form hown (by omega)
                              clear hown hg own
                              go_wp2
                              refine ⟨⟨j + 2, O ++ [S], _, _, _, rfl, by go_num, by omega, by simp; omega, by rw [← hsum.out, hrp.out]; simp, hN3.out⟩, ?_⟩
                              simp only [intOf]; omega
                          · subst hxa
                            have hyb' : ¬ (y : Int) = (b : Int) := by omega
                            have hrp : Hid (_ = _) := hmiss (fun hc => hyb (hy ▸ hc.2.2))
                            clear hmiss hlr hx hy hN hyb
                            go_wp2_with (at_builtin; refine wpList_append_own _ rfl (.tmp 144) (.tmp 146) 77 rfl w5.heap.size 3 i0 _ 1 8 Try.underlying77 hi0 hz0 hz1 hz2 rfl (by decide) (.slice oa ok oc) O.length (symCells O) rfl (by exact own _) ⟨wr.heap.size, 0, none⟩ 1 1 [.int .i64 (x : Int)] rfl rfl (by exact cells_new _ _ _ _ rfl) (by simp [Value.oneCell']) mb5 (by omega) (by simp; omega) ?kkk)
                            case kkk =>
                              intro v' w3 hown hg _
                              have hN3 : Hid (NxI w5 w3 v' (O ++ [x])) := hNH.out.grow (kal.out _) hg hown
                              obtain ⟨gw, capw, rfl⟩ := own_form hown (by omega)
                              clear hown hg own
                              go_wp2
                              refine ⟨⟨j + 1, O ++ [x], _, _, _, rfl, by go_num, by omega, by simp; omega, by rw [← hsum.out, hrp.out]; simp, hN3.out⟩, ?_⟩
                              simp only [intOf]; omega
                        · have hxa' : ¬ (x : Int) = (a : Int) := by omega
                          have hrp : Hid (_ = _) := hmiss (fun hc => hxa hc.1)
                          clear hmiss hlr hx hy hN hxa
                          go_wp2_with (at_builtin; refine wpList_append_own _ rfl (.tmp 144) (.tmp 146) 77 rfl w5.heap.size 3 i0 _ 1 8 Try.underlying77 hi0 hz0 hz1 hz2 rfl (by decide) (.slice oa ok oc) O.length (symCells O) rfl (by exact own _) ⟨wr.heap.size, 0, none⟩ 1 1 [.int .i64 (x : Int)] rfl rfl (by exact cells_new _ _ _ _ rfl) (by simp [Value.oneCell']) mb5 (by omega) (by simp; omega) ?kkk)
                          case kkk =>
                            intro v' w3 hown hg _
                            have hN3 : Hid (NxI w5 w3 v' (O ++ [x])) := hNH.out.grow (kal.out _) hg hown
                            obtain ⟨gw, capw, rfl⟩ := own_form hown (by omega)
                            clear hown hg own
                            go_wp2
                            refine ⟨⟨j + 1, O ++ [x], _, _, _, rfl, by go_num, by omega, by simp; omega, by rw [← hsum.out, hrp.out]; simp, hN3.out⟩, ?_⟩
                            simp only [intOf]; omega
                      · have hrp : Hid (_ = _) := hmiss (fun hc => by omega)
                        clear hmiss hlr hx hN
                        go_wp2_with (at_builtin; refine wpList_append_own _ rfl (.tmp 144) (.tmp 146) 77 rfl w5.heap.size 3 i0 _ 1 8 Try.underlying77 hi0 hz0 hz1 hz2 rfl (by decide) (.slice oa ok oc) O.length (symCells O) rfl (by exact own _) ⟨wr.heap.size, 0, none⟩ 1 1 [.int .i64 (x : Int)] rfl rfl (by exact cells_new _ _ _ _ rfl) (by simp [Value.oneCell']) mb5 (by omega) (by simp; omega) ?kkk)
                        case kkk =>
                          intro v' w3 hown hg _
                          have hN3 : Hid (NxI w5 w3 v' (O ++ [x])) := hNH.out.grow (kal.out _) hg hown
                          obtain ⟨gw, capw, rfl⟩ := own_form hown (by omega)
                          clear hown hg own
                          go_wp2
                          refine ⟨⟨j + 1, O ++ [x], _, _, _, rfl, by go_num, by omega, by simp; omega, by rw [← hsum.out, hrp.out]; simp, hN3.out⟩, ?_⟩
                          simp only [intOf]; omega
                    · have e : j = l.length := by omega
                      subst e
                      have he : Hid (O = (gst t (q + 1)).2) := by
                        have := hsum.out
                        rw [List.drop_eq_nil_of_le (Nat.le_refl _), replL_nil, List.append_nil] at this
                        show _ = _
                        rw [this]; exact hOe.out
                      have hI2 : Hid (RgI w wr t (q + 1) (.slice oa ok oc) (.slice (some ⟨gv, 0, none⟩) (yk + 2) cap)) := hM.out.next hN.k hN.row he.out
                      have hyk3 : Hid (yk + 2 = 2 * (q + 1)) := by show _ = _; have := hykH.out; omega
                      have hq99 : q + 1 ≤ 100 := by have := hykH.out; omega
                      clear hsum hN hM hOe
                      go_wp2
                      refine ⟨⟨q + 1, _, _, _, _, _, _, rfl, rfl, hyk3.out, hq99, hon2.out, hI2.out⟩, ?_⟩
                      simp only [lenS]; omega
        · obtain ⟨l, hl⟩ : ∃ l, (gst t q).2 = l := ⟨_, rfl⟩
          rw [hl] at hxk hll
          subst hxk
          have hI9 : Hid (RgI w wr t q (.slice xa l.length xc) (.slice ya yk yc)) := hI
          have hinH : Hid (GInv _ _ _) := hin
          have hykH : Hid (yk = 2 * q) := hyk
          have hlH : Hid ((gst t q).2 = l) := hl
          have hF : Hid (GFin t q) := ⟨hq, hon, Or.inl (by omega)⟩
          have hyk2 : (yk : Int) / 2 = (q : Int) := by omega
          have hll6 : l.length ≤ 600 := by omega
          clear hI hin hyk hon hl
          have hlr0 := hI9.out.lrow
          rw [hlH.out] at hlr0
          have hRl : (rlf (gst t q).1).length = yk := by rw [rlf_len, hinH.out.rl, hykH.out]
          have hrr0 := hI9.out.rrow
          rw [← hykH.out] at hrr0
          have hw8q : IntKind.wrap .u8 (q : Int) = (q : Int) := by rw [IntKind.wrap_u8]; omega
          have hfin : Hid (∃ p2, GFin t p2 ∧ Ending.returned (.tuple #[.string (bytesB (gtail q (rlf (gst t q).1 ++ [l.length] ++ l))), .int .i64 0]) = .returned (.tuple #[.string (gfile (gst t p2).1 (gst t p2).2), .int .i64 0])) := ⟨q, hF.out, by rw [← gtail_file, hlH.out]⟩
          have hLb : Hid (∀ c, c ∈ rlf (gst t q).1 ++ [l.length] ++ l → c < 65536) := fun c hc => by
            rcases List.mem_append.1 hc with hc | hc
            · rcases List.mem_append.1 hc with hc | hc
              · unfold rlf at hc
                obtain ⟨p, hp, hc⟩ := List.mem_flatMap.1 hc
                have := hinH.out.rb p hp
                simp at hc; omega
              · simp at hc; omega
            · have := hinH.out.sb c (by rw [hlH.out]; exact hc); omega
          have hT0 : Hid (TI w (wr.alloc (.cells (byteCells [83, 71, q]).toArray 5)) (.slice (some ⟨wr.heap.size, 0, none⟩) 3 3) [83, 71, q] (.slice ya yk yc) (rlf (gst t q).1)) :=
            ⟨hI9.out.k.alloc _, own_freshG wr w.heap.size hI9.out.k.size [83, 71, q] (by simp), row_stay (S := []) (by rw [hRl]; exact hrr0) ((Kept.refl [] wr).alloc _) (fun _ _ => by simp)⟩
          have own1 : ∀ o1 o2, ((wr.alloc o1).alloc o2).ownsRow w.heap.size 3 1 (.slice ya yk yc) yk (symCells (rlf (gst t q).1)) := fun o1 o2 => row_stay (S := []) hrr0 (((Kept.refl [] wr).alloc o1).alloc o2) (fun _ _ => by simp)
          have hlr1 : Hid (∀ o1 o2, ((wr.alloc o1).alloc o2).ownsRow w.heap.size 3 1 (.slice xa l.length xc) l.length (symCells l)) := fun o1 o2 => row_stay (S := []) hlr0 (((Kept.refl [] wr).alloc o1).alloc o2) (fun _ _ => by simp)
          have hne := hI9.out.ne
          have hneH : Hid (_ ∨ _) := hne
          have hwl9 : w.heap.size ≤ wr.heap.size := hI9.out.k.size
          have mb9 : yk + 1 ≤ maxLen := by unfold maxLen; omega
          have hRlH : Hid ((rlf (gst t q).1).length = yk) := hRl
          obtain ⟨i9, hi9, hz90, hz91, hz92⟩ := info_parts infoInt
          have hyk9 : yk ≤ 200 := by have := hykH.out; omega
          clear hne hlr0 hrr0 hRl hI9 hinH hlH
          go_wp2_with (at_builtin; refine wpList_append_own _ rfl (.tmp 154) (.tmp 157) 77 rfl w.heap.size 3 i9 _ 1 8 Try.underlying77 hi9 hz90 hz91 hz92 rfl (by decide) (.slice ya yk yc) yk (symCells (rlf (gst t q).1)) rfl (by exact own1 _ _) ⟨wr.heap.size + 1, 0, none⟩ 1 1 [.int .i64 (l.length : Int)] rfl rfl (by exact cells_new _ _ _ _ (by simp)) (by simp [Value.oneCell']) mb9 (by omega) (by simp; omega) ?ka2)
          case ka2 =>
            intro v3 w3 hown hg _
            have hT1 : Hid (TI w w3 (.slice (some ⟨wr.heap.size, 0, none⟩) 3 3) [83, 71, q] v3 (rlf (gst t q).1 ++ [l.length])) := hT0.out.growR (M := [l.length]) ((Kept.refl [] _).alloc _) hg (by rw [hRlH.out]; exact hown)
            have hlr3 : Hid (w3.ownsRow w.heap.size 3 1 (.slice xa l.length xc) l.length (symCells l)) := World.ownsRow.kept (hlr1.out _ _) hg hneH.out
            obtain ⟨g3, cap3, rfl⟩ := own_form hown (by omega)
            clear hown hg own1 hlr1 hT0
            obtain ⟨L1, hL1⟩ : ∃ L1, rlf (gst t q).1 ++ [l.length] = L1 := ⟨_, rfl⟩
            rw [hL1] at hT1 hfin hLb
            have hL1n : Hid (L1.length = yk + 1) := by show _ = _; rw [← hL1, List.length_append, hRlH.out]; rfl
            obtain ⟨LL, hLL⟩ : ∃ LL, L1 ++ l = LL := ⟨_, rfl⟩
            rw [hLL] at hfin hLb
            have hLLH : Hid (_ = _) := hLL
            have hr1 := hT1.out.rrow
            rw [hL1n.out] at hr1
            have hw3 : w.heap.size ≤ w3.heap.size := hT1.out.k.size
            have mb7 : yk + 1 + l.length ≤ maxLen := by unfold maxLen; omega
            clear hL1 hLL hRlH
            rcases hlr3.out.2 with ⟨hnil, hl0⟩ | ⟨gl, capl, cur, hv, _⟩
            · simp only [Value.slice.injEq] at hnil
              obtain ⟨rfl, _, rfl⟩ := hnil
              have hl0' : l = [] := List.eq_nil_of_length_eq_zero hl0
              subst hl0'
              have hLe : L1 = LL := by have := hLLH.out; rwa [List.append_nil] at this
              subst hLe
              clear hlr3
              go_wp2_with (at_builtin; refine wpList_append_own_none rfl (.tmp 159) (.tmp 160) 77 rfl w.heap.size 3 i9 1 Try.underlying77 hi9 (.slice (some ⟨g3, 0, none⟩) (yk + 1) cap3) (yk + 1) (symCells L1) rfl (by exact hr1) rfl ?kb2)
              rw [← hL1n.out]
              have hT2 := hT1.out
              rw [← hL1n.out] at hT2
              have hT2 : Hid (TI w w3 (.slice (some ⟨wr.heap.size, 0, none⟩) 3 3) [83, 71, q] (.slice (some ⟨g3, 0, none⟩) L1.length cap3) L1) := hT2
              have hLl9 : L1.length ≤ 1000 := by rw [hL1n.out]; omega
              clear hT1 hr1 hLLH hL1n
              go_loopw [16, 17] (fun ov iv wq => ∃ (j : Nat) (oa : Option Addr) (ok oc : Nat), ov = .slice oa ok oc ∧ iv = .int .i64 (j : Int) ∧ j ≤ L1.length ∧ TI w wq (.slice oa ok oc) ([83, 71, q] ++ symBytes (L1.take j)) (.slice (some ⟨g3, 0, none⟩) L1.length cap3) L1) (fun _ iv _ => ((L1.length : Int) - intOf iv).toNat)
              case atStart => exact ⟨0, _, _, _, rfl, rfl, Nat.zero_le _, by have := hT2.out; simpa [symBytes] using this⟩
              case round =>
                clear hT2
                obtain ⟨j, oa, ok, oc, rfl, rfl, hj, hT⟩ := hrel
                have hbl : ([83, 71, q] ++ symBytes (L1.take j)).length = 3 + 2 * j := by rw [List.length_append, symBytes_len, List.length_take]; simp; omega
                have hok : ok = ([83, 71, q] ++ symBytes (L1.take j)).length := by
                  rcases hT.orow.2 with ⟨h2, h3⟩ | ⟨g, cap, _, h2, _⟩
                  · simp only [Value.slice.injEq] at h2
                    rw [h2.2.1]; exact h3.symm
                  · simp only [Value.slice.injEq] at h2
                    exact h2.2.1
                have hTH : Hid (TI _ _ _ _ _ _) := hT
                by_cases hlt9 : (j : Int) < (L1.length : Int)
                · have hj1 : j < L1.length := by omega
                  obtain ⟨x, hx⟩ : ∃ x, L1.getD j 0 = x := ⟨_, rfl⟩
                  have hxb : x < 65536 := by rw [← hx]; apply hLb.out; simp [List.getD, hj1]
                  have c1 : wr.cell? ⟨g3, j, none⟩ = some (.int .i64 (x : Int)) := by
                    have := hT.rrow.cells (g := g3) rfl j _ (symCells_get L1 j hj1)
                    rwa [ptr_add, hx] at this
                  have hsb : Hid (symBytes (L1.take (j + 1)) = symBytes (L1.take j) ++ two16 x) := by show _ = _; rw [symBytes_snoc L1 j hj1, hx]
                  obtain ⟨B, hB⟩ : ∃ B, [83, 71, q] ++ symBytes (L1.take j) = B := ⟨_, rfl⟩
                  rw [hB] at hTH hbl hok
                  have hbl9 : B.length ≤ 3000 := by omega
                  clear hbl
                  have hBH : Hid (_ = _) := hB
                  subst hok
                  have own : ∀ o, (wr.alloc o).ownsRow w.heap.size 5 1 (.slice oa B.length oc) B.length (byteCells B) := fun o => (hTH.out.keep ((Kept.refl [] wr).alloc o)).orow
                  have own2 : ∀ o, (wr.alloc o).drew.ownsRow w.heap.size 5 1 (.slice oa B.length oc) B.length (byteCells B) := fun o => (hTH.out.keep (((Kept.refl [] wr).alloc o).drew)).orow
                  have up : ∀ o, w.heap.size ≤ (wr.alloc o).heap.size := fun o => by have := hT.k.size; simp; omega
                  have mb8 : B.length + 2 ≤ maxLen := by unfold maxLen; omega
                  have mc : (B.length + 2) * 1 ≤ 140737488355328 := by omega
                  have hw1 : IntKind.wrap .u8 (x : Int) = ((x % 256 : Nat) : Int) := by rw [IntKind.wrap_u8]; omega
                  have hw2 : IntKind.wrap .u8 ((x : Int) / 256) = ((x / 256 : Nat) : Int) := by rw [IntKind.wrap_u8]; omega
                  have hg3 : g3 < wr.heap.size := (hT.rrow.lt g3 rfl).2
                  have hg3' : ¬ g3 = wr.heap.size := by omega
                  obtain ⟨i8, hi8, hz80, hz81, hz82⟩ := info_parts infoU8
                  have hnext : Hid (∀ (w4 : World) (g cap : Nat) (W : World), Kept [] wr W → w4.ownsRow w.heap.size 5 1 (.slice (some ⟨g, 0, none⟩) (B.length + 2) cap) (B.length + 2) (byteCells B ++ [.int .u8 ((x % 256 : Nat) : Int), .int .u8 ((x / 256 : Nat) : Int)]) → W.grownBy w4 (Value.slice oa B.length oc).ownBlock → TI w w4 (.slice (some ⟨g, 0, none⟩) (B.length + 2) cap) ([83, 71, q] ++ symBytes (L1.take (j + 1))) (.slice (some ⟨g3, 0, none⟩) L1.length cap3) L1) := fun w4 g cap W k hown hg => by
                    rw [hsb.out, ← List.append_assoc, hBH.out]
                    exact hTH.out.growO (M := two16 x) k hg hown
                  have kW : Hid (∀ o, Kept [] wr (wr.alloc o).drew) := fun o => ((Kept.refl [] wr).alloc o).drew
                  clear hT hB hx hLb
                  generalize x % 256 = x1 at *
                  generalize x / 256 = x2 at *
                  go_wp2_with fail
                  go_region_law (refine step_append_owned rfl (.tmp 168) (.tmp 180) 98 rfl 5 i8 _ 1 1 Try.underlying98 hi8 hz80 hz81 hz82 rfl (by decide) w.heap.size (.slice oa B.length oc) B.length (byteCells B) (by simp [Act.eval, Act.put]) (by first | exact own2 _ | exact own _) ⟨wr.heap.size, 0, none⟩ 2 2 [.int .u8 (x1 : Int), .int .u8 (x2 : Int)] (by simp [Act.eval, Act.put]) rfl (by first | exact cells_new _ _ _ _ (by simp) | exact fun j u hj => cells_new _ _ _ _ (by simp) j u hj) (by simp [Value.oneCell']) mb8 mc (by exact up _) ?_; intro v' w4 hown hgrow; obtain ⟨g, cap, rfl⟩ := own_form hown (by omega); have hN : Hid (TI _ _ _ _ _ _) := hnext.out w4 g cap _ (kW.out _) hown hgrow; clear hown hgrow)
                  all_goals
                    go_wp2_with fail
                    refine ⟨⟨j + 1, _, _, _, rfl, by go_num, by omega, hN.out⟩, ?_⟩
                    simp only [intOf]; omega
                · have e : j = L1.length := by omega
                  subst e
                  rw [List.take_length] at hTH hok
                  subst hok
                  have hconv := conv_out (out := [83, 71, q] ++ symBytes L1) hTH.out.orow (fun c hc => by
                    rcases List.mem_append.1 hc with hc | hc
                    · simp at hc; omega
                    · unfold symBytes at hc
                      obtain ⟨p, hp, hc⟩ := List.mem_flatMap.1 hc
                      have := hLb.out p hp
                      simp [two16] at hc; omega)
                  have hZe : [83, 71, q] ++ symBytes L1 = gtail q L1 := rfl
                  rw [hZe] at hconv hTH ⊢
                  generalize gtail q L1 = Z at *
                  have hbw : Hid (Below w.heap.size w wr) := hTH.out.k.below (Nat.le_refl _) (by simp)
                  clear hT hbl hZe
                  generalize hzb : bytesB Z = Z2 at *
                  go_wp2
                  go_ret2
                  exact ⟨hfin.out, hbw.out⟩
            · simp only [Value.slice.injEq] at hv
              obtain ⟨hxa, _, hxc⟩ := hv
              clear hxc
              subst hxa
              have hcl : ∀ (j : Nat) (u : Value), (symCells l)[j]? = some u → w3.cell? ((⟨gl, 0, none⟩ : Addr).add j) = some u := fun j u hu => hlr3.out.cells (g := gl) rfl j u hu
              have hone : ∀ u ∈ symCells l, u.oneCell' = true := fun u hu => by unfold symCells at hu; obtain ⟨c, _, rfl⟩ := List.mem_map.1 hu; rfl
              have hsl : (symCells l).length = l.length * 1 := by unfold symCells; simp
              clear hlr3
              go_wp2_with (at_builtin; refine wpList_append_own _ rfl (.tmp 159) (.tmp 160) 77 rfl w.heap.size 3 i9 _ 1 8 Try.underlying77 hi9 hz90 hz91 hz92 rfl (by decide) (.slice (some ⟨g3, 0, none⟩) (yk + 1) cap3) (yk + 1) (symCells L1) rfl (by exact hr1) ⟨gl, 0, none⟩ l.length xc (symCells l) rfl (by exact hsl) (by exact hcl) (by exact hone) (by exact mb7) (by omega) (by omega) ?kc2)
              case kc2 =>
                intro v4 w4 hown hg _
                have hT2 := hT1.out.growR (rv' := v4) (M := l) (Kept.refl [] w3) hg (by rw [hL1n.out]; exact hown)
                obtain ⟨g4, cap4, rfl⟩ := own_form hown (by omega)
                have hN9 : yk + 1 + l.length = LL.length := by rw [← hLLH.out, List.length_append, hL1n.out]
                rw [hLLH.out] at hT2
                rw [hN9] at hT2 ⊢
                have hT2 : Hid (TI w w4 (.slice (some ⟨wr.heap.size, 0, none⟩) 3 3) [83, 71, q] (.slice (some ⟨g4, 0, none⟩) LL.length cap4) LL) := hT2
                have hLl9 : LL.length ≤ 1000 := by omega
                clear hT1 hr1 hLLH hL1n hown hg hcl hone hsl hN9
                go_wp2_with fail
                go_loopw [16, 17] (fun ov iv wq => ∃ (j : Nat) (oa : Option Addr) (ok oc : Nat), ov = .slice oa ok oc ∧ iv = .int .i64 (j : Int) ∧ j ≤ LL.length ∧ TI w wq (.slice oa ok oc) ([83, 71, q] ++ symBytes (LL.take j)) (.slice (some ⟨g4, 0, none⟩) LL.length cap4) LL) (fun _ iv _ => ((LL.length : Int) - intOf iv).toNat)
                case atStart => exact ⟨0, _, _, _, rfl, rfl, Nat.zero_le _, by have := hT2.out; simpa [symBytes] using this⟩
                case round =>
                  clear hT2
                  obtain ⟨j, oa, ok, oc, rfl, rfl, hj, hT⟩ := hrel
                  have hbl : ([83, 71, q] ++ symBytes (LL.take j)).length = 3 + 2 * j := by rw [List.length_append, symBytes_len, List.length_take]; simp; omega
                  have hok : ok = ([83, 71, q] ++ symBytes (LL.take j)).length := by
                    rcases hT.orow.2 with ⟨h2, h3⟩ | ⟨g, cap, _, h2, _⟩
                    · simp only [Value.slice.injEq] at h2
                      rw [h2.2.1]; exact h3.symm
                    · simp only [Value.slice.injEq] at h2
                      exact h2.2.1
                  have hTH : Hid (TI _ _ _ _ _ _) := hT
                  by_cases hlt9 : (j : Int) < (LL.length : Int)
                  · have hj1 : j < LL.length := by omega
                    obtain ⟨x, hx⟩ : ∃ x, LL.getD j 0 = x := ⟨_, rfl⟩
                    have hxb : x < 65536 := by rw [← hx]; apply hLb.out; simp [List.getD, hj1]
                    have c1 : wr.cell? ⟨g4, j, none⟩ = some (.int .i64 (x : Int)) := by
                      have := hT.rrow.cells (g := g4) rfl j _ (symCells_get LL j hj1)
                      rwa [ptr_add, hx] at this
                    have hsb : Hid (symBytes (LL.take (j + 1)) = symBytes (LL.take j) ++ two16 x) := by show _ = _; rw [symBytes_snoc LL j hj1, hx]
                    obtain ⟨B, hB⟩ : ∃ B, [83, 71, q] ++ symBytes (LL.take j) = B := ⟨_, rfl⟩
                    rw [hB] at hTH hbl hok
                    have hbl9 : B.length ≤ 3000 := by omega
                    clear hbl
                    have hBH : Hid (_ = _) := hB
                    subst hok
                    have own : ∀ o, (wr.alloc o).ownsRow w.heap.size 5 1 (.slice oa B.length oc) B.length (byteCells B) := fun o => (hTH.out.keep ((Kept.refl [] wr).alloc o)).orow
                    have own2 : ∀ o, (wr.alloc o).drew.ownsRow w.heap.size 5 1 (.slice oa B.length oc) B.length (byteCells B) := fun o => (hTH.out.keep (((Kept.refl [] wr).alloc o).drew)).orow
                    have up : ∀ o, w.heap.size ≤ (wr.alloc o).heap.size := fun o => by have := hT.k.size; simp; omega
                    have mb8 : B.length + 2 ≤ maxLen := by unfold maxLen; omega
                    have mc : (B.length + 2) * 1 ≤ 140737488355328 := by omega
                    have hw1 : IntKind.wrap .u8 (x : Int) = ((x % 256 : Nat) : Int) := by rw [IntKind.wrap_u8]; omega
                    have hw2 : IntKind.wrap .u8 ((x : Int) / 256) = ((x / 256 : Nat) : Int) := by rw [IntKind.wrap_u8]; omega
                    have hg4 : g4 < wr.heap.size := (hT.rrow.lt g4 rfl).2
                    have hg4' : ¬ g4 = wr.heap.size := by omega
                    obtain ⟨i8, hi8, hz80, hz81, hz82⟩ := info_parts infoU8
                    have hnext : Hid (∀ (w4 : World) (g cap : Nat) (W : World), Kept [] wr W → w4.ownsRow w.heap.size 5 1 (.slice (some ⟨g, 0, none⟩) (B.length + 2) cap) (B.length + 2) (byteCells B ++ [.int .u8 ((x % 256 : Nat) : Int), .int .u8 ((x / 256 : Nat) : Int)]) → W.grownBy w4 (Value.slice oa B.length oc).ownBlock → TI w w4 (.slice (some ⟨g, 0, none⟩) (B.length + 2) cap) ([83, 71, q] ++ symBytes (LL.take (j + 1))) (.slice (some ⟨g4, 0, none⟩) LL.length cap4) LL) := fun w4 g cap W k hown hg => by
                      rw [hsb.out, ← List.append_assoc, hBH.out]
                      exact hTH.out.growO (M := two16 x) k hg hown
                    have kW : Hid (∀ o, Kept [] wr (wr.alloc o).drew) := fun o => ((Kept.refl [] wr).alloc o).drew
                    clear hT hB hx hLb
                    generalize x % 256 = x1 at *
                    generalize x / 256 = x2 at *
                    go_wp2_with fail
                    go_region_law (refine step_append_owned rfl (.tmp 168) (.tmp 180) 98 rfl 5 i8 _ 1 1 Try.underlying98 hi8 hz80 hz81 hz82 rfl (by decide) w.heap.size (.slice oa B.length oc) B.length (byteCells B) (by simp [Act.eval, Act.put]) (by first | exact own2 _ | exact own _) ⟨wr.heap.size, 0, none⟩ 2 2 [.int .u8 (x1 : Int), .int .u8 (x2 : Int)] (by simp [Act.eval, Act.put]) rfl (by first | exact cells_new _ _ _ _ (by simp) | exact fun j u hj => cells_new _ _ _ _ (by simp) j u hj) (by simp [Value.oneCell']) mb8 mc (by exact up _) ?_; intro v' w4 hown hgrow; obtain ⟨g, cap, rfl⟩ := own_form hown (by omega); have hN : Hid (TI _ _ _ _ _ _) := hnext.out w4 g cap _ (kW.out _) hown hgrow; clear hown hgrow)
                    all_goals
                      go_wp2_with fail
                      refine ⟨⟨j + 1, _, _, _, rfl, by go_num, by omega, hN.out⟩, ?_⟩
                      simp only [intOf]; omega
                  · have e : j = LL.length := by omega
                    subst e
                    rw [List.take_length] at hTH hok
                    subst hok
                    have hconv := conv_out (out := [83, 71, q] ++ symBytes LL) hTH.out.orow (fun c hc => by
                      rcases List.mem_append.1 hc with hc | hc
                      · simp at hc; omega
                      · unfold symBytes at hc
                        obtain ⟨p, hp, hc⟩ := List.mem_flatMap.1 hc
                        have := hLb.out p hp
                        simp [two16] at hc; omega)
                    have hZe : [83, 71, q] ++ symBytes LL = gtail q LL := rfl
                    rw [hZe] at hconv hTH ⊢
                    generalize gtail q LL = Z at *
                    have hbw : Hid (Below w.heap.size w wr) := hTH.out.k.below (Nat.le_refl _) (by simp)
                    clear hT hbl hZe
                    generalize hzb : bytesB Z = Z2 at *
                    go_wp2
                    go_ret2
                    exact ⟨hfin.out, hbw.out⟩

end Go.Proofs.Ytgifhgnccmnbiaa
