/- Package packed: WriteRules; package sift: PackG: walked. -/
import Derived.Test.YtgifhgnccmnbiaaGFile
set_option linter.unusedVariables false
set_option linter.unusedSimpArgs false
namespace Go.Proofs.Ytgifhgnccmnbiaa
open Go.RowKit Go.IntWalk

def bestL (l : List Nat) : Cand := bestQ (candC l) (l.length - 1)
def gstep (s : List Cand × List Nat) : List Cand × List Nat := (s.1 ++ [bestL s.2], replL (bestL s.2).a (bestL s.2).b (256 + s.1.length) s.2)
def gst (t : ByteArray) : Nat → List Cand × List Nat
  | 0 => ([], bytesN t)
  | q + 1 => gstep (gst t q)
theorem bestL_lt {l : List Nat} {m : Nat} (h : ∀ c, c ∈ l → c < m) (hm : 0 < m) : (bestL l).a < m ∧ (bestL l).b < m := by
  unfold bestL
  obtain ⟨h1, _, _⟩ := bestQ_max (candC l) (l.length - 1)
  rcases h1 with e | ⟨i, hi, e⟩
  · rw [e]; exact ⟨hm, hm⟩
  · rw [e]
    unfold candC
    refine ⟨h _ ?_, h _ ?_⟩
    · have h3 : i < l.length := by omega
      simp [List.getD, h3]
    · have h3 : i + 1 < l.length := by omega
      simp [List.getD, h3]
structure GInv (t : ByteArray) (q : Nat) (s : List Cand × List Nat) : Prop where
  rl : s.1.length = q
  sl : s.2.length ≤ t.size
  sb : ∀ c, c ∈ s.2 → c < 256 + q
  rb : ∀ p, p ∈ s.1 → p.a < 256 + q ∧ p.b < 256 + q
theorem gst_inv (t : ByteArray) : ∀ q, GInv t q (gst t q)
  | 0 => ⟨rfl, by unfold gst; rw [bytesN_len]; exact Nat.le_refl _, fun c hc => bytesN_lt t c hc, fun p hp => by unfold gst at hp; simp at hp⟩
  | q + 1 => by
    have h := gst_inv t q
    have hb := bestL_lt h.sb (by omega)
    refine ⟨by show ((gst t q).1 ++ [_]).length = _; rw [List.length_append, h.rl]; rfl, Nat.le_trans (replL_len _ _ _ _ _ (Nat.le_refl _)) h.sl, fun c hc => ?_, fun p hp => ?_⟩
    · rcases replL_mem _ _ (Nat.le_refl _) c hc with e | e
      · rw [e, h.rl]; omega
      · have := h.sb c e; omega
    · have hp2 : p ∈ (gst t q).1 ++ [bestL (gst t q).2] := hp
      rcases List.mem_append.1 hp2 with e | e
      · have := h.rb p e; omega
      · have e2 : p = bestL (gst t q).2 := by simpa using e
        rw [e2]; omega
/-- So many rules are made, and no more. -/
structure GFin (t : ByteArray) (q : Nat) : Prop where
  le : q ≤ 100
  on : ∀ j, j < q → 2 ≤ (bestL (gst t j).2).n
  off : q = 100 ∨ (bestL (gst t q).2).n < 2
theorem GFin.one {t : ByteArray} {q q' : Nat} (h : GFin t q) (h' : GFin t q') : q = q' := by
  rcases Nat.lt_trichotomy q q' with hl | hl | hl
  · have := h'.on q hl
    have := h'.le
    rcases h.off with e | e <;> omega
  · exact hl
  · have := h.on q' hl
    have := h.le
    rcases h'.off with e | e <;> omega

theorem infoPair : (Try.prog.info? 151).map (fun i => (i.zero, i.size, i.bytes)) = some (some (.agg #[.int .i64 0, .int .i64 0, .int .i64 0]), 3, 24) := by kernel_rfl

theorem bytesN_at {t : ByteArray} {i : Nat} (h : i < t.size) : (bytesN t)[i]? = some t[i].toNat := by
  have h2 : i < t.data.toList.length := by simpa using h
  unfold bytesN
  rw [List.getElem?_map, List.getElem?_eq_getElem h2]
  simp
  rfl

structure WrI (w wr : World) (t : ByteArray) (q : Nat) (sv rv : Value) : Prop where
  k : Kept [] w wr
  srow : wr.ownsRow w.heap.size 3 1 sv (gst t q).2.length (symCells (gst t q).2)
  rrow : wr.ownsRow w.heap.size 151 3 rv (gst t q).1.length (pcs (gst t q).1)

theorem WrI.next {w wr w3 w4 w5 : World} {t : ByteArray} {q : Nat} {sv rv v1 v2 : Value} (h : WrI w wr t q sv rv) (k3 : Kept [] wr w3) (o : RepOut w3 w4 v1 (gst t (q + 1)).2) (ob : Obj) (hg : (w4.alloc ob).grownBy w5 rv.ownBlock)
    (hown : w5.ownsRow w.heap.size 151 3 v2 (q + 1) (pcs (gst t q).1 ++ [.int .i64 ((bestL (gst t q).2).a : Int), .int .i64 ((bestL (gst t q).2).b : Int), .int .i64 ((bestL (gst t q).2).n : Int)])) : WrI w w5 t (q + 1) v1 v2 := by
  have k4 := (k3.trans o.k).alloc ob
  have hr := row_stay (S := []) h.rrow k4 (fun _ _ => by simp)
  have hs := row_base (row_stay (S := []) o.row ((Kept.refl [] w4).alloc ob) (fun _ _ => by simp)) (Nat.le_trans h.k.size k3.size)
  have hin := (gst_inv t (q + 1)).rl
  refine ⟨grow_kept (h.k.trans k4) hr hg, World.ownsRow.kept hs hg (own_ne hs hr (by decide)), ?_⟩
  have e : pcs (gst t (q + 1)).1 = pcs (gst t q).1 ++ [.int .i64 ((bestL (gst t q).2).a : Int), .int .i64 ((bestL (gst t q).2).b : Int), .int .i64 ((bestL (gst t q).2).n : Int)] := by
    show pcs ((gst t q).1 ++ [bestL (gst t q).2]) = _
    unfold pcs
    rw [List.flatMap_append]; rfl
  rw [hin, e]
  exact hown

def lenS : Value → Nat
  | .slice _ k _ => k
  | _ => 0

set_option maxHeartbeats 4000000 in
set_option maxRecDepth 100000 in
theorem writeRules_any (t : ByteArray) (ht : t.size ≤ 600) (w : World) :
    Calls Try.prog 57 #[.string t] w fun e w' => (∃ q, e = .returned (.string (gfile (gst t q).1 (gst t q).2)) ∧ GFin t q) ∧ Below w.heap.size w w' := by
  have hst : Hid (World.ownsRow w w.heap.size 3 1 (.slice none 0 0) 0 (symCells [])) := by exact World.ownsRow_nil _ _ _ _
  have hk0 : Hid (Kept [] w w) := Kept.refl _ _
  go_enter Try.func57, Try.ntmps57
  go_wp2_with fail
  go_loopw [3, 4] (fun sv iv wr => ∃ (i : Nat) (xa : Option Addr) (xk xc : Nat), sv = .slice xa xk xc ∧ iv = .int .i64 (i : Int) ∧ i ≤ t.size ∧ Kept [] w wr ∧ wr.ownsRow w.heap.size 3 1 (.slice xa xk xc) i (symCells ((bytesN t).take i))) (fun _ iv _ => ((t.size : Int) - intOf iv).toNat)
  case atStart => exact ⟨0, none, 0, 0, rfl, rfl, Nat.zero_le _, hk0.out, hst.out⟩
  case round =>
    obtain ⟨i, xa, xk, xc, rfl, rfl, hi, hk, hrow⟩ := hrel
    clear hst hk0
    by_cases hlt : (i : Int) < (t.size : Int)
    · have hin : i < t.size := by omega
      have own : ∀ o, (wr.alloc o).ownsRow w.heap.size 3 1 (.slice xa xk xc) i (symCells ((bytesN t).take i)) := fun o => row_stay (S := []) hrow ((Kept.refl [] wr).alloc o) (fun _ _ => by simp)
      have hka : Hid (∀ o, Kept [] w (wr.alloc o)) := fun o => hk.alloc o
      have hs : Hid (symCells ((bytesN t).take (i + 1)) = symCells ((bytesN t).take i) ++ [.int .i64 (t[i].toNat : Int)]) := by
        show _ = _
        rw [List.take_add_one, bytesN_at hin, ← symCells_snoc]
        rfl
      have hwl : w.heap.size ≤ wr.heap.size := hk.size
      have mb : i + 1 ≤ maxLen := by unfold maxLen; omega
      have hc8 := t[i].toNat_lt
      have hown0 : Hid (∀ o, (wr.alloc o).ownsRow w.heap.size 3 1 (.slice xa xk xc) i (symCells ((bytesN t).take i))) := own
      obtain ⟨i0, hi0, hz0, hz1, hz2⟩ := info_parts infoInt
      clear hk hrow
      go_wp2_with (at_builtin; refine wpList_append_own _ rfl (.tmp 13) (.tmp 18) 77 rfl w.heap.size 3 i0 _ 1 8 Try.underlying77 hi0 hz0 hz1 hz2 rfl (by decide) (.slice xa xk xc) i (symCells ((bytesN t).take i)) rfl (by exact own _) ⟨wr.heap.size, 0, none⟩ 1 1 [.int .i64 (t[i].toNat : Int)] rfl rfl (by exact cells_new _ _ _ _ rfl) (by simp [Value.oneCell']) mb (by omega) (by simp; omega) ?kk)
      case kk =>
        intro v' w3 hown hg _
        obtain ⟨gv, cap, rfl⟩ := own_form hown (by omega)
        have k3 : Hid (Kept [] w w3) := grow_kept (hka.out _) (hown0.out _) hg
        have hown : Hid (w3.ownsRow w.heap.size 3 1 (.slice (some ⟨gv, 0, none⟩) (i + 1) cap) (i + 1) (symCells ((bytesN t).take (i + 1)))) := by show World.ownsRow _ _ _ _ _ _ _; rw [hs.out]; exact hown
        clear hg own
        go_wp2
        refine ⟨⟨i + 1, _, _, _, rfl, by go_num, by omega, k3.out, hown.out⟩, ?_⟩
        simp only [intOf]; omega
    · have e : i = t.size := by omega
      subst e
      have hI : Hid (WrI w wr t 0 (.slice xa xk xc) (.slice none 0 0)) := by
        refine ⟨hk, ?_, by exact World.ownsRow_nil _ _ _ _⟩
        rw [List.take_of_length_le (by rw [bytesN_len]; exact Nat.le_refl _)] at hrow
        show wr.ownsRow _ _ _ _ (bytesN t).length (symCells (bytesN t))
        rw [bytesN_len]; exact hrow
      clear hk hrow
      have hon0 : Hid (∀ j, j < 0 → 2 ≤ (bestL (gst t j).2).n) := fun j hj => by omega
      go_wp2_with fail
      go_loopw [3, 5] (fun sv rv wr => ∃ (q : Nat) (xa ya : Option Addr) (xk xc yk yc : Nat), sv = .slice xa xk xc ∧ rv = .slice ya yk yc ∧ q ≤ 100 ∧ (∀ j, j < q → 2 ≤ (bestL (gst t j).2).n) ∧ WrI w wr t q (.slice xa xk xc) (.slice ya yk yc)) (fun _ rv _ => 100 - lenS rv)
      case atStart => exact ⟨0, xa, none, xk, xc, 0, 0, rfl, rfl, by omega, hon0.out, hI.out⟩
      case round =>
        obtain ⟨q, xa, ya, xk, xc, yk, yc, rfl, rfl, hq, hon, hI⟩ := hrel
        clear hon0
        have hin := gst_inv t q
        have hyk : yk = q := by
          have h1 := hI.rrow
          rw [hin.rl] at h1
          rcases h1.2 with ⟨h2, h3⟩ | ⟨g, cap, _, h2, _⟩
          · simp at h2; omega
          · simp at h2; omega
        subst hyk
        have hxk : xk = (gst t yk).2.length := by
          rcases hI.srow.2 with ⟨h2, h3⟩ | ⟨g, cap, _, h2, _⟩
          · simp at h2; omega
          · simp at h2; omega
        have hll := hin.sl
        have hfin : Hid (∀ w', Kept [] wr w' → Calls Try.prog 87 #[.slice ya yk yc, .slice xa xk xc] w' fun e w2 => e = .returned (.string (gfile (gst t yk).1 (gst t yk).2)) ∧ Below w.heap.size w w2) := fun w' k => by
          refine (fileOf_any w' (row_stay (S := []) hI.rrow k (fun _ _ => by simp)) (row_stay (S := []) hI.srow k (fun _ _ => by simp)) (by rw [hin.rl]; omega) (by omega) (fun p hp => by have := hin.rb p hp; omega) (fun c hc => by have := hin.sb c hc; omega)).mono ?_
          rintro e w2 ⟨rfl, b2⟩
          exact ⟨rfl, ((hI.k.trans k).below (Nat.le_refl _) (by simp)).trans (b2.mono (Nat.le_trans hI.k.size k.size))⟩
        have hZ : Hid (∀ e : Ending, GFin t yk → e = .returned (.string (gfile (gst t yk).1 (gst t yk).2)) → ∃ q, e = .returned (.string (gfile (gst t q).1 (gst t q).2)) ∧ GFin t q) := fun e hg he => ⟨yk, he, hg⟩
        obtain ⟨Z, hZe⟩ : ∃ Z, gfile (gst t yk).1 (gst t yk).2 = Z := ⟨_, rfl⟩
        rw [hZe] at hfin hZ
        clear hZe
        have hkr : Hid (Kept [] wr wr) := Kept.refl _ _
        by_cases hlt3 : (yk : Int) < 100
        · have hcm : Hid (Calls Try.prog 85 #[.slice xa xk xc] wr _) := commonest_any wr hI.srow (by omega) (fun c hc => by have := hin.sb c hc; omega)
          have hbe : bestQ (candC (gst t yk).2) ((gst t yk).2.length - 1) = bestL (gst t yk).2 := rfl
          rw [hbe] at hcm
          clear hbe
          by_cases h2 : ((bestL (gst t yk).2).n : Int) < 2
          · have hF : GFin t yk := ⟨by omega, hon, Or.inr (by omega)⟩
            have hZ2 := fun e he => hZ.out e hF he
            have hZ2 : Hid (∀ e, _) := hZ2
            obtain ⟨P, hP⟩ : ∃ P, bestL (gst t yk).2 = P := ⟨_, rfl⟩
            rw [hP] at hcm h2
            unfold PV at hcm
            clear hF hZ hon hI hin hxk hll hP
            obtain ⟨n, a, b⟩ := P
            simp only [] at hcm h2
            go_wp2_with (first
              | (go_at_call 85; refine hcm.out.mono ?_; rintro _ w2 ⟨rfl, k2⟩)
              | (go_at_call 87; refine (hfin.out _ (k2.alloc _)).mono ?_; rintro _ w3 ⟨rfl, b3⟩))
            go_ret
            exact ⟨hZ2.out _ rfl, b3⟩
          · have hrep := fun w3 (k3 : Kept [] wr w3) => replaced_any w3 (row_stay (S := []) hI.srow k3 (fun _ _ => by simp)) (by omega) (bestL (gst t yk).2) (256 + yk) (by omega)
            have eg : replL (bestL (gst t yk).2).a (bestL (gst t yk).2).b (256 + yk) (gst t yk).2 = (gst t (yk + 1)).2 := by
              show _ = replL (bestL (gst t yk).2).a (bestL (gst t yk).2).b (256 + (gst t yk).1.length) (gst t yk).2
              rw [hin.rl]
            rw [eg] at hrep
            have hrep : Hid (∀ w3, _) := hrep
            have hnext : Hid (∀ (w3 w4 w5 : World) (v1 v2 : Value) (ob : Obj), _) := fun w3 w4 w5 v1 v2 ob => hI.next (w3 := w3) (w4 := w4) (w5 := w5) (v1 := v1) (v2 := v2) (ob := ob)
            have hon2 : Hid (∀ j, j < yk + 1 → 2 ≤ (bestL (gst t j).2).n) := fun j hj => by
              by_cases hjq : j = yk
              · subst hjq; omega
              · exact hon j (by omega)
            have hrr := hI.rrow
            rw [hin.rl] at hrr
            have hrrH : Hid (wr.ownsRow w.heap.size 151 3 (.slice ya yk yc) yk (pcs (gst t yk).1)) := hrr
            have hwl : w.heap.size ≤ wr.heap.size := hI.k.size
            have mb : yk + 1 ≤ maxLen := by unfold maxLen; omega
            obtain ⟨i0, hi0, hz0, hz1, hz2⟩ := info_parts infoPair
            obtain ⟨P, hP⟩ : ∃ P, bestL (gst t yk).2 = P := ⟨_, rfl⟩
            rw [hP] at hcm h2 hrep hnext
            unfold PV at hcm hrep
            clear hZ hon hI hin hxk hll hP hfin eg hrr
            obtain ⟨n, a, b⟩ := P
            simp only [] at hcm h2 hrep hnext
            have e256 : ((256 + yk : Nat) : Int) = 256 + (yk : Int) := by omega
            rw [e256] at hrep
            clear e256
            go_wp2_with (first
              | (go_at_call 85; refine hcm.out.mono ?_; rintro _ w2 ⟨rfl, k2⟩; have k2 : Hid (Kept _ _ _) := k2)
              | (go_at_call 86
                 refine (hrep.out _ (k2.out.alloc _)).mono ?_
                 rintro _ w4 ⟨v1, rfl, o4⟩
                 have o4H : Hid (RepOut _ _ _ _) := o4
                 have hP4 : Blk w4 w2.heap.size #[.int .i64 (a : Int), .int .i64 (b : Int), .int .i64 (n : Int)] 151 := (Blk.new w2 _ _).kept o4.k (by simp)
                 have q0 : w4.cell? ⟨w2.heap.size, 0, none⟩ = some (.int .i64 (a : Int)) := hP4.cell 0
                 have q1 : w4.cell? ⟨w2.heap.size, 1, none⟩ = some (.int .i64 (b : Int)) := hP4.cell 1
                 have q2 : w4.cell? ⟨w2.heap.size, 2, none⟩ = some (.int .i64 (n : Int)) := hP4.cell 2
                 have k4 : Kept [] wr w4 := (k2.out.alloc _).trans o4.k
                 have own : ∀ o, (w4.alloc o).ownsRow w.heap.size 151 3 (.slice ya yk yc) yk (pcs (gst t yk).1) := fun o => row_stay (S := []) hrrH.out (k4.alloc o) (fun _ _ => by simp)
                 have hw4 : w.heap.size ≤ w4.heap.size := Nat.le_trans hwl k4.size
                 obtain ⟨pa, pk, pc, rfl⟩ := own_shape o4.row
                 clear o4 hP4 k4)
              | (at_builtin; refine wpList_append_own _ rfl (.tmp 34) (.tmp 36) 149 rfl w.heap.size 151 i0 _ 3 24 Try.underlying149 hi0 hz0 hz1 hz2 rfl (by decide) (.slice ya yk yc) yk (pcs (gst t yk).1) rfl (by exact own _) ⟨w4.heap.size, 0, none⟩ 1 1 [.int .i64 (a : Int), .int .i64 (b : Int), .int .i64 (n : Int)] rfl rfl (by exact cells_new _ _ _ _ rfl) (by simp [Value.oneCell']) mb (by omega) (by simp; omega) ?kk))
            case kk =>
              intro v2 w5 hown hg _
              obtain ⟨gv, cap, rfl⟩ := own_form hown (by omega)
              have hfin5 : Hid (WrI _ _ _ _ _ _) := hnext.out _ _ _ _ _ _ (k2.out.alloc _) o4H.out hg hown
              clear hown hg own
              go_wp2
              refine ⟨⟨yk + 1, _, _, _, _, _, _, rfl, rfl, by omega, hon2.out, hfin5.out⟩, ?_⟩
              simp only [lenS]; omega
        · have hF : GFin t yk := ⟨hq, hon, Or.inl (by omega)⟩
          have hZ2 := fun e he => hZ.out e hF he
          have hZ2 : Hid (∀ e, _) := hZ2
          clear hF hZ hon hI hin hxk hll
          go_wp2_with (go_at_call 87; refine (hfin.out _ hkr.out).mono ?_; rintro _ w3 ⟨rfl, b3⟩)
          go_ret
          exact ⟨hZ2.out _ rfl, b3⟩

/-- What PackG comes to. -/
def PackGOut (t : ByteArray) (e : Ending) : Prop :=
  (600 < t.size ∧ e = .returned (.tuple #[.string ⟨#[]⟩, .int .i64 8])) ∨ (t.size ≤ 600 ∧ ∃ q, GFin t q ∧ e = .returned (.tuple #[.string (gfile (gst t q).1 (gst t q).2), .int .i64 0]))
set_option maxHeartbeats 1000000 in
theorem packG_any (t : ByteArray) (ht : t.size ≤ maxLen) (w : World) :
    Calls Try.prog 31 #[.string t] w fun e w' => PackGOut t e ∧ Below w.heap.size w w' := by
  unfold maxLen at ht
  have hb : Hid (Below w.heap.size w w) := Below.refl _ _
  by_cases h1 : (600 : Int) < (t.size : Int)
  · go_enter Try.func31, Try.ntmps31
    go_wp2
    go_ret2
    exact ⟨Or.inl ⟨by omega, rfl⟩, hb.out⟩
  · have hs : Hid (t.size ≤ 600) := by show t.size ≤ 600; omega
    have hc : Hid (Calls _ _ _ w _) := writeRules_any t hs.out w
    go_enter Try.func31, Try.ntmps31
    go_wp2_with (go_at_call 57; refine hc.out.mono ?_; rintro _ w2 ⟨⟨q, rfl, hq⟩, b2⟩; have hq : Hid (GFin _ _) := hq; generalize hR : gfile (gst t q).1 (gst t q).2 = R; have hR : Hid (_ = _) := hR)
    go_ret2
    exact ⟨Or.inr ⟨hs.out, q, hq.out, by rw [hR.out]; rfl⟩, b2⟩

end Go.Proofs.Ytgifhgnccmnbiaa
