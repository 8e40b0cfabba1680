/- Package packed: WriteRules; package sift: PackG: walked. -/
import Derived.Test.YtgifhgnccmnbiaaG12
import Derived.Test.YtgifhgnccmnbiaaG11
import Derived.Test.YtgifhgnccmnbiaaG10
set_option linter.unusedVariables false
set_option linter.unusedSimpArgs false
namespace Go.Proofs.Ytgifhgnccmnbiaa
open Go.RowKit Go.IntWalk

def bestL (l : List Nat) : Cand := bestQ (candC l) (l.length - 1)
def gstep (s : List Cand × List Nat) : List Cand × List Nat := (s.1 ++ [bestL s.2], replL (bestL s.2).a (bestL s.2).b (256 + s.1.length) s.2)
def gst (t : ByteArray) : Nat → List Cand × List Nat
  | 0 => ([], bytesN t)
  | q + 1 => gstep (gst t q)
theorem bestL_lt {l : List Nat} {m : Nat} (h : ∀ c, c ∈ l → c < m) (hm : 0 < m) : (bestL l).a < m ∧ (bestL l).b < m := by
  unfold bestL
  obtain ⟨h1, _, _⟩ := bestQ_max (candC l) (l.length - 1)
  rcases h1 with e | ⟨i, hi, e⟩
  · rw [e]; exact ⟨hm, hm⟩
  · rw [e]
    unfold candC
    refine ⟨h _ ?_, h _ ?_⟩
    · have h3 : i < l.length := by omega
      simp [List.getD, h3]
    · have h3 : i + 1 < l.length := by omega
      simp [List.getD, h3]
structure GInv (t : ByteArray) (q : Nat) (s : List Cand × List Nat) : Prop where
  rl : s.1.length = q
  sl : s.2.length ≤ t.size
  sb : ∀ c, c ∈ s.2 → c < 256 + q
  rb : ∀ p, p ∈ s.1 → p.a < 256 + q ∧ p.b < 256 + q
theorem gst_inv (t : ByteArray) : ∀ q, GInv t q (gst t q)
  | 0 => ⟨rfl, by unfold gst; rw [bytesN_len]; exact Nat.le_refl _, fun c hc => bytesN_lt t c hc, fun p hp => by unfold gst at hp; simp at hp⟩
  | q + 1 => by
    have h := gst_inv t q
    have hb := bestL_lt h.sb (by omega)
    refine ⟨by show ((gst t q).1 ++ [_]).length = _; rw [List.length_append, h.rl]; rfl, Nat.le_trans (replL_len _ _ _ _ _ (Nat.le_refl _)) h.sl, fun c hc => ?_, fun p hp => ?_⟩
    · rcases replL_mem _ _ (Nat.le_refl _) c hc with e | e
      · rw [e, h.rl]; omega
      · have := h.sb c e; omega
    · have hp2 : p ∈ (gst t q).1 ++ [bestL (gst t q).2] := hp
      rcases List.mem_append.1 hp2 with e | e
      · have := h.rb p e; omega
      · have e2 : p = bestL (gst t q).2 := by simpa using e
        rw [e2]; omega
/-- So many rules are made, and no more. -/
structure GFin (t : ByteArray) (q : Nat) : Prop where
  le : q ≤ 100
  on : ∀ j, j < q → 2 ≤ (bestL (gst t j).2).n
  off : q = 100 ∨ (bestL (gst t q).2).n < 2
theorem GFin.one {t : ByteArray} {q q' : Nat} (h : GFin t q) (h' : GFin t q') : q = q' := by
  rcases Nat.lt_trichotomy q q' with hl | hl | hl
  · have := h'.on q hl
    have := h'.le
    rcases h.off with e | e <;> omega
  · exact hl
  · have := h.on q' hl
    have := h.le
    rcases h'.off with e | e <;> omega

theorem infoPair : (Try.prog.info? 151).map (fun i => (i.zero, i.size, i.bytes)) = some (some (.agg #[.int .i64 0, .int .i64 0, .int .i64 0]), 3, 24) := by kernel_rfl

theorem bytesN_at {t : ByteArray} {i : Nat} (h : i < t.size) : (bytesN t)[i]? = some t[i].toNat := by
  have h2 : i < t.data.toList.length := by simpa using h
  unfold bytesN
  rw [List.getElem?_map, List.getElem?_eq_getElem h2]
  simp
  rfl

structure WrI (w wr : World) (t : ByteArray) (q : Nat) (sv rv : Value) : Prop where
  k : Kept [] w wr
  srow : wr.ownsRow w.heap.size 3 1 sv (gst t q).2.length (symCells (gst t q).2)
  rrow : wr.ownsRow w.heap.size 151 3 rv (gst t q).1.length (pcs (gst t q).1)

theorem WrI.next {w wr w3 w4 w5 : World} {t : ByteArray} {q : Nat} {sv rv v1 v2 : Value} (h : WrI w wr t q sv rv) (k3 : Kept [] wr w3) (o : RepOut w3 w4 v1 (gst t (q + 1)).2) (ob : Obj) (hg : (w4.alloc ob).grownBy w5 rv.ownBlock)
    (hown : w5.ownsRow w.heap.size 151 3 v2 (q + 1) (pcs (gst t q).1 ++ [.int .i64 ((bestL (gst t q).2).a : Int), .int .i64 ((bestL (gst t q).2).b : Int), .int .i64 ((bestL (gst t q).2).n : Int)])) : WrI w w5 t (q + 1) v1 v2 := by
  have k4 := (k3.trans o.k).alloc ob
  have hr := row_stay (S := []) h.rrow k4 (fun _ _ => by simp)
  have hs := row_base (row_stay (S := []) o.row ((Kept.refl [] w4).alloc ob) (fun _ _ => by simp)) (Nat.le_trans h.k.size k3.size)
  have hin := (gst_inv t (q + 1)).rl
  refine ⟨grow_kept (h.k.trans k4) hr hg, World.ownsRow.kept hs hg (own_ne hs hr (by decide)), ?_⟩
  have e : pcs (gst t (q + 1)).1 = pcs (gst t q).1 ++ [.int .i64 ((bestL (gst t q).2).a : Int), .int .i64 ((bestL (gst t q).2).b : Int), .int .i64 ((bestL (gst t q).2).n : Int)] := by
    show pcs ((gst t q).1 ++ [bestL (gst t q).2]) = _
    unfold pcs
    rw [List.flatMap_append]; rfl
  rw [hin, e]
  exact hown

def lenS : Value → Nat
  | .slice _ k _ => k
  | _ => 0

set_option maxHeartbeats 4000000 in
set_option maxRecDepth 100000 in
theorem writeRules_any (t : ByteArray) (ht : t.size ≤ 600) (w : World) :
    Calls Try.prog 57 #[.string t] w fun e w' => (∃ q, e = .returned (.string (gfile (gst t q).1 (gst t q).2)) ∧ GFin t q) ∧ Below w.heap.size w w' := by
  have hst : Hid (World.ownsRow w w.heap.size 3 1 (.slice none 0 0) 0 (symCells [])) := by exact World.ownsRow_nil _ _ _ _
  have hk0 : Hid (Kept [] w w) := Kept.refl _ _
  go_enter Try.func57, Try.ntmps57
  go_wp2_with fail
  go_loopw [3, 4] (fun sv iv wr => ∃ (i : Nat) (xa : Option Addr) (xk xc : Nat), sv = .slice xa xk xc ∧ iv = .int .i64 (i : Int) ∧ i ≤ t.size ∧ Kept [] w wr ∧ wr.ownsRow w.heap.size 3 1 (.slice xa xk xc) i (symCells ((bytesN t).take i))) (fun _ iv _ => ((t.size : Int) - intOf iv).toNat)
  case atStart => exact ⟨0, none, 0, 0, rfl, rfl, Nat.zero_le _, hk0.out, hst.out⟩
  case round =>
    obtain ⟨i, xa, xk, xc, rfl, rfl, hi, hk, hrow⟩ := hrel
    clear hst hk0
    by_cases hlt : (i : Int) < (t.size : Int)
    · have hin : i < t.size := by omega
      have own : ∀ o, (wr.alloc o).ownsRow w.heap.size 3 1 (.slice xa xk xc) i (symCells ((bytesN t).take i)) := fun o => row_stay (S := []) hrow ((Kept.refl [] wr).alloc o) (fun _ _ => by simp)
      have hka : Hid (∀ o, Kept [] w (wr.alloc o)) := fun o => hk.alloc o
      have hs : Hid (symCells ((bytesN t).take (i + 1)) = symCells ((bytesN t).take i) ++ [.int .i64 (t[i].toNat : Int)]) := by
        show _ = _
        rw [List.take_add_one, bytesN_at hin, ← symCells_snoc]
        rfl
      have hwl : w.heap.size ≤ wr.heap.size := hk.size
      have mb : i + 1 ≤ maxLen := by unfold maxLen; omega
      have hc8 := t[i].toNat_lt
      have hown0 : Hid (∀ o, (wr.alloc o).ownsRow w.heap.size 3 1 (.slice xa xk xc) i (symCells ((bytesN t).take i))) := own
      obtain ⟨i0, hi0, hz0, hz1, hz2⟩ := info_parts infoInt
      clear hk hrow
      go_wp2_with (at_builtin; refine wpList_append_own _ rfl (.tmp 13) (.tmp 18) 77 rfl w.heap.size 3 i0 _ 1 8 Try.underlying77 hi0 hz0 hz1 hz2 rfl (by decide) (.slice xa xk xc) i (symCells ((bytesN t).take i)) rfl (by exact own _) ⟨wr.heap.size, 0, none⟩ 1 1 [.int .i64 (t[i].toNat : Int)] rfl rfl (by exact cells_new _ _ _ _ rfl) (by simp [Value.oneCell']) mb (by omega) (by simp; omega) ?kk)
      case kk =>
        intro v' w3 hown hg _
        obtain ⟨gv, cap, rfl⟩ := own_form hown (by omega)
        have k3 : Hid (Kept [] w w3) := grow_kept (hka.out _) (hown0.out _) hg
        have hown : Hid (w3.ownsRow w.heap.size 3 1 (.slice (some ⟨gv, 0, none⟩) (i + 1) cap) (i + 1) (symCells ((bytesN t).take (i + 1)))) := by show World.ownsRow _ _ _ _ _ _ _; rw [hs.out]; exact hown
        clear hg own
        go_wp2
        refine ⟨⟨i + 1, _, _, _, rfl, by go_num, by omega, k3.out, hown.out⟩, ?_⟩
        simp only [intOf]; omega
    · have e : i = t.size := by omega
      subst e
      have hI : Hid (WrI w wr t 0 (.slice xa xk xc) (.slice none 0 0)) := by
        refine ⟨hk, ?_, by exact World.ownsRow_nil _ _ _ _⟩
        rw [List.take_of_length_le (by rw [bytesN_len]; exact Nat.le_refl _)] at hrow
        show wr.ownsRow _ _ _ _ (bytesN t).length (symCells (bytesN t))
        rw [bytesN_len]; exact hrow
      clear hk hrow
      have hon0 : Hid (∀ j, j < 0 → 2 ≤ (bestL (gst t j).2).n) := fun j hj => by omega
      go_wp2_with fail
      go_loopw [3, 5] (fun sv rv wr => ∃ (q : Nat) (xa ya : Option Addr) (xk xc yk yc : Nat), sv = .slice xa xk xc ∧ rv = .slice ya yk yc ∧ q ≤ 100 ∧ (∀ j, j < q → 2 ≤ (bestL (gst t j).2).n) ∧ WrI w wr t q (.slice xa xk xc) (.slice ya yk yc)) (fun _ rv _ => 100 - lenS rv)
      case atStart => exact ⟨0, xa, none, xk, xc, 0, 0, rfl, rfl, by omega, hon0.out, hI.out⟩
      case round =>
        obtain ⟨q, xa, ya, xk, xc, yk, yc, rfl, rfl, hq, hon, hI⟩ := hrel
        clear hon0
        have hin := gst_inv t q
        have hyk : yk = q := by
          have h1 := hI.rrow
          rw [hin.rl] at h1
          rcases h1.2 with ⟨h2, h3⟩ | ⟨g, cap, _, h2, _⟩
          · simp at h2; omega
          · simp at h2; omega
        subst hyk
        have hxk : xk = (gst t yk).2.length := by
          rcases hI.srow.2 with ⟨h2, h3⟩ | ⟨g, cap, _, h2, _⟩
          · simp at h2; omega
          · simp at h2; omega
        have hll := hin.sl
        have hfin : Hid (∀ w', Kept [] wr w' → Calls Try.prog 87 #[.slice ya yk yc, .slice xa xk xc] w' fun e w2 => e = .returned (.string (gfile (gst t yk).1 (gst t yk).2)) ∧ Below w.heap.size w w2) := fun w' k => by
          refine (fileOf_any w' (row_stay (S := []) hI.rrow k (fun _ _ => by simp)) (row_stay (S := []) hI.srow k (fun _ _ => by simp)) (by rw [hin.rl]; omega) (by omega) (fun p hp => by have := hin.rb p hp; omega) (fun c hc => by have := hin.sb c hc; omega)).mono ?_
          rintro e w2 ⟨rfl, b2⟩
          exact ⟨rfl, ((hI.k.trans k).below (Nat.le_refl _) (by simp)).trans (b2.mono (Nat.le_trans hI.k.size k.size))⟩
        have hZ : Hid (∀ e : Ending, GFin t yk → e = .returned (.string (gfile (gst t yk).1 (gst t yk).2)) → ∃ q, e = .returned (.string (gfile (gst t q).1 (gst t q).2)) ∧ GFin t q) := fun e hg he => ⟨yk, he, hg⟩
        obtain ⟨Z, hZe⟩ : ∃ Z, gfile (gst t yk).1 (gst t yk).2 = Z := ⟨_, rfl⟩
        rw [hZe] at hfin hZ
        clear hZe
        have hkr : Hid (Kept [] wr wr) := Kept.refl _ _
        by_cases hlt3 : (yk : Int) < 100
        · have hcm : Hid (Calls Try.prog 85 #[.slice xa xk xc] wr _) := commonest_any wr hI.srow (by omega) (fun c hc => by have := hin.sb c hc; omega)
          have hbe : bestQ (candC (gst t yk).2) ((gst t yk).2.length - 1) = bestL (gst t yk).2 := rfl
          rw [hbe] at hcm
          clear hbe
          by_cases h2 : ((bestL (gst t yk).2).n : Int) < 2
          · have hF : GFin t yk := ⟨by omega, hon, Or.inr (by omega)⟩
            have hZ2 := fun e he => hZ.out e hF he
            have hZ2 : Hid (∀ e, _) := hZ2
            obtain ⟨P, hP⟩ : ∃ P, bestL (gst t yk).2 = P := ⟨_, rfl⟩
            rw [hP] at hcm h2
            unfold PV at hcm
            clear hF hZ hon hI hin hxk hll hP
            obtain ⟨n, a, b⟩ := P
            simp only [] at hcm h2
            go_wp2_with (first
              | (go_at_call 85; refine hcm.out.mono ?_; rintro _ w2 ⟨rfl, k2⟩)
              | (go_at_call 87; refine (hfin.out _ (k2.alloc _)).mono ?_; rintro _ w3 ⟨rfl, b3⟩))
            go_ret
            exact ⟨hZ2.out _ rfl, b3⟩
          · have hrep := fun w3 (k3 : Kept [] wr w3) => replaced_any w3 (row_stay (S := []) hI.srow k3 (fun _ _ => by simp)) (by omega) (bestL (gst t yk).2) (256 + yk) (by omega)
            have eg : replL (bestL (gst t yk).2).a (bestL (gst t yk).2).b (256 + yk) (gst t yk).2 = (gst t (yk + 1)).2 := by
              show _ = replL (bestL (gst t yk).2).a (bestL (gst t yk).2).b (256 + (gst t yk).1.length) (gst t yk).2
              rw [hin.rl]
            rw [eg] at hrep
            have hrep : Hid (∀ w3, _) := hrep
            have hnext : Hid (∀ (w3 w4 w5 : World) (v1 v2 : Value) (ob : Obj), _) := fun w3 w4 w5 v1 v2 ob => hI.next (w3 := w3) (w4 := w4) (w5 := w5) (v1 := v1) (v2 := v2) (ob := ob)
            have hon2 : Hid (∀ j, j < yk + 1 → 2 ≤ (bestL (gst t j).2).n) := fun j hj => by
              by_cases hjq : j = yk
              · subst hjq; omega
              · exact hon j (by omega)
            have hrr := hI.rrow
            rw [hin.rl] at hrr
            have hrrH : Hid (wr.ownsRow w.heap.size 151 3 (.slice ya yk yc) yk (pcs (gst t yk).1)) := hrr
            have hwl : w.heap.size ≤ wr.heap.size := hI.k.size
            have mb : yk + 1 ≤ maxLen := by unfold maxLen; omega
            obtain ⟨i0, hi0, hz0, hz1, hz2⟩ := info_parts infoPair
            obtain ⟨P, hP⟩ : ∃ P, bestL (gst t yk).2 = P := ⟨_, rfl⟩
            rw [hP] at hcm h2 hrep hnext
            unfold PV at hcm hrep
            clear hZ hon hI hin hxk hll hP hfin eg hrr
            obtain ⟨n, a, b⟩ := P
            simp only [] at hcm h2 hrep hnext
            have e256 : ((256 + yk : Nat) : Int) = 256 + (yk : Int) := by omega
            rw [e256] at hrep
            clear e256
            go_wp2_with (first
              | (go_at_call 85; refine hcm.out.mono ?_; rintro _ w2 ⟨rfl, k2⟩; have k2 : Hid (Kept _ _ _) := k2)
              | (go_at_call 86
                 refine (hrep.out _ (k2.out.alloc _)).mono ?_
                 rintro _ w4 ⟨v1, rfl, o4⟩
                 have o4H : Hid (RepOut _ _ _ _) := o4
                 have hP4 : Blk w4 w2.heap.size #[.int .i64 (a : Int), .int .i64 (b : Int), .int .i64 (n : Int)] 151 := (Blk.new w2 _ _).kept o4.k (by simp)
                 have q0 : w4.cell? ⟨w2.heap.size, 0, none⟩ = some (.int .i64 (a : Int)) := hP4.cell 0
                 have q1 : w4.cell? ⟨w2.heap.size, 1, none⟩ = some (.int .i64 (b : Int)) := hP4.cell 1
                 have q2 : w4.cell? ⟨w2.heap.size, 2, none⟩ = some (.int .i64 (n : Int)) := hP4.cell 2
                 have k4 : Kept [] wr w4 := (k2.out.alloc _).trans o4.k
                 have own : ∀ o, (w4.alloc o).ownsRow w.heap.size 151 3 (.slice ya yk yc) yk (pcs (gst t yk).1) := fun o => row_stay (S := []) hrrH.out (k4.alloc o) (fun _ _ => by simp)
                 have hw4 : w.heap.size ≤ w4.heap.size := Nat.le_trans hwl k4.size
                 obtain ⟨pa, pk, pc, rfl⟩ := own_shape o4.row
                 clear o4 hP4 k4)
              | (at_builtin; refine wpList_append_own _ rfl (.tmp 34) (.tmp 36) 149 rfl w.heap.size 151 i0 _ 3 24 Try.underlying149 hi0 hz0 hz1 hz2 rfl (by decide) (.slice ya yk yc) yk (pcs (gst t yk).1) rfl (by exact own _) ⟨w4.heap.size, 0, none⟩ 1 1 [.int .i64 (a : Int), .int .i64 (b : Int), .int .i64 (n : Int)] rfl rfl (by exact cells_new _ _ _ _ rfl) (by simp [Value.oneCell']) mb (by omega) (by simp; omega) ?kk))
            case kk =>
              intro v2 w5 hown hg _
              obtain ⟨gv, cap, rfl⟩ := own_form hown (by omega)
              have hfin5 : Hid (WrI _ _ _ _ _ _) := hnext.out _ _ _ _ _ _ (k2.out.alloc _) o4H.out hg hown
              clear hown hg own
              go_wp2
              refine ⟨⟨yk + 1, _, _, _, _, _, _, rfl, rfl, by omega, hon2.out, hfin5.out⟩, ?_⟩
              simp only [lenS]; omega
        · have hF : GFin t yk := ⟨hq, hon, Or.inl (by omega)⟩
          have hZ2 := fun e he => hZ.out e hF he
          have hZ2 : Hid (∀ e, _) := hZ2
          clear hF hZ hon hI hin hxk hll
          go_wp2_with (go_at_call 87; refine (hfin.out _ hkr.out).mono ?_; rintro _ w3 ⟨rfl, b3⟩)
          go_ret
          exact ⟨hZ2.out _ rfl, b3⟩

/-- What PackG comes to. -/
def PackGOut (t : ByteArray) (e : Ending) : Prop :=
  (600 < t.size ∧ e = .returned (.tuple #[.string ⟨#[]⟩, .int .i64 8])) ∨ (t.size ≤ 600 ∧ ∃ q, GFin t q ∧ e = .returned (.tuple #[.string (gfile (gst t q).1 (gst t q).2), .int .i64 0]))
set_option maxHeartbeats 1000000 in
theorem packG_any (t : ByteArray) (ht : t.size ≤ maxLen) (w : World) :
    Calls Try.prog 31 #[.string t] w fun e w' => PackGOut t e ∧ Below w.heap.size w w' := by
  unfold maxLen at ht
  have hb : Hid (Below w.heap.size w w) := Below.refl _ _
  by_cases h1 : (600 : Int) < (t.size : Int)
  · go_enter Try.func31, Try.ntmps31
    go_wp2
    go_ret2
    exact ⟨Or.inl ⟨by omega, rfl⟩, hb.out⟩
  · have hs : Hid (t.size ≤ 600) := by show t.size ≤ 600; omega
    have hc : Hid (Calls _ _ _ w _) := writeRules_any t hs.out w
    go_enter Try.func31, Try.ntmps31
    go_wp2_with (go_at_call 57; refine hc.out.mono ?_; rintro _ w2 ⟨⟨q, rfl, hq⟩, b2⟩; have hq : Hid (GFin _ _) := hq; generalize hR : gfile (gst t q).1 (gst t q).2 = R; have hR : Hid (_ = _) := hR)
    go_ret2
    exact ⟨Or.inr ⟨hs.out, q, hq.out, by rw [hR.out]; rfl⟩, b2⟩

end Go.Proofs.Ytgifhgnccmnbiaa

set_option linter.unusedVariables false
set_option linter.unusedSimpArgs false
namespace Go.Proofs.Ytgifhgnccmnbiaa
open Go.RowKit Go.IntWalk

theorem zfile_a : zfile 9 ⟨#[97]⟩ = ⟨#[83, 90, 9, 97, 0]⟩ := by kernel_rfl
theorem gfin_a : GFin ⟨#[97]⟩ 0 := ⟨by omega, fun j hj => by omega, Or.inr (by decide +kernel)⟩
theorem gfile_a : gfile (gst ⟨#[97]⟩ 0).1 (gst ⟨#[97]⟩ 0).2 = ⟨#[83, 71, 0, 1, 0, 97, 0]⟩ := by kernel_rfl

set_option maxHeartbeats 1000000 in
set_option maxRecDepth 100000 in
theorem packing_any (w : World) : Calls Try.prog 34 #[] w fun e w' => e = .returned (.bool true) ∧ Below w.heap.size w w' := by
  have hz : Hid (Calls Try.prog 29 #[.string ⟨#[97]⟩, .int .i64 9] w fun e w' => e = .returned (.tuple #[.string ⟨#[83, 90, 9, 97, 0]⟩, .int .i64 0]) ∧ Below w.heap.size w w') := by
    refine (packZ_any ⟨#[97]⟩ (by decide) 9 w).mono ?_
    rintro e w' ⟨h, b⟩
    refine ⟨?_, b⟩
    rcases h with ⟨h1, _⟩ | ⟨_, h1, _⟩ | ⟨_, _, _, h1⟩
    · exact absurd h1 (by decide)
    · omega
    · rw [h1, show (9 : Int).toNat = 9 by rfl, zfile_a]
  have hg : Hid (∀ w, Calls Try.prog 31 #[.string ⟨#[97]⟩] w fun e w' => e = .returned (.tuple #[.string ⟨#[83, 71, 0, 1, 0, 97, 0]⟩, .int .i64 0]) ∧ Below w.heap.size w w') := fun w => by
    refine (packG_any ⟨#[97]⟩ (by decide) w).mono ?_
    rintro e w' ⟨h, b⟩
    refine ⟨?_, b⟩
    rcases h with ⟨h1, _⟩ | ⟨_, q, hq, h1⟩
    · exact absurd h1 (by decide)
    · rw [h1, hq.one gfin_a, gfile_a]
  go_enter Try.func34, Try.ntmps34
  go_wp2_with fail
  refine hz.out.mono ?_
  rintro e w1 ⟨rfl, b1⟩
  have b1 : Hid (Below _ _ _) := b1
  go_wp2_with fail
  refine (hg.out _).mono ?_
  rintro e w2 ⟨rfl, b2⟩
  have b2 : Hid (Below w.heap.size w w2) := b1.out.trans (b2.mono b1.out.size)
  clear b1
  go_wp2
  go_ret
  exact ⟨rfl, b2.out⟩

end Go.Proofs.Ytgifhgnccmnbiaa

set_option linter.unusedVariables false
set_option linter.unusedSimpArgs false
namespace Go.Proofs.Ytgifhgnccmnbiaa

theorem flat_repl {a b s : Nat} {F : Nat → List Nat} (h : F s = F a ++ F b) : ∀ (n : Nat) (l : List Nat), l.length ≤ n → (replL a b s l).flatMap F = l.flatMap F
  | n, [], _ => by rw [replL_nil]
  | n, [x], _ => by rw [replL_one]
  | 0, x :: y :: r, hl => by simp at hl
  | n + 1, x :: y :: r, hl => by
    rw [replL_two]
    split
    · rename_i hc
      obtain ⟨rfl, rfl⟩ := hc
      rw [List.flatMap_cons, flat_repl h n r (by simp at hl; omega), h, List.flatMap_cons, List.flatMap_cons, List.append_assoc]
    · rw [List.flatMap_cons, flat_repl h n (y :: r) (by simp at hl ⊢; omega)]; simp only [List.flatMap_cons]
/-- What the rules stand for, one behind the other. -/
def gtx : List Cand → List (List Nat)
  | [] => []
  | p :: R => gtx R ++ [symT (gtx R) p.a ++ symT (gtx R) p.b]
def gTab (t : ByteArray) (q : Nat) : List (List Nat) := gtx (gst t q).1.reverse
theorem gTab_zero (t : ByteArray) : gTab t 0 = [] := rfl
theorem gTab_succ (t : ByteArray) (q : Nat) : gTab t (q + 1) = gTab t q ++ [symT (gTab t q) (bestL (gst t q).2).a ++ symT (gTab t q) (bestL (gst t q).2).b] := by
  show gtx ((gst t q).1 ++ [bestL (gst t q).2]).reverse = _
  rw [List.reverse_append]
  rfl
theorem gTab_len (t : ByteArray) : ∀ q, (gTab t q).length = q
  | 0 => rfl
  | q + 1 => by rw [gTab_succ, List.length_append, gTab_len t q]; rfl
theorem symT_more {T : List (List Nat)} {x : List Nat} {s : Nat} (h : s < 256 + T.length) : symT (T ++ [x]) s = symT T s := by
  unfold symT
  by_cases h1 : s < 256
  · rw [if_pos h1, if_pos h1]
  · rw [if_neg h1, if_neg h1]
    simp only [List.getD]
    rw [List.getElem?_append_left (by omega)]
theorem symT_last {T : List (List Nat)} {x : List Nat} : symT (T ++ [x]) (256 + T.length) = x := by
  unfold symT
  rw [if_neg (by omega)]
  simp [List.getD]
/-- However many rules are made, the symbols stand for the text. -/
theorem flat_gst (t : ByteArray) : ∀ q, (gst t q).2.flatMap (symT (gTab t q)) = bytesN t
  | 0 => by
    show (bytesN t).flatMap (symT []) = bytesN t
    have h : ∀ l : List Nat, (∀ c, c ∈ l → c < 256) → l.flatMap (symT []) = l := by
      intro l
      induction l with
      | nil => intro _; rfl
      | cons x l ih =>
        intro hb
        rw [List.flatMap_cons, ih (fun c hc => hb c (List.mem_cons_of_mem _ hc))]
        have : symT [] x = [x] := by unfold symT; rw [if_pos (hb x (by simp))]
        rw [this]; rfl
    exact h _ (bytesN_lt t)
  | q + 1 => by
    have hi := gst_inv t q
    have hb := bestL_lt hi.sb (by omega)
    have hn := gTab_len t q
    rw [← flat_gst t q]
    show (replL (bestL (gst t q).2).a (bestL (gst t q).2).b (256 + (gst t q).1.length) (gst t q).2).flatMap (symT (gTab t (q + 1))) = _
    rw [hi.rl, gTab_succ]
    have hF : symT (gTab t q ++ [symT (gTab t q) (bestL (gst t q).2).a ++ symT (gTab t q) (bestL (gst t q).2).b]) (256 + q) = symT (gTab t q ++ [symT (gTab t q) (bestL (gst t q).2).a ++ symT (gTab t q) (bestL (gst t q).2).b]) (bestL (gst t q).2).a ++ symT (gTab t q ++ [symT (gTab t q) (bestL (gst t q).2).a ++ symT (gTab t q) (bestL (gst t q).2).b]) (bestL (gst t q).2).b := by
      have ea := symT_more (T := gTab t q) (x := symT (gTab t q) (bestL (gst t q).2).a ++ symT (gTab t q) (bestL (gst t q).2).b) (s := (bestL (gst t q).2).a) (by rw [hn]; exact hb.1)
      have eb := symT_more (T := gTab t q) (x := symT (gTab t q) (bestL (gst t q).2).a ++ symT (gTab t q) (bestL (gst t q).2).b) (s := (bestL (gst t q).2).b) (by rw [hn]; exact hb.2)
      rw [ea, eb]
      have := symT_last (T := gTab t q) (x := symT (gTab t q) (bestL (gst t q).2).a ++ symT (gTab t q) (bestL (gst t q).2).b)
      rwa [hn] at this
    rw [flat_repl hF _ _ (Nat.le_refl _)]
    have hm : ∀ l : List Nat, (∀ c, c ∈ l → c < 256 + q) → l.flatMap (symT (gTab t q ++ [symT (gTab t q) (bestL (gst t q).2).a ++ symT (gTab t q) (bestL (gst t q).2).b])) = l.flatMap (symT (gTab t q)) := by
      intro l
      induction l with
      | nil => intro _; rfl
      | cons x l ih =>
        intro h
        rw [List.flatMap_cons, List.flatMap_cons, ih (fun c hc => h c (List.mem_cons_of_mem _ hc)), symT_more (by rw [hn]; exact h x (by simp))]
    exact hm _ hi.sb

end Go.Proofs.Ytgifhgnccmnbiaa

set_option linter.unusedVariables false
set_option linter.unusedSimpArgs false
namespace Go.Proofs.Ytgifhgnccmnbiaa
open Go.RowKit Go.IntWalk

/-- Of x the bytes from one place to another; places outside of it are cut short. -/
def cutI (x : List Nat) (fr to_ : Int) : List Nat := (x.take to_.toNat).drop fr.toNat
theorem cutI_none {x : List Nat} {fr to_ : Int} (h : to_ ≤ fr ∨ to_ ≤ 0 ∨ (x.length : Int) ≤ fr) : cutI x fr to_ = [] := by
  unfold cutI
  apply List.drop_eq_nil_of_le
  rw [List.length_take]
  omega
theorem cutI_one {c : Nat} {fr to_ : Int} (h1 : fr ≤ 0) (h2 : 0 < to_) : cutI [c] fr to_ = [c] := by
  unfold cutI
  obtain ⟨k, hk⟩ : ∃ k, to_.toNat = k + 1 := ⟨to_.toNat - 1, by omega⟩
  rw [hk, show fr.toNat = 0 by omega]
  simp
theorem cutI_len (x : List Nat) (fr to_ : Int) : (cutI x fr to_).length ≤ x.length := by
  unfold cutI
  rw [List.length_drop, List.length_take]; omega
theorem cutI_app (x y : List Nat) (fr to_ : Int) : cutI (x ++ y) fr to_ = cutI x fr to_ ++ cutI y (fr - x.length) (to_ - x.length) := by
  unfold cutI
  rw [List.take_append, List.drop_append, List.length_take]
  congr 1
  by_cases h : x.length ≤ to_.toNat
  · rw [Nat.min_eq_right h, show (to_ - (x.length : Int)).toNat = to_.toNat - x.length by omega, show (fr - (x.length : Int)).toNat = fr.toNat - x.length by omega]
  · rw [show to_.toNat - x.length = 0 by omega, show (to_ - (x.length : Int)).toNat = 0 by omega]
    simp
theorem cutI_clamp {x : List Nat} {fr to_ F D : Int} (h1 : fr < 0 → F = 0) (h2 : 0 ≤ fr → F = fr) (h3 : (x.length : Int) < to_ → D = (x.length : Int)) (h4 : to_ ≤ (x.length : Int) → D = to_) : cutI x fr to_ = cutI x F D := by
  unfold cutI
  have e1 : fr.toNat = F.toNat := by
    by_cases h : fr < 0
    · have := h1 h; omega
    · have := h2 (by omega); omega
  rw [e1]
  by_cases h : (x.length : Int) < to_
  · have := h3 h
    rw [List.take_of_length_le (by omega), List.take_of_length_le (by omega)]
  · have := h4 (by omega)
    rw [this]

/-- The document's rules stand for these texts. -/
structure RSound (rl : List Nat) (ps : List PI) (T : List (List Nat)) : Prop where
  len : rl.length = 2 * T.length
  ps : ps = T.map piOf
  rule : ∀ i, i < T.length → rl.getD (2 * i) 0 < 256 + i ∧ rl.getD (2 * i + 1) 0 < 256 + i ∧ T.getD i [] = symT T (rl.getD (2 * i) 0) ++ symT T (rl.getD (2 * i + 1) 0)
/-- A file in memory, only read. -/
structure GRd (w : World) (b : Nat) (kv nv : Value) (rl top : List Nat) (ps : List PI) (rv tv pv : Value) : Prop where
  blk : Blk w b #[kv, nv, rv, tv, pv] 95
  rules : w.ownsRow 0 3 1 rv rl.length (symCells rl)
  top : w.ownsRow 0 3 1 tv top.length (symCells top)
  pieces : w.ownsRow 0 91 6 pv ps.length (piCells ps)
theorem row_same {w w' : World} {base e z k : Nat} {v : Value} {xs : List Value} (h : w.ownsRow base e z v k xs) (he : e ≠ 5) (hs : ∀ k cs e, e ≠ 5 → Blk w k cs e → Blk w' k cs e) : w'.ownsRow base e z v k xs := by
  refine ⟨h.1, ?_⟩
  rcases h.2 with h1 | ⟨g, cap, cur, h1, h2, h3, h4⟩
  · exact Or.inl h1
  · exact Or.inr ⟨g, cap, cur, h1, h2, hs g cur e he h3, h4⟩
section
variable {w w' : World} {b : Nat} {kv nv rv tv pv : Value} {rl top : List Nat} {ps : List PI}
theorem GRd.same (h : GRd w b kv nv rl top ps rv tv pv) (hs : ∀ k cs e, e ≠ 5 → Blk w k cs e → Blk w' k cs e) : GRd w' b kv nv rl top ps rv tv pv :=
  ⟨hs _ _ _ (by decide) h.blk, row_same h.rules (by decide) hs, row_same h.top (by decide) hs, row_same h.pieces (by decide) hs⟩
theorem GRd.kept (h : GRd w b kv nv rl top ps rv tv pv) (k : Kept [] w w') : GRd w' b kv nv rl top ps rv tv pv :=
  h.same fun _ _ _ _ hb => hb.kept k (by simp)
end

/-- What cutting leaves. -/
structure RcOut (w w' : World) (base : Nat) (v : Value) (out : List Nat) : Prop where
  below : Below base w w'
  stay : ∀ k cs e, e ≠ 5 → Blk w k cs e → Blk w' k cs e
  row : w'.ownsRow base 5 1 v out.length (byteCells out)

set_option maxHeartbeats 4000000 in
set_option maxRecDepth 100000 in
theorem rcut_any {T : List (List Nat)} {rl : List Nat} {ps : List PI} (hS : RSound rl ps T) (hT : T.length ≤ 1000) {b : Nat} {kv nv rv tv pv : Value} {top : List Nat} (base : Nat) :
    ∀ (k s : Nat), s < k → s < 256 + T.length → (symT T s).length ≤ 1099511627776 → ∀ (fr to_ : Int) (v : Value) (out : List Nat) (w : World), -1099511627776 ≤ fr → fr ≤ 1099511627776 → -1099511627776 ≤ to_ → to_ ≤ 1099511627776 →
      GRd w b kv nv rl top ps rv tv pv → w.ownsRow base 5 1 v out.length (byteCells out) → base ≤ w.heap.size → out.length + (symT T s).length ≤ 2199023255552 →
      Calls Try.prog 80 #[.pointer (some ⟨b, 0, none⟩), v, .int .i64 (s : Int), .int .i64 fr, .int .i64 to_] w fun e w' => ∃ v', e = .returned v' ∧ RcOut w w' base v' (out ++ cutI (symT T s) fr to_) := by
  intro k
  induction k with
  | zero => intro s hs; omega
  | succ k ih =>
    intro s hs hs2 hL fr to_ v out w hf1 hf2 ht1 ht2 hG hrow hbase hbig
    have hps : ps.length = T.length := by rw [hS.ps, List.length_map]
    have hsz : Hid (∀ w', Kept [] w w' → ∀ z : Nat, z < 256 + ps.length → Calls Try.prog 77 #[.pointer (some ⟨b, 0, none⟩), .int .i64 (z : Int)] w' fun e w2 => e = .returned (sizeP ps z).val ∧ Kept [] w' w2) := fun w' kk z hz => psize_any (hG.kept kk).blk (hG.kept kk).pieces z hz (by omega)
    have hsp : sizeP ps s = piOf (symT T s) := by rw [hS.ps]; exact size_tx hs2
    have hs1 : Hid (Calls _ _ _ w _) := hsz.out w (Kept.refl _ _) s (by omega)
    rw [hsp] at hs1
    have hlong : (piOf (symT T s)).long = (symT T s).length := capL_of (by omega)
    obtain ⟨L, hLH⟩ : ∃ L, Hid (L = (symT T s).length) := ⟨_, rfl⟩
    rw [← hLH.out] at hlong hL hbig
    generalize piOf (symT T s) = pi at *
    obtain ⟨p1, p2, p3⟩ := pi
    simp only [] at hlong
    subst hlong
    unfold PI.val PI.arr at hs1
    simp only [] at hs1
    obtain ⟨va, vk, vc, rfl⟩ := own_shape hrow
    obtain ⟨F, F0, hF1, hF2⟩ : ∃ F : Int, 0 ≤ F ∧ (fr < 0 → F = 0) ∧ (0 ≤ fr → F = fr) := by
      by_cases h : fr < 0
      · exact ⟨0, by omega, fun _ => rfl, fun h2 => by omega⟩
      · exact ⟨fr, by omega, fun h2 => by omega, fun _ => rfl⟩
    obtain ⟨D, D0, hD1, hD2⟩ : ∃ D : Int, D ≤ (p1 : Int) ∧ ((p1 : Int) < to_ → D = (p1 : Int)) ∧ (to_ ≤ (p1 : Int) → D = to_) := by
      by_cases h : (p1 : Int) < to_
      · exact ⟨p1, by omega, fun _ => rfl, fun h2 => by omega⟩
      · exact ⟨to_, by omega, fun h2 => by omega, fun _ => rfl⟩
    have hcl : Hid (cutI (symT T s) fr to_ = cutI (symT T s) F D) := cutI_clamp hF1 hF2 (by rw [← hLH.out]; exact hD1) (by rw [← hLH.out]; exact hD2)
    have hGH : Hid (GRd _ _ _ _ _ _ _ _ _ _) := hG
    have hrowH : Hid (World.ownsRow _ _ _ _ _ _ _) := hrow
    clear hG hrow hsp
    go_enter Try.func80, Try.ntmps80
    go_wp2_with fail
    refine hs1.out.mono ?_
    rintro _ w1 ⟨rfl, k1⟩
    have K1 : Hid (Kept [] w (w1.alloc (.cells #[.int .i64 (p1 : Int), .int .i64 (p2 : Int), .int .i64 (p3 : Int), .slice none 0 0, .slice none 0 0, .int .i64 0] 91))) := k1.alloc _
    have hP : Hid (Blk (w1.alloc (.cells #[.int .i64 (p1 : Int), .int .i64 (p2 : Int), .int .i64 (p3 : Int), .slice none 0 0, .slice none 0 0, .int .i64 0] 91)) w1.heap.size #[.int .i64 (p1 : Int), .int .i64 (p2 : Int), .int .i64 (p3 : Int), .slice none 0 0, .slice none 0 0, .int .i64 0] 91) := Blk.new w1 _ _
    clear k1 hs1
    go_upto_if 19 with fail
    go_cut [3] (fun s3 wx => s3 = .int .i64 F ∧ wx = (w1.alloc (.cells #[.int .i64 (p1 : Int), .int .i64 (p2 : Int), .int .i64 (p3 : Int), .slice none 0 0, .slice none 0 0, .int .i64 0] 91)))
    case first =>
      by_cases h : fr < 0
      · have e := hF1 h
        go_wp2
        go_meet
        exact ⟨by rw [e], rfl⟩
      · have e := hF2 (by omega)
        go_wp2
        go_meet
        exact ⟨by rw [e], rfl⟩
    case rest =>
      obtain ⟨rfl, rfl⟩ := hcut
      go_upto_if 23 with fail
      go_cut [4] (fun s4 wx => s4 = .int .i64 D ∧ wx = (w1.alloc (.cells #[.int .i64 (p1 : Int), .int .i64 (p2 : Int), .int .i64 (p3 : Int), .slice none 0 0, .slice none 0 0, .int .i64 0] 91)))
      case first =>
        by_cases h : (p1 : Int) < to_
        · have e := hD1 h
          go_wp2
          go_meet
          exact ⟨by rw [e], rfl⟩
        · have e := hD2 (by omega)
          go_wp2
          go_meet
          exact ⟨by rw [e], rfl⟩
      case rest =>
        obtain ⟨rfl, hwx⟩ := hcut
        have hDlow : -1099511627776 ≤ D := by
          by_cases h : (p1 : Int) < to_
          · have := hD1 h; omega
          · have := hD2 (by omega); omega
        clear hF1 hF2 hD1 hD2
        subst hwx
        by_cases hFD : D ≤ F
        · have hfin : Hid (RcOut w (w1.alloc (.cells #[.int .i64 (p1 : Int), .int .i64 (p2 : Int), .int .i64 (p3 : Int), .slice none 0 0, .slice none 0 0, .int .i64 0] 91)) base (.slice va vk vc) (out ++ cutI (symT T s) fr to_)) :=
            ⟨K1.out.below hbase (by simp), fun _ _ _ _ hb => hb.kept K1.out (by simp), by
              rw [hcl.out, cutI_none (Or.inl hFD), List.append_nil]
              exact row_stay (S := []) hrowH.out K1.out (fun _ _ => by simp)⟩
          clear ih
          go_wp2
          go_ret
          exact ⟨_, rfl, hfin.out⟩
        · have hFD' : F < D := by omega
          clear hFD
          by_cases h3 : (s : Int) < 256
          · have hx : symT T s = [s] := by unfold symT; rw [if_pos (by omega)]
            have hp1 : p1 = 1 := by rw [hLH.out, hx]; rfl
            subst hp1
            have eF : F = 0 := by omega
            have eD : D = 1 := by omega
            obtain ⟨i0, hi0, hz0, hz1, hz2⟩ := info_parts infoU8
            have hcc : Hid (cutI (symT T s) fr to_ = [s]) := by show cutI (symT T s) fr to_ = [s]; rw [hcl.out, hx, cutI_one (by omega) (by omega)]
            have own : (w1.alloc (.cells #[.int .i64 ((1 : Nat) : Int), .int .i64 (p2 : Int), .int .i64 (p3 : Int), .slice none 0 0, .slice none 0 0, .int .i64 0] 91)).ownsRow base 5 1 (.slice va vk vc) out.length (byteCells out) := row_stay (S := []) hrowH.out K1.out (fun _ _ => by simp)
            have hsz0 := K1.out.size
            have hKK : Hid (∀ o, Kept [] w ((w1.alloc (.cells #[.int .i64 ((1 : Nat) : Int), .int .i64 (p2 : Int), .int .i64 (p3 : Int), .slice none 0 0, .slice none 0 0, .int .i64 0] 91)).alloc o)) := fun o => K1.out.alloc o
            have hro : Hid (∀ o, ((w1.alloc (.cells #[.int .i64 ((1 : Nat) : Int), .int .i64 (p2 : Int), .int .i64 (p3 : Int), .slice none 0 0, .slice none 0 0, .int .i64 0] 91)).alloc o).ownsRow base 5 1 (.slice va vk vc) out.length (byteCells out)) := fun o => row_stay (S := []) hrowH.out (hKK.out o) (fun _ _ => by simp)
            have mb : out.length + 1 ≤ maxLen := by unfold maxLen; omega
            have mc : (out.length + 1) * 1 ≤ 140737488355328 := by omega
            clear ih hx hcl own
            go_wp2_with (at_builtin; refine wpList_append_own _ rfl (.tmp 32) (.tmp 35) 98 rfl base 5 i0 _ 1 1 Try.underlying98 hi0 hz0 hz1 hz2 rfl (by decide) (.slice va vk vc) out.length (byteCells out) rfl ?own ⟨w1.heap.size + 1, 0, none⟩ 1 1 [.int .u8 (s : Int)] rfl rfl ?c1 ?c2 ?b1 ?b2 ?b3 ?kk)
            case own => exact hro.out _
            case c1 => exact cells_new _ _ _ _ (by simp)
            case c2 => simp [Value.oneCell']
            case b1 => exact mb
            case b2 => exact mc
            case b3 => simp at hsz0 ⊢; omega
            case kk =>
              intro v' w3 hown hgrow _
              obtain ⟨gv, cap, rfl⟩ := own_form hown (by omega)
              have hfin : Hid (RcOut w w3 base (.slice (some ⟨gv, 0, none⟩) (out.length + 1) cap) (out ++ cutI (symT T s) fr to_)) := by
                have hb := hKK.out (.cells #[.int .u8 (s : Int)] 5)
                have hr := hro.out (.cells #[.int .u8 (s : Int)] 5)
                have hne : ∀ k, k < base → some k ≠ (Value.slice va vk vc).ownBlock := fun k hk hc => by have := (hr.lt k hc.symm).1; omega
                refine ⟨(hb.below hbase (by simp)).trans ⟨hgrow.os, hgrow.tape, hgrow.output, hgrow.size, fun k hk => hgrow.block k (Nat.lt_of_lt_of_le (Nat.lt_of_lt_of_le hk hbase) hb.size) (hne k hk)⟩, fun k cs e he hk => ?_, ?_⟩
                · have hk2 := hk.kept hb (by simp)
                  exact (hgrow.block k hk2.lt (fun hc => he (own_type hr hk2 hc.symm))).trans hk2
                · rw [hcc.out, byteCells_app, List.length_append]
                  exact hown
              clear hown hgrow
              go_wp2
              go_ret
              exact ⟨_, rfl, hfin.out⟩
          · obtain ⟨i, rfl⟩ : ∃ i, s = i + 256 := ⟨s - 256, by omega⟩
            clear h3
            obtain ⟨u1, u2, u3⟩ := hS.rule i (by omega)
            obtain ⟨ra, hra⟩ : ∃ ra, ra = rl.getD (2 * i) 0 := ⟨_, rfl⟩
            obtain ⟨rb, hrb⟩ : ∃ rb, rb = rl.getD (2 * i + 1) 0 := ⟨_, rfl⟩
            have hrl := hS.len
            have hxx : symT T (i + 256) = symT T ra ++ symT T rb := by
              rw [hra, hrb, ← u3]
              unfold symT
              rw [if_neg (by omega), Nat.add_sub_cancel]
            rw [← hra] at u1
            rw [← hrb] at u2
            have hG2 := hGH.out.kept K1.out
            obtain ⟨g, cap, hv⟩ := own_form hG2.rules (by omega)
            have r0 : (w1.alloc (.cells #[.int .i64 (p1 : Int), .int .i64 (p2 : Int), .int .i64 (p3 : Int), .slice none 0 0, .slice none 0 0, .int .i64 0] 91)).cell? ⟨g, 2 * i, none⟩ = some (.int .i64 (ra : Int)) := by
              have := hG2.rules.cells (g := g) (by rw [hv]; rfl) (2 * i) _ (symCells_get rl (2 * i) (by omega))
              rw [ptr_add] at this
              rw [this, hra]
            have r1 : (w1.alloc (.cells #[.int .i64 (p1 : Int), .int .i64 (p2 : Int), .int .i64 (p3 : Int), .slice none 0 0, .slice none 0 0, .int .i64 0] 91)).cell? ⟨g, 2 * i + 1, none⟩ = some (.int .i64 (rb : Int)) := by
              have := hG2.rules.cells (g := g) (by rw [hv]; rfl) (2 * i + 1) _ (symCells_get rl (2 * i + 1) (by omega))
              rw [ptr_add] at this
              rw [this, hrb]
            have cR : (w1.alloc (.cells #[.int .i64 (p1 : Int), .int .i64 (p2 : Int), .int .i64 (p3 : Int), .slice none 0 0, .slice none 0 0, .int .i64 0] 91)).cell? ⟨b, 2, none⟩ = some rv := hG2.blk.cell 2
            have hle : (symT T ra).length + (symT T rb).length = p1 := by rw [hLH.out, hxx, List.length_append]
            have hsa : Hid (∀ w', Kept [] w w' → Calls Try.prog 77 #[.pointer (some ⟨b, 0, none⟩), .int .i64 (ra : Int)] w' fun e w2 => e = .returned (sizeP ps ra).val ∧ Kept [] w' w2) := fun w' kk => hsz.out w' kk ra (by omega)
            have hspa : sizeP ps ra = piOf (symT T ra) := by rw [hS.ps]; exact size_tx (by omega)
            rw [hspa] at hsa
            have hq1 : (piOf (symT T ra)).long = (symT T ra).length := capL_of (by omega)
            have hA : Hid (∀ w', Kept [] w w' → Calls Try.prog 80 #[.pointer (some ⟨b, 0, none⟩), .slice va vk vc, .int .i64 (ra : Int), .int .i64 F, .int .i64 D] w' fun e w2 => ∃ v', e = .returned v' ∧ RcOut w' w2 base v' (out ++ cutI (symT T ra) F D)) := fun w' kk => ih ra (by omega) (by omega) (by omega) F D _ out w' (by omega) (by omega) (by omega) (by omega) (hGH.out.kept kk) (row_stay (S := []) hrowH.out kk (fun _ _ => by simp)) (Nat.le_trans hbase kk.size) (by omega)
            have hB : Hid (∀ w2 w3 v3, Kept [] w w2 → RcOut w2 w3 base v3 (out ++ cutI (symT T ra) F D) → Calls Try.prog 80 #[.pointer (some ⟨b, 0, none⟩), v3, .int .i64 (rb : Int), .int .i64 (F - ((symT T ra).length : Int)), .int .i64 (D - ((symT T ra).length : Int))] w3 fun e w' => ∃ v', e = .returned v' ∧ RcOut w w' base v' (out ++ cutI (symT T (i + 256)) fr to_)) := fun w2 w3 v3 kk o => by
              have hl := cutI_len (symT T ra) F D
              refine (ih rb (by omega) (by omega) (by omega) _ _ v3 _ w3 (by omega) (by omega) (by omega) (by omega) ((hGH.out.kept kk).same o.stay) o.row (Nat.le_trans hbase (Nat.le_trans kk.size o.below.size)) (by rw [List.length_append]; omega)).mono ?_
              rintro e w' ⟨v', he, o2⟩
              refine ⟨v', he, ((kk.below hbase (by simp)).trans o.below).trans o2.below, fun k cs e he hk => o2.stay k cs e he (o.stay k cs e he (hk.kept kk (by simp))), ?_⟩
              rw [hcl.out, hxx, cutI_app, ← List.append_assoc]
              exact o2.row
            clear ih hsz hspa hG2 u1 u2 u3 hra hrb hS hcl hps
            subst hv
            have hlA : (symT T ra).length ≤ p1 := by omega
            generalize symT T ra = A at *
            generalize symT T rb = Bx at *
            generalize piOf A = pj at *
            obtain ⟨q1, q2, q3⟩ := pj
            simp only [] at hq1
            unfold PI.val PI.arr at hsa
            simp only [] at hsa
            rw [← hq1] at hB hlA
            have hrl2 : (2 * i : Int) + 1 < (rl.length : Int) := by omega
            generalize rl.length = RL at *
            clear hle hxx hLH hq1 hrl
            go_wp2_with (first
              | (go_at_call 77
                 refine (hsa.out _ K1.out).mono ?_
                 rintro _ w2 ⟨rfl, k2⟩
                 have K2 := (K1.out.trans k2).alloc (.cells #[.int .i64 (q1 : Int), .int .i64 (q2 : Int), .int .i64 (q3 : Int), .slice none 0 0, .slice none 0 0, .int .i64 0] 91))
              | (go_at_call_of 80 (Value.int IntKind.i64 (ra : Int))
                 refine (hA.out _ K2).mono ?_
                 rintro _ w3 ⟨v3, rfl, o3⟩
                 obtain ⟨oa, ok, oc, rfl⟩ := own_shape o3.row
                 have o3H : Hid (RcOut _ _ _ _ _) := o3
                 have e1 : w3.cell? ⟨w2.heap.size, 0, none⟩ = some (.int .i64 (q1 : Int)) := (o3.stay _ _ _ (by decide) (Blk.new w2 _ _)).cell 0)
              | (go_at_call_of 80 (Value.int IntKind.i64 (rb : Int))
                 refine (hB.out _ _ _ K2 o3H.out).mono ?_
                 rintro _ w4 ⟨v4, rfl, o4⟩
                 obtain ⟨pa, pk, pc, rfl⟩ := own_shape o4.row))
            go_ret
            exact ⟨_, rfl, o4⟩

end Go.Proofs.Ytgifhgnccmnbiaa

set_option linter.unusedVariables false
set_option linter.unusedSimpArgs false
namespace Go.Proofs.Ytgifhgnccmnbiaa
open Go.RowKit Go.IntWalk

/-- What the loop over the symbols keeps. -/
structure BytesLoop (w0 w : World) (b : Nat) (kv nv : Value) (rl top : List Nat) (ps : List PI) (rv tv pv : Value) (T : List (List Nat)) (fr dst q : Nat) (v : Value) : Prop where
  g : GRd w b kv nv rl top ps rv tv pv
  out : RcOut w0 w w0.heap.size v (cutI ((top.take q).flatMap (symT T)) (fr : Int) (dst : Int))

set_option maxHeartbeats 4000000 in
set_option maxRecDepth 100000 in
theorem rbytes_any {T : List (List Nat)} {rl top : List Nat} {ps : List PI} (hS : RSound rl ps T) (hT : T.length ≤ 1000) (hst : ∀ s, s ∈ top → s < 256 + T.length) (hX : (top.flatMap (symT T)).length ≤ 1099511627776) (hN : top.length ≤ 100000000) (hby : ∀ c, c ∈ top.flatMap (symT T) → c < 256)
    {b : Nat} {kv nv rv tv pv : Value} {fr dst : Nat} (hfd : fr ≤ dst) (hd : dst ≤ 1099511627776) (w : World) (hG : GRd w b kv nv rl top ps rv tv pv) :
    Calls Try.prog 53 #[.pointer (some ⟨b, 0, none⟩), .int .i64 (fr : Int), .int .i64 (dst : Int)] w fun e w' => e = .returned (.string (bytesB (cutI (top.flatMap (symT T)) (fr : Int) (dst : Int)))) ∧ Below w.heap.size w w' := by
  have h0 : Hid (BytesLoop w w b kv nv rl top ps rv tv pv T fr dst 0 (.slice none 0 0)) := ⟨hG, ⟨Below.refl _ _, fun _ _ _ _ h => h, by
    have e1 : cutI ((top.take 0).flatMap (symT T)) (fr : Int) (dst : Int) = [] := by rw [List.take_zero, List.flatMap_nil]; exact cutI_none (Or.inr (Or.inr (by simp)))
    rw [e1]
    exact World.ownsRow_nil _ _ _ _⟩⟩
  have hz0 : Hid ((((top.take 0).flatMap (symT T)).length : Nat) = 0) := by show _ = 0; rw [List.take_zero]; rfl
  clear hG
  go_enter Try.func53, Try.ntmps53
  go_wp2_with fail
  go_loopw [7, 8, 9] (fun ov av iv wr => ∃ (q : Nat) (xa : Option Addr) (xk xc : Nat), ov = .slice xa xk xc ∧ av = .int .i64 ((((top.take q).flatMap (symT T)).length : Nat) : Int) ∧ iv = .int .i64 (q : Int) ∧ q ≤ top.length ∧ BytesLoop w wr b kv nv rl top ps rv tv pv T fr dst q (.slice xa xk xc)) (fun _ _ iv _ => ((top.length : Int) - intOf iv).toNat)
  case atStart => exact ⟨0, none, 0, 0, rfl, by rw [hz0.out]; rfl, rfl, Nat.zero_le _, h0.out⟩
  case round =>
    obtain ⟨q, xa, xk, xc, rfl, rfl, rfl, hq, hI⟩ := hrel
    clear h0 hz0
    obtain ⟨hG, hO⟩ := hI
    have hXq : Hid (∀ q, ((top.take q).flatMap (symT T)) ++ ((top.drop q).flatMap (symT T)) = top.flatMap (symT T)) := fun q => by rw [← List.flatMap_append, List.take_append_drop]
    have hPX : ((top.take q).flatMap (symT T)).length ≤ (top.flatMap (symT T)).length := by rw [← hXq.out q, List.length_append]; omega
    have hend : Hid (dst ≤ ((top.take q).flatMap (symT T)).length ∨ q = top.length → cutI ((top.take q).flatMap (symT T)) (fr : Int) (dst : Int) = cutI (top.flatMap (symT T)) (fr : Int) (dst : Int)) := fun h => by
      rcases h with h | h
      · rw [← hXq.out q, cutI_app, cutI_none (x := (top.drop q).flatMap (symT T)) (Or.inr (Or.inl (by omega))), List.append_nil]
      · rw [h, List.take_length]
    have hbq : Hid (∀ c, c ∈ cutI ((top.take q).flatMap (symT T)) (fr : Int) (dst : Int) → c < 256) := fun c hc => hby c (by
      rw [← hXq.out q]; exact List.mem_append_left _ (List.mem_of_mem_take (List.mem_of_mem_drop hc)))
    have hconv : (convert 98 9 (.slice xa xk xc)).run Try.prog wr = .ok (.string (bytesB (cutI ((top.take q).flatMap (symT T)) (fr : Int) (dst : Int)))) wr := conv_out hO.row hbq.out
    obtain ⟨sa, sk, sc, hsv⟩ := own_shape hG.top
    have c3 : wr.cell? ⟨b, 3, none⟩ = some tv := hG.blk.cell 3
    have hGH : Hid (GRd _ _ _ _ _ _ _ _ _ _) := hG
    have hOH : Hid (RcOut _ _ _ _ _) := hO
    have hcl : sk = top.length := by
      rcases hG.top.2 with ⟨h1, h2⟩ | ⟨g, cap, _, h1, _⟩
      · rw [hsv] at h1; simp at h1; omega
      · rw [hsv] at h1; simp at h1; omega
    by_cases hlt : (q : Int) < (top.length : Int)
    · by_cases hpd : ((((top.take q).flatMap (symT T)).length : Nat) : Int) < (dst : Int)
      · obtain ⟨s, hs⟩ : ∃ s, top[q]? = some s := ⟨_, List.getElem?_eq_getElem (by omega)⟩
        obtain ⟨g, cap, hv⟩ := own_form hG.top (by omega)
        have hcell : ∀ w', Kept [] wr w' ∨ RcOut wr w' w.heap.size (.slice none 0 0) [] → True := fun _ _ => trivial
        have hcs : (symCells top)[q]? = some (.int .i64 (s : Int)) := by unfold symCells; rw [List.getElem?_map, hs]; rfl
        have c1 : wr.cell? ⟨g, q, none⟩ = some (.int .i64 (s : Int)) := by
          have := hG.top.cells (g := g) (by rw [hv]; rfl) q _ hcs
          rwa [ptr_add] at this
        have hm : s ∈ top := List.mem_of_getElem? hs
        have hsl := mem_flat (T := T) hm
        have hps : ps.length = T.length := by rw [hS.ps, List.length_map]
        have hol := cutI_len ((top.take q).flatMap (symT T)) (fr : Int) (dst : Int)
        have hcut : Hid (Calls Try.prog 80 #[.pointer (some ⟨b, 0, none⟩), .slice xa xk xc, .int .i64 (s : Int), .int .i64 ((fr : Int) - ((((top.take q).flatMap (symT T)).length : Nat) : Int)), .int .i64 ((dst : Int) - ((((top.take q).flatMap (symT T)).length : Nat) : Int))] wr _) :=
          rcut_any hS hT w.heap.size (s + 1) s (by omega) (hst s hm) (by omega) ((fr : Int) - ((((top.take q).flatMap (symT T)).length : Nat) : Int)) ((dst : Int) - ((((top.take q).flatMap (symT T)).length : Nat) : Int)) _ _ wr (by omega) (by omega) (by omega) (by omega) hG hO.row hO.below.size (by omega)
        have hsp : sizeP ps s = piOf (symT T s) := by rw [hS.ps]; exact size_tx (hst s hm)
        have hlong : (piOf (symT T s)).long = (symT T s).length := capL_of (by omega)
        have hsz : Hid (∀ w' v' o, RcOut wr w' w.heap.size v' o → Calls Try.prog 77 #[.pointer (some ⟨b, 0, none⟩), .int .i64 (s : Int)] w' fun e w2 => e = .returned (sizeP ps s).val ∧ Kept [] w' w2) := fun w' v' o h => psize_any (hGH.out.same h.stay).blk (hGH.out.same h.stay).pieces s (by have := hst s hm; omega) (by omega)
        rw [hsp] at hsz
        have hcell2 : Hid (∀ w' v' o, RcOut wr w' w.heap.size v' o → w'.cell? ⟨g, q, none⟩ = some (.int .i64 (s : Int)) ∧ w'.cell? ⟨b, 3, none⟩ = some tv) := fun w' v' o h => ⟨by
          have := (hGH.out.same h.stay).top.cells (g := g) (by rw [hv]; rfl) q _ hcs
          rwa [ptr_add] at this, (hGH.out.same h.stay).blk.cell 3⟩
        have hnext : Hid (∀ w2 w3 v', RcOut wr w2 w.heap.size v' (cutI ((top.take q).flatMap (symT T)) (fr : Int) (dst : Int) ++ cutI (symT T s) ((fr : Int) - ((((top.take q).flatMap (symT T)).length : Nat) : Int)) ((dst : Int) - ((((top.take q).flatMap (symT T)).length : Nat) : Int))) → Kept [] w2 w3 → BytesLoop w w3 b kv nv rl top ps rv tv pv T fr dst (q + 1) v') := fun w2 w3 v' o k => by
          have e : (top.take (q + 1)).flatMap (symT T) = (top.take q).flatMap (symT T) ++ symT T s := by
            rw [List.take_add_one, hs, List.flatMap_append]; simp
          refine ⟨(hGH.out.same o.stay).kept k, ⟨(hOH.out.below.trans o.below).trans (k.below (Nat.le_trans hOH.out.below.size o.below.size) (by simp)), fun k' cs e' he hk => (o.stay k' cs e' he (hOH.out.stay k' cs e' he hk)).kept k (by simp), ?_⟩⟩
          rw [e, cutI_app]
          exact row_stay (S := []) o.row k (fun _ _ => by simp)
        have hat : Hid ((((top.take (q + 1)).flatMap (symT T)).length : Nat) = ((top.take q).flatMap (symT T)).length + (symT T s).length) := by
          show _ = _
          rw [List.take_add_one, hs, List.flatMap_append]; simp
        rw [← hlong] at hat hsl
        subst hv
        clear hsv hcl hG hO hS hst hs hm hend hbq hconv hcell hcs hsp hlong hps hol hby hT
        generalize cutI ((top.take q).flatMap (symT T)) (fr : Int) (dst : Int) ++ cutI (symT T s) ((fr : Int) - ((((top.take q).flatMap (symT T)).length : Nat) : Int)) ((dst : Int) - ((((top.take q).flatMap (symT T)).length : Nat) : Int)) = O2 at *
        generalize piOf (symT T s) = pi at *
        obtain ⟨p1, p2, p3⟩ := pi
        simp only [] at hat hsl
        unfold PI.val PI.arr at hsz
        simp only [] at hsz
        generalize ((top.take q).flatMap (symT T)).length = P at *
        go_wp2_with (first
          | (go_at_call 80
             refine hcut.out.mono ?_
             rintro _ w2 ⟨v2, rfl, o2⟩
             obtain ⟨oa, ok, oc, rfl⟩ := own_shape o2.row
             obtain ⟨d1, d3⟩ := hcell2.out _ _ _ o2
             have o2H : Hid (RcOut _ _ _ _ _) := o2)
          | (go_at_call 77
             refine (hsz.out _ _ _ o2H.out).mono ?_
             rintro _ w3 ⟨rfl, k3⟩
             have hfin := hnext.out _ _ _ o2H.out (k3.alloc (.cells #[.int .i64 (p1 : Int), .int .i64 (p2 : Int), .int .i64 (p3 : Int), .slice none 0 0, .slice none 0 0, .int .i64 0] 91))
             have hfin : Hid (BytesLoop _ _ _ _ _ _ _ _ _ _ _ _ _ _ _ _) := hfin))
        refine ⟨⟨q + 1, oa, ok, oc, rfl, by rw [hat.out]; exact congrArg _ (by omega), by go_num, by omega, hfin.out⟩, ?_⟩
        simp only [intOf]; omega
      · have e := hend.out (Or.inl (by omega))
        rw [e] at hconv
        subst hsv hcl
        clear hG hO hS hst hend hby e hbq hT
        generalize ((((top.take q).flatMap (symT T)).length : Nat) : Int) = P at *
        obtain ⟨R, hR⟩ : ∃ R, Hid (bytesB (cutI (top.flatMap (symT T)) (fr : Int) (dst : Int)) = R) := ⟨_, rfl⟩
        rw [hR.out] at hconv
        generalize top.length = NN at *
        go_wp2
        go_ret
        exact ⟨by rw [hR.out]; rfl, hOH.out.below⟩
    · have e := hend.out (Or.inr (by omega))
      rw [e] at hconv
      subst hsv hcl
      clear hG hO hS hst hend hby e hbq hT
      generalize ((((top.take q).flatMap (symT T)).length : Nat) : Int) = P at *
      obtain ⟨R, hR⟩ : ∃ R, Hid (bytesB (cutI (top.flatMap (symT T)) (fr : Int) (dst : Int)) = R) := ⟨_, rfl⟩
      rw [hR.out] at hconv
      generalize top.length = NN at *
      go_wp2
      go_ret
      exact ⟨by rw [hR.out]; rfl, hOH.out.below⟩

end Go.Proofs.Ytgifhgnccmnbiaa
