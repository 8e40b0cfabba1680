/- Package packed: WriteRules; package sift: PackG: walked. -/
import Derived.Test.YtgifhgnccmnbiabGreatDoorG23
import Derived.Test.YtgifhgnccmnbiabGreatDoorG22
import Derived.Test.YtgifhgnccmnbiabGreatDoorG16
set_option linter.unusedVariables false
set_option linter.unusedSimpArgs false
namespace Go.Proofs.YtgifhgnccmnbiabGreatDoor
open Go.RowKit Go.IntWalk

def bestL (l : List Nat) : Cand := bestQ (candC l) (l.length - 1)
def gstep (s : List Cand × List Nat) : List Cand × List Nat := (s.1 ++ [bestL s.2], replL (bestL s.2).a (bestL s.2).b (256 + s.1.length) s.2)
def gst (t : ByteArray) : Nat → List Cand × List Nat
  | 0 => ([], bytesN t)
  | q + 1 => gstep (gst t q)
theorem bestL_lt {l : List Nat} {m : Nat} (h : ∀ c, c ∈ l → c < m) (hm : 0 < m) : (bestL l).a < m ∧ (bestL l).b < m := by
  unfold bestL
  obtain ⟨h1, _, _⟩ := bestQ_max (candC l) (l.length - 1)
  rcases h1 with e | ⟨i, hi, e⟩
  · rw [e]; exact ⟨hm, hm⟩
  · rw [e]
    unfold candC
    refine ⟨h _ ?_, h _ ?_⟩
    · have h3 : i < l.length := by omega
      simp [List.getD, h3]
    · have h3 : i + 1 < l.length := by omega
      simp [List.getD, h3]
structure GInv (t : ByteArray) (q : Nat) (s : List Cand × List Nat) : Prop where
  rl : s.1.length = q
  sl : s.2.length ≤ t.size
  sb : ∀ c, c ∈ s.2 → c < 256 + q
  rb : ∀ p, p ∈ s.1 → p.a < 256 + q ∧ p.b < 256 + q
theorem gst_inv (t : ByteArray) : ∀ q, GInv t q (gst t q)
  | 0 => ⟨rfl, by unfold gst; rw [bytesN_len]; exact Nat.le_refl _, fun c hc => bytesN_lt t c hc, fun p hp => by unfold gst at hp; simp at hp⟩
  | q + 1 => by
    have h := gst_inv t q
    have hb := bestL_lt h.sb (by omega)
    refine ⟨by show ((gst t q).1 ++ [_]).length = _; rw [List.length_append, h.rl]; rfl, Nat.le_trans (replL_len _ _ _ _ _ (Nat.le_refl _)) h.sl, fun c hc => ?_, fun p hp => ?_⟩
    · rcases replL_mem _ _ (Nat.le_refl _) c hc with e | e
      · rw [e, h.rl]; omega
      · have := h.sb c e; omega
    · have hp2 : p ∈ (gst t q).1 ++ [bestL (gst t q).2] := hp
      rcases List.mem_append.1 hp2 with e | e
      · have := h.rb p e; omega
      · have e2 : p = bestL (gst t q).2 := by simpa using e
        rw [e2]; omega
/-- So many rules are made, and no more. -/
structure GFin (t : ByteArray) (q : Nat) : Prop where
  le : q ≤ 100
  on : ∀ j, j < q → 2 ≤ (bestL (gst t j).2).n
  off : q = 100 ∨ (bestL (gst t q).2).n < 2
theorem GFin.one {t : ByteArray} {q q' : Nat} (h : GFin t q) (h' : GFin t q') : q = q' := by
  rcases Nat.lt_trichotomy q q' with hl | hl | hl
  · have := h'.on q hl
    have := h'.le
    rcases h.off with e | e <;> omega
  · exact hl
  · have := h.on q' hl
    have := h.le
    rcases h'.off with e | e <;> omega

theorem infoPair : (Tryz.prog.info? 138).map (fun i => (i.zero, i.size, i.bytes)) = some (some (.agg #[.int .i64 0, .int .i64 0, .int .i64 0]), 3, 24) := by kernel_rfl

theorem bytesN_at {t : ByteArray} {i : Nat} (h : i < t.size) : (bytesN t)[i]? = some t[i].toNat := by
  have h2 : i < t.data.toList.length := by simpa using h
  unfold bytesN
  rw [List.getElem?_map, List.getElem?_eq_getElem h2]
  simp
  rfl

structure WrI (w wr : World) (t : ByteArray) (q : Nat) (sv rv : Value) : Prop where
  k : Kept [] w wr
  srow : wr.ownsRow w.heap.size 3 1 sv (gst t q).2.length (symCells (gst t q).2)
  rrow : wr.ownsRow w.heap.size 138 3 rv (gst t q).1.length (pcs (gst t q).1)

theorem WrI.next {w wr w3 w4 w5 : World} {t : ByteArray} {q : Nat} {sv rv v1 v2 : Value} (h : WrI w wr t q sv rv) (k3 : Kept [] wr w3) (o : RepOut w3 w4 v1 (gst t (q + 1)).2) (ob : Obj) (hg : (w4.alloc ob).grownBy w5 rv.ownBlock)
    (hown : w5.ownsRow w.heap.size 138 3 v2 (q + 1) (pcs (gst t q).1 ++ [.int .i64 ((bestL (gst t q).2).a : Int), .int .i64 ((bestL (gst t q).2).b : Int), .int .i64 ((bestL (gst t q).2).n : Int)])) : WrI w w5 t (q + 1) v1 v2 := by
  have k4 := (k3.trans o.k).alloc ob
  have hr := row_stay (S := []) h.rrow k4 (fun _ _ => by simp)
  have hs := row_base (row_stay (S := []) o.row ((Kept.refl [] w4).alloc ob) (fun _ _ => by simp)) (Nat.le_trans h.k.size k3.size)
  have hin := (gst_inv t (q + 1)).rl
  refine ⟨grow_kept (h.k.trans k4) hr hg, World.ownsRow.kept hs hg (own_ne hs hr (by decide)), ?_⟩
  have e : pcs (gst t (q + 1)).1 = pcs (gst t q).1 ++ [.int .i64 ((bestL (gst t q).2).a : Int), .int .i64 ((bestL (gst t q).2).b : Int), .int .i64 ((bestL (gst t q).2).n : Int)] := by
    show pcs ((gst t q).1 ++ [bestL (gst t q).2]) = _
    unfold pcs
    rw [List.flatMap_append]; rfl
  rw [hin, e]
  exact hown

def lenS : Value → Nat
  | .slice _ k _ => k
  | _ => 0

set_option maxHeartbeats 4000000 in
set_option maxRecDepth 100000 in
theorem writeRules_any (t : ByteArray) (ht : t.size ≤ 600) (w : World) :
    Calls Tryz.prog 40 #[.string t] w fun e w' => (∃ q, e = .returned (.string (gfile (gst t q).1 (gst t q).2)) ∧ GFin t q) ∧ Below w.heap.size w w' := by
  have hst : Hid (World.ownsRow w w.heap.size 3 1 (.slice none 0 0) 0 (symCells [])) := by exact World.ownsRow_nil _ _ _ _
  have hk0 : Hid (Kept [] w w) := Kept.refl _ _
  go_enter Tryz.func40, Tryz.ntmps40
  go_wp2_with fail
  go_loopw [3, 4] (fun sv iv wr => ∃ (i : Nat) (xa : Option Addr) (xk xc : Nat), sv = .slice xa xk xc ∧ iv = .int .i64 (i : Int) ∧ i ≤ t.size ∧ Kept [] w wr ∧ wr.ownsRow w.heap.size 3 1 (.slice xa xk xc) i (symCells ((bytesN t).take i))) (fun _ iv _ => ((t.size : Int) - intOf iv).toNat)
  case atStart => exact ⟨0, none, 0, 0, rfl, rfl, Nat.zero_le _, hk0.out, hst.out⟩
  case round =>
    obtain ⟨i, xa, xk, xc, rfl, rfl, hi, hk, hrow⟩ := hrel
    clear hst hk0
    by_cases hlt : (i : Int) < (t.size : Int)
    · have hin : i < t.size := by omega
      have own : ∀ o, (wr.alloc o).ownsRow w.heap.size 3 1 (.slice xa xk xc) i (symCells ((bytesN t).take i)) := fun o => row_stay (S := []) hrow ((Kept.refl [] wr).alloc o) (fun _ _ => by simp)
      have hka : Hid (∀ o, Kept [] w (wr.alloc o)) := fun o => hk.alloc o
      have hs : Hid (symCells ((bytesN t).take (i + 1)) = symCells ((bytesN t).take i) ++ [.int .i64 (t[i].toNat : Int)]) := by
        show _ = _
        rw [List.take_add_one, bytesN_at hin, ← symCells_snoc]
        rfl
      have hwl : w.heap.size ≤ wr.heap.size := hk.size
      have mb : i + 1 ≤ maxLen := by unfold maxLen; omega
      have hc8 := t[i].toNat_lt
      have hown0 : Hid (∀ o, (wr.alloc o).ownsRow w.heap.size 3 1 (.slice xa xk xc) i (symCells ((bytesN t).take i))) := own
      obtain ⟨i0, hi0, hz0, hz1, hz2⟩ := info_parts infoInt
      clear hk hrow
      go_wp2_with (at_builtin; refine wpList_append_own _ rfl (.tmp 13) (.tmp 18) 68 rfl w.heap.size 3 i0 _ 1 8 Tryz.underlying68 hi0 hz0 hz1 hz2 rfl (by decide) (.slice xa xk xc) i (symCells ((bytesN t).take i)) rfl (by exact own _) ⟨wr.heap.size, 0, none⟩ 1 1 [.int .i64 (t[i].toNat : Int)] rfl rfl (by exact cells_new _ _ _ _ rfl) (by simp [Value.oneCell']) mb (by omega) (by simp; omega) ?kk)
      case kk =>
        intro v' w3 hown hg _
        obtain ⟨gv, cap, rfl⟩ := own_form hown (by omega)
        have k3 : Hid (Kept [] w w3) := grow_kept (hka.out _) (hown0.out _) hg
        have hown : Hid (w3.ownsRow w.heap.size 3 1 (.slice (some ⟨gv, 0, none⟩) (i + 1) cap) (i + 1) (symCells ((bytesN t).take (i + 1)))) := by show World.ownsRow _ _ _ _ _ _ _; rw [hs.out]; exact hown
        clear hg own
        go_wp2
        refine ⟨⟨i + 1, _, _, _, rfl, by go_num, by omega, k3.out, hown.out⟩, ?_⟩
        simp only [intOf]; omega
    · have e : i = t.size := by omega
      subst e
      have hI : Hid (WrI w wr t 0 (.slice xa xk xc) (.slice none 0 0)) := by
        refine ⟨hk, ?_, by exact World.ownsRow_nil _ _ _ _⟩
        rw [List.take_of_length_le (by rw [bytesN_len]; exact Nat.le_refl _)] at hrow
        show wr.ownsRow _ _ _ _ (bytesN t).length (symCells (bytesN t))
        rw [bytesN_len]; exact hrow
      clear hk hrow
      have hon0 : Hid (∀ j, j < 0 → 2 ≤ (bestL (gst t j).2).n) := fun j hj => by omega
      go_wp2_with fail
      go_loopw [3, 5] (fun sv rv wr => ∃ (q : Nat) (xa ya : Option Addr) (xk xc yk yc : Nat), sv = .slice xa xk xc ∧ rv = .slice ya yk yc ∧ q ≤ 100 ∧ (∀ j, j < q → 2 ≤ (bestL (gst t j).2).n) ∧ WrI w wr t q (.slice xa xk xc) (.slice ya yk yc)) (fun _ rv _ => 100 - lenS rv)
      case atStart => exact ⟨0, xa, none, xk, xc, 0, 0, rfl, rfl, by omega, hon0.out, hI.out⟩
      case round =>
        obtain ⟨q, xa, ya, xk, xc, yk, yc, rfl, rfl, hq, hon, hI⟩ := hrel
        clear hon0
        have hin := gst_inv t q
        have hyk : yk = q := by
          have h1 := hI.rrow
          rw [hin.rl] at h1
          rcases h1.2 with ⟨h2, h3⟩ | ⟨g, cap, _, h2, _⟩
          · simp at h2; omega
          · simp at h2; omega
        subst hyk
        have hxk : xk = (gst t yk).2.length := by
          rcases hI.srow.2 with ⟨h2, h3⟩ | ⟨g, cap, _, h2, _⟩
          · simp at h2; omega
          · simp at h2; omega
        have hll := hin.sl
        have hfin : Hid (∀ w', Kept [] wr w' → Calls Tryz.prog 76 #[.slice ya yk yc, .slice xa xk xc] w' fun e w2 => e = .returned (.string (gfile (gst t yk).1 (gst t yk).2)) ∧ Below w.heap.size w w2) := fun w' k => by
          refine (fileOf_any w' (row_stay (S := []) hI.rrow k (fun _ _ => by simp)) (row_stay (S := []) hI.srow k (fun _ _ => by simp)) (by rw [hin.rl]; omega) (by omega) (fun p hp => by have := hin.rb p hp; omega) (fun c hc => by have := hin.sb c hc; omega)).mono ?_
          rintro e w2 ⟨rfl, b2⟩
          exact ⟨rfl, ((hI.k.trans k).below (Nat.le_refl _) (by simp)).trans (b2.mono (Nat.le_trans hI.k.size k.size))⟩
        have hZ : Hid (∀ e : Ending, GFin t yk → e = .returned (.string (gfile (gst t yk).1 (gst t yk).2)) → ∃ q, e = .returned (.string (gfile (gst t q).1 (gst t q).2)) ∧ GFin t q) := fun e hg he => ⟨yk, he, hg⟩
        obtain ⟨Z, hZe⟩ : ∃ Z, gfile (gst t yk).1 (gst t yk).2 = Z := ⟨_, rfl⟩
        rw [hZe] at hfin hZ
        clear hZe
        have hkr : Hid (Kept [] wr wr) := Kept.refl _ _
        by_cases hlt3 : (yk : Int) < 100
        · have hcm : Hid (Calls Tryz.prog 74 #[.slice xa xk xc] wr _) := commonest_any wr hI.srow (by omega) (fun c hc => by have := hin.sb c hc; omega)
          have hbe : bestQ (candC (gst t yk).2) ((gst t yk).2.length - 1) = bestL (gst t yk).2 := rfl
          rw [hbe] at hcm
          clear hbe
          by_cases h2 : ((bestL (gst t yk).2).n : Int) < 2
          · have hF : GFin t yk := ⟨by omega, hon, Or.inr (by omega)⟩
            have hZ2 := fun e he => hZ.out e hF he
            have hZ2 : Hid (∀ e, _) := hZ2
            obtain ⟨P, hP⟩ : ∃ P, bestL (gst t yk).2 = P := ⟨_, rfl⟩
            rw [hP] at hcm h2
            unfold PV at hcm
            clear hF hZ hon hI hin hxk hll hP
            obtain ⟨n, a, b⟩ := P
            simp only [] at hcm h2
            go_wp2_with (first
              | (go_at_call 74; refine hcm.out.mono ?_; rintro _ w2 ⟨rfl, k2⟩)
              | (go_at_call 76; refine (hfin.out _ (k2.alloc _)).mono ?_; rintro _ w3 ⟨rfl, b3⟩))
            go_ret
            exact ⟨hZ2.out _ rfl, b3⟩
          · have hrep := fun w3 (k3 : Kept [] wr w3) => replaced_any w3 (row_stay (S := []) hI.srow k3 (fun _ _ => by simp)) (by omega) (bestL (gst t yk).2) (256 + yk) (by omega)
            have eg : replL (bestL (gst t yk).2).a (bestL (gst t yk).2).b (256 + yk) (gst t yk).2 = (gst t (yk + 1)).2 := by
              show _ = replL (bestL (gst t yk).2).a (bestL (gst t yk).2).b (256 + (gst t yk).1.length) (gst t yk).2
              rw [hin.rl]
            rw [eg] at hrep
            have hrep : Hid (∀ w3, _) := hrep
            have hnext : Hid (∀ (w3 w4 w5 : World) (v1 v2 : Value) (ob : Obj), _) := fun w3 w4 w5 v1 v2 ob => hI.next (w3 := w3) (w4 := w4) (w5 := w5) (v1 := v1) (v2 := v2) (ob := ob)
            have hon2 : Hid (∀ j, j < yk + 1 → 2 ≤ (bestL (gst t j).2).n) := fun j hj => by
              by_cases hjq : j = yk
              · subst hjq; omega
              · exact hon j (by omega)
            have hrr := hI.rrow
            rw [hin.rl] at hrr
            have hrrH : Hid (wr.ownsRow w.heap.size 138 3 (.slice ya yk yc) yk (pcs (gst t yk).1)) := hrr
            have hwl : w.heap.size ≤ wr.heap.size := hI.k.size
            have mb : yk + 1 ≤ maxLen := by unfold maxLen; omega
            obtain ⟨i0, hi0, hz0, hz1, hz2⟩ := info_parts infoPair
            obtain ⟨P, hP⟩ : ∃ P, bestL (gst t yk).2 = P := ⟨_, rfl⟩
            rw [hP] at hcm h2 hrep hnext
            unfold PV at hcm hrep
            clear hZ hon hI hin hxk hll hP hfin eg hrr
            obtain ⟨n, a, b⟩ := P
            simp only [] at hcm h2 hrep hnext
            have e256 : ((256 + yk : Nat) : Int) = 256 + (yk : Int) := by omega
            rw [e256] at hrep
            clear e256
            go_wp2_with (first
              | (go_at_call 74; refine hcm.out.mono ?_; rintro _ w2 ⟨rfl, k2⟩; have k2 : Hid (Kept _ _ _) := k2)
              | (go_at_call 75
                 refine (hrep.out _ (k2.out.alloc _)).mono ?_
                 rintro _ w4 ⟨v1, rfl, o4⟩
                 have o4H : Hid (RepOut _ _ _ _) := o4
                 have hP4 : Blk w4 w2.heap.size #[.int .i64 (a : Int), .int .i64 (b : Int), .int .i64 (n : Int)] 138 := (Blk.new w2 _ _).kept o4.k (by simp)
                 have q0 : w4.cell? ⟨w2.heap.size, 0, none⟩ = some (.int .i64 (a : Int)) := hP4.cell 0
                 have q1 : w4.cell? ⟨w2.heap.size, 1, none⟩ = some (.int .i64 (b : Int)) := hP4.cell 1
                 have q2 : w4.cell? ⟨w2.heap.size, 2, none⟩ = some (.int .i64 (n : Int)) := hP4.cell 2
                 have k4 : Kept [] wr w4 := (k2.out.alloc _).trans o4.k
                 have own : ∀ o, (w4.alloc o).ownsRow w.heap.size 138 3 (.slice ya yk yc) yk (pcs (gst t yk).1) := fun o => row_stay (S := []) hrrH.out (k4.alloc o) (fun _ _ => by simp)
                 have hw4 : w.heap.size ≤ w4.heap.size := Nat.le_trans hwl k4.size
                 obtain ⟨pa, pk, pc, rfl⟩ := own_shape o4.row
                 clear o4 hP4 k4)
              | (at_builtin; refine wpList_append_own _ rfl (.tmp 34) (.tmp 36) 136 rfl w.heap.size 138 i0 _ 3 24 Tryz.underlying136 hi0 hz0 hz1 hz2 rfl (by decide) (.slice ya yk yc) yk (pcs (gst t yk).1) rfl (by exact own _) ⟨w4.heap.size, 0, none⟩ 1 1 [.int .i64 (a : Int), .int .i64 (b : Int), .int .i64 (n : Int)] rfl rfl (by exact cells_new _ _ _ _ rfl) (by simp [Value.oneCell']) mb (by omega) (by simp; omega) ?kk))
            case kk =>
              intro v2 w5 hown hg _
              obtain ⟨gv, cap, rfl⟩ := own_form hown (by omega)
              have hfin5 : Hid (WrI _ _ _ _ _ _) := hnext.out _ _ _ _ _ _ (k2.out.alloc _) o4H.out hg hown
              clear hown hg own
              go_wp2
              refine ⟨⟨yk + 1, _, _, _, _, _, _, rfl, rfl, by omega, hon2.out, hfin5.out⟩, ?_⟩
              simp only [lenS]; omega
        · have hF : GFin t yk := ⟨hq, hon, Or.inl (by omega)⟩
          have hZ2 := fun e he => hZ.out e hF he
          have hZ2 : Hid (∀ e, _) := hZ2
          clear hF hZ hon hI hin hxk hll
          go_wp2_with (go_at_call 76; refine (hfin.out _ hkr.out).mono ?_; rintro _ w3 ⟨rfl, b3⟩)
          go_ret
          exact ⟨hZ2.out _ rfl, b3⟩

/-- What PackG comes to. -/
def PackGOut (t : ByteArray) (e : Ending) : Prop :=
  (600 < t.size ∧ e = .returned (.tuple #[.string ⟨#[]⟩, .int .i64 8])) ∨ (t.size ≤ 600 ∧ ∃ q, GFin t q ∧ e = .returned (.tuple #[.string (gfile (gst t q).1 (gst t q).2), .int .i64 0]))
set_option maxHeartbeats 1000000 in
theorem packG_any (t : ByteArray) (ht : t.size ≤ maxLen) (w : World) :
    Calls Tryz.prog 16 #[.string t] w fun e w' => PackGOut t e ∧ Below w.heap.size w w' := by
  unfold maxLen at ht
  have hb : Hid (Below w.heap.size w w) := Below.refl _ _
  by_cases h1 : (600 : Int) < (t.size : Int)
  · go_enter Tryz.func16, Tryz.ntmps16
    go_wp2
    go_ret2
    exact ⟨Or.inl ⟨by omega, rfl⟩, hb.out⟩
  · have hs : Hid (t.size ≤ 600) := by show t.size ≤ 600; omega
    have hc : Hid (Calls _ _ _ w _) := writeRules_any t hs.out w
    go_enter Tryz.func16, Tryz.ntmps16
    go_wp2_with (go_at_call 40; refine hc.out.mono ?_; rintro _ w2 ⟨⟨q, rfl, hq⟩, b2⟩; have hq : Hid (GFin _ _) := hq; generalize hR : gfile (gst t q).1 (gst t q).2 = R; have hR : Hid (_ = _) := hR)
    go_ret2
    exact ⟨Or.inr ⟨hs.out, q, hq.out, by rw [hR.out]; rfl⟩, b2⟩

end Go.Proofs.YtgifhgnccmnbiabGreatDoor

set_option linter.unusedVariables false
set_option linter.unusedSimpArgs false
namespace Go.Proofs.YtgifhgnccmnbiabGreatDoor
open Go.RowKit Go.IntWalk

theorem zfile_a : zfile 9 ⟨#[97]⟩ = ⟨#[83, 90, 9, 97, 0]⟩ := by kernel_rfl
theorem gfin_a : GFin ⟨#[97]⟩ 0 := ⟨by omega, fun j hj => by omega, Or.inr (by decide +kernel)⟩
theorem gfile_a : gfile (gst ⟨#[97]⟩ 0).1 (gst ⟨#[97]⟩ 0).2 = ⟨#[83, 71, 0, 1, 0, 97, 0]⟩ := by kernel_rfl

set_option maxHeartbeats 1000000 in
set_option maxRecDepth 100000 in
theorem packing_any (w : World) : Calls Tryz.prog 37 #[] w fun e w' => e = .returned (.bool true) ∧ Below w.heap.size w w' := by
  have hz : Hid (Calls Tryz.prog 15 #[.string ⟨#[97]⟩, .int .i64 9] w fun e w' => e = .returned (.tuple #[.string ⟨#[83, 90, 9, 97, 0]⟩, .int .i64 0]) ∧ Below w.heap.size w w') := by
    refine (packZ_any ⟨#[97]⟩ (by decide) 9 w).mono ?_
    rintro e w' ⟨h, b⟩
    refine ⟨?_, b⟩
    rcases h with ⟨h1, _⟩ | ⟨_, h1, _⟩ | ⟨_, _, _, h1⟩
    · exact absurd h1 (by decide)
    · omega
    · rw [h1, show (9 : Int).toNat = 9 by rfl, zfile_a]
  have hg : Hid (∀ w, Calls Tryz.prog 16 #[.string ⟨#[97]⟩] w fun e w' => e = .returned (.tuple #[.string ⟨#[83, 71, 0, 1, 0, 97, 0]⟩, .int .i64 0]) ∧ Below w.heap.size w w') := fun w => by
    refine (packG_any ⟨#[97]⟩ (by decide) w).mono ?_
    rintro e w' ⟨h, b⟩
    refine ⟨?_, b⟩
    rcases h with ⟨h1, _⟩ | ⟨_, q, hq, h1⟩
    · exact absurd h1 (by decide)
    · rw [h1, hq.one gfin_a, gfile_a]
  go_enter Tryz.func37, Tryz.ntmps37
  go_wp2_with fail
  refine hz.out.mono ?_
  rintro e w1 ⟨rfl, b1⟩
  have b1 : Hid (Below _ _ _) := b1
  go_wp2_with fail
  refine (hg.out _).mono ?_
  rintro e w2 ⟨rfl, b2⟩
  have b2 : Hid (Below w.heap.size w w2) := b1.out.trans (b2.mono b1.out.size)
  clear b1
  go_wp2
  go_ret
  exact ⟨rfl, b2.out⟩

end Go.Proofs.YtgifhgnccmnbiabGreatDoor

set_option linter.unusedVariables false
set_option linter.unusedSimpArgs false
namespace Go.Proofs.YtgifhgnccmnbiabGreatDoor

theorem flat_repl {a b s : Nat} {F : Nat → List Nat} (h : F s = F a ++ F b) : ∀ (n : Nat) (l : List Nat), l.length ≤ n → (replL a b s l).flatMap F = l.flatMap F
  | n, [], _ => by rw [replL_nil]
  | n, [x], _ => by rw [replL_one]
  | 0, x :: y :: r, hl => by simp at hl
  | n + 1, x :: y :: r, hl => by
    rw [replL_two]
    split
    · rename_i hc
      obtain ⟨rfl, rfl⟩ := hc
      rw [List.flatMap_cons, flat_repl h n r (by simp at hl; omega), h, List.flatMap_cons, List.flatMap_cons, List.append_assoc]
    · rw [List.flatMap_cons, flat_repl h n (y :: r) (by simp at hl ⊢; omega)]; simp only [List.flatMap_cons]
/-- What the rules stand for, one behind the other. -/
def gtx : List Cand → List (List Nat)
  | [] => []
  | p :: R => gtx R ++ [symT (gtx R) p.a ++ symT (gtx R) p.b]
def gTab (t : ByteArray) (q : Nat) : List (List Nat) := gtx (gst t q).1.reverse
theorem gTab_succ (t : ByteArray) (q : Nat) : gTab t (q + 1) = gTab t q ++ [symT (gTab t q) (bestL (gst t q).2).a ++ symT (gTab t q) (bestL (gst t q).2).b] := by
  show gtx ((gst t q).1 ++ [bestL (gst t q).2]).reverse = _
  rw [List.reverse_append]
  rfl
theorem gTab_len (t : ByteArray) : ∀ q, (gTab t q).length = q
  | 0 => rfl
  | q + 1 => by rw [gTab_succ, List.length_append, gTab_len t q]; rfl
theorem symT_more {T : List (List Nat)} {x : List Nat} {s : Nat} (h : s < 256 + T.length) : symT (T ++ [x]) s = symT T s := by
  unfold symT
  by_cases h1 : s < 256
  · rw [if_pos h1, if_pos h1]
  · rw [if_neg h1, if_neg h1]
    simp only [List.getD]
    rw [List.getElem?_append_left (by omega)]
theorem symT_last {T : List (List Nat)} {x : List Nat} : symT (T ++ [x]) (256 + T.length) = x := by
  unfold symT
  rw [if_neg (by omega)]
  simp [List.getD]
/-- However many rules are made, the symbols stand for the text. -/
theorem flat_gst (t : ByteArray) : ∀ q, (gst t q).2.flatMap (symT (gTab t q)) = bytesN t
  | 0 => by
    show (bytesN t).flatMap (symT []) = bytesN t
    have h : ∀ l : List Nat, (∀ c, c ∈ l → c < 256) → l.flatMap (symT []) = l := by
      intro l
      induction l with
      | nil => intro _; rfl
      | cons x l ih =>
        intro hb
        rw [List.flatMap_cons, ih (fun c hc => hb c (List.mem_cons_of_mem _ hc))]
        have : symT [] x = [x] := by unfold symT; rw [if_pos (hb x (by simp))]
        rw [this]; rfl
    exact h _ (bytesN_lt t)
  | q + 1 => by
    have hi := gst_inv t q
    have hb := bestL_lt hi.sb (by omega)
    have hn := gTab_len t q
    rw [← flat_gst t q]
    show (replL (bestL (gst t q).2).a (bestL (gst t q).2).b (256 + (gst t q).1.length) (gst t q).2).flatMap (symT (gTab t (q + 1))) = _
    rw [hi.rl, gTab_succ]
    have hF : symT (gTab t q ++ [symT (gTab t q) (bestL (gst t q).2).a ++ symT (gTab t q) (bestL (gst t q).2).b]) (256 + q) = symT (gTab t q ++ [symT (gTab t q) (bestL (gst t q).2).a ++ symT (gTab t q) (bestL (gst t q).2).b]) (bestL (gst t q).2).a ++ symT (gTab t q ++ [symT (gTab t q) (bestL (gst t q).2).a ++ symT (gTab t q) (bestL (gst t q).2).b]) (bestL (gst t q).2).b := by
      have ea := symT_more (T := gTab t q) (x := symT (gTab t q) (bestL (gst t q).2).a ++ symT (gTab t q) (bestL (gst t q).2).b) (s := (bestL (gst t q).2).a) (by rw [hn]; exact hb.1)
      have eb := symT_more (T := gTab t q) (x := symT (gTab t q) (bestL (gst t q).2).a ++ symT (gTab t q) (bestL (gst t q).2).b) (s := (bestL (gst t q).2).b) (by rw [hn]; exact hb.2)
      rw [ea, eb]
      have := symT_last (T := gTab t q) (x := symT (gTab t q) (bestL (gst t q).2).a ++ symT (gTab t q) (bestL (gst t q).2).b)
      rwa [hn] at this
    rw [flat_repl hF _ _ (Nat.le_refl _)]
    have hm : ∀ l : List Nat, (∀ c, c ∈ l → c < 256 + q) → l.flatMap (symT (gTab t q ++ [symT (gTab t q) (bestL (gst t q).2).a ++ symT (gTab t q) (bestL (gst t q).2).b])) = l.flatMap (symT (gTab t q)) := by
      intro l
      induction l with
      | nil => intro _; rfl
      | cons x l ih =>
        intro h
        rw [List.flatMap_cons, List.flatMap_cons, ih (fun c hc => h c (List.mem_cons_of_mem _ hc)), symT_more (by rw [hn]; exact h x (by simp))]
    exact hm _ hi.sb

end Go.Proofs.YtgifhgnccmnbiabGreatDoor

set_option linter.unusedVariables false
set_option linter.unusedSimpArgs false
namespace Go.Proofs.YtgifhgnccmnbiabGreatDoor
open Go.RowKit Go.IntWalk

/-- The document's rules stand for these texts. -/
structure RSound (rl : List Nat) (ps : List PI) (T : List (List Nat)) : Prop where
  len : rl.length = 2 * T.length
  ps : ps = T.map piOf
  rule : ∀ i, i < T.length → rl.getD (2 * i) 0 < 256 + i ∧ rl.getD (2 * i + 1) 0 < 256 + i ∧ T.getD i [] = symT T (rl.getD (2 * i) 0) ++ symT T (rl.getD (2 * i + 1) 0)
/-- A file in memory, only read. -/
structure GRd (w : World) (b : Nat) (kv nv : Value) (rl top : List Nat) (ps : List PI) (rv tv pv : Value) : Prop where
  blk : Blk w b #[kv, nv, rv, tv, pv] 71
  rules : w.ownsRow 0 3 1 rv rl.length (symCells rl)
  top : w.ownsRow 0 3 1 tv top.length (symCells top)
  pieces : w.ownsRow 0 122 6 pv ps.length (piCells ps)
theorem row_same {w w' : World} {base e z k : Nat} {v : Value} {xs : List Value} (h : w.ownsRow base e z v k xs) (he : e ≠ 5) (hs : ∀ k cs e, e ≠ 5 → Blk w k cs e → Blk w' k cs e) : w'.ownsRow base e z v k xs := by
  refine ⟨h.1, ?_⟩
  rcases h.2 with h1 | ⟨g, cap, cur, h1, h2, h3, h4⟩
  · exact Or.inl h1
  · exact Or.inr ⟨g, cap, cur, h1, h2, hs g cur e he h3, h4⟩
section
variable {w w' : World} {b : Nat} {kv nv rv tv pv : Value} {rl top : List Nat} {ps : List PI}
theorem GRd.same (h : GRd w b kv nv rl top ps rv tv pv) (hs : ∀ k cs e, e ≠ 5 → Blk w k cs e → Blk w' k cs e) : GRd w' b kv nv rl top ps rv tv pv :=
  ⟨hs _ _ _ (by decide) h.blk, row_same h.rules (by decide) hs, row_same h.top (by decide) hs, row_same h.pieces (by decide) hs⟩
theorem GRd.kept (h : GRd w b kv nv rl top ps rv tv pv) (k : Kept [] w w') : GRd w' b kv nv rl top ps rv tv pv :=
  h.same fun _ _ _ _ hb => hb.kept k (by simp)
end

end Go.Proofs.YtgifhgnccmnbiabGreatDoor

set_option linter.unusedVariables false
set_option linter.unusedSimpArgs false
namespace Go.Proofs.YtgifhgnccmnbiabGreatDoor
open Go.RowKit Go.IntWalk

end Go.Proofs.YtgifhgnccmnbiabGreatDoor

set_option linter.unusedVariables false
set_option linter.unusedSimpArgs false
namespace Go.Proofs.YtgifhgnccmnbiabGreatDoor
open Go.RowKit Go.IntWalk

theorem codes_zz {f : ByteArray} {n : Nat} (hr : ZRun f n) (hk : zOk (zit (z0 f) n) = true) : ∀ i, i ≤ n → ∃ r T, zitB (f.extract 3 f.size) (bt f 2) i = some r ∧ OnB f i ∧ ZZ (f.extract 3 f.size) (bt f 2) (zit (z0 f) i) r T
  | 0, _ => ⟨{}, [], rfl, fun _ h => by omega, zz0 f⟩
  | i + 1, hi => by
    obtain ⟨r, T, h1, h2, h3⟩ := codes_zz hr hk i (by omega)
    have hg : zgoB (f.extract 3 f.size) (bt f 2) r = true := by rw [← h3.go]; exact hr.on i (by omega)
    have hon : OnB f (i + 1) := fun j hj => by
      by_cases hji : j = i
      · subst hji; exact ⟨r, h1, hg⟩
      · exact h2 j (by omega)
    have hit : zitB (f.extract 3 f.size) (bt f 2) (i + 1) = zsB (f.extract 3 f.size) (bt f 2) r := by
      show (zitB (f.extract 3 f.size) (bt f 2) i).bind (zsB (f.extract 3 f.size) (bt f 2)) = _
      rw [h1]; rfl
    cases hz : zsB (f.extract 3 f.size) (bt f 2) r with
    | none =>
      exfalso
      have hb := (h3.step hg).1 hz
      have hb' : (zit (z0 f) (i + 1)).1.bad = true := hb
      by_cases hin : i + 1 = n
      · rw [hin] at hb'
        unfold zOk at hk
        rw [hb'] at hk; cases hk
      · have := hr.on (i + 1) (by omega)
        unfold zgo at this
        rw [hb'] at this; cases this
    | some r' =>
      obtain ⟨T', hT'⟩ := (h3.step hg).2 r' hz
      exact ⟨r', T', by rw [hit, hz], hon, hT'⟩

theorem stext_of {f : ByteArray} {t : TT} (h : SFile f t) : ∃ T, SText t T := by
  cases h with
  | rules a b c d =>
    have hG := ok_GOk c b d
    obtain ⟨e1, e2, e3, e4, e5⟩ := hG.read
    refine ⟨gTx f (bt f 2), ?_, ?_, ?_, ?_, ?_⟩
    · show Sound (sgG f).1 _
      rw [e2]; exact hG.sound _ (Nat.le_refl _)
    · show ∀ s, s ∈ (sgS f).1 → s < 256 + (sgG f).1.length
      rw [e2, e5]
      intro s hs
      rw [gRu_len]
      exact hG.top _ (Nat.le_refl _) s hs
    · show wholeP (sgG f).1 (sgS f).1 = ptOf ((sgS f).1.flatMap _)
      rw [e2, e5]
      exact whole_pt (hG.sound _ (Nat.le_refl _)) _ (fun s hs => by rw [gTx_len]; exact hG.top _ (Nat.le_refl _) s hs) []
    · show (sgG f).1.length ≤ 9000
      rw [e2, gRu_len]; have := hG.r; omega
    · show (sgS f).1.length ≤ 9000
      rw [e5, gTop_range]
      simp
      have := hG.n1
      unfold gN
      omega
  | codes a b c d x y =>
    obtain ⟨r, T, h1, h2, h3⟩ := codes_zz x y _ (Nat.le_refl _)
    have hI := zit_inv x.on
    have hp := hI.p
    have hpb := hI.pb
    have hsz : (f.extract 3 f.size).size ≤ 4000 := by simp [ByteArray.size_extract]; omega
    have := hI.rules
    have := hI.start
    refine ⟨T, h3.sound, fun s hs => by rw [h3.sound.len]; exact h3.start s hs, by rw [h3.whole, h3.out], by omega, by omega⟩

theorem Sound.one {rs : List RU} {T U : List (List Nat)} (h : Sound rs T) (h' : Sound rs U) : ∀ (k s : Nat), s < k → s < 256 + rs.length → symT T s = symT U s := by
  intro k
  induction k with
  | zero => intro s hs; omega
  | succ k ih =>
    intro s hs hs2
    by_cases h1 : s < 256
    · unfold symT; rw [if_pos h1, if_pos h1]
    · obtain ⟨x, hx⟩ : ∃ x, rs[s - 256]? = some x := ⟨_, List.getElem?_eq_getElem (by omega)⟩
      obtain ⟨u1, u2, u3, _⟩ := h.rule _ _ hx
      obtain ⟨_, _, v3, _⟩ := h'.rule _ _ hx
      have e : symT T s = symT T x.l ++ symT T x.r := by rw [← u3]; unfold symT; rw [if_neg h1]
      have e' : symT U s = symT U x.l ++ symT U x.r := by rw [← v3]; unfold symT; rw [if_neg h1]
      rw [e, e', ih x.l (by omega) (by omega), ih x.r (by omega) (by omega)]
theorem SText.one {t : TT} {T U : List (List Nat)} (h : SText t T) (h' : SText t U) : t.start.flatMap (symT T) = t.start.flatMap (symT U) := by
  have : ∀ l : List Nat, (∀ s, s ∈ l → s < 256 + t.rules.length) → l.flatMap (symT T) = l.flatMap (symT U) := by
    intro l
    induction l with
    | nil => intro _; rfl
    | cons x l ih =>
      intro hl
      rw [List.flatMap_cons, List.flatMap_cons, h.sound.one h'.sound (x + 1) x (by omega) (hl x (by simp)), ih (fun y hy => hl y (by simp [hy]))]
  exact this _ h.start

def RangeOk (x y : Int) (L : Nat) : Prop := 0 ≤ x ∧ x ≤ y ∧ y ≤ (L : Int) ∧ y - x ≤ 2000
structure CutOut (f : ByteArray) (x y : Int) (w w' : World) (e : Ending) : Prop where
  below : Below w.heap.size w w'
  out : ((∀ t, ¬ SFile f t) ∧ e = .returned (.tuple #[.string ⟨#[]⟩, .int .i64 4])) ∨
    ∃ t, SFile f t ∧ ((1099511627776 < t.whole.len ∧ e = .returned (.tuple #[.string ⟨#[]⟩, .int .i64 5])) ∨
      (t.whole.len ≤ 1099511627776 ∧ ¬ RangeOk x y t.whole.len ∧ e = .returned (.tuple #[.string ⟨#[]⟩, .int .i64 6])) ∨
      (t.whole.len ≤ 1099511627776 ∧ RangeOk x y t.whole.len ∧ ∃ T, SText t T ∧ e = .returned (.tuple #[.string (bytesB (cutX (t.start.flatMap (symT T)) x.toNat y.toNat 0)), .int .i64 0])))

set_option maxHeartbeats 4000000 in
set_option maxRecDepth 100000 in
theorem cut_any (f : ByteArray) (hf : f.size ≤ maxLen) (x y : Int) (hx1 : -9223372036854775808 ≤ x) (hx2 : x ≤ 9223372036854775807) (hy1 : -9223372036854775808 ≤ y) (hy2 : y ≤ 9223372036854775807) (w : World) :
    Calls Tryz.prog 69 #[.string f, .int .i64 x, .int .i64 y] w fun e w' => CutOut f x y w w' e := by
  have hc : Hid (Calls _ _ _ w _) := read_file f hf w
  go_enter Tryz.func69, Tryz.ntmps69
  go_wp2_with fail
  refine hc.out.mono ?_
  rintro e w1 ⟨hbl, ho⟩
  have hblH : Hid (Below w.heap.size w w1) := hbl
  have hal : Hid (∀ o, Below w.heap.size w (w1.alloc o)) := fun o => hbl.alloc hbl.size o
  clear hc hbl
  rcases ho with ⟨hn, rfl⟩ | ⟨t, ht, ⟨hb, rfl⟩ | ⟨hb, rv, sv, htv, rfl⟩⟩
  · have hnH : Hid (∀ t, ¬ SFile f t) := hn
    clear hn
    unfold ztext
    go_wp2
    go_ret2
    exact ⟨hal.out _, Or.inl ⟨hnH.out, rfl⟩⟩
  · have htH : Hid (SFile f t) := ht
    have hbH : Hid (1099511627776 < t.whole.len) := hb
    clear ht hb
    unfold ztext
    go_wp2
    go_ret2
    exact ⟨hal.out _, Or.inr ⟨t, htH.out, Or.inl ⟨hbH.out, rfl⟩⟩⟩
  · obtain ⟨T, hST⟩ := stext_of ht
    have hTR : Hid (TR (w1.alloc (.cells (t.cells rv sv) 86)) (w1.heap.size + 1) w1.heap.size t rv sv) :=
      ⟨Blk.new w1 _ _, row_stay (S := []) (own_low htv.rules (Nat.zero_le _)) ((Kept.refl [] w1).alloc _) (fun _ _ => by simp), row_stay (S := []) (own_low htv.start (Nat.zero_le _)) ((Kept.refl [] w1).alloc _) (fun _ _ => by simp), Nat.lt_succ_self _, fun g hg => by have := (htv.rules.lt g hg).2; omega, fun g hg => by have := (htv.start.lt g hg).2; omega⟩
    obtain ⟨ra, rn, rc, rfl⟩ := own_shape htv.rules
    obtain ⟨sa, sn, sc, rfl⟩ := own_shape htv.start
    have htH : Hid (SFile f t) := ht
    have hSTH : Hid (SText t T) := hST
    clear ht htv hST
    have hbad : Hid (∀ o, ¬ RangeOk x y t.whole.len → CutOut f x y w (w1.alloc o) (.returned (.tuple #[.string ⟨#[]⟩, .int .i64 6]))) := fun o h => ⟨hal.out _, Or.inr ⟨t, htH.out, Or.inr (Or.inl ⟨hb, h, rfl⟩)⟩⟩
    have hcut : Hid (∀ fr dst : Nat, x = (fr : Int) → y = (dst : Int) → RangeOk x y t.whole.len → Calls Tryz.prog 59 #[.pointer (some ⟨w1.heap.size, 0, none⟩), .int .i64 x, .int .i64 y] (w1.alloc (.cells (t.cells (.slice ra rn rc) (.slice sa sn sc)) 86)) fun e w' => ∃ s, e = .returned (.string s) ∧ CutOut f x y w w' (.returned (.tuple #[.string s, .int .i64 0]))) := fun fr dst h1 h2 h => by
      have h' := h
      unfold RangeOk at h'
      rw [h1, h2] at h' ⊢
      refine (cutText_any hSTH.out hb (fr := fr) (dst := dst) (by omega) (by omega) _ hTR.out (by simp)).mono ?_
      rintro e w' ⟨rfl, b2⟩
      refine ⟨_, rfl, ((hal.out _).trans (b2.mono (by have := hblH.out.size; simp; omega))), Or.inr ⟨t, htH.out, Or.inr (Or.inr ⟨hb, ?_, T, hSTH.out, ?_⟩)⟩⟩
      · rw [h1, h2] at h; exact h
      · rfl
    unfold TT.cells at hcut ⊢
    have hR : Hid (RangeOk x y t.whole.len ↔ 0 ≤ x ∧ x ≤ y ∧ y ≤ (t.whole.len : Int) ∧ y - x ≤ 2000) := Iff.rfl
    generalize t.whole.len = L at *
    by_cases h1 : x < 0
    · have hf : Hid (∀ o, _) := fun o => hbad.out o (fun h => by have := hR.out.1 h; omega)
      clear hbad hcut hR
      go_wp2
      go_ret2
      exact hf.out _
    · by_cases h2 : y < x
      · have hf : Hid (∀ o, _) := fun o => hbad.out o (fun h => by have := hR.out.1 h; omega)
        clear hbad hcut hR
        go_wp2
        go_ret2
        exact hf.out _
      · by_cases h3 : (L : Int) < y
        · have hf : Hid (∀ o, _) := fun o => hbad.out o (fun h => by have := hR.out.1 h; omega)
          clear hbad hcut hR
          go_wp2
          go_ret2
          exact hf.out _
        · have hs1 : -9223372036854775808 ≤ y - x := by omega
          have hs2 : y - x ≤ 9223372036854775807 := by omega
          by_cases h4 : 2000 < y - x
          · have hf : Hid (∀ o, _) := fun o => hbad.out o (fun h => by have := hR.out.1 h; omega)
            clear hbad hcut hR
            go_wp2
            go_ret2
            exact hf.out _
          · have hg := hcut.out x.toNat y.toNat (by omega) (by omega) (hR.out.2 (by omega))
            have hgH : Hid (Calls _ _ _ _ _) := hg
            clear hbad hcut hR hg
            go_wp2_with (go_at_call 59; refine hgH.out.mono ?_; rintro _ w5 ⟨s, rfl, o5⟩)
            go_ret2
            exact o5

end Go.Proofs.YtgifhgnccmnbiabGreatDoor

set_option linter.unusedVariables false
set_option linter.unusedSimpArgs false
namespace Go.Proofs.YtgifhgnccmnbiabGreatDoor
open Go.RowKit Go.IntWalk

theorem RSound.nil : RSound [] [] [] := ⟨rfl, rfl, fun i h => by simp at h⟩
theorem RSound.push {rl : List Nat} {ps : List PI} {T : List (List Nat)} (h : RSound rl ps T) {l r : Nat} (hl : l < 256 + T.length) (hr : r < 256 + T.length) :
    RSound (rl ++ [l, r]) (ps ++ [piOf (symT T l ++ symT T r)]) (T ++ [symT T l ++ symT T r]) := by
  have hlen := h.len
  refine ⟨by simp [hlen]; omega, by rw [h.ps]; simp, fun i hi => ?_⟩
  simp at hi
  by_cases hi2 : i < T.length
  · obtain ⟨a, b, c⟩ := h.rule i hi2
    have e1 : (rl ++ [l, r]).getD (2 * i) 0 = rl.getD (2 * i) 0 := by simp only [List.getD]; rw [List.getElem?_append_left (by omega)]
    have e2 : (rl ++ [l, r]).getD (2 * i + 1) 0 = rl.getD (2 * i + 1) 0 := by simp only [List.getD]; rw [List.getElem?_append_left (by omega)]
    have e3 : (T ++ [symT T l ++ symT T r]).getD i [] = T.getD i [] := by simp only [List.getD]; rw [List.getElem?_append_left hi2]
    rw [e1, e2, e3, symT_app (by omega), symT_app (by omega)]
    exact ⟨a, b, c⟩
  · have hi3 : i = T.length := by omega
    subst hi3
    have e1 : (rl ++ [l, r]).getD (2 * T.length) 0 = l := by simp only [List.getD]; rw [List.getElem?_append_right (by omega), hlen]; simp
    have e2 : (rl ++ [l, r]).getD (2 * T.length + 1) 0 = r := by simp only [List.getD]; rw [List.getElem?_append_right (by omega), hlen, show 2 * T.length + 1 - 2 * T.length = 1 by omega]; simp
    have e3 : (T ++ [symT T l ++ symT T r]).getD T.length [] = symT T l ++ symT T r := by simp [List.getD]
    rw [e1, e2, e3, symT_app (by omega), symT_app (by omega)]
    exact ⟨hl, hr, rfl⟩
theorem GOk.rsound {f : ByteArray} (h : GOk f) : ∀ k, k ≤ bt f 2 → RSound (gRules f k) ((gTx f k).map piOf) (gTx f k)
  | 0, _ => RSound.nil
  | k + 1, hk => by
    have ih := (h.rsound k (by omega)).push (l := gA f k) (r := gB f k) (by rw [gTx_len]; exact (h.a (by omega)).2) (by rw [gTx_len]; exact (h.b (by omega)).2)
    show RSound (gRules f k ++ [gA f k, gB f k]) ((gTx f k ++ [symT (gTx f k) (gA f k) ++ symT (gTx f k) (gB f k)]).map piOf) (gTx f k ++ [symT (gTx f k) (gA f k) ++ symT (gTx f k) (gB f k)])
    rw [List.map_append]
    exact ih

/-- What is cut out of the bytes X, or that it is refused. -/
def RangeCase (X : List Nat) (x y : Int) (e : Ending) : Prop :=
  (¬ RangeOk x y X.length ∧ e = .returned (.tuple #[.string ⟨#[]⟩, .int .i64 6])) ∨
  (RangeOk x y X.length ∧ e = .returned (.tuple #[.string (bytesB (cutX X x.toNat y.toNat 0)), .int .i64 0]))
structure CutR (f : ByteArray) (x y : Int) (w w' : World) (e : Ending) : Prop where
  below : Below w.heap.size w w'
  out : (∃ n r, ZGood f n r ∧ RangeCase (bytesN r.out) x y e) ∨ (ZNo f ∧ ¬ GOk f ∧ e = .returned (.tuple #[.string ⟨#[]⟩, .int .i64 4])) ∨
    (ZNo f ∧ GOk f ∧ 1099511627776 < (gAll f).long ∧ e = .returned (.tuple #[.string ⟨#[]⟩, .int .i64 5])) ∨
    (ZNo f ∧ GOk f ∧ (gAll f).long ≤ 1099511627776 ∧ RangeCase ((gTop f (gN f)).flatMap (symT (gTx f (bt f 2)))) x y e)
theorem GM.rg {w : World} {b B C : Nat} {kind : Int} {n : Nat} {rl top : List Nat} {ps : List PI} {rv tv pv : Value} (h : GM w b B C kind n rl top ps rv tv pv) : GRd w b (.int .i64 kind) (.int .i64 (n : Int)) rl top ps rv tv pv :=
  ⟨h.blk, own_low h.rules (Nat.zero_le _), own_low h.top (Nat.zero_le _), own_low h.pieces (Nat.zero_le _)⟩
theorem gAll_tx {f : ByteArray} (h : GOk f) : gAll f = piOf ((gTop f (gN f)).flatMap (symT (gTx f (bt f 2)))) := by
  have hb : ∀ s, s ∈ gTop f (gN f) → s < 256 + (gTx f (bt f 2)).length := fun s hs => by rw [gTx_len]; exact h.top _ (Nat.le_refl _) s hs
  unfold gAll wholeR
  rw [h.ps _ (Nat.le_refl _)]
  exact whole_tx _ hb []
/-- A file that the document's side has opened. -/
structure ROpen (w : World) (b B C : Nat) (kind : Int) (n : Nat) (rl top : List Nat) (ps : List PI) (rv tv pv : Value) (T : List (List Nat)) (X : List Nat) : Prop where
  gm : GM w b B C kind n rl top ps rv tv pv
  sound : RSound rl ps T
  tlen : T.length ≤ 1000
  nlen : top.length ≤ 100000000
  syms : ∀ s, s ∈ top → s < 256 + T.length
  text : X = top.flatMap (symT T)
  xlen : X.length ≤ 1099511627776
  byte : ∀ c, c ∈ X → c < 256
theorem OpenedR.cut {f : ByteArray} {x y : Int} {w w' : World} {e : Ending} (h : OpenedR f w w' e) :
    (∃ c : Int, c ≠ 0 ∧ 0 ≤ c ∧ c ≤ 5 ∧ e = .returned (.tuple #[.pointer none, .int .i64 c]) ∧ ∀ w2, Below w.heap.size w w2 → CutR f x y w w2 (.returned (.tuple #[.string ⟨#[]⟩, .int .i64 c]))) ∨
    ∃ b B C kind n rl top ps rv tv pv T X, ROpen w' b B C kind n rl top ps rv tv pv T X ∧ e = .returned (.tuple #[.pointer (some ⟨b, 0, none⟩), .int .i64 0]) ∧ ∀ w2 e2, Below w.heap.size w w2 → RangeCase X x y e2 → CutR f x y w w2 e2 := by
  rcases h.out with ⟨n, r, b, B, C, tv, hz, hG, he⟩ | ⟨a, c, he⟩ | ⟨a, c, d, he⟩ | ⟨a, c, d, b, B, C, rv, tv, pv, hG, he⟩
  · have hfl := flat_self (bytesN r.out) (bytesN_lt r.out)
    refine Or.inr ⟨b, B, C, 90, n, [], _, [], _, _, _, [], bytesN r.out, ⟨hG, RSound.nil, by simp, by rw [bytesN_len]; have := hz.size; omega, fun s hs => by have := bytesN_lt _ s hs; simp; omega, hfl.symm, by rw [bytesN_len]; have := hz.size; omega, bytesN_lt r.out⟩, he, fun w2 e2 k hr => ⟨k, Or.inl ⟨n, r, hz, hr⟩⟩⟩
  · exact Or.inl ⟨4, by omega, by omega, by omega, he, fun w2 k => ⟨k, Or.inr (Or.inl ⟨a, c, rfl⟩)⟩⟩
  · exact Or.inl ⟨5, by omega, by omega, by omega, he, fun w2 k => ⟨k, Or.inr (Or.inr (Or.inl ⟨a, c, d, rfl⟩))⟩⟩
  · have hl : (piOf ((gTop f (gN f)).flatMap (symT (gTx f (bt f 2))))).long ≤ 1099511627776 := by rw [← gAll_tx c]; exact d
    have hs : ∀ s, s ∈ gTop f (gN f) → s < 256 + (gTx f (bt f 2)).length := fun s hs => by rw [gTx_len]; exact c.top _ (Nat.le_refl _) s hs
    have hR := c.rsound _ (Nat.le_refl _)
    rw [← c.ps _ (Nat.le_refl _)] at hR
    have hx : ((gTop f (gN f)).flatMap (symT (gTx f (bt f 2)))).length ≤ 1099511627776 := by
      have := capL_small (n := ((gTop f (gN f)).flatMap (symT (gTx f (bt f 2)))).length) hl
      have h2 : capL ((gTop f (gN f)).flatMap (symT (gTx f (bt f 2)))).length ≤ 1099511627776 := hl
      omega
    refine Or.inr ⟨b, B, C, 71, gN f, _, _, _, _, _, _, gTx f (bt f 2), _, ⟨hG, hR, by rw [gTx_len]; have := c.r; omega, by rw [gTop_len]; have := c.n; omega, hs, rfl, hx, fun z hz => ?_⟩, he, fun w2 e2 k hr => ⟨k, Or.inr (Or.inr (Or.inr ⟨a, c, d, hr⟩))⟩⟩
    obtain ⟨s, h1, h2⟩ := List.mem_flatMap.1 hz
    have hS := c.sound _ (Nat.le_refl _)
    exact hS.byte (s + 1) s (by omega) (by rw [gRu_len]; exact c.top _ (Nat.le_refl _) s h1) z h2

end Go.Proofs.YtgifhgnccmnbiabGreatDoor

set_option linter.unusedVariables false
set_option linter.unusedSimpArgs false
namespace Go.Proofs.YtgifhgnccmnbiabGreatDoor
open Go.RowKit Go.IntWalk

theorem CutOut.file {f : ByteArray} {x y : Int} {w w' : World} {e : Ending} (h : CutOut f x y w w' e) {t : TT} (ht : SFile f t) {T : List (List Nat)} (hT : Sound t.rules T) (hs : ∀ s, s ∈ t.start → s < 256 + t.rules.length) (hw : t.whole = ptOf (t.start.flatMap (symT T))) (hl : t.whole.len ≤ 1099511627776) :
    RangeCase (t.start.flatMap (symT T)) x y e := by
  have hlen : (t.start.flatMap (symT T)).length = t.whole.len := by
    rw [hw, ptOf_len] at hl ⊢
    exact (capL_small hl).symm
  rcases h.out with ⟨hn, _⟩ | ⟨t', ht', h2⟩
  · exact absurd ht (hn _)
  · have := ht'.one ht
    subst this
    rcases h2 with ⟨h3, _⟩ | ⟨_, h3, he⟩ | ⟨_, h3, U, hU, he⟩
    · omega
    · rw [← hlen] at h3; exact Or.inl ⟨h3, he⟩
    · rw [← hlen] at h3
      have hT2 : SText t' T := ⟨hT, hs, hw, hU.rlen, hU.slen⟩
      rw [hU.one hT2] at he
      exact Or.inr ⟨h3, he⟩
theorem RangeCase.one {X : List Nat} {x y : Int} {e e' : Ending} (h : RangeCase X x y e) (h' : RangeCase X x y e') : e = e' := by
  rcases h with ⟨a, rfl⟩ | ⟨a, rfl⟩ <;> rcases h' with ⟨b, rfl⟩ | ⟨b, rfl⟩
  · rfl
  · exact absurd b a
  · exact absurd a b
  · rfl
end Go.Proofs.YtgifhgnccmnbiabGreatDoor

set_option linter.unusedVariables false
set_option linter.unusedSimpArgs false
namespace Go.Proofs.YtgifhgnccmnbiabGreatDoor
open Go.RowKit Go.IntWalk

def twoL (v : Nat) : List Nat := [v % 256, v / 256]
def symOf (tx : List Nat) (n : Nat) : Nat := if n = 0 then tx.getD 0 0 else 255 + n
def secOf (tx : List Nat) (n : Nat) : Nat := if n + 1 < tx.length then tx.getD (n + 1) 0 else symOf tx n
def rulesL (tx : List Nat) (n : Nat) : List Nat := (List.range n).flatMap fun i => twoL (symOf tx i) ++ twoL (secOf tx i)
def fileL (tx : List Nat) (k : Nat) (more : List Nat) : List Nat :=
  [83, 71, tx.length - 1 + k] ++ rulesL tx (tx.length - 1 + k) ++ twoL (1 + more.length) ++ twoL (symOf tx (tx.length - 1 + k)) ++ more.flatMap twoL
theorem rulesL_succ (tx : List Nat) (n : Nat) : rulesL tx (n + 1) = rulesL tx n ++ (twoL (symOf tx n) ++ twoL (secOf tx n)) := by
  unfold rulesL; rw [List.range_succ, List.flatMap_append]; simp
theorem rulesL_len (tx : List Nat) : ∀ n, (rulesL tx n).length = 4 * n
  | 0 => rfl
  | n + 1 => by rw [rulesL_succ, List.length_append, rulesL_len tx n]; rfl
theorem rulesL_get (tx : List Nat) : ∀ n i j, i < n → j < 4 → (rulesL tx n).getD (4 * i + j) 0 = (twoL (symOf tx i) ++ twoL (secOf tx i)).getD j 0
  | 0, i, j, hi, _ => by omega
  | n + 1, i, j, hi, hj => by
    rw [rulesL_succ]
    have hl := rulesL_len tx n
    simp only [List.getD]
    by_cases h : i < n
    · rw [List.getElem?_append_left (by omega)]
      exact rulesL_get tx n i j h hj
    · have : i = n := by omega
      subst this
      rw [List.getElem?_append_right (by omega), hl, Nat.add_sub_cancel_left]
theorem more_len : ∀ l : List Nat, (l.flatMap twoL).length = 2 * l.length
  | [] => rfl
  | x :: l => by rw [List.flatMap_cons, List.length_append, more_len l]; simp [twoL]; omega
theorem more_get : ∀ (l : List Nat) (i j : Nat), i < l.length → j < 2 → (l.flatMap twoL).getD (2 * i + j) 0 = (twoL (l.getD i 0)).getD j 0
  | [], i, j, h, _ => by simp at h
  | x :: l, 0, j, _, hj => by
    rw [List.flatMap_cons]
    simp only [List.getD]
    rw [List.getElem?_append_left (by simp [twoL]; omega)]
    simp
  | x :: l, i + 1, j, h, hj => by
    rw [List.flatMap_cons]
    have := more_get l i j (by simpa using h) hj
    simp only [List.getD] at this ⊢
    rw [List.getElem?_append_right (by simp [twoL]; omega), show 2 * (i + 1) + j - (twoL x).length = 2 * i + j by simp [twoL]; omega, this]
    rfl
theorem bt_list {f : ByteArray} (i : Nat) : bt f i = (bytesN f).getD i 0 := by
  unfold bt bytesN
  split
  · rename_i h
    have h2 : i < f.data.toList.length := h
    simp only [List.getD]
    rw [List.getElem?_map, List.getElem?_eq_getElem h2]
    rfl
  · rename_i h
    have h2 : ¬ i < f.data.toList.length := h
    simp only [List.getD]
    rw [List.getElem?_map, List.getElem?_eq_none (by omega)]
    rfl

/-- A file with these bytes. -/
structure Dbl (f : ByteArray) (tx : List Nat) (k : Nat) (more : List Nat) : Prop where
  file : bytesN f = fileL tx k more
  pos : 1 ≤ tx.length
  len : tx.length ≤ 40
  k : k ≤ 40
  mlen : more.length ≤ 600
  byte : ∀ c, c ∈ tx → c < 256
  mbyte : ∀ c, c ∈ more → c < 256
section
variable {f : ByteArray} {tx more : List Nat} {k : Nat} (h : Dbl f tx k more)
include h
theorem Dbl.size : f.size = 7 + 4 * (tx.length - 1 + k) + 2 * more.length := by
  rw [← bytesN_len, h.file]
  unfold fileL
  simp only [List.length_append, rulesL_len, more_len]
  simp [twoL]
  omega
theorem Dbl.get (i : Nat) : bt f i = (fileL tx k more).getD i 0 := by rw [bt_list, h.file]
theorem Dbl.b0 : bt f 0 = 83 := by rw [h.get]; rfl
theorem Dbl.b1 : bt f 1 = 71 := by rw [h.get]; rfl
theorem Dbl.b2 : bt f 2 = tx.length - 1 + k := by rw [h.get]; rfl
theorem Dbl.rule (i j : Nat) (hi : i < tx.length - 1 + k) (hj : j < 4) : bt f (3 + 4 * i + j) = (twoL (symOf tx i) ++ twoL (secOf tx i)).getD j 0 := by
  rw [h.get, ← rulesL_get tx _ i j hi hj]
  have hl := rulesL_len tx (tx.length - 1 + k)
  unfold fileL
  simp only [List.getD, List.append_assoc]
  rw [List.getElem?_append_right (by simp; omega)]
  rw [List.getElem?_append_left (by rw [hl]; simp; omega)]
  congr 2
  simp; omega
theorem Dbl.top0 (j : Nat) (hj : j < 2) : bt f (3 + 4 * (tx.length - 1 + k) + j) = (twoL (1 + more.length)).getD j 0 := by
  rw [h.get]
  have hl := rulesL_len tx (tx.length - 1 + k)
  unfold fileL
  simp only [List.getD, List.append_assoc]
  rw [List.getElem?_append_right (by simp; omega), List.getElem?_append_right (by rw [hl]; simp; omega), List.getElem?_append_left (by rw [hl]; simp [twoL]; omega)]
  congr 2
  rw [hl]; simp; omega
theorem Dbl.sym0 (j : Nat) (hj : j < 2) : bt f (5 + 4 * (tx.length - 1 + k) + j) = (twoL (symOf tx (tx.length - 1 + k))).getD j 0 := by
  rw [h.get]
  have hl := rulesL_len tx (tx.length - 1 + k)
  unfold fileL
  simp only [List.getD, List.append_assoc]
  rw [List.getElem?_append_right (by simp; omega), List.getElem?_append_right (by rw [hl]; simp; omega), List.getElem?_append_right (by rw [hl]; simp [twoL]; omega), List.getElem?_append_left (by rw [hl]; simp [twoL]; omega)]
  congr 2
  rw [hl]; simp [twoL]; omega
theorem Dbl.symN (i j : Nat) (hi : i < more.length) (hj : j < 2) : bt f (7 + 4 * (tx.length - 1 + k) + 2 * i + j) = (twoL (more.getD i 0)).getD j 0 := by
  rw [h.get, ← more_get more i j hi hj]
  have hl := rulesL_len tx (tx.length - 1 + k)
  unfold fileL
  simp only [List.getD, List.append_assoc]
  rw [List.getElem?_append_right (by simp; omega), List.getElem?_append_right (by rw [hl]; simp; omega), List.getElem?_append_right (by rw [hl]; simp [twoL]; omega), List.getElem?_append_right (by rw [hl]; simp [twoL]; omega)]
  congr 2
  rw [hl]; simp [twoL]; omega
end
theorem two_nat (v : Nat) : (twoL v).getD 0 0 + 256 * (twoL v).getD 1 0 = v := by
  show v % 256 + 256 * (v / 256) = v
  omega
section
variable {f : ByteArray} {tx more : List Nat} {k : Nat} (h : Dbl f tx k more)
include h
theorem Dbl.pa (i : Nat) (hi : i < tx.length - 1 + k) : prI f (3 + 4 * i) = (symOf tx i : Int) := by
  have hs := h.size
  rw [prI_of (by omega)]
  have e0 := h.rule i 0 hi (by omega)
  have e1 := h.rule i 1 hi (by omega)
  rw [show 3 + 4 * i + 0 = 3 + 4 * i by omega] at e0
  rw [e0, e1]
  exact congrArg _ (two_nat (symOf tx i))
theorem Dbl.pb (i : Nat) (hi : i < tx.length - 1 + k) : prI f (5 + 4 * i) = (secOf tx i : Int) := by
  have hs := h.size
  rw [prI_of (by omega)]
  have e0 := h.rule i 2 hi (by omega)
  have e1 := h.rule i 3 hi (by omega)
  rw [show 3 + 4 * i + 2 = 5 + 4 * i by omega] at e0
  rw [show 3 + 4 * i + 3 = 5 + 4 * i + 1 by omega] at e1
  rw [e0, e1]
  exact congrArg _ (two_nat (secOf tx i))
theorem Dbl.pn : prI f (3 + 4 * (tx.length - 1 + k)) = ((1 + more.length : Nat) : Int) := by
  have hs := h.size
  rw [prI_of (by omega)]
  have e0 := h.top0 0 (by omega)
  have e1 := h.top0 1 (by omega)
  rw [show 3 + 4 * (tx.length - 1 + k) + 0 = 3 + 4 * (tx.length - 1 + k) by omega] at e0
  rw [e0, e1]
  exact congrArg _ (two_nat (1 + more.length))
theorem Dbl.ps0 : prI f (5 + 4 * (tx.length - 1 + k)) = (symOf tx (tx.length - 1 + k) : Int) := by
  have hs := h.size
  rw [prI_of (by omega)]
  have e0 := h.sym0 0 (by omega)
  have e1 := h.sym0 1 (by omega)
  rw [show 5 + 4 * (tx.length - 1 + k) + 0 = 5 + 4 * (tx.length - 1 + k) by omega] at e0
  rw [e0, e1]
  exact congrArg _ (two_nat _)
theorem Dbl.psN (i : Nat) (hi : i < more.length) : prI f (7 + 4 * (tx.length - 1 + k) + 2 * i) = (more.getD i 0 : Int) := by
  have hs := h.size
  rw [prI_of (by omega)]
  have e0 := h.symN i 0 hi (by omega)
  have e1 := h.symN i 1 hi (by omega)
  rw [show 7 + 4 * (tx.length - 1 + k) + 2 * i + 0 = 7 + 4 * (tx.length - 1 + k) + 2 * i by omega] at e0
  rw [e0, e1]
  exact congrArg _ (two_nat _)
theorem Dbl.get_lt (i : Nat) : tx.getD i 0 < 256 := by
  by_cases hi : i < tx.length
  · have : tx.getD i 0 = tx[i] := by simp [List.getD, hi]
    rw [this]; exact h.byte _ (List.getElem_mem hi)
  · have : tx.getD i 0 = 0 := by simp [List.getD, List.getElem?_eq_none (by omega : tx.length ≤ i)]
    omega
theorem Dbl.sym_lt (n : Nat) : symOf tx n < 256 + n := by
  unfold symOf
  split
  · have := h.get_lt 0; omega
  · omega
theorem Dbl.sec_lt (n : Nat) : secOf tx n < 256 + n := by
  unfold secOf
  split
  · have := h.get_lt (n + 1); omega
  · exact h.sym_lt n
theorem Dbl.ok : GOk f := by
  have hs := h.size
  have hl := h.len
  have hk := h.k
  have hp := h.pos
  have hm := h.mlen
  have e2 := h.b2
  refine ⟨by omega, by omega, ⟨h.b0, h.b1⟩, by omega, fun i hi => ?_, ?_, ?_, ?_, fun i hi => ?_⟩
  · rw [e2] at hi
    obtain ⟨j, hj | hj⟩ : ∃ j, i = 2 * j ∨ i = 2 * j + 1 := ⟨i / 2, by omega⟩
    · subst hj
      rw [show 3 + 2 * (2 * j) = 3 + 4 * j by omega, show 2 * j / 2 = j by omega, h.pa j (by omega)]
      have := h.sym_lt j; omega
    · subst hj
      rw [show 3 + 2 * (2 * j + 1) = 5 + 4 * j by omega, show (2 * j + 1) / 2 = j by omega, h.pb j (by omega)]
      have := h.sec_lt j; omega
  · rw [e2, h.pn]; omega
  · rw [e2, h.pn]; omega
  · rw [e2, h.pn, hs]; omega
  · rw [e2, h.pn] at hi
    rw [e2]
    by_cases h0 : i = 0
    · subst h0
      rw [Nat.mul_zero, Nat.add_zero, h.ps0]
      have := h.sym_lt (tx.length - 1 + k); omega
    · obtain ⟨j, rfl⟩ : ∃ j, i = j + 1 := ⟨i - 1, by omega⟩
      rw [show 5 + 4 * (tx.length - 1 + k) + 2 * (j + 1) = 7 + 4 * (tx.length - 1 + k) + 2 * j by omega, h.psN j (by omega)]
      have : more.getD j 0 < 256 := by
        have hj : j < more.length := by omega
        have e : more.getD j 0 = more[j] := by simp [List.getD, hj]
        rw [e]; exact h.mbyte _ (List.getElem_mem hj)
      omega
end

/-- So many times over. -/
def repL (tx : List Nat) : Nat → List Nat
  | 0 => []
  | n + 1 => repL tx n ++ tx
theorem repL_len (tx : List Nat) : ∀ n, (repL tx n).length = n * tx.length
  | 0 => by simp [repL]
  | n + 1 => by rw [repL, List.length_append, repL_len tx n, Nat.succ_mul]
theorem repL_add (tx : List Nat) (a : Nat) : ∀ b, repL tx (a + b) = repL tx a ++ repL tx b
  | 0 => by simp [repL]
  | b + 1 => by rw [← Nat.add_assoc, repL, repL_add tx a b, repL, List.append_assoc]
/-- The text of the symbol behind n rules. -/
def dW (tx : List Nat) (n : Nat) : List Nat := if n < tx.length then tx.take (n + 1) else repL tx (2 ^ (n + 1 - tx.length))
theorem dW_succ {tx : List Nat} (hp : 1 ≤ tx.length) (n : Nat) : dW tx (n + 1) = dW tx n ++ (if n + 1 < tx.length then [tx.getD (n + 1) 0] else dW tx n) := by
  unfold dW
  by_cases h1 : n + 1 < tx.length
  · rw [if_pos h1, if_pos (by omega), if_pos h1, List.take_add_one (i := n + 1), List.getElem?_eq_getElem h1]
    simp [List.getD, h1]
  · rw [if_neg h1, if_neg h1]
    by_cases h2 : n < tx.length
    · have e : tx.take (n + 1) = tx := List.take_of_length_le (by omega)
      rw [if_pos h2, e, show n + 1 + 1 - tx.length = 1 by omega]
      simp [repL]
    · rw [if_neg h2, ← repL_add, show n + 1 + 1 - tx.length = n + 1 - tx.length + 1 by omega, Nat.pow_succ]
      congr 1; omega
section
variable {f : ByteArray} {tx more : List Nat} {k : Nat} (h : Dbl f tx k more)
include h
theorem Dbl.ga (i : Nat) (hi : i < tx.length - 1 + k) : gA f i = symOf tx i := by unfold gA; rw [h.pa i hi]; rfl
theorem Dbl.gb (i : Nat) (hi : i < tx.length - 1 + k) : gB f i = secOf tx i := by unfold gB; rw [h.pb i hi]; rfl
theorem Dbl.txs : ∀ n, n ≤ tx.length - 1 + k → gTx f n = (List.range n).map (fun i => dW tx (i + 1))
  | 0, _ => rfl
  | n + 1, hn => by
    have ih := Dbl.txs n (by omega)
    have hsym : symT (gTx f n) (symOf tx n) = dW tx n := by
      unfold symOf
      by_cases h0 : n = 0
      · subst h0
        rw [if_pos rfl]
        have hb := h.get_lt 0
        have hp := h.pos
        unfold symT dW
        rw [if_pos hb, if_pos (by omega), List.take_add_one, List.take_zero, List.getElem?_eq_getElem (by omega)]
        simp [List.getD, List.getElem?_eq_getElem (by omega : 0 < tx.length)]
      · rw [if_neg h0, ih]
        unfold symT
        rw [if_neg (by omega), show 255 + n - 256 = n - 1 by omega]
        simp only [List.getD]
        rw [List.getElem?_map, List.getElem?_range (by omega)]
        simp
        congr 1; omega
    have hsec : symT (gTx f n) (secOf tx n) = if n + 1 < tx.length then [tx.getD (n + 1) 0] else dW tx n := by
      unfold secOf
      by_cases h1 : n + 1 < tx.length
      · rw [if_pos h1, if_pos h1]
        unfold symT
        rw [if_pos (h.get_lt _)]
      · rw [if_neg h1, if_neg h1]; exact hsym
    show gTx f n ++ [symT (gTx f n) (Go.Proofs.YtgifhgnccmnbiabGreatDoor.gA f n) ++ symT (gTx f n) (Go.Proofs.YtgifhgnccmnbiabGreatDoor.gB f n)] = _
    rw [h.ga n (by omega), h.gb n (by omega), hsym, hsec, ← dW_succ h.pos, ih, List.range_succ, List.map_append]
    rfl
theorem Dbl.gn : gN f = 1 + more.length := by unfold gN; rw [h.b2, h.pn]; rfl
theorem Dbl.tops : ∀ j, j ≤ more.length → gTop f (j + 1) = symOf tx (tx.length - 1 + k) :: more.take j
  | 0, _ => by
    show [] ++ [gS f 0] = _
    have e : gS f 0 = symOf tx (tx.length - 1 + k) := by unfold gS; rw [h.b2, Nat.mul_zero, Nat.add_zero, h.ps0]; rfl
    rw [e]; rfl
  | j + 1, hj => by
    have ih := Dbl.tops j (by omega)
    show gTop f (j + 1) ++ [gS f (j + 1)] = _
    have e : gS f (j + 1) = more.getD j 0 := by
      unfold gS
      rw [h.b2, show 5 + 4 * (tx.length - 1 + k) + 2 * (j + 1) = 7 + 4 * (tx.length - 1 + k) + 2 * j by omega, h.psN j (by omega)]; rfl
    rw [ih, e, List.take_add_one, List.getElem?_eq_getElem (by omega)]
    simp [List.getD, List.getElem?_eq_getElem (by omega : j < more.length)]
theorem Dbl.flat : (gTop f (gN f)).flatMap (symT (gTx f (bt f 2))) = repL tx (2 ^ k) ++ more := by
  have hp := h.pos
  rw [h.gn, Nat.add_comm, h.tops _ (Nat.le_refl _), List.take_length, List.flatMap_cons, h.b2]
  congr 1
  · have h1 := h.txs (tx.length - 1 + k) (Nat.le_refl _)
    have hd : dW tx (tx.length - 1 + k) = repL tx (2 ^ k) := by
      unfold dW
      by_cases hk : k = 0
      · subst hk
        rw [if_pos (by omega), List.take_of_length_le (by omega)]
        simp [repL]
      · rw [if_neg (by omega), show tx.length - 1 + k + 1 - tx.length = k by omega]
    rw [← hd]
    unfold symOf
    by_cases h0 : tx.length - 1 + k = 0
    · rw [if_pos h0, h0]
      unfold symT dW
      rw [if_pos (h.get_lt 0), if_pos (by omega), List.take_add_one, List.take_zero, List.getElem?_eq_getElem (by omega)]
      simp [List.getD, List.getElem?_eq_getElem (by omega : 0 < tx.length)]
    · rw [if_neg h0, h1]
      unfold symT
      rw [if_neg (by omega), show 255 + (tx.length - 1 + k) - 256 = tx.length - 1 + k - 1 by omega]
      simp only [List.getD]
      rw [List.getElem?_map, List.getElem?_range (by omega)]
      simp
      congr 1; omega
  · have : ∀ l : List Nat, (∀ c, c ∈ l → c < 256) → ∀ T, l.flatMap (symT T) = l := by
      intro l
      induction l with
      | nil => intro _ _; rfl
      | cons x l ih =>
        intro hl T
        have e : symT T x = [x] := if_pos (hl x (by simp))
        rw [List.flatMap_cons, e, ih (fun y hy => hl y (by simp [hy])) T]; rfl
    exact this more h.mbyte _
/-- What the code's reader makes of it. -/
theorem Dbl.stext : SFile f (sgT f) ∧ SText (sgT f) (gTx f (bt f 2)) ∧ (sgT f).start.flatMap (symT (gTx f (bt f 2))) = repL tx (2 ^ k) ++ more := by
  have hg := h.ok
  have hf : SFile f (sgT f) := SFile.rules (by have := hg.five; omega) hg.most hg.sg hg.ok
  obtain ⟨e1, e2, e3, e4, e5⟩ := hg.read
  have hR : (sgT f).rules = gRu f (bt f 2) := by show (sgG f).1 = _; rw [e2]
  have hSt : (sgT f).start = gTop f (gN f) := e5
  have hW : (sgT f).whole = ptOf ((gTop f (gN f)).flatMap (symT (gTx f (bt f 2)))) := by
    show wholeP (sgG f).1 (sgS f).1 = _
    rw [e2, e5]
    exact whole_pt (hg.sound _ (Nat.le_refl _)) _ (fun s hs => by rw [gTx_len]; exact hg.top _ (Nat.le_refl _) s hs) []
  refine ⟨hf, ⟨by rw [hR]; exact hg.sound _ (Nat.le_refl _), by rw [hR, hSt, gRu_len]; exact fun s hs => hg.top _ (Nat.le_refl _) s hs, by rw [hSt]; exact hW, by rw [hR, gRu_len]; have := hg.r; omega, by rw [hSt, gTop_len]; have := hg.n; omega⟩, by rw [hSt]; exact h.flat⟩
end

end Go.Proofs.YtgifhgnccmnbiabGreatDoor
