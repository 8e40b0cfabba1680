/- The document's PackZ, walked. -/
import Derived.Test.YtgifhgnccmnbiaaRzPick
import Derived.Test.YtgifhgnccmnbiaaRzTail
import Derived.Deep.DeepCutAuto
set_option linter.unusedVariables false
set_option linter.unusedSimpArgs false
namespace Go.Proofs.Ytgifhgnccmnbiaa
open Go.RowKit Go.IntWalk

def dit (wd : Nat) (t : ByteArray) : Nat → DS
  | 0 => ⟨[], [], 0, t⟩
  | m + 1 => dstep wd (dit wd t m)
structure DInv (t : ByteArray) (m : Nat) (s : DS) : Prop where
  n : s.n = m
  x : s.x.size + m ≤ t.size
  D : s.D.length ≤ m
  S : s.S.length ≤ 12 * m
  bit : ∀ c, c ∈ s.S → c < 2
theorem DInv.step {t : ByteArray} {m wd : Nat} {s : DS} (h : DInv t m s) (hx : 1 ≤ s.x.size) : DInv t (m + 1) (dstep wd s) := by
  obtain ⟨a, b, c⟩ := dpick_bd hx s.D s.D.length
  have hw := widP_bd (dfree s.n wd) wd
  refine ⟨by show s.n + 1 = _; rw [h.n], ?_, ?_, ?_, ?_⟩
  · show (s.x.extract _ s.x.size).size + _ ≤ _
    have := h.x
    rw [ByteArray.size_extract]; omega
  · show (if _ then _ else _ : List ByteArray).length ≤ _
    have := h.D
    split
    · simp; omega
    · omega
  · show (s.S ++ bitsOf _ _).length ≤ _
    have := h.S
    rw [List.length_append, bitsOf_len]; omega
  · intro z hz
    rcases List.mem_append.1 hz with hz | hz
    · exact h.bit z hz
    · unfold bitsOf at hz
      obtain ⟨i, _, rfl⟩ := List.mem_map.1 hz
      omega
theorem and_1 (x : Nat) (hx : x < 65536) : bits .and .i64 (x : Int) 1 = ((x % 2 : Nat) : Int) := by
  have := bits_mask .i64 62 (by decide) wraps_i64 1 (by decide) (x : Int) (by omega) (by omega)
  have e : ((2 : Int) ^ 1 - 1) = 1 := by decide
  rw [e] at this
  rw [this]; omega

/-- The two lists in memory. -/
structure DMem (w0 w : World) (s : DS) (dv sv : Value) : Prop where
  below : Below w0.heap.size w0 w
  tab : w.ownsRow w0.heap.size 9 1 dv s.D.length (strRow s.D)
  bits : w.ownsRow w0.heap.size 3 1 sv s.S.length (symCells s.S)

/-- What the document's PackZ comes to. -/
structure RzOut (t : ByteArray) (wd : Nat) (e : Ending) : Prop where
  ex : ∃ m, (∀ i, i < m → (dit wd t i).x.size ≠ 0) ∧ (dit wd t m).x.size = 0 ∧ e = .returned (.tuple #[.string (bytesB ([83, 90, wd] ++ dbytes (dit wd t m).S (((dit wd t m).S.length + 7) / 8))), .int .i64 0])

set_option maxHeartbeats 4000000 in
set_option maxRecDepth 100000 in
theorem rpackZ_any (t : ByteArray) (ht : t.size ≤ 600) (wd : Nat) (hwd : 9 ≤ wd ∧ wd ≤ 12) (w : World) :
    Calls Try.prog 30 #[.string t, .int .i64 (wd : Int)] w fun e w' => RzOut t wd e ∧ Below w.heap.size w w' := by
  obtain ⟨P, hP⟩ : ∃ P, 2 ^ wd = P := ⟨_, rfl⟩
  have hP4 : P ≤ 4096 := by rw [← hP]; exact Nat.pow_le_pow_right (by decide) hwd.2
  have he : ((2 : Int) ^ wd) = (P : Int) := by rw [← hP]; simp [Int.natCast_pow]
  have hPH : Hid (2 ^ wd = P) := hP
  have hw1 : wrap64 ((2 : Int) ^ wd) = (P : Int) := by rw [he]; exact wrap64_in _ (by omega)
  have hw2 : wrap64 (1 * (2 : Int) ^ wd) = (P : Int) := by rw [Int.one_mul]; exact hw1
  have hwd9 : (9 : Int) ≤ (wd : Int) := by omega
  have hwd12 : (wd : Int) ≤ 12 := by omega
  have ht' : (t.size : Int) ≤ 600 := by omega
  clear hP he
  go_enter Try.func30, Try.ntmps30
  go_wp2_with fail
  go_loopw [0, 6, 7, 8] (fun xv dv sv nv wr => ∃ (m : Nat) (da sa : Option Addr) (dk dc sk sc : Nat), xv = .string (dit wd t m).x ∧ dv = .slice da dk dc ∧ sv = .slice sa sk sc ∧ nv = .int .i64 (m : Int) ∧ DInv t m (dit wd t m) ∧ Hid (∀ i, i < m → (dit wd t i).x.size ≠ 0) ∧ DMem w wr (dit wd t m) (.slice da dk dc) (.slice sa sk sc)) (fun xv _ _ _ _ => match xv with | .string x => x.size | _ => 0)
  case atStart => exact ⟨0, none, none, 0, 0, 0, 0, rfl, rfl, rfl, rfl, ⟨rfl, Nat.le_refl _, Nat.le_refl _, Nat.le_refl _, fun c hc => by simp [dit] at hc⟩, (fun i hi => by omega : ∀ i, i < 0 → (dit wd t i).x.size ≠ 0), ⟨Below.refl _ _, World.ownsRow_nil _ _ _ _, World.ownsRow_nil _ _ _ _⟩⟩
  case round =>
    obtain ⟨m, da, sa, dk, dc, sk, sc, rfl, rfl, rfl, rfl, hI, hon, hM⟩ := hrel
    obtain ⟨s, hs⟩ : ∃ s, Hid (dit wd t m = s) := ⟨_, rfl⟩
    have hstep : Hid (dit wd t (m + 1) = dstep wd s) := by show dstep wd (dit wd t m) = _; rw [hs.out]
    rw [hs.out] at hI hM ⊢
    have hdk : dk = s.D.length := by
      rcases hM.tab.2 with ⟨h1, h2⟩ | ⟨g, cap, _, h1, _⟩
      · simp at h1; omega
      · simp at h1; omega
    subst hdk
    have hxm := hI.x
    have hDm := hI.D
    have hSm := hI.S
    have hMH : Hid (DMem _ _ _ _ _) := hM
    have hIH : Hid (DInv _ _ _) := hI
    have honH : Hid (∀ i, i < m → (dit wd t i).x.size ≠ 0) := hon.out
    clear hM hI hon
    by_cases h0 : (0 : Int) < (s.x.size : Int)
    · have hx0 : 0 < s.x.size := by omega
      have hbnd := dpick_bd hx0 s.D
      have hb0 : Hid (bt s.x 0 = s.x[0].toNat) := bt_lt hx0
      have hc8 := s.x[0].toNat_lt
      have hbeg : Hid (∀ y w, Calls Try.prog 55 #[.string s.x, .string y] w fun e w' => e = .returned (.bool (begB s.x y)) ∧ w' = w) := fun y w => begins_any s.x y (by omega) w
      have hcell : Hid (∀ q, q < s.D.length → ∃ g, da = some ⟨g, 0, none⟩ ∧ wr.cell? ⟨g, q, none⟩ = some (.string (s.D.getD q ByteArray.empty))) := fun q hq => by
        obtain ⟨g, cap, hv⟩ := own_form hMH.out.tab (by omega)
        simp only [Value.slice.injEq] at hv
        have hc : (strRow s.D)[q]? = some (.string (s.D.getD q ByteArray.empty)) := by unfold strRow; rw [List.getElem?_map, List.getElem?_eq_getElem hq]; simp [List.getD, hq]
        have := hMH.out.tab.cells (g := g) (by rw [hv.1]; rfl) q _ hc
        rw [ptr_add] at this
        exact ⟨g, hv.1, this⟩
      go_wp2_with fail
      go_loop [9, 10, 11] (fun cv lv kv => ∃ q : Nat, cv = .int .i64 ((dpick s.x s.D q).1 : Int) ∧ lv = .int .i64 ((dpick s.x s.D q).2 : Int) ∧ kv = .int .i64 (q : Int) ∧ q ≤ s.D.length) (fun _ _ kv => ((s.D.length : Int) - intOf kv).toNat)
      case atStart => exact ⟨0, by show _ = Value.int .i64 ((bt s.x 0 : Nat) : Int); rw [hb0.out], rfl, rfl, Nat.zero_le _⟩
      case round =>
        obtain ⟨q, rfl, rfl, rfl, hq⟩ := hrel
        by_cases hlt : (q : Int) < (s.D.length : Int)
        · obtain ⟨g, rfl, d1⟩ := hcell.out q (by omega)
          obtain ⟨b1, b2, b3⟩ := hbnd q
          have hpk : Hid (dpick s.x s.D (q + 1) = if begB s.x (s.D.getD q ByteArray.empty) = true ∧ (dpick s.x s.D q).2 < (s.D.getD q ByteArray.empty).size then (257 + q, (s.D.getD q ByteArray.empty).size) else dpick s.x s.D q) := rfl
          generalize s.D.getD q ByteArray.empty = y at *
          have hby : Hid (∀ w, Calls _ _ _ w _) := fun w => hbeg.out y w
          generalize dpick s.x s.D q = pk at *
          obtain ⟨pc, pl⟩ := pk
          simp only [] at hpk b1 b2 b3
          clear hbeg hbnd hcell
          have hys : begB s.x y = true → y.size ≤ 600 := fun h => by
            unfold begB at h
            rw [decide_eq_true_eq] at h
            omega
          cases hbb : begB s.x y with
          | true =>
            have hy6 := hys hbb
            rw [hbb] at hby hpk
            by_cases hl : (pl : Int) < (y.size : Int)
            · have e : Hid (_ = _) := hpk
              rw [if_pos ⟨rfl, by omega⟩] at e
              clear hpk hys hbb
              go_wp2_with (go_at_call 55; refine (hby.out _).mono ?_; rintro _ _ ⟨rfl, rfl⟩)
              refine ⟨⟨q + 1, by rw [e.out]; go_num, by rw [e.out], by go_num, by omega⟩, ?_⟩
              simp only [intOf]; omega
            · have e : Hid (_ = _) := hpk
              rw [if_neg (fun hc => by have := hc.2; omega)] at e
              clear hpk hys hbb
              go_wp2_with (go_at_call 55; refine (hby.out _).mono ?_; rintro _ _ ⟨rfl, rfl⟩)
              refine ⟨⟨q + 1, by rw [e.out], by rw [e.out], by go_num, by omega⟩, ?_⟩
              simp only [intOf]; omega
          | false =>
            rw [hbb] at hby hpk
            have e : Hid (_ = _) := hpk
            rw [if_neg (fun hc => by have := hc.1; cases this)] at e
            clear hpk hys hbb
            go_wp2_with (go_at_call 55; refine (hby.out _).mono ?_; rintro _ _ ⟨rfl, rfl⟩)
            refine ⟨⟨q + 1, by rw [e.out], by rw [e.out], by go_num, by omega⟩, ?_⟩
            simp only [intOf]; omega
        · have hqe : q = s.D.length := by omega
          subst hqe
          obtain ⟨b1, b2, b3⟩ := hbnd s.D.length
          clear hcell hbeg hbnd hlt hq
          have hst : Hid (dstep wd s = { D := if (dpick s.x s.D s.D.length).2 < s.x.size ∧ 257 + s.D.length < 2 ^ wd then s.D ++ [s.x.extract 0 ((dpick s.x s.D s.D.length).2 + 1)] else s.D, S := s.S ++ bitsOf (dpick s.x s.D s.D.length).1 (widP (dfree s.n wd) wd), n := s.n + 1, x := s.x.extract (dpick s.x s.D s.D.length).2 s.x.size }) := rfl
          rw [hPH.out, hIH.out.n] at hst
          have hdf : Hid (dfree m wd = if P < (if 1 < m then 257 + m - 1 else 257) then P else if 1 < m then 257 + m - 1 else 257) := by show dfree m wd = _; unfold dfree; rw [hPH.out]
          generalize dpick s.x s.D s.D.length = pk at *
          obtain ⟨pc, pl⟩ := pk
          simp only [] at hst b1 b2 b3
          obtain ⟨f1, hf1⟩ : ∃ f1, Hid ((if 1 < m then 257 + m - 1 else 257) = f1) := ⟨_, rfl⟩
          rw [hf1.out] at hdf
          have hf1b : f1 ≤ 1000 := by rw [← hf1.out]; split <;> omega
          obtain ⟨f2, hf2⟩ : ∃ f2, Hid (dfree m wd = f2) := ⟨_, rfl⟩
          rw [hf2.out] at hst hdf
          have hf2b : f2 ≤ 5000 := by rw [hdf.out]; split <;> omega
          have hwi : Hid (∀ w, Calls Try.prog 56 #[.int .i64 (f2 : Int), .int .i64 (wd : Int)] w fun e w' => e = .returned (.int .i64 (widP f2 wd : Int)) ∧ w' = w) := fun w => rwide_any f2 wd (by omega) hwd.1 hwd.2 w
          have hwb := widP_bd f2 wd
          obtain ⟨W, hW⟩ : ∃ W, W = widP f2 wd := ⟨_, rfl⟩
          rw [← hW] at hst hwi hwb
          clear hW hb0
          go_upto_if 67 with fail
          go_cut [13] (fun s13 wx => s13 = .int .i64 (f1 : Int) ∧ wx = wr)
          case first =>
            by_cases h1 : (1 : Int) < (m : Int)
            · have e : (f1 : Int) = 257 + (m : Int) - 1 := by have := hf1.out; rw [if_pos (by omega)] at this; omega
              go_wp2
              go_meet
              exact ⟨by rw [e], rfl⟩
            · have e : (f1 : Int) = 257 := by have := hf1.out; rw [if_neg (by omega)] at this; omega
              go_wp2
              go_meet
              exact ⟨by rw [e], rfl⟩
          case rest =>
            obtain ⟨rfl, hwx⟩ := hcut
            have hwx' := hwx.symm
            subst hwx'
            go_upto_if 75 with fail
            go_cut [13] (fun s13 wx => s13 = .int .i64 (f2 : Int) ∧ wx = wr)
            case first =>
              by_cases h1 : (P : Int) < (f1 : Int)
              · have e : (f2 : Int) = (P : Int) := by have := hdf.out; rw [if_pos (by omega)] at this; omega
                go_wp2
                go_meet
                exact ⟨by rw [e], rfl⟩
              · have e : (f2 : Int) = (f1 : Int) := by have := hdf.out; rw [if_neg (by omega)] at this; omega
                go_wp2
                go_meet
                exact ⟨by rw [e], rfl⟩
            case rest =>
              obtain ⟨rfl, hwx⟩ := hcut
              have hwx' := hwx.symm
              subst hwx'
              have hB0 : Hid (s.S ++ bitsOf pc 0 = s.S) := by show s.S ++ [] = _; simp
              go_wp2_with (go_at_call 56; refine (hwi.out _).mono ?_; rintro _ _ ⟨rfl, rfl⟩)
              go_loopw [7, 15] (fun sv iv wq => ∃ (i : Nat) (xa : Option Addr) (xk xc : Nat), sv = .slice xa xk xc ∧ iv = .int .i64 (i : Int) ∧ i ≤ W ∧ Below w.heap.size w wq ∧ wq.ownsRow w.heap.size 9 1 (.slice da s.D.length dc) s.D.length (strRow s.D) ∧ wq.ownsRow w.heap.size 3 1 (.slice xa xk xc) (s.S ++ bitsOf pc i).length (symCells (s.S ++ bitsOf pc i))) (fun _ iv _ => ((W : Int) - intOf iv).toNat)
              case atStart => exact ⟨0, sa, sk, sc, rfl, rfl, Nat.zero_le _, hMH.out.below, hMH.out.tab, by rw [hB0.out]; exact hMH.out.bits⟩
              case round =>
                obtain ⟨i, xa, xk, xc, rfl, rfl, hi, hBl, hTb, hBt⟩ := hrel
                clear hB0
                by_cases hlt : (i : Int) < (W : Int)
                · obtain ⟨i0, hi0, hz0, hz1, hz2⟩ := info_parts infoInt
                  have hand : bits .and .i64 ((pc : Int) / 2 ^ i) 1 = ((pc / 2 ^ i % 2 : Nat) : Int) := by
                    have e : ((pc : Int) / 2 ^ i) = ((pc / 2 ^ i : Nat) : Int) := by simp [Int.natCast_ediv, Int.natCast_pow]
                    rw [e]
                    exact and_1 _ (by have := Nat.div_le_self pc (2 ^ i); omega)
                  have hbs : Hid (s.S ++ bitsOf pc (i + 1) = s.S ++ bitsOf pc i ++ [pc / 2 ^ i % 2]) := by show _ = _; rw [bitsOf_succ, List.append_assoc]
                  have hbl : (s.S ++ bitsOf pc i).length ≤ 20000 := by rw [List.length_append, bitsOf_len]; omega
                  obtain ⟨L, hL⟩ : ∃ L, L = s.S ++ bitsOf pc i := ⟨_, rfl⟩
                  rw [← hL] at hBt hbs hbl
                  clear hL
                  obtain ⟨bb, hbb⟩ : ∃ bb, bb = pc / 2 ^ i % 2 := ⟨_, rfl⟩
                  rw [← hbb] at hand hbs
                  clear hbb
                  have hw : w.heap.size ≤ wr.heap.size := hBl.size
                  have own : ∀ o, (wr.alloc o).ownsRow w.heap.size 3 1 (.slice xa xk xc) L.length (symCells L) := fun o => row_stay (S := []) hBt ((Kept.refl [] wr).alloc o) (fun _ _ => by simp)
                  have ownT : Hid (∀ o, (wr.alloc o).ownsRow w.heap.size 9 1 (.slice da s.D.length dc) s.D.length (strRow s.D)) := fun o => row_stay (S := []) hTb ((Kept.refl [] wr).alloc o) (fun _ _ => by simp)
                  have hBa : Hid (∀ o, Below w.heap.size w (wr.alloc o)) := fun o => hBl.alloc hw o
                  have mb : L.length + 1 ≤ maxLen := by unfold maxLen; omega
                  have hneT : Hid ((Value.slice da s.D.length dc).ownBlock = none ∨ (Value.slice da s.D.length dc).ownBlock ≠ (Value.slice xa xk xc).ownBlock) := own_ne hTb hBt (by decide)
                  have hge : Hid (∀ g, (Value.slice xa xk xc).ownBlock = some g → w.heap.size ≤ g) := fun g hg => (hBt.lt g hg).1
                  clear hBl hTb hBt
                  go_wp2_with (at_builtin; refine wpList_append_own _ rfl (.tmp 86) (.tmp 91) 77 rfl w.heap.size 3 i0 _ 1 8 Try.underlying77 hi0 hz0 hz1 hz2 rfl (by decide) (.slice xa xk xc) L.length (symCells L) rfl (by exact own _) ⟨wr.heap.size, 0, none⟩ 1 1 [.int .i64 (bb : Int)] rfl rfl (by exact cells_new _ _ _ _ rfl) (by simp [Value.oneCell']) mb (by omega) (by simp; omega) ?kk)
                  case kk =>
                    intro v' w3 hown hg _
                    obtain ⟨gv, cap, rfl⟩ := own_form hown (by omega)
                    have hB3 : Hid (Below w.heap.size w w3) := (hBa.out _).trans ⟨hg.os, hg.tape, hg.output, hg.size, fun k hk => hg.block k (by simp; omega) (fun hc => by have := hge.out k hc.symm; omega)⟩
                    have hT3 : Hid (w3.ownsRow w.heap.size 9 1 (.slice da s.D.length dc) s.D.length (strRow s.D)) := World.ownsRow.kept (ownT.out _) hg hneT.out
                    have hS3 : Hid (w3.ownsRow w.heap.size 3 1 (.slice (some ⟨gv, 0, none⟩) (L.length + 1) cap) (s.S ++ bitsOf pc (i + 1)).length (symCells (s.S ++ bitsOf pc (i + 1)))) := by
                      show World.ownsRow _ _ _ _ _ _ _
                      rw [hbs.out, List.length_append, symCells_snoc]
                      exact hown
                    clear hown hg own
                    go_wp2
                    refine ⟨⟨i + 1, _, _, _, rfl, by go_num, by omega, hB3.out, hT3.out, hS3.out⟩, ?_⟩
                    simp only [intOf]; omega
                · have hie : i = W := by omega
                  subst hie
                  have hxs : Hid ((s.x.extract pl s.x.size).size = s.x.size - pl) := by show _ = _; simp
                  have hS' : Hid ((dstep wd s).S = s.S ++ bitsOf pc i) := by show _ = _; rw [hst.out]
                  have hx' : Hid ((dstep wd s).x = s.x.extract pl s.x.size) := by show _ = _; rw [hst.out]
                  have hinv : Hid (DInv t (m + 1) (dstep wd s)) := hIH.out.step (by omega)
                  have hon' : Hid (∀ j, j < m + 1 → (dit wd t j).x.size ≠ 0) := fun j hj => by
                    by_cases hjm : j = m
                    · rw [hjm, hs.out]; omega
                    · exact honH.out j (by omega)
                  have hBlH : Hid (Below w.heap.size w wr) := hBl
                  have hw : w.heap.size ≤ wr.heap.size := hBl.size
                  have hBtH : Hid (wr.ownsRow w.heap.size 3 1 (.slice xa xk xc) (s.S ++ bitsOf pc i).length (symCells (s.S ++ bitsOf pc i))) := hBt
                  have hpl1 : (1 : Int) ≤ (pl : Int) := by omega
                  have hpl2 : (pl : Int) ≤ (s.x.size : Int) := by omega
                  by_cases hcond : pl < s.x.size ∧ 257 + s.D.length < P
                  · have hD' : Hid ((dstep wd s).D = s.D ++ [s.x.extract 0 (pl + 1)]) := by show _ = _; rw [hst.out]; exact if_pos hcond
                    have hc1 : (pl : Int) < (s.x.size : Int) := by omega
                    have hc2 : (257 : Int) + (s.D.length : Int) < (P : Int) := by omega
                    obtain ⟨j0, hj0, hq0, hq1, hq2⟩ := info_parts infoStr
                    have own : ∀ o, (wr.alloc o).ownsRow w.heap.size 9 1 (.slice da s.D.length dc) s.D.length (strRow s.D) := fun o => row_stay (S := []) hTb ((Kept.refl [] wr).alloc o) (fun _ _ => by simp)
                    have ownS : Hid (∀ o, (wr.alloc o).ownsRow w.heap.size 3 1 (.slice xa xk xc) (s.S ++ bitsOf pc i).length (symCells (s.S ++ bitsOf pc i))) := fun o => row_stay (S := []) hBtH.out ((Kept.refl [] wr).alloc o) (fun _ _ => by simp)
                    have hBa : Hid (∀ o, Below w.heap.size w (wr.alloc o)) := fun o => hBlH.out.alloc hw o
                    have mb : s.D.length + 1 ≤ maxLen := by unfold maxLen; omega
                    have hneS : Hid ((Value.slice xa xk xc).ownBlock = none ∨ (Value.slice xa xk xc).ownBlock ≠ (Value.slice da s.D.length dc).ownBlock) := own_ne hBtH.out hTb (by decide)
                    have hge : Hid (∀ g, (Value.slice da s.D.length dc).ownBlock = some g → w.heap.size ≤ g) := fun g hg => (hTb.lt g hg).1
                    have hpx : (0 : Int) ≤ (pl : Int) + 1 := by omega
                    have hpy : (pl : Int) + 1 ≤ (s.x.size : Int) := by omega
                    clear hst hcond hBl hBt hTb hdf hlt
                    go_wp2_with (at_builtin; refine wpList_append_own _ rfl (.tmp 105) (.tmp 110) 74 rfl w.heap.size 9 j0 _ 1 16 Try.underlying74 hj0 hq0 hq1 hq2 rfl (by decide) (.slice da s.D.length dc) s.D.length (strRow s.D) rfl (by exact own _) ⟨wr.heap.size, 0, none⟩ 1 1 [.string (s.x.extract 0 (pl + 1))] rfl rfl (by exact cells_new _ _ _ _ rfl) (by simp [Value.oneCell']) mb (by omega) (by simp; omega) ?kk)
                    case kk =>
                      intro v' w3 hown hg _
                      obtain ⟨gv, cap, rfl⟩ := own_form hown (by omega)
                      have hB3 : Hid (Below w.heap.size w w3) := (hBa.out _).trans ⟨hg.os, hg.tape, hg.output, hg.size, fun k hk => hg.block k (by simp; omega) (fun hc => by have := hge.out k hc.symm; omega)⟩
                      have hS3 : Hid (w3.ownsRow w.heap.size 3 1 (.slice xa xk xc) (s.S ++ bitsOf pc i).length (symCells (s.S ++ bitsOf pc i))) := World.ownsRow.kept (ownS.out _) hg hneS.out
                      have hT3 : Hid (w3.ownsRow w.heap.size 9 1 (.slice (some ⟨gv, 0, none⟩) (s.D.length + 1) cap) (s.D ++ [s.x.extract 0 (pl + 1)]).length (strRow (s.D ++ [s.x.extract 0 (pl + 1)]))) := by
                        show World.ownsRow _ _ _ _ _ _ _
                        rw [List.length_append, strRow_snoc]
                        exact hown
                      clear hown hg own
                      go_wp2
                      refine ⟨⟨m + 1, _, _, _, _, _, _, by rw [hstep.out, hx'.out], rfl, rfl, by go_num, by rw [hstep.out]; exact hinv.out, hon', ⟨hB3.out, by rw [hstep.out, hD'.out]; exact hT3.out, by rw [hstep.out, hS'.out]; exact hS3.out⟩⟩, ?_⟩
                      show (s.x.extract pl s.x.size).size < s.x.size
                      rw [hxs.out]; omega
                  · have hD' : Hid ((dstep wd s).D = s.D) := by show _ = _; rw [hst.out]; exact if_neg hcond
                    have hTH : Hid (wr.ownsRow w.heap.size 9 1 (.slice da s.D.length dc) s.D.length (strRow s.D)) := hTb
                    clear hst hBl hBt hTb hdf hlt
                    by_cases hc1 : (pl : Int) < (s.x.size : Int)
                    · have hc2 : (P : Int) ≤ (257 : Int) + (s.D.length : Int) := by omega
                      clear hcond
                      go_wp2
                      refine ⟨⟨m + 1, _, _, _, _, _, _, by rw [hstep.out, hx'.out], rfl, rfl, by go_num, by rw [hstep.out]; exact hinv.out, hon', ⟨hBlH.out, by rw [hstep.out, hD'.out]; exact hTH.out, by rw [hstep.out, hS'.out]; exact hBtH.out⟩⟩, ?_⟩
                      show (s.x.extract pl s.x.size).size < s.x.size
                      rw [hxs.out]; omega
                    · clear hcond
                      go_wp2
                      refine ⟨⟨m + 1, _, _, _, _, _, _, by rw [hstep.out, hx'.out], rfl, rfl, by go_num, by rw [hstep.out]; exact hinv.out, hon', ⟨hBlH.out, by rw [hstep.out, hD'.out]; exact hTH.out, by rw [hstep.out, hS'.out]; exact hBtH.out⟩⟩, ?_⟩
                      show (s.x.extract pl s.x.size).size < s.x.size
                      rw [hxs.out]; omega
    · have hx0 : Hid (s.x.size = 0) := by show _ = _; omega
      have hbt := hIH.out.bit
      have hsk : sk = s.S.length := by
        rcases hMH.out.bits.2 with ⟨h1, h2⟩ | ⟨g, cap, _, h1, _⟩
        · simp at h1; omega
        · simp at h1; omega
      subst hsk
      obtain ⟨R, hR⟩ : ∃ R, Hid (bytesB (83 :: 90 :: wd :: dbytes s.S ((s.S.length + 7) / 8)) = R) := ⟨_, rfl⟩
      have hfin : Hid (RzOut t wd (.returned (.tuple #[.string R, .int .i64 0]))) := ⟨m, honH.out, by rw [hs.out]; exact hx0.out, by rw [hs.out]; show _ = Ending.returned (.tuple #[.string (bytesB (83 :: 90 :: wd :: dbytes s.S ((s.S.length + 7) / 8))), .int .i64 0]); rw [hR.out]⟩
      have hbel := hMH.out.below
      have hsz : w.heap.size ≤ wr.heap.size := hbel.size
      have hrow0 : Hid ((wr.alloc (.cells #[.int .u8 83, .int .u8 90, .int .u8 (wd : Int)] 5)).ownsRow w.heap.size 5 1 (.slice (some ⟨wr.heap.size, 0, none⟩) 3 3) (3 + 0) (byteCells ([83, 90, wd] ++ dbytes s.S 0))) := own_fresh wr _ hsz [83, 90, wd] (by simp)
      have hst0 : Hid (Below w.heap.size w (wr.alloc (.cells #[.int .u8 83, .int .u8 90, .int .u8 (wd : Int)] 5)) ∧ (wr.alloc (.cells #[.int .u8 83, .int .u8 90, .int .u8 (wd : Int)] 5)).ownsRow w.heap.size 3 1 (.slice sa s.S.length sc) s.S.length (symCells s.S)) := ⟨hbel.alloc hsz _, row_stay (S := []) hMH.out.bits ((Kept.refl [] wr).alloc _) (fun _ _ => by simp)⟩
      have hS600 : s.S.length ≤ 7200 := by omega
      clear hbel hstep
      generalize s.S = S at *
      have hbt : Hid (∀ c, c ∈ S → c < 2) := hbt
      go_wp2_with fail
      go_loopw [16, 17] (fun ov av wr => ∃ (j : Nat) (xa : Option Addr) (xk xc : Nat), ov = .slice xa xk xc ∧ av = .int .i64 ((8 * j : Nat) : Int) ∧ 8 * j < S.length + 8 ∧ Below w.heap.size w wr ∧ wr.ownsRow w.heap.size 3 1 (.slice sa S.length sc) S.length (symCells S) ∧ wr.ownsRow w.heap.size 5 1 (.slice xa xk xc) (3 + j) (byteCells ([83, 90, wd] ++ dbytes S j))) (fun _ av _ => ((S.length : Int) + 8 - intOf av).toNat)
      case atStart => exact ⟨0, _, _, _, rfl, rfl, by omega, hst0.out.1, hst0.out.2, hrow0.out⟩
      case round =>
        clear hrow0 hst0
        obtain ⟨j, xa, xk, xc, rfl, rfl, hj, hBl, hSt, hOut⟩ := hrel
        have hBlH : Hid (Below _ _ _) := hBl
        have hw : w.heap.size ≤ wr.heap.size := hBl.size
        have hOutH : Hid (World.ownsRow _ _ _ _ _ _ _) := hOut
        have hStH : Hid (wr.ownsRow w.heap.size 3 1 (.slice sa S.length sc) S.length (symCells S)) := hSt
        obtain ⟨p, hp⟩ : ∃ p, p = 8 * j := ⟨_, rfl⟩
        rw [← hp] at hj ⊢
        have hpH : Hid (p = 8 * j) := hp
        have hj9 : j ≤ 1000 := by omega
        clear hp
        by_cases hlt : (p : Int) < (S.length : Int)
        · have hcell : Hid (∀ i, p + i < S.length → ∃ g, sa = some ⟨g, 0, none⟩ ∧ wr.cell? ⟨g, p + i, none⟩ = some (.int .i64 ((S.getD (p + i) 0 : Nat) : Int))) := fun i hi => by
            obtain ⟨g, cap, hv⟩ := own_form hSt (by omega)
            simp only [Value.slice.injEq] at hv
            have := hSt.cells (g := g) (by rw [hv.1]; rfl) (p + i) _ (symCells_get S (p + i) hi)
            rw [ptr_add] at this
            exact ⟨g, hv.1, this⟩
          clear hBl hSt hOut
          go_wp2_with fail
          go_loop [18, 19] (fun vv iv => ∃ i : Nat, vv = .int .i64 ((dbyte S p i : Nat) : Int) ∧ iv = .int .i64 (i : Int) ∧ i ≤ 8) (fun _ iv => (8 - intOf iv).toNat)
          case atStart => exact ⟨0, rfl, rfl, by omega⟩
          case round =>
            obtain ⟨i, rfl, rfl, hi⟩ := hrel
            have hdl := dbyte_lt hbt.out p i
            have hd8 : dbyte S p i < 256 := Nat.lt_of_lt_of_le hdl (Nat.pow_le_pow_right (by decide) hi)
            by_cases h8 : (i : Int) < 8
            · by_cases hin : (p : Int) + (i : Int) < (S.length : Int)
              · obtain ⟨g, rfl, d1⟩ := hcell.out i (by omega)
                have hc2 : S.getD (p + i) 0 < 2 := by
                  have hpi : p + i < S.length := by omega
                  have e : S.getD (p + i) 0 = S[p + i] := by simp [List.getD, hpi]
                  rw [e]; exact hbt.out _ (List.getElem_mem hpi)
                have hnx : Hid (dbyte S p (i + 1) = dbyte S p i + S.getD (p + i) 0 * 2 ^ i) := by show _ = _; rw [dbyte, if_pos (by omega)]
                have hp2 : 2 ^ i ≤ 2 ^ 8 := Nat.pow_le_pow_right (by decide) hi
                have hm2 : S.getD (p + i) 0 * 2 ^ i ≤ 1 * 256 := Nat.mul_le_mul (by omega) hp2
                obtain ⟨M, hM⟩ : ∃ M, M = S.getD (p + i) 0 * 2 ^ i := ⟨_, rfl⟩
                have hsh : wrap64 (((S.getD (p + i) 0 : Nat) : Int) * 2 ^ i) = (M : Int) := by
                  have e : (((S.getD (p + i) 0 : Nat) : Int) * 2 ^ i) = (M : Int) := by rw [hM]; simp [Int.natCast_mul, Int.natCast_pow]
                  rw [← hM] at hm2
                  rw [e]; exact wrap64_in _ (by omega)
                rw [← hM] at hnx hm2
                clear hM hp2 hdl
                generalize S.getD (p + i) 0 = cb at *
                generalize dbyte S p i = V at *
                have hM9 : M ≤ 256 := hm2
                have hsum : wrap64 ((V : Int) + (M : Int)) = (V : Int) + (M : Int) := wrap64_in _ (by clear hsh; omega)
                clear hm2
                go_wp2
                refine ⟨⟨i + 1, by rw [hnx.out]; first | go_num | exact congrArg _ (by omega), by go_num, by omega⟩, ?_⟩
                simp only [intOf]; omega
              · have hst8 : Hid (dbyte S p 8 = dbyte S p i) := by show _ = _; have := dbyte_stop (S := S) (p := p) (i := i) (by omega) (8 - i); rwa [show i + (8 - i) = 8 by omega] at this
                obtain ⟨i0, hi0, hz0, hz1, hz2⟩ := info_parts infoU8
                have own : ∀ o, (wr.alloc o).ownsRow w.heap.size 5 1 (.slice xa xk xc) (3 + j) (byteCells ([83, 90, wd] ++ dbytes S j)) := fun o => row_stay (S := []) hOutH.out ((Kept.refl [] wr).alloc o) (fun _ _ => by simp)
                have ownS : Hid (∀ o, (wr.alloc o).ownsRow w.heap.size 3 1 (.slice sa S.length sc) S.length (symCells S)) := fun o => row_stay (S := []) hStH.out ((Kept.refl [] wr).alloc o) (fun _ _ => by simp)
                have hBa : Hid (∀ o, Below w.heap.size w (wr.alloc o)) := fun o => hBlH.out.alloc hw o
                have hneS : Hid ((Value.slice sa S.length sc).ownBlock = none ∨ (Value.slice sa S.length sc).ownBlock ≠ (Value.slice xa xk xc).ownBlock) := own_ne hStH.out hOutH.out (by decide)
                have hge : Hid (∀ g, (Value.slice xa xk xc).ownBlock = some g → w.heap.size ≤ g) := fun g hg => (hOutH.out.lt g hg).1
                have mb : 3 + j + 1 ≤ maxLen := by unfold maxLen; omega
                have hw8 : IntKind.wrap .u8 ((dbyte S p i : Nat) : Int) = ((dbyte S p i : Nat) : Int) := by rw [IntKind.wrap_u8]; omega
                have hbs : Hid (byteCells ([83, 90, wd] ++ dbytes S (j + 1)) = byteCells ([83, 90, wd] ++ dbytes S j) ++ [.int .u8 ((dbyte S p i : Nat) : Int)]) := by show _ = _; rw [dbytes_succ, ← List.append_assoc, byteCells_app, ← hpH.out, hst8.out]; rfl
                obtain ⟨OC, hOC⟩ : ∃ OC, OC = byteCells ([83, 90, wd] ++ dbytes S j) := ⟨_, rfl⟩
                rw [← hOC] at own hbs
                clear hOC hcell hdl
                generalize dbyte S p i = V at *
                go_wp2_with (at_builtin; refine wpList_append_own _ rfl (.tmp 146) (.tmp 149) 98 rfl w.heap.size 5 i0 _ 1 1 Try.underlying98 hi0 hz0 hz1 hz2 rfl (by decide) (.slice xa xk xc) (3 + j) OC rfl (by exact own _) ⟨wr.heap.size, 0, none⟩ 1 1 [.int .u8 (V : Int)] rfl rfl (by exact cells_new _ _ _ _ rfl) (by simp [Value.oneCell']) mb (by omega) (by simp; omega) ?kk)
                case kk =>
                  intro v' w3 hown hg _
                  obtain ⟨gv, cap, rfl⟩ := own_form hown (by omega)
                  have hB3 : Hid (Below w.heap.size w w3) := (hBa.out _).trans ⟨hg.os, hg.tape, hg.output, hg.size, fun k hk => hg.block k (by simp; omega) (fun hc => by have := hge.out k hc.symm; omega)⟩
                  have hS3 : Hid (w3.ownsRow w.heap.size 3 1 (.slice sa S.length sc) S.length (symCells S)) := World.ownsRow.kept (ownS.out _) hg hneS.out
                  have hO3 : Hid (w3.ownsRow w.heap.size 5 1 (.slice (some ⟨gv, 0, none⟩) (3 + j + 1) cap) (3 + (j + 1)) (byteCells ([83, 90, wd] ++ dbytes S (j + 1)))) := by
                    show World.ownsRow _ _ _ _ _ _ _
                    rw [hbs.out]
                    exact hown
                  have hpj : Hid (p = 8 * j) := hpH
                  clear hown hg own
                  go_wp2
                  refine ⟨⟨j + 1, _, _, _, rfl, ?_, by have := hpj.out; omega, hB3.out, hS3.out, hO3.out⟩, ?_⟩
                  · exact congrArg _ (by have := hpj.out; omega)
                  · simp only [intOf]; omega
            · have hst8 : Hid (dbyte S p 8 = dbyte S p i) := by show _ = _; rw [show i = 8 by omega]
              obtain ⟨i0, hi0, hz0, hz1, hz2⟩ := info_parts infoU8
              have own : ∀ o, (wr.alloc o).ownsRow w.heap.size 5 1 (.slice xa xk xc) (3 + j) (byteCells ([83, 90, wd] ++ dbytes S j)) := fun o => row_stay (S := []) hOutH.out ((Kept.refl [] wr).alloc o) (fun _ _ => by simp)
              have ownS : Hid (∀ o, (wr.alloc o).ownsRow w.heap.size 3 1 (.slice sa S.length sc) S.length (symCells S)) := fun o => row_stay (S := []) hStH.out ((Kept.refl [] wr).alloc o) (fun _ _ => by simp)
              have hBa : Hid (∀ o, Below w.heap.size w (wr.alloc o)) := fun o => hBlH.out.alloc hw o
              have hneS : Hid ((Value.slice sa S.length sc).ownBlock = none ∨ (Value.slice sa S.length sc).ownBlock ≠ (Value.slice xa xk xc).ownBlock) := own_ne hStH.out hOutH.out (by decide)
              have hge : Hid (∀ g, (Value.slice xa xk xc).ownBlock = some g → w.heap.size ≤ g) := fun g hg => (hOutH.out.lt g hg).1
              have mb : 3 + j + 1 ≤ maxLen := by unfold maxLen; omega
              have hw8 : IntKind.wrap .u8 ((dbyte S p i : Nat) : Int) = ((dbyte S p i : Nat) : Int) := by rw [IntKind.wrap_u8]; omega
              have hbs : Hid (byteCells ([83, 90, wd] ++ dbytes S (j + 1)) = byteCells ([83, 90, wd] ++ dbytes S j) ++ [.int .u8 ((dbyte S p i : Nat) : Int)]) := by show _ = _; rw [dbytes_succ, ← List.append_assoc, byteCells_app, ← hpH.out, hst8.out]; rfl
              obtain ⟨OC, hOC⟩ : ∃ OC, OC = byteCells ([83, 90, wd] ++ dbytes S j) := ⟨_, rfl⟩
              rw [← hOC] at own hbs
              clear hOC hcell hdl
              generalize dbyte S p i = V at *
              go_wp2_with (at_builtin; refine wpList_append_own _ rfl (.tmp 146) (.tmp 149) 98 rfl w.heap.size 5 i0 _ 1 1 Try.underlying98 hi0 hz0 hz1 hz2 rfl (by decide) (.slice xa xk xc) (3 + j) OC rfl (by exact own _) ⟨wr.heap.size, 0, none⟩ 1 1 [.int .u8 (V : Int)] rfl rfl (by exact cells_new _ _ _ _ rfl) (by simp [Value.oneCell']) mb (by omega) (by simp; omega) ?kk)
              case kk =>
                intro v' w3 hown hg _
                obtain ⟨gv, cap, rfl⟩ := own_form hown (by omega)
                have hB3 : Hid (Below w.heap.size w w3) := (hBa.out _).trans ⟨hg.os, hg.tape, hg.output, hg.size, fun k hk => hg.block k (by simp; omega) (fun hc => by have := hge.out k hc.symm; omega)⟩
                have hS3 : Hid (w3.ownsRow w.heap.size 3 1 (.slice sa S.length sc) S.length (symCells S)) := World.ownsRow.kept (ownS.out _) hg hneS.out
                have hO3 : Hid (w3.ownsRow w.heap.size 5 1 (.slice (some ⟨gv, 0, none⟩) (3 + j + 1) cap) (3 + (j + 1)) (byteCells ([83, 90, wd] ++ dbytes S (j + 1)))) := by
                  show World.ownsRow _ _ _ _ _ _ _
                  rw [hbs.out]
                  exact hown
                have hpj : Hid (p = 8 * j) := hpH
                clear hown hg own
                go_wp2
                refine ⟨⟨j + 1, _, _, _, rfl, ?_, by have := hpj.out; omega, hB3.out, hS3.out, hO3.out⟩, ?_⟩
                · exact congrArg _ (by have := hpj.out; omega)
                · simp only [intOf]; omega
        · have hj2 : Hid (j = (S.length + 7) / 8) := by show _ = _; have := hpH.out; omega
          have hl3 : ([83, 90, wd] ++ dbytes S j).length = 3 + j := by rw [List.length_append, dbytes_len]; rfl
          have hconv := conv_out (out := [83, 90, wd] ++ dbytes S j) (by rw [hl3]; exact hOut) (fun c hc => by
            rcases List.mem_append.1 hc with hc | hc
            · simp at hc; omega
            · exact dbytes_lt hbt.out j c hc)
          rw [hj2.out] at hconv
          have hRc : bytesB ([83, 90, wd] ++ dbytes S ((S.length + 7) / 8)) = R := hR.out
          rw [hRc] at hconv
          clear hBl hSt hOut hl3 hRc
          go_wp2
          go_ret2
          exact ⟨hfin.out, hBlH.out⟩

end Go.Proofs.Ytgifhgnccmnbiaa
