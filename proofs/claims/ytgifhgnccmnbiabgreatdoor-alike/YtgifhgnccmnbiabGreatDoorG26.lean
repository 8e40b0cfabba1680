/- The law Alike: a plain file, walked. -/
import Derived.Test.YtgifhgnccmnbiabGreatDoorG25
import Derived.Test.YtgifhgnccmnbiabGreatDoorG01
import Derived.ProofKit
import Derived.OpenShut
import Derived.ShutString
import Derived.ChangeSame
import Derived.Test.YtgifhgnccmnbiabGreatDoorG20
import Derived.LaidHandle
import Derived.Lib.LaidTab
set_option linter.unusedVariables false
set_option linter.unusedSimpArgs false
namespace Go.Proofs.YtgifhgnccmnbiabGreatDoor
open Go.RowKit Go.IntWalk

theorem plain_file {t R : ByteArray} (ht : t.size ≤ 600) (h : bytesN R = [83, 71, 0] ++ twoL t.size ++ (bytesN t).flatMap twoL) : HasText R 71 (bytesN t) := by
  have e : R = gfile (gst t 0).1 (gst t 0).2 := by
    apply bytesN_inj
    rw [(gfile_num ht (Nat.zero_le _)).file, h]
    show _ = [83, 71, 0] ++ ([] ++ [(bytesN t).length] ++ bytesN t).flatMap twoL
    rw [bytesN_len]
    simp
  rw [e]
  exact gfile_text ht (Nat.zero_le _)

set_option maxHeartbeats 1000000 in
set_option maxRecDepth 100000 in
theorem plain_any (t : ByteArray) (ht : t.size ≤ 600) (w : World) :
    Calls Tryz.prog 17 #[.string t] w fun e w' => ∃ f : ByteArray, e = .returned (.string f) ∧ (HasText f 71 (bytesN t) ∧ f.size ≤ maxLen) ∧ Kept [] w w' := by
  have hk : Hid (∀ o, Kept [] w (w.alloc o)) := fun o => (Kept.refl [] w).alloc o
  have m1 : Int.tmod (t.size : Int) 256 = ((t.size % 256 : Nat) : Int) := by rw [Int.tmod_eq_emod_of_nonneg (by omega)]; omega
  have m2 : Int.tdiv (t.size : Int) 256 = ((t.size / 256 : Nat) : Int) := by rw [Int.tdiv_eq_ediv_of_nonneg (by omega)]; omega
  have hconv : (convert 77 9 (.slice (some ⟨w.heap.size, 0, none⟩) 2 2)).run Tryz.prog (w.alloc (.cells #[.int .u8 ((t.size % 256 : Nat) : Int), .int .u8 ((t.size / 256 : Nat) : Int)] 5)) = .ok (.string (bytesB (twoL t.size))) (w.alloc (.cells #[.int .u8 ((t.size % 256 : Nat) : Int), .int .u8 ((t.size / 256 : Nat) : Int)] 5)) := by
    refine run_convert_bytes_back (P := Tryz.prog) _ 77 9 5 ⟨w.heap.size, 0, none⟩ 2 [(t.size % 256).toUInt8, (t.size / 256).toUInt8] Tryz.underlying77 Tryz.underlying5 Tryz.underlying9 (fun j hj => ?_)
    have hj2 : j < 2 := hj
    rw [ptr_add, (Blk.new w _ _).cell]
    rcases (by omega : j = 0 ∨ j = 1) with rfl | rfl
    · show some (Value.int .u8 ((t.size % 256 : Nat) : Int)) = some (.int .u8 ((t.size % 256).toUInt8.toNat : Int))
      rw [Nat.toUInt8_eq, UInt8.toNat_ofNat', show t.size % 256 % 2 ^ 8 = t.size % 256 by omega]
    · show some (Value.int .u8 ((t.size / 256 : Nat) : Int)) = some (.int .u8 ((t.size / 256).toUInt8.toNat : Int))
      rw [Nat.toUInt8_eq, UInt8.toNat_ofNat', show t.size / 256 % 2 ^ 8 = t.size / 256 by omega]
  have b1 : t.size % 256 < 256 := by omega
  have b2 : t.size / 256 < 256 := by omega
  have h0 : Hid (bytesN (⟨#[83, 71, 0]⟩ ++ bytesB (twoL t.size)) = [83, 71, 0] ++ twoL t.size ++ ((bytesN t).take 0).flatMap twoL) := by
    show _ = _
    rw [bytesN_appK, bytesN_two (by omega), List.take_zero, List.flatMap_nil, List.append_nil]
    rfl
  have hz : (bytesB (twoL t.size)).size = 2 := rfl
  have hfin : Hid (∀ R, bytesN R = [83, 71, 0] ++ twoL t.size ++ ((bytesN t).take t.size).flatMap twoL → HasText R 71 (bytesN t)) := fun R h => plain_file ht (by rw [h, List.take_of_length_le (by rw [bytesN_len]; omega)])
  have hnx : Hid (∀ (q : Nat) (hq : q < t.size) (R : ByteArray), bytesN R = [83, 71, 0] ++ twoL t.size ++ ((bytesN t).take q).flatMap twoL → bytesN (R ++ t.extract q (q + 1) ++ ⟨#[0]⟩) = [83, 71, 0] ++ twoL t.size ++ ((bytesN t).take (q + 1)).flatMap twoL) := fun q hq R h => by
    obtain ⟨p1, p2⟩ := bytesN_at1 hq
    have hb := t[q].toNat_lt
    have hx : (bytesN t)[q]? = some t[q].toNat := by
      have := congrArg (fun l => l[0]?) p2
      simpa using this
    have e2 : twoL t[q].toNat = [t[q].toNat, 0] := by
      unfold twoL
      rw [Nat.mod_eq_of_lt (by omega), Nat.div_eq_of_lt (by omega)]
    rw [bytesN_appK, bytesN_appK, h, p1, List.take_add_one, hx, List.flatMap_append]
    show _ ++ [t[q].toNat] ++ [0] = _
    simp [e2]
  have hlen : Hid (∀ (q : Nat) (R : ByteArray), q ≤ t.size → bytesN R = [83, 71, 0] ++ twoL t.size ++ ((bytesN t).take q).flatMap twoL → R.size = 5 + 2 * q) := fun q R hq h => by
    have e := congrArg List.length h
    rw [bytesN_len] at e
    have : (((bytesN t).take q).flatMap twoL).length = 2 * q := by
      rw [more_len, List.length_take, bytesN_len]; omega
    rw [List.length_append, List.length_append, this, show (twoL t.size).length = 2 from rfl] at e
    simp at e
    omega
  generalize hTL : bytesB (twoL t.size) = TL at *
  have hx0 : ¬ 9223372036854775807 < 3 + TL.size := by omega
  generalize hS : [83, 71, 0] ++ twoL t.size = S at *
  clear hS
  generalize hx : t.size % 256 = x at *
  generalize hy : t.size / 256 = y at *
  clear hx hy hTL hz
  go_enter Tryz.func17, Tryz.ntmps17
  go_wp2_with fail
  go_loopw [4, 5] (fun rv iv wr => ∃ (q : Nat) (R : ByteArray), rv = .string R ∧ iv = .int .i64 (q : Int) ∧ q ≤ t.size ∧ Hid (bytesN R = S ++ ((bytesN t).take q).flatMap twoL) ∧ Kept [] w wr) (fun _ iv _ => ((t.size : Int) - intOf iv).toNat)
  case atStart => exact ⟨0, _, rfl, rfl, Nat.zero_le _, h0, hk.out _⟩
  case round =>
    clear h0 hconv
    obtain ⟨q, R, rfl, rfl, hq, hR, hK⟩ := hrel
    have hRs := hlen.out q R hq hR.out
    by_cases hlt : (q : Int) < (t.size : Int)
    · have hR2 : Hid (_ = _) := hnx.out q (by omega) R hR.out
      have hKH : Hid (Kept _ _ _) := hK
      have hes : (t.extract q (q + 1)).size = 1 := by rw [ByteArray.size_extract]; omega
      clear hfin hnx hlen hK hR
      go_wp2
      exact ⟨⟨q + 1, _, rfl, by go_num, by omega, hR2, hKH.out⟩, by simp only [intOf]; omega⟩
    · have hqe : q = t.size := by omega
      subst hqe
      have hF : Hid (HasText _ _ _) := hfin.out R hR.out
      have hKH : Hid (Kept _ _ _) := hK
      clear hfin hnx hlen hK hR
      go_wp2
      go_ret
      exact ⟨_, rfl, ⟨hF.out, by unfold maxLen; omega⟩, hKH.out⟩

end Go.Proofs.YtgifhgnccmnbiabGreatDoor

set_option linter.unusedVariables false
set_option linter.unusedSimpArgs false
namespace Go.Proofs.YtgifhgnccmnbiabGreatDoor
open Go.RowKit Go.IntWalk

theorem packZ_text {t : ByteArray} (ht : t.size ≤ 600) (k : Nat) (hk : k < 4) (w : World) : Calls Tryz.prog 15 #[.string t, .int .i64 (9 + (k : Int))] w fun e w' => (∃ f : ByteArray, e = .returned (.tuple #[.string f, .int .i64 0]) ∧ HasText f 90 (bytesN t) ∧ f.size ≤ maxLen) ∧ Below w.heap.size w w' := by
  refine (packZ_any t (by unfold maxLen; omega) (9 + (k : Int)) w).mono ?_
  rintro e w' ⟨ho, b⟩
  refine ⟨?_, b⟩
  rcases ho with ⟨h1, h2⟩ | ⟨_, h1, _⟩ | ⟨h1, h2, h3, h4⟩
  · omega
  · omega
  · refine ⟨_, h4, zfile_text h1 (by omega), ?_⟩
    have := zfile_isZ (t := t) (wd := (9 + (k : Int)).toNat) h1 (by omega)
    have := this.1.2.1
    unfold maxLen; omega
theorem packG_text {t : ByteArray} (ht : t.size ≤ 600) (w : World) : Calls Tryz.prog 16 #[.string t] w fun e w' => (∃ f : ByteArray, e = .returned (.tuple #[.string f, .int .i64 0]) ∧ HasText f 71 (bytesN t) ∧ f.size ≤ maxLen) ∧ Below w.heap.size w w' := by
  refine (packG_any t (by unfold maxLen; omega) w).mono ?_
  rintro e w' ⟨ho, b⟩
  refine ⟨?_, b⟩
  rcases ho with ⟨h1, h2⟩ | ⟨h1, q, hq, h4⟩
  · omega
  · refine ⟨_, h4, gfile_text h1 hq.le, ?_⟩
    have := (gfile_ok h1 hq.le).most
    unfold maxLen; omega

set_option maxHeartbeats 4000000 in
set_option maxRecDepth 100000 in
theorem alike_law (inv fold whole num : Bool) (mx : Int) (p t : ByteArray) (c : Int) (w : World) (htab : TabP w) (hm1 : -9223372036854775808 ≤ mx) (hm2 : mx ≤ 9223372036854775807) (hp : p.size ≤ maxLen) (ht : t.size ≤ maxLen) (hc1 : -9223372036854775808 ≤ c) (hc2 : c ≤ 9223372036854775807) :
    Calls Tryz.prog 4 #[.agg #[.bool inv, .bool fold, .bool whole, .bool num, .int .i64 mx], .string p, .string t, .int .i64 c] w fun e w' => e = .returned (.bool true) ∧ Below w.heap.size w w' := by
  have htb : Hid (∀ w', Below w.heap.size w w' → TabP w') := fun w' b => htab.kept (below_kept b)
  have h0 : Hid (∀ o, Below w.heap.size w (w.alloc o)) := fun o => (Below.refl _ _).alloc (Nat.le_refl _) o
  clear htab
  go_enter Tryz.func4, Tryz.ntmps4
  go_wp2_with fail
  refine (awake_any _ (htb.out _ (h0.out _))).mono ?_
  rintro e w1 ⟨rfl, b1⟩
  have B1 : Hid (Blk w1 w.heap.size #[.bool inv, .bool fold, .bool whole, .bool num, .int .i64 mx] 23) := Blk.kept (Blk.new w _ _) (below_kept b1) (by simp)
  have b1 : Hid (Below w.heap.size w w1) := (h0.out _).trans (b1.mono (by simp))
  clear h0
  go_wp2_with fail
  refine (some2_any t 600 ht (by omega) _).mono ?_
  rintro e w2 ⟨⟨s, rfl, hs, _⟩, hw2⟩
  subst hw2
  go_wp2_with fail
  refine (pick_any c 4 hc1 hc2 (by omega) (by omega) _).mono ?_
  rintro e w3 ⟨⟨k, rfl, hk⟩, hw3⟩
  subst hw3
  clear hc1 hc2
  have hXs : (bytesN s).length ≤ 1099511627776 := by rw [bytesN_len]; omega
  obtain ⟨n, x, hcs⟩ := count_same (inv := inv) (fold := fold) (whole := whole) (num := num) hp (bytesN s) hXs hm1 hm2
  obtain ⟨g, y, hgs⟩ := grep_same (inv := inv) (fold := fold) (whole := whole) (num := num) hp (bytesN s) hXs hm1 hm2
  have hc : Hid (∀ f kind, HasText f kind (bytesN s) → f.size ≤ maxLen → ∀ w, Calls _ _ _ w _) := hcs
  have hg : Hid (∀ f kind, HasText f kind (bytesN s) → f.size ≤ maxLen → ∀ w, TabP w → Calls _ _ _ w _) := hgs
  clear hcs hgs hXs
  go_wp2_with fail
  refine (packZ_text hs k hk _).mono ?_
  rintro e w4 ⟨⟨fz, rfl, hz1, hz2⟩, b4⟩
  have B4 : Hid (Blk _ _ _ _) := Blk.kept B1.out (below_kept b4) (by simp)
  have b4 : Hid (Below w.heap.size w w4) := b1.out.trans (b4.mono b1.out.size)
  have hz : Hid (HasText _ _ _) := hz1
  clear b1 B1 hz1
  go_wp2_with fail
  refine (packG_text hs _).mono ?_
  rintro e w5 ⟨⟨fg, rfl, hz1, hg2⟩, b5⟩
  have B5 : Hid (Blk _ _ _ _) := Blk.kept B4.out (below_kept b5) (by simp)
  have b5 : Hid (Below w.heap.size w w5) := b4.out.trans (b5.mono b4.out.size)
  have hgt : Hid (HasText _ _ _) := hz1
  clear b4 B4 hz1
  go_wp2_with fail
  refine (plain_any s hs _).mono ?_
  rintro e w6 ⟨fp, rfl, ⟨hz1, hp2⟩, k6⟩
  have B6 : Hid (Blk _ _ _ _) := Blk.kept B5.out k6 (by simp)
  have b6 : Hid (Below w.heap.size w w6) := b5.out.trans (k6.below b5.out.size (by simp))
  have hpt : Hid (HasText _ _ _) := hz1
  clear b5 B5 hz1 k6
  obtain ⟨o0, o1, o2, o3, o4, ol⟩ := all5 B6.out
  go_wp2_with fail
  refine (hc.out fz _ hz.out hz2 _).mono ?_
  rintro e w7 ⟨rfl, b7⟩
  have B7 : Hid (Blk _ _ _ _) := Blk.kept B6.out (below_kept b7) (by simp)
  have b7 : Hid (Below w.heap.size w w7) := b6.out.trans (b7.mono b6.out.size)
  clear b6 B6 o0 o1 o2 o3 o4 ol
  obtain ⟨o0, o1, o2, o3, o4, ol⟩ := all5 B7.out
  go_wp2_with fail
  refine (hc.out fg _ hgt.out hg2 _).mono ?_
  rintro e w8 ⟨rfl, b8⟩
  have B8 : Hid (Blk _ _ _ _) := Blk.kept B7.out (below_kept b8) (by simp)
  have b8 : Hid (Below w.heap.size w w8) := b7.out.trans (b8.mono b7.out.size)
  clear b7 B7 o0 o1 o2 o3 o4 ol
  obtain ⟨o0, o1, o2, o3, o4, ol⟩ := all5 B8.out
  go_wp2_with fail
  refine (hc.out fp _ hpt.out hp2 _).mono ?_
  rintro e w9 ⟨rfl, b9⟩
  have B9 : Hid (Blk _ _ _ _) := Blk.kept B8.out (below_kept b9) (by simp)
  have b9 : Hid (Below w.heap.size w w9) := b8.out.trans (b9.mono b8.out.size)
  clear b8 B8 o0 o1 o2 o3 o4 ol hc
  obtain ⟨o0, o1, o2, o3, o4, ol⟩ := all5 B9.out
  go_wp2_with fail
  refine (hg.out fz _ hz.out hz2 _ (htb.out _ b9.out)).mono ?_
  rintro e w10 ⟨rfl, b10⟩
  have B10 : Hid (Blk _ _ _ _) := Blk.kept B9.out (below_kept b10) (by simp)
  have b10 : Hid (Below w.heap.size w w10) := b9.out.trans (b10.mono b9.out.size)
  clear b9 B9 o0 o1 o2 o3 o4 ol
  obtain ⟨o0, o1, o2, o3, o4, ol⟩ := all5 B10.out
  go_wp2_with fail
  refine (hg.out fg _ hgt.out hg2 _ (htb.out _ b10.out)).mono ?_
  rintro e w11 ⟨rfl, b11⟩
  have B11 : Hid (Blk _ _ _ _) := Blk.kept B10.out (below_kept b11) (by simp)
  have b11 : Hid (Below w.heap.size w w11) := b10.out.trans (b11.mono b10.out.size)
  clear b10 B10 o0 o1 o2 o3 o4 ol
  obtain ⟨o0, o1, o2, o3, o4, ol⟩ := all5 B11.out
  go_wp2_with fail
  refine (hg.out fp _ hpt.out hp2 _ (htb.out _ b11.out)).mono ?_
  rintro e w12 ⟨rfl, b12⟩
  have b12 : Hid (Below w.heap.size w w12) := b11.out.trans (b12.mono b11.out.size)
  clear b11 B11 o0 o1 o2 o3 o4 ol hg
  go_wp2
  go_ret
  exact ⟨rfl, b12.out⟩

end Go.Proofs.YtgifhgnccmnbiabGreatDoor

set_option linter.unusedVariables false
set_option linter.unusedSimpArgs false
namespace Go.Proofs.YtgifhgnccmnbiabGreatDoor
open Go.ChangeShapes Go.WideShapes Go.ChangeAt Go.RowKit

theorem optCells : Tryz.prog.cellsOf 23 = 5 := by kernel_rfl
theorem boolCell : Tryz.prog.cellsOf 4 = 1 := by kernel_rfl
theorem intCell : Tryz.prog.cellsOf 3 = 1 := by kernel_rfl

section
variable {H : Type} {enc : TypeId × Value → H} {w : World} {base : Nat} {spare : Nat → Bool} {held : Bool}
set_option maxRecDepth 100000 in
theorem open_options {r : Reach} {b0 : Nat} {v : Value} {d : DataW H} {ps : List MemPlace} (hval : Value.okWide Tryz.prog w r b0 23 v) (hd : DataW.Trod enc Tryz.prog w base spare held 23 v d ps) :
    ∃ (i f wh nu : Bool) (mx : Int), v = .agg #[.bool i, .bool f, .bool wh, .bool nu, .int .i64 mx] ∧ d = .agg [.lit (.bool i), .lit (.bool f), .lit (.bool wh), .lit (.bool nu), .lit (.int .i64 mx)] ∧ ps = [] ∧ (Lit.int .i64 mx).wf = true := by
  obtain ⟨cs, rfl, hsz⟩ := okWide_struct Tryz.underlying23 hval
  rw [optCells] at hsz
  obtain ⟨l⟩ := cs
  match l, hsz with
  | [c0, c1, c2, c3, c4], _ =>
  obtain ⟨fuel, hf⟩ := hd
  obtain ⟨xs, n, _, hx, _, hlen, hall⟩ := DataW.trod_struct Tryz.underlying23 hf
  match xs, hlen with
  | [y0, y1, y2, y3, y4], _ =>
  have g0 : DataW.trod enc Tryz.prog w base spare held n 4 [c0] = some y0 := by
    have h : DataW.trod enc Tryz.prog w base spare held n 4 (([c0, c1, c2, c3, c4].drop 0).take (Tryz.prog.cellsOf 4)) = some y0 := hall 0 _ rfl
    rw [boolCell] at h
    exact h
  have g1 : DataW.trod enc Tryz.prog w base spare held n 4 [c1] = some y1 := by
    have h : DataW.trod enc Tryz.prog w base spare held n 4 (([c0, c1, c2, c3, c4].drop 1).take (Tryz.prog.cellsOf 4)) = some y1 := hall 1 _ rfl
    rw [boolCell] at h
    exact h
  have g2 : DataW.trod enc Tryz.prog w base spare held n 4 [c2] = some y2 := by
    have h : DataW.trod enc Tryz.prog w base spare held n 4 (([c0, c1, c2, c3, c4].drop 2).take (Tryz.prog.cellsOf 4)) = some y2 := hall 2 _ rfl
    rw [boolCell] at h
    exact h
  have g3 : DataW.trod enc Tryz.prog w base spare held n 4 [c3] = some y3 := by
    have h : DataW.trod enc Tryz.prog w base spare held n 4 (([c0, c1, c2, c3, c4].drop 3).take (Tryz.prog.cellsOf 4)) = some y3 := hall 3 _ rfl
    rw [boolCell] at h
    exact h
  have g4 : DataW.trod enc Tryz.prog w base spare held n 3 [c4] = some y4 := by
    have h : DataW.trod enc Tryz.prog w base spare held n 3 (([c0, c1, c2, c3, c4].drop 4).take (Tryz.prog.cellsOf 3)) = some y4 := hall 4 _ rfl
    rw [intCell] at h
    exact h
  obtain ⟨b0', e0, rfl⟩ := DataW.trod_bool Tryz.underlying4 g0
  obtain ⟨b1', e1, rfl⟩ := DataW.trod_bool Tryz.underlying4 g1
  obtain ⟨b2', e2, rfl⟩ := DataW.trod_bool Tryz.underlying4 g2
  obtain ⟨b3', e3, rfl⟩ := DataW.trod_bool Tryz.underlying4 g3
  obtain ⟨m, e4, rfl, wm⟩ := DataW.trod_int Tryz.underlying3 g4
  simp only [List.cons.injEq, and_true] at e0 e1 e2 e3 e4
  subst e0 e1 e2 e3 e4
  simp only [Prod.mk.injEq] at hx
  obtain ⟨rfl, rfl⟩ := hx
  exact ⟨_, _, _, _, _, rfl, rfl, rfl, wm⟩
set_option maxRecDepth 100000 in
theorem shut_options (i f wh nu : Bool) {mx : Int} (hm : (Lit.int .i64 mx).wf = true) :
    DataW.Trod enc Tryz.prog w base spare held 23 (.agg #[.bool i, .bool f, .bool wh, .bool nu, .int .i64 mx]) (.agg [.lit (.bool i), .lit (.bool f), .lit (.bool wh), .lit (.bool nu), .lit (.int .i64 mx)]) [] := ⟨2, by
  have fb : ∀ b : Bool, DataW.trod enc Tryz.prog w base spare held 1 4 [.bool b] = some (.lit (.bool b), []) := fun b => by simp [DataW.trod, Tryz.underlying4]
  have fi : DataW.trod enc Tryz.prog w base spare held 1 3 [.int .i64 mx] = some (.lit (.int .i64 mx), []) := by simp [DataW.trod, Tryz.underlying3, hm]
  have := trod_struct_mk (enc := enc) (w := w) (base := base) (spare := spare) (held := held) (n := 1) (cs := [.bool i, .bool f, .bool wh, .bool nu, .int .i64 mx])
    (xs := [(.lit (.bool i), []), (.lit (.bool f), []), (.lit (.bool wh), []), (.lit (.bool nu), []), (.lit (.int .i64 mx), [])]) Tryz.underlying23 (by simp [optCells]) (by simp [boolCell, intCell, fb, fi])
  simpa [Value.cells] using this⟩
end
end Go.Proofs.YtgifhgnccmnbiabGreatDoor

set_option linter.unusedVariables false
namespace Go.Proofs.YtgifhgnccmnbiabGreatDoor
open Go

theorem tab_of_vars {P : Program} {W : World} {name : String} {k : IntKind} {zs : List Int} {rest : List (String × DataW Unit)} {ps : List MemPlace} {g : Nat} {t e : TypeId} {n : Nat}
    (hg : P.globalNamed name = some g) (hty : (P.globals[g]?).map (·.type) = some t) (ht : P.underlying t = some (.array n e)) (he : P.underlying e = some (.int k)) (hce : P.cellsOf e = 1) (hct : P.cellsOf t = n)
    (h : DataW.LaidVars P W ((name, Lib.tabData k zs) :: rest) ps) : Lib.TabIs P W name k zs := by
  obtain ⟨g', t', cs, fuel, p, q, hg', ht', hvar, hd, _, _⟩ := h
  obtain rfl := Option.some.inj (hg.symm.trans hg')
  obtain rfl := Option.some.inj (hty.symm.trans ht')
  unfold Lib.TabIs
  rw [hvar, ← Lib.cells_of_tab ht he hce hct hd]
theorem vars_tail {P : Program} {W : World} {x : String × DataW Unit} {rest : List (String × DataW Unit)} {ps : List MemPlace} (h : DataW.LaidVars P W (x :: rest) ps) : ∃ q, DataW.LaidVars P W rest q := by
  obtain ⟨g', t', cs, fuel, p, q, _, _, _, _, h5, _⟩ := h
  exact ⟨q, h5⟩
/-- The block and the type of the table. -/
noncomputable def powG : Nat := (Tryz.prog.globalNamed powN).getD 0
noncomputable def powT : TypeId := ((Tryz.prog.globals[powG]?).map (·.type)).getD 0
theorem tabP_of_laid {W : World} (h : laidMetH Tryz.prog Rows.alikeRow.laid W) : TabP W := by
  have h' : laidMet Tryz.prog Rows.alikeRow.laid W := h
  obtain ⟨ps, hv, _⟩ := h'
  obtain ⟨q1, h1⟩ := vars_tail hv
  obtain ⟨q2, h2⟩ := vars_tail h1
  exact tab_of_vars (g := powG) (t := powT) (n := 20) (e := 56) (by kernel_rfl) (by kernel_rfl) (by kernel_rfl) (by kernel_rfl) (by kernel_rfl) (by kernel_rfl) h2

/-- The cells of a listed table. -/
def cellsD : DataW Unit → Array Value
  | .agg l => (l.filterMap fun d => match d with | .lit (.int k n) => some (.int k n) | _ => none).toArray
  | _ => #[]
/-- A world that meets the condition: the settled one, the tables' cells laid. -/
noncomputable def laidWorld (os : Os) : World :=
  let w0 := World.holding Tryz.prog os ⟨#[], #[], []⟩
  { w0 with heap := Rows.alikeRow.laid.foldl (fun h x => h.modify ((Tryz.prog.globalNamed x.1).getD 0) fun
      | .cells _ t frozen => .cells (cellsD x.2) t frozen
      | o => o) w0.heap }
set_option maxRecDepth 100000 in
theorem laidWorld_met (os : Os) (args : Array Value) : laidMetH Tryz.prog Rows.alikeRow.laid ((laidWorld os).forCall (fun _ _ => 0) ⟨#[], args, []⟩).memory :=
  laidMetH_of_parts (laidMet_of_run' 8 (by kernel_rfl) (by kernel_rfl)) (by kernel_rfl)

end Go.Proofs.YtgifhgnccmnbiabGreatDoor
