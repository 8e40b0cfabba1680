/- What is printed of the selected lines. No Go in it. -/
import Derived.Test.YtgifhgnccmnbiabGreatDoorG20
import Derived.Lib.AppendStr
import Derived.Lib.ItoaLen
import Derived.Test.YtgifhgnccmnbiabGreatDoorG16
set_option linter.unusedVariables false
set_option linter.unusedSimpArgs false
namespace Go.Proofs.YtgifhgnccmnbiabGreatDoor
open Go.RowKit Go.IntWalk

def hdB (num : Bool) (n : Nat) : ByteArray := if num = true then itoaB n ++ ⟨#[58]⟩ else ⟨#[]⟩
def lnB (num : Bool) (X : List Nat) (x : FL) : ByteArray := hdB num x.num ++ bytesB (cutX X x.frm x.til 0) ++ ⟨#[10]⟩
def prS (num : Bool) (X : List Nat) (l : List FL) : ByteArray := l.foldl (fun a x => a ++ lnB num X x) ⟨#[]⟩
theorem prS_snoc (num : Bool) (X : List Nat) (l : List FL) (x : FL) : prS num X (l ++ [x]) = prS num X l ++ lnB num X x := by
  unfold prS; rw [List.foldl_append]; rfl
theorem prS_take {num : Bool} {X : List Nat} {l : List FL} {q : Nat} {x : FL} (h : l[q]? = some x) : prS num X (l.take (q + 1)) = prS num X (l.take q) ++ lnB num X x := by
  rw [List.take_add_one, h]
  exact prS_snoc num X _ x
theorem lnB_pos (num : Bool) (X : List Nat) (x : FL) : 1 ≤ (lnB num X x).size := by
  unfold lnB
  rw [ByteArray.size_append]
  have : (⟨#[10]⟩ : ByteArray).size = 1 := rfl
  omega
theorem prS_fold (num : Bool) (X : List Nat) : ∀ (l : List FL) (a : ByteArray), (l.foldl (fun a x => a ++ lnB num X x) a).size = a.size + (l.map fun x => (lnB num X x).size).sum
  | [], a => by simp
  | x :: l, a => by
    rw [List.foldl_cons, prS_fold num X l, ByteArray.size_append, List.map_cons, List.sum_cons]
    omega
theorem prS_sum (num : Bool) (X : List Nat) (l : List FL) : (prS num X l).size = (l.map fun x => (lnB num X x).size).sum := by
  unfold prS
  rw [prS_fold]
  have : (⟨#[]⟩ : ByteArray).size = 0 := rfl
  omega
theorem prS_le (num : Bool) (X : List Nat) (l : List FL) (q : Nat) : (prS num X (l.take q)).size ≤ (prS num X l).size := by
  rw [prS_sum, prS_sum]
  have : l.take q ++ l.drop q = l := List.take_append_drop q l
  have e : (l.map fun x => (lnB num X x).size).sum = ((l.take q).map fun x => (lnB num X x).size).sum + ((l.drop q).map fun x => (lnB num X x).size).sum := by
    rw [← List.sum_append, ← List.map_append, this]
  omega
theorem prS_len (num : Bool) (X : List Nat) : ∀ l : List FL, l.length ≤ (prS num X l).size := fun l => by
  rw [prS_sum]
  induction l with
  | nil => simp
  | cons x l ih =>
    rw [List.length_cons, List.map_cons, List.sum_cons]
    have := lnB_pos num X x
    omega
/-- What Print hands back. -/
def outP (num : Bool) (X : List Nat) (l : List FL) : ByteArray × Bool := if (prS num X l).size ≤ 2000 then (prS num X l, true) else (⟨#[]⟩, false)
theorem outP_ok {num : Bool} {X : List Nat} {l : List FL} (h : (prS num X l).size ≤ 2000) : outP num X l = (prS num X l, true) := if_pos h
theorem outP_no {num : Bool} {X : List Nat} {l : List FL} (h : 2000 < (prS num X l).size) : outP num X l = (⟨#[]⟩, false) := if_neg (by omega)
theorem lines_off (X : List Nat) : offL (linesL X) ≤ X.length + 1 := by
  have h := offL_cr X []
  rw [linesL_cr]
  unfold compL restL
  simp only [List.length_nil, Nat.zero_add] at h
  by_cases hr : (crA [] X).2 = []
  · rw [if_pos hr, List.append_nil]; omega
  · rw [if_neg hr, offL_app]
    simp only [offL]
    omega
theorem flX_mem {M : MP} {inv : Bool} {X : List Nat} {x : FL} (h : x ∈ flX M inv X) : 1 ≤ x.num ∧ x.num ≤ X.length + 1 ∧ x.frm ≤ x.til ∧ x.til ≤ X.length := by
  obtain ⟨h1, h2, h3, h4, h5⟩ := selE_mem _ _ _ _ _ h
  have h6 := lines_off X
  have h7 : (linesL X).length ≤ X.length + 1 := by
    rw [linesL_cr]
    have := comp_le X
    split
    · rw [List.append_nil]; unfold compL at this ⊢; omega
    · rw [List.length_append]; simp only [List.length_cons, List.length_nil]; omega
  omega
theorem lnB_size {num : Bool} {X : List Nat} {x : FL} (h1 : x.frm ≤ x.til) (h2 : x.til ≤ X.length) : (lnB num X x).size = (hdB num x.num).size + (x.til - x.frm) + 1 ∧ (bytesB (cutX X x.frm x.til 0)).size = x.til - x.frm := by
  have e : (bytesB (cutX X x.frm x.til 0)).size = x.til - x.frm := by
    have : (bytesB (cutX X x.frm x.til 0)).size = (cutX X x.frm x.til 0).length := by
      show (((cutX X x.frm x.til 0).map Nat.toUInt8).toArray).size = _
      simp
    rw [this, cutX_whole, List.length_drop, List.length_take]
    omega
  refine ⟨?_, e⟩
  unfold lnB
  rw [ByteArray.size_append, ByteArray.size_append, e]
  rfl

end Go.Proofs.YtgifhgnccmnbiabGreatDoor

set_option linter.unusedVariables false
set_option linter.unusedSimpArgs false
namespace Go.Proofs.YtgifhgnccmnbiabGreatDoor
open Go.RowKit Go.IntWalk

theorem capI_nat (mx : Int) (n : Nat) : ∃ C : Nat, capI mx n = (C : Int) ∧ C ≤ n := by
  unfold capI
  by_cases h : 0 < mx ∧ mx < (n : Int)
  · rw [if_pos h]; exact ⟨mx.toNat, by omega, by omega⟩
  · rw [if_neg h]; exact ⟨n, rfl, Nat.le_refl _⟩
theorem itoaB_size {n : Nat} (hn : n ≤ 1099511627777) : (itoaB n).size ≤ 21 := by
  have : (itoaB n).size = (Lib.itoa (n : Int)).length := by show ((Lib.itoa (n : Int)).toArray).size = _; simp
  rw [this]
  exact Lib.itoa_length_le _ (by omega) (by omega)
/-- The lines that are printed. -/
def flC (M : MP) (inv : Bool) (mx : Int) (X : List Nat) : List FL := (flX M inv X).take (capI mx (cnt M inv (linesL X))).toNat
theorem strCells_appP (a b : ByteArray) : Lib.strCells (a ++ b) = Lib.strCells a ++ Lib.strCells b := by
  unfold Lib.strCells
  rw [ByteArray.data_append, Array.toList_append, List.map_append]
theorem kept_growP {w0 w w' : World} {v : Value} {e z n : Nat} {xs : List Value} (k : Kept [] w0 w) (h : w.ownsRow w0.heap.size e z v n xs) (g : w.grownBy w' v.ownBlock) : Kept [] w0 w' :=
  ⟨g.os.trans k.os, g.tape.trans k.tape, g.output.trans k.output, Nat.le_trans k.size g.size, fun i hi _ => (g.block i (Nat.lt_of_lt_of_le hi k.size) (fun hc => by have := (h.lt i hc.symm).1; omega)).trans (k.block i hi (by simp))⟩
theorem conv_str {w : World} {base : Nat} {v : Value} {s : ByteArray} (h : w.ownsRow base 5 1 v s.size (Lib.strCells s)) :
    (convert 77 9 v).run Tryz.prog w = .ok (.string s) w := by
  have e1 : byteCells (s.data.toList.map UInt8.toNat) = Lib.strCells s := by
    unfold byteCells Lib.strCells
    rw [List.map_map]; rfl
  have e2 : bytesB (s.data.toList.map UInt8.toNat) = s := by
    unfold bytesB
    rw [List.map_map]
    have : (Nat.toUInt8 ∘ UInt8.toNat) = id := by funext b; simp
    rw [this, List.map_id]
  have := conv_out (w := w) (base := base) (v := v) (out := s.data.toList.map UInt8.toNat) (by rw [e1, List.length_map, Array.length_toList]; exact h) (fun c hc => by
    obtain ⟨b, _, rfl⟩ := List.mem_map.1 hc
    exact b.toNat_lt)
  rw [e2] at this
  exact this
/-- The lines of a row, in memory. -/
theorem fl_cells {w : World} {B : Nat} {v : Value} {l : List FL} (h : w.ownsRow B 109 3 v l.length (flCells l)) {g : Nat} (hg : v.ownBlock = some g) {q : Nat} {x : FL} (hx : l[q]? = some x) :
    w.cell? ⟨g, q * 3, none⟩ = some (.int .i64 (x.num : Int)) ∧ w.cell? ⟨g, q * 3 + 1, none⟩ = some (.int .i64 (x.frm : Int)) ∧ w.cell? ⟨g, q * 3 + 2, none⟩ = some (.int .i64 (x.til : Int)) ∧ g < w.heap.size := by
  have hc : ∀ (l : List FL) (q : Nat) (x : FL), l[q]? = some x → (flCells l)[q * 3]? = some (.int .i64 (x.num : Int)) ∧ (flCells l)[q * 3 + 1]? = some (.int .i64 (x.frm : Int)) ∧ (flCells l)[q * 3 + 2]? = some (.int .i64 (x.til : Int)) := by
    intro l
    induction l with
    | nil => intro q x h; simp at h
    | cons y l ih =>
      intro q x h
      cases q with
      | zero => simp at h; subst h; exact ⟨rfl, rfl, rfl⟩
      | succ q =>
        obtain ⟨h1, h2, h3⟩ := ih q x (by simpa using h)
        have e : flCells (y :: l) = [.int .i64 (y.num : Int), .int .i64 (y.frm : Int), .int .i64 (y.til : Int)] ++ flCells l := rfl
        rw [e]
        refine ⟨?_, ?_, ?_⟩
        · rw [List.getElem?_append_right (by simp; omega)]; simpa [Nat.succ_mul] using h1
        · rw [List.getElem?_append_right (by simp; omega)]; show (flCells l)[(q + 1) * 3 + 1 - 3]? = _; rw [show (q + 1) * 3 + 1 - 3 = q * 3 + 1 by omega]; exact h2
        · rw [List.getElem?_append_right (by simp; omega)]; show (flCells l)[(q + 1) * 3 + 2 - 3]? = _; rw [show (q + 1) * 3 + 2 - 3 = q * 3 + 2 by omega]; exact h3
  obtain ⟨h1, h2, h3⟩ := hc l q x hx
  have c1 := h.cells hg _ _ h1
  have c2 := h.cells hg _ _ h2
  have c3 := h.cells hg _ _ h3
  rw [ptr_add] at c1 c2 c3
  exact ⟨c1, c2, c3, (h.lt g hg).2⟩
/-- What has been printed. -/
structure PrI (w2 wr : World) (R : ByteArray) (v : Value) : Prop where
  k : Kept [] w2 wr
  row : wr.ownsRow w2.heap.size 5 1 v R.size (Lib.strCells R)
theorem PrI.keep {w2 wr w' : World} {R : ByteArray} {v : Value} (h : PrI w2 wr R v) (q : Kept [] wr w') : PrI w2 w' R v := ⟨h.k.trans q, row_stay h.row q (fun _ _ => by simp)⟩
theorem PrI.grow {w2 w w' : World} {R S : ByteArray} {v v' : Value} (h : PrI w2 w R v) (ho : w'.ownsRow w2.heap.size 5 1 v' (R.size + S.size) (Lib.strCells R ++ Lib.strCells S)) (g : w.grownBy w' v.ownBlock) : PrI w2 w' (R ++ S) v' :=
  ⟨kept_growP h.k h.row g, by rw [ByteArray.size_append, strCells_appP]; exact ho⟩

set_option maxHeartbeats 4000000 in
set_option maxRecDepth 100000 in
theorem sprint_any {w : World} {gs bt gp N L : Nat} {inv : Bool} {mx : Int} {M : MP} {t : TT} {rv sv : Value} {T : List (List Nat)} {ps : PcF} (h : Ready1 w gs bt gp N L inv mx M t rv sv T ps) (hm1 : -9223372036854775808 ≤ mx) (hm2 : mx ≤ 9223372036854775807) (hw : t.whole.len ≤ 1099511627776) (htab : TabP w) (num : Bool) :
    Calls Tryz.prog 31 #[.pointer (some ⟨gs, 0, none⟩), .bool num] w fun e w' => e = .returned (.tuple #[.string (outP num (t.start.flatMap (symT T)) (flC M inv mx (t.start.flatMap (symT T)))).1, .bool (outP num (t.start.flatMap (symT T)) (flC M inv mx (t.start.flatMap (symT T)))).2]) ∧ Kept [] w w' := by
  have hlenX := h.len
  have hH : Hid (Ready1 _ _ _ _ _ _ _ _ _ _ _ _ _ _) := h
  have hcnt : Hid (Calls _ _ _ w _) := scount_any h hm1 hm2
  obtain ⟨C, hC, hCn⟩ := capI_nat mx (cnt M inv (linesL (t.start.flatMap (symT T))))
  have hfind : Hid (∀ w1, Kept [] w w1 → Calls _ _ _ w1 _) := fun w1 k => sfind_any (h.kept k) C
  have hflC : flC M inv mx (t.start.flatMap (symT T)) = (flX M inv (t.start.flatMap (symT T))).take C := by unfold flC; rw [hC]; rfl
  rw [hC] at hcnt
  rw [hflC]
  rw [← flX_len] at hCn
  have s0 : w.cell? ⟨gs, 0, none⟩ = some (.pointer (some ⟨bt, 0, none⟩)) := h.si.s.cell 0
  have s0H : Hid (∀ w', Kept [] w w' → w'.cell? ⟨gs, 0, none⟩ = some (.pointer (some ⟨bt, 0, none⟩)) ∧ gs < w'.heap.size) := fun w' k => ⟨(k.cell h.si.s.lt 0).trans s0, Nat.lt_of_lt_of_le h.si.s.lt k.size⟩
  have lgs := h.si.s.lt
  have hcut : Hid (∀ (fr dst : Nat), fr ≤ dst → dst ≤ 1099511627776 → ∀ w', Kept [] w w' → Calls Tryz.prog 59 #[.pointer (some ⟨bt, 0, none⟩), .int .i64 (fr : Int), .int .i64 (dst : Int)] w' fun e w2 => e = .returned (.string (bytesB (cutX (t.start.flatMap (symT T)) fr dst 0))) ∧ Kept [] w' w2) := fun fr dst h1 h2 w' k => by
    have hR := h.kept k
    refine (cutText_any h.st hw h1 h2 w' hR.si.sp.tr (by have := hR.si.sp.low; have := hR.si.sp.p.lt; omega)).mono ?_
    rintro e w2 ⟨rfl, hb⟩
    exact ⟨rfl, below_kept hb⟩
  have hmem : Hid (∀ x, x ∈ (flX M inv (t.start.flatMap (symT T))).take C → 1 ≤ x.num ∧ x.num ≤ (t.start.flatMap (symT T)).length + 1 ∧ x.frm ≤ x.til ∧ x.til ≤ (t.start.flatMap (symT T)).length) := fun x hx => flX_mem (List.mem_of_mem_take hx)
  have hll : ((flX M inv (t.start.flatMap (symT T))).take C).length = C := by rw [List.length_take]; omega
  have hito : Hid (∀ n, n ≤ 1099511627777 → ∀ w', Kept [] w w' → Calls _ _ _ w' _) := fun n hn w' k => itoa_any n hn (htab.kept k)
  clear h htab hC hflC hCn
  generalize (flX M inv (t.start.flatMap (symT T))).take C = FX at *
  generalize t.start.flatMap (symT T) = X at *
  subst hll
  obtain ⟨O, hO⟩ : ∃ O, O = outP num X FX := ⟨_, rfl⟩
  rw [← hO]
  have hOH : Hid (O = _) := hO
  clear hO
  have hpl : Hid (2000 < FX.length → 2000 < (prS num X FX).size) := fun h => Nat.lt_of_lt_of_le h (prS_len num X FX)
  obtain ⟨i0, hi0, hz0, hz1, hz2⟩ := info_parts infoU8
  go_enter Tryz.func31, Tryz.ntmps31
  go_wp2_with fail
  refine hcnt.out.mono ?_
  rintro _ w1 ⟨rfl, k1⟩
  by_cases hbig : 2000 < FX.length
  · have e : Hid (O = (⟨#[]⟩, false)) := hOH.out.trans (outP_no (hpl.out hbig))
    have hbi : (2000 : Int) < (FX.length : Int) := by omega
    have k1H : Hid (Kept _ _ _) := k1
    clear k1 hpl
    go_wp2_with fail
    go_ret2
    rw [e.out]
    exact ⟨rfl, k1H.out⟩
  have hbi : ¬ (2000 : Int) < (FX.length : Int) := by omega
  go_wp2_with fail
  refine (hfind.out w1 k1).mono ?_
  rintro _ w2 ⟨v, rfl, hF⟩
  obtain ⟨fa, fn, fc, rfl, hrow⟩ := hF.ex
  have hfn := fl_num hrow
  subst hfn
  have k2 : Hid (Kept [] w w2) := k1.trans hF.k
  have hrowH : Hid (World.ownsRow _ _ _ _ _ _ _) := hrow
  have h0 : Hid (PrI w2 w2 (prS num X (FX.take 0)) (.slice none 0 0)) := ⟨Kept.refl _ _, World.ownsRow_nil _ _ _ _⟩
  have hpq : Hid (∀ q, (prS num X (FX.take q)).size ≤ (prS num X FX).size) := prS_le num X FX
  clear hF hrow hcnt hfind k1 hpl
  go_wp2_with fail
  go_loopw [8, 9] (fun ov iv wr => ∃ (q : Nat) (R : ByteArray) (oa : Option Addr) (oc : Nat), ov = .slice oa R.size oc ∧ iv = .int .i64 (q : Int) ∧ q ≤ FX.length ∧ R = prS num X (FX.take q) ∧ R.size ≤ 2000 ∧ PrI w2 wr R (.slice oa R.size oc)) (fun _ iv _ => ((FX.length : Int) - intOf iv).toNat)
  case atStart => exact ⟨0, ⟨#[]⟩, none, 0, rfl, rfl, Nat.zero_le _, rfl, Nat.zero_le _, h0.out⟩
  case round =>
    clear h0
    obtain ⟨q, R, oa, oc, rfl, rfl, hq, hRq, hR2, hI⟩ := hrel
    have KW : Hid (Kept [] w wr) := k2.out.trans hI.k
    have hIH : Hid (PrI _ _ _ _) := hI
    have hconv : (convert 77 9 (.slice oa R.size oc)).run Tryz.prog wr = .ok (.string R) wr := conv_str hI.row
    obtain ⟨s0', lgs'⟩ := s0H.out wr KW.out
    clear hI
    by_cases hlt : (q : Int) < (FX.length : Int)
    · obtain ⟨x, hx⟩ : ∃ x, FX[q]? = some x := ⟨_, List.getElem?_eq_getElem (by omega)⟩
      obtain ⟨m1, m2, m3, m4⟩ := hmem.out x (List.mem_of_getElem? hx)
      obtain ⟨g, cap, hv⟩ := own_form hrowH.out (by omega)
      simp only [Value.slice.injEq] at hv
      obtain ⟨rfl, _, rfl⟩ := hv
      obtain ⟨f0, f1, f2, fl⟩ := fl_cells hrowH.out rfl hx
      have hcell : Hid (∀ w', Kept [] w2 w' → w'.cell? ⟨g, q * 3, none⟩ = some (.int .i64 (x.num : Int)) ∧ w'.cell? ⟨g, q * 3 + 1, none⟩ = some (.int .i64 (x.frm : Int)) ∧ w'.cell? ⟨g, q * 3 + 2, none⟩ = some (.int .i64 (x.til : Int)) ∧ g < w'.heap.size) := fun w' k => ⟨(k.cell fl _).trans f0, (k.cell fl _).trans f1, (k.cell fl _).trans f2, Nat.lt_of_lt_of_le fl k.size⟩
      obtain ⟨z1, z2⟩ := lnB_size (num := num) m3 m4
      have hnx := prS_take (num := num) (X := X) hx
      rw [← hRq] at hnx
      have hle := hpq.out (q + 1)
      rw [hnx, ByteArray.size_append, z1] at hle
      have hnxH : Hid (_ = R ++ (hdB num x.num ++ bytesB (cutX X x.frm x.til 0) ++ ⟨#[10]⟩)) := hnx
      have hit : Hid (∀ w', Kept [] w w' → Calls _ _ _ w' _) := hito.out x.num (by omega)
      have hct : Hid (∀ w', Kept [] w w' → Calls _ _ _ w' _) := hcut.out x.frm x.til m3 (by omega)
      have hhd : Hid (hdB true x.num = itoaB x.num ++ ⟨#[58]⟩ ∧ hdB false x.num = ⟨#[]⟩) := ⟨if_pos rfl, if_neg (by decide)⟩
      obtain ⟨d0, d1, d2, dl⟩ := hcell.out wr hIH.out.k
      have hib : (itoaB x.num).size ≤ 21 := itoaB_size (by omega)
      clear hx hmem hrowH hnx hito hcut hRq f0 f1 f2 fl z1 hH s0
      obtain ⟨xn, xf, xt⟩ := x
      simp only [] at *
      go_upto_if 25 with fail
      go_cut [10] (fun s10 wx => s10 = .string (hdB num xn) ∧ ∃ y, y = wx ∧ Kept [] wr y)
      case first =>
        cases num with
        | false =>
          go_wp2_with fail
          go_meet
          exact ⟨by rw [hhd.out.2], _, rfl, Kept.refl _ _⟩
        | true =>
          go_wp2_with (go_at_call 43; refine (hit.out _ KW.out).mono ?_; rintro _ w5 ⟨rfl, k5⟩; have K5 : Hid (Kept _ _ _) := k5; clear k5)
          go_meet
          exact ⟨by rw [hhd.out.1], _, rfl, K5.out⟩
      case rest =>
        obtain ⟨rfl, wx, hwx, kx⟩ := hcut
        subst hwx
        have KX : Hid (Kept [] w wx) := KW.out.trans kx
        have IX : Hid (PrI _ _ _ _) := hIH.out.keep kx
        obtain ⟨d0, d1, d2, dl⟩ := hcell.out wx (hIH.out.k.trans kx)
        obtain ⟨s0', lgs'⟩ := s0H.out wx KX.out
        have hHD : (hdB num xn).size ≤ 30 := by
          cases num with
          | false => rw [hhd.out.2]; show 0 ≤ 30; omega
          | true => rw [hhd.out.1, ByteArray.size_append]; show _ + 1 ≤ 30; omega
        clear hhd hit kx hconv
        generalize hdB num xn = HD at *
        have hHb : HD.size ≤ 30 := hHD
        by_cases hov : (2000 : Int) ≤ (R.size : Int) + (HD.size : Int) + (xt : Int) - (xf : Int)
        · have e : Hid (O = (⟨#[]⟩, false)) := hOH.out.trans (outP_no (by omega))
          clear hct hle z2
          go_wp2_with fail
          go_quiet (fail)
          go_wp2_with fail
          go_ret2
          rw [e.out]
          exact ⟨rfl, KX.out.trans ((Kept.refl [] _).drewN _)⟩
        · have hle2 : R.size + (HD.size + (xt - xf) + 1) ≤ 2000 := by omega
          clear hle
          go_wp2_with fail
          go_quiet (fail)
          go_wp2_with fail
          go_region_law (go_simp; go_at_call 59; refine (hct.out _ (KX.out.trans (((Kept.refl [] wx).drewN _).drew))).mono ?_; rintro _ w6 ⟨rfl, k6⟩; have I6 : Hid (PrI w2 w6 R (.slice oa R.size oc)) := IX.out.keep ((((Kept.refl [] wx).drewN _).drew).trans k6); clear k6)
          all_goals
            clear hct d0 d1 d2 dl s0' lgs' IX hcell KX
            generalize bytesB (cutX X xf xt 0) = S at *
            go_wp2_with (at_builtin; refine Lib.wpList_append_own_string (P := Tryz.prog) _ rfl (.tmp 66) (.tmp 67) 77 9 rfl w2.heap.size 5 i0 Tryz.underlying77 Tryz.underlying9 hi0 hz0 hz1 hz2 (.slice oa R.size oc) R.size (Lib.strCells R) rfl I6.out.row HD rfl ?_ ?_ ?_ ?_)
            · unfold maxLen; omega
            · omega
            · exact I6.out.k.size
            intro v7 w7 ho7 hg7 _
            have I7 : Hid (PrI w2 w7 (R ++ HD) v7) := I6.out.grow ho7 hg7
            clear ho7 hg7 I6
            have e7 : (R ++ HD).size = R.size + HD.size := ByteArray.size_append
            generalize hRH : R ++ HD = RH at *
            have hRHH : Hid (R ++ HD = RH) := hRH
            clear hRH
            go_wp2_with (at_builtin; refine Lib.wpList_append_own_string (P := Tryz.prog) _ rfl (.tmp 69) (.tmp 70) 77 9 rfl w2.heap.size 5 i0 Tryz.underlying77 Tryz.underlying9 hi0 hz0 hz1 hz2 v7 RH.size (Lib.strCells RH) rfl I7.out.row S rfl ?_ ?_ ?_ ?_)
            · unfold maxLen; omega
            · omega
            · exact I7.out.k.size
            intro v8 w8 ho8 hg8 _
            have I8 : Hid (PrI w2 w8 (RH ++ S) v8) := I7.out.grow (by rw [e7, z2]; exact ho8) hg8
            clear ho8 hg8 I7
            have e8 : (RH ++ S).size = RH.size + S.size := ByteArray.size_append
            generalize hRS : RH ++ S = RS at *
            have hRSH : Hid (RH ++ S = RS) := hRS
            clear hRS
            have I9 : Hid (∀ o, PrI w2 (w8.alloc o) RS v8) := fun o => I8.out.keep ((Kept.refl [] w8).alloc o)
            go_wp2_with (at_builtin; refine wpList_append_own _ rfl (.tmp 72) (.tmp 73) 77 rfl w2.heap.size 5 i0 _ 1 1 Tryz.underlying77 hi0 hz0 hz1 hz2 rfl (by decide) v8 RS.size (Lib.strCells RS) rfl (by exact (I9.out _).row) ⟨w8.heap.size, 0, none⟩ 1 1 [.int .u8 10] rfl rfl (by exact cells_new _ _ _ _ rfl) (by simp [Value.oneCell']) (by unfold maxLen; omega) (by omega) (by exact (I9.out _).k.size) ?kk)
            case kk =>
              intro v9 w9 ho9 hg9 _
              obtain ⟨g9, c9, rfl⟩ := own_form ho9 (by omega)
              have I10 : Hid (PrI w2 w9 (RS ++ ⟨#[10]⟩) (.slice (some ⟨g9, 0, none⟩) (R.size + HD.size + (xt - xf) + 1) c9)) := (I9.out _).grow (S := ⟨#[10]⟩) (by rw [e8, e7, z2]; exact ho9) hg9
              clear ho9 hg9 I9 I8
              have e10 : (RS ++ ⟨#[10]⟩ : ByteArray).size = RS.size + 1 := ByteArray.size_append
              go_wp2
              refine ⟨⟨q + 1, RS ++ ⟨#[10]⟩, some ⟨g9, 0, none⟩, c9, by rw [e10, e8, e7, z2], by go_num, by omega, ?_, by omega, by rw [e10, e8, e7, z2]; exact I10.out⟩, by simp only [intOf]; omega⟩
              rw [hnxH.out, ← hRSH.out, ← hRHH.out, ByteArray.append_assoc, ByteArray.append_assoc, ByteArray.append_assoc]
    · have hqe : q = FX.length := by omega
      subst hqe
      have hRF : R = prS num X FX := by rw [hRq, List.take_length]
      have e : Hid (O = (R, true)) := hOH.out.trans (by rw [hRF]; exact outP_ok (by rw [← hRF]; exact hR2))
      have IH2 : Hid (PrI _ _ _ _) := hIH.out
      clear hRq hRF hpq hmem hcut hito hrowH hH
      go_wp2_with fail
      go_ret2
      rw [e.out]
      exact ⟨rfl, KW.out⟩

end Go.Proofs.YtgifhgnccmnbiabGreatDoor

set_option linter.unusedVariables false
set_option linter.unusedSimpArgs false
namespace Go.Proofs.YtgifhgnccmnbiabGreatDoor
open Go.RowKit Go.IntWalk

/-- What Grep makes of what is printed. -/
def grepR (O : ByteArray × Bool) : ByteArray × Int := if O.2 = true then (O.1, 0) else (⟨#[]⟩, 7)

set_option maxHeartbeats 1000000 in
set_option maxRecDepth 100000 in
theorem grep_no {inv fold whole num : Bool} {mx x : Int} {p f : ByteArray} (w : World) (hx : x ≠ 0) (hc : ∀ w, Calls Tryz.prog 30 #[.agg #[.bool inv, .bool fold, .bool whole, .bool num, .int .i64 mx], .string p, .string f] w fun e w' => e = .returned (.tuple #[.agg zSearch, .int .i64 x]) ∧ Below w.heap.size w w') :
    Calls Tryz.prog 9 #[.agg #[.bool inv, .bool fold, .bool whole, .bool num, .int .i64 mx], .string p, .string f] w fun e w' => e = .returned (.tuple #[.string ⟨#[]⟩, .int .i64 x]) ∧ Below w.heap.size w w' := by
  have hcH : Hid (∀ w, Calls _ _ _ w _) := hc
  clear hc
  unfold zSearch at hcH
  have h0 : Hid (∀ o, Below w.heap.size w (w.alloc o)) := fun o => (Below.refl _ _).alloc (Nat.le_refl _) o
  have hxb : (x != 0) = true := by simp [hx]
  go_enter Tryz.func9, Tryz.ntmps9
  go_wp2_with (go_at_call 30; refine (hcH.out _).mono ?_; rintro e w1 ⟨rfl, b1⟩; have B1 : Hid (Below w.heap.size w w1) := (h0.out _).trans (b1.mono (by simp)))
  go_ret2
  exact ⟨rfl, B1.out.alloc B1.out.size _⟩

set_option maxHeartbeats 1000000 in
set_option maxRecDepth 100000 in
theorem grep_go {inv fold whole num : Bool} {mx : Int} {M : MP} {p f : ByteArray} {t : TT} {T : List (List Nat)} (w : World) (htab : TabP w) (hm1 : -9223372036854775808 ≤ mx) (hm2 : mx ≤ 9223372036854775807) (hS : SText t T) (hl : t.whole.len ≤ 1099511627776) (hc : ∀ w, Calls Tryz.prog 30 #[.agg #[.bool inv, .bool fold, .bool whole, .bool num, .int .i64 mx], .string p, .string f] w fun e w' => OpOk w w' inv mx M t T e) :
    Calls Tryz.prog 9 #[.agg #[.bool inv, .bool fold, .bool whole, .bool num, .int .i64 mx], .string p, .string f] w fun e w' => e = .returned (.tuple #[.string (grepR (outP num (t.start.flatMap (symT T)) (flC M inv mx (t.start.flatMap (symT T))))).1, .int .i64 (grepR (outP num (t.start.flatMap (symT T)) (flC M inv mx (t.start.flatMap (symT T))))).2]) ∧ Below w.heap.size w w' := by
  have hcH : Hid (∀ w, Calls _ _ _ w _) := hc
  have hlen : Hid ((t.start.flatMap (symT T)).length ≤ 1099511627776) := by show _ ≤ _; rw [hS.len hl]; exact hl
  have hSH : Hid (SText t T) := hS
  have htH : Hid (TabP w) := htab
  have hlH : Hid (t.whole.len ≤ 1099511627776) := hl
  clear hc hS htab hl
  have h0 : Hid (∀ o, Below w.heap.size w (w.alloc o)) := fun o => (Below.refl _ _).alloc (Nat.le_refl _) o
  obtain ⟨O, hO⟩ : ∃ O, Hid (outP num (t.start.flatMap (symT T)) (flC M inv mx (t.start.flatMap (symT T))) = O) := ⟨_, rfl⟩
  rw [hO.out]
  obtain ⟨G, hG⟩ : ∃ G, G = grepR O := ⟨_, rfl⟩
  rw [← hG]
  obtain ⟨s, b⟩ := O
  have hGt : Hid (b = true → G = (s, 0)) := fun h => by rw [hG]; subst h; rfl
  have hGf : Hid (b = false → G = (⟨#[]⟩, 7)) := fun h => by rw [hG]; subst h; rfl
  clear hG
  go_enter Tryz.func9, Tryz.ntmps9
  go_wp2_with fail
  refine (hcH.out _).mono ?_
  rintro e w1 ⟨b1, bt, gp, N, L, rv, sv, ps, rfl, hsp⟩
  have hBb : Below w.heap.size w w1 := (h0.out _).trans (b1.mono (by simp))
  have B1 : Hid (Below w.heap.size w w1) := hBb
  have hre : Hid (Ready1 (w1.alloc (.cells (seCells bt M.beg inv mx (.slice (some ⟨gp, 0, none⟩) (256 + t.rules.length) (256 + t.rules.length))) 60)) w1.heap.size bt gp N L inv mx M t rv sv T ps) :=
    ⟨⟨Blk.new w1 _ _, hsp.kept ((Kept.refl [] w1).alloc _)⟩, hSH.out, hlen.out⟩
  have htb : Hid (∀ o, TabP (w1.alloc o)) := fun o => htH.out.kept ((below_kept hBb).alloc o)
  have bx : w1.cell? ⟨w.heap.size, 3, none⟩ = some (.bool num) := by
    have : Blk w1 w.heap.size #[.bool inv, .bool fold, .bool whole, .bool num, .int .i64 mx] 23 := Blk.kept (Blk.new w _ _) (below_kept b1) (by simp)
    exact this.cell 3
  have lx : w.heap.size < w1.heap.size := by have := b1.size; simp at this; omega
  clear hsp b1 hBb
  unfold seCells at hre ⊢
  go_wp2_with fail
  refine (sprint_any hre.out hm1 hm2 hlH.out (htb.out _) num).mono ?_
  rintro e w2 ⟨he, k2⟩
  rw [hO.out] at he
  subst he
  have B2 : Hid (Below w.heap.size w w2) := (B1.out.alloc B1.out.size _).trans (k2.below (by have := B1.out.size; simp; omega) (by simp))
  clear k2 hre
  cases b with
  | true =>
    go_wp2
    go_ret2
    rw [hGt.out trivial]
    exact ⟨rfl, B2.out⟩
  | false =>
    go_wp2
    go_ret2
    rw [hGf.out trivial]
    exact ⟨rfl, B2.out⟩

end Go.Proofs.YtgifhgnccmnbiabGreatDoor

set_option linter.unusedVariables false
set_option linter.unusedSimpArgs false
namespace Go.Proofs.YtgifhgnccmnbiabGreatDoor
open Go.RowKit Go.IntWalk

/-- The bytes of a number, the lowest one first. -/
def dig (V i : Nat) : Nat := V / 256 ^ i % 256
def digs (V n : Nat) : List Nat := (List.range n).map (dig V)
theorem digs_len (V n : Nat) : (digs V n).length = n := by simp [digs]
theorem digs_succ (V n : Nat) : digs V (n + 1) = digs V n ++ [dig V n] := by unfold digs; rw [List.range_succ, List.map_append]; rfl
theorem digs_lt (V n : Nat) : ∀ c, c ∈ digs V n → c < 256 := fun c hc => by
  unfold digs at hc
  obtain ⟨i, _, rfl⟩ := List.mem_map.1 hc
  unfold dig; omega
theorem pow8 (m k : Nat) : 2 ^ (8 * m + k) = 256 ^ m * 2 ^ k := by rw [Nat.pow_add, Nat.pow_mul]
theorem div_more (V n m k : Nat) : (V + n * 2 ^ (8 * m + k)) / 256 ^ m = V / 256 ^ m + n * 2 ^ k := by
  have hp : 0 < 256 ^ m := Nat.pow_pos (by decide)
  rw [pow8, show n * (256 ^ m * 2 ^ k) = (n * 2 ^ k) * 256 ^ m by rw [Nat.mul_comm (256 ^ m), Nat.mul_assoc], Nat.add_mul_div_right _ _ hp]
theorem digs_keep (V n m k : Nat) : digs (V + n * 2 ^ (8 * m + k)) m = digs V m := by
  unfold digs
  refine List.map_congr_left fun i hi => ?_
  have hi2 : i < m := List.mem_range.1 hi
  unfold dig
  obtain ⟨d, hd⟩ : ∃ d, m = i + 1 + d := ⟨m - (i + 1), by omega⟩
  have e : 8 * m + k = 8 * i + (8 + 8 * d + k) := by omega
  rw [e, div_more, Nat.pow_add, Nat.pow_add, show (2 : Nat) ^ 8 = 256 by decide]
  rw [show n * (256 * 2 ^ (8 * d) * 2 ^ k) = 256 * (n * (2 ^ (8 * d) * 2 ^ k)) by rw [Nat.mul_assoc 256, Nat.mul_left_comm]]
  rw [Nat.add_mul_mod_self_left]
theorem div_next (V m : Nat) : V / 256 ^ m / 256 = V / 256 ^ (m + 1) := by rw [Nat.div_div_eq_div_mul, Nat.pow_succ]
theorem val_less {V n K w : Nat} (hV : V < 2 ^ K) (hn : n < 2 ^ w) : V + n * 2 ^ K < 2 ^ (K + w) := by
  have h1 : (n + 1) * 2 ^ K ≤ 2 ^ w * 2 ^ K := Nat.mul_le_mul_right _ hn
  rw [Nat.add_mul, Nat.one_mul] at h1
  rw [Nat.pow_add, Nat.mul_comm (2 ^ K) (2 ^ w)]
  omega
theorem rest_lt {V m k : Nat} (hV : V < 2 ^ (8 * m + k)) : V / 256 ^ m < 2 ^ k := by
  rw [pow8] at hV
  exact Nat.div_lt_of_lt_mul hV
theorem or_add (r n k : Nat) (hr : r < 2 ^ k) (hk : k ≤ 8) (hn : n < 65536) : bits .or .i64 (r : Int) ((n * 2 ^ k : Nat) : Int) = ((r + n * 2 ^ k : Nat) : Int) := by
  have hp : 2 ^ k ≤ 2 ^ 8 := Nat.pow_le_pow_right (by omega) hk
  have h1 : n * 2 ^ k ≤ 65536 * 256 := Nat.mul_le_mul (by omega) hp
  have h2 : (2 : Nat) ^ 8 = 256 := by decide
  rw [(bits_nat .i64 62 (by decide) wraps_i64 r (n * 2 ^ k) (by omega) (by omega)).2]
  have := Nat.two_pow_add_eq_or_of_lt hr n
  rw [Nat.or_comm, Nat.mul_comm n, ← this, Nat.add_comm]

/-- A writer of bits at the front of block b: m bytes are written, the rest is what is left of V. -/
structure BWL (w : World) (b : Nat) (post : Array Value) (E V m r : Nat) (v : Value) : Prop where
  blk : Blk w b (#[v, .int .i64 ((V / 256 ^ m : Nat) : Int), .int .i64 (r : Int)] ++ post) E
  row : w.ownsRow (b + 1) 5 1 v m (byteCells (digs V m))
theorem pre0 (post : Array Value) (a c d u : Value) : (#[a, c, d] ++ post).setIfInBounds 0 u = #[u, c, d] ++ post := by apply Array.ext'; simp
theorem pre1 (post : Array Value) (a c d u : Value) : (#[a, c, d] ++ post).setIfInBounds 1 u = #[a, u, d] ++ post := by apply Array.ext'; simp
theorem pre2 (post : Array Value) (a c d u : Value) : (#[a, c, d] ++ post).setIfInBounds 2 u = #[a, c, u] ++ post := by apply Array.ext'; simp
theorem preGet (post : Array Value) (a c d : Value) (j : Nat) (hj : j < 3) : (#[a, c, d] ++ post)[j]? = #[a, c, d][j]? := by rw [Array.getElem?_append_left (by simpa using hj)]
/-- What writing a number leaves. -/
structure NumOut (w w' : World) (b : Nat) (post : Array Value) (E V K : Nat) : Prop where
  below : Below b w w'
  stay : ∀ k cs e, k ≠ b → e ≠ 5 → Blk w k cs e → Blk w' k cs e
  bd : V < 2 ^ K
  ex : ∃ v, BWL w' b post E V (K / 8) (K % 8) v

/-- While whole bytes are taken off. -/
structure NumLoop (w w' : World) (b : Nat) (post : Array Value) (E V m r : Nat) : Prop where
  below : Below b w w'
  stay : ∀ k cs e, k ≠ b → e ≠ 5 → Blk w k cs e → Blk w' k cs e
  ex : ∃ a k c, BWL w' b post E V m r (.slice a k c)

def rAt (w : World) (b : Nat) : Nat :=
  match w.cell? ⟨b, 2, none⟩ with
  | some (.int _ r) => r.toNat
  | _ => 0
theorem rAt_of {w : World} {b r : Nat} (h : w.cell? ⟨b, 2, none⟩ = some (.int .i64 (r : Int))) : rAt w b = r := by unfold rAt; rw [h]; rfl

set_option maxHeartbeats 4000000 in
set_option maxRecDepth 100000 in
theorem number_any (w : World) (b : Nat) (post : Array Value) (E V K : Nat) (v : Value) (h : BWL w b post E V (K / 8) (K % 8) v) (hE : E ≠ 5) (hV : V < 2 ^ K) (n wd : Nat) (hn : n < 2 ^ wd) (hw : wd ≤ 16) (hK : K ≤ 1000000) :
    Calls Tryz.prog 70 #[.pointer (some ⟨b, 0, none⟩), .int .i64 (n : Int), .int .i64 (wd : Int)] w fun e w' => e = .returned (.tuple #[]) ∧ NumOut w w' b post E (V + n * 2 ^ K) (K + wd) := by
  obtain ⟨m, hm⟩ : ∃ m, m = K / 8 := ⟨_, rfl⟩
  obtain ⟨k, hk⟩ : ∃ k, k = K % 8 := ⟨_, rfl⟩
  rw [← hm, ← hk] at h
  have hKe : K = 8 * m + k := by omega
  have hk8 : k < 8 := by omega
  have hVl := val_less hV hn
  have hn16 : n < 65536 := Nat.lt_of_lt_of_le hn (Nat.pow_le_pow_right (by decide) hw)
  have hr := rest_lt (V := V) (m := m) (k := k) (by rw [← hKe]; exact hV)
  have hor := or_add (V / 256 ^ m) n k hr (by omega) hn16
  have hdm := div_more V n m k
  rw [← hdm] at hor
  have hdk := digs_keep V n m k
  have hrow2 : w.ownsRow (b + 1) 5 1 v m (byteCells (digs (V + n * 2 ^ (8 * m + k)) m)) := by rw [hdk]; exact h.row
  have hdH : Hid (digs (V + n * 2 ^ (8 * m + k)) m = digs V m) := hdk
  rw [hKe] at hVl
  have hKm : m ≤ 125000 := by omega
  have hVlH : Hid (V + n * 2 ^ (8 * m + k) < 2 ^ (8 * m + k + wd)) := hVl
  have hp8 : n * 2 ^ k ≤ 65536 * 256 := Nat.mul_le_mul (by omega) (Nat.pow_le_pow_right (by omega) (by omega : k ≤ 8))
  have hwr : IntKind.wrap .i64 ((n : Int) * 2 ^ k) = ((n * 2 ^ k : Nat) : Int) := by
    have e : ((n : Int) * 2 ^ k) = ((n * 2 ^ k : Nat) : Int) := by simp [Int.natCast_mul, Int.natCast_pow]
    rw [e, IntKind.wrap_i64]; omega
  obtain ⟨va, vk, vc, rfl⟩ := own_shape h.row
  have hgoal : Hid (K = 8 * m + k) := hKe
  obtain ⟨V2, hV2⟩ : ∃ V2, V2 = V + n * 2 ^ (8 * m + k) := ⟨_, rfl⟩
  rw [← hV2] at hor hdH hVlH hrow2
  have c1 : w.cell? ⟨b, 1, none⟩ = some (.int .i64 ((V / 256 ^ m : Nat) : Int)) := by rw [h.blk.cell, preGet _ _ _ _ 1 (by omega)]; rfl
  have c2 : w.cell? ⟨b, 2, none⟩ = some (.int .i64 (k : Int)) := by rw [h.blk.cell, preGet _ _ _ _ 2 (by omega)]; rfl
  have f1 := h.blk.frozen 1
  have f2 := h.blk.frozen 2
  have hbl := h.blk.lt
  have hst : Hid (NumLoop w ((w.setCell ⟨b, 1, none⟩ (.int .i64 ((V2 / 256 ^ m : Nat) : Int))).setCell ⟨b, 2, none⟩ (.int .i64 ((k : Int) + (wd : Int)))).drew b post E V2 m (k + wd)) := by
    have hk0 : Kept [b] w ((w.setCell ⟨b, 1, none⟩ (.int .i64 ((V2 / 256 ^ m : Nat) : Int))).setCell ⟨b, 2, none⟩ (.int .i64 ((k : Int) + (wd : Int)))).drew := (((Kept.refl [b] w).setCell (Or.inl (by simp)) _).setCell (Or.inl (by simp)) _).drew
    refine ⟨hk0.below (Nat.le_of_lt hbl) (by simp), fun j cs e hj _ hb => hb.kept hk0 (by simp; omega), va, vk, vc, ?_, ?_⟩
    · have h1 := (h.blk.set 1 (.int .i64 ((V2 / 256 ^ m : Nat) : Int))).set 2 (.int .i64 ((k : Int) + (wd : Int)))
      rw [pre1, pre2] at h1
      exact h1.kept ((Kept.refl [] _).drew) (by simp)
    · exact row_stay (S := []) (row_set (row_set hrow2 (Nat.lt_succ_self b) _ _) (Nat.lt_succ_self b) _ _) ((Kept.refl [] _).drew) (fun _ _ => by simp)
  clear h hdm hdk hrow2 hr hVl hV hKe hK hm hk
  have hV2H : Hid (V2 = V + n * 2 ^ (8 * m + k)) := hV2
  clear hV2
  generalize V / 256 ^ m = R0 at *
  generalize V2 / 256 ^ m = R1 at hor hst
  generalize n * 2 ^ k = N2 at *
  obtain ⟨i0, hi0, hz0, hz1, hz2⟩ := info_parts infoU8
  go_enter Tryz.func70, Tryz.ntmps70
  go_wp2_with fail
  go_region
  go_wp2_with fail
  clear hor hwr c1 c2 f1 f2 hp8
  go_loopw [] (fun wr => ∃ j r : Nat, k + wd = r + 8 * j ∧ NumLoop w wr b post E V2 (m + j) r) (fun wr => rAt wr b)
  case atStart => exact ⟨0, k + wd, rfl, hst.out⟩
  case round =>
    obtain ⟨j, r, hjr, hI⟩ := hrel
    clear hst
    obtain ⟨hBl, hSt, va, vk, vc, hW⟩ := hI
    have hVr : V2 < 2 ^ (8 * (m + j) + r) := by have := hVlH.out; rwa [show 8 * m + k + wd = 8 * (m + j) + r by omega] at this
    have hR := rest_lt hVr
    have hR24 : V2 / 256 ^ (m + j) < 16777216 := Nat.lt_of_lt_of_le hR (Nat.le_trans (Nat.pow_le_pow_right (by decide) (by omega : r ≤ 24)) (by decide))
    have hdn := div_next V2 (m + j)
    have hds := digs_succ V2 (m + j)
    have hdg : Hid (dig V2 (m + j) = V2 / 256 ^ (m + j) % 256) := rfl
    have hBlH : Hid (Below _ _ _) := hBl
    have hStH : Hid (∀ k cs e, _) := hSt
    have hWH : Hid (BWL _ _ _ _ _ _ _ _) := hW
    have c0 : wr.cell? ⟨b, 0, none⟩ = some (.slice va vk vc) := by rw [hW.blk.cell, preGet _ _ _ _ 0 (by omega)]; rfl
    have c1 : wr.cell? ⟨b, 1, none⟩ = some (.int .i64 ((V2 / 256 ^ (m + j) : Nat) : Int)) := by rw [hW.blk.cell, preGet _ _ _ _ 1 (by omega)]; rfl
    have c2 : wr.cell? ⟨b, 2, none⟩ = some (.int .i64 (r : Int)) := by rw [hW.blk.cell, preGet _ _ _ _ 2 (by omega)]; rfl
    have hmeas : Hid (rAt wr b = r) := rAt_of c2
    have hbw : b < wr.heap.size := hW.blk.lt
    clear hBl hSt hVr hR
    by_cases h8 : (8 : Int) ≤ (r : Int)
    · have own : ∀ o, (wr.alloc o).ownsRow (b + 1) 5 1 (.slice va vk vc) (m + j) (byteCells (digs V2 (m + j))) := fun o => row_stay (S := []) hW.row ((Kept.refl [] wr).alloc o) (fun _ _ => by simp)
      have own2 : ∀ o, (wr.alloc o).drew.ownsRow (b + 1) 5 1 (.slice va vk vc) (m + j) (byteCells (digs V2 (m + j))) := fun o => row_stay (S := []) hW.row (((Kept.refl [] wr).alloc o).drew) (fun _ _ => by simp)
      have up : ∀ o, b + 1 ≤ (wr.alloc o).heap.size := fun o => by simp; omega
      have mb : m + j + 1 ≤ maxLen := by unfold maxLen; omega
      have mc : (m + j + 1) * 1 ≤ 140737488355328 := by omega
      have hw8 : IntKind.wrap .u8 ((V2 / 256 ^ (m + j) : Nat) : Int) = ((dig V2 (m + j) : Nat) : Int) := by rw [IntKind.wrap_u8, hdg.out]; omega
      have hnext : Hid (∀ (w4 : World) (g cap : Nat), w4.ownsRow (b + 1) 5 1 (.slice (some ⟨g, 0, none⟩) (m + j + 1) cap) (m + j + 1) (byteCells (digs V2 (m + j)) ++ [.int .u8 ((dig V2 (m + j) : Nat) : Int)]) → ∀ o, (wr.alloc o).drew.grownBy w4 (Value.slice va vk vc).ownBlock →
          Blk w4 b (#[.slice va vk vc, .int .i64 ((V2 / 256 ^ (m + j) : Nat) : Int), .int .i64 (r : Int)] ++ post) E ∧
          NumLoop w (((w4.setCell ⟨b, 0, none⟩ (.slice (some ⟨g, 0, none⟩) (m + j + 1) cap)).setCell ⟨b, 1, none⟩ (.int .i64 ((V2 / 256 ^ (m + j + 1) : Nat) : Int))).setCell ⟨b, 2, none⟩ (.int .i64 ((r : Int) - 8))) b post E V2 (m + (j + 1)) (r - 8)) := fun w4 g cap hown o hg => by
        have hk0 : Kept [] wr (wr.alloc o).drew := ((Kept.refl [] wr).alloc o).drew
        have hne : ∀ i, i ≤ b → some i ≠ (Value.slice va vk vc).ownBlock := fun i hi hc => by have := (hWH.out.row.lt i hc.symm).1; omega
        have hb4 := (hg.block b (by have := hk0.size; omega) (hne b (Nat.le_refl _))).trans (hWH.out.blk.kept hk0 (by simp))
        have hbel : Below b w w4 := (hBlH.out.trans (hk0.below (Nat.le_of_lt hbw) (by simp))).trans ⟨hg.os, hg.tape, hg.output, hg.size, fun i hi => hg.block i (by have := hk0.size; omega) (hne i (by omega))⟩
        have hst4 : ∀ i cs e, i ≠ b → e ≠ 5 → Blk w i cs e → Blk w4 i cs e := fun i cs e hi he hb => by
          have h1 := (hStH.out i cs e hi he hb).kept hk0 (by simp)
          exact (hg.block i h1.lt (fun hc => he (own_type (row_stay (S := []) hWH.out.row hk0 (fun _ _ => by simp)) h1 hc.symm))).trans h1
        have hk4 : Kept [b] w4 (((w4.setCell ⟨b, 0, none⟩ (.slice (some ⟨g, 0, none⟩) (m + j + 1) cap)).setCell ⟨b, 1, none⟩ (.int .i64 ((V2 / 256 ^ (m + j + 1) : Nat) : Int))).setCell ⟨b, 2, none⟩ (.int .i64 ((r : Int) - 8))) := (((Kept.refl [b] w4).setCell (Or.inl (by simp)) _).setCell (Or.inl (by simp)) _).setCell (Or.inl (by simp)) _
        have hblk : Blk (((w4.setCell ⟨b, 0, none⟩ (.slice (some ⟨g, 0, none⟩) (m + j + 1) cap)).setCell ⟨b, 1, none⟩ (.int .i64 ((V2 / 256 ^ (m + j + 1) : Nat) : Int))).setCell ⟨b, 2, none⟩ (.int .i64 ((r : Int) - 8))) b (#[.slice (some ⟨g, 0, none⟩) (m + j + 1) cap, .int .i64 ((V2 / 256 ^ (m + j + 1) : Nat) : Int), .int .i64 ((r : Int) - 8)] ++ post) E := by
          have h1 := ((Blk.set hb4 0 (.slice (some ⟨g, 0, none⟩) (m + j + 1) cap)).set 1 (.int .i64 ((V2 / 256 ^ (m + j + 1) : Nat) : Int))).set 2 (.int .i64 ((r : Int) - 8))
          rw [pre0, pre1, pre2] at h1
          exact h1
        refine ⟨hb4, ⟨hbel.trans (hk4.below (by have := Blk.lt hb4; omega) (by simp)), fun i cs e hi he hb => (hst4 i cs e hi he hb).kept hk4 (by simp; omega), some ⟨g, 0, none⟩, m + j + 1, cap, ⟨?_, ?_⟩⟩⟩
        · rw [show ((r - 8 : Nat) : Int) = (r : Int) - 8 by omega]
          exact hblk
        · rw [show m + (j + 1) = m + j + 1 by omega, digs_succ, byteCells_app]
          exact row_set (row_set (row_set hown (Nat.lt_succ_self b) _ _) (Nat.lt_succ_self b) _ _) (Nat.lt_succ_self b) _ _
      have hml : Hid (∀ W : World, W.cell? ⟨b, 2, none⟩ = some (.int .i64 ((r - 8 : Nat) : Int)) → rAt W b < rAt wr b) := fun W hW => by rw [rAt_of hW, hmeas.out]; omega
      clear hW hds hmeas
      rw [← hdn] at hnext
      generalize dig V2 (m + j) = Dg at *
      generalize V2 / 256 ^ (m + j) = R at *
      have eR : ((R / 256 : Nat) : Int) = (R : Int) / 256 := by omega
      rw [eR] at hnext
      clear eR
      go_wp2_with fail
      go_region_law (refine step_append_owned rfl (.tmp 37) (.tmp 43) 77 rfl 5 i0 _ 1 1 Tryz.underlying77 hi0 hz0 hz1 hz2 rfl (by decide) (b + 1) (.slice va vk vc) (m + j) (byteCells (digs V2 (m + j))) (by simp [Act.eval, Act.put]) (by first | exact own2 _ | exact own _) ⟨wr.heap.size, 0, none⟩ 1 1 [.int .u8 (Dg : Int)] (by simp [Act.eval, Act.put]) rfl (by first | exact cells_new _ _ _ _ (by simp) | exact fun j u hj => cells_new _ _ _ _ (by simp) j u hj) (by simp [Value.oneCell']) mb mc (by exact up _) ?_; intro v' w4 hown hgrow; obtain ⟨g, cap, rfl⟩ := own_form hown (by omega); obtain ⟨hb4, hNL⟩ := hnext.out w4 g cap hown _ hgrow; have e0 : w4.cell? ⟨b, 0, none⟩ = some (.slice va vk vc) := (Blk.cell hb4 0).trans (preGet _ _ _ _ 0 (by omega)); have e1 : w4.cell? ⟨b, 1, none⟩ = some (.int .i64 (R : Int)) := (Blk.cell hb4 1).trans (preGet _ _ _ _ 1 (by omega)); have e2 : w4.cell? ⟨b, 2, none⟩ = some (.int .i64 (r : Int)) := (Blk.cell hb4 2).trans (preGet _ _ _ _ 2 (by omega)); have g0 := Blk.frozen hb4 0; have g1 := Blk.frozen hb4 1; have g2 := Blk.frozen hb4 2; have hb4l := Blk.lt hb4; have hNL : Hid (NumLoop _ _ _ _ _ _ _ _) := hNL; clear hb4 hown hgrow)
      all_goals
        go_wp2_with fail
        refine ⟨⟨j + 1, r - 8, by omega, hNL.out⟩, hml.out _ ?_⟩
        obtain ⟨_, _, _, _, _, hW2⟩ := hNL.out
        exact (Blk.cell hW2.blk 2).trans (preGet _ _ _ _ 2 (by omega))
    · have hKK := hgoal.out
      have e1 : m + j = (K + wd) / 8 := by omega
      have e2 : r = (K + wd) % 8 := by omega
      have hVV : V + n * 2 ^ K = V2 := by rw [hKK]; exact hV2H.out.symm
      have hfin : Hid (NumOut w wr b post E (V + n * 2 ^ K) (K + wd)) := by
        rw [hVV]
        refine ⟨hBlH.out, hStH.out, ?_, .slice va vk vc, ?_⟩
        · have := hVlH.out; rwa [← hKK] at this
        · rw [← e1, ← e2]; exact hWH.out
      clear hW hKK e1 e2 hVV hdn hds hmeas
      go_wp2
      go_end0
      exact ⟨rfl, hfin.out⟩

set_option maxHeartbeats 2000000 in
set_option maxRecDepth 100000 in
theorem bend_any (w : World) (b : Nat) (post : Array Value) (E V K : Nat) (v : Value) (h : BWL w b post E V (K / 8) (K % 8) v) (hE : E ≠ 5) (hV : V < 2 ^ K) (hK : K ≤ 900000) :
    Calls Tryz.prog 73 #[.pointer (some ⟨b, 0, none⟩)] w fun e w' => e = .returned (.string (bytesB (digs V ((K + 7) / 8)))) ∧ Below b w w' := by
  obtain ⟨va, vk, vc, rfl⟩ := own_shape h.row
  have c0 : w.cell? ⟨b, 0, none⟩ = some (.slice va vk vc) := by rw [h.blk.cell, preGet _ _ _ _ 0 (by omega)]; rfl
  have c2 : w.cell? ⟨b, 2, none⟩ = some (.int .i64 ((K % 8 : Nat) : Int)) := by rw [h.blk.cell, preGet _ _ _ _ 2 (by omega)]; rfl
  have hbl := h.blk.lt
  have hb0 : Hid (Below b w w) := Below.refl _ _
  obtain ⟨k, hk⟩ : ∃ k, k = K % 8 := ⟨_, rfl⟩
  rw [← hk] at c2
  obtain ⟨R, hR⟩ : ∃ R, Hid (bytesB (digs V ((K + 7) / 8)) = R) := ⟨_, rfl⟩
  by_cases h0 : (0 : Int) < (k : Int)
  · have hc : Hid (Calls Tryz.prog 70 #[.pointer (some ⟨b, 0, none⟩), .int .i64 0, .int .i64 (8 - (k : Int))] w fun e w' => e = .returned (.tuple #[]) ∧ NumOut w w' b post E (V + 0 * 2 ^ K) (K + (8 - k))) := by
      have := number_any w b post E V K _ h hE hV 0 (8 - k) (Nat.pow_pos (by decide)) (by omega) (by omega)
      rwa [show ((8 - k : Nat) : Int) = 8 - (k : Int) by omega] at this
    have e1 : (K + (8 - k)) / 8 = (K + 7) / 8 := by omega
    have e2 : V + 0 * 2 ^ K = V := by simp
    rw [e2] at hc
    have e1H : Hid (_ = _) := e1
    have hk8 : k < 8 := by omega
    clear h hV e2 e1 hk hK
    go_enter Tryz.func73, Tryz.ntmps73
    go_wp2_with fail
    refine hc.out.mono ?_
    rintro e w1 ⟨rfl, o⟩
    obtain ⟨v1, hW⟩ := o.ex
    have hrow := hW.row
    rw [e1H.out] at hrow
    obtain ⟨xa, xk, xc, rfl⟩ := own_shape hrow
    have hl := digs_len V ((K + 7) / 8)
    have hconv := conv_out (out := digs V ((K + 7) / 8)) (by rw [hl]; exact hrow) (digs_lt _ _)
    rw [hR.out] at hconv
    have d0 : w1.cell? ⟨b, 0, none⟩ = some (.slice xa xk xc) := (Blk.cell hW.blk 0).trans (preGet _ _ _ _ 0 (by omega))
    have hB : Hid (Below b w w1) := o.below
    clear o hW hrow hl hc c0 c2
    go_wp2
    go_ret
    exact ⟨by rw [hR.out]; rfl, hB.out⟩
  · have e1 : K / 8 = (K + 7) / 8 := by omega
    have hrow := h.row
    rw [e1] at hrow
    have hl := digs_len V ((K + 7) / 8)
    have hconv := conv_out (out := digs V ((K + 7) / 8)) (by rw [hl]; exact hrow) (digs_lt _ _)
    rw [hR.out] at hconv
    clear h hV e1 hk hrow hl
    go_enter Tryz.func73, Tryz.ntmps73
    go_wp2
    go_ret
    exact ⟨by rw [hR.out]; rfl, hb0.out⟩

end Go.Proofs.YtgifhgnccmnbiabGreatDoor
