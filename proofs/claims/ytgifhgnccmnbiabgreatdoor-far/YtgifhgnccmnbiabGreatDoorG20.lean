/- Package sift: Count, walked. -/
import Derived.Test.YtgifhgnccmnbiabGreatDoorG19
import Derived.Test.YtgifhgnccmnbiabGreatDoorG09
import Derived.Test.YtgifhgnccmnbiabGreatDoorG13
import Derived.Test.YtgifhgnccmnbiabGreatDoorG16
import Derived.Shelf.LaysM
import Derived.Shelf.Strconv.Itoa3
import Derived.Test.YtgifhgnccmnbiabGreatDoorRows
set_option linter.unusedVariables false
set_option linter.unusedSimpArgs false
namespace Go.Proofs.YtgifhgnccmnbiabGreatDoor
open Go.RowKit Go.IntWalk

/-- What the files' reader makes of a file whose text is not too long. -/
theorem read_good {f : ByteArray} (hf : f.size ≤ maxLen) {t : TT} (ht : SFile f t) (hl : t.whole.len ≤ 1099511627776) (w : World) :
    Calls Tryz.prog 45 #[.string f] w fun e w' => Below w.heap.size w w' ∧ ∃ rv sv, TVal w' w.heap.size t rv sv ∧ e = .returned (.tuple #[.agg (t.cells rv sv), .int .i64 0]) := by
  refine (read_file f hf w).mono ?_
  rintro e w' ⟨hb, ⟨hn, _⟩ | ⟨t', ht', ⟨h3, _⟩ | ⟨_, rv, sv, h4, h5⟩⟩⟩
  · exact absurd ht (hn _)
  · have := ht'.one ht
    subst this
    omega
  · have := ht'.one ht
    subst this
    exact ⟨hb, rv, sv, h4, h5⟩
set_option maxHeartbeats 1000000 in
set_option maxRecDepth 100000 in
theorem count_no {inv fold whole num : Bool} {mx x : Int} {p f : ByteArray} (w : World) (hx : x ≠ 0) (hc : ∀ w, Calls Tryz.prog 30 #[.agg #[.bool inv, .bool fold, .bool whole, .bool num, .int .i64 mx], .string p, .string f] w fun e w' => e = .returned (.tuple #[.agg zSearch, .int .i64 x]) ∧ Below w.heap.size w w') :
    Calls Tryz.prog 18 #[.agg #[.bool inv, .bool fold, .bool whole, .bool num, .int .i64 mx], .string p, .string f] w fun e w' => e = .returned (.tuple #[.int .i64 0, .int .i64 x]) ∧ Below w.heap.size w w' := by
  have hcH : Hid (∀ w, Calls _ _ _ w _) := hc
  clear hc
  unfold zSearch at hcH
  have h0 : Hid (∀ o, Below w.heap.size w (w.alloc o)) := fun o => (Below.refl _ _).alloc (Nat.le_refl _) o
  have hxb : (x != 0) = true := by simp [hx]
  go_enter Tryz.func18, Tryz.ntmps18
  go_wp2_with (go_at_call 30; refine (hcH.out _).mono ?_; rintro e w1 ⟨rfl, b1⟩; have B1 : Hid (Below w.heap.size w w1) := (h0.out _).trans (b1.mono (by simp)))
  go_ret2
  exact ⟨rfl, B1.out.alloc B1.out.size _⟩

set_option maxHeartbeats 1000000 in
set_option maxRecDepth 100000 in
theorem count_go {inv fold whole num : Bool} {mx : Int} {M : MP} {p f : ByteArray} {t : TT} {T : List (List Nat)} (w : World) (hm1 : -9223372036854775808 ≤ mx) (hm2 : mx ≤ 9223372036854775807) (hS : SText t T) (hl : t.whole.len ≤ 1099511627776) (hc : ∀ w, Calls Tryz.prog 30 #[.agg #[.bool inv, .bool fold, .bool whole, .bool num, .int .i64 mx], .string p, .string f] w fun e w' => OpOk w w' inv mx M t T e) :
    Calls Tryz.prog 18 #[.agg #[.bool inv, .bool fold, .bool whole, .bool num, .int .i64 mx], .string p, .string f] w fun e w' => e = .returned (.tuple #[.int .i64 (capI mx (cnt M inv (linesL (t.start.flatMap (symT T))))), .int .i64 0]) ∧ Below w.heap.size w w' := by
  have hcH : Hid (∀ w, Calls _ _ _ w _) := hc
  have hlen : Hid ((t.start.flatMap (symT T)).length ≤ 1099511627776) := by show _ ≤ _; rw [hS.len hl]; exact hl
  have hSH : Hid (SText t T) := hS
  clear hc hS
  have h0 : Hid (∀ o, Below w.heap.size w (w.alloc o)) := fun o => (Below.refl _ _).alloc (Nat.le_refl _) o
  obtain ⟨R, hR⟩ : ∃ R, Hid (capI mx (cnt M inv (linesL (t.start.flatMap (symT T)))) = R) := ⟨_, rfl⟩
  rw [hR.out]
  go_enter Tryz.func18, Tryz.ntmps18
  go_wp2_with fail
  refine (hcH.out _).mono ?_
  rintro e w1 ⟨b1, bt, gp, N, L, rv, sv, ps, rfl, hsp⟩
  have B1 : Hid (Below w.heap.size w w1) := (h0.out _).trans (b1.mono (by simp))
  have hre : Hid (Ready1 (w1.alloc (.cells (seCells bt M.beg inv mx (.slice (some ⟨gp, 0, none⟩) (256 + t.rules.length) (256 + t.rules.length))) 60)) w1.heap.size bt gp N L inv mx M t rv sv T ps) :=
    ⟨⟨Blk.new w1 _ _, hsp.kept ((Kept.refl [] w1).alloc _)⟩, hSH.out, hlen.out⟩
  clear hsp b1
  unfold seCells at hre ⊢
  go_wp2_with fail
  refine (scount_any hre.out hm1 hm2).mono ?_
  rintro e w2 ⟨he, k2⟩
  rw [hR.out] at he
  subst he
  have B2 : Hid (Below w.heap.size w w2) := (B1.out.alloc B1.out.size _).trans (k2.below (by have := B1.out.size; simp; omega) (by simp))
  clear k2 hre
  go_wp2
  go_ret2
  exact ⟨rfl, B2.out⟩

end Go.Proofs.YtgifhgnccmnbiabGreatDoor

set_option linter.unusedVariables false
set_option linter.unusedSimpArgs false
namespace Go.Proofs.YtgifhgnccmnbiabGreatDoor

/-- A line: its number, and the places between which it stands. -/
structure FL where
  num : Nat
  frm : Nat
  til : Nat
def offL : List (List Nat) → Nat
  | [] => 0
  | l :: ls => l.length + 1 + offL ls
theorem offL_app : ∀ a b : List (List Nat), offL (a ++ b) = offL a + offL b
  | [], b => by simp [offL]
  | l :: a, b => by rw [List.cons_append, offL, offL, offL_app a b]; omega
/-- Of some lines, those that are selected. -/
def selE (sel : List Nat → Bool) : Nat → Nat → List (List Nat) → List FL
  | _, _, [] => []
  | off, k, l :: ls => if sel l = true then ⟨k + 1, off, off + l.length⟩ :: selE sel (off + l.length + 1) (k + 1) ls else selE sel (off + l.length + 1) (k + 1) ls
theorem selE_app (sel : List Nat → Bool) : ∀ (a b : List (List Nat)) (off k : Nat), selE sel off k (a ++ b) = selE sel off k a ++ selE sel (off + offL a) (k + a.length) b
  | [], b, off, k => by simp [selE, offL]
  | l :: a, b, off, k => by
    rw [List.cons_append, selE, selE, selE_app sel a b]
    have e1 : off + l.length + 1 + offL a = off + offL (l :: a) := by rw [offL]; omega
    have e2 : k + 1 + a.length = k + (l :: a).length := by simp; omega
    rw [e1, e2]
    split
    · rfl
    · rfl
theorem selE_len (sel : List Nat → Bool) : ∀ (a : List (List Nat)) (off k : Nat), (selE sel off k a).length = (a.filter sel).length
  | [], _, _ => rfl
  | l :: a, off, k => by
    rw [selE, List.filter_cons]
    split
    · rw [List.length_cons, List.length_cons, selE_len sel a]
    · exact selE_len sel a _ _
theorem selE_mem (sel : List Nat → Bool) : ∀ (a : List (List Nat)) (off k : Nat) (x : FL), x ∈ selE sel off k a → k < x.num ∧ x.num ≤ k + a.length ∧ off ≤ x.frm ∧ x.frm ≤ x.til ∧ x.til + 1 ≤ off + offL a
  | [], _, _, x, h => by simp [selE] at h
  | l :: a, off, k, x, h => by
    rw [selE] at h
    have key : x ∈ selE sel (off + l.length + 1) (k + 1) a → k < x.num ∧ x.num ≤ k + (l :: a).length ∧ off ≤ x.frm ∧ x.frm ≤ x.til ∧ x.til + 1 ≤ off + offL (l :: a) := fun h => by
      obtain ⟨h1, h2, h3, h4, h5⟩ := selE_mem sel a _ _ x h
      rw [offL, List.length_cons]
      omega
    split at h
    · rcases List.mem_cons.1 h with h | h
      · subst h
        rw [offL, List.length_cons]
        simp only []
        omega
      · exact key h
    · exact key h
/-- The selected lines that have ended in Y. -/
def flY (M : MP) (inv : Bool) (Y : List Nat) : List FL := selE (selL M inv) 0 0 (compL Y)
theorem offL_cr : ∀ (X u : List Nat), offL (crA u X).1 + (crA u X).2.length = u.length + X.length
  | [], u => by simp [crA_nil, offL]
  | c :: X, u => by
    by_cases h : c = 10
    · subst h
      rw [crA_nl]
      have := offL_cr X []
      simp only [offL, List.length_nil, List.length_cons] at this ⊢
      omega
    · rw [crA_c h]
      have := offL_cr X (u ++ [c])
      simp at this ⊢
      omega
theorem beg_off (M : MP) (Y : List Nat) : (plcOf M Y).beg = offL (compL Y) := by
  have := offL_cr Y []
  unfold plcOf compL restL
  simp only [] at this ⊢
  simp at this
  omega
theorem flY_app (M : MP) (inv : Bool) (Y x : List Nat) : flY M inv (Y ++ x) = flY M inv Y ++ selE (selL M inv) (plcOf M Y).beg (plcOf M Y).lines (crA (restL Y) x).1 := by
  unfold flY
  rw [compL_app, selE_app, beg_off, Nat.zero_add, Nat.zero_add]
  rfl
theorem flY_ends {M : MP} {inv : Bool} {x : List Nat} {p : PCE} (h : PieceOk M inv x p) (Y : List Nat) : (flY M inv (Y ++ x)).length = (flY M inv Y).length + endsP inv p (plcOf M Y).set := by
  have he := h.ends (restL Y)
  have e : endsP inv p (plcOf M Y).set = ((crA (restL Y) x).1.filter (selL M inv)).length := he
  rw [flY_app, List.length_append, selE_len, e]
theorem flY_none {M : MP} {inv : Bool} {x : List Nat} {p : PCE} (h : PieceOk M inv x p) (Y : List Nat) (h0 : endsP inv p (plcOf M Y).set = 0) : flY M inv (Y ++ x) = flY M inv Y := by
  have hl := flY_ends h Y
  rw [flY_app] at hl ⊢
  rw [List.length_append, h0] at hl
  rw [List.eq_nil_of_length_eq_zero (by omega : (selE (selL M inv) (plcOf M Y).beg (plcOf M Y).lines (crA (restL Y) x).1).length = 0), List.append_nil]
theorem flY_full (M : MP) (inv : Bool) (Y x : List Nat) (most : Nat) (h : most ≤ (flY M inv Y).length) : (flY M inv (Y ++ x)).take most = (flY M inv Y).take most := by
  rw [flY_app, List.take_append_of_le_length h]
theorem flY_nonl {M : MP} {inv : Bool} (Y x : List Nat) (h : (crA [] x).1 = []) : flY M inv (Y ++ x) = flY M inv Y := by
  rw [flY_app, crA_from, if_pos h]
  simp [selE]
/-- A newline behind a line that is selected. -/
theorem flY_nl {M : MP} {inv : Bool} {Y : List Nat} (h : selL M inv (restL Y) = true) : flY M inv (Y ++ [10]) = flY M inv Y ++ [⟨(plcOf M Y).lines + 1, (plcOf M Y).beg, (plcOf M Y).pos⟩] := by
  rw [flY_app, crA_nl, crA_nil]
  simp only [selE, if_pos h]
  have h1 := beg_off M Y
  have h2 := restL_le Y
  have e : (plcOf M Y).beg + (restL Y).length = (plcOf M Y).pos := by unfold plcOf; simp only []; omega
  rw [e]
theorem ends_nl {M : MP} {inv : Bool} {p : PCE} (h : PieceOk M inv [10] p) (Y : List Nat) (h0 : endsP inv p (plcOf M Y).set ≠ 0) : selL M inv (restL Y) = true := by
  have he := h.ends (restL Y)
  rw [crA_nl, crA_nil, cnt_cons] at he
  by_cases hs : selL M inv (restL Y) = true
  · exact hs
  · rw [if_neg hs] at he
    exact absurd (show endsP inv p (plcOf M Y).set = 0 from he) h0
/-- All of a text's selected lines. -/
def flX (M : MP) (inv : Bool) (X : List Nat) : List FL := selE (selL M inv) 0 0 (linesL X)
theorem flX_rest (M : MP) (inv : Bool) (X : List Nat) : flX M inv X = if restL X = [] then flY M inv X else flY M inv (X ++ [10]) := by
  unfold flX flY
  rw [linesL_cr]
  by_cases h : restL X = []
  · rw [if_pos h, if_pos h, List.append_nil]
  · rw [if_neg h, if_neg h, compL_app, crA_nl, crA_nil]
theorem flX_len (M : MP) (inv : Bool) (X : List Nat) : (flX M inv X).length = cnt M inv (linesL X) := selE_len _ _ _ _
theorem flY_len_le (M : MP) (inv : Bool) (Y : List Nat) : (flY M inv Y).length ≤ Y.length := by
  unfold flY
  rw [selE_len]
  exact Nat.le_trans (List.length_filter_le _ _) (comp_le Y)
/-- What goes along part of the text has found the first ones, where that is enough. -/
theorem flX_full (M : MP) (inv : Bool) (Y Z : List Nat) (most : Nat) (h : most ≤ (flY M inv Y).length) : (flX M inv (Y ++ Z)).take most = (flY M inv Y).take most := by
  rw [flX_rest]
  split
  · exact flY_full M inv Y Z most h
  · rw [List.append_assoc]; exact flY_full M inv Y _ most h

end Go.Proofs.YtgifhgnccmnbiabGreatDoor

set_option linter.unusedVariables false
set_option linter.unusedSimpArgs false
namespace Go.Proofs.YtgifhgnccmnbiabGreatDoor
open Go.RowKit Go.IntWalk

def flCells (l : List FL) : List Value := l.flatMap fun x => [.int .i64 (x.num : Int), .int .i64 (x.frm : Int), .int .i64 (x.til : Int)]
theorem flCells_snoc (l : List FL) (x : FL) : flCells (l ++ [x]) = flCells l ++ [.int .i64 (x.num : Int), .int .i64 (x.frm : Int), .int .i64 (x.til : Int)] := by simp [flCells]
theorem infoLine : (Tryz.prog.info? 109).map (fun i => (i.zero, i.size, i.bytes)) = some (some (.agg #[.int .i64 0, .int .i64 0, .int .i64 0]), 3, 24) := by kernel_rfl
/-- The finder's block. -/
def fiCells (gs : Nat) (most : Nat) (h : PLC) (v : Value) : Array Value := #[.pointer (some ⟨gs, 0, none⟩), .int .i64 (most : Int), .int .i64 (h.pos : Int), .int .i64 (h.beg : Int), .int .i64 (h.lines : Int), UV h.set, v]
/-- A finder in memory, at a place, with the lines that it has found. -/
structure FinI (w0 w : World) (F gs most : Nat) (h : PLC) (l : List FL) : Prop where
  k : Kept [] w0 w
  ge : w0.heap.size ≤ F
  ex : ∃ a n c, Blk w F (fiCells gs most h (.slice a n c)) 173 ∧ w.ownsRow (F + 1) 109 3 (.slice a n c) l.length (flCells l)
theorem FinI.kept {w0 w w' : World} {F gs most : Nat} {h : PLC} {l : List FL} (hI : FinI w0 w F gs most h l) (k : Kept [] w w') : FinI w0 w' F gs most h l := by
  obtain ⟨a, n, c, h1, h2⟩ := hI.ex
  exact ⟨hI.k.trans k, hI.ge, a, n, c, h1.kept k (by simp), row_stay h2 k (fun _ _ => by simp)⟩
theorem fl_num {w : World} {B : Nat} {a : Option Addr} {n c : Nat} {l : List FL} (h : w.ownsRow B 109 3 (.slice a n c) l.length (flCells l)) : n = l.length := by
  rcases h.2 with ⟨h1, h2⟩ | ⟨g, cap, _, h1, _⟩
  · simp at h1; omega
  · simp at h1; omega
theorem all7 {w : World} {g : Nat} {c0 c1 c2 c3 c4 c5 c6 : Value} {t : TypeId} (h : Blk w g #[c0, c1, c2, c3, c4, c5, c6] t) :
    w.cell? ⟨g, 0, none⟩ = some c0 ∧ w.cell? ⟨g, 1, none⟩ = some c1 ∧ w.cell? ⟨g, 2, none⟩ = some c2 ∧ w.cell? ⟨g, 3, none⟩ = some c3 ∧ w.cell? ⟨g, 4, none⟩ = some c4 ∧ w.cell? ⟨g, 5, none⟩ = some c5 ∧ w.cell? ⟨g, 6, none⟩ = some c6 ∧ g < w.heap.size :=
  ⟨h.cell 0, h.cell 1, h.cell 2, h.cell 3, h.cell 4, h.cell 5, h.cell 6, h.lt⟩
/-- The place is set. -/
theorem FinI.here {w0 w : World} {F gs most : Nat} {h h' : PLC} {l : List FL} (hI : FinI w0 w F gs most h l) :
    FinI w0 ((((w.setCell ⟨F, 2, none⟩ (.int .i64 (h'.pos : Int))).setCell ⟨F, 3, none⟩ (.int .i64 (h'.beg : Int))).setCell ⟨F, 4, none⟩ (.int .i64 (h'.lines : Int))).setCell ⟨F, 5, none⟩ (UV h'.set)) F gs most h' l := by
  obtain ⟨a, n, c, h1, h2⟩ := hI.ex
  have hg := hI.ge
  unfold fiCells at h1
  have s2 : Blk _ F #[.pointer (some ⟨gs, 0, none⟩), .int .i64 (most : Int), .int .i64 (h'.pos : Int), .int .i64 (h.beg : Int), .int .i64 (h.lines : Int), UV h.set, .slice a n c] _ := h1.set 2 (.int .i64 (h'.pos : Int))
  have s3 : Blk _ F #[.pointer (some ⟨gs, 0, none⟩), .int .i64 (most : Int), .int .i64 (h'.pos : Int), .int .i64 (h'.beg : Int), .int .i64 (h.lines : Int), UV h.set, .slice a n c] _ := s2.set 3 (.int .i64 (h'.beg : Int))
  have s4 : Blk _ F #[.pointer (some ⟨gs, 0, none⟩), .int .i64 (most : Int), .int .i64 (h'.pos : Int), .int .i64 (h'.beg : Int), .int .i64 (h'.lines : Int), UV h.set, .slice a n c] _ := s3.set 4 (.int .i64 (h'.lines : Int))
  have s5 : Blk _ F #[.pointer (some ⟨gs, 0, none⟩), .int .i64 (most : Int), .int .i64 (h'.pos : Int), .int .i64 (h'.beg : Int), .int .i64 (h'.lines : Int), UV h'.set, .slice a n c] _ := s4.set 5 (UV h'.set)
  have q : Kept [F] w ((((w.setCell ⟨F, 2, none⟩ (.int .i64 (h'.pos : Int))).setCell ⟨F, 3, none⟩ (.int .i64 (h'.beg : Int))).setCell ⟨F, 4, none⟩ (.int .i64 (h'.lines : Int))).setCell ⟨F, 5, none⟩ (UV h'.set)) :=
    ((((Kept.refl [F] w).setCell (Or.inl (by simp)) _).setCell (Or.inl (by simp)) _).setCell (Or.inl (by simp)) _).setCell (Or.inl (by simp)) _
  exact ⟨hI.k.into q hg, hg, a, n, c, s5, row_stay h2 q (fun g hgb => by have := (h2.lt g hgb).1; simp; omega)⟩
/-- Blocks that are neither the finder's nor lines stay. -/
structure StayF (F : Nat) (w w' : World) : Prop where
  st : ∀ k cs e, k ≠ F → e ≠ 109 → Blk w k cs e → Blk w' k cs e
  size : w.heap.size ≤ w'.heap.size
theorem StayF.trans {F : Nat} {a b c : World} (h : StayF F a b) (g : StayF F b c) : StayF F a c := ⟨fun k cs e h1 h2 h3 => g.st k cs e h1 h2 (h.st k cs e h1 h2 h3), Nat.le_trans h.size g.size⟩
theorem Kept.stayF {F : Nat} {w w' : World} (k : Kept [F] w w') : StayF F w w' := ⟨fun i cs e h1 _ h3 => h3.kept k (by simpa using h1), k.size⟩
theorem Kept.stayF0 {F : Nat} {w w' : World} (k : Kept [] w w') : StayF F w w' := (k.mono (S' := [F]) (by simp)).stayF
theorem FinI.here2 {w0 w : World} {F gs most : Nat} {h h' : PLC} {l : List FL} (hI : FinI w0 w F gs most h l) :
    FinI w0 ((((w.setCell ⟨F, 2, none⟩ (.int .i64 (h'.pos : Int))).setCell ⟨F, 3, none⟩ (.int .i64 (h'.beg : Int))).setCell ⟨F, 4, none⟩ (.int .i64 (h'.lines : Int))).setCell ⟨F, 5, none⟩ (UV h'.set)) F gs most h' l ∧
    StayF F w ((((w.setCell ⟨F, 2, none⟩ (.int .i64 (h'.pos : Int))).setCell ⟨F, 3, none⟩ (.int .i64 (h'.beg : Int))).setCell ⟨F, 4, none⟩ (.int .i64 (h'.lines : Int))).setCell ⟨F, 5, none⟩ (UV h'.set)) :=
  ⟨hI.here, ((((((Kept.refl [F] w).setCell (Or.inl (by simp)) _).setCell (Or.inl (by simp)) _).setCell (Or.inl (by simp)) _).setCell (Or.inl (by simp)) _ : Kept [F] w _)).stayF⟩
/-- A line more. -/
theorem FinI.push {w0 w w1 : World} {F gs most : Nat} {h : PLC} {l : List FL} {x : FL} {a : Option Addr} {n c : Nat} (hI : FinI w0 w F gs most h l) (hb : Blk w F (fiCells gs most h (.slice a n c)) 173) (hr : w.ownsRow (F + 1) 109 3 (.slice a n c) l.length (flCells l)) (x1 : World) (kx : Kept [] w x1) {g cap : Nat}
    (hown : w1.ownsRow (F + 1) 109 3 (.slice (some ⟨g, 0, none⟩) (l.length + 1) cap) (l.length + 1) (flCells l ++ [.int .i64 (x.num : Int), .int .i64 (x.frm : Int), .int .i64 (x.til : Int)])) (hgrow : x1.grownBy w1 (Value.slice a n c).ownBlock) :
    w1.cell? ⟨F, 6, none⟩ = some (.slice a n c) ∧ w1.frozen? ⟨F, 6, none⟩ = false ∧ F < w1.heap.size ∧ FinI w0 (w1.setCell ⟨F, 6, none⟩ (.slice (some ⟨g, 0, none⟩) (l.length + 1) cap)) F gs most h (l ++ [x]) ∧ StayF F w (w1.setCell ⟨F, 6, none⟩ (.slice (some ⟨g, 0, none⟩) (l.length + 1) cap)) := by
  have hg := hI.ge
  have hne : ∀ k, (Value.slice a n c).ownBlock = some k → F < k := fun k hk => by have := (hr.lt k hk).1; omega
  have bl : ∀ k, k < w.heap.size → (Value.slice a n c).ownBlock ≠ some k → w1.heap[k]? = w.heap[k]? := fun k hk hn => by
    rw [hgrow.block k (Nat.lt_of_lt_of_le hk kx.size) (fun hc => hn hc.symm), kx.block k hk (by simp)]
  have hb1 : Blk w1 F (fiCells gs most h (.slice a n c)) 173 := (bl F hb.lt (fun hc => by have := hne F hc; omega)).trans hb
  have k1 : Kept [] w0 w1 := ⟨hgrow.os.trans (kx.os.trans hI.k.os), hgrow.tape.trans (kx.tape.trans hI.k.tape), hgrow.output.trans (kx.output.trans hI.k.output), Nat.le_trans hI.k.size (Nat.le_trans kx.size hgrow.size), fun i hi _ => by
    have h1 := hI.k.size
    rw [bl i (by omega) (fun hc => by have := hne i hc; omega)]
    exact hI.k.block i hi (by simp)⟩
  have s6 : Blk (w1.setCell ⟨F, 6, none⟩ (.slice (some ⟨g, 0, none⟩) (l.length + 1) cap)) F (fiCells gs most h (.slice (some ⟨g, 0, none⟩) (l.length + 1) cap)) 173 := hb1.set 6 _
  have q : Kept [F] w1 (w1.setCell ⟨F, 6, none⟩ (.slice (some ⟨g, 0, none⟩) (l.length + 1) cap)) := (Kept.refl [F] w1).setCell (Or.inl (by simp)) _
  refine ⟨hb1.cell 6, hb1.frozen 6, hb1.lt, ⟨k1.into q hg, hg, _, _, _, s6, ?_⟩, StayF.trans ⟨fun k cs e h1 h2 h3 => (bl k h3.lt (fun hc => ?_)).trans h3, Nat.le_trans kx.size hgrow.size⟩ q.stayF⟩
  · rw [flCells_snoc, List.length_append]
    exact row_stay hown q (fun k hk => by have := (hown.lt k hk).1; simp; omega)
  · rcases hr.2 with ⟨hn, _⟩ | ⟨g', cap', cur, hv, _, h4, _⟩
    · rw [hn] at hc; cases hc
    · rw [hv] at hc
      simp only [Value.ownBlock, Option.some.injEq] at hc
      subst hc
      have h5 : some (Obj.cells cur 109 (0, 0)) = some (Obj.cells cs e (0, 0)) := h4.symm.trans h3
      simp only [Option.some.injEq, Obj.cells.injEq] at h5
      exact h2 h5.2.1.symm

theorem cell_heap {w w' : World} (e : w'.heap = w.heap) (g j : Nat) : w'.cell? ⟨g, j, none⟩ = w.cell? ⟨g, j, none⟩ := by
  unfold World.cell?
  simp only []
  rw [e]
set_option maxHeartbeats 1000000 in
set_option maxRecDepth 100000 in
theorem piece_c {w : World} {gs gp n : Nat} (c4 : w.cell? ⟨gs, 4, none⟩ = some (.slice (some ⟨gp, 0, none⟩) n n)) {j : Nat} (hn : j < n) :
    Calls Tryz.prog 77 #[.pointer (some ⟨gs, 0, none⟩), .int .i64 (j : Int)] w fun e w' => e = .returned (.pointer (some ⟨gp, j * 8, none⟩)) ∧ w' = w := by
  have hj : (j : Int) < (n : Int) := by omega
  have hj0 : (0 : Int) ≤ (j : Int) := by omega
  go_enter Tryz.func77, Tryz.ntmps77
  go_wp2
  go_ret
  exact ⟨rfl, rfl⟩

section
variable {w0 : World} {F gs bt gp N L most : Nat} {inv : Bool} {mx : Int} {M : MP} {t : TT} {rv sv : Value} {T : List (List Nat)} {ps : PcF}
/-- The places are small. -/
def BdY (T : List (List Nat)) (Y : List Nat) (s : Nat) : Prop := Y.length ≤ 1099511627776 ∧ (256 ≤ s → (Y ++ symT T s).length ≤ 1099511627776)
/-- Going over a symbol. -/
def Overs (w0 : World) (F gs most : Nat) (inv : Bool) (M : MP) (T : List (List Nat)) (s : Nat) : Prop :=
  ∀ (w : World) (Y : List Nat), FinI w0 w F gs most (plcOf M Y) ((flY M inv Y).take most) → Real T s → BdY T Y s →
    Calls Tryz.prog 100 #[.pointer (some ⟨F, 0, none⟩), .int .i64 (s : Int)] w fun e w' => e = .returned (.tuple #[]) ∧ FinI w0 w' F gs most (plcOf M (Y ++ symT T s)) ((flY M inv (Y ++ symT T s)).take most) ∧ StayF F w w'
/-- Looking into a symbol. -/
def Looks (w0 : World) (F gs most : Nat) (inv : Bool) (M : MP) (T : List (List Nat)) (ps : PcF) (s : Nat) : Prop :=
  ∀ (w : World) (Y : List Nat), FinI w0 w F gs most (plcOf M Y) ((flY M inv Y).take most) → Real T s → BdY T Y s → endsP inv (ps s).1 (plcOf M Y).set ≠ 0 → (flY M inv Y).length < most →
    Calls Tryz.prog 146 #[.pointer (some ⟨F, 0, none⟩), .int .i64 (s : Int)] w fun e w' => e = .returned (.tuple #[]) ∧ (∃ h, FinI w0 w' F gs most h ((flY M inv (Y ++ symT T s)).take most)) ∧ StayF F w w'

set_option maxHeartbeats 4000000 in
set_option maxRecDepth 100000 in
theorem look_byte (hR : Ready1 w0 gs bt gp N L inv mx M t rv sv T ps) {s : Nat} (hs : s < 256) : Looks w0 F gs most inv M T ps s := by
  intro w Y hI hreal hlen hends hmost
  have hsym : symT T s = [s] := if_pos hs
  have hpg := (hR.pat hreal).2.ok
  rw [hsym] at hpg
  have hs10 : s = 10 := by
    apply Classical.byContradiction
    intro hn
    apply hends
    have : (ps s).1.nl = 0 := by rw [hpg.nl, crA_one hn]; rfl
    exact if_pos this
  subst hs10
  have hsel := ends_nl hpg Y hends
  have hfl := flY_nl hsel
  rw [hsym, hfl]
  have hY : Y.length ≤ 1099511627776 := hlen.1
  obtain ⟨d1, d2, d3⟩ := plc_bd M Y hY
  have hfb := flY_len_le M inv Y
  have e1 : (flY M inv Y).take most = flY M inv Y := List.take_of_length_le (by omega)
  have e2 : (flY M inv Y ++ [(⟨(plcOf M Y).lines + 1, (plcOf M Y).beg, (plcOf M Y).pos⟩ : FL)]).take most = flY M inv Y ++ [⟨(plcOf M Y).lines + 1, (plcOf M Y).beg, (plcOf M Y).pos⟩] := List.take_of_length_le (by simp; omega)
  rw [e1] at hI
  rw [e2]
  clear e1 e2 hfl hsel hpg hends hR hreal hsym hlen
  generalize plcOf M Y = P at *
  generalize flY M inv Y = FY at *
  obtain ⟨a, n, c, hb, hrow⟩ := hI.ex
  have hn := fl_num hrow
  subst hn
  obtain ⟨i0, hi0, hz0, hz1, hz2⟩ := info_parts infoLine
  have hIH : Hid (FinI _ _ _ _ _ _ _) := hI
  have hbH : Hid (Blk _ _ _ _) := hb
  have hrH : Hid (World.ownsRow _ _ _ _ _ _ _) := hrow
  obtain ⟨c0, c1, c2, c3, c4, c5, c6, cl⟩ := all7 (show Blk w F #[.pointer (some ⟨gs, 0, none⟩), .int .i64 (most : Int), .int .i64 (P.pos : Int), .int .i64 (P.beg : Int), .int .i64 (P.lines : Int), UV P.set, .slice a FY.length c] 173 from hb)
  have mb : FY.length + 1 ≤ maxLen := by unfold maxLen; omega
  have mb2 : (FY.length + 1) * 24 ≤ 140737488355328 := by omega
  clear hI hb hrow
  go_enter Tryz.func146, Tryz.ntmps146
  go_wp2_with fail
  go_region
  all_goals
    obtain ⟨W1, hW1⟩ : ∃ W1, W1 = (w.alloc (.cells #[.int .i64 ((P.lines : Int) + 1), .int .i64 (P.beg : Int), .int .i64 (P.pos : Int)] 109)).drew := ⟨_, rfl⟩
    have K1 : Hid (Kept [] w W1) := by show Kept _ _ _; rw [hW1]; exact ((Kept.refl [] w).alloc _).drew
    have B1 : Blk W1 w.heap.size #[.int .i64 ((P.lines : Int) + 1), .int .i64 (P.beg : Int), .int .i64 (P.pos : Int)] 109 := by rw [hW1]; exact (Blk.new w _ _).drew
    rw [← hW1]
    clear hW1
    have g0 : W1.cell? ⟨w.heap.size, 0, none⟩ = some (.int .i64 ((P.lines : Int) + 1)) := B1.cell 0
    have g1 : W1.cell? ⟨w.heap.size, 1, none⟩ = some (.int .i64 (P.beg : Int)) := B1.cell 1
    have g2 : W1.cell? ⟨w.heap.size, 2, none⟩ = some (.int .i64 (P.pos : Int)) := B1.cell 2
    have gl := B1.lt
    have c6' := (K1.out.cell cl 6).trans c6
    have cl' : F < W1.heap.size := Nat.lt_of_lt_of_le cl K1.out.size
    have own : ∀ o, (W1.alloc o).ownsRow (F + 1) 109 3 (.slice a FY.length c) FY.length (flCells FY) := fun o => row_stay hrH.out (K1.out.alloc o) (fun _ _ => by simp)
    have up : ∀ o, F + 1 ≤ (W1.alloc o).heap.size := fun o => by simp; omega
    have kW : Hid (∀ o, Kept [] w (W1.alloc o).drew) := fun o => (K1.out.alloc o).drew
    clear B1 c0 c1 c2 c3 c4 c5 c6
    go_wp2_with fail
    go_region_law (refine step_append_owned rfl (.tmp 30) (.tmp 32) 106 rfl 109 i0 _ 3 24 Tryz.underlying106 hi0 hz0 hz1 hz2 rfl (by decide) (F + 1) (.slice a FY.length c) FY.length (flCells FY) (by simp [Act.eval, Act.put]) (by exact own _) ⟨W1.heap.size, 0, none⟩ 1 1 [.int .i64 ((P.lines : Int) + 1), .int .i64 (P.beg : Int), .int .i64 (P.pos : Int)] (by simp [Act.eval, Act.put]) rfl (by exact cells_new _ _ _ _ (by simp)) (by simp [Value.oneCell']) mb mb2 (by exact up _) ?_; intro v' w4 hown hgrow; obtain ⟨g, cap, rfl⟩ := own_form hown (by omega); obtain ⟨e2, f2, b2, hF, hSt⟩ := FinI.push (x := ⟨P.lines + 1, P.beg, P.pos⟩) hIH.out hbH.out hrH.out _ (kW.out _) hown hgrow; have hFH : Hid (FinI _ _ _ _ _ _ _) := hF; have hStH : Hid (StayF _ _ _) := hSt; clear hF hSt hown hgrow)
    all_goals
      go_wp2
      exact bodyPost_ret (results_none rfl _ _ _) rfl ⟨rfl, ⟨P, hFH.out⟩, hStH.out⟩

set_option maxHeartbeats 4000000 in
set_option maxRecDepth 100000 in
theorem look_rule (hR : Ready1 w0 gs bt gp N L inv mx M t rv sv T ps) {s : Nat} (hs : 256 ≤ s) (ih : ∀ s', s' < s → Overs w0 F gs most inv M T s') : Looks w0 F gs most inv M T ps s := by
  intro w Y hI hreal hlen hends hmost
  have hSl := hR.st.sound.len
  have hrl := hR.st.rlen
  obtain ⟨x, hx⟩ : ∃ x, t.rules[s - 256]? = some x := ⟨_, List.getElem?_eq_getElem (by have := hreal.1; omega)⟩
  obtain ⟨x1, x2, x3, x4⟩ := hR.st.sound.rule _ _ hx
  have hsym : symT T s = symT T x.l ++ symT T x.r := by
    rw [← x3]; unfold symT; rw [if_neg (by omega)]
  have hat : ruleAt t.rules (s : Int) = x := by
    unfold ruleAt
    rw [if_pos (by omega), show ((s : Int) - 256).toNat = s - 256 by omega, hx]; rfl
  have hll : (symT T s).length = (symT T x.l).length + (symT T x.r).length := by rw [hsym, List.length_append]
  have rl : Real T x.l := ⟨by have := hreal.1; omega, by have := hreal.2; omega⟩
  have rr : Real T x.r := ⟨by have := hreal.1; omega, by have := hreal.2; omega⟩
  have hlen2 := hlen.2 (by omega)
  have hyl0 : (Y ++ symT T x.l).length ≤ 1099511627776 := by rw [List.length_append] at hlen2 ⊢; omega
  have hyl : BdY T Y x.l := ⟨hlen.1, fun _ => hyl0⟩
  have hyr : BdY T (Y ++ symT T x.l) x.r := ⟨hyl0, fun _ => by rw [List.append_assoc, ← hsym]; exact hlen2⟩
  have hru : Hid (∀ w', Kept [] w0 w' → Calls Tryz.prog 144 #[.pointer (some ⟨bt, 0, none⟩), .int .i64 (s : Int)] w' fun e w2 => e = .returned (.agg #[.int .i64 (x.l : Int), .int .i64 (x.r : Int), .int .i64 (x.pt.len : Int), .int .i64 (x.pt.nl : Int), .int .i64 (x.pt.first : Int), .int .i64 (x.pt.last : Int)]) ∧ Kept [] w' w2) := fun w' q => by
    have := ruleT_any ((hR.kept q).si.sp.tr) s (by have := hreal.1; omega) (by omega)
    rw [hat] at this
    exact this
  have hgl : Hid (∀ w', FinI w0 w' F gs most (plcOf M Y) ((flY M inv Y).take most) → Calls _ _ _ w' _) := fun w' h => ih x.l (by omega) w' Y h rl hyl
  have hgr : Hid (∀ w', FinI w0 w' F gs most (plcOf M (Y ++ symT T x.l)) ((flY M inv (Y ++ symT T x.l)).take most) → Calls _ _ _ w' _) := fun w' h => ih x.r (by omega) w' (Y ++ symT T x.l) h rr hyr
  have hpc : Hid (∀ w4, Kept [] w0 w4 → ∀ w', w'.heap = w4.heap → Calls _ _ _ w' _) := fun w4 q w' e => piece_c (gs := gs) (gp := gp) (n := 256 + t.rules.length) (j := x.r) ((cell_heap e gs 4).trans ((hR.kept q).si.s.cell 4)) (by have := rr.1; omega)
  have hpr : Hid (∀ w', Kept [] w0 w' → PAt w' gp (x.r * 8) (ps x.r).1 (ps x.r).2) := fun w' q => ((hR.kept q).pat rr).1
  have hnone : Hid ((ps x.r).1.nl = 0 → flY M inv (Y ++ symT T s) = flY M inv (Y ++ symT T x.l)) := fun h0 => by
    rw [hsym, ← List.append_assoc]
    exact flY_nonl _ _ (((hR.pat rr).2.ok.zero h0).1)
  have hsome : Y ++ symT T s = Y ++ symT T x.l ++ symT T x.r := by rw [hsym, List.append_assoc]
  have s0 : w0.cell? ⟨gs, 0, none⟩ = some (.pointer (some ⟨bt, 0, none⟩)) := hR.si.s.cell 0
  have lgs := hR.si.s.lt
  have hs0H : Hid (∀ w', Kept [] w0 w' → w'.cell? ⟨gs, 0, none⟩ = some (.pointer (some ⟨bt, 0, none⟩))) := fun w' q => (q.cell lgs 0).trans s0
  have hsH : Hid (Y ++ symT T s = Y ++ symT T x.l ++ symT T x.r) := hsome
  have hFge := hI.ge
  have hIH : Hid (FinI _ _ _ _ _ _ _) := hI
  have hsn : ¬ (s : Int) < 256 := by omega
  obtain ⟨a, n, c, hb, hrow⟩ := hI.ex
  have c0 : w.cell? ⟨F, 0, none⟩ = some (.pointer (some ⟨gs, 0, none⟩)) := hb.cell 0
  have cl := hb.lt
  have s0w := hs0H.out w hI.k
  have lgsw : gs < w.heap.size := Nat.lt_of_lt_of_le lgs hI.k.size
  clear hI hb hrow ih hR hreal hlen hends hmost hx x1 x2 x3 x4 hsym hat hll rl rr hyl hyr hyl0 hlen2 hsome s0 hSl hs
  obtain ⟨xl, xr, ⟨p1, p2, p3, p4⟩⟩ := x
  simp only [] at *
  go_enter Tryz.func146, Tryz.ntmps146
  go_wp2_with fail
  refine (hru.out _ hIH.out.k).mono ?_
  rintro e w2 ⟨rfl, k2⟩
  have I3 : Hid (FinI w0 (w2.alloc (.cells #[.int .i64 (xl : Int), .int .i64 (xr : Int), .int .i64 (p1 : Int), .int .i64 (p2 : Int), .int .i64 (p3 : Int), .int .i64 (p4 : Int)] 221)) F gs most _ _) := hIH.out.kept (k2.alloc _)
  have B3 : Hid (Blk (w2.alloc (.cells #[.int .i64 (xl : Int), .int .i64 (xr : Int), .int .i64 (p1 : Int), .int .i64 (p2 : Int), .int .i64 (p3 : Int), .int .i64 (p4 : Int)] 221)) w2.heap.size _ _) := Blk.new w2 _ _
  have hne : F ≠ w2.heap.size := by have := k2.size; omega
  have S3 : Hid (StayF F w (w2.alloc (.cells #[.int .i64 (xl : Int), .int .i64 (xr : Int), .int .i64 (p1 : Int), .int .i64 (p2 : Int), .int .i64 (p3 : Int), .int .i64 (p4 : Int)] 221))) := (k2.alloc _).stayF0
  clear k2 hIH c0 s0w
  go_wp2_with fail
  refine (hgl.out _ I3.out).mono ?_
  rintro e w4 ⟨rfl, hI4, hS4⟩
  have B4 : Blk w4 w2.heap.size #[.int .i64 (xl : Int), .int .i64 (xr : Int), .int .i64 (p1 : Int), .int .i64 (p2 : Int), .int .i64 (p3 : Int), .int .i64 (p4 : Int)] 221 := hS4.st _ _ _ (Ne.symm hne) (by decide) B3.out
  have d1 : w4.cell? ⟨w2.heap.size, 1, none⟩ = some (.int .i64 (xr : Int)) := B4.cell 1
  have dl := B4.lt
  have S4 : Hid (StayF F w w4) := S3.out.trans hS4
  have I4 : Hid (FinI w0 w4 F gs most _ _) := hI4
  obtain ⟨a4, n4, c4, hb4, _⟩ := hI4.ex
  have z0 : w4.cell? ⟨F, 0, none⟩ = some (.pointer (some ⟨gs, 0, none⟩)) := hb4.cell 0
  have zl := hb4.lt
  have hp4 := hpr.out w4 hI4.k
  have z1 := hp4.c1
  have zl2 := hp4.lt
  have hnlb := hp4.bd.nl
  have hpc4 : Hid (∀ w', w'.heap = w4.heap → Calls _ _ _ w' _) := hpc.out w4 I4.out.k
  clear B4 hb4 hI4 hS4 S3 I3 B3 hp4 hgl hpc
  by_cases h0 : (ps xr).1.nl = 0
  · have hn := hnone.out h0
    rw [h0] at z1
    have hnH : Hid (_ = _) := hn
    clear hn h0 hnone hgr
    go_wp2_with fail
    go_quiet (first | (go_at_call 77; exact Calls.quiet_of_same (hpc4.out _ rfl)))
    go_wp2
    go_end0
    exact ⟨rfl, ⟨_, by rw [hnH.out]; exact I4.out.kept ((Kept.refl [] w4).drewN _)⟩, S4.out.trans ((Kept.refl [] w4).drewN _).stayF0⟩
  · have hpos : (0 : Int) < ((ps xr).1.nl : Int) := by omega
    clear h0 hnone
    generalize (ps xr).1.nl = PN at *
    go_wp2_with fail
    go_quiet (first | (go_at_call 77; exact Calls.quiet_of_same (hpc4.out _ rfl)))
    go_wp2_with fail
    refine (hgr.out _ (I4.out.kept ((Kept.refl [] w4).drewN _))).mono ?_
    rintro e w6 ⟨rfl, hI6, hS6⟩
    have I6 : Hid (FinI w0 w6 F gs most _ _) := hI6
    have S6 : Hid (StayF F w w6) := S4.out.trans (((Kept.refl [] w4).drewN _).stayF0.trans hS6)
    clear hI6 hS6 S4 I4
    go_wp2
    go_end0
    exact ⟨rfl, ⟨_, by rw [hsH.out]; exact I6.out⟩, S6.out⟩

theorem PAt.heap {w w' : World} {g o : Nat} {p : PCE} {a : Option Addr} (h : PAt w g o p a) (e : w'.heap = w.heap) : PAt w' g o p a :=
  ⟨fun j hj => (cell_heap e g (o + j)).trans (h.cell j hj), fun hn => by
    obtain ⟨G, O, e1, h1, h2⟩ := h.tab hn
    exact ⟨G, O, e1, fun i hi => (cell_heap e G (O + i)).trans (h1 i hi), by rw [e]; exact h2⟩, h.bd, by rw [e]; exact h.lt⟩

set_option maxHeartbeats 4000000 in
set_option maxRecDepth 100000 in
theorem over_any (hR : Ready1 w0 gs bt gp N L inv mx M t rv sv T ps) {s : Nat} (hl : Looks w0 F gs most inv M T ps s) : Overs w0 F gs most inv M T s := by
  intro w Y hI hreal hlen
  obtain ⟨hpa0, hpg⟩ := hR.pat hreal
  have hY : Y.length ≤ 1099511627776 := hlen.1
  obtain ⟨d1, d2, d3⟩ := plc_bd M Y hY
  have e2 := plc_ok hpg.ok Y
  have hpc : Hid (Calls _ _ _ w _) := piece_at ((hR.kept hI.k).si) (j := s) (by have := hreal.1; have := hR.st.sound.len; omega)
  have hbe : Hid (Calls _ _ _ w _) := behindC_any (hpa0.kept hI.k) (plcOf M Y) (fun hn => hpg.ok.tail_le hn) d1 d2 d3
  rw [e2] at hbe
  have hce : Hid (∀ w5, Kept [] w0 w5 → ∀ w', w'.heap = w5.heap → Calls _ _ _ w' _) := fun w5 q w' e => countEnds_any (gs := gs) (plcOf M Y).set ((cell_heap e gs 2).trans ((hR.kept q).si.cinv)) ((hpa0.kept q).heap e)
  have hlo : Hid (∀ w', FinI w0 w' F gs most (plcOf M Y) ((flY M inv Y).take most) → endsP inv (ps s).1 (plcOf M Y).set ≠ 0 → (flY M inv Y).length < most → Calls _ _ _ w' _) := fun w' h h1 h2 => hl w' Y h hreal hlen h1 h2
  have hnone : Hid (endsP inv (ps s).1 (plcOf M Y).set = 0 → (flY M inv (Y ++ symT T s)).take most = (flY M inv Y).take most) := fun h0 => by rw [flY_none hpg.ok Y h0]
  have hfull : Hid (most ≤ (flY M inv Y).length → (flY M inv (Y ++ symT T s)).take most = (flY M inv Y).take most) := fun h0 => flY_full M inv Y _ most h0
  have hle := endsP_le inv (ps s).1 (plcOf M Y).set
  have hib := hpa0.bd.inside
  have hfb := flY_len_le M inv Y
  have htl : ((flY M inv Y).take most).length = min most (flY M inv Y).length := List.length_take
  have hFge := hI.ge
  have hIH : Hid (FinI _ _ _ _ _ _ _) := hI
  obtain ⟨a, n, c, hb, hrow⟩ := hI.ex
  have hn := fl_num hrow
  obtain ⟨c0, c1, c2, c3, c4, c5, c6, cl⟩ := all7 (show Blk w F #[.pointer (some ⟨gs, 0, none⟩), .int .i64 (most : Int), .int .i64 ((plcOf M Y).pos : Int), .int .i64 ((plcOf M Y).beg : Int), .int .i64 ((plcOf M Y).lines : Int), UV (plcOf M Y).set, .slice a n c] 173 from hb)
  clear hI hb hrow hR hl hpa0 hpg hreal hlen e2 hY
  generalize flY M inv (Y ++ symT T s) = F2 at *
  generalize plcOf M (Y ++ symT T s) = P2 at *
  generalize flY M inv Y = F1 at *
  generalize plcOf M Y = P1 at *
  generalize endsP inv (ps s).1 P1.set = EN at *
  rw [htl] at hn
  unfold plCells at hbe
  go_enter Tryz.func100, Tryz.ntmps100
  go_wp2_with fail
  refine hpc.out.mono ?_
  rintro _ w1 ⟨rfl, h1⟩
  have h1' := h1.symm
  subst h1'
  go_wp2_with fail
  refine hbe.out.mono ?_
  rintro _ w5 ⟨rfl, k5⟩
  obtain ⟨W, hW⟩ : ∃ W, W = w5.alloc (.cells #[.int .i64 (P2.pos : Int), .int .i64 (P2.beg : Int), .int .i64 (P2.lines : Int), UV P2.set] 143) := ⟨_, rfl⟩
  have IW : Hid (FinI w0 W F gs most P1 (F1.take most)) := by
    show FinI _ _ _ _ _ _ _; rw [hW]; exact hIH.out.kept (k5.alloc _)
  have SW : Hid (StayF F w W) := by
    show StayF _ _ _; rw [hW]; exact (k5.alloc _).stayF0
  have BW : Blk W w5.heap.size #[.int .i64 (P2.pos : Int), .int .i64 (P2.beg : Int), .int .i64 (P2.lines : Int), UV P2.set] 143 := by rw [hW]; exact Blk.new w5 _ _
  have kW : Kept [] w W := by rw [hW]; exact k5.alloc _
  have hne : F ≠ w5.heap.size := by have := k5.size; omega
  have hne' : w5.heap.size ≠ F := Ne.symm hne
  have q0 := (kW.cell cl 0).trans c0
  have q1 := (kW.cell cl 1).trans c1
  have q2 := (kW.cell cl 2).trans c2
  have q3 := (kW.cell cl 3).trans c3
  have q4 := (kW.cell cl 4).trans c4
  have q5 := (kW.cell cl 5).trans c5
  have q6 := (kW.cell cl 6).trans c6
  have ql : F < W.heap.size := Nat.lt_of_lt_of_le cl kW.size
  have r0 : W.cell? ⟨w5.heap.size, 0, none⟩ = some (.int .i64 (P2.pos : Int)) := BW.cell 0
  have r1 : W.cell? ⟨w5.heap.size, 1, none⟩ = some (.int .i64 (P2.beg : Int)) := BW.cell 1
  have r2 : W.cell? ⟨w5.heap.size, 2, none⟩ = some (.int .i64 (P2.lines : Int)) := BW.cell 2
  have r3 : W.cell? ⟨w5.heap.size, 3, none⟩ = some (UV P2.set) := BW.cell 3
  have rl := BW.lt
  have BH : Hid (Blk _ _ _ _) := BW
  have fz : ∀ j, W.frozen? ⟨F, j, none⟩ = false := fun j => by obtain ⟨_, _, _, hb, _⟩ := IW.out.ex; exact hb.frozen j
  clear c0 c1 c2 c3 c4 c5 c6 cl kW k5 BW hIH hpc hbe
  go_wp2_with fail
  rw [← hW]
  clear hW
  generalize w5.heap.size = g at *
  go_quiet (first | (go_at_call 78; exact Calls.quiet_of_same (hce.out W IW.out.k _ rfl)))
  go_wp2_with fail
  by_cases h0 : 0 < EN
  · have hd0 : decide (0 < EN) = true := decide_eq_true h0
    by_cases h1 : F1.length < most
    · have hn1 : n = F1.length := by omega
      have hd1 : decide (n < most) = true := decide_eq_true (by omega)
      have hl0 : Hid (∀ w', FinI w0 w' F gs most P1 (F1.take most) → Calls _ _ _ w' _) := fun w' h => hlo.out w' h (by omega) h1
      clear hnone hfull hlo hce h1 hn1 hn htl hfb h0
      go_quiet (fail)
      go_wp2_with fail
      refine (hl0.out _ (IW.out.kept ((Kept.refl [] W).drewN _))).mono ?_
      rintro e w6 ⟨rfl, ⟨h6, hI6⟩, hS6⟩
      have B6 : Blk w6 g _ _ := hS6.st _ _ _ hne' (by decide) (BH.out.kept ((Kept.refl [] W).drewN _) (by simp))
      have r0 : w6.cell? ⟨g, 0, none⟩ = some (.int .i64 (P2.pos : Int)) := B6.cell 0
      have r1 : w6.cell? ⟨g, 1, none⟩ = some (.int .i64 (P2.beg : Int)) := B6.cell 1
      have r2 : w6.cell? ⟨g, 2, none⟩ = some (.int .i64 (P2.lines : Int)) := B6.cell 2
      have r3 : w6.cell? ⟨g, 3, none⟩ = some (UV P2.set) := B6.cell 3
      have rl := B6.lt
      have fz : (∀ j, w6.frozen? ⟨F, j, none⟩ = false) ∧ F < w6.heap.size ∧ (∃ v, w6.cell? ⟨F, 2, none⟩ = some v) ∧ (∃ v, w6.cell? ⟨F, 3, none⟩ = some v) ∧ (∃ v, w6.cell? ⟨F, 4, none⟩ = some v) ∧ (∃ v, w6.cell? ⟨F, 5, none⟩ = some v) := by obtain ⟨_, _, _, hb, _⟩ := hI6.ex; exact ⟨fun j => hb.frozen j, hb.lt, ⟨_, hb.cell 2⟩, ⟨_, hb.cell 3⟩, ⟨_, hb.cell 4⟩, ⟨_, hb.cell 5⟩⟩
      obtain ⟨fz, fl, ⟨v2, f2⟩, ⟨v3, f3⟩, ⟨v4, f4⟩, ⟨v5, f5⟩⟩ := fz
      have I6 : Hid (FinI _ _ _ _ _ _ _) := hI6
      have S6 : Hid (StayF F w w6) := SW.out.trans (((Kept.refl [] W).drewN _).stayF0.trans hS6)
      clear hI6 hS6 B6 IW SW hl0 q0 q1 q2 q3 q4 q5 q6 ql
      go_wp2
      go_end0
      obtain ⟨z1, z2⟩ := FinI.here2 (h' := P2) I6.out
      exact ⟨rfl, z1, S6.out.trans z2⟩
    · have hd1 : decide (n < most) = false := decide_eq_false (by omega)
      have e2H : Hid (F2.take most = F1.take most) := hfull.out (by omega)
      clear hnone hfull hlo hce h0 h1 hn htl hfb
      go_quiet (fail)
      go_wp2
      go_end0
      obtain ⟨z1, z2⟩ := FinI.here2 (h' := P2) (IW.out.kept ((Kept.refl [] W).drewN _))
      exact ⟨rfl, by rw [e2H.out]; exact z1, SW.out.trans (((Kept.refl [] W).drewN _).stayF0.trans z2)⟩
  · have hd0 : decide (0 < EN) = false := decide_eq_false h0
    have e2H : Hid (F2.take most = F1.take most) := hnone.out (by omega)
    clear hnone hfull hlo hce h0 hn htl hfb
    go_quiet (fail)
    go_wp2
    go_end0
    obtain ⟨z1, z2⟩ := FinI.here2 (h' := P2) (IW.out.kept ((Kept.refl [] W).drewN _))
    exact ⟨rfl, by rw [e2H.out]; exact z1, SW.out.trans (((Kept.refl [] W).drewN _).stayF0.trans z2)⟩

theorem overs (hR : Ready1 w0 gs bt gp N L inv mx M t rv sv T ps) (s : Nat) : Overs w0 F gs most inv M T s := by
  induction s using Nat.strongRecOn with
  | _ s ih =>
    by_cases hs : s < 256
    · exact over_any hR (look_byte hR hs)
    · exact over_any hR (look_rule hR (by omega) ih)

end

end Go.Proofs.YtgifhgnccmnbiabGreatDoor

set_option linter.unusedVariables false
set_option linter.unusedSimpArgs false
namespace Go.Proofs.YtgifhgnccmnbiabGreatDoor
open Go.RowKit Go.IntWalk

/-- What find hands back: a row of lines. -/
structure FoundO (w w' : World) (l : List FL) (v : Value) : Prop where
  k : Kept [] w w'
  ex : ∃ a n c, v = .slice a n c ∧ w'.ownsRow (w.heap.size + 1) 109 3 (.slice a n c) l.length (flCells l)
theorem flX_out {M : MP} {inv : Bool} {X Y Z : List Nat} (hX : X = Y ++ Z) (most : Nat) (h : Z = [] ∨ most ≤ (flY M inv Y).length) :
    (restL Y = [] → (flX M inv X).take most = (flY M inv Y).take most) ∧ (restL Y ≠ [] → (flX M inv X).take most = (flY M inv (Y ++ [10])).take most) := by
  rcases h with h | h
  · subst h
    rw [List.append_nil] at hX
    subst hX
    exact ⟨fun hr => by rw [flX_rest, if_pos hr], fun hr => by rw [flX_rest, if_neg hr]⟩
  · subst hX
    exact ⟨fun _ => flX_full M inv Y Z most h, fun _ => by rw [flX_full M inv Y Z most h, flY_full M inv Y _ most h]⟩
theorem FinI.begin {w : World} {gs most : Nat} {M : MP} {inv : Bool} :
    FinI w (w.alloc (.cells #[.pointer (some ⟨gs, 0, none⟩), .int .i64 (most : Int), .int .i64 0, .int .i64 0, .int .i64 0, UV M.beg, .slice none 0 0] 173)) w.heap.size gs most (plcOf M []) ((flY M inv []).take most) := by
  have hb : Blk _ w.heap.size #[.pointer (some ⟨gs, 0, none⟩), .int .i64 (most : Int), .int .i64 0, .int .i64 0, .int .i64 0, UV M.beg, .slice none 0 0] 173 := (Blk.new w #[.pointer (some ⟨gs, 0, none⟩), .int .i64 (most : Int), .int .i64 0, .int .i64 0, .int .i64 0, UV M.beg, .slice none 0 0] 173)
  have e : (flY M inv []).take most = [] := by simp [flY, compL, crA_nil, selE]
  rw [e]
  exact ⟨(Kept.refl [] w).alloc _, Nat.le_refl _, none, 0, 0, hb, ⟨rfl, Or.inl ⟨rfl, rfl⟩⟩⟩

set_option maxHeartbeats 4000000 in
set_option maxRecDepth 100000 in
theorem sfind_any {w : World} {gs bt gp N L : Nat} {inv : Bool} {mx : Int} {M : MP} {t : TT} {rv sv : Value} {T : List (List Nat)} {ps : PcF} (h : Ready1 w gs bt gp N L inv mx M t rv sv T ps) (most : Nat) :
    Calls Tryz.prog 58 #[.pointer (some ⟨gs, 0, none⟩), .int .i64 (most : Int)] w fun e w' => ∃ v, e = .returned v ∧ FoundO w w' ((flX M inv (t.start.flatMap (symT T))).take most) v := by
  have hlenX := h.len
  have hov : Hid (∀ (s : Nat) (w' : World) (Y : List Nat), FinI w w' w.heap.size gs most (plcOf M Y) ((flY M inv Y).take most) → Real T s → BdY T Y s → Calls _ _ _ w' _) := fun s w' Y h1 h2 h3 => overs (F := w.heap.size) (most := most) h s w' Y h1 h2 h3
  have hH : Hid (Ready1 _ _ _ _ _ _ _ _ _ _ _ _ _ _) := h
  obtain ⟨sa, sn, sc, hsv⟩ := own_shape h.si.sp.tr.start
  have hsn : sn = t.start.length := by
    rcases h.si.sp.tr.start.2 with ⟨h1, h2⟩ | ⟨g, cap, _, h1, _⟩
    · rw [hsv] at h1; simp at h1; omega
    · rw [hsv] at h1; simp at h1; omega
  subst hsn
  have hslen := h.st.slen
  have s0 : w.cell? ⟨gs, 0, none⟩ = some (.pointer (some ⟨bt, 0, none⟩)) := h.si.s.cell 0
  have s1 : w.cell? ⟨gs, 1, none⟩ = some (UV M.beg) := h.si.s.cell 1
  have t3 : w.cell? ⟨bt, 3, none⟩ = some (.slice sa t.start.length sc) := by have := h.si.sp.tr.cell 3; rw [hsv] at this; exact this
  have lgs := h.si.s.lt
  have lbt := h.si.sp.tr.blk.lt
  have hcell : Hid (∀ (q s : Nat), t.start[q]? = some s → ∃ g, sa = some ⟨g, 0, none⟩ ∧ w.cell? ⟨g, q, none⟩ = some (.int .i64 (s : Int)) ∧ g < w.heap.size) := fun q s hs => by
    have hq := (List.getElem?_eq_some_iff.1 hs).1
    obtain ⟨g, cap, hv⟩ := own_form h.si.sp.tr.start (by omega)
    have hc : (symCells t.start)[q]? = some (.int .i64 (s : Int)) := by unfold symCells; rw [List.getElem?_map, hs]; rfl
    have h3 := h.si.sp.tr.start.cells (g := g) (by rw [hv]; rfl) q _ hc
    rw [ptr_add] at h3
    rw [hsv] at hv
    simp only [Value.slice.injEq] at hv
    exact ⟨g, hv.1, h3, (h.si.sp.tr.start.lt g (by rw [hsv, hv.1]; rfl)).2⟩
  have hst : Hid (FinI w _ w.heap.size gs most (plcOf M ((t.start.take 0).flatMap (symT T))) ((flY M inv ((t.start.take 0).flatMap (symT T))).take most)) := FinI.begin
  have hlenH : Hid (∀ q, ((t.start.take q).flatMap (symT T)).length ≤ 1099511627776) := fun q => Nat.le_trans (take_len T t.start q) hlenX
  have hnd : Hid (∀ q, t.start.flatMap (symT T) = (t.start.take q).flatMap (symT T) ++ (t.start.drop q).flatMap (symT T)) := fun q => by rw [← List.flatMap_append, List.take_append_drop]
  clear h hsv
  generalize hBG : M.beg = BG at *
  clear hBG
  generalize hX : t.start.flatMap (symT T) = X at *
  have hXH : Hid (_ = X) := hX
  clear hX
  go_enter Tryz.func58, Tryz.ntmps58
  go_wp2_with fail
  go_loopw [6] (fun iv wr => ∃ q : Nat, iv = .int .i64 (q : Int) ∧ q ≤ t.start.length ∧ FinI w wr w.heap.size gs most (plcOf M ((t.start.take q).flatMap (symT T))) ((flY M inv ((t.start.take q).flatMap (symT T))).take most)) (fun iv _ => ((t.start.length : Int) - intOf iv).toNat)
  case atStart => exact ⟨0, rfl, Nat.zero_le _, hst.out⟩
  case round =>
    obtain ⟨q, rfl, hq, hI⟩ := hrel
    clear hst
    have hIH : Hid (FinI _ _ _ _ _ _ _) := hI
    have lwr := hI.k.size
    have s0' := (hI.k.cell lgs 0).trans s0
    have t3' := (hI.k.cell lbt 3).trans t3
    have hYb := hlenH.out q
    have htl : ((flY M inv ((t.start.take q).flatMap (symT T))).take most).length = min most (flY M inv ((t.start.take q).flatMap (symT T))).length := List.length_take
    obtain ⟨a, n, c, hb, hrow⟩ := hI.ex
    have hn := fl_num hrow
    rw [htl] at hn
    have c6 : wr.cell? ⟨w.heap.size, 6, none⟩ = some (.slice a n c) := hb.cell 6
    have cl := hb.lt
    have c2 : wr.cell? ⟨w.heap.size, 2, none⟩ = some (.int .i64 ((plcOf M ((t.start.take q).flatMap (symT T))).pos : Int)) := hb.cell 2
    have c3 : wr.cell? ⟨w.heap.size, 3, none⟩ = some (.int .i64 ((plcOf M ((t.start.take q).flatMap (symT T))).beg : Int)) := hb.cell 3
    have c4 : wr.cell? ⟨w.heap.size, 4, none⟩ = some (.int .i64 ((plcOf M ((t.start.take q).flatMap (symT T))).lines : Int)) := hb.cell 4
    have c5 : wr.cell? ⟨w.heap.size, 5, none⟩ = some (UV (plcOf M ((t.start.take q).flatMap (symT T))).set) := hb.cell 5
    clear hb hI
    by_cases hgo : q < t.start.length ∧ (flY M inv ((t.start.take q).flatMap (symT T))).length < most
    · obtain ⟨hlt, hmo⟩ := hgo
      obtain ⟨s, hs⟩ : ∃ s, t.start[q]? = some s := ⟨_, List.getElem?_eq_getElem (by omega)⟩
      obtain ⟨g, rfl, c1, lg⟩ := hcell.out q s hs
      have c1' := (hIH.out.k.cell lg q).trans c1
      have hreal := hH.out.real (List.mem_of_getElem? hs)
      have hnx := take_text (T := T) hs
      have hc : Hid (Calls _ _ _ wr _) := hov.out s wr _ hIH.out hreal ⟨hYb, fun _ => by rw [← hnx]; exact hlenH.out (q + 1)⟩
      rw [← hnx] at hc
      have hn1 : (n : Int) < (most : Int) := by omega
      have hn2 : decide (n < most) = true := decide_eq_true (by omega)
      have hq1 : (q : Int) < (t.start.length : Int) := by omega
      clear hrow c2 c3 c4 c5 hreal hnx hcell hov hH hlenH hnd hXH s0 s1 t3 c1 hmo htl hn
      go_wp2_with fail
      refine hc.out.mono ?_
      rintro e w5 ⟨rfl, hI5, hS5⟩
      have I5 : Hid (FinI _ _ _ _ _ _ _) := hI5
      clear hI5 hS5
      go_wp2
      exact ⟨⟨q + 1, by go_num, by omega, I5.out⟩, by simp only [intOf]; omega⟩
    · obtain ⟨Z, hZ1, hZ2⟩ : ∃ Z, X = (t.start.take q).flatMap (symT T) ++ Z ∧ (Z = [] ∨ most ≤ (flY M inv ((t.start.take q).flatMap (symT T))).length) := ⟨(t.start.drop q).flatMap (symT T), hnd.out q, by
        by_cases hlt : q < t.start.length
        · exact Or.inr (by omega)
        · left
          rw [List.drop_of_length_le (by omega)]; rfl⟩
      obtain ⟨ho1, ho2⟩ := flX_out (M := M) (inv := inv) hZ1 most hZ2
      have hc : Hid (∀ w', FinI w w' _ _ _ _ _ → Calls _ _ _ w' _) := fun w' hf => hov.out 10 w' ((t.start.take q).flatMap (symT T)) hf ⟨by omega, by show ([10] : List Nat).length ≤ _; decide⟩ ⟨hYb, fun h => by omega⟩
      have hil : Hid (∀ w', Calls _ _ _ w' _) := fun w' => isInLine_any w' (plcOf M ((t.start.take q).flatMap (symT T)))
      rw [inLine_dec] at hil
      have hguard : ¬ q < t.start.length ∨ (q < t.start.length ∧ decide (n < most) = false) := by
        by_cases hlt : q < t.start.length
        · exact Or.inr ⟨hlt, decide_eq_false (by omega)⟩
        · exact Or.inl hlt
      have hsym10 : symT T 10 = [10] := if_pos (by decide)
      rw [hsym10] at hc
      have hIH2 : Hid (FinI _ _ _ _ _ _ _) := hIH.out
      have hrowH : Hid (World.ownsRow wr (w.heap.size + 1) 109 3 (.slice a n c) ((flY M inv ((t.start.take q).flatMap (symT T))).take most).length (flCells ((flY M inv ((t.start.take q).flatMap (symT T))).take most))) := hrow
      clear hrow hZ1 hZ2 hcell hov hH hlenH hnd hXH s0 s1 t3 htl hn hgo hsym10 hlenX hslen
      generalize plcOf M ((t.start.take q).flatMap (symT T)) = P1 at *
      by_cases hr : restL ((t.start.take q).flatMap (symT T)) = []
      · have e : Hid (_ = _) := ho1 hr
        rw [decide_eq_true hr] at hil
        clear ho1 ho2 hr hc
        rcases hguard with hg | ⟨hg, hg2⟩
        · have hq1 : ¬ (q : Int) < (t.start.length : Int) := by omega
          go_wp2_with (go_at_call 80; refine (hil.out _).mono ?_; rintro _ w5 ⟨rfl, k5⟩; have I5 : Hid (FinI w w5 w.heap.size gs most _ _) := hIH.out.kept k5; have c6q := (k5.cell cl 6).trans c6; have k5H : Hid (Kept [] wr w5) := k5; clear k5)
          go_ret
          exact ⟨_, rfl, ⟨I5.out.k, a, n, c, rfl, by rw [e.out]; exact row_stay hrowH.out k5H.out (fun _ _ => by simp)⟩⟩
        · have hq1 : (q : Int) < (t.start.length : Int) := by omega
          go_wp2_with (go_at_call 80; refine (hil.out _).mono ?_; rintro _ w5 ⟨rfl, k5⟩; have I5 : Hid (FinI w w5 w.heap.size gs most _ _) := hIH.out.kept k5; have c6q := (k5.cell cl 6).trans c6; have k5H : Hid (Kept [] wr w5) := k5; clear k5)
          go_ret
          exact ⟨_, rfl, ⟨I5.out.k, a, n, c, rfl, by rw [e.out]; exact row_stay hrowH.out k5H.out (fun _ _ => by simp)⟩⟩
      · have e : Hid (_ = _) := ho2 hr
        rw [decide_eq_false hr] at hil
        clear ho1 ho2 hr hrowH
        rcases hguard with hg | ⟨hg, hg2⟩
        · have hq1 : ¬ (q : Int) < (t.start.length : Int) := by omega
          go_wp2_with (first
            | (go_at_call 80; refine (hil.out _).mono ?_; rintro _ w5 ⟨rfl, k5⟩; have I5 : Hid (FinI w w5 w.heap.size gs most _ _) := hIH.out.kept k5; clear k5)
            | (go_at_call 100; refine (hc.out _ I5.out).mono ?_; rintro _ w6 ⟨rfl, hI6, hS6⟩; obtain ⟨a6, n6, c6', hb6, hr6⟩ := hI6.ex; have c6q : w6.cell? ⟨w.heap.size, 6, none⟩ = some (.slice a6 n6 c6') := hb6.cell 6; have cl6 := hb6.lt; have I6 : Hid (FinI _ _ _ _ _ _ _) := hI6; have R6 : Hid (World.ownsRow _ _ _ _ _ _ _) := hr6; clear hI6 hS6 hb6 hr6))
          go_ret
          exact ⟨_, rfl, ⟨I6.out.k, a6, n6, c6', rfl, by rw [e.out]; exact R6.out⟩⟩
        · have hq1 : (q : Int) < (t.start.length : Int) := by omega
          go_wp2_with (first
            | (go_at_call 80; refine (hil.out _).mono ?_; rintro _ w5 ⟨rfl, k5⟩; have I5 : Hid (FinI w w5 w.heap.size gs most _ _) := hIH.out.kept k5; clear k5)
            | (go_at_call 100; refine (hc.out _ I5.out).mono ?_; rintro _ w6 ⟨rfl, hI6, hS6⟩; obtain ⟨a6, n6, c6', hb6, hr6⟩ := hI6.ex; have c6q : w6.cell? ⟨w.heap.size, 6, none⟩ = some (.slice a6 n6 c6') := hb6.cell 6; have cl6 := hb6.lt; have I6 : Hid (FinI _ _ _ _ _ _ _) := hI6; have R6 : Hid (World.ownsRow _ _ _ _ _ _ _) := hr6; clear hI6 hS6 hb6 hr6))
          go_ret
          exact ⟨_, rfl, ⟨I6.out.k, a6, n6, c6', rfl, by rw [e.out]; exact R6.out⟩⟩

end Go.Proofs.YtgifhgnccmnbiabGreatDoor

set_option linter.unusedVariables false
set_option linter.unusedSimpArgs false
namespace Go.Proofs.YtgifhgnccmnbiabGreatDoor
open Go.RowKit Go.IntWalk Go.Shelf

def itoaRen : Go.Shelf.Ren := ⟨fun | 171 => 43 | 243 => 83 | 246 => 126 | 283 => 158 | 284 => 159 | 285 => 160 | 286 => 161 | 129 => 189 | 317 => 188 | 318 => 190 | 319 => 191 | 320 => 192 | 337 => 203 | 338 => 204 | n => n, fun | 3 => 3 | 9 => 9 | 2 => 2 | 4 => 4 | 171 => 240 | 0 => 0 | 53 => 56 | 37 => 77 | 5 => 5 | 173 => 243 | 212 => 262 | 51 => 263 | 20 => 20 | 213 => 264 | 46 => 154 | 232 => 276 | 233 => 277 | n => n, fun | 17 => 0 | 18 => 1 | 19 => 2 | n => n⟩
theorem itoaLays : Go.Proofs.LaysM.n171 Tryz.prog itoaRen := {
  mixed := by kernel_rfl
  f129 := Tryz.func189.trans (congrArg some (by kernel_rfl))
  f171 := Tryz.func43.trans (congrArg some (by kernel_rfl))
  f243 := Tryz.func83.trans (congrArg some (by kernel_rfl))
  f246 := Tryz.func126.trans (congrArg some (by kernel_rfl))
  f283 := Tryz.func158.trans (congrArg some (by kernel_rfl))
  f284 := Tryz.func159.trans (congrArg some (by kernel_rfl))
  f285 := Tryz.func160.trans (congrArg some (by kernel_rfl))
  f286 := Tryz.func161.trans (congrArg some (by kernel_rfl))
  f317 := Tryz.func188.trans (congrArg some (by kernel_rfl))
  f318 := Tryz.func190.trans (congrArg some (by kernel_rfl))
  f319 := Tryz.func191.trans (congrArg some (by kernel_rfl))
  f320 := Tryz.func192.trans (congrArg some (by kernel_rfl))
  f337 := Tryz.func203.trans (congrArg some (by kernel_rfl))
  f338 := Tryz.func204.trans (congrArg some (by kernel_rfl))
  t0 := Tryz.underlying0
  a0 := Tryz.isAgg0
  z0 := Tryz.sizeOf0
  v0 := Tryz.zeroValue0
  t2 := Tryz.underlying2
  a2 := Tryz.isAgg2
  z2 := Tryz.sizeOf2
  v2 := Tryz.zeroValue2
  t3 := Tryz.underlying3
  a3 := Tryz.isAgg3
  z3 := Tryz.sizeOf3
  v3 := Tryz.zeroValue3
  t4 := Tryz.underlying4
  a4 := Tryz.isAgg4
  z4 := Tryz.sizeOf4
  v4 := Tryz.zeroValue4
  t5 := Tryz.underlying5
  a5 := Tryz.isAgg5
  z5 := Tryz.sizeOf5
  v5 := Tryz.zeroValue5
  t9 := Tryz.underlying9
  a9 := Tryz.isAgg9
  z9 := Tryz.sizeOf9
  v9 := Tryz.zeroValue9
  t20 := Tryz.underlying20
  a20 := Tryz.isAgg20
  z20 := Tryz.sizeOf20
  v20 := Tryz.zeroValue20
  t37 := Tryz.underlying77
  a37 := Tryz.isAgg77
  z37 := Tryz.sizeOf77
  v37 := Tryz.zeroValue77
  t46 := Tryz.underlying154
  a46 := Tryz.isAgg154
  z46 := Tryz.sizeOf154
  v46 := Tryz.zeroValue154
  t51 := Tryz.underlying263
  a51 := Tryz.isAgg263
  z51 := Tryz.sizeOf263
  v51 := Tryz.zeroValue263
  t53 := Tryz.underlying56
  a53 := Tryz.isAgg56
  z53 := Tryz.sizeOf56
  v53 := Tryz.zeroValue56
  t171 := Tryz.underlying240
  a171 := Tryz.isAgg240
  z171 := Tryz.sizeOf240
  v171 := Tryz.zeroValue240
  t173 := Tryz.underlying243
  a173 := Tryz.isAgg243
  z173 := Tryz.sizeOf243
  v173 := Tryz.zeroValue243
  t212 := Tryz.underlying262
  a212 := Tryz.isAgg262
  z212 := Tryz.sizeOf262
  v212 := Tryz.zeroValue262
  t213 := Tryz.underlying264
  a213 := Tryz.isAgg264
  z213 := Tryz.sizeOf264
  t232 := Tryz.underlying276
  a232 := Tryz.isAgg276
  z232 := Tryz.sizeOf276
  v232 := Tryz.zeroValue276
  t233 := Tryz.underlying277
  a233 := Tryz.isAgg277
  z233 := Tryz.sizeOf277
  v233 := Tryz.zeroValue277
  g17 := by kernel_rfl
  g18 := by kernel_rfl
  g19 := by kernel_rfl
  i0 := by kernel_rfl
  i2 := by kernel_rfl
  i3 := by kernel_rfl
  i4 := by kernel_rfl
  i5 := by kernel_rfl
  i9 := by kernel_rfl
  i20 := by kernel_rfl
  i37 := by kernel_rfl
  i46 := by kernel_rfl
  i51 := by kernel_rfl
  i53 := by kernel_rfl
  i171 := by kernel_rfl
  i173 := by kernel_rfl
  i212 := by kernel_rfl
  i232 := by kernel_rfl
  i233 := by kernel_rfl
  m17 := by kernel_rfl
  m18 := by kernel_rfl
  m19 := by kernel_rfl }
open Go.RowKit Go.Sort Go.Lib in

/-- The table's name, off the rows. -/
def powN : String := Rows.alikeRow.named.headD ""
def TabP (w : World) : Prop := Lib.TabIs Tryz.prog w powN .u64 Lib.pow10Tab
theorem TabP.kept {w w' : World} (h : TabP w) (q : Kept [] w w') : TabP w' := by
  unfold TabP Lib.TabIs World.var? at h ⊢
  cases hg : Tryz.prog.globalNamed powN with
  | none => rw [hg] at h; cases h
  | some g =>
    rw [hg] at h
    simp only [Option.bind_some] at h ⊢
    have hl : g < w.heap.size := by
      apply Classical.byContradiction
      intro hc
      rw [Array.getElem?_eq_none (by omega)] at h
      cases h
    rw [q.block g hl (by simp)]
    exact h
theorem growK (w : World) (os : Array Obj) : Kept [] w (Sort.grow w os) := by
  refine ⟨rfl, rfl, rfl, ?_, fun k hk _ => ?_⟩
  · show _ ≤ (w.heap ++ os).size; rw [Array.size_append]; omega
  · show (w.heap ++ os)[k]? = _; rw [Array.getElem?_append_left hk]
def itoaB (n : Nat) : ByteArray := ⟨(Lib.itoa (n : Int)).toArray⟩
theorem itoa_any (n : Nat) (hn : n ≤ 1099511627777) {w : World} (htab : TabP w) :
    Calls Tryz.prog 43 #[.int .i64 (n : Int)] w fun e w' => e = .returned (.string (itoaB n)) ∧ Kept [] w w' := by
  refine (Any.strconv_Itoa itoaLays (n : Int) (by omega) (by omega) w htab).mono ?_
  rintro e w' ⟨rfl, k, os, rfl⟩
  exact ⟨rfl, ((Kept.refl [] w).drewN k).trans (growK _ os)⟩

end Go.Proofs.YtgifhgnccmnbiabGreatDoor
