/- Package packed: the reader of files of codes: its small functions. -/
import Derived.Test.YtgifhgnccmnbiaaPkBits
set_option linter.unusedVariables false
set_option linter.unusedSimpArgs false
namespace Go.Proofs.Ytgifhgnccmnbiaa
open Go.RowKit Go.IntWalk

/-- The reader of codes, beside its text: its bits, its greatest width, how many rules are gone, the symbol ahead, whether it has failed. -/
structure CD where
  B : ByteArray
  p : Nat
  most : Nat
  gone : Nat := 0
  ahead : Option Nat := none
  bad : Bool := false
def aheadI : Option Nat → Int
  | none => -1
  | some a => (a : Int)
def CD.pre (c : CD) : Array Value := #[.string c.B, .int .i64 (c.p : Int), .int .i64 (c.most : Int)]
def CD.post (c : CD) : Array Value := #[.int .i64 (c.gone : Int), .int .i64 (aheadI c.ahead), .bool c.bad]
def CM (w : World) (b : Nat) (c : CD) (Bd : Nat) (t : TT) (rv sv : Value) : Prop := TM w b c.pre c.post 173 Bd t rv sv

section
variable {w w' : World} {b Bd : Nat} {c : CD} {t : TT} {rv sv : Value}
theorem CM.all (h : CM w b c Bd t rv sv) : Blk w b #[.string c.B, .int .i64 (c.p : Int), .int .i64 (c.most : Int), .int .i64 t.kind, .int .i64 t.syms, rv, sv, .int .i64 t.whole.len, .int .i64 t.whole.nl, .int .i64 t.whole.first, .int .i64 t.whole.last, .int .i64 (c.gone : Int), .int .i64 (aheadI c.ahead), .bool c.bad] 173 := h.blk
theorem CM.of_all {c' : CD} {t' : TT} (h : CM w b c Bd t rv sv) (hb : Blk w' b #[.string c'.B, .int .i64 (c'.p : Int), .int .i64 (c'.most : Int), .int .i64 t'.kind, .int .i64 t'.syms, rv, sv, .int .i64 t'.whole.len, .int .i64 t'.whole.nl, .int .i64 t'.whole.first, .int .i64 t'.whole.last, .int .i64 (c'.gone : Int), .int .i64 (aheadI c'.ahead), .bool c'.bad] 173)
    (k : Kept [b] w w') (hr : t'.rules = t.rules) (hs : t'.start = t.start) (hw : PTsmall t'.whole) : CM w' b c' Bd t' rv sv :=
  ⟨hb, h.lt, Nat.le_trans h.up k.size, by rw [hr]; exact row_stay h.rules k (fun g hg hc => by simp at hc; have := (h.rules.lt g hg).1; have := h.lt; omega), by rw [hs]; exact row_stay h.start k (fun g hg hc => by simp at hc; have := (h.start.lt g hg).1; have := h.lt; omega), by rw [hr]; exact h.small, hw⟩
theorem CM.keptW (h : CM w b c Bd t rv sv) (k : Kept [] w w') : CM w' b c Bd t rv sv := TM.kept h k
theorem CM.bits (h : CM w b c Bd t rv sv) : BR w b (c.pre ++ t.cells rv sv ++ c.post) 173 c.B c.p := ⟨h.blk, rfl, rfl⟩
/-- The bits have been read on. -/
theorem CM.readOn (h : CM w b c Bd t rv sv) {q : Nat} (r : BR w' b ((c.pre ++ t.cells rv sv ++ c.post).setIfInBounds 1 (.int .i64 (q : Int))) 173 c.B q) (k : Kept [b] w w') : CM w' b { c with p := q } Bd t rv sv :=
  h.of_all r.blk k rfl rfl h.whole
end

def freeN (t : TT) (c : CD) : Nat := 257 + t.rules.length - c.gone
def symC (gone code : Nat) : Nat := if code < 256 then code else gone + code - 1

set_option maxHeartbeats 1000000 in
set_option maxRecDepth 100000 in
theorem cfree_any {w : World} {b Bd : Nat} {c : CD} {t : TT} {rv sv : Value} (h : CM w b c Bd t rv sv) (hg : c.gone ≤ t.rules.length) (hl : t.rules.length ≤ 100000) :
    Calls Try.prog 141 #[.pointer (some ⟨b, 0, none⟩)] w fun e w' => e = .returned (.int .i64 (freeN t c : Int)) ∧ Kept [] w w' := by
  have c5 : w.cell? ⟨b, 5, none⟩ = some rv := h.all.cell 5
  have c11 : w.cell? ⟨b, 11, none⟩ = some (.int .i64 (c.gone : Int)) := h.all.cell 11
  have hv : ∃ a cap, rv = .slice a t.rules.length cap := by
    rcases h.rules.2 with ⟨h3, h4⟩ | ⟨g, cap, _, h3, _⟩
    · exact ⟨none, 0, by rw [h3, h4]⟩
    · exact ⟨_, cap, h3⟩
  obtain ⟨a, cap, rfl⟩ := hv
  have e : Hid ((freeN t c : Int) = 257 + (t.rules.length : Int) - (c.gone : Int)) := by show _ = _; unfold freeN; omega
  generalize t.rules.length = n at *
  clear h
  go_enter Try.func141, Try.ntmps141
  go_wp2_with fail
  go_quiet (fail)
  go_wp2
  go_ret
  exact ⟨ret_int (by rw [e.out]), (Kept.refl [] w).drewN _⟩

set_option maxHeartbeats 1000000 in
set_option maxRecDepth 100000 in
theorem cwidth_any {w : World} {b Bd : Nat} {c : CD} {t : TT} {rv sv : Value} (h : CM w b c Bd t rv sv) (hg : c.gone ≤ t.rules.length) (hl : t.rules.length ≤ 100000) (hm : c.most ≤ 12) :
    Calls Try.prog 108 #[.pointer (some ⟨b, 0, none⟩)] w fun e w' => e = .returned (.int .i64 (widP (freeN t c) c.most : Int)) ∧ Kept [] w w' := by
  have hf : Hid (Calls _ _ _ _ _) := cfree_any h hg hl
  have hF : freeN t c ≤ 1000000 := by unfold freeN; omega
  have hw : Hid (∀ w, Calls _ _ _ w _) := fun w => widthOf_any (freeN t c) c.most hF hm w
  have hH : Hid (CM _ _ _ _ _ _ _) := h
  clear h
  generalize freeN t c = F at *
  go_enter Try.func108, Try.ntmps108
  go_wp2_with fail
  refine hf.out.mono ?_
  rintro e w1 ⟨rfl, k1⟩
  have c2 : w1.cell? ⟨b, 2, none⟩ = some (.int .i64 (c.most : Int)) := (hH.out.keptW k1).all.cell 2
  have k1 : Hid (Kept _ _ _) := k1
  go_wp2_with fail
  refine (hw.out _).mono ?_
  rintro e w2 ⟨rfl, rfl⟩
  clear hf hw hH
  go_wp2
  go_ret
  exact ⟨rfl, k1.out⟩

set_option maxHeartbeats 1000000 in
set_option maxRecDepth 100000 in
theorem csymbol_any {w : World} {b Bd : Nat} {c : CD} {t : TT} {rv sv : Value} (h : CM w b c Bd t rv sv) (code : Nat) (hc : code ≤ 100000) (hg : c.gone ≤ 100000) :
    Calls Try.prog 144 #[.pointer (some ⟨b, 0, none⟩), .int .i64 (code : Int)] w fun e w' => e = .returned (.int .i64 (symC c.gone code : Int)) ∧ w' = w := by
  have c11 : w.cell? ⟨b, 11, none⟩ = some (.int .i64 (c.gone : Int)) := h.all.cell 11
  clear h
  unfold symC
  by_cases hlt : (code : Int) < 256
  · rw [if_pos (by omega)]
    go_enter Try.func144, Try.ntmps144
    go_wp2
    go_ret
    exact ⟨rfl, rfl⟩
  · rw [if_neg (by omega)]
    have e : Hid (((c.gone + code - 1 : Nat) : Int) = 256 + (c.gone : Int) + (code : Int) - 257) := by show _ = _; omega
    go_enter Try.func144, Try.ntmps144
    go_wp2
    go_ret
    exact ⟨ret_int (by rw [e.out]), rfl⟩

theorem field_first (p1 p2 p3 p4 : Value) (w : World) : (Instr.field 79 (.agg #[p1, p2, p3, p4]) 2).run Try.prog w = .ok p3 w := by kernel_rfl

def firstC (t : TT) (gone a code F : Nat) : Nat := (partAt t.rules (if code = F then a else symC gone code)).first

set_option maxHeartbeats 1000000 in
set_option maxRecDepth 100000 in
theorem cfirst_any {w : World} {b Bd : Nat} {c : CD} {t : TT} {rv sv : Value} (h : CM w b c Bd t rv sv) (a code F : Nat) (ha : c.ahead = some a) (ha2 : a ≤ 90000) (hc : code ≤ 5000) (hg : c.gone ≤ 50000) (hl : t.rules.length ≤ 100000) :
    Calls Try.prog 143 #[.pointer (some ⟨b, 0, none⟩), .int .i64 (code : Int), .int .i64 (F : Int)] w fun e w' => e = .returned (.int .i64 (firstC t c.gone a code F : Int)) ∧ Kept [] w w' := by
  have c12 : w.cell? ⟨b, 12, none⟩ = some (.int .i64 (a : Int)) := by have := h.all.cell 12; rw [ha] at this; exact this
  have hbw : b < w.heap.size := h.all.lt
  have hsy : Hid (Calls _ _ _ _ _) := csymbol_any h code (by omega) (by omega)
  have hsl : symC c.gone code ≤ 100000 := by unfold symC; split <;> omega
  unfold firstC
  have hp : Hid (∀ s, s ≤ 100000 → Calls _ _ _ _ _) := fun s hs => part_any h (o := 3) rfl s hs hl
  have hff := field_first
  clear h ha
  by_cases hcf : code = F
  · rw [if_pos hcf]
    subst hcf
    have hp2 : Hid (Calls _ _ _ _ _) := hp.out a (by omega)
    clear hp hsy
    generalize partAt t.rules a = x at *
    obtain ⟨x1, x2, x3, x4⟩ := x
    unfold PT.val PT.arr at hp2
    simp only [] at hp2 ⊢
    go_enter Try.func143, Try.ntmps143
    go_wp2_with fail
    refine hp2.out.mono ?_
    rintro e w1 ⟨rfl, k1⟩
    have k1 : Hid (Kept _ _ _) := k1
    clear hp2
    go_wp2
    go_ret
    exact ⟨rfl, k1.out⟩
  · rw [if_neg hcf]
    have hne : ((code : Int) != (F : Int)) = true := by simp; omega
    have hp2 : Hid (Calls _ _ _ _ _) := hp.out (symC c.gone code) (by omega)
    clear hp hcf
    generalize symC c.gone code = S at *
    generalize partAt t.rules S = x at *
    obtain ⟨x1, x2, x3, x4⟩ := x
    unfold PT.val PT.arr at hp2
    simp only [] at hp2 ⊢
    go_enter Try.func143, Try.ntmps143
    go_wp2_with fail
    refine hsy.out.mono ?_
    rintro e w1 ⟨rfl, rfl⟩
    go_wp2_with fail
    refine hp2.out.mono ?_
    rintro e w1 ⟨rfl, k1⟩
    have k1 : Hid (Kept _ _ _) := k1
    clear hp2 hsy
    go_wp2
    go_ret
    exact ⟨rfl, k1.out⟩

end Go.Proofs.Ytgifhgnccmnbiaa
