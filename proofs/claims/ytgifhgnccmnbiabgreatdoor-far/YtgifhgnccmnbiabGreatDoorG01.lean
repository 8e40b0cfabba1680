/- The ground of the walks: a block in memory as a whole, what a call keeps of the world, and how a block reads cell by cell. -/
import Derived.Test.YtgifhgnccmnbiabGreatDoorRows
import Derived.WalkKit
import Derived.WalkSpells
import Derived.WalkLawsBesides
import Derived.BigQuiet
import Derived.Deep.QuietTactic
import Derived.Deep.RegionWith
import Derived.Deep.RegionLaw
set_option linter.unusedVariables false
set_option linter.unusedSimpArgs false
namespace Go.Proofs.YtgifhgnccmnbiabGreatDoor
open Go.RowKit

/-- All blocks but those of S stay as they were; none goes. -/
structure Kept (S : List Nat) (w w' : World) : Prop where
  os : w'.os = w.os
  tape : w'.tape = w.tape
  output : w'.output = w.output
  size : w.heap.size ≤ w'.heap.size
  block : ∀ k, k < w.heap.size → ¬ k ∈ S → w'.heap[k]? = w.heap[k]?

theorem Kept.refl (S : List Nat) (w : World) : Kept S w w := ⟨rfl, rfl, rfl, Nat.le_refl _, fun _ _ _ => rfl⟩

theorem Kept.trans {S : List Nat} {a b c : World} (h : Kept S a b) (k : Kept S b c) : Kept S a c :=
  ⟨k.os.trans h.os, k.tape.trans h.tape, k.output.trans h.output, Nat.le_trans h.size k.size, fun i hi hs => (k.block i (Nat.lt_of_lt_of_le hi h.size) hs).trans (h.block i hi hs)⟩

theorem Kept.drew {S : List Nat} {a w : World} (h : Kept S a w) : Kept S a w.drew := ⟨h.os, h.tape, h.output, h.size, h.block⟩
theorem Kept.drewN {S : List Nat} {a w : World} (h : Kept S a w) (n : Nat) : Kept S a (w.drewN n) := ⟨h.os, h.tape, h.output, h.size, h.block⟩

theorem Kept.alloc {S : List Nat} {a w : World} (h : Kept S a w) (o : Obj) : Kept S a (w.alloc o) :=
  h.trans ⟨rfl, rfl, rfl, by simp, fun k hk _ => Below.heap_alloc _ _ _ hk⟩

theorem Kept.setCell {S : List Nat} {a w : World} (h : Kept S a w) {p : Addr} (hp : p.block ∈ S ∨ a.heap.size ≤ p.block) (u : Value) : Kept S a (w.setCell p u) :=
  ⟨h.os, h.tape, h.output, by simpa [World.setCell] using h.size, fun k hk hs => by
    rw [Below.heap_setCell _ _ _ _ (by rintro rfl; rcases hp with hp | hp; exact hs hp; omega)]; exact h.block k hk hs⟩

theorem Kept.mono {S S' : List Nat} {w w' : World} (h : Kept S w w') (hs : ∀ k, k ∈ S → k ∈ S') : Kept S' w w' :=
  ⟨h.os, h.tape, h.output, h.size, fun k hk hk' => h.block k hk (fun e => hk' (hs k e))⟩

theorem Kept.below {S : List Nat} {w w' : World} {B : Nat} (h : Kept S w w') (hB : B ≤ w.heap.size) (hs : ∀ k, k ∈ S → B ≤ k) : Below B w w' :=
  ⟨h.os, h.tape, h.output, h.size, fun k hk => h.block k (by omega) (fun e => by have := hs k e; omega)⟩

/-- A whole block: its cells. -/
def Blk (w : World) (b : Nat) (cs : Array Value) (e : TypeId) : Prop := w.heap[b]? = some (.cells cs e (0, 0))

theorem Blk.lt {w : World} {b : Nat} {cs : Array Value} {e : TypeId} (h : Blk w b cs e) : b < w.heap.size := (Array.getElem?_eq_some_iff.1 h).1
theorem Blk.cell {w : World} {b : Nat} {cs : Array Value} {e : TypeId} (h : Blk w b cs e) (j : Nat) : w.cell? ⟨b, j, none⟩ = cs[j]? := by
  unfold Blk at h; simp [World.cell?, h]
theorem Blk.frozen {w : World} {b : Nat} {cs : Array Value} {e : TypeId} (h : Blk w b cs e) (j : Nat) : w.frozen? ⟨b, j, none⟩ = false := by
  unfold Blk at h; simp [World.frozen?, h]
theorem Blk.kept {S : List Nat} {w w' : World} {b : Nat} {cs : Array Value} {e : TypeId} (h : Blk w b cs e) (k : Kept S w w') (hb : ¬ b ∈ S) : Blk w' b cs e :=
  (k.block b h.lt hb).trans h
theorem Blk.drew {w : World} {b : Nat} {cs : Array Value} {e : TypeId} (h : Blk w b cs e) : Blk w.drew b cs e := h
theorem Blk.alloc {w : World} {b : Nat} {cs : Array Value} {e : TypeId} (h : Blk w b cs e) (o : Obj) : Blk (w.alloc o) b cs e :=
  (Below.heap_alloc _ _ _ h.lt).trans h
theorem Blk.new (w : World) (cs : Array Value) (e : TypeId) : Blk (w.alloc (.cells cs e)) w.heap.size cs e := heap_alloc_new w _
theorem Blk.set {w : World} {b : Nat} {cs : Array Value} {e : TypeId} (h : Blk w b cs e) (j : Nat) (v : Value) : Blk (w.setCell ⟨b, j, none⟩ v) b (cs.setIfInBounds j v) e := by
  unfold Blk at *; simp [World.setCell, Array.getElem?_modify, h]
theorem Blk.other {w : World} {b b' : Nat} {cs : Array Value} {e : TypeId} (h : Blk w b cs e) (j : Nat) (v : Value) (hn : b ≠ b') : Blk (w.setCell ⟨b', j, none⟩ v) b cs e :=
  (Below.heap_setCell _ _ _ _ hn).trans h

theorem ret_int {k : IntKind} {a b : Int} (h : a = b) : Ending.returned (.int k a) = .returned (.int k b) := by rw [h]
theorem ret_bool {a b : Bool} (h : a = b) : Ending.returned (.bool a) = .returned (.bool b) := by rw [h]

end Go.Proofs.YtgifhgnccmnbiabGreatDoor

set_option linter.unusedVariables false
set_option linter.unusedSimpArgs false
namespace Go.Proofs.YtgifhgnccmnbiabGreatDoor

/-- The byte at a place, -1 behind the last one. -/
def pk (t : ByteArray) (p : Nat) : Int := if h : p < t.size then (t[p].toNat : Int) else -1

theorem pk_lt {t : ByteArray} {p : Nat} (h : p < t.size) : pk t p = (t[p].toNat : Int) := dif_pos h
theorem pk_ge {t : ByteArray} {p : Nat} (h : ¬ p < t.size) : pk t p = -1 := dif_neg h
theorem pk_bd (t : ByteArray) (p : Nat) : -1 ≤ pk t p ∧ pk t p ≤ 255 := by
  by_cases h : p < t.size
  · rw [pk_lt h]; have := t[p].toNat_lt; omega
  · rw [pk_ge h]; omega
theorem pk_none {t : ByteArray} {p : Nat} : pk t p = -1 ↔ ¬ p < t.size := by
  constructor
  · intro h hl; rw [pk_lt hl] at h; omega
  · exact pk_ge
theorem pk_some {t : ByteArray} {p : Nat} (h : 0 ≤ pk t p) : p < t.size := by
  by_cases hl : p < t.size
  · exact hl
  · rw [pk_ge hl] at h; omega

abbrev RS := Nat × Bool
def failS (t : ByteArray) : RS := (t.size, true)
def nextS (t : ByteArray) (s : RS) : Int × RS := if pk t s.1 = -1 then (0, failS t) else (pk t s.1, (s.1 + 1, s.2))
def takeS (t : ByteArray) (c : Int) (s : RS) : Bool × RS := if pk t s.1 = c then (true, (s.1 + 1, s.2)) else (false, s)
def endS (t : ByteArray) (s : RS) : Bool := pk t s.1 == -1 || pk t s.1 == 124 || pk t s.1 == 41
def repS (t : ByteArray) (s : RS) : Bool := pk t s.1 == 42 || pk t s.1 == 43 || pk t s.1 == 63 || pk t s.1 == 123
def itemQ (t : ByteArray) (s : RS) : Bool := pk t s.1 != -1 && pk t s.1 != 93
def secS (t : ByteArray) (s : RS) : Bool := pk t s.1 == 45 && pk t (s.1 + 1) != -1 && pk t (s.1 + 1) != 93
def memS (t : ByteArray) (s : RS) : Int × RS := if (nextS t s).1 = 92 then nextS t (nextS t s).2 else nextS t s
def highS (t : ByteArray) (s : RS) : Int × RS :=
  if secS t (memS t s).2 = true then memS t ((memS t s).2.1 + 1, (memS t s).2.2) else memS t s
def itemS (t : ByteArray) (s : RS) : (Int × Int) × RS :=
  (((memS t s).1, (highS t s).1), if (highS t s).1 < (memS t s).1 then failS t else (highS t s).2)
def digS (t : ByteArray) (s : RS) : Int × RS :=
  if (nextS t s).1 < 48 ∨ 57 < (nextS t s).1 then (0, failS t) else ((nextS t s).1 - 48, (nextS t s).2)
def upS (t : ByteArray) (s : RS) : Int × RS := if pk t s.1 = 125 then (-1, s) else digS t s
def mostS (t : ByteArray) (s : RS) : Int × RS :=
  if (takeS t 44 (digS t s).2).1 = true then upS t (takeS t 44 (digS t s).2).2 else ((digS t s).1, (takeS t 44 (digS t s).2).2)
def bracesS (t : ByteArray) (s : RS) : (Int × Int) × RS :=
  if (takeS t 125 (mostS t s).2).1 = false ∨ ((mostS t s).1 ≠ -1 ∧ (mostS t s).1 < (digS t s).1) then ((0, 0), failS t)
  else (((digS t s).1, (mostS t s).1), (takeS t 125 (mostS t s).2).2)
def repeatS (t : ByteArray) (s : RS) : (Int × Int) × RS :=
  if (nextS t s).1 = 42 then ((0, -1), (nextS t s).2)
  else if (nextS t s).1 = 43 then ((1, -1), (nextS t s).2)
  else if (nextS t s).1 = 63 then ((0, 1), (nextS t s).2)
  else bracesS t (nextS t s).2

/-- The place stays within the text. -/
def Fits (t : ByteArray) (s : RS) : Prop := s.1 ≤ t.size
theorem fits_fail (t : ByteArray) : Fits t (failS t) := Nat.le_refl _
theorem fits_next {t : ByteArray} {s : RS} (_h : Fits t s) : Fits t (nextS t s).2 := by
  unfold nextS; split
  · exact fits_fail t
  · rename_i hn; rw [pk_none] at hn; simp only [Fits]; omega
theorem fits_take {t : ByteArray} {s : RS} {c : Int} (hc : 0 ≤ c) (h : Fits t s) : Fits t (takeS t c s).2 := by
  unfold takeS; split
  · rename_i hn; have := pk_some (t := t) (p := s.1) (by omega); simp only [Fits]; omega
  · exact h
theorem fits_mem {t : ByteArray} {s : RS} (h : Fits t s) : Fits t (memS t s).2 := by
  unfold memS; split
  · exact fits_next (fits_next h)
  · exact fits_next h
theorem fits_sec {t : ByteArray} {s : RS} (h : secS t s = true) : s.1 < t.size := by
  simp only [secS, Bool.and_eq_true, beq_iff_eq] at h
  exact pk_some (by omega)
theorem fits_high {t : ByteArray} {s : RS} (h : Fits t s) : Fits t (highS t s).2 := by
  unfold highS; split
  · rename_i hs; exact fits_mem (fits_sec hs)
  · exact fits_mem h
theorem fits_item {t : ByteArray} {s : RS} (h : Fits t s) : Fits t (itemS t s).2 := by
  unfold itemS; simp only []; split
  · exact fits_fail t
  · exact fits_high h
theorem fits_dig {t : ByteArray} {s : RS} (h : Fits t s) : Fits t (digS t s).2 := by
  unfold digS; split
  · exact fits_fail t
  · exact fits_next h
theorem fits_up {t : ByteArray} {s : RS} (h : Fits t s) : Fits t (upS t s).2 := by
  unfold upS; split
  · exact h
  · exact fits_dig h
theorem fits_most {t : ByteArray} {s : RS} (h : Fits t s) : Fits t (mostS t s).2 := by
  unfold mostS; split
  · exact fits_up (fits_take (by omega) (fits_dig h))
  · exact fits_take (by omega) (fits_dig h)
theorem fits_braces {t : ByteArray} {s : RS} (h : Fits t s) : Fits t (bracesS t s).2 := by
  unfold bracesS; split
  · exact fits_fail t
  · exact fits_take (by omega) (fits_most h)
theorem fits_repeat {t : ByteArray} {s : RS} (h : Fits t s) : Fits t (repeatS t s).2 := by
  unfold repeatS
  repeat' split
  all_goals first | exact fits_next h | exact fits_braces (fits_next h)

theorem next_bd (t : ByteArray) (s : RS) : 0 ≤ (nextS t s).1 ∧ (nextS t s).1 ≤ 255 := by
  have := pk_bd t s.1
  unfold nextS; split <;> simp only [] <;> omega
theorem dig_bd (t : ByteArray) (s : RS) : 0 ≤ (digS t s).1 ∧ (digS t s).1 ≤ 9 := by
  unfold digS; split
  · simp
  · rename_i h; simp only []; omega
theorem up_bd (t : ByteArray) (s : RS) : -1 ≤ (upS t s).1 ∧ (upS t s).1 ≤ 9 := by
  have := dig_bd t s
  unfold upS; split
  · simp
  · omega
theorem most_bd (t : ByteArray) (s : RS) : -1 ≤ (mostS t s).1 ∧ (mostS t s).1 ≤ 9 := by
  have h1 := dig_bd t s
  unfold mostS; split
  · exact up_bd _ _
  · simp only []; omega
theorem repeat_bd (t : ByteArray) (s : RS) : 0 ≤ (repeatS t s).1.1 ∧ (repeatS t s).1.1 ≤ 9 ∧ -1 ≤ (repeatS t s).1.2 ∧ (repeatS t s).1.2 ≤ 9 := by
  have h1 := dig_bd t (nextS t s).2
  have h2 := most_bd t (nextS t s).2
  unfold repeatS
  repeat' split
  all_goals try simp
  unfold bracesS
  split
  · simp
  · simp only []; omega

end Go.Proofs.YtgifhgnccmnbiabGreatDoor

set_option linter.unusedVariables false
set_option linter.unusedSimpArgs false
namespace Go.Proofs.YtgifhgnccmnbiabGreatDoor
open Go.RowKit Go.IntWalk

/-- The reader behind a pointer: its text, its place and mark, its nodes. -/
structure RD (w : World) (b : Nat) (t : ByteArray) (s : RS) (v : Value) : Prop where
  blk : Blk w b #[.string t, .int .i64 (s.1 : Int), v, .bool s.2] 214
  fits : Fits t s
  small : t.size ≤ 40

section
variable {w w' : World} {b p : Nat} {t : ByteArray} {s : RS} {v : Value} {bad : Bool}
theorem RD.c0 (h : RD w b t s v) : w.cell? ⟨b, 0, none⟩ = some (.string t) := by rw [Blk.cell h.blk]; rfl
theorem RD.c1 (h : RD w b t s v) : w.cell? ⟨b, 1, none⟩ = some (.int .i64 (s.1 : Int)) := by rw [Blk.cell h.blk]; rfl
theorem RD.c2 (h : RD w b t s v) : w.cell? ⟨b, 2, none⟩ = some v := by rw [Blk.cell h.blk]; rfl
theorem RD.c3 (h : RD w b t s v) : w.cell? ⟨b, 3, none⟩ = some (.bool s.2) := by rw [Blk.cell h.blk]; rfl
theorem RD.f (h : RD w b t s v) (j : Nat) : w.frozen? ⟨b, j, none⟩ = false := Blk.frozen h.blk j
theorem RD.upto (h : RD w b t s v) (p : Nat) (hp : p ≤ t.size) : RD (w.setCell ⟨b, 1, none⟩ (.int .i64 (p : Int))) b t (p, s.2) v := ⟨Blk.set h.blk 1 _, hp, h.small⟩
theorem RD.mark (h : RD w b t s v) : RD (w.setCell ⟨b, 3, none⟩ (.bool true)) b t (s.1, true) v := ⟨Blk.set h.blk 3 _, h.fits, h.small⟩
theorem RD.kept {S : List Nat} (h : RD w b t s v) (k : Kept S w w') (hb : ¬ b ∈ S) : RD w' b t s v := ⟨Blk.kept h.blk k hb, h.fits, h.small⟩
end

set_option maxHeartbeats 400000 in
theorem peek_any (b k : Nat) (t : ByteArray) (s : RS) (v : Value) (w : World) (h : RD w b t s v) (hk : k ≤ 1) :
    Calls Tryz.prog 198 #[.pointer (some ⟨b, 0, none⟩), .int .i64 (k : Int)] w fun e w' => e = .returned (.int .i64 (pk t (s.1 + k))) ∧ w' = w := by
  have h0 := h.c0
  have h1 := h.c1
  have hp := h.fits
  have hs := h.small
  obtain ⟨p, bad⟩ := s
  simp only [Fits] at hp
  clear h
  by_cases hlt : p + k < t.size
  · go_enter Tryz.func198, Tryz.ntmps198
    go_wp2
    go_ret
    exact ⟨ret_int (by rw [pk_lt hlt]; have := t[p + k].toNat_lt; exact wrap64_in _ (by omega)), rfl⟩
  · go_enter Tryz.func198, Tryz.ntmps198
    go_wp2
    go_ret
    exact ⟨ret_int (by rw [pk_ge hlt]), rfl⟩

theorem peek0 (b : Nat) (t : ByteArray) (s : RS) (v : Value) (w : World) (h : RD w b t s v) :
    Calls Tryz.prog 198 #[.pointer (some ⟨b, 0, none⟩), .int .i64 0] w fun e w' => e = .returned (.int .i64 (pk t s.1)) ∧ w' = w := peek_any b 0 t s v w h (by omega)
theorem peek1 (b : Nat) (t : ByteArray) (s : RS) (v : Value) (w : World) (h : RD w b t s v) :
    Calls Tryz.prog 198 #[.pointer (some ⟨b, 0, none⟩), .int .i64 1] w fun e w' => e = .returned (.int .i64 (pk t (s.1 + 1))) ∧ w' = w := peek_any b 1 t s v w h (by omega)

set_option maxHeartbeats 400000 in
theorem fail_any (b : Nat) (t : ByteArray) (s : RS) (v : Value) (w : World) (h : RD w b t s v) :
    Calls Tryz.prog 137 #[.pointer (some ⟨b, 0, none⟩)] w fun e w' => e = .returned (.tuple #[]) ∧ RD w' b t (failS t) v ∧ Kept [b] w w' := by
  have h0 := h.c0
  have h1 := h.c1
  have h3 := h.c3
  have f1 := h.f 1
  have f3 := h.f 3
  have hs := h.small
  go_enter Tryz.func137, Tryz.ntmps137
  go_wp2
  go_end0
  exact ⟨rfl, h.mark.upto _ (Nat.le_refl _), ((Kept.refl _ _).setCell (by simp) _).setCell (by simp) _⟩

set_option maxHeartbeats 400000 in
theorem next_any (b : Nat) (t : ByteArray) (s : RS) (v : Value) (w : World) (h : RD w b t s v) :
    Calls Tryz.prog 211 #[.pointer (some ⟨b, 0, none⟩)] w fun e w' => e = .returned (.int .i64 (nextS t s).1) ∧ RD w' b t (nextS t s).2 v ∧ Kept [b] w w' := by
  have h1 := h.c1
  have f1 := h.f 1
  have hp := h.fits
  have hs := h.small
  simp only [Fits] at hp
  by_cases hn : pk t s.1 = -1
  · have hb : (pk t s.1 == -1) = true := by rw [hn]; rfl
    have e : nextS t s = (0, failS t) := if_pos hn
    rw [e]
    clear hn e
    go_enter Tryz.func211, Tryz.ntmps211
    go_wp2_with (first | (go_at_call 198; refine (peek0 b t s v _ h).mono ?_; rintro e w' ⟨rfl, rfl⟩) | (go_at_call 137; refine (fail_any b t s v _ h).mono ?_; rintro e w' ⟨rfl, h', k'⟩))
    go_ret
    exact ⟨rfl, h', k'⟩
  · have hb : (pk t s.1 == -1) = false := by simpa using hn
    have e : nextS t s = (pk t s.1, (s.1 + 1, s.2)) := if_neg hn
    have hl : s.1 < t.size := by rw [pk_none] at hn; omega
    rw [e]
    clear hn e
    go_enter Tryz.func211, Tryz.ntmps211
    go_wp2_with (first | (go_at_call 198; refine (peek0 b t s v _ h).mono ?_; rintro e w' ⟨rfl, rfl⟩))
    go_ret
    exact ⟨rfl, h.upto (s.1 + 1) (by omega), (Kept.refl _ _).setCell (by simp) _⟩

set_option maxHeartbeats 400000 in
theorem take_any (b : Nat) (c : Int) (t : ByteArray) (s : RS) (v : Value) (w : World) (h : RD w b t s v) (hc : 0 ≤ c) (hc' : c ≤ 255) :
    Calls Tryz.prog 169 #[.pointer (some ⟨b, 0, none⟩), .int .i64 c] w fun e w' => e = .returned (.bool (takeS t c s).1) ∧ RD w' b t (takeS t c s).2 v ∧ Kept [b] w w' := by
  have h1 := h.c1
  have f1 := h.f 1
  have hp := h.fits
  have hs := h.small
  simp only [Fits] at hp
  by_cases hn : pk t s.1 = c
  · have hb : (pk t s.1 != c) = false := by rw [hn]; simp
    have e : takeS t c s = (true, (s.1 + 1, s.2)) := if_pos hn
    have hl : s.1 < t.size := pk_some (by omega)
    rw [e]
    clear hn e
    go_enter Tryz.func169, Tryz.ntmps169
    go_wp2_with (first | (go_at_call 198; refine (peek0 b t s v _ h).mono ?_; rintro e w' ⟨rfl, rfl⟩))
    go_ret
    exact ⟨rfl, h.upto (s.1 + 1) (by omega), (Kept.refl _ _).setCell (by simp) _⟩
  · have hb : (pk t s.1 != c) = true := by simpa using hn
    have e : takeS t c s = (false, s) := if_neg hn
    rw [e]
    clear hn e
    go_enter Tryz.func169, Tryz.ntmps169
    go_wp2_with (first | (go_at_call 198; refine (peek0 b t s v _ h).mono ?_; rintro e w' ⟨rfl, rfl⟩))
    go_ret
    exact ⟨rfl, h, Kept.refl _ _⟩

end Go.Proofs.YtgifhgnccmnbiabGreatDoor

set_option linter.unusedVariables false
set_option linter.unusedSimpArgs false
namespace Go.Proofs.YtgifhgnccmnbiabGreatDoor
open Go.RowKit Go.IntWalk

set_option maxHeartbeats 400000 in
theorem atEnd_any (b : Nat) (t : ByteArray) (s : RS) (v : Value) (w : World) (h : RD w b t s v) :
    Calls Tryz.prog 195 #[.pointer (some ⟨b, 0, none⟩)] w fun e w' => e = .returned (.bool (endS t s)) ∧ w' = w := by
  go_enter Tryz.func195, Tryz.ntmps195
  go_wp2_with (first | (go_at_call 198; refine (peek0 b t s v _ h).mono ?_; rintro e w' ⟨rfl, rfl⟩))
  all_goals go_ret
  all_goals exact ⟨ret_bool (by simp [endS, *]), rfl⟩

set_option maxHeartbeats 400000 in
theorem atRep_any (b : Nat) (t : ByteArray) (s : RS) (v : Value) (w : World) (h : RD w b t s v) :
    Calls Tryz.prog 206 #[.pointer (some ⟨b, 0, none⟩)] w fun e w' => e = .returned (.bool (repS t s)) ∧ w' = w := by
  go_enter Tryz.func206, Tryz.ntmps206
  go_wp2_with (first | (go_at_call 198; refine (peek0 b t s v _ h).mono ?_; rintro e w' ⟨rfl, rfl⟩))
  all_goals go_ret
  all_goals exact ⟨ret_bool (by simp [repS, *]), rfl⟩

set_option maxHeartbeats 400000 in
theorem atItem_any (b : Nat) (t : ByteArray) (s : RS) (v : Value) (w : World) (h : RD w b t s v) :
    Calls Tryz.prog 216 #[.pointer (some ⟨b, 0, none⟩)] w fun e w' => e = .returned (.bool (itemQ t s)) ∧ w' = w := by
  go_enter Tryz.func216, Tryz.ntmps216
  go_wp2_with (first | (go_at_call 198; refine (peek0 b t s v _ h).mono ?_; rintro e w' ⟨rfl, rfl⟩))
  all_goals go_ret
  all_goals exact ⟨ret_bool (by simp [itemQ, *]), rfl⟩

set_option maxHeartbeats 400000 in
theorem atSec_any (b : Nat) (t : ByteArray) (s : RS) (v : Value) (w : World) (h : RD w b t s v) :
    Calls Tryz.prog 221 #[.pointer (some ⟨b, 0, none⟩)] w fun e w' => e = .returned (.bool (secS t s)) ∧ w' = w := by
  go_enter Tryz.func221, Tryz.ntmps221
  go_wp2_with fail
  refine (peek0 b t s v _ h).mono ?_
  rintro e w' ⟨rfl, rfl⟩
  go_wp2_with fail
  refine (peek1 b t s v _ h).mono ?_
  rintro e w' ⟨rfl, rfl⟩
  go_wp2
  all_goals go_ret
  all_goals exact ⟨ret_bool (by simp [secS, *]), rfl⟩

set_option maxHeartbeats 400000 in
theorem member_any (b : Nat) (t : ByteArray) (s : RS) (v : Value) (w : World) (h : RD w b t s v) :
    Calls Tryz.prog 220 #[.pointer (some ⟨b, 0, none⟩)] w fun e w' => e = .returned (.int .i64 (memS t s).1) ∧ RD w' b t (memS t s).2 v ∧ Kept [b] w w' := by
  by_cases hn : (nextS t s).1 = 92
  · have hb : ((nextS t s).1 == 92) = true := by rw [hn]; rfl
    have e : memS t s = nextS t (nextS t s).2 := if_pos hn
    rw [e]
    clear hn e
    go_enter Tryz.func220, Tryz.ntmps220
    go_wp2_with fail
    refine (next_any b t s v _ h).mono ?_
    rintro e w1 ⟨rfl, h1, k1⟩
    go_wp2_with fail
    refine (next_any b t _ v _ h1).mono ?_
    rintro e w2 ⟨rfl, h2, k2⟩
    go_wp2
    go_ret
    exact ⟨rfl, h2, k1.trans k2⟩
  · have hb : ((nextS t s).1 == 92) = false := by simpa using hn
    have e : memS t s = nextS t s := if_neg hn
    rw [e]
    clear hn e
    go_enter Tryz.func220, Tryz.ntmps220
    go_wp2_with fail
    refine (next_any b t s v _ h).mono ?_
    rintro e w1 ⟨rfl, h1, k1⟩
    go_wp2
    go_ret
    exact ⟨rfl, h1, k1⟩

set_option maxHeartbeats 400000 in
theorem digit_any (b : Nat) (t : ByteArray) (s : RS) (v : Value) (w : World) (h : RD w b t s v) :
    Calls Tryz.prog 218 #[.pointer (some ⟨b, 0, none⟩)] w fun e w' => e = .returned (.int .i64 (digS t s).1) ∧ RD w' b t (digS t s).2 v ∧ Kept [b] w w' := by
  have hbd := next_bd t s
  by_cases hn : (nextS t s).1 < 48
  · have e : digS t s = (0, failS t) := if_pos (Or.inl hn)
    rw [e]
    clear e
    go_enter Tryz.func218, Tryz.ntmps218
    go_wp2_with fail
    refine (next_any b t s v _ h).mono ?_
    rintro e w1 ⟨rfl, h1, k1⟩
    go_wp2_with fail
    refine (fail_any b t _ v _ h1).mono ?_
    rintro e w2 ⟨rfl, h2, k2⟩
    go_wp2
    go_ret
    exact ⟨rfl, h2, k1.trans k2⟩
  by_cases hm : 57 < (nextS t s).1
  · have e : digS t s = (0, failS t) := if_pos (Or.inr hm)
    rw [e]
    clear e
    go_enter Tryz.func218, Tryz.ntmps218
    go_wp2_with fail
    refine (next_any b t s v _ h).mono ?_
    rintro e w1 ⟨rfl, h1, k1⟩
    go_wp2_with fail
    refine (fail_any b t _ v _ h1).mono ?_
    rintro e w2 ⟨rfl, h2, k2⟩
    go_wp2
    go_ret
    exact ⟨rfl, h2, k1.trans k2⟩
  · have e : digS t s = ((nextS t s).1 - 48, (nextS t s).2) := if_neg (by omega)
    rw [e]
    clear e
    go_enter Tryz.func218, Tryz.ntmps218
    go_wp2_with fail
    refine (next_any b t s v _ h).mono ?_
    rintro e w1 ⟨rfl, h1, k1⟩
    go_wp2
    go_ret
    exact ⟨rfl, h1, k1⟩

set_option maxHeartbeats 400000 in
theorem upper_any (b : Nat) (t : ByteArray) (s : RS) (v : Value) (w : World) (h : RD w b t s v) :
    Calls Tryz.prog 219 #[.pointer (some ⟨b, 0, none⟩)] w fun e w' => e = .returned (.int .i64 (upS t s).1) ∧ RD w' b t (upS t s).2 v ∧ Kept [b] w w' := by
  by_cases hn : pk t s.1 = 125
  · have hb : (pk t s.1 == 125) = true := by rw [hn]; rfl
    have e : upS t s = (-1, s) := if_pos hn
    rw [e]
    clear hn e
    go_enter Tryz.func219, Tryz.ntmps219
    go_wp2_with fail
    refine (peek0 b t s v _ h).mono ?_
    rintro e w1 ⟨rfl, rfl⟩
    go_wp2
    go_ret
    exact ⟨rfl, h, Kept.refl _ _⟩
  · have hb : (pk t s.1 == 125) = false := by simpa using hn
    have e : upS t s = digS t s := if_neg hn
    rw [e]
    clear hn e
    go_enter Tryz.func219, Tryz.ntmps219
    go_wp2_with fail
    refine (peek0 b t s v _ h).mono ?_
    rintro e w1 ⟨rfl, rfl⟩
    go_wp2_with fail
    refine (digit_any b t s v _ h).mono ?_
    rintro e w1 ⟨rfl, h1, k1⟩
    go_wp2
    go_ret
    exact ⟨rfl, h1, k1⟩

end Go.Proofs.YtgifhgnccmnbiabGreatDoor

set_option linter.unusedVariables false
set_option linter.unusedSimpArgs false
namespace Go.Proofs.YtgifhgnccmnbiabGreatDoor
open Go.RowKit Go.IntWalk

set_option maxHeartbeats 1000000 in
theorem item_any (b : Nat) (t : ByteArray) (s : RS) (v : Value) (w : World) (h : RD w b t s v) :
    Calls Tryz.prog 217 #[.pointer (some ⟨b, 0, none⟩)] w fun e w' =>
      e = .returned (.agg #[.int .i64 (itemS t s).1.1, .int .i64 (itemS t s).1.2]) ∧ RD w' b t (itemS t s).2 v ∧ Kept [b] w w' := by
  have hbw : b < w.heap.size := h.blk.lt
  have hz : RD (w.alloc (.cells #[.int .i64 0, .int .i64 0] 270)) b t s v := h.kept (Kept.alloc (Kept.refl [] w) _) (by simp)
  have kz : Kept [b] w (w.alloc (.cells #[.int .i64 0, .int .i64 0] 270)) := Kept.alloc (Kept.refl _ w) _
  have bz : Blk (w.alloc (.cells #[.int .i64 0, .int .i64 0] 270)) w.heap.size #[.int .i64 0, .int .i64 0] 270 := Blk.new _ _ _
  clear h
  have fin : ∀ (x : World) (lo hi : Int) (s' : RS), RD x b t s' v → Kept [b] w x → Blk x w.heap.size #[.int .i64 0, .int .i64 0] 270 →
      ((x.setCell ⟨w.heap.size, 0, none⟩ (.int .i64 lo)).setCell ⟨w.heap.size, 1, none⟩ (.int .i64 hi)).cell? ⟨w.heap.size, 0, none⟩ = some (.int .i64 lo) ∧
      ((x.setCell ⟨w.heap.size, 0, none⟩ (.int .i64 lo)).setCell ⟨w.heap.size, 1, none⟩ (.int .i64 hi)).cell? ⟨w.heap.size, 1, none⟩ = some (.int .i64 hi) ∧
      RD ((x.setCell ⟨w.heap.size, 0, none⟩ (.int .i64 lo)).setCell ⟨w.heap.size, 1, none⟩ (.int .i64 hi)) b t s' v ∧
      Kept [b] w ((x.setCell ⟨w.heap.size, 0, none⟩ (.int .i64 lo)).setCell ⟨w.heap.size, 1, none⟩ (.int .i64 hi)) := by
    intro x lo hi s' hr hk hb
    have hb2 := (hb.set 0 (.int .i64 lo)).set 1 (.int .i64 hi)
    refine ⟨by rw [hb2.cell]; rfl, by rw [hb2.cell]; rfl, ⟨Blk.other (Blk.other hr.blk _ _ (by omega)) _ _ (by omega), hr.fits, hr.small⟩, (hk.setCell (Or.inr (Nat.le_refl _)) _).setCell (Or.inr (Nat.le_refl _)) _⟩
  by_cases hq : secS t (memS t s).2 = true
  · have e1 : highS t s = memS t ((memS t s).2.1 + 1, (memS t s).2.2) := if_pos hq
    have hl : (memS t s).2.1 < t.size := fits_sec hq
    by_cases hc : (highS t s).1 < (memS t s).1
    · have e2 : itemS t s = (((memS t s).1, (highS t s).1), failS t) := by unfold itemS; rw [if_pos hc]
      rw [e2]
      rw [e1] at hc ⊢
      clear e1 e2
      go_enter Tryz.func217, Tryz.ntmps217
      go_wp2_with fail
      refine (member_any b t s v _ hz).mono ?_
      rintro e w1 ⟨rfl, h1, k1⟩
      go_wp2_with fail
      refine (atSec_any b t _ v _ h1).mono ?_
      rintro e w1 ⟨rfl, rfl⟩
      have q1 := h1.c1
      have q2 := h1.f 1
      have hsm := h1.small
      go_wp2_with fail
      refine (member_any b t _ v _ (h1.upto _ hl)).mono ?_
      rintro e w2 ⟨rfl, h2, k2⟩
      go_wp2_with fail
      refine (fail_any b t _ v _ h2).mono ?_
      rintro e w3 ⟨rfl, h3, k3⟩
      have kk := (k1.trans (((Kept.refl _ _).setCell (by simp) _).trans k2)).trans k3
      have b3 := bz.kept kk (by simp; omega)
      have g0 := b3.frozen 0
      have g1 := b3.frozen 1
      have g2 := b3.cell 0
      have g3 := b3.cell 1
      obtain ⟨r0, r1, r2, r3⟩ := fin w3 (memS t s).1 _ _ h3 (kz.trans kk) b3
      go_wp2
      exact bodyPost_ret (v := .agg #[.int .i64 _, .int .i64 _]) (by simp [results, Tryz.results217, go_sem, r0, r1]) rfl ⟨rfl, r2, r3⟩
    · have e2 : itemS t s = (((memS t s).1, (highS t s).1), (highS t s).2) := by unfold itemS; rw [if_neg hc]
      rw [e2]
      rw [e1] at hc ⊢
      clear e1 e2
      go_enter Tryz.func217, Tryz.ntmps217
      go_wp2_with fail
      refine (member_any b t s v _ hz).mono ?_
      rintro e w1 ⟨rfl, h1, k1⟩
      go_wp2_with fail
      refine (atSec_any b t _ v _ h1).mono ?_
      rintro e w1 ⟨rfl, rfl⟩
      have q1 := h1.c1
      have q2 := h1.f 1
      have hsm := h1.small
      go_wp2_with fail
      refine (member_any b t _ v _ (h1.upto _ hl)).mono ?_
      rintro e w2 ⟨rfl, h2, k2⟩
      have kk := k1.trans (((Kept.refl _ _).setCell (by simp) _).trans k2)
      have b3 := bz.kept kk (by simp; omega)
      have g0 := b3.frozen 0
      have g1 := b3.frozen 1
      have g2 := b3.cell 0
      have g3 := b3.cell 1
      obtain ⟨r0, r1, r2, r3⟩ := fin w2 (memS t s).1 _ _ h2 (kz.trans kk) b3
      go_wp2
      exact bodyPost_ret (v := .agg #[.int .i64 _, .int .i64 _]) (by simp [results, Tryz.results217, go_sem, r0, r1]) rfl ⟨rfl, r2, r3⟩
  · have e1 : highS t s = memS t s := if_neg hq
    have e2 : itemS t s = (((memS t s).1, (memS t s).1), (memS t s).2) := by unfold itemS; rw [e1, if_neg (by omega)]
    have hf : secS t (memS t s).2 = false := by simpa using hq
    rw [e2]
    clear e1 e2 hq
    go_enter Tryz.func217, Tryz.ntmps217
    go_wp2_with fail
    refine (member_any b t s v _ hz).mono ?_
    rintro e w1 ⟨rfl, h1, k1⟩
    go_wp2_with fail
    refine (atSec_any b t _ v _ h1).mono ?_
    rintro e w1 ⟨rfl, rfl⟩
    have b3 := bz.kept k1 (by simp; omega)
    have g0 := b3.frozen 0
    have g1 := b3.frozen 1
    have g2 := b3.cell 0
    have g3 := b3.cell 1
    obtain ⟨r0, r1, r2, r3⟩ := fin w1 (memS t s).1 (memS t s).1 _ h1 (kz.trans k1) b3
    go_wp2
    exact bodyPost_ret (v := .agg #[.int .i64 _, .int .i64 _]) (by simp [results, Tryz.results217, go_sem, r0, r1]) rfl ⟨rfl, r2, r3⟩

set_option maxHeartbeats 400000 in
/-- The upper bound of a pair of braces. -/
theorem most_true {t : ByteArray} {s : RS} (h : (takeS t 44 (digS t s).2).1 = true) : mostS t s = upS t (takeS t 44 (digS t s).2).2 := if_pos h
theorem most_false {t : ByteArray} {s : RS} (h : (takeS t 44 (digS t s).2).1 = false) : mostS t s = ((digS t s).1, (takeS t 44 (digS t s).2).2) := if_neg (by rw [h]; decide)

theorem braces_bad {t : ByteArray} {s : RS} (h : (takeS t 125 (mostS t s).2).1 = false ∨ ((mostS t s).1 ≠ -1 ∧ (mostS t s).1 < (digS t s).1)) : bracesS t s = ((0, 0), failS t) := if_pos h
theorem braces_good {t : ByteArray} {s : RS} (h : ¬ ((takeS t 125 (mostS t s).2).1 = false ∨ ((mostS t s).1 ≠ -1 ∧ (mostS t s).1 < (digS t s).1))) :
    bracesS t s = (((digS t s).1, (mostS t s).1), (takeS t 125 (mostS t s).2).2) := if_neg h

set_option maxHeartbeats 1000000 in
theorem braces_any (b : Nat) (t : ByteArray) (s : RS) (v : Value) (w : World) (h : RD w b t s v) :
    Calls Tryz.prog 215 #[.pointer (some ⟨b, 0, none⟩)] w fun e w' =>
      e = .returned (.tuple #[.int .i64 (bracesS t s).1.1, .int .i64 (bracesS t s).1.2]) ∧ RD w' b t (bracesS t s).2 v ∧ Kept [b] w w' := by
  have bd1 := dig_bd t s
  have bd2 := most_bd t s
  have front : ∀ (x : Bool), (takeS t 44 (digS t s).2).1 = x → True := fun _ _ => trivial
  clear front
  by_cases hcl : (takeS t 125 (mostS t s).2).1 = false
  · have e2 := braces_bad (Or.inl hcl)
    rw [e2]
    clear e2
    go_enter Tryz.func215, Tryz.ntmps215
    go_wp2_with fail
    refine (digit_any b t s v _ h).mono ?_
    rintro e w1 ⟨rfl, h1, k1⟩
    go_wp2_with fail
    refine (take_any b 44 t _ v _ h1 (by omega) (by omega)).mono ?_
    rintro e w2 ⟨rfl, h2, k2⟩
    have k12 := k1.trans k2
    clear h1 k1 k2
    by_cases hm : (takeS t 44 (digS t s).2).1 = true
    · have e1 := most_true hm
      go_wp2_with fail
      refine (upper_any b t _ v _ h2).mono ?_
      rw [← e1]
      rintro e w3 ⟨rfl, h3, k3⟩
      have k13 := k12.trans k3
      clear h2 k12 k3 e1 hm
      go_wp2_with fail
      refine (take_any b 125 t _ v _ h3 (by omega) (by omega)).mono ?_
      rintro e w4 ⟨rfl, h4, k4⟩
      go_wp2_with fail
      refine (fail_any b t _ v _ h4).mono ?_
      rintro e w5 ⟨rfl, h5, k5⟩
      go_wp2
      go_ret2
      exact ⟨rfl, h5, (k13.trans k4).trans k5⟩
    · have e1 := most_false (by simpa using hm)
      have hm' : (takeS t 44 (digS t s).2).1 = false := by simpa using hm
      have e3 : (mostS t s).1 = (digS t s).1 := by rw [e1]
      rw [e1] at hcl
      go_wp2_with fail
      refine (take_any b 125 t _ v _ h2 (by omega) (by omega)).mono ?_
      rintro e w4 ⟨rfl, h4, k4⟩
      go_wp2_with fail
      refine (fail_any b t _ v _ h4).mono ?_
      rintro e w5 ⟨rfl, h5, k5⟩
      go_wp2
      go_ret2
      exact ⟨rfl, h5, (k12.trans k4).trans k5⟩
  have hcl : (takeS t 125 (mostS t s).2).1 = true := by simpa using hcl
  by_cases hm : (takeS t 44 (digS t s).2).1 = true
  · have e1 : Hid (_ = _) := most_true hm
    by_cases hn : (mostS t s).1 = -1
    · rw [braces_good (by rw [hcl]; simp [hn]), hn]
      go_enter Tryz.func215, Tryz.ntmps215
      go_wp2_with fail
      refine (digit_any b t s v _ h).mono ?_
      rintro e w1 ⟨rfl, h1, k1⟩
      go_wp2_with fail
      refine (take_any b 44 t _ v _ h1 (by omega) (by omega)).mono ?_
      rintro e w2 ⟨rfl, h2, k2⟩
      go_wp2_with fail
      refine (upper_any b t _ v _ h2).mono ?_
      rw [← e1.out]
      rintro e w3 ⟨rfl, h3, k3⟩
      go_wp2_with fail
      refine (take_any b 125 t _ v _ h3 (by omega) (by omega)).mono ?_
      rintro e w4 ⟨rfl, h4, k4⟩
      go_wp2
      go_ret2
      exact ⟨rfl, h4, ((k1.trans k2).trans k3).trans k4⟩
    by_cases hl : (mostS t s).1 < (digS t s).1
    · have hb : ((mostS t s).1 != -1) = true := by simpa using hn
      rw [braces_bad (Or.inr ⟨hn, hl⟩)]
      clear hn
      go_enter Tryz.func215, Tryz.ntmps215
      go_wp2_with fail
      refine (digit_any b t s v _ h).mono ?_
      rintro e w1 ⟨rfl, h1, k1⟩
      go_wp2_with fail
      refine (take_any b 44 t _ v _ h1 (by omega) (by omega)).mono ?_
      rintro e w2 ⟨rfl, h2, k2⟩
      go_wp2_with fail
      refine (upper_any b t _ v _ h2).mono ?_
      rw [← e1.out]
      rintro e w3 ⟨rfl, h3, k3⟩
      go_wp2_with fail
      refine (take_any b 125 t _ v _ h3 (by omega) (by omega)).mono ?_
      rintro e w4 ⟨rfl, h4, k4⟩
      go_wp2_with fail
      refine (fail_any b t _ v _ h4).mono ?_
      rintro e w5 ⟨rfl, h5, k5⟩
      go_wp2
      go_ret2
      exact ⟨rfl, h5, (((k1.trans k2).trans k3).trans k4).trans k5⟩
    · have hb : ((mostS t s).1 != -1) = true := by simpa using hn
      rw [braces_good (by rw [hcl]; simp; omega)]
      clear hn
      go_enter Tryz.func215, Tryz.ntmps215
      go_wp2_with fail
      refine (digit_any b t s v _ h).mono ?_
      rintro e w1 ⟨rfl, h1, k1⟩
      go_wp2_with fail
      refine (take_any b 44 t _ v _ h1 (by omega) (by omega)).mono ?_
      rintro e w2 ⟨rfl, h2, k2⟩
      go_wp2_with fail
      refine (upper_any b t _ v _ h2).mono ?_
      rw [← e1.out]
      rintro e w3 ⟨rfl, h3, k3⟩
      go_wp2_with fail
      refine (take_any b 125 t _ v _ h3 (by omega) (by omega)).mono ?_
      rintro e w4 ⟨rfl, h4, k4⟩
      go_wp2
      go_ret2
      exact ⟨rfl, h4, ((k1.trans k2).trans k3).trans k4⟩
  · have hm' : (takeS t 44 (digS t s).2).1 = false := by simpa using hm
    have e1 := most_false hm'
    have hb : ((digS t s).1 != -1) = true := by simp; omega
    rw [braces_good (by rw [hcl, e1]; simp), e1]
    rw [e1] at hcl
    clear e1 hm
    go_enter Tryz.func215, Tryz.ntmps215
    go_wp2_with fail
    refine (digit_any b t s v _ h).mono ?_
    rintro e w1 ⟨rfl, h1, k1⟩
    go_wp2_with fail
    refine (take_any b 44 t _ v _ h1 (by omega) (by omega)).mono ?_
    rintro e w2 ⟨rfl, h2, k2⟩
    go_wp2_with fail
    refine (take_any b 125 t _ v _ h2 (by omega) (by omega)).mono ?_
    rintro e w4 ⟨rfl, h4, k4⟩
    go_wp2
    go_ret2
    exact ⟨rfl, h4, (k1.trans k2).trans k4⟩

set_option maxHeartbeats 1000000 in
theorem repeat_any (b : Nat) (t : ByteArray) (s : RS) (v : Value) (w : World) (h : RD w b t s v) :
    Calls Tryz.prog 207 #[.pointer (some ⟨b, 0, none⟩)] w fun e w' =>
      e = .returned (.tuple #[.int .i64 (repeatS t s).1.1, .int .i64 (repeatS t s).1.2]) ∧ RD w' b t (repeatS t s).2 v ∧ Kept [b] w w' := by
  by_cases ha : (nextS t s).1 = 42
  · have e : repeatS t s = ((0, -1), (nextS t s).2) := if_pos ha
    rw [e]
    clear e
    go_enter Tryz.func207, Tryz.ntmps207
    go_wp2_with fail
    refine (next_any b t s v _ h).mono ?_
    rintro e w1 ⟨rfl, h1, k1⟩
    go_wp2
    go_ret2
    exact ⟨rfl, h1, k1⟩
  by_cases hb : (nextS t s).1 = 43
  · have e : repeatS t s = ((1, -1), (nextS t s).2) := by unfold repeatS; rw [if_neg ha, if_pos hb]
    rw [e]
    clear e
    go_enter Tryz.func207, Tryz.ntmps207
    go_wp2_with fail
    refine (next_any b t s v _ h).mono ?_
    rintro e w1 ⟨rfl, h1, k1⟩
    go_wp2
    go_ret2
    exact ⟨rfl, h1, k1⟩
  by_cases hc : (nextS t s).1 = 63
  · have e : repeatS t s = ((0, 1), (nextS t s).2) := by unfold repeatS; rw [if_neg ha, if_neg hb, if_pos hc]
    rw [e]
    clear e
    go_enter Tryz.func207, Tryz.ntmps207
    go_wp2_with fail
    refine (next_any b t s v _ h).mono ?_
    rintro e w1 ⟨rfl, h1, k1⟩
    go_wp2
    go_ret2
    exact ⟨rfl, h1, k1⟩
  · have e : repeatS t s = bracesS t (nextS t s).2 := by unfold repeatS; rw [if_neg ha, if_neg hb, if_neg hc]
    have ha' : ((nextS t s).1 == 42) = false := by simpa using ha
    have hb' : ((nextS t s).1 == 43) = false := by simpa using hb
    have hc' : ((nextS t s).1 == 63) = false := by simpa using hc
    rw [e]
    clear e ha hb hc
    go_enter Tryz.func207, Tryz.ntmps207
    go_wp2_with fail
    refine (next_any b t s v _ h).mono ?_
    rintro e w1 ⟨rfl, h1, k1⟩
    go_wp2_with fail
    refine (braces_any b t _ v _ h1).mono ?_
    rintro e w2 ⟨rfl, h2, k2⟩
    go_wp2
    go_ret2
    exact ⟨rfl, h2, k1.trans k2⟩

end Go.Proofs.YtgifhgnccmnbiabGreatDoor

set_option linter.unusedVariables false
set_option linter.unusedSimpArgs false
namespace Go.Proofs.YtgifhgnccmnbiabGreatDoor

/-- A node of a pattern. -/
structure AN where
  kind : Int
  its : List (Int × Int) := []
  neg : Bool := false
  left : Int := 0
  right : Int := 0
  least : Int := 0
  most : Int := 0
  size : Int

/-- No size is above 61. -/
def capN (n : AN) : AN := { n with size := if 61 < n.size then 61 else n.size }

abbrev PS := RS × List AN
def sizeAt (ns : List AN) (i : Nat) : Int := ((ns[i]?).map AN.size).getD 0
def addS (n : AN) (st : PS) : Nat × PS := (st.2.length, (st.1, st.2 ++ [capN n]))
def joinS (kind : Int) (l r : Nat) (st : PS) : Nat × PS := addS { kind := kind, left := l, right := r, size := sizeAt st.2 l + sizeAt st.2 r } st
def timesS (least most : Int) : Int := if (if most = -1 then least else most) < 1 then 1 else (if most = -1 then least else most)
def againS (p : Nat) (lm : Int × Int) (st : PS) : Nat × PS :=
  addS { kind := 6, left := p, least := lm.1, most := lm.2, size := sizeAt st.2 p * timesS lm.1 lm.2 } st
def bytesS (lo hi : Int) (st : PS) : Nat × PS := addS { kind := 1, its := [(lo, hi)], size := 1 } st

/-- All sizes lie in 0 .. 61. -/
def Sized (ns : List AN) : Prop := ∀ n, n ∈ ns → 0 ≤ n.size ∧ n.size ≤ 61
theorem sizeAt_bd {ns : List AN} (h : Sized ns) (i : Nat) : 0 ≤ sizeAt ns i ∧ sizeAt ns i ≤ 61 := by
  unfold sizeAt
  cases hi : ns[i]? with
  | none => simp
  | some n => simpa using h n (List.mem_of_getElem? hi)
theorem sized_add {n : AN} {st : PS} (h : Sized st.2) (hn : 0 ≤ n.size) : Sized (addS n st).2.2 := by
  intro m hm
  simp only [addS, List.mem_append, List.mem_singleton] at hm
  rcases hm with hm | rfl
  · exact h m hm
  · simp only [capN]; split <;> omega

/- PROGRESS: a scanning step goes on, and never back. -/
theorem next_ge {t : ByteArray} {s : RS} (h : Fits t s) : s.1 ≤ (nextS t s).2.1 := by
  unfold nextS; split
  · exact h
  · exact Nat.le_succ _
theorem next_gt {t : ByteArray} {s : RS} (h : s.1 < t.size) : s.1 < (nextS t s).2.1 := by
  unfold nextS; split
  · exact h
  · exact Nat.lt_succ_self _
theorem take_ge {t : ByteArray} {s : RS} {c : Int} : s.1 ≤ (takeS t c s).2.1 := by
  unfold takeS; split
  · exact Nat.le_succ _
  · exact Nat.le_refl _
theorem take_gt {t : ByteArray} {s : RS} {c : Int} (h : (takeS t c s).1 = true) : s.1 < (takeS t c s).2.1 := by
  unfold takeS at *; split
  · exact Nat.lt_succ_self _
  · rename_i hc; rw [if_neg hc] at h; cases h
theorem mem_ge {t : ByteArray} {s : RS} (h : Fits t s) : s.1 ≤ (memS t s).2.1 := by
  unfold memS; split
  · exact Nat.le_trans (next_ge h) (next_ge (fits_next h))
  · exact next_ge h
theorem mem_gt {t : ByteArray} {s : RS} (h : s.1 < t.size) : s.1 < (memS t s).2.1 := by
  have hf : Fits t s := Nat.le_of_lt h
  unfold memS; split
  · exact Nat.lt_of_lt_of_le (next_gt h) (next_ge (fits_next hf))
  · exact next_gt h
theorem high_gt {t : ByteArray} {s : RS} (h : s.1 < t.size) : s.1 < (highS t s).2.1 := by
  have h1 := mem_gt h
  unfold highS; split
  · rename_i hq
    have := mem_ge (t := t) (s := ((memS t s).2.1 + 1, (memS t s).2.2)) (fits_sec hq)
    simp only [] at this
    omega
  · exact h1
theorem item_gt {t : ByteArray} {s : RS} (h : s.1 < t.size) : s.1 < (itemS t s).2.1 := by
  unfold itemS; simp only []; split
  · exact h
  · exact high_gt h
theorem itemQ_lt {t : ByteArray} {s : RS} (h : itemQ t s = true) : s.1 < t.size := by
  simp only [itemQ, Bool.and_eq_true, bne_iff_ne] at h
  have := h.1
  rw [Ne, pk_none] at this
  omega
theorem dig_ge {t : ByteArray} {s : RS} (h : Fits t s) : s.1 ≤ (digS t s).2.1 := by
  unfold digS; split
  · exact h
  · exact next_ge h
theorem up_ge {t : ByteArray} {s : RS} (h : Fits t s) : s.1 ≤ (upS t s).2.1 := by
  unfold upS; split
  · exact Nat.le_refl _
  · exact dig_ge h
theorem most_ge {t : ByteArray} {s : RS} (h : Fits t s) : s.1 ≤ (mostS t s).2.1 := by
  have h1 := dig_ge h
  have h2 := take_ge (t := t) (c := 44) (s := (digS t s).2)
  unfold mostS; split
  · exact Nat.le_trans h1 (Nat.le_trans h2 (up_ge (fits_take (by omega) (fits_dig h))))
  · exact Nat.le_trans h1 h2
theorem braces_ge {t : ByteArray} {s : RS} (h : Fits t s) : s.1 ≤ (bracesS t s).2.1 := by
  unfold bracesS; split
  · exact h
  · exact Nat.le_trans (most_ge h) take_ge
theorem repeat_gt {t : ByteArray} {s : RS} (h : s.1 < t.size) : s.1 < (repeatS t s).2.1 := by
  have h1 := next_gt h
  have h2 := braces_ge (t := t) (s := (nextS t s).2) (fits_next (Nat.le_of_lt h))
  unfold repeatS
  repeat' split
  all_goals first | exact h1 | exact Nat.lt_of_lt_of_le h1 h2
theorem repS_lt {t : ByteArray} {s : RS} (h : repS t s = true) : s.1 < t.size := by
  refine pk_some ?_
  simp only [repS, Bool.or_eq_true, beq_iff_eq] at h
  omega
theorem endS_lt {t : ByteArray} {s : RS} (h : endS t s = false) : s.1 < t.size := by
  simp only [endS, Bool.or_eq_false_iff, beq_eq_false_iff_ne] at h
  have := h.1.1
  rw [Ne, pk_none] at this
  omega

/- THE ITEMS OF A LIST. -/
def itemsF (t : ByteArray) : Nat → RS → List (Int × Int) → List (Int × Int) × RS
  | 0, s, acc => (acc, s)
  | f + 1, s, acc => if itemQ t s = true then itemsF t f (itemS t s).2 (acc ++ [(itemS t s).1]) else (acc, s)
theorem itemsF_more (t : ByteArray) : ∀ (f g : Nat) (s : RS) (acc : List (Int × Int)), t.size - s.1 ≤ f → t.size - s.1 ≤ g → itemsF t f s acc = itemsF t g s acc
  | 0, 0, _, _, _, _ => rfl
  | 0, g + 1, s, acc, h, _ => by
    rw [itemsF, itemsF, if_neg]
    intro hq; have := itemQ_lt hq; omega
  | f + 1, 0, s, acc, _, h => by
    rw [itemsF, itemsF, if_neg]
    intro hq; have := itemQ_lt hq; omega
  | f + 1, g + 1, s, acc, h1, h2 => by
    rw [itemsF, itemsF]
    split
    · rename_i hq
      have := item_gt (itemQ_lt hq)
      have := itemQ_lt hq
      exact itemsF_more t f g _ _ (by omega) (by omega)
    · rfl
def itemsS (t : ByteArray) (s : RS) (acc : List (Int × Int)) : List (Int × Int) × RS := itemsF t (t.size - s.1) s acc
theorem itemsS_on {t : ByteArray} {s : RS} {acc : List (Int × Int)} (h : itemQ t s = true) : itemsS t s acc = itemsS t (itemS t s).2 (acc ++ [(itemS t s).1]) := by
  have h1 := itemQ_lt h
  have h2 := item_gt h1
  unfold itemsS
  obtain ⟨f, hf⟩ : ∃ f, t.size - s.1 = f + 1 := ⟨t.size - s.1 - 1, by omega⟩
  rw [hf, itemsF, if_pos h]
  exact itemsF_more t _ _ _ _ (by omega) (Nat.le_refl _)
theorem itemsS_off {t : ByteArray} {s : RS} {acc : List (Int × Int)} (h : itemQ t s = false) : itemsS t s acc = (acc, s) := by
  unfold itemsS
  cases t.size - s.1 with
  | zero => rfl
  | succ f => rw [itemsF, if_neg (by rw [h]; decide)]

theorem itemsF_ge (t : ByteArray) : ∀ (f : Nat) (s : RS) (acc : List (Int × Int)), s.1 ≤ (itemsF t f s acc).2.1
  | 0, s, _ => Nat.le_refl _
  | f + 1, s, acc => by
    rw [itemsF]
    split
    · rename_i hq; exact Nat.le_trans (Nat.le_of_lt (item_gt (itemQ_lt hq))) (itemsF_ge t f _ _)
    · exact Nat.le_refl _
theorem itemsS_ge {t : ByteArray} {s : RS} {acc : List (Int × Int)} (h : Fits t s) : s.1 ≤ (itemsS t s acc).2.1 := itemsF_ge t _ s acc

/-- A list, behind its [. -/
def listS (t : ByteArray) (st : PS) : Nat × PS :=
  let a := takeS t 94 st.1
  let i := itemsS t a.2 []
  let c := takeS t 93 i.2
  addS { kind := 1, its := i.1, neg := a.1, size := 1 } (if c.1 = false ∨ i.1.length = 0 then failS t else c.2, st.2)

end Go.Proofs.YtgifhgnccmnbiabGreatDoor

set_option linter.unusedVariables false
set_option linter.unusedSimpArgs false
namespace Go.Proofs.YtgifhgnccmnbiabGreatDoor
open Go.RowKit Go.IntWalk

/-- append TO A ROW OF THE CALL's OWN (nil, with room or without), as one step of a region that draws. -/
theorem step_append_owned {P : Program} {ops : Array Oper} {o : Oper} {a : Act} {w : World} {K : Act → World → Prop} {Q : Exit → Act → World → Prop} {E : Prop}
    (hg : o.guard = none) (s x : Operand) (t : TypeId) (hop : o.op = Op.call { callee := Callee.builtin Builtin.append, args := #[s, x], argTypes := #[t, t] })
    (e : TypeId) (i : TypeInfo) (z : Value) (size bytes : Nat) (h1 : P.underlying t = some (.slice e)) (h2 : P.info? e = some i) (h3 : i.zero = some z) (h4 : i.size = size) (h5 : i.bytes = bytes) (h6 : z.cells.size = size) (h7 : 0 < size)
    (base : Nat) (v : Value) (n : Nat) (xs : List Value) (hs : a.eval s = v) (hown : w.ownsRow base e size v n xs)
    (ad : Addr) (m c : Nat) (news : List Value) (hx : a.eval x = .slice (some ad) m c) (hn : news.length = m * size) (hc : ∀ j u, news[j]? = some u → w.cell? (ad.add j) = some u) (h1c : ∀ u ∈ news, u.oneCell' = true)
    (b1 : n + m ≤ maxLen) (b2 : (n + m) * bytes ≤ 140737488355328) (hbase : base ≤ w.heap.size)
    (hK : ∀ v' w', w'.ownsRow base e size v' (n + m) (xs ++ news) → w.grownBy w' v.ownBlock → K (a.put o.dst v') w') :
    if Region.wanted o (yielded ops a.tmps) = true then Oper.wp P o a w K Q else E := by
  have hw : Region.wanted o (yielded ops a.tmps) = true := by simp [Region.wanted, hg]
  rw [if_pos hw]
  obtain ⟨v', w', hrun, r1, r2, _⟩ := run_append_own (P := P) w base t o.type e i z size bytes h1 h2 h3 h4 h5 h6 h7 v n xs hown ad m c news hn hc h1c b1 b2 hbase
  unfold Oper.wp
  simp [execOp, hop, resolve, invoke, builtin, hs, hx, hrun, Result.andThen]
  exact hK v' w' r1 r2

/-- A slice as it lies in a cell: address, length, room. -/
abbrev IV := Option Addr × Nat × Nat
def ivV (x : IV) : Value := .slice x.1 x.2.1 x.2.2
def AN.cells (n : AN) (x : IV) : List Value :=
  [.int .i64 n.kind, .slice x.1 x.2.1 x.2.2, .bool n.neg, .int .i64 n.left, .int .i64 n.right, .int .i64 n.least, .int .i64 n.most, .int .i64 n.size]
def nodesCells : List AN → List IV → List Value
  | n :: ns, x :: xs => n.cells x ++ nodesCells ns xs
  | _, _ => []
def itemCells : List (Int × Int) → List Value
  | [] => []
  | x :: r => .int .i64 x.1 :: .int .i64 x.2 :: itemCells r

theorem nodesCells_snoc : ∀ (ns : List AN) (xs : List IV) (n : AN) (x : IV), xs.length = ns.length → nodesCells (ns ++ [n]) (xs ++ [x]) = nodesCells ns xs ++ n.cells x
  | [], [], n, x, _ => by simp [nodesCells]
  | [], _ :: _, n, x, h => by simp at h
  | m :: ns, y :: xs, n, x, h => by simp [nodesCells, nodesCells_snoc ns xs n x (by simpa using h)]
  | m :: ns, [], n, x, h => by simp at h
theorem nodesCells_get : ∀ (ns : List AN) (xs : List IV) (i j : Nat) (n : AN) (x : IV), ns[i]? = some n → xs[i]? = some x → j < 8 → (nodesCells ns xs)[i * 8 + j]? = (n.cells x)[j]?
  | [], _, i, j, n, x, h, _, _ => by simp at h
  | m :: ns, [], i, j, n, x, _, h, _ => by simp at h
  | m :: ns, y :: xs, 0, j, n, x, h, h', hj => by
    simp at h h'; subst h h'
    rw [nodesCells, Nat.zero_mul, Nat.zero_add, List.getElem?_append_left (by simp [AN.cells]; omega)]
  | m :: ns, y :: xs, i + 1, j, n, x, h, h', hj => by
    simp at h h'
    rw [nodesCells, List.getElem?_append_right (by simp [AN.cells]; omega)]
    have e : (i + 1) * 8 + j - (m.cells y).length = i * 8 + j := by simp [AN.cells]; omega
    rw [e]
    exact nodesCells_get ns xs i j n x h h' hj
theorem itemCells_snoc : ∀ (l : List (Int × Int)) (x : Int × Int), itemCells (l ++ [x]) = itemCells l ++ [.int .i64 x.1, .int .i64 x.2]
  | [], x => rfl
  | y :: r, x => by simp [itemCells, itemCells_snoc r x]

/-- A node's items, in a row of their own. -/
def ItemsOk (w : World) (base : Nat) (x : IV) (its : List (Int × Int)) : Prop := w.ownsRow base 270 2 (ivV x) its.length (itemCells its)

/-- The reader with its nodes. -/
structure NV (w : World) (b : Nat) (t : ByteArray) (s : RS) (ns : List AN) (v : Value) (xs : List IV) : Prop where
  rd : RD w b t s v
  row : w.ownsRow (b + 1) 164 8 v ns.length (nodesCells ns xs)
  len : xs.length = ns.length
  items : ∀ (i : Nat) (n : AN) (x : IV), ns[i]? = some n → xs[i]? = some x → ItemsOk w (b + 1) x n.its
  sized : Sized ns
def NS (w : World) (b : Nat) (t : ByteArray) (st : PS) : Prop := ∃ v xs, NV w b t st.1 st.2 v xs

section
variable {w w' : World} {b : Nat} {t : ByteArray} {s s' : RS} {ns : List AN} {v : Value} {xs : List IV}
theorem own_ge {w : World} {base : Nat} {e : TypeId} {size : Nat} {v : Value} {n : Nat} {xs : List Value} (h : w.ownsRow base e size v n xs) {g : Nat} (hg : v.ownBlock = some g) : base ≤ g := (h.lt g hg).1

/-- Rows of two element types lie in two blocks. -/
theorem own_ne {w : World} {b1 b2 e1 e2 z1 z2 : Nat} {v1 v2 : Value} {n1 n2 : Nat} {x1 x2 : List Value} (h1 : w.ownsRow b1 e1 z1 v1 n1 x1) (h2 : w.ownsRow b2 e2 z2 v2 n2 x2) (he : e1 ≠ e2) :
    v1.ownBlock = none ∨ v1.ownBlock ≠ v2.ownBlock := by
  rcases h1.2 with ⟨rfl, _⟩ | ⟨g1, c1, u1, rfl, _, hg1, _⟩
  · exact Or.inl rfl
  · refine Or.inr (fun hc => ?_)
    rcases h2.2 with ⟨rfl, _⟩ | ⟨g2, c2, u2, rfl, _, hg2, _⟩
    · simp [Value.ownBlock] at hc
    · simp only [Value.ownBlock, Option.some.injEq] at hc
      subst hc
      rw [hg1] at hg2
      simp only [Option.some.injEq, Obj.cells.injEq] at hg2
      exact he hg2.2.1

/-- What a scanning step leaves: the reader's block alone has turned. -/
theorem NV.scan (h : NV w b t s ns v xs) (r : RD w' b t s' v) (k : Kept [b] w w') : NV w' b t s' ns v xs := by
  have gr : w.grownBy w' (some b) := ⟨k.os, k.tape, k.output, k.size, fun i hi hn => k.block i hi (by simpa using hn)⟩
  refine ⟨r, h.row.kept gr ?_, h.len, fun i n x hn hx => ?_, h.sized⟩
  · cases hv : v.ownBlock with
    | none => exact Or.inl rfl
    | some g => refine Or.inr ?_; have := own_ge h.row hv; simp; omega
  · have h1 := h.items i n x hn hx
    refine World.ownsRow.kept h1 gr ?_
    cases hv : (ivV x).ownBlock with
    | none => exact Or.inl rfl
    | some g => refine Or.inr ?_; have := own_ge h1 hv; simp; omega
end

set_option maxHeartbeats 400000 in
theorem size_any (b i : Nat) (t : ByteArray) (s : RS) (ns : List AN) (v : Value) (xs : List IV) (w : World) (h : NV w b t s ns v xs) (hi : i < ns.length) (hl : ns.length ≤ 1000) :
    Calls Tryz.prog 138 #[.pointer (some ⟨b, 0, none⟩), .int .i64 (i : Int)] w fun e w' => e = .returned (.int .i64 (sizeAt ns i)) ∧ w' = w := by
  have h2 := h.rd.c2
  obtain ⟨x, hx⟩ : ∃ x, xs[i]? = some x := by have := h.len; exact ⟨xs[i], List.getElem?_eq_getElem (by omega)⟩
  obtain ⟨n, hn⟩ : ∃ n, ns[i]? = some n := ⟨ns[i], List.getElem?_eq_getElem hi⟩
  have hget := nodesCells_get ns xs i 7 n x hn hx (by omega)
  have hv : ∃ g cap, v = .slice (some ⟨g, 0, none⟩) ns.length cap := by
    rcases h.row.2 with ⟨_, h⟩ | ⟨g, cap, _, h, _⟩
    · omega
    · exact ⟨g, cap, h⟩
  obtain ⟨g, cap, rfl⟩ := hv
  have hc : w.cell? ⟨g, i * 8 + 7, none⟩ = some (.int .i64 n.size) := by
    have := h.row.cells (g := g) rfl (i * 8 + 7) (.int .i64 n.size) (by rw [hget]; rfl)
    rwa [show (⟨g, 0, none⟩ : Addr).add (i * 8 + 7) = ⟨g, i * 8 + 7, none⟩ by simp [Addr.add]] at this
  have e : sizeAt ns i = n.size := by simp [sizeAt, hn]
  rw [e]
  clear hget e hn hx h
  go_enter Tryz.func138, Tryz.ntmps138
  go_wp2
  go_ret
  exact ⟨rfl, rfl⟩

end Go.Proofs.YtgifhgnccmnbiabGreatDoor
