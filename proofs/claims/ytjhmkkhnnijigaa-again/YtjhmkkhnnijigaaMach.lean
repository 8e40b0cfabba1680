/- The machine: as plain data and as it lies in memory; its going along a line. -/
import Derived.Test.YtjhmkkhnnijigaaWrite
set_option linter.unusedVariables false
set_option linter.unusedSimpArgs false
namespace Go.Proofs.Ytjhmkkhnnijigaa
open Go.RowKit Go.IntWalk

structure MP where
  whole : Bool := false
  next : Nat → B64 := fun _ => 0#64
  takes : Nat → B64 := fun _ => 0#64
  begins : B64 := 0#64
  ends : B64 := 0#64
  last : B64 := 0#64

def mCell (m : MP) (i : Nat) : Value :=
  if i = 0 then .bool m.whole else if i < 62 then UV (m.next (i - 1)) else if i < 318 then UV (m.takes (i - 62))
  else if i = 318 then UV m.begins else if i = 319 then UV m.ends else UV m.last
def mCells (m : MP) : Array Value := cellsF 321 (mCell m)
@[simp] theorem mCells_size (m : MP) : (mCells m).size = 321 := cellsF_size _ _

def MIn (w : World) (g : Nat) (m : MP) : Prop := Blk w g (mCells m) 63
section
variable {w : World} {g : Nat} {m : MP}
theorem MIn.c0 (h : MIn w g m) : w.cell? ⟨g, 0, none⟩ = some (.bool m.whole) := by rw [Blk.cell h]; exact cellsF_get _ (by decide)
theorem MIn.begins (h : MIn w g m) : w.cell? ⟨g, 318, none⟩ = some (UV m.begins) := by rw [Blk.cell h]; exact cellsF_get _ (by decide)
theorem MIn.ends (h : MIn w g m) : w.cell? ⟨g, 319, none⟩ = some (UV m.ends) := by rw [Blk.cell h]; exact cellsF_get _ (by decide)
theorem MIn.last (h : MIn w g m) : w.cell? ⟨g, 320, none⟩ = some (UV m.last) := by rw [Blk.cell h]; exact cellsF_get _ (by decide)
theorem MIn.next (h : MIn w g m) {i : Nat} (hi : i < 61) : w.cell? ⟨g, 1 + i, none⟩ = some (UV (m.next i)) := by
  rw [Blk.cell h]
  unfold mCells
  rw [cellsF_get _ (by omega)]
  unfold mCell
  rw [if_neg (by omega), if_pos (by omega), show 1 + i - 1 = i by omega]
theorem MIn.takes (h : MIn w g m) {i : Nat} (hi : i < 256) : w.cell? ⟨g, 62 + i, none⟩ = some (UV (m.takes i)) := by
  rw [Blk.cell h]
  unfold mCells
  rw [cellsF_get _ (by omega)]
  unfold mCell
  rw [if_neg (by omega), if_neg (by omega), if_pos (by omega), show 62 + i - 62 = i by omega]
end

def followQ (m : MP) (s : B64) : Nat → B64
  | 0 => 0#64
  | q + 1 => if s.getLsbD q = true then followQ m s q ||| m.next q else followQ m s q
def followP (m : MP) (s : B64) : B64 := followQ m s 61
def stillQ (m : MP) (free : B64) (s : B64) : Nat → B64
  | 0 => s
  | q + 1 => stillQ m free s q ||| (followP m (stillQ m free s q) &&& free)
def stillP (m : MP) (s free : B64) : B64 := stillQ m free s 60

set_option maxHeartbeats 2000000 in
set_option maxRecDepth 100000 in
theorem follow_any (m : MP) (g : Nat) (s : B64) (w : World) (h : MIn w g m) :
    Calls Try.prog 74 #[.pointer (some ⟨g, 0, none⟩), .int .u64 (s.toNat : Int)] w fun e w' => e = .returned (.int .u64 ((followP m s).toNat : Int)) ∧ w' = w := by
  go_enter Try.func74, Try.ntmps74
  go_wp2_with fail
  go_loop [5, 6] (fun sv iv => ∃ q : Nat, sv = .int .u64 ((followQ m s q).toNat : Int) ∧ iv = .int .i64 (q : Int) ∧ q ≤ 61) (fun _ iv => (61 - intOf iv).toNat)
  case atStart => exact ⟨0, rfl, rfl, by omega⟩
  case round =>
    obtain ⟨q, rfl, rfl, hq⟩ := hrel
    by_cases hlt : (q : Int) ≤ 60
    · have hqn : q < 61 := by omega
      have hc := h.next hqn
      have hhas : Hid (Calls _ _ _ _ _) := has_any s q (by omega) w
      have hor := or_u (followQ m s q) (m.next q)
      have hon : Hid (s.getLsbD q = true → followQ m s (q + 1) = followQ m s q ||| m.next q) := fun hb => by rw [followQ, if_pos hb]
      have hoff : Hid (s.getLsbD q = false → followQ m s (q + 1) = followQ m s q) := fun hb => by rw [followQ, if_neg (by rw [hb]; decide)]
      cases hbit : s.getLsbD q with
      | true =>
        have e := hon.out hbit
        rw [hbit] at hhas
        clear hbit hon hoff h
        generalize followQ m s q ||| m.next q = Z at hor e
        have eH : Hid (_ = _) := e
        clear e
        go_wp2_with (go_at_call 109; refine hhas.out.mono ?_; rintro _ _ ⟨rfl, rfl⟩)
        go_round
        case rel => exact ⟨q + 1, by rw [eH.out], by go_num, by omega⟩
        case measure => simp [intOf]; omega
      | false =>
        have e := hoff.out hbit
        have eH : Hid (_ = _) := e
        rw [hbit] at hhas
        clear hbit e hon hoff h
        go_wp2_with (go_at_call 109; refine hhas.out.mono ?_; rintro _ _ ⟨rfl, rfl⟩)
        go_round
        case rel => exact ⟨q + 1, by rw [eH.out], by go_num, by omega⟩
        case measure => simp [intOf]; omega
    · have hqe : q = 61 := by omega
      subst hqe
      go_wp2
      go_ret
      exact ⟨rfl, rfl⟩

set_option maxHeartbeats 2000000 in
set_option maxRecDepth 100000 in
theorem still_any (m : MP) (g : Nat) (s free : B64) (w : World) (h : MIn w g m) :
    Calls Try.prog 73 #[.pointer (some ⟨g, 0, none⟩), .int .u64 (s.toNat : Int), .int .u64 (free.toNat : Int)] w fun e w' => e = .returned (.int .u64 ((stillP m s free).toNat : Int)) ∧ w' = w := by
  go_enter Try.func73, Try.ntmps73
  go_wp2_with fail
  go_loop [1, 7] (fun sv iv => ∃ q : Nat, sv = .int .u64 ((stillQ m free s q).toNat : Int) ∧ iv = .int .i64 (q : Int) ∧ q ≤ 60) (fun _ iv => (60 - intOf iv).toNat)
  case atStart => exact ⟨0, rfl, rfl, by omega⟩
  case round =>
    obtain ⟨q, rfl, rfl, hq⟩ := hrel
    by_cases hlt : (q : Int) < 60
    · have hf : Hid (Calls _ _ _ _ _) := follow_any m g (stillQ m free s q) w h
      have ha := and_u (followP m (stillQ m free s q)) free
      have hor := or_u (stillQ m free s q) (followP m (stillQ m free s q) &&& free)
      have e : Hid (stillQ m free s (q + 1) = stillQ m free s q ||| (followP m (stillQ m free s q) &&& free)) := rfl
      generalize followP m (stillQ m free s q) &&& free = Y at ha hor e
      generalize stillQ m free s q ||| Y = Z at hor e
      clear h
      go_wp2_with (go_at_call 74; refine hf.out.mono ?_; rintro _ _ ⟨rfl, rfl⟩)
      go_round
      case rel => exact ⟨q + 1, by rw [e.out], by go_num, by omega⟩
      case measure => simp [intOf]; omega
    · have hqe : q = 60 := by omega
      subst hqe
      go_wp2
      go_ret
      exact ⟨rfl, rfl⟩

def startB : B64 := 1152921504606846976#64
def foundB : B64 := 2305843009213693952#64
theorem startB_nat : ((startB.toNat : Nat) : Int) = 1152921504606846976 := rfl
theorem foundB_nat : ((foundB.toNat : Nat) : Int) = 2305843009213693952 := rfl

def beginP (m : MP) : B64 := stillP m startB m.begins
def afterP (m : MP) (s : B64) (c : Nat) : B64 := followP m s &&& m.takes c
def behindP (m : MP) (s : B64) (c : Nat) : B64 :=
  if m.whole = true then afterP m s c
  else ((if s &&& m.last = 0#64 then afterP m s c else afterP m s c ||| foundB) ||| (s &&& foundB)) ||| startB
def freeP (m : MP) (empty : Bool) : B64 := if empty = true then m.ends ||| m.begins else m.ends
def acceptsP (m : MP) (s : B64) (empty : Bool) : Bool := !decide (stillP m s (freeP m empty) &&& (m.last ||| foundB) = 0#64)

set_option maxHeartbeats 2000000 in
set_option maxRecDepth 100000 in
theorem begin_any (m : MP) (g : Nat) (w : World) (h : MIn w g m) :
    Calls Try.prog 52 #[.pointer (some ⟨g, 0, none⟩)] w fun e w' => e = .returned (.int .u64 ((beginP m).toNat : Int)) ∧ w' = w := by
  have hc := h.begins
  have hs : Hid (Calls _ _ _ _ _) := still_any m g startB m.begins w h
  rw [startB_nat] at hs
  clear h
  go_enter Try.func52, Try.ntmps52
  go_wp2_with (go_at_call 73; refine hs.out.mono ?_; rintro _ _ ⟨rfl, rfl⟩)
  go_ret
  exact ⟨rfl, rfl⟩

set_option maxHeartbeats 2000000 in
set_option maxRecDepth 100000 in
theorem behind_any (m : MP) (g : Nat) (s : B64) (c : Nat) (hc : c < 256) (w : World) (h : MIn w g m) :
    Calls Try.prog 53 #[.pointer (some ⟨g, 0, none⟩), .int .u64 (s.toNat : Int), .int .u8 (c : Int)] w fun e w' => e = .returned (.int .u64 ((behindP m s c).toNat : Int)) ∧ w' = w := by
  have hf : Hid (Calls _ _ _ _ _) := follow_any m g s w h
  have c0 := h.c0
  have c1 := h.takes hc
  have c2 := h.last
  have h1 := and_u (followP m s) (m.takes c)
  have h2 := and_u s m.last
  have h3 := and_u s foundB
  rw [foundB_nat] at h3
  clear h
  have e : Hid (behindP m s c = if m.whole = true then afterP m s c else ((if s &&& m.last = 0#64 then afterP m s c else afterP m s c ||| foundB) ||| (s &&& foundB)) ||| startB) := rfl
  unfold afterP at e
  generalize followP m s &&& m.takes c = A at *
  generalize s &&& m.last = L at *
  generalize s &&& foundB = F at *
  generalize behindP m s c = R at *
  cases hw : m.whole with
  | true =>
    rw [hw] at c0 e
    have eH : Hid (R = A) := by show R = A; have := e.out; simpa using this
    clear hw e
    go_enter Try.func53, Try.ntmps53
    go_wp2_with (go_at_call 74; refine hf.out.mono ?_; rintro _ _ ⟨rfl, rfl⟩)
    go_ret
    exact ⟨by rw [eH.out]; rfl, rfl⟩
  | false =>
    rw [hw] at c0 e
    have e2 : R = ((if L = 0#64 then A else A ||| foundB) ||| F) ||| startB := by have := e.out; simpa using this
    clear hw e
    have o1 := or_u A F
    have o2 := or_u (A ||| F) startB
    have o3 := or_u A foundB
    have o4 := or_u (A ||| foundB) F
    have o5 := or_u (A ||| foundB ||| F) startB
    rw [startB_nat] at o2 o5
    rw [foundB_nat] at o3
    by_cases hL : L = 0#64
    · rw [if_pos hL] at e2
      have eL : (L.toNat : Int) = 0 := (u_zero L).2 hL
      clear o3 o4 o5 hL
      generalize A ||| F = X at *
      generalize X ||| startB = Y at *
      have eH : Hid (R = Y) := e2
      clear e2
      go_enter Try.func53, Try.ntmps53
      go_wp2_with (go_at_call 74; refine hf.out.mono ?_; rintro _ _ ⟨rfl, rfl⟩)
      go_ret
      exact ⟨by rw [eH.out]; rfl, rfl⟩
    · rw [if_neg hL] at e2
      have eL : (L.toNat : Int) ≠ 0 := fun hc => hL ((u_zero L).1 hc)
      clear o1 o2 hL
      generalize A ||| foundB = X at *
      generalize X ||| F = Z at *
      generalize Z ||| startB = Y at *
      have eH : Hid (R = Y) := e2
      clear e2
      go_enter Try.func53, Try.ntmps53
      go_wp2_with (go_at_call 74; refine hf.out.mono ?_; rintro _ _ ⟨rfl, rfl⟩)
      go_ret
      exact ⟨by rw [eH.out]; rfl, rfl⟩

set_option maxHeartbeats 2000000 in
set_option maxRecDepth 100000 in
theorem accepts_any (m : MP) (g : Nat) (s : B64) (empty : Bool) (w : World) (h : MIn w g m) :
    Calls Try.prog 54 #[.pointer (some ⟨g, 0, none⟩), .int .u64 (s.toNat : Int), .bool empty] w fun e w' => e = .returned (.bool (acceptsP m s empty)) ∧ w' = w := by
  have hs : Hid (Calls _ _ _ _ _) := still_any m g s (freeP m empty) w h
  have c1 := h.begins
  have c2 := h.ends
  have c3 := h.last
  have o1 := or_u m.ends m.begins
  have o2 := or_u m.last foundB
  rw [foundB_nat] at o2
  have o3 := and_u (stillP m s (freeP m empty)) (m.last ||| foundB)
  have e : Hid (acceptsP m s empty = !decide (stillP m s (freeP m empty) &&& (m.last ||| foundB) = 0#64)) := rfl
  clear h
  generalize acceptsP m s empty = R at *
  cases empty with
  | true =>
    have ef : freeP m true = m.ends ||| m.begins := rfl
    rw [ef] at hs o3 e
    clear ef
    generalize m.ends ||| m.begins = X at *
    generalize stillP m s X = Y at *
    generalize m.last ||| foundB = L at *
    generalize Y &&& L = Z at *
    by_cases hz : Z = 0#64
    · have eZ : (Z.toNat : Int) = 0 := (u_zero Z).2 hz
      have eR : Hid (R = false) := by show R = false; have := e.out; simpa [hz] using this
      clear hz e
      go_enter Try.func54, Try.ntmps54
      go_wp2_with (go_at_call 73; refine hs.out.mono ?_; rintro _ _ ⟨rfl, rfl⟩)
      go_ret
      exact ⟨by rw [eR.out]; rfl, rfl⟩
    · have eZ : (Z.toNat : Int) ≠ 0 := fun hc => hz ((u_zero Z).1 hc)
      have eR : Hid (R = true) := by show R = true; have := e.out; simpa [hz] using this
      clear hz e
      go_enter Try.func54, Try.ntmps54
      go_wp2_with (go_at_call 73; refine hs.out.mono ?_; rintro _ _ ⟨rfl, rfl⟩)
      go_ret
      exact ⟨ret_bool (by rw [eR.out]; exact bne_iff_ne.2 eZ), rfl⟩
  | false =>
    have ef : freeP m false = m.ends := rfl
    rw [ef] at hs o3 e
    clear ef
    generalize stillP m s m.ends = Y at *
    generalize m.last ||| foundB = L at *
    generalize Y &&& L = Z at *
    by_cases hz : Z = 0#64
    · have eZ : (Z.toNat : Int) = 0 := (u_zero Z).2 hz
      have eR : Hid (R = false) := by show R = false; have := e.out; simpa [hz] using this
      clear hz e
      go_enter Try.func54, Try.ntmps54
      go_wp2_with (go_at_call 73; refine hs.out.mono ?_; rintro _ _ ⟨rfl, rfl⟩)
      go_ret
      exact ⟨by rw [eR.out]; rfl, rfl⟩
    · have eZ : (Z.toNat : Int) ≠ 0 := fun hc => hz ((u_zero Z).1 hc)
      have eR : Hid (R = true) := by show R = true; have := e.out; simpa [hz] using this
      clear hz e
      go_enter Try.func54, Try.ntmps54
      go_wp2_with (go_at_call 73; refine hs.out.mono ?_; rintro _ _ ⟨rfl, rfl⟩)
      go_ret
      exact ⟨ret_bool (by rw [eR.out]; exact bne_iff_ne.2 eZ), rfl⟩

/-- Behind so many bytes of a line. -/
def setQ (m : MP) (t : ByteArray) : Nat → B64
  | 0 => beginP m
  | q + 1 => behindP m (setQ m t q) (if h : q < t.size then t[q].toNat else 0)
def matchesP (m : MP) (t : ByteArray) : Bool := acceptsP m (setQ m t t.size) (t.size == 0)

set_option maxHeartbeats 2000000 in
set_option maxRecDepth 100000 in
theorem matches_any (m : MP) (g : Nat) (t : ByteArray) (ht : t.size ≤ 1000) (w : World) (h : MIn w g m) :
    Calls Try.prog 35 #[.pointer (some ⟨g, 0, none⟩), .string t] w fun e w' => e = .returned (.bool (matchesP m t)) ∧ w' = w := by
  have hb : Hid (Calls _ _ _ _ _) := begin_any m g w h
  have ha : Hid (∀ s e, Calls _ _ _ _ _) := fun s e => accepts_any m g s e w h
  have hs : Hid (∀ s c, c < 256 → Calls _ _ _ _ _) := fun s c hc => behind_any m g s c hc w h
  clear h
  go_enter Try.func35, Try.ntmps35
  go_wp2_with (go_at_call 52; refine hb.out.mono ?_; rintro _ _ ⟨rfl, rfl⟩)
  go_loop [5, 6] (fun sv iv => ∃ q : Nat, sv = .int .u64 ((setQ m t q).toNat : Int) ∧ iv = .int .i64 (q : Int) ∧ q ≤ t.size) (fun _ iv => ((t.size : Int) - intOf iv).toNat)
  case atStart => exact ⟨0, rfl, rfl, by omega⟩
  case round =>
    obtain ⟨q, rfl, rfl, hq⟩ := hrel
    clear hb
    by_cases hlt : (q : Int) < (t.size : Int)
    · have hqn : q < t.size := by omega
      have e : Hid (setQ m t (q + 1) = behindP m (setQ m t q) t[q].toNat) := by show setQ m t (q + 1) = _; rw [setQ, dif_pos hqn]
      have hs2 : Hid (Calls _ _ _ _ _) := hs.out (setQ m t q) t[q].toNat t[q].toNat_lt
      clear ha hs
      go_wp2_with (go_at_call 53; refine hs2.out.mono ?_; rintro _ _ ⟨rfl, rfl⟩)
      go_round
      case rel => exact ⟨q + 1, by rw [e.out], by go_num, by omega⟩
      case measure => simp [intOf]; omega
    · have hqe : q = t.size := by omega
      subst hqe
      have e : Hid (matchesP m t = acceptsP m (setQ m t t.size) (t.size == 0)) := rfl
      clear hs
      by_cases h0 : (t.size : Int) = 0
      · have ha2 := ha.out (setQ m t t.size) true
        have e2 : Hid (matchesP m t = acceptsP m (setQ m t t.size) true) := by rw [show true = (t.size == 0) from by rw [beq_iff_eq.2 (by omega)]]; exact e.out
        have ha3 : Hid (Calls _ _ _ _ _) := ha2
        clear ha ha2 e
        generalize setQ m t t.size = S at *
        go_wp2_with (go_at_call 54; refine ha3.out.mono ?_; rintro _ _ ⟨rfl, rfl⟩)
        go_ret
        exact ⟨by rw [e2.out]; rfl, rfl⟩
      · have ha2 := ha.out (setQ m t t.size) false
        have e2 : Hid (matchesP m t = acceptsP m (setQ m t t.size) false) := by rw [show false = (t.size == 0) from by rw [beq_eq_false_iff_ne.2 (by omega)]]; exact e.out
        have ha3 : Hid (Calls _ _ _ _ _) := ha2
        have hpos : (0 : Int) < (t.size : Int) := by omega
        have hbeq : ((t.size : Int) == 0) = false := beq_eq_false_iff_ne.2 h0
        clear ha ha2 e h0
        generalize setQ m t t.size = S at *
        go_wp2_with (go_at_call 54; with_reducible refine ha3.out.mono ?_; rintro _ _ ⟨rfl, rfl⟩)
        go_ret
        exact ⟨by rw [e2.out]; rfl, rfl⟩

end Go.Proofs.Ytjhmkkhnnijigaa
