/- Package packed: the rules' file, written. -/
import Derived.Test.YtgifhgnccmnbiaaGRepl
set_option linter.unusedVariables false
set_option linter.unusedSimpArgs false
namespace Go.Proofs.Ytgifhgnccmnbiaa
open Go.RowKit Go.IntWalk

theorem digs_one (V n m : Nat) (hV : V < 256 ^ m) (hn : n < 256) : digs (V + n * 2 ^ (8 * m)) (m + 1) = digs V m ++ [n] := by
  have e := digs_keep V n m 0
  have e2 := div_more V n m 0
  rw [Nat.add_zero] at e e2
  rw [digs_succ, e]
  congr 1
  unfold dig
  rw [e2, Nat.div_eq_of_lt hV, Nat.pow_zero, Nat.mul_one, Nat.zero_add, Nat.mod_eq_of_lt hn]
theorem digs_two (V n m : Nat) (hV : V < 256 ^ m) (hn : n < 65536) : digs (V + n * 2 ^ (8 * m)) (m + 2) = digs V m ++ [n % 256, n / 256] := by
  have e := digs_keep V n m 0
  have e2 := div_more V n m 0
  have e3 := div_next (V + n * 2 ^ (8 * m)) m
  rw [Nat.add_zero] at e e2
  rw [show m + 2 = m + 1 + 1 by omega, digs_succ, digs_succ, e, List.append_assoc]
  have h2 : (V + n * 2 ^ (8 * m)) / 256 ^ m = n := by rw [e2, Nat.div_eq_of_lt hV, Nat.pow_zero, Nat.mul_one, Nat.zero_add]
  congr 1
  unfold dig
  rw [← e3, h2, Nat.mod_eq_of_lt (show n / 256 < 256 by omega)]
  rfl

/-- A writer of whole bytes. -/
structure GW (w wr : World) (b : Nat) (B : List Nat) : Prop where
  below : Below b w wr
  ex : ∃ V v, digs V B.length = B ∧ V < 2 ^ (8 * B.length) ∧ BWL wr b #[] 143 V (8 * B.length / 8) (8 * B.length % 8) v
def two16 (n : Nat) : List Nat := [n % 256, n / 256]
theorem gw8 {w wr : World} {b : Nat} {B : List Nat} (h : GW w wr b B) (n : Nat) (hn : n < 256) (hB : B.length ≤ 10000) :
    Calls Try.prog 81 #[.pointer (some ⟨b, 0, none⟩), .int .i64 (n : Int), .int .i64 8] wr fun e w' => e = .returned (.tuple #[]) ∧ GW w w' b (B ++ [n]) := by
  obtain ⟨hb, V, v, hd, hV, hW⟩ := h
  refine (number_any wr b #[] 143 V (8 * B.length) v hW (by decide) hV n 8 (by omega) (by omega) (by omega)).mono ?_
  rintro e w' ⟨rfl, o⟩
  refine ⟨rfl, hb.trans o.below, V + n * 2 ^ (8 * B.length), ?_⟩
  obtain ⟨v', hW'⟩ := o.ex
  have hbd := o.bd
  have e1 : 8 * B.length + 8 = 8 * (B ++ [n]).length := by simp; omega
  rw [e1] at hW' hbd
  refine ⟨v', ?_, hbd, hW'⟩
  have e2 : (B ++ [n]).length = B.length + 1 := by simp
  have hp := pow8 B.length 0
  rw [Nat.add_zero, Nat.pow_zero, Nat.mul_one] at hp
  rw [e2, digs_one V n B.length (by rw [← hp]; exact hV) hn, hd]
theorem gw16 {w wr : World} {b : Nat} {B : List Nat} (h : GW w wr b B) (n : Nat) (hn : n < 65536) (hB : B.length ≤ 10000) :
    Calls Try.prog 81 #[.pointer (some ⟨b, 0, none⟩), .int .i64 (n : Int), .int .i64 16] wr fun e w' => e = .returned (.tuple #[]) ∧ GW w w' b (B ++ two16 n) := by
  obtain ⟨hb, V, v, hd, hV, hW⟩ := h
  refine (number_any wr b #[] 143 V (8 * B.length) v hW (by decide) hV n 16 (by omega) (by omega) (by omega)).mono ?_
  rintro e w' ⟨rfl, o⟩
  refine ⟨rfl, hb.trans o.below, V + n * 2 ^ (8 * B.length), ?_⟩
  obtain ⟨v', hW'⟩ := o.ex
  have hbd := o.bd
  have e1 : 8 * B.length + 16 = 8 * (B ++ two16 n).length := by simp [two16]; omega
  rw [e1] at hW' hbd
  refine ⟨v', ?_, hbd, hW'⟩
  have e2 : (B ++ two16 n).length = B.length + 2 := by simp [two16]
  have hp := pow8 B.length 0
  rw [Nat.add_zero, Nat.pow_zero, Nat.mul_one] at hp
  rw [e2, digs_two V n B.length (by rw [← hp]; exact hV) hn, hd]
  rfl
theorem gwEnd {w wr : World} {b : Nat} {B : List Nat} (h : GW w wr b B) (hB : B.length ≤ 10000) :
    Calls Try.prog 84 #[.pointer (some ⟨b, 0, none⟩)] wr fun e w' => e = .returned (.string (bytesB B)) ∧ Below b w w' := by
  obtain ⟨hb, V, v, hd, hV, hW⟩ := h
  refine (bend_any wr b #[] 143 V (8 * B.length) v hW (by decide) hV (by omega)).mono ?_
  rintro e w' ⟨rfl, o⟩
  refine ⟨?_, hb.trans o⟩
  rw [show (8 * B.length + 7) / 8 = B.length by omega, hd]

def pcs (l : List Cand) : List Value := l.flatMap fun p => [.int .i64 (p.a : Int), .int .i64 (p.b : Int), .int .i64 (p.n : Int)]
theorem pcs_len (l : List Cand) : (pcs l).length = l.length * 3 := by
  unfold pcs
  induction l with
  | nil => rfl
  | cons p l ih => simp [List.flatMap_cons, ih]; omega
theorem pcs_get : ∀ (l : List Cand) (i : Nat) (p : Cand), l[i]? = some p → ∀ j, j < 3 → (pcs l)[i * 3 + j]? = (pcells p)[j]?
  | [], i, p, h, _, _ => by simp at h
  | q :: l, 0, p, h, j, hj => by
    have hq : q = p := by simpa using h
    subst hq
    unfold pcs
    rw [List.flatMap_cons, List.getElem?_append_left (by simp; omega)]
    simp [pcells]
  | q :: l, i + 1, p, h, j, hj => by
    have := pcs_get l i p (by simpa using h) j hj
    rw [← this]
    unfold pcs
    rw [List.flatMap_cons, List.getElem?_append_right (by simp; omega)]
    congr 1
    simp; omega
def ruleBytes (l : List Cand) : List Nat := l.flatMap fun p => two16 p.a ++ two16 p.b
def symBytes (l : List Nat) : List Nat := l.flatMap two16
theorem ruleBytes_len (l : List Cand) : (ruleBytes l).length = 4 * l.length := by
  unfold ruleBytes
  induction l with
  | nil => rfl
  | cons p l ih => rw [List.flatMap_cons, List.length_append, ih]; simp [two16]; omega
theorem symBytes_len (l : List Nat) : (symBytes l).length = 2 * l.length := by
  unfold symBytes
  induction l with
  | nil => rfl
  | cons p l ih => rw [List.flatMap_cons, List.length_append, ih]; simp [two16]; omega
theorem ruleBytes_snoc (l : List Cand) (i : Nat) (p : Cand) (h : l[i]? = some p) : ruleBytes (l.take (i + 1)) = ruleBytes (l.take i) ++ two16 p.a ++ two16 p.b := by
  unfold ruleBytes
  rw [List.take_add_one, h, List.flatMap_append]; simp
theorem symBytes_snoc (l : List Nat) (i : Nat) (h : i < l.length) : symBytes (l.take (i + 1)) = symBytes (l.take i) ++ two16 (l.getD i 0) := by
  unfold symBytes
  rw [List.take_add_one, List.getElem?_eq_getElem h, List.flatMap_append]; simp [List.getD, h]
def gbody (R : List Cand) (l : List Nat) : List Nat := [R.length] ++ ruleBytes R ++ two16 l.length ++ symBytes l
def gfile (R : List Cand) (l : List Nat) : ByteArray := ⟨#[83, 71]⟩ ++ bytesB (gbody R l)

set_option maxHeartbeats 4000000 in
set_option maxRecDepth 100000 in
theorem fileOf_any {R : List Cand} {l : List Nat} {rv sv : Value} {b1 b2 : Nat} (w : World) (hR : w.ownsRow b1 151 3 rv R.length (pcs R)) (hS : w.ownsRow b2 3 1 sv l.length (symCells l))
    (hRl : R.length ≤ 100) (hl : l.length ≤ 600) (hRb : ∀ p, p ∈ R → p.a < 356 ∧ p.b < 356) (hlb : ∀ s, s ∈ l → s < 356) :
    Calls Try.prog 87 #[rv, sv] w fun e w' => e = .returned (.string (gfile R l)) ∧ Below w.heap.size w w' := by
  obtain ⟨ra, rk, rc, rfl⟩ := own_shape hR
  obtain ⟨sa, sk, sc, rfl⟩ := own_shape hS
  have e1 : rk = R.length := by
    rcases hR.2 with ⟨h1, h2⟩ | ⟨g, cap, _, h1, _⟩
    · simp at h1; omega
    · simp at h1; omega
  have e2 : sk = l.length := by
    rcases hS.2 with ⟨h1, h2⟩ | ⟨g, cap, _, h1, _⟩
    · simp at h1; omega
    · simp at h1; omega
  subst e1 e2
  have hRH : Hid (World.ownsRow _ _ _ _ _ _ _) := hR
  have hSH : Hid (World.ownsRow _ _ _ _ _ _ _) := hS
  clear hR hS
  have h0 : GW w (w.alloc (.cells #[.slice none 0 0, .int .i64 0, .int .i64 0] 143)) w.heap.size [] :=
    ⟨(Below.refl _ _).alloc (Nat.le_refl _) _, 0, .slice none 0 0, rfl, by decide, ⟨Blk.new _ _ _, by exact World.ownsRow_nil _ _ _ _⟩⟩
  have hn0 : Hid (Calls _ _ _ _ _) := gw8 h0 R.length (by omega) (by simp)
  have hrl : Hid (∀ i, i ≤ R.length → ([R.length] ++ ruleBytes (R.take i)).length ≤ 500) := fun i hi => by rw [List.length_append, ruleBytes_len, List.length_take]; simp; omega
  have hgf : Hid (gfile R l = ⟨#[83, 71]⟩ ++ bytesB (gbody R l)) := rfl
  clear h0
  go_enter Try.func87, Try.ntmps87
  go_wp2_with (go_at_call 81; refine hn0.out.mono ?_; rintro _ w2 ⟨rfl, o2⟩)
  have o2 : Hid (GW _ _ _ _) := o2
  clear hn0
  go_loopw [6] (fun iv wr => ∃ i : Nat, iv = .int .i64 (i : Int) ∧ i ≤ R.length ∧ GW w wr w.heap.size ([R.length] ++ ruleBytes (R.take i))) (fun iv _ => ((R.length : Int) - intOf iv).toNat)
  case atStart => exact ⟨0, rfl, Nat.zero_le _, by have := o2.out; simpa [ruleBytes] using this⟩
  case round =>
    clear o2
    obtain ⟨i, rfl, hi, hI⟩ := hrel
    have hil := hrl.out i hi
    by_cases hlt : (i : Int) < (R.length : Int)
    · obtain ⟨p, hp⟩ : ∃ p, R[i]? = some p := ⟨_, List.getElem?_eq_getElem (by omega)⟩
      have hpb := hRb p (List.mem_of_getElem? hp)
      obtain ⟨g, cap, hv⟩ := own_form hRH.out (by omega)
      simp only [Value.slice.injEq, true_and] at hv
      obtain ⟨rfl, rfl⟩ := hv
      have hr2 := fun w' (h : Below w.heap.size w w') => row_under hRH.out (fun g hg => (hRH.out.lt g hg).2) h (Nat.le_refl _)
      have hc1 : Hid (∀ w', Below w.heap.size w w' → w'.cell? ⟨g, i * 3, none⟩ = some (.int .i64 (p.a : Int))) := fun w' h => by
        have := (hr2 w' h).cells (g := g) rfl (i * 3 + 0) _ (by rw [pcs_get R i p hp 0 (by omega)]; rfl)
        rwa [ptr_add] at this
      have hc2 : Hid (∀ w', Below w.heap.size w w' → w'.cell? ⟨g, i * 3 + 1, none⟩ = some (.int .i64 (p.b : Int))) := fun w' h => by
        have := (hr2 w' h).cells (g := g) rfl (i * 3 + 1) _ (by rw [pcs_get R i p hp 1 (by omega)]; rfl)
        rwa [ptr_add] at this
      have c1 := hc1.out wr hI.below
      have hn1 : Hid (Calls _ _ _ wr _) := gw16 hI p.a (by omega) (by omega)
      have hn2 : Hid (∀ w3, GW w w3 w.heap.size ([R.length] ++ ruleBytes (R.take i) ++ two16 p.a) → Calls _ _ _ w3 _) := fun w3 h => gw16 h p.b (by omega) (by rw [List.length_append]; simp only [two16, List.length_cons, List.length_nil]; omega)
      have hs : Hid (ruleBytes (R.take (i + 1)) = ruleBytes (R.take i) ++ two16 p.a ++ two16 p.b) := ruleBytes_snoc R i p hp
      clear hI hr2 hp hil
      generalize p.a = a at *
      generalize p.b = b at *
      go_wp2_with (first
        | (go_at_call_of 81 (Value.int IntKind.i64 (a : Int)); refine hn1.out.mono ?_; rintro _ w3 ⟨rfl, o3⟩; have c2 := hc2.out _ o3.below; have o3 : Hid (GW _ _ _ _) := o3)
        | (go_at_call_of 81 (Value.int IntKind.i64 (b : Int)); refine (hn2.out _ o3.out).mono ?_; rintro _ w4 ⟨rfl, o4⟩; have o4 : Hid (GW _ _ _ _) := o4))
      refine ⟨⟨i + 1, by go_num, by omega, by rw [hs.out]; have := o4.out; simpa [List.append_assoc] using this⟩, ?_⟩
      simp only [intOf]; omega
    · have e : i = R.length := by omega
      subst e
      rw [List.take_length] at hI hil
      have hn3 : Hid (Calls _ _ _ wr _) := gw16 hI l.length (by omega) (by omega)
      have hsl : Hid (∀ i, i ≤ l.length → ([R.length] ++ ruleBytes R ++ two16 l.length ++ symBytes (l.take i)).length ≤ 5000) := fun i hi => by
        rw [List.length_append, List.length_append, symBytes_len, List.length_take]; simp [two16] at hil ⊢; omega
      clear hI
      go_wp2_with (go_at_call 81; refine hn3.out.mono ?_; rintro _ w3 ⟨rfl, o3⟩)
      have o3 : Hid (GW _ _ _ _) := o3
      clear hn3 hil hrl
      go_loopw [7] (fun iv wr => ∃ i : Nat, iv = .int .i64 (i : Int) ∧ i ≤ l.length ∧ GW w wr w.heap.size ([R.length] ++ ruleBytes R ++ two16 l.length ++ symBytes (l.take i))) (fun iv _ => ((l.length : Int) - intOf iv).toNat)
      case atStart => exact ⟨0, rfl, Nat.zero_le _, by have := o3.out; simpa [symBytes] using this⟩
      case round =>
        clear o3
        obtain ⟨j, rfl, hj, hI⟩ := hrel
        have hjl := hsl.out j hj
        by_cases hlt2 : (j : Int) < (l.length : Int)
        · obtain ⟨g, cap, hv⟩ := own_form hSH.out (by omega)
          simp only [Value.slice.injEq, true_and] at hv
          obtain ⟨rfl, rfl⟩ := hv
          have hr2 := row_under hSH.out (fun g hg => (hSH.out.lt g hg).2) hI.below (Nat.le_refl _)
          obtain ⟨x, hx⟩ : ∃ x, l.getD j 0 = x := ⟨_, rfl⟩
          have hjn : j < l.length := by omega
          have hxb : x < 356 := by
            rw [← hx]; apply hlb; simp [List.getD, hjn]
          have c1 : wr.cell? ⟨g, j, none⟩ = some (.int .i64 (x : Int)) := by
            have := hr2.cells (g := g) rfl j _ (symCells_get l j hjn)
            rwa [ptr_add, hx] at this
          have hs := symBytes_snoc l j hjn
          rw [hx] at hs
          have hs : Hid (_ = _) := hs
          have hn4 : Hid (Calls _ _ _ wr _) := gw16 hI x (by omega) (by omega)
          clear hI hr2 hx hjl
          go_wp2_with (go_at_call 81; refine hn4.out.mono ?_; rintro _ w4 ⟨rfl, o4⟩; have o4 : Hid (GW _ _ _ _) := o4)
          refine ⟨⟨j + 1, by go_num, by omega, by rw [hs.out]; have := o4.out; simpa [List.append_assoc] using this⟩, ?_⟩
          simp only [intOf]; omega
        · have e : j = l.length := by omega
          subst e
          rw [List.take_length] at hI hjl
          have hend : Hid (Calls _ _ _ wr _) := gwEnd hI (by omega)
          have hsz : (bytesB (gbody R l)).size ≤ 5000 := by
            unfold bytesB gbody
            show (((([R.length] ++ ruleBytes R ++ two16 l.length ++ symBytes l)).map Nat.toUInt8).toArray).size ≤ _
            simp at hjl ⊢; omega
          have hb : [R.length] ++ ruleBytes R ++ two16 l.length ++ symBytes l = gbody R l := rfl
          rw [hb] at hend
          clear hI hjl hb
          generalize bytesB (gbody R l) = Z at *
          have hx1 : ¬ 9223372036854775807 < 2 + Z.size := by omega
          go_wp2_with (go_at_call 84; refine hend.out.mono ?_; rintro _ w5 ⟨rfl, b5⟩)
          go_ret
          exact ⟨by rw [hgf.out]; rfl, b5⟩

end Go.Proofs.Ytgifhgnccmnbiaa
