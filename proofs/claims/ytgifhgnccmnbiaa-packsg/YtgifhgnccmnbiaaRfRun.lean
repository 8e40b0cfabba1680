/- The document's answer: files of codes, as plain functions; what lies in memory. -/
import Derived.Test.YtgifhgnccmnbiaaRfBits
import Derived.Lib.AppendStr
set_option linter.unusedVariables false
set_option linter.unusedSimpArgs false
namespace Go.Proofs.Ytgifhgnccmnbiaa
open Go.RowKit Go.IntWalk

structure ZB where
  p : Nat := 0
  n : Nat := 0
  out : ByteArray := ByteArray.empty
  tab : List ByteArray := []
  last : ByteArray := ByteArray.empty
def frB (r : ZB) : Nat := 257 + r.tab.length
def zwB (m : Nat) (r : ZB) : Nat := widP (frB r) m
def zgoB (B : ByteArray) (m : Nat) (r : ZB) : Bool := decide (r.p + zwB m r ≤ 8 * B.size)
def nowB (r : ZB) (c : Nat) : ByteArray := if c = frB r then r.last ++ r.last.extract 0 1 else entB r.tab c
/-- What a code comes to; none: the file is none. -/
def tkB (m : Nat) (r : ZB) (c : Nat) : Option ZB :=
  if c = 256 then some { r with p := r.p + zwB m r, n := r.n + 1, tab := [], last := ByteArray.empty }
  else if r.last.size = 0 ∧ 256 < c then none
  else if frB r < c ∨ (c = frB r ∧ ¬ frB r < 2 ^ m) then none
  else some { p := r.p + zwB m r, n := r.n + 1, out := r.out ++ nowB r c, tab := if r.last.size ≠ 0 ∧ frB r < 2 ^ m then r.tab ++ [r.last ++ (nowB r c).extract 0 1] else r.tab, last := nowB r c }
def zsB (B : ByteArray) (m : Nat) (r : ZB) : Option ZB := tkB m r (numB B r.p (zwB m r)).1
def zitB (B : ByteArray) (m : Nat) : Nat → Option ZB
  | 0 => some {}
  | n + 1 => (zitB B m n).bind (zsB B m)

/-- The bounds that stay. -/
structure ZBI (B : ByteArray) (r : ZB) : Prop where
  p : 9 * r.n ≤ r.p
  pb : r.p ≤ 8 * B.size
  tab : r.tab.length ≤ r.n
  ent : ∀ s, s ∈ r.tab → 1 ≤ s.size ∧ s.size ≤ r.n + 1
  last : r.last.size ≤ r.n
  out : r.out.size ≤ 5000 * r.n
theorem zbi0 (B : ByteArray) : ZBI B {} := ⟨by simp, by simp, by simp, by simp, Nat.le_refl 0, Nat.zero_le _⟩
theorem ba_size_app (a b : ByteArray) : (a ++ b).size = a.size + b.size := by simp
theorem entB_size {r : ZB} {B : ByteArray} (h : ZBI B r) {c : Nat} (hc : c < 256 ∨ (257 ≤ c ∧ c - 257 < r.tab.length)) : 1 ≤ (entB r.tab c).size ∧ (entB r.tab c).size ≤ r.n + 1 := by
  unfold entB
  split
  · exact ⟨Nat.le_refl 1, by show 1 ≤ _; omega⟩
  · have : r.tab.getD (c - 257) ByteArray.empty ∈ r.tab := by
      rw [List.getD, List.getElem?_eq_getElem (by omega)]; exact List.getElem_mem _
    exact h.ent _ this
theorem nowB_size {r : ZB} {B : ByteArray} (h : ZBI B r) {c : Nat} (h0 : c ≠ 256) (hl : ¬ (r.last.size = 0 ∧ 256 < c)) (hc : c ≤ frB r) : 1 ≤ (nowB r c).size ∧ (nowB r c).size ≤ r.n + 1 := by
  unfold nowB
  split
  · rename_i he
    have h1 : r.last.size ≠ 0 := fun hx => hl ⟨hx, by unfold frB at he; omega⟩
    have := h.last
    rw [ba_size_app, ByteArray.size_extract]
    omega
  · refine entB_size h ?_
    unfold frB at *
    omega
theorem ZBI.take {B : ByteArray} {m : Nat} {r r' : ZB} (h : ZBI B r) (hg : zgoB B m r = true) (hB : B.size ≤ 4000) {c : Nat} (ht : tkB m r c = some r') : ZBI B r' := by
  have hg' : r.p + zwB m r ≤ 8 * B.size := by unfold zgoB at hg; simpa using hg
  have hw := widP_bd (frB r) m
  have hwz : zwB m r = widP (frB r) m := rfl
  have h1 := h.p
  have hn : r.n ≤ 3600 := by have := h.pb; omega
  unfold tkB at ht
  split at ht
  · simp only [Option.some.injEq] at ht
    subst ht
    exact ⟨by simp only []; omega, hg', by simp, by simp, by show 0 ≤ _; omega, by have := h.out; simp only []; omega⟩
  · split at ht
    · cases ht
    · split at ht
      · cases ht
      · rename_i h0 hl hc
        simp only [Option.some.injEq] at ht
        subst ht
        have hs := nowB_size h h0 hl (by omega)
        have hla := h.last
        have hta := h.tab
        refine ⟨by simp only []; omega, hg', ?_, fun s hs2 => ?_, by simp only []; omega, by have := h.out; simp only []; rw [ba_size_app]; omega⟩
        · simp only []
          split
          · rw [List.length_append, List.length_singleton]; omega
          · omega
        · simp only [] at hs2 ⊢
          split at hs2
          · rename_i hj
            rcases List.mem_append.1 hs2 with hs2 | hs2
            · have := h.ent s hs2; omega
            · simp at hs2
              subst hs2
              rw [ba_size_app, ByteArray.size_extract]
              omega
          · have := h.ent s hs2; omega

structure ZBM (w0 w : World) (r : ZB) (ov tv : Value) : Prop where
  out : w.ownsRow w0.heap.size 5 1 ov r.out.size (Lib.strCells r.out)
  tab : w.ownsRow w0.heap.size 9 1 tv r.tab.length (strRow r.tab)
  kept : Kept [] w0 w
theorem strCells_app (a b : ByteArray) : Lib.strCells (a ++ b) = Lib.strCells a ++ Lib.strCells b := by
  unfold Lib.strCells
  rw [ByteArray.data_append, Array.toList_append, List.map_append]
theorem strRow_snoc (l : List ByteArray) (s : ByteArray) : strRow (l ++ [s]) = strRow l ++ [.string s] := by simp [strRow]
theorem ZBM.keep {w0 w w' : World} {r : ZB} {ov tv : Value} (h : ZBM w0 w r ov tv) (k : Kept [] w w') : ZBM w0 w' r ov tv :=
  ⟨row_stay h.out k (fun _ _ => by simp), row_stay h.tab k (fun _ _ => by simp), h.kept.trans k⟩
theorem grow_kept {w0 w w' : World} {v : Value} {e z n : Nat} {xs : List Value} (k : Kept [] w0 w) (h : w.ownsRow w0.heap.size e z v n xs) (g : w.grownBy w' v.ownBlock) : Kept [] w0 w' :=
  ⟨g.os.trans k.os, g.tape.trans k.tape, g.output.trans k.output, Nat.le_trans k.size g.size, fun i hi _ => (g.block i (Nat.lt_of_lt_of_le hi k.size) (fun hc => by have := (h.lt i hc.symm).1; omega)).trans (k.block i hi (by simp))⟩
theorem ZBM.outGrow {w0 w w' : World} {r : ZB} {ov tv v' : Value} {s : ByteArray} (h : ZBM w0 w r ov tv) (ho : w'.ownsRow w0.heap.size 5 1 v' (r.out.size + s.size) (Lib.strCells r.out ++ Lib.strCells s)) (g : w.grownBy w' ov.ownBlock) :
    ZBM w0 w' { r with out := r.out ++ s } v' tv :=
  ⟨by rw [show ({ r with out := r.out ++ s } : ZB).out = r.out ++ s from rfl, ba_size_app, strCells_app]; exact ho, World.ownsRow.kept h.tab g (own_ne h.tab h.out (by decide)), grow_kept h.kept h.out g⟩
theorem ZBM.tabGrow {w0 w w' : World} {r : ZB} {ov tv v' : Value} {s : ByteArray} (h : ZBM w0 w r ov tv) (ho : w'.ownsRow w0.heap.size 9 1 v' (r.tab.length + 1) (strRow r.tab ++ [.string s])) (g : w.grownBy w' tv.ownBlock) :
    ZBM w0 w' { r with tab := r.tab ++ [s] } ov v' :=
  ⟨World.ownsRow.kept h.out g (own_ne h.out h.tab (by decide)), by rw [show ({ r with tab := r.tab ++ [s] } : ZB).tab = r.tab ++ [s] from rfl, strRow_snoc, List.length_append]; exact ho, grow_kept h.kept h.tab g⟩

/-- The highest bit first. -/
theorem num_high {B : ByteArray} {p w j C : Nat} (hj : j < w) (hin : p + w ≤ 8 * B.size) (h : (numB B p w).1 = (numB B p (j + 1)).1 + C * 2 ^ (j + 1)) : (numB B p w).1 = (numB B p j).1 + (2 * C + bitP B (p + j)) * 2 ^ j := by
  have key : ∀ i, p + i ≤ 8 * B.size → (numB B p i).2 = p + i := by
    intro i
    induction i with
    | zero => intro _; rfl
    | succ i ih =>
      intro hi
      show (nextB B (numB B p i).2).2 = _
      rw [ih (by omega)]
      unfold nextB; rw [if_pos (by omega)]; rfl
  have e : (numB B p (j + 1)).1 = (numB B p j).1 + bitP B (p + j) * 2 ^ j := by
    show (numB B p j).1 + (nextB B (numB B p j).2).1 * 2 ^ j = _
    rw [key j (by omega)]
    unfold nextB; rw [if_pos (by omega)]
  rw [h, e, Nat.pow_succ, Nat.add_mul, Nat.add_assoc]
  congr 1
  rw [Nat.add_comm, ← Nat.mul_assoc, Nat.mul_comm (C * 2 ^ j) 2, ← Nat.mul_assoc]

end Go.Proofs.Ytgifhgnccmnbiaa
