/- The document's answer: a file opened; of codes. -/
import Derived.Test.YtgifhgnccmnbiaaRfWhole
import Derived.Test.YtgifhgnccmnbiaaRfCodes
import Derived.Test.YtgifhgnccmnbiaaPkAdd2
set_option linter.unusedVariables false
set_option linter.unusedSimpArgs false
namespace Go.Proofs.Ytgifhgnccmnbiaa
open Go.RowKit Go.IntWalk

/-- The file is one of codes, n of them, and this is the state behind the last one. -/
structure ZGood (f : ByteArray) (n : Nat) (r : ZB) : Prop where
  file : isZ f
  it : zitB (f.extract 3 f.size) (bt f 2) n = some r
  inv : ZBI (f.extract 3 f.size) r
  num : r.n = n
  on : ∀ i, i < n → ∃ q, zitB (f.extract 3 f.size) (bt f 2) i = some q ∧ zgoB (f.extract 3 f.size) (bt f 2) q = true
  stop : zgoB (f.extract 3 f.size) (bt f 2) r = false
  fin : endB (f.extract 3 f.size) r.p = true
/-- It is none. -/
def ZNo (f : ByteArray) : Prop := ¬ isZ f ∨ (isZ f ∧ ∃ n r, zitB (f.extract 3 f.size) (bt f 2) n = some r ∧ (∀ i, i < n → ∃ q, zitB (f.extract 3 f.size) (bt f 2) i = some q ∧ zgoB (f.extract 3 f.size) (bt f 2) q = true) ∧
  ((zgoB (f.extract 3 f.size) (bt f 2) r = true ∧ zsB (f.extract 3 f.size) (bt f 2) r = none) ∨ (zgoB (f.extract 3 f.size) (bt f 2) r = false ∧ endB (f.extract 3 f.size) r.p = false)))
theorem CodesR.two {f : ByteArray} {w w' : World} {e : Ending} (h : CodesR f w w' e) : (ZNo f ∧ e = badR3) ∨ ∃ n r ov tv, ZGood f n r ∧ ZBM w w' r ov tv ∧ e = .returned (.tuple #[ov, .int .i64 (n : Int), .bool true]) := by
  rcases h.out with ⟨h1, h2⟩ | ⟨h1, n, r, hit, hinv, hnum, hon, ⟨a, b, c⟩ | ⟨a, b, c⟩ | ⟨a, b, ov, tv, hm, c⟩⟩
  · exact Or.inl ⟨Or.inl h1, h2⟩
  · exact Or.inl ⟨Or.inr ⟨h1, n, r, hit, hon, Or.inl ⟨a, b⟩⟩, c⟩
  · exact Or.inl ⟨Or.inr ⟨h1, n, r, hit, hon, Or.inr ⟨a, b⟩⟩, c⟩
  · exact Or.inr ⟨n, r, ov, tv, ⟨h1, hit, hinv, hnum, hon, a, b⟩, hm, c⟩

def bytesN (s : ByteArray) : List Nat := s.data.toList.map UInt8.toNat
theorem bytesN_len (s : ByteArray) : (bytesN s).length = s.size := by
  unfold bytesN
  rw [List.length_map, Array.length_toList]
  rfl
theorem strCells_bytes (s : ByteArray) (i : Nat) (hi : i < s.size) : (Lib.strCells s)[i]? = some (.int .u8 (((bytesN s).getD i 0 : Nat) : Int)) := by
  have h2 : i < s.data.size := hi
  unfold Lib.strCells bytesN
  rw [List.getElem?_map, List.getD, List.getElem?_map, Array.getElem?_toList, Array.getElem?_eq_getElem h2]
  rfl

section
variable {w0 w1 : World} {b B C : Nat} {kind : Int} {n : Nat} {rl top : List Nat} {ps : List PI} {rv tv pv : Value}
/-- What is left behind the append to the symbols and the store. -/
theorem GM.top_fin (h : GM w0 b B C kind n rl top ps rv tv pv) (g : w0.grownBy w1 tv.ownBlock) {v' : Value} {x : Nat} (hown : w1.ownsRow C 3 1 v' (top.length + 1) (symCells top ++ [.int .i64 (x : Int)])) :
    w1.cell? ⟨b, 3, none⟩ = some tv ∧ w1.frozen? ⟨b, 3, none⟩ = false ∧ b < w1.heap.size ∧ GM (w1.setCell ⟨b, 3, none⟩ v') b B C kind n rl (top ++ [x]) ps rv v' pv ∧
    (∀ k, k < w0.heap.size → k < C → k ≠ b → (w1.setCell ⟨b, 3, none⟩ v').heap[k]? = w0.heap[k]?) ∧ (∀ wa, Kept [] wa w0 → wa.heap.size ≤ b → Kept [] wa (w1.setCell ⟨b, 3, none⟩ v')) := by
  have hlow : ∀ k, k < C → some k ≠ tv.ownBlock := fun k hk hc => by have := (h.top.lt k hc.symm).1; omega
  have hbC : b < C := Nat.lt_of_lt_of_le h.lt h.up
  have hb : Blk w1 b #[.int .i64 kind, .int .i64 (n : Int), rv, tv, pv] 95 := (g.block b h.blk.lt (hlow b hbC)).trans h.blk
  have hr : w1.ownsRow B 3 1 rv rl.length (symCells rl) := World.ownsRow.kept h.rules g (by
    cases hq : rv.ownBlock with
    | none => exact Or.inl rfl
    | some q => exact Or.inr (hlow q (h.low q hq)))
  have hp : w1.ownsRow B 91 6 pv ps.length (piCells ps) := World.ownsRow.kept h.pieces g (own_ne h.pieces h.top (by decide))
  refine ⟨hb.cell 3, hb.frozen 3, hb.lt, ⟨hb.set 3 v', h.lt, h.up, row_set hr h.lt _ _, h.low, ?_, row_set hp h.lt _ _, h.small⟩, ?_, ?_⟩
  · rw [symCells_snoc, List.length_append]
    exact row_set hown hbC _ _
  · intro k hkw hk hkb
    rw [Below.heap_setCell _ _ _ _ (by rintro rfl; exact hkb rfl)]
    exact g.block k hkw (hlow k hk)
  · intro wa ka hwb
    refine ⟨g.os.trans ka.os, g.tape.trans ka.tape, g.output.trans ka.output, by simpa [World.setCell] using Nat.le_trans ka.size g.size, fun i hi _ => ?_⟩
    rw [Below.heap_setCell _ _ _ _ (by rintro rfl; omega)]
    exact (g.block i (Nat.lt_of_lt_of_le hi ka.size) (hlow i (by omega))).trans (ka.block i hi (by simp))
end

end Go.Proofs.Ytgifhgnccmnbiaa
