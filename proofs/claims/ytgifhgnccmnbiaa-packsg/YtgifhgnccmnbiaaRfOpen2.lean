/- The document's answer: a file of rules opened, plain; rules and pieces that grow. -/
import Derived.Test.YtgifhgnccmnbiaaRfOpen
set_option linter.unusedVariables false
set_option linter.unusedSimpArgs false
namespace Go.Proofs.Ytgifhgnccmnbiaa
open Go.RowKit Go.IntWalk

def gN (f : ByteArray) : Nat := (prI f (3 + 4 * bt f 2)).toNat
def gA (f : ByteArray) (k : Nat) : Nat := (prI f (3 + 4 * k)).toNat
def gB (f : ByteArray) (k : Nat) : Nat := (prI f (5 + 4 * k)).toNat
def gRules (f : ByteArray) : Nat → List Nat
  | 0 => []
  | k + 1 => gRules f k ++ [gA f k, gB f k]
def gPs (f : ByteArray) : Nat → List PI
  | 0 => []
  | k + 1 => gPs f k ++ [joinedP (sizeP (gPs f k) (gA f k)) (sizeP (gPs f k) (gB f k))]
def gS (f : ByteArray) (j : Nat) : Nat := (prI f (5 + 4 * bt f 2 + 2 * j)).toNat
def gTop (f : ByteArray) : Nat → List Nat
  | 0 => []
  | j + 1 => gTop f j ++ [gS f j]
def gAll (f : ByteArray) : PI := wholeR (gPs f (bt f 2)) (gTop f (gN f))
theorem gRules_len (f : ByteArray) : ∀ k, (gRules f k).length = 2 * k
  | 0 => rfl
  | k + 1 => by show (gRules f k ++ _).length = _; rw [List.length_append, gRules_len f k]; rfl
theorem gPs_len (f : ByteArray) : ∀ k, (gPs f k).length = k
  | 0 => rfl
  | k + 1 => by show (gPs f k ++ _).length = _; rw [List.length_append, gPs_len f k]; rfl
theorem gTop_len (f : ByteArray) : ∀ k, (gTop f k).length = k
  | 0 => rfl
  | k + 1 => by show (gTop f k ++ _).length = _; rw [List.length_append, gTop_len f k]; rfl
theorem gPs_small (f : ByteArray) : ∀ k x, x ∈ gPs f k → PIsmall x
  | 0, x, h => nomatch h
  | k + 1, x, h => by
    rcases List.mem_append.1 h with h | h
    · exact gPs_small f k x h
    · simp at h; subst h; exact joinedP_small (sizeP_small (gPs_small f k) _)
theorem GOk.a {f : ByteArray} (h : GOk f) {k : Nat} (hk : k < bt f 2) : prI f (3 + 4 * k) = (gA f k : Int) ∧ gA f k < 256 + k := by
  have h1 := h.rules (2 * k) (by omega)
  have e : 3 + 2 * (2 * k) = 3 + 4 * k := by omega
  have e2 : 2 * k / 2 = k := by omega
  rw [e, e2] at h1
  unfold gA; omega
theorem GOk.b {f : ByteArray} (h : GOk f) {k : Nat} (hk : k < bt f 2) : prI f (5 + 4 * k) = (gB f k : Int) ∧ gB f k < 256 + k := by
  have h1 := h.rules (2 * k + 1) (by omega)
  have e : 3 + 2 * (2 * k + 1) = 5 + 4 * k := by omega
  have e2 : (2 * k + 1) / 2 = k := by omega
  rw [e, e2] at h1
  unfold gB; omega
theorem GOk.n {f : ByteArray} (h : GOk f) : prI f (3 + 4 * bt f 2) = (gN f : Int) ∧ gN f ≤ 1000 ∧ f.size = 5 + 4 * bt f 2 + 2 * gN f := by
  have h1 := h.n0
  have h2 := h.n1
  have h3 := h.size
  unfold gN; omega
theorem GOk.s {f : ByteArray} (h : GOk f) {j : Nat} (hj : j < gN f) : prI f (5 + 4 * bt f 2 + 2 * j) = (gS f j : Int) ∧ gS f j < 256 + bt f 2 := by
  obtain ⟨n1, n2, n3⟩ := h.n
  have h1 := h.syms j (by omega)
  have h2 : 0 ≤ prI f (5 + 4 * bt f 2 + 2 * j) := by
    unfold prI
    rw [if_pos (by omega)]
    omega
  unfold gS; omega
theorem GOk.top {f : ByteArray} (h : GOk f) : ∀ j, j ≤ gN f → ∀ s, s ∈ gTop f j → s < 256 + bt f 2
  | 0, _, s, hs => nomatch hs
  | j + 1, hj, s, hs => by
    rcases List.mem_append.1 hs with hs | hs
    · exact h.top j (by omega) s hs
    · simp at hs; subst hs; exact (h.s (by omega)).2

/-- A file of rules in memory while its rules are read. -/
structure G2 (w : World) (b B n : Nat) (rl : List Nat) (ps : List PI) (rv pv : Value) : Prop where
  blk : Blk w b #[.int .i64 71, .int .i64 (n : Int), rv, .slice none 0 0, pv] 95
  lt : b < B
  up : B ≤ w.heap.size
  rules : w.ownsRow B 3 1 rv rl.length (symCells rl)
  pieces : w.ownsRow B 91 6 pv ps.length (piCells ps)
theorem G2.kept {w w' : World} {b B n : Nat} {rl : List Nat} {ps : List PI} {rv pv : Value} (h : G2 w b B n rl ps rv pv) (k : Kept [] w w') : G2 w' b B n rl ps rv pv :=
  ⟨h.blk.kept k (by simp), h.lt, Nat.le_trans h.up k.size, row_stay (S := []) h.rules k (fun _ _ => by simp), row_stay (S := []) h.pieces k (fun _ _ => by simp)⟩
theorem G2.all {w : World} {b B n : Nat} {rl : List Nat} {ps : List PI} {rv pv : Value} (h : G2 w b B n rl ps rv pv) (hs : ∀ x, x ∈ ps → PIsmall x) : GM w b B w.heap.size 71 n rl [] ps rv (.slice none 0 0) pv :=
  ⟨h.blk, h.lt, h.up, h.rules, fun g hg => (h.rules.lt g hg).2, World.ownsRow_nil _ _ _ 1, h.pieces, hs⟩
section
variable {w0 w1 : World} {b B n : Nat} {rl : List Nat} {ps : List PI} {rv pv : Value}
theorem G2.rules_fin (h : G2 w0 b B n rl ps rv pv) (g : w0.grownBy w1 rv.ownBlock) {v' : Value} {x y : Nat} (hown : w1.ownsRow B 3 1 v' (rl.length + 2) (symCells rl ++ [.int .i64 (x : Int), .int .i64 (y : Int)])) :
    w1.cell? ⟨b, 2, none⟩ = some rv ∧ w1.frozen? ⟨b, 2, none⟩ = false ∧ b < w1.heap.size ∧ G2 (w1.setCell ⟨b, 2, none⟩ v') b B n (rl ++ [x, y]) ps v' pv ∧
    (∀ wa, Kept [] wa w0 → wa.heap.size ≤ b → Kept [] wa (w1.setCell ⟨b, 2, none⟩ v')) := by
  have hlow : ∀ k, k < B → some k ≠ rv.ownBlock := fun k hk hc => by have := (h.rules.lt k hc.symm).1; omega
  have hb : Blk w1 b #[.int .i64 71, .int .i64 (n : Int), rv, .slice none 0 0, pv] 95 := (g.block b h.blk.lt (hlow b h.lt)).trans h.blk
  have hp : w1.ownsRow B 91 6 pv ps.length (piCells ps) := World.ownsRow.kept h.pieces g (own_ne h.pieces h.rules (by decide))
  refine ⟨hb.cell 2, hb.frozen 2, hb.lt, ⟨hb.set 2 v', h.lt, by have := g.size; have := h.up; simp [World.setCell]; omega, ?_, row_set hp h.lt _ _⟩, ?_⟩
  · have e : symCells (rl ++ [x, y]) = symCells rl ++ [.int .i64 (x : Int), .int .i64 (y : Int)] := by simp [symCells]
    rw [e, List.length_append]
    exact row_set hown h.lt _ _
  · intro wa ka hwb
    refine ⟨g.os.trans ka.os, g.tape.trans ka.tape, g.output.trans ka.output, by simpa [World.setCell] using Nat.le_trans ka.size g.size, fun i hi _ => ?_⟩
    have hlt := h.lt
    rw [Below.heap_setCell _ _ _ _ (by rintro rfl; omega)]
    exact (g.block i (Nat.lt_of_lt_of_le hi ka.size) (hlow i (by omega))).trans (ka.block i hi (by simp))
theorem G2.pieces_fin (h : G2 w0 b B n rl ps rv pv) (g : w0.grownBy w1 pv.ownBlock) {v' : Value} {x : PI} (hown : w1.ownsRow B 91 6 v' (ps.length + 1) (piCells ps ++ x.cells)) :
    w1.cell? ⟨b, 4, none⟩ = some pv ∧ w1.frozen? ⟨b, 4, none⟩ = false ∧ b < w1.heap.size ∧ G2 (w1.setCell ⟨b, 4, none⟩ v') b B n rl (ps ++ [x]) rv v' ∧
    (∀ wa, Kept [] wa w0 → wa.heap.size ≤ b → Kept [] wa (w1.setCell ⟨b, 4, none⟩ v')) := by
  have hlow : ∀ k, k < B → some k ≠ pv.ownBlock := fun k hk hc => by have := (h.pieces.lt k hc.symm).1; omega
  have hb : Blk w1 b #[.int .i64 71, .int .i64 (n : Int), rv, .slice none 0 0, pv] 95 := (g.block b h.blk.lt (hlow b h.lt)).trans h.blk
  have hr : w1.ownsRow B 3 1 rv rl.length (symCells rl) := World.ownsRow.kept h.rules g (own_ne h.rules h.pieces (by decide))
  refine ⟨hb.cell 4, hb.frozen 4, hb.lt, ⟨hb.set 4 v', h.lt, by have := g.size; have := h.up; simp [World.setCell]; omega, row_set hr h.lt _ _, ?_⟩, ?_⟩
  · rw [piCells_snoc, List.length_append]
    exact row_set hown h.lt _ _
  · intro wa ka hwb
    refine ⟨g.os.trans ka.os, g.tape.trans ka.tape, g.output.trans ka.output, by simpa [World.setCell] using Nat.le_trans ka.size g.size, fun i hi _ => ?_⟩
    have hlt := h.lt
    rw [Below.heap_setCell _ _ _ _ (by rintro rfl; omega)]
    exact (g.block i (Nat.lt_of_lt_of_le hi ka.size) (hlow i (by omega))).trans (ka.block i hi (by simp))
end
theorem infoPiece : (Try.prog.info? 91).map (fun i => (i.zero, i.size, i.bytes)) =
    some (some (.agg #[.int .i64 0, .int .i64 0, .int .i64 0, .slice none 0 0, .slice none 0 0, .int .i64 0]), 6, 80) := by kernel_rfl

end Go.Proofs.Ytgifhgnccmnbiaa
