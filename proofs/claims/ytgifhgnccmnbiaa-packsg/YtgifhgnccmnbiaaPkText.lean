/- Package packed: a text by rules in memory; what a symbol stands for. -/
import Derived.Test.YtgifhgnccmnbiaaPkPart
import Derived.Test.YtgifhgnccmnbiaaAdd
set_option linter.unusedVariables false
set_option linter.unusedSimpArgs false
namespace Go.Proofs.Ytgifhgnccmnbiaa
open Go.RowKit Go.IntWalk

/-- What stands outside of some blocks stays: all below B but block b. -/
structure Fra (B b : Nat) (w w' : World) : Prop where
  os : w'.os = w.os
  tape : w'.tape = w.tape
  output : w'.output = w.output
  size : w.heap.size ≤ w'.heap.size
  block : ∀ k, k < B → k ≠ b → w'.heap[k]? = w.heap[k]?
theorem Fra.refl (B b : Nat) (w : World) : Fra B b w w := ⟨rfl, rfl, rfl, Nat.le_refl _, fun _ _ _ => rfl⟩
theorem Fra.trans {B b : Nat} {u v w : World} (h : Fra B b u v) (k : Fra B b v w) : Fra B b u w :=
  ⟨k.os.trans h.os, k.tape.trans h.tape, k.output.trans h.output, Nat.le_trans h.size k.size, fun i hi hb => (k.block i hi hb).trans (h.block i hi hb)⟩
theorem Fra.of_kept {B b : Nat} {w w' : World} (k : Kept [] w w') (hB : B ≤ w.heap.size) : Fra B b w w' := ⟨k.os, k.tape, k.output, k.size, fun i hi _ => k.block i (by omega) (by simp)⟩
theorem Fra.drew {B b : Nat} {w w' : World} (h : Fra B b w w') : Fra B b w w'.drew := ⟨h.os, h.tape, h.output, h.size, h.block⟩
theorem Fra.set {B b : Nat} {w w' : World} (h : Fra B b w w') {p : Addr} (hp : p.block = b ∨ B ≤ p.block) (u : Value) : Fra B b w (w'.setCell p u) :=
  ⟨h.os, h.tape, h.output, by simpa [World.setCell] using h.size, fun k hk hb => by
    rw [Below.heap_setCell _ _ _ _ (by rintro rfl; omega)]; exact h.block k hk hb⟩
theorem Fra.blk {B b k : Nat} {w w' : World} {cs : Array Value} {e : TypeId} (h : Fra B b w w') (hk : Blk w k cs e) (h1 : k < B) (h2 : k ≠ b) : Blk w' k cs e := (h.block k h1 h2).trans hk
theorem Fra.below {B b : Nat} {w w' : World} (h : Fra B b w w') {C : Nat} (hC : C ≤ B) (hb : C ≤ b) : Below C w w' := ⟨h.os, h.tape, h.output, h.size, fun k hk => h.block k (by omega) (by omega)⟩

/-- A text: its kind, how many symbols the file has, its rules, its symbols, what is told of it. -/
structure TT where
  kind : Int
  syms : Nat := 0
  rules : List RU := []
  start : List Nat := []
  whole : PT := {}
def RU.cells (x : RU) : List Value := [.int .i64 x.l, .int .i64 x.r, .int .i64 x.pt.len, .int .i64 x.pt.nl, .int .i64 x.pt.first, .int .i64 x.pt.last]
def ruCells (l : List RU) : List Value := l.flatMap RU.cells
def symCells (l : List Nat) : List Value := l.map (fun (s : Nat) => Value.int .i64 (s : Int))
def TT.cells (t : TT) (rv sv : Value) : Array Value := #[.int .i64 t.kind, .int .i64 t.syms, rv, sv, .int .i64 t.whole.len, .int .i64 t.whole.nl, .int .i64 t.whole.first, .int .i64 t.whole.last]

theorem ruCells_snoc (l : List RU) (x : RU) : ruCells (l ++ [x]) = ruCells l ++ x.cells := by simp [ruCells]
theorem symCells_snoc (l : List Nat) (x : Nat) : symCells (l ++ [x]) = symCells l ++ [.int .i64 (x : Int)] := by simp [symCells]
theorem ruCells_length : ∀ l : List RU, (ruCells l).length = l.length * 6
  | [] => rfl
  | x :: l => by
    have := ruCells_length l
    simp only [ruCells, List.flatMap_cons, List.length_append, List.length_cons, RU.cells, List.length_nil] at this ⊢
    omega
theorem ruCells_get : ∀ (l : List RU) (i j : Nat) (x : RU), l[i]? = some x → j < 6 → (ruCells l)[i * 6 + j]? = x.cells[j]?
  | [], i, j, x, h, _ => by simp at h
  | y :: l, 0, j, x, h, hj => by
    simp at h; subst h
    rw [Nat.zero_mul, Nat.zero_add]
    show (y.cells ++ ruCells l)[j]? = _
    rw [List.getElem?_append_left (by simp [RU.cells]; omega)]
  | y :: l, i + 1, j, x, h, hj => by
    simp at h
    show (y.cells ++ ruCells l)[(i + 1) * 6 + j]? = _
    rw [List.getElem?_append_right (by simp [RU.cells]; omega)]
    have e : (i + 1) * 6 + j - y.cells.length = i * 6 + j := by simp [RU.cells]; omega
    rw [e]
    exact ruCells_get l i j x h hj

/-- A text in memory: at place o of block b, whose other cells are pre and post; its lists lie at B or above. -/
structure TM (w : World) (b : Nat) (pre post : Array Value) (E B : Nat) (t : TT) (rv sv : Value) : Prop where
  blk : Blk w b (pre ++ t.cells rv sv ++ post) E
  lt : b < B
  up : B ≤ w.heap.size
  rules : w.ownsRow B 178 6 rv t.rules.length (ruCells t.rules)
  start : w.ownsRow B 3 1 sv t.start.length (symCells t.start)
  small : ∀ x, x ∈ t.rules → PTsmall x.pt
  whole : PTsmall t.whole

theorem row_stay {w w2 : World} {S : List Nat} {base e z n : Nat} {v : Value} {xs : List Value} (h : w.ownsRow base e z v n xs) (k : Kept S w w2) (hg : ∀ g, v.ownBlock = some g → ¬ g ∈ S) : w2.ownsRow base e z v n xs := by
  refine ⟨h.1, ?_⟩
  rcases h.2 with h1 | ⟨g, cap, cur, h1, h2, h3, r⟩
  · exact Or.inl h1
  · exact Or.inr ⟨g, cap, cur, h1, h2, (k.block g (Array.getElem?_eq_some_iff.1 h3).1 (hg g (by rw [h1]; rfl))).trans h3, r⟩

section
variable {w w' : World} {b E B : Nat} {pre post : Array Value} {t : TT} {rv sv : Value}
theorem TM.cell (h : TM w b pre post E B t rv sv) {o : Nat} (ho : o = pre.size) (j : Nat) (hj : j < 8) : w.cell? ⟨b, o + j, none⟩ = (t.cells rv sv)[j]? := by
  rw [h.blk.cell, ho, Array.append_assoc, Array.getElem?_append_right (by omega), Array.getElem?_append_left (by simp [TT.cells]; omega), Nat.add_sub_cancel_left]
theorem TM.kept (h : TM w b pre post E B t rv sv) (k : Kept [] w w') : TM w' b pre post E B t rv sv :=
  ⟨h.blk.kept k (by simp), h.lt, Nat.le_trans h.up k.size, row_stay (S := []) h.rules k (fun _ _ => by simp), row_stay (S := []) h.start k (fun _ _ => by simp), h.small, h.whole⟩
theorem TM.other (h : TM w b pre post E B t rv sv) {b' : Nat} (k : Kept [b'] w w') (h1 : b' < B) (h2 : b' ≠ b) : TM w' b pre post E B t rv sv :=
  ⟨h.blk.kept k (by simp; omega), h.lt, Nat.le_trans h.up k.size, row_stay (S := [b']) h.rules k (fun g hg hc => by simp at hc; have := (h.rules.lt g hg).1; omega), row_stay (S := [b']) h.start k (fun g hg hc => by simp at hc; have := (h.start.lt g hg).1; omega), h.small, h.whole⟩
end

/-- The rule of a symbol. -/
def ruleAt (rs : List RU) (s : Int) : RU := if 0 ≤ s - 256 then (rs[(s - 256).toNat]?).getD ⟨0, 0, {}⟩ else ⟨0, 0, {}⟩
def RU.val (x : RU) : Value := .agg x.cells.toArray

theorem ptr_add (g j : Nat) : (⟨g, 0, none⟩ : Addr).add j = ⟨g, j, none⟩ := by unfold Addr.add; split <;> simp_all

set_option maxHeartbeats 1000000 in
set_option maxRecDepth 100000 in
theorem rule_any {w : World} {b E B : Nat} {pre post : Array Value} {t : TT} {rv sv : Value} (h : TM w b pre post E B t rv sv) {o : Nat} (ho : o = pre.size) (s : Nat) (hs : s ≤ 100000) (hl : t.rules.length ≤ 100000) :
    Calls Try.prog 117 #[.pointer (some ⟨b, o, none⟩), .int .i64 (s : Int)] w fun e w' => e = .returned (ruleAt t.rules s).val ∧ Kept [] w w' := by
  have hk : Hid (∀ o1, Kept [] w (w.alloc o1)) := fun o1 => (Kept.refl [] w).alloc _
  have c2 : w.cell? ⟨b, o + 2, none⟩ = some rv := h.cell ho 2 (by omega)
  have hbw : b < w.heap.size := h.blk.lt
  by_cases h1 : (s : Int) - 256 < 0
  · have e : ruleAt t.rules s = ⟨0, 0, {}⟩ := by unfold ruleAt; rw [if_neg (by omega)]
    rw [e]
    unfold RU.val RU.cells
    clear h e c2
    go_enter Try.func117, Try.ntmps117
    go_wp2
    refine bodyPost_ret (v := .agg #[.int .i64 0, .int .i64 0, .int .i64 0, .int .i64 0, .int .i64 0, .int .i64 0]) (by simp [results, Try.results117, go_sem]) rfl ⟨rfl, hk.out _⟩
  · obtain ⟨k, rfl⟩ : ∃ k : Nat, s = k + 256 := ⟨s - 256, by omega⟩
    have hn : Hid (∀ x, t.rules[k]? = x → ruleAt t.rules ((k + 256 : Nat) : Int) = x.getD ⟨0, 0, {}⟩) := fun x hx => by
      unfold ruleAt; rw [if_pos (by omega), show (((k + 256 : Nat) : Int) - 256).toNat = k by omega, hx]
    clear h1
    by_cases h2 : k < t.rules.length
    · obtain ⟨x, hx⟩ : ∃ x, t.rules[k]? = some x := ⟨_, List.getElem?_eq_getElem h2⟩
      rw [hn.out _ hx]
      obtain ⟨g, cap, rfl⟩ := own_form h.rules (by omega)
      have hgw : g < w.heap.size := (h.rules.lt g rfl).2
      have hc : ∀ j, j < 6 → w.cell? ⟨g, k * 6 + j, none⟩ = x.cells[j]? := fun j hj => by
        obtain ⟨u, hu⟩ : ∃ u, x.cells[j]? = some u := ⟨_, List.getElem?_eq_getElem (by simp [RU.cells]; omega)⟩
        have := h.rules.cells (g := g) rfl (k * 6 + j) u (by rw [ruCells_get _ _ _ _ hx hj]; exact hu)
        rw [ptr_add] at this
        rw [this, hu]
      obtain ⟨l, r, ⟨p1, p2, p3, p4⟩⟩ := x
      have d0 : w.cell? ⟨g, k * 6, none⟩ = some (.int .i64 l) := hc 0 (by omega)
      have d1 : w.cell? ⟨g, k * 6 + 1, none⟩ = some (.int .i64 r) := hc 1 (by omega)
      have d2 : w.cell? ⟨g, k * 6 + 2, none⟩ = some (.int .i64 p1) := hc 2 (by omega)
      have d3 : w.cell? ⟨g, k * 6 + 3, none⟩ = some (.int .i64 p2) := hc 3 (by omega)
      have d4 : w.cell? ⟨g, k * 6 + 4, none⟩ = some (.int .i64 p3) := hc 4 (by omega)
      have d5 : w.cell? ⟨g, k * 6 + 5, none⟩ = some (.int .i64 p4) := hc 5 (by omega)
      show Calls _ _ _ _ (fun e w' => e = .returned (.agg #[.int .i64 l, .int .i64 r, .int .i64 p1, .int .i64 p2, .int .i64 p3, .int .i64 p4]) ∧ Kept [] w w')
      generalize t.rules.length = n at *
      have lt : (k : Int) < (n : Int) := by omega
      clear h hc hx hn ho
      go_enter Try.func117, Try.ntmps117
      go_wp2
      refine bodyPost_ret (v := .agg #[.int .i64 l, .int .i64 r, .int .i64 p1, .int .i64 p2, .int .i64 p3, .int .i64 p4]) (by simp [results, Try.results117, go_sem]) rfl ⟨rfl, hk.out _⟩
    · rw [hn.out none (List.getElem?_eq_none (by omega))]
      show Calls _ _ _ _ (fun e w' => e = .returned (.agg #[.int .i64 0, .int .i64 0, .int .i64 0, .int .i64 0, .int .i64 0, .int .i64 0]) ∧ Kept [] w w')
      have hv : ∃ a cap, rv = .slice a t.rules.length cap := by
        rcases h.rules.2 with ⟨h3, h4⟩ | ⟨g, cap, _, h3, _⟩
        · exact ⟨none, 0, by rw [h3, h4]⟩
        · exact ⟨_, cap, h3⟩
      obtain ⟨a, cap, rfl⟩ := hv
      generalize t.rules.length = n at *
      have lt : ¬ (k : Int) < (n : Int) := by omega
      clear h hn ho h2
      go_enter Try.func117, Try.ntmps117
      go_wp2
      refine bodyPost_ret (v := .agg #[.int .i64 0, .int .i64 0, .int .i64 0, .int .i64 0, .int .i64 0, .int .i64 0]) (by simp [results, Try.results117, go_sem]) rfl ⟨rfl, hk.out _⟩

end Go.Proofs.Ytgifhgnccmnbiaa
