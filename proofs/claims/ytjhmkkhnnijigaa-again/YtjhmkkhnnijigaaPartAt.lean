/- The machine: the parts so far, in a row of their own; one of them; repeated. -/
import Derived.Test.YtjhmkkhnnijigaaRep
set_option linter.unusedVariables false
set_option linter.unusedSimpArgs false
namespace Go.Proofs.Ytjhmkkhnnijigaa
open Go.RowKit Go.IntWalk

def partsCells (ps : List GP) : List Value := (ps.map fun p => (gpCells p).toList).flatten
theorem partsCells_length (ps : List GP) : (partsCells ps).length = ps.length * 124 := by
  unfold partsCells
  induction ps with
  | nil => rfl
  | cons p ps ih => simp only [List.map_cons, List.flatten_cons, List.length_append, List.length_cons, ih, Array.length_toList, gpCells_size]; omega
theorem partsCells_snoc (ps : List GP) (p : GP) : partsCells (ps ++ [p]) = partsCells ps ++ (gpCells p).toList := by simp [partsCells]
theorem partsCells_get : ∀ (ps : List GP) (i j : Nat) (p : GP), ps[i]? = some p → j < 124 → (partsCells ps)[i * 124 + j]? = (gpCells p)[j]?
  | [], i, j, p, h, _ => by simp at h
  | q :: ps, 0, j, p, h, hj => by
    simp at h; subst h
    have e : partsCells (q :: ps) = (gpCells q).toList ++ partsCells ps := by simp [partsCells]
    rw [e, Nat.zero_mul, Nat.zero_add, List.getElem?_append_left (by simpa using hj)]
    simp
  | q :: ps, i + 1, j, p, h, hj => by
    simp at h
    have e : partsCells (q :: ps) = (gpCells q).toList ++ partsCells ps := by simp [partsCells]
    rw [e, List.getElem?_append_right (by simp; omega)]
    have e2 : (i + 1) * 124 + j - (gpCells q).toList.length = i * 124 + j := by simp; omega
    rw [e2]
    exact partsCells_get ps i j p h hj

/-- The parts so far. -/
def PartsIn (w : World) (B : Nat) (v : Value) (ps : List GP) : Prop := w.ownsRow B 102 124 v ps.length (partsCells ps)

theorem PartsIn.range {w : World} {B g cap : Nat} {ps : List GP} (h : PartsIn w B (.slice (some ⟨g, 0, none⟩) ps.length cap) ps) {i : Nat} {p : GP} (hp : ps[i]? = some p) : w.rangeAt g (i * 124) (gpCells p).toList := fun j v hv => by
  have hj : j < 124 := by have := (List.getElem?_eq_some_iff.1 hv).1; simpa using this
  have h1 := World.ownsRow.cells h (g := g) rfl (i * 124 + j) v (by rw [partsCells_get ps i j p hp hj, ← hv, Array.getElem?_toList])
  rwa [show (⟨g, 0, none⟩ : Addr).add (i * 124 + j) = ⟨g, i * 124 + j, none⟩ by simp [Addr.add]; omega] at h1

/-- A part read out of the middle of a block. -/
theorem wpList_load_part_mid {ops : Array Oper} {rest : List Oper} {o : Oper} {a : Act} {w : World} {Q : Exit → Act → World → Prop} (hgd : o.guard = none) (x : Operand) (ho : o.op = .load 102 x)
    (g off : Nat) (hx : a.eval x = .pointer (some ⟨g, off, none⟩)) (p : GP) (hg : w.rangeAt g off (gpCells p).toList)
    (h : wpList Try.prog ops Q rest (a.put o.dst (.agg (gpCells p))) w) : wpList Try.prog ops Q (o :: rest) a w :=
  wpList_load_mid hgd _ x ho g off hx (gpCells p).toList _ hg Try.underlying102 rfl (by simpa using size_part) (by simpa using h)

def partAtP (ps : List GP) (i : Int) : GP := if 0 ≤ i then (ps[i.toNat]?).getD noneP else noneP

set_option maxHeartbeats 2000000 in
set_option maxRecDepth 100000 in
theorem partAt_any (ps : List GP) (B : Nat) (v : Value) (i : Int) (w : World) (h : PartsIn w B v ps) (hl : ps.length ≤ 1000) (hi : -1000 ≤ i) (hi2 : i ≤ 1000) :
    PartCall 103 #[v, .int .i64 i] w (partAtP ps i) := by
  unfold PartCall
  have hz := zeroV_part
  by_cases hr : 0 ≤ i ∧ i < (ps.length : Int)
  · obtain ⟨hr1, hr2⟩ := hr
    obtain ⟨k, rfl⟩ : ∃ k : Nat, i = (k : Int) := ⟨i.toNat, by omega⟩
    have hk : k < ps.length := by omega
    obtain ⟨p, hp⟩ : ∃ p, ps[k]? = some p := ⟨_, List.getElem?_eq_getElem hk⟩
    obtain ⟨g, cap, rfl⟩ := own_form h (by omega)
    have e : partAtP ps (k : Int) = p := by unfold partAtP; rw [if_pos (by omega), Int.toNat_natCast, hp]; rfl
    rw [e]
    have hrg := h.range hp
    have hrg2 := World.rangeAt_alloc hrg (.cells (gpCells {}) 102)
    clear h e hp hrg hr1
    have hr2 : (k : Int) < (ps.length : Int) := hr2
    go_enter Try.func103, Try.ntmps103
    go_wp2_with (first
      | (with_reducible refine wpList_load_part_mid ?_ (.tmp 16) ?_ g (k * 124) ?_ p ?_ ?_
         · rfl
         · rfl
         · first | rfl | (simp [Act.eval])
         · exact hrg2)
      | (with_reducible refine wpList_store_part ?_ (.tmp 4) (.tmp 17) ?_ w.heap.size ?_ {} p ?_ ?_ ?_
         · rfl
         · rfl
         · rfl
         · rfl
         · exact Blk.new w (gpCells {}) 102
         intro w8 hb8 hk8 hs8))
    exact bodyPost_ret (v := .agg (gpCells p)) (results_part Try.results103 _ _ _ p rfl hb8) rfl ⟨rfl, ((Kept.refl [] w).alloc _).into hk8 (by omega)⟩
  · have e : partAtP ps i = noneP := by
      unfold partAtP
      split
      · rw [List.getElem?_eq_none (by omega)]; rfl
      · rfl
    rw [e]
    clear e
    obtain ⟨a, cap, rfl⟩ : ∃ a cap, v = .slice a ps.length cap := by
      rcases h.2 with ⟨h1, h2⟩ | ⟨g, cap, _, h1, _⟩
      · exact ⟨none, 0, by rw [h1, h2]⟩
      · exact ⟨_, cap, h1⟩
    by_cases hneg : i < 0
    · go_enter Try.func103, Try.ntmps103
      go_wp2_with (first
        | (refine wpList_build_none rfl rfl ?_)
        | (with_reducible refine wpList_store_part ?_ (.tmp 4) (.tmp 13) ?_ w.heap.size ?_ {} noneP ?_ ?_ ?_
           · rfl
           · rfl
           · rfl
           · rfl
           · exact Blk.new w (gpCells {}) 102
           intro w8 hb8 hk8 hs8))
      exact bodyPost_ret (v := .agg (gpCells noneP)) (results_part Try.results103 _ _ _ noneP rfl hb8) rfl ⟨rfl, ((Kept.refl [] w).alloc _).into hk8 (by omega)⟩
    · have hge : (ps.length : Int) ≤ i := by omega
      go_enter Try.func103, Try.ntmps103
      go_wp2_with (first
        | (refine wpList_build_none rfl rfl ?_)
        | (with_reducible refine wpList_store_part ?_ (.tmp 4) (.tmp 13) ?_ w.heap.size ?_ {} noneP ?_ ?_ ?_
           · rfl
           · rfl
           · rfl
           · rfl
           · exact Blk.new w (gpCells {}) 102
           intro w8 hb8 hk8 hs8))
      exact bodyPost_ret (v := .agg (gpCells noneP)) (results_part Try.results103 _ _ _ noneP rfl hb8) rfl ⟨rfl, ((Kept.refl [] w).alloc _).into hk8 (by omega)⟩

/-- Repeated, by the numbers of a node. -/
def repP (a : GP) (least most : Int) : GP :=
  if most = -1 then copiesP a true least.toNat (if least.toNat < 1 then 1 else least.toNat) (if least.toNat < 1 then 1 else least.toNat)
  else copiesP a false least.toNat most.toNat most.toNat
def repN (least most : Int) : Nat := if most = -1 then (if least.toNat < 1 then 1 else least.toNat) else most.toNat
theorem repeated_any (a : GP) (ha : a.Fit) (least most : Int) (h0 : 0 ≤ least) (h9 : least ≤ 9) (m0 : -1 ≤ most) (m9 : most ≤ 9) (hr : repN least most * a.count ≤ 60) (w : World) :
    PartCall 106 #[.agg (gpCells a), .int .i64 least, .int .i64 most] w (repP a least most) := by
  obtain ⟨l, rfl⟩ : ∃ l : Nat, least = (l : Int) := ⟨least.toNat, by omega⟩
  unfold repN at hr
  unfold repP
  rw [Int.toNat_natCast] at *
  by_cases hm : most = -1
  · subst hm
    rw [if_pos rfl] at *
    by_cases hl : l < 1
    · obtain rfl : l = 0 := by omega
      exact repeated_star a ha (by simpa using hr) w
    · rw [if_neg hl] at *
      exact repeated_from a ha l (by omega) (by omega) hr w
  · obtain ⟨t, rfl⟩ : ∃ t : Nat, most = (t : Int) := ⟨most.toNat, by omega⟩
    rw [if_neg hm] at *
    rw [Int.toNat_natCast] at *
    exact repeated_upto a ha l t (by omega) (by omega) hr w

end Go.Proofs.Ytjhmkkhnnijigaa
