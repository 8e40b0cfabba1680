/- The machine: does a list of items hold a byte; the other case of a letter. -/
import Derived.Test.YtjhmkkhnnijigaaMach
set_option linter.unusedVariables false
set_option linter.unusedSimpArgs false
namespace Go.Proofs.Ytjhmkkhnnijigaa
open Go.RowKit Go.IntWalk

def holdsP (its : List (Int × Int)) (c : Int) : Bool := its.any fun x => decide (x.1 ≤ c) && decide (c ≤ x.2)
def otherC (c : Nat) : Nat := if 65 ≤ c ∧ c ≤ 90 then c + 32 else if 97 ≤ c ∧ c ≤ 122 then c - 32 else c

theorem itemCells_get : ∀ (l : List (Int × Int)) (i : Nat) (x : Int × Int), l[i]? = some x → (itemCells l)[i * 2]? = some (.int .i64 x.1) ∧ (itemCells l)[i * 2 + 1]? = some (.int .i64 x.2)
  | [], i, x, h => by simp at h
  | y :: l, 0, x, h => by simp at h; subst h; exact ⟨rfl, rfl⟩
  | y :: l, i + 1, x, h => by
    simp at h
    have := itemCells_get l i x h
    have e : (i + 1) * 2 = i * 2 + 1 + 1 := by omega
    rw [e]
    exact this

theorem ItemsOk.keep {w w' : World} {B : Nat} {x : IV} {its : List (Int × Int)} {S : List Nat} (h : ItemsOk w B x its) (k : Kept S w w') (hs : ∀ g, g ∈ S → (ivV x).ownBlock ≠ some g) : ItemsOk w' B x its := by
  refine ⟨h.1, ?_⟩
  rcases h.2 with h1 | ⟨g, cap, cur, h1, h2, h3, h4⟩
  · exact Or.inl h1
  · have hlt : g < w.heap.size := (Array.getElem?_eq_some_iff.1 h3).1
    refine Or.inr ⟨g, cap, cur, h1, h2, (k.block g hlt (fun hc => ?_)).trans h3, h4⟩
    have := hs g hc
    rw [h1] at this
    exact this rfl
theorem ItemsOk.same {w w' : World} {B : Nat} {x : IV} {its : List (Int × Int)} (h : ItemsOk w B x its) (k : w'.heap = w.heap) : ItemsOk w' B x its := by
  refine ⟨h.1, ?_⟩
  rcases h.2 with h1 | ⟨g, cap, cur, h1, h2, h3, h4⟩
  · exact Or.inl h1
  · exact Or.inr ⟨g, cap, cur, h1, h2, by rw [k]; exact h3, h4⟩

set_option maxHeartbeats 2000000 in
set_option maxRecDepth 100000 in
theorem holds_any (its : List (Int × Int)) (B : Nat) (x : IV) (c : Int) (w : World) (h : ItemsOk w B x its) (hl : its.length ≤ 1000) (hc0 : 0 ≤ c) (hc : c ≤ 255) :
    Calls Try.prog 107 #[.slice x.1 x.2.1 x.2.2, .int .i64 c] w fun e w' => e = .returned (.bool (holdsP its c)) ∧ w' = w := by
  obtain ⟨a, cap, hx⟩ : ∃ a cap, ivV x = .slice a its.length cap := by
    rcases h.2 with ⟨h1, h2⟩ | ⟨g, cap, _, h1, _⟩
    · exact ⟨none, 0, by rw [h1, h2]⟩
    · exact ⟨_, cap, h1⟩
  have hx' : Value.slice x.1 x.2.1 x.2.2 = .slice a its.length cap := hx
  rw [hx']
  clear hx'
  go_enter Try.func107, Try.ntmps107
  go_wp2_with fail
  go_loop [5] (fun iv => ∃ q : Nat, iv = .int .i64 (q : Int) ∧ q ≤ its.length ∧ holdsP (its.take q) c = false) (fun iv => ((its.length : Int) - intOf iv).toNat)
  case atStart => exact ⟨0, rfl, by omega, rfl⟩
  case round =>
    obtain ⟨q, rfl, hq, hno⟩ := hrel
    by_cases hlt : (q : Int) < (its.length : Int)
    · have hqn : q < its.length := by omega
      obtain ⟨y, hy⟩ : ∃ y, its[q]? = some y := ⟨_, List.getElem?_eq_getElem hqn⟩
      obtain ⟨g, cap', hv⟩ := own_form h (by omega)
      rw [hx] at hv
      simp only [Value.slice.injEq] at hv
      obtain ⟨rfl, _, rfl⟩ := hv
      obtain ⟨g1, g2⟩ := itemCells_get its q y hy
      have hown : w.ownsRow B 176 2 (.slice (some ⟨g, 0, none⟩) its.length cap) its.length (itemCells its) := by have := h; unfold ItemsOk at this; rwa [hx] at this
      have c1 := hown.cells (g := g) rfl _ _ g1
      have c2 := hown.cells (g := g) rfl _ _ g2
      rw [show (⟨g, 0, none⟩ : Addr).add (q * 2) = ⟨g, q * 2, none⟩ by simp [Addr.add]; omega] at c1
      rw [show (⟨g, 0, none⟩ : Addr).add (q * 2 + 1) = ⟨g, q * 2 + 1, none⟩ by simp [Addr.add]] at c2
      have hsnoc : its.take (q + 1) = its.take q ++ [y] := by rw [List.take_add_one, hy]; rfl
      have hnext : Hid (¬ (y.1 ≤ c ∧ c ≤ y.2) → holdsP (its.take (q + 1)) c = false) := fun hn => by
        unfold holdsP at *
        rw [hsnoc, List.any_append, hno]
        simpa using fun h1 => by have := fun h2 => hn ⟨h1, h2⟩; omega
      have hyes : Hid (y.1 ≤ c → c ≤ y.2 → holdsP its c = true) := fun h1 h2 => by
        unfold holdsP
        exact List.any_eq_true.2 ⟨y, List.mem_of_getElem? hy, by simp [h1, h2]⟩
      clear hx hown g1 g2 hno hsnoc hy h
      generalize hlo : y.1 = lo at *
      generalize hhi : y.2 = hi at *
      clear hlo hhi
      by_cases h1 : lo ≤ c
      · by_cases h2 : c ≤ hi
        · have hyH : Hid (holdsP its c = true) := hyes.out h1 h2
          clear hyes hnext
          go_wp2
          go_ret
          exact ⟨by rw [hyH.out]; rfl, rfl⟩
        · have hnH : Hid _ := hnext.out (fun hc => h2 hc.2)
          clear hyes hnext
          have h2 : hi < c := by omega
          go_wp2
          refine ⟨⟨q + 1, by go_num, by omega, hnH.out⟩, ?_⟩
          simp only [intOf]; omega
      · have hnH : Hid _ := hnext.out (fun hc => h1 hc.1)
        clear hyes hnext
        have h1 : c < lo := by omega
        go_wp2
        refine ⟨⟨q + 1, by go_num, by omega, hnH.out⟩, ?_⟩
        simp only [intOf]; omega
    · have hqe : q = its.length := by omega
      subst hqe
      rw [List.take_length] at hno
      have hnH : Hid (_ = _) := hno
      clear hno hx h
      go_wp2
      go_ret
      exact ⟨by rw [hnH.out]; rfl, rfl⟩

set_option maxHeartbeats 1000000 in
theorem otherCase_any (c : Nat) (hc : c < 256) (w : World) :
    Calls Try.prog 108 #[.int .i64 (c : Int)] w fun e w' => e = .returned (.int .i64 (otherC c : Int)) ∧ w' = w := by
  by_cases h1 : 65 ≤ c ∧ c ≤ 90
  · obtain ⟨a1, a2⟩ := h1
    have e : Hid (((otherC c : Nat) : Int) = (c : Int) - 65 + 97) := by show ((otherC c : Nat) : Int) = _; unfold otherC; rw [if_pos ⟨a1, a2⟩]; omega
    go_enter Try.func108, Try.ntmps108
    go_wp2
    go_ret
    exact ⟨ret_int (by have := e.out; omega), rfl⟩
  · by_cases h2 : 97 ≤ c ∧ c ≤ 122
    · obtain ⟨a1, a2⟩ := h2
      clear h1
      have e : Hid (((otherC c : Nat) : Int) = (c : Int) - 97 + 65) := by show ((otherC c : Nat) : Int) = _; unfold otherC; rw [if_neg (by omega), if_pos ⟨a1, a2⟩]; omega
      go_enter Try.func108, Try.ntmps108
      go_wp2
      go_ret
      exact ⟨ret_int (by have := e.out; omega), rfl⟩
    · have e : Hid (otherC c = c) := by show otherC c = c; unfold otherC; rw [if_neg h1, if_neg h2]
      have cs : c < 65 ∨ (90 < c ∧ c < 97) ∨ 122 < c := by omega
      clear h1 h2
      rcases cs with h1 | ⟨h1, h2⟩ | h1 <;>
      · go_enter Try.func108, Try.ntmps108
        go_wp2
        go_ret
        exact ⟨ret_int (by rw [e.out]), rfl⟩

end Go.Proofs.Ytjhmkkhnnijigaa
