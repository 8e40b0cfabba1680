/- Package packed: codes written: find, join, write, goOn. -/
import Derived.Test.YtgifhgnccmnbiaaZwBits
set_option linter.unusedVariables false
set_option linter.unusedSimpArgs false
namespace Go.Proofs.Ytgifhgnccmnbiaa
open Go.RowKit Go.IntWalk

abbrev Ent := Nat × Nat
def entCells (l : List Ent) : List Value := l.flatMap fun x => [.int .i64 (x.1 : Int), .int .i64 (x.2 : Int)]
theorem entCells_snoc (l : List Ent) (x : Ent) : entCells (l ++ [x]) = entCells l ++ [.int .i64 (x.1 : Int), .int .i64 (x.2 : Int)] := by simp [entCells]
theorem entCells_get : ∀ (l : List Ent) (i : Nat) (x : Ent), l[i]? = some x → (entCells l)[i * 2]? = some (.int .i64 (x.1 : Int)) ∧ (entCells l)[i * 2 + 1]? = some (.int .i64 (x.2 : Int))
  | [], i, x, h => by simp at h
  | y :: l, 0, x, h => by simp at h; subst h; exact ⟨rfl, rfl⟩
  | y :: l, i + 1, x, h => by
    simp at h
    have := entCells_get l i x h
    have e : (i + 1) * 2 = i * 2 + 1 + 1 := by omega
    rw [e]
    exact this
def zfind : List Ent → Ent → Nat → Option Nat
  | [], _, _ => none
  | y :: l, x, k => if y = x then some k else zfind l x (k + 1)
theorem zfind_none : ∀ {l : List Ent} {x : Ent} {k : Nat}, (∀ j : Nat, l[j]? ≠ some x) → zfind l x k = none
  | [], _, _, _ => rfl
  | y :: l, x, k, h => by
    rw [zfind, if_neg (fun he => h 0 (by rw [he]; rfl)), zfind_none fun j => by have := h (j + 1); simpa using this]
theorem zfind_at : ∀ {l : List Ent} {x : Ent} {k q : Nat}, l[q]? = some x → (∀ j, j < q → l[j]? ≠ some x) → zfind l x k = some (k + q)
  | [], _, _, _, h, _ => by simp at h
  | y :: l, x, k, 0, h, _ => by simp at h; rw [zfind, if_pos h]; rfl
  | y :: l, x, k, q + 1, h, h2 => by
    have h0 := h2 0 (by omega)
    rw [zfind, if_neg (fun he => h0 (by rw [he]; rfl)), zfind_at (q := q) (by simpa using h) fun j hj => by have := h2 (j + 1) (by omega); simpa using this]
    congr 1; omega
def zfindI (l : List Ent) (x : Ent) : Int :=
  match zfind l x 257 with
  | some i => (i : Int)
  | none => -1

/-- The writer in memory. -/
structure CWM (w : World) (b most V K : Nat) (tab : List Ent) (v jv : Value) : Prop where
  bits : BWL w b #[.int .i64 (most : Int), jv] 146 V (K / 8) (K % 8) v
  joined : w.ownsRow (b + 1) 199 2 jv tab.length (entCells tab)
  bd : V < 2 ^ K
structure CwOut (w w' : World) (b most V K : Nat) (tab : List Ent) : Prop where
  below : Below b w w'
  ex : ∃ v jv, CWM w' b most V K tab v jv
section
variable {w w' : World} {b most V K : Nat} {tab : List Ent} {v jv : Value}
theorem CWM.lt (h : CWM w b most V K tab v jv) : b < w.heap.size := h.bits.blk.lt
theorem CWM.c3 (h : CWM w b most V K tab v jv) : w.cell? ⟨b, 3, none⟩ = some (.int .i64 (most : Int)) := by rw [h.bits.blk.cell]; rfl
theorem CWM.c4 (h : CWM w b most V K tab v jv) : w.cell? ⟨b, 4, none⟩ = some jv := by rw [h.bits.blk.cell]; rfl
theorem infoEnt : (Try.prog.info? 199).map (fun i => (i.zero, i.size, i.bytes)) = some (some (.agg #[.int .i64 0, .int .i64 0]), 2, 16) := by kernel_rfl
end

set_option maxHeartbeats 2000000 in
set_option maxRecDepth 100000 in
theorem find_any {w : World} {b most V K : Nat} {tab : List Ent} {v jv : Value} (h : CWM w b most V K tab v jv) (hl : tab.length ≤ 5000) (a c : Nat) :
    Calls Try.prog 118 #[.pointer (some ⟨b, 0, none⟩), .int .i64 (a : Int), .int .i64 (c : Int)] w fun e w' => e = .returned (.int .i64 (zfindI tab (a, c))) ∧ w' = w := by
  have c4 := h.c4
  obtain ⟨xa, xk, xc, rfl⟩ := own_shape h.joined
  have hxk : xk = tab.length := by
    rcases h.joined.2 with ⟨h1, h2⟩ | ⟨g, cap, _, h1, _⟩
    · simp at h1; omega
    · simp at h1; omega
  subst hxk
  have hcell : Hid (∀ q x, tab[q]? = some x → ∃ g, xa = some ⟨g, 0, none⟩ ∧ w.cell? ⟨g, q * 2, none⟩ = some (.int .i64 (x.1 : Int)) ∧ w.cell? ⟨g, q * 2 + 1, none⟩ = some (.int .i64 (x.2 : Int))) := fun q x hx => by
    have hlt := (List.getElem?_eq_some_iff.1 hx).1
    obtain ⟨g, cap, hv⟩ := own_form h.joined (by omega)
    simp only [Value.slice.injEq] at hv
    obtain ⟨g1, g2⟩ := entCells_get tab q x hx
    have e1 := h.joined.cells (g := g) (by rw [hv.1]; rfl) _ _ g1
    have e2 := h.joined.cells (g := g) (by rw [hv.1]; rfl) _ _ g2
    rw [ptr_add] at e1 e2
    exact ⟨g, hv.1, e1, e2⟩
  clear h
  go_enter Try.func118, Try.ntmps118
  go_wp2_with fail
  go_loop [7] (fun iv => ∃ q : Nat, iv = .int .i64 (q : Int) ∧ q ≤ tab.length ∧ ∀ j, j < q → tab[j]? ≠ some (a, c)) (fun iv => ((tab.length : Int) - intOf iv).toNat)
  case atStart => exact ⟨0, rfl, Nat.zero_le _, fun j hj => by omega⟩
  case round =>
    obtain ⟨q, rfl, hq, hall⟩ := hrel
    have hallH : Hid (∀ j, _) := hall
    clear hall
    by_cases hlt : (q : Int) < (tab.length : Int)
    · obtain ⟨x, hx⟩ : ∃ x, tab[q]? = some x := ⟨_, List.getElem?_eq_getElem (by omega)⟩
      obtain ⟨g, rfl, e1, e2⟩ := hcell.out q x hx
      have hyes : Hid (x = (a, c) → zfindI tab (a, c) = 257 + (q : Int)) := fun he => by
        unfold zfindI
        rw [zfind_at (q := q) (by rw [hx, he]) hallH.out]
        simp only []; omega
      have hno : Hid (x ≠ (a, c) → ∀ j, j < q + 1 → tab[j]? ≠ some (a, c)) := fun he j hj => by
        by_cases hjq : j = q
        · subst hjq; rw [hx]; simpa using he
        · exact hallH.out j (by omega)
      obtain ⟨x1, x2⟩ := x
      simp only [] at e1 e2
      clear hx hallH
      by_cases h1 : (x1 : Int) = (a : Int)
      · by_cases h2 : (x2 : Int) = (c : Int)
        · have e : Hid (_ = _) := hyes.out (by rw [Prod.mk.injEq]; omega)
          have b1 : ((x1 : Int) == (a : Int)) = true := beq_iff_eq.2 h1
          have b2 : ((x2 : Int) == (c : Int)) = true := beq_iff_eq.2 h2
          clear hyes hno h1 h2
          go_wp2
          go_ret
          exact ⟨by rw [e.out]; rfl, rfl⟩
        · have e : Hid (∀ j, _) := hno.out (fun hc => by rw [Prod.mk.injEq] at hc; omega)
          have b1 : ((x1 : Int) == (a : Int)) = true := beq_iff_eq.2 h1
          have b2 : ((x2 : Int) == (c : Int)) = false := beq_eq_false_iff_ne.2 h2
          clear hyes hno h1 h2
          go_wp2
          refine ⟨⟨q + 1, by go_num, by omega, e.out⟩, ?_⟩
          simp only [intOf]; omega
      · have e : Hid (∀ j, _) := hno.out (fun hc => by rw [Prod.mk.injEq] at hc; omega)
        have b1 : ((x1 : Int) == (a : Int)) = false := beq_eq_false_iff_ne.2 h1
        clear hyes hno h1
        go_wp2
        refine ⟨⟨q + 1, by go_num, by omega, e.out⟩, ?_⟩
        simp only [intOf]; omega
    · have hqe : q = tab.length := by omega
      have e : Hid (zfindI tab (a, c) = -1) := by
        show zfindI _ _ = _
        unfold zfindI
        rw [zfind_none fun j => ?_]
        by_cases hj : j < q
        · exact hallH.out j hj
        · rw [List.getElem?_eq_none (by omega)]; simp
      clear hqe hallH hcell
      go_wp2
      go_ret
      exact ⟨by rw [e.out]; rfl, rfl⟩

def zjoin (most : Nat) (tab : List Ent) (x : Ent) : List Ent := if 257 + tab.length < 2 ^ most then tab ++ [x] else tab

set_option maxHeartbeats 2000000 in
set_option maxRecDepth 100000 in
theorem join_any {w : World} {b most V K : Nat} {tab : List Ent} {v jv : Value} (h : CWM w b most V K tab v jv) (hl : tab.length ≤ 5000) (hm : most ≤ 12) (a c : Nat) :
    Calls Try.prog 119 #[.pointer (some ⟨b, 0, none⟩), .int .i64 (a : Int), .int .i64 (c : Int)] w fun e w' => e = .returned (.tuple #[]) ∧ CwOut w w' b most V K (zjoin most tab (a, c)) := by
  have c4 := h.c4
  have c3 := h.c3
  have hbl := h.lt
  obtain ⟨xa, xk, xc, rfl⟩ := own_shape h.joined
  have hxk : xk = tab.length := by
    rcases h.joined.2 with ⟨h1, h2⟩ | ⟨g, cap, _, h1, _⟩
    · simp at h1; omega
    · simp at h1; omega
  subst hxk
  have hz : Hid (zjoin most tab (a, c) = if 257 + tab.length < 2 ^ most then tab ++ [(a, c)] else tab) := rfl
  obtain ⟨P, hP⟩ : ∃ P, 2 ^ most = P := ⟨_, rfl⟩
  have hp : P ≤ 4096 := by rw [← hP]; exact Nat.pow_le_pow_right (by decide) hm
  have he : ((2 : Int) ^ most) = (P : Int) := by rw [← hP]; simp [Int.natCast_pow]
  rw [hP] at hz
  clear hP
  have hw1 : wrap64 ((2 : Int) ^ most) = (P : Int) := by rw [he]; exact wrap64_in _ (by omega)
  have hw2 : wrap64 (1 * (2 : Int) ^ most) = (P : Int) := by rw [Int.one_mul]; exact hw1
  clear he
  have hH : Hid (CWM _ _ _ _ _ _ _ _) := h
  clear h
  by_cases hr : 257 + tab.length < P
  · rw [if_pos hr] at hz
    have hr2 : (257 : Int) + (tab.length : Int) < (P : Int) := by omega
    obtain ⟨i0, hi0, hz0, hz1, hz2⟩ := info_parts infoEnt
    have own : ∀ o, (w.alloc o).ownsRow (b + 1) 199 2 (.slice xa tab.length xc) tab.length (entCells tab) := fun o => row_stay (S := []) hH.out.joined ((Kept.refl [] w).alloc o) (fun _ _ => by simp)
    have mb : tab.length + 1 ≤ maxLen := by unfold maxLen; omega
    have hnext : Hid (∀ (w3 : World) (g cap : Nat) (o : Obj), w3.ownsRow (b + 1) 199 2 (.slice (some ⟨g, 0, none⟩) (tab.length + 1) cap) (tab.length + 1) (entCells tab ++ [.int .i64 (a : Int), .int .i64 (c : Int)]) → (w.alloc o).grownBy w3 (Value.slice xa tab.length xc).ownBlock →
        Blk w3 b (#[v, .int .i64 ((V / 256 ^ (K / 8) : Nat) : Int), .int .i64 ((K % 8 : Nat) : Int)] ++ #[.int .i64 (most : Int), .slice xa tab.length xc]) 146 ∧ CwOut w (w3.setCell ⟨b, 4, none⟩ (.slice (some ⟨g, 0, none⟩) (tab.length + 1) cap)) b most V K (tab ++ [(a, c)])) := fun w3 g cap o hown hg => by
      have hk0 : Kept [] w (w.alloc o) := (Kept.refl [] w).alloc o
      have hne : ∀ i, i ≤ b → some i ≠ (Value.slice xa tab.length xc).ownBlock := fun i hi hc => by have := (hH.out.joined.lt i hc.symm).1; omega
      have hb3 := (hg.block b (by have := hk0.size; omega) (hne b (Nat.le_refl _))).trans (hH.out.bits.blk.kept hk0 (by simp))
      have hbel : Below b w w3 := (hk0.below (Nat.le_of_lt hbl) (by simp)).trans ⟨hg.os, hg.tape, hg.output, hg.size, fun i hi => hg.block i (by have := hk0.size; omega) (hne i (by omega))⟩
      have hrow0 := row_stay (S := []) hH.out.bits.row hk0 (fun _ _ => by simp)
      have hrow := World.ownsRow.kept hrow0 hg (own_ne hrow0 (row_stay (S := []) hH.out.joined hk0 (fun _ _ => by simp)) (by decide))
      refine ⟨hb3, hbel.setCell (Nat.le_refl _) _, v, .slice (some ⟨g, 0, none⟩) (tab.length + 1) cap, ⟨⟨?_, row_set hrow (Nat.lt_succ_self b) _ _⟩, ?_, hH.out.bd⟩⟩
      · exact Blk.set hb3 4 (.slice (some ⟨g, 0, none⟩) (tab.length + 1) cap)
      · rw [entCells_snoc, List.length_append]
        exact row_set hown (Nat.lt_succ_self b) _ _
    go_enter Try.func119, Try.ntmps119
    go_wp2_with (at_builtin; refine wpList_append_own _ rfl (.tmp 25) (.tmp 29) 144 rfl (b + 1) 199 i0 _ 2 16 Try.underlying144 hi0 hz0 hz1 hz2 rfl (by decide) (.slice xa tab.length xc) tab.length (entCells tab) rfl ?own ⟨w.heap.size, 0, none⟩ 1 1 [.int .i64 (a : Int), .int .i64 (c : Int)] rfl rfl ?c1 ?c2 ?b1 ?b2 ?b3 ?kk)
    case own => exact own _
    case c1 => exact cells_new _ _ _ _ rfl
    case c2 => simp [Value.oneCell']
    case b1 => exact mb
    case b2 => omega
    case b3 => simp; omega
    case kk =>
      intro v' w3 hown hgrow _
      obtain ⟨g, cap, rfl⟩ := own_form hown (by omega)
      obtain ⟨hb3, ho⟩ := hnext.out w3 g cap _ hown hgrow
      have e4 : w3.cell? ⟨b, 4, none⟩ = some (.slice xa tab.length xc) := Blk.cell hb3 4
      have f4 := Blk.frozen hb3 4
      have hb3l := Blk.lt hb3
      have ho : Hid (CwOut _ _ _ _ _ _ _) := ho
      clear hb3 hown hgrow own
      go_wp2
      go_end0
      exact ⟨rfl, by rw [hz.out]; exact ho.out⟩
  · rw [if_neg hr] at hz
    have hr2 : (P : Int) ≤ (257 : Int) + (tab.length : Int) := by omega
    have ho : Hid (CwOut w w b most V K tab) := ⟨Below.refl _ _, _, _, hH.out⟩
    go_enter Try.func119, Try.ntmps119
    go_wp2
    go_end0
    exact ⟨rfl, by rw [hz.out]; exact ho.out⟩

def zwid (most : Nat) (tab : List Ent) : Nat := widP (if 0 < tab.length then 257 + (tab.length - 1) else 257) most

set_option maxHeartbeats 2000000 in
set_option maxRecDepth 100000 in
theorem cwrite_any {w : World} {b most V K : Nat} {tab : List Ent} {v jv : Value} (h : CWM w b most V K tab v jv) (hl : tab.length ≤ 5000) (hm : most ≤ 12) (hK : K ≤ 800000) (a : Nat) (ha : a < 2 ^ zwid most tab) :
    Calls Try.prog 83 #[.pointer (some ⟨b, 0, none⟩), .int .i64 (a : Int)] w fun e w' => e = .returned (.tuple #[]) ∧ CwOut w w' b most (V + a * 2 ^ K) (K + zwid most tab) tab := by
  have c4 := h.c4
  have c3 := h.c3
  have hbl := h.lt
  obtain ⟨xa, xk, xc, rfl⟩ := own_shape h.joined
  have hxk : xk = tab.length := by
    rcases h.joined.2 with ⟨h1, h2⟩ | ⟨g, cap, _, h1, _⟩
    · simp at h1; omega
    · simp at h1; omega
  subst hxk
  have hwd : zwid most tab ≤ 12 := by unfold zwid; exact (widP_bd _ _).2
  have hfin : Hid (∀ w', NumOut w w' b #[.int .i64 (most : Int), .slice xa tab.length xc] 146 (V + a * 2 ^ K) (K + zwid most tab) → CwOut w w' b most (V + a * 2 ^ K) (K + zwid most tab) tab) := fun w' o => by
    obtain ⟨v1, hW⟩ := o.ex
    refine ⟨o.below, v1, _, ⟨hW, ?_, o.bd⟩⟩
    refine ⟨h.joined.1, ?_⟩
    rcases h.joined.2 with h1 | ⟨g, cap, cur, h1, h2, h3, h4⟩
    · exact Or.inl h1
    · exact Or.inr ⟨g, cap, cur, h1, h2, o.stay g cur _ (by omega) (by decide) h3, h4⟩
  have hn : Hid (Calls _ _ _ w _) := number_any w b #[.int .i64 (most : Int), .slice xa tab.length xc] 146 V K v h.bits (by decide) h.bd a (zwid most tab) ha (by omega) (by omega)
  have hwH : Hid (∀ f : Nat, f ≤ 1000000 → ∀ w, Calls _ _ _ w _) := fun f hf w => widthOf_any f most hf hm w
  clear h ha
  by_cases h0 : (0 : Int) < (tab.length : Int)
  · have hz : Hid (widP (257 + (tab.length - 1)) most = zwid most tab) := by show _ = _; unfold zwid; rw [if_pos (by omega)]
    have hcw : Hid (∀ w, Calls Try.prog 120 #[.int .i64 (257 + ((tab.length : Int) - 1)), .int .i64 (most : Int)] w fun e w' => e = .returned (.int .i64 (zwid most tab : Int)) ∧ w' = w) := fun w => by
      have := hwH.out (257 + (tab.length - 1)) (by omega) w
      rw [hz.out] at this
      rwa [show ((257 + (tab.length - 1) : Nat) : Int) = 257 + ((tab.length : Int) - 1) by omega] at this
    clear hwH hz
    generalize zwid most tab = W at *
    go_enter Try.func83, Try.ntmps83
    go_wp2_with (first
      | (go_at_call 120; refine (hcw.out _).mono ?_; rintro _ _ ⟨rfl, rfl⟩)
      | (go_at_call 81; refine hn.out.mono ?_; rintro _ w2 ⟨rfl, o2⟩))
    go_end0
    exact ⟨rfl, hfin.out _ o2⟩
  · have hz : Hid (widP 257 most = zwid most tab) := by show _ = _; unfold zwid; rw [if_neg (by omega)]
    have hcw : Hid (∀ w, Calls Try.prog 120 #[.int .i64 257, .int .i64 (most : Int)] w fun e w' => e = .returned (.int .i64 (zwid most tab : Int)) ∧ w' = w) := fun w => by
      have := hwH.out 257 (by omega) w
      rwa [hz.out] at this
    clear hwH hz
    generalize zwid most tab = W at *
    go_enter Try.func83, Try.ntmps83
    go_wp2_with (first
      | (go_at_call 120; refine (hcw.out _).mono ?_; rintro _ _ ⟨rfl, rfl⟩)
      | (go_at_call 81; refine hn.out.mono ?_; rintro _ w2 ⟨rfl, o2⟩))
    go_end0
    exact ⟨rfl, hfin.out _ o2⟩

end Go.Proofs.Ytgifhgnccmnbiaa
