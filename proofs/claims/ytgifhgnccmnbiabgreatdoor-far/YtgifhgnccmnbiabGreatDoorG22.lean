/- Package packed: codes written: find, join, write, goOn. -/
import Derived.Test.YtgifhgnccmnbiabGreatDoorG21
import Derived.WalkSmall
set_option linter.unusedVariables false
set_option linter.unusedSimpArgs false
namespace Go.Proofs.YtgifhgnccmnbiabGreatDoor
open Go.RowKit Go.IntWalk

abbrev Ent := Nat × Nat
def entCells (l : List Ent) : List Value := l.flatMap fun x => [.int .i64 (x.1 : Int), .int .i64 (x.2 : Int)]
theorem entCells_snoc (l : List Ent) (x : Ent) : entCells (l ++ [x]) = entCells l ++ [.int .i64 (x.1 : Int), .int .i64 (x.2 : Int)] := by simp [entCells]
theorem entCells_get : ∀ (l : List Ent) (i : Nat) (x : Ent), l[i]? = some x → (entCells l)[i * 2]? = some (.int .i64 (x.1 : Int)) ∧ (entCells l)[i * 2 + 1]? = some (.int .i64 (x.2 : Int))
  | [], i, x, h => by simp at h
  | y :: l, 0, x, h => by simp at h; subst h; exact ⟨rfl, rfl⟩
  | y :: l, i + 1, x, h => by
    simp at h
    have := entCells_get l i x h
    have e : (i + 1) * 2 = i * 2 + 1 + 1 := by omega
    rw [e]
    exact this
def zfind : List Ent → Ent → Nat → Option Nat
  | [], _, _ => none
  | y :: l, x, k => if y = x then some k else zfind l x (k + 1)
theorem zfind_none : ∀ {l : List Ent} {x : Ent} {k : Nat}, (∀ j : Nat, l[j]? ≠ some x) → zfind l x k = none
  | [], _, _, _ => rfl
  | y :: l, x, k, h => by
    rw [zfind, if_neg (fun he => h 0 (by rw [he]; rfl)), zfind_none fun j => by have := h (j + 1); simpa using this]
theorem zfind_at : ∀ {l : List Ent} {x : Ent} {k q : Nat}, l[q]? = some x → (∀ j, j < q → l[j]? ≠ some x) → zfind l x k = some (k + q)
  | [], _, _, _, h, _ => by simp at h
  | y :: l, x, k, 0, h, _ => by simp at h; rw [zfind, if_pos h]; rfl
  | y :: l, x, k, q + 1, h, h2 => by
    have h0 := h2 0 (by omega)
    rw [zfind, if_neg (fun he => h0 (by rw [he]; rfl)), zfind_at (q := q) (by simpa using h) fun j hj => by have := h2 (j + 1) (by omega); simpa using this]
    congr 1; omega
def zfindI (l : List Ent) (x : Ent) : Int :=
  match zfind l x 257 with
  | some i => (i : Int)
  | none => -1

/-- The writer in memory. -/
structure CWM (w : World) (b most V K : Nat) (tab : List Ent) (v jv : Value) : Prop where
  bits : BWL w b #[.int .i64 (most : Int), jv] 133 V (K / 8) (K % 8) v
  joined : w.ownsRow (b + 1) 236 2 jv tab.length (entCells tab)
  bd : V < 2 ^ K
structure CwOut (w w' : World) (b most V K : Nat) (tab : List Ent) : Prop where
  below : Below b w w'
  ex : ∃ v jv, CWM w' b most V K tab v jv
section
variable {w w' : World} {b most V K : Nat} {tab : List Ent} {v jv : Value}
theorem CWM.lt (h : CWM w b most V K tab v jv) : b < w.heap.size := h.bits.blk.lt
theorem CWM.c3 (h : CWM w b most V K tab v jv) : w.cell? ⟨b, 3, none⟩ = some (.int .i64 (most : Int)) := by rw [h.bits.blk.cell]; rfl
theorem CWM.c4 (h : CWM w b most V K tab v jv) : w.cell? ⟨b, 4, none⟩ = some jv := by rw [h.bits.blk.cell]; rfl
theorem infoEnt : (Tryz.prog.info? 236).map (fun i => (i.zero, i.size, i.bytes)) = some (some (.agg #[.int .i64 0, .int .i64 0]), 2, 16) := by kernel_rfl
end

set_option maxHeartbeats 2000000 in
set_option maxRecDepth 100000 in
theorem find_any {w : World} {b most V K : Nat} {tab : List Ent} {v jv : Value} (h : CWM w b most V K tab v jv) (hl : tab.length ≤ 5000) (a c : Nat) :
    Calls Tryz.prog 118 #[.pointer (some ⟨b, 0, none⟩), .int .i64 (a : Int), .int .i64 (c : Int)] w fun e w' => e = .returned (.int .i64 (zfindI tab (a, c))) ∧ w' = w := by
  have c4 := h.c4
  obtain ⟨xa, xk, xc, rfl⟩ := own_shape h.joined
  have hxk : xk = tab.length := by
    rcases h.joined.2 with ⟨h1, h2⟩ | ⟨g, cap, _, h1, _⟩
    · simp at h1; omega
    · simp at h1; omega
  subst hxk
  have hcell : Hid (∀ q x, tab[q]? = some x → ∃ g, xa = some ⟨g, 0, none⟩ ∧ w.cell? ⟨g, q * 2, none⟩ = some (.int .i64 (x.1 : Int)) ∧ w.cell? ⟨g, q * 2 + 1, none⟩ = some (.int .i64 (x.2 : Int))) := fun q x hx => by
    have hlt := (List.getElem?_eq_some_iff.1 hx).1
    obtain ⟨g, cap, hv⟩ := own_form h.joined (by omega)
    simp only [Value.slice.injEq] at hv
    obtain ⟨g1, g2⟩ := entCells_get tab q x hx
    have e1 := h.joined.cells (g := g) (by rw [hv.1]; rfl) _ _ g1
    have e2 := h.joined.cells (g := g) (by rw [hv.1]; rfl) _ _ g2
    rw [ptr_add] at e1 e2
    exact ⟨g, hv.1, e1, e2⟩
  clear h
  go_enter Tryz.func118, Tryz.ntmps118
  go_wp2_with fail
  go_loop [7] (fun iv => ∃ q : Nat, iv = .int .i64 (q : Int) ∧ q ≤ tab.length ∧ ∀ j, j < q → tab[j]? ≠ some (a, c)) (fun iv => ((tab.length : Int) - intOf iv).toNat)
  case atStart => exact ⟨0, rfl, Nat.zero_le _, fun j hj => by omega⟩
  case round =>
    obtain ⟨q, rfl, hq, hall⟩ := hrel
    have hallH : Hid (∀ j, _) := hall
    clear hall
    by_cases hlt : (q : Int) < (tab.length : Int)
    · obtain ⟨x, hx⟩ : ∃ x, tab[q]? = some x := ⟨_, List.getElem?_eq_getElem (by omega)⟩
      obtain ⟨g, rfl, e1, e2⟩ := hcell.out q x hx
      have hyes : Hid (x = (a, c) → zfindI tab (a, c) = 257 + (q : Int)) := fun he => by
        unfold zfindI
        rw [zfind_at (q := q) (by rw [hx, he]) hallH.out]
        simp only []; omega
      have hno : Hid (x ≠ (a, c) → ∀ j, j < q + 1 → tab[j]? ≠ some (a, c)) := fun he j hj => by
        by_cases hjq : j = q
        · subst hjq; rw [hx]; simpa using he
        · exact hallH.out j (by omega)
      obtain ⟨x1, x2⟩ := x
      simp only [] at e1 e2
      clear hx hallH
      by_cases h1 : (x1 : Int) = (a : Int)
      · by_cases h2 : (x2 : Int) = (c : Int)
        · have e : Hid (_ = _) := hyes.out (by rw [Prod.mk.injEq]; omega)
          have b1 : ((x1 : Int) == (a : Int)) = true := beq_iff_eq.2 h1
          have b2 : ((x2 : Int) == (c : Int)) = true := beq_iff_eq.2 h2
          clear hyes hno h1 h2
          go_wp2
          go_ret
          exact ⟨by rw [e.out]; rfl, rfl⟩
        · have e : Hid (∀ j, _) := hno.out (fun hc => by rw [Prod.mk.injEq] at hc; omega)
          have b1 : ((x1 : Int) == (a : Int)) = true := beq_iff_eq.2 h1
          have b2 : ((x2 : Int) == (c : Int)) = false := beq_eq_false_iff_ne.2 h2
          clear hyes hno h1 h2
          go_wp2
          refine ⟨⟨q + 1, by go_num, by omega, e.out⟩, ?_⟩
          simp only [intOf]; omega
      · have e : Hid (∀ j, _) := hno.out (fun hc => by rw [Prod.mk.injEq] at hc; omega)
        have b1 : ((x1 : Int) == (a : Int)) = false := beq_eq_false_iff_ne.2 h1
        clear hyes hno h1
        go_wp2
        refine ⟨⟨q + 1, by go_num, by omega, e.out⟩, ?_⟩
        simp only [intOf]; omega
    · have hqe : q = tab.length := by omega
      have e : Hid (zfindI tab (a, c) = -1) := by
        show zfindI _ _ = _
        unfold zfindI
        rw [zfind_none fun j => ?_]
        by_cases hj : j < q
        · exact hallH.out j hj
        · rw [List.getElem?_eq_none (by omega)]; simp
      clear hqe hallH hcell
      go_wp2
      go_ret
      exact ⟨by rw [e.out]; rfl, rfl⟩

def zjoin (most : Nat) (tab : List Ent) (x : Ent) : List Ent := if 257 + tab.length < 2 ^ most then tab ++ [x] else tab

set_option maxHeartbeats 2000000 in
set_option maxRecDepth 100000 in
theorem cjoin_any {w : World} {b most V K : Nat} {tab : List Ent} {v jv : Value} (h : CWM w b most V K tab v jv) (hl : tab.length ≤ 5000) (hm : most ≤ 12) (a c : Nat) :
    Calls Tryz.prog 119 #[.pointer (some ⟨b, 0, none⟩), .int .i64 (a : Int), .int .i64 (c : Int)] w fun e w' => e = .returned (.tuple #[]) ∧ CwOut w w' b most V K (zjoin most tab (a, c)) := by
  have c4 := h.c4
  have c3 := h.c3
  have hbl := h.lt
  obtain ⟨xa, xk, xc, rfl⟩ := own_shape h.joined
  have hxk : xk = tab.length := by
    rcases h.joined.2 with ⟨h1, h2⟩ | ⟨g, cap, _, h1, _⟩
    · simp at h1; omega
    · simp at h1; omega
  subst hxk
  have hz : Hid (zjoin most tab (a, c) = if 257 + tab.length < 2 ^ most then tab ++ [(a, c)] else tab) := rfl
  obtain ⟨P, hP⟩ : ∃ P, 2 ^ most = P := ⟨_, rfl⟩
  have hp : P ≤ 4096 := by rw [← hP]; exact Nat.pow_le_pow_right (by decide) hm
  have he : ((2 : Int) ^ most) = (P : Int) := by rw [← hP]; simp [Int.natCast_pow]
  rw [hP] at hz
  clear hP
  have hw1 : wrap64 ((2 : Int) ^ most) = (P : Int) := by rw [he]; exact wrap64_in _ (by omega)
  have hw2 : wrap64 (1 * (2 : Int) ^ most) = (P : Int) := by rw [Int.one_mul]; exact hw1
  clear he
  have hH : Hid (CWM _ _ _ _ _ _ _ _) := h
  clear h
  by_cases hr : 257 + tab.length < P
  · rw [if_pos hr] at hz
    have hr2 : (257 : Int) + (tab.length : Int) < (P : Int) := by omega
    obtain ⟨i0, hi0, hz0, hz1, hz2⟩ := info_parts infoEnt
    have own : ∀ o, (w.alloc o).ownsRow (b + 1) 236 2 (.slice xa tab.length xc) tab.length (entCells tab) := fun o => row_stay (S := []) hH.out.joined ((Kept.refl [] w).alloc o) (fun _ _ => by simp)
    have mb : tab.length + 1 ≤ maxLen := by unfold maxLen; omega
    have hnext : Hid (∀ (w3 : World) (g cap : Nat) (o : Obj), w3.ownsRow (b + 1) 236 2 (.slice (some ⟨g, 0, none⟩) (tab.length + 1) cap) (tab.length + 1) (entCells tab ++ [.int .i64 (a : Int), .int .i64 (c : Int)]) → (w.alloc o).grownBy w3 (Value.slice xa tab.length xc).ownBlock →
        Blk w3 b (#[v, .int .i64 ((V / 256 ^ (K / 8) : Nat) : Int), .int .i64 ((K % 8 : Nat) : Int)] ++ #[.int .i64 (most : Int), .slice xa tab.length xc]) 133 ∧ CwOut w (w3.setCell ⟨b, 4, none⟩ (.slice (some ⟨g, 0, none⟩) (tab.length + 1) cap)) b most V K (tab ++ [(a, c)])) := fun w3 g cap o hown hg => by
      have hk0 : Kept [] w (w.alloc o) := (Kept.refl [] w).alloc o
      have hne : ∀ i, i ≤ b → some i ≠ (Value.slice xa tab.length xc).ownBlock := fun i hi hc => by have := (hH.out.joined.lt i hc.symm).1; omega
      have hb3 := (hg.block b (by have := hk0.size; omega) (hne b (Nat.le_refl _))).trans (hH.out.bits.blk.kept hk0 (by simp))
      have hbel : Below b w w3 := (hk0.below (Nat.le_of_lt hbl) (by simp)).trans ⟨hg.os, hg.tape, hg.output, hg.size, fun i hi => hg.block i (by have := hk0.size; omega) (hne i (by omega))⟩
      have hrow0 := row_stay (S := []) hH.out.bits.row hk0 (fun _ _ => by simp)
      have hrow := World.ownsRow.kept hrow0 hg (own_ne hrow0 (row_stay (S := []) hH.out.joined hk0 (fun _ _ => by simp)) (by decide))
      refine ⟨hb3, hbel.setCell (Nat.le_refl _) _, v, .slice (some ⟨g, 0, none⟩) (tab.length + 1) cap, ⟨⟨?_, row_set hrow (Nat.lt_succ_self b) _ _⟩, ?_, hH.out.bd⟩⟩
      · exact Blk.set hb3 4 (.slice (some ⟨g, 0, none⟩) (tab.length + 1) cap)
      · rw [entCells_snoc, List.length_append]
        exact row_set hown (Nat.lt_succ_self b) _ _
    go_enter Tryz.func119, Tryz.ntmps119
    go_wp2_with (at_builtin; refine wpList_append_own _ rfl (.tmp 25) (.tmp 29) 131 rfl (b + 1) 236 i0 _ 2 16 Tryz.underlying131 hi0 hz0 hz1 hz2 rfl (by decide) (.slice xa tab.length xc) tab.length (entCells tab) rfl ?own ⟨w.heap.size, 0, none⟩ 1 1 [.int .i64 (a : Int), .int .i64 (c : Int)] rfl rfl ?c1 ?c2 ?b1 ?b2 ?b3 ?kk)
    case own => exact own _
    case c1 => exact cells_new _ _ _ _ rfl
    case c2 => simp [Value.oneCell']
    case b1 => exact mb
    case b2 => omega
    case b3 => simp; omega
    case kk =>
      intro v' w3 hown hgrow _
      obtain ⟨g, cap, rfl⟩ := own_form hown (by omega)
      obtain ⟨hb3, ho⟩ := hnext.out w3 g cap _ hown hgrow
      have e4 : w3.cell? ⟨b, 4, none⟩ = some (.slice xa tab.length xc) := Blk.cell hb3 4
      have f4 := Blk.frozen hb3 4
      have hb3l := Blk.lt hb3
      have ho : Hid (CwOut _ _ _ _ _ _ _) := ho
      clear hb3 hown hgrow own
      go_wp2
      go_end0
      exact ⟨rfl, by rw [hz.out]; exact ho.out⟩
  · rw [if_neg hr] at hz
    have hr2 : (P : Int) ≤ (257 : Int) + (tab.length : Int) := by omega
    have ho : Hid (CwOut w w b most V K tab) := ⟨Below.refl _ _, _, _, hH.out⟩
    go_enter Tryz.func119, Tryz.ntmps119
    go_wp2
    go_end0
    exact ⟨rfl, by rw [hz.out]; exact ho.out⟩

def zwid (most : Nat) (tab : List Ent) : Nat := widP (if 0 < tab.length then 257 + (tab.length - 1) else 257) most

set_option maxHeartbeats 2000000 in
set_option maxRecDepth 100000 in
theorem cwrite_any {w : World} {b most V K : Nat} {tab : List Ent} {v jv : Value} (h : CWM w b most V K tab v jv) (hl : tab.length ≤ 5000) (hm : most ≤ 12) (hK : K ≤ 800000) (a : Nat) (ha : a < 2 ^ zwid most tab) :
    Calls Tryz.prog 72 #[.pointer (some ⟨b, 0, none⟩), .int .i64 (a : Int)] w fun e w' => e = .returned (.tuple #[]) ∧ CwOut w w' b most (V + a * 2 ^ K) (K + zwid most tab) tab := by
  have c4 := h.c4
  have c3 := h.c3
  have hbl := h.lt
  obtain ⟨xa, xk, xc, rfl⟩ := own_shape h.joined
  have hxk : xk = tab.length := by
    rcases h.joined.2 with ⟨h1, h2⟩ | ⟨g, cap, _, h1, _⟩
    · simp at h1; omega
    · simp at h1; omega
  subst hxk
  have hwd : zwid most tab ≤ 12 := by unfold zwid; exact (widP_bd _ _).2
  have hfin : Hid (∀ w', NumOut w w' b #[.int .i64 (most : Int), .slice xa tab.length xc] 133 (V + a * 2 ^ K) (K + zwid most tab) → CwOut w w' b most (V + a * 2 ^ K) (K + zwid most tab) tab) := fun w' o => by
    obtain ⟨v1, hW⟩ := o.ex
    refine ⟨o.below, v1, _, ⟨hW, ?_, o.bd⟩⟩
    refine ⟨h.joined.1, ?_⟩
    rcases h.joined.2 with h1 | ⟨g, cap, cur, h1, h2, h3, h4⟩
    · exact Or.inl h1
    · exact Or.inr ⟨g, cap, cur, h1, h2, o.stay g cur _ (by omega) (by decide) h3, h4⟩
  have hn : Hid (Calls _ _ _ w _) := number_any w b #[.int .i64 (most : Int), .slice xa tab.length xc] 133 V K v h.bits (by decide) h.bd a (zwid most tab) ha (by omega) (by omega)
  have hwH : Hid (∀ f : Nat, f ≤ 1000000 → ∀ w, Calls _ _ _ w _) := fun f hf w => widthOf_any f most hf hm w
  clear h ha
  by_cases h0 : (0 : Int) < (tab.length : Int)
  · have hz : Hid (widP (257 + (tab.length - 1)) most = zwid most tab) := by show _ = _; unfold zwid; rw [if_pos (by omega)]
    have hcw : Hid (∀ w, Calls Tryz.prog 120 #[.int .i64 (257 + ((tab.length : Int) - 1)), .int .i64 (most : Int)] w fun e w' => e = .returned (.int .i64 (zwid most tab : Int)) ∧ w' = w) := fun w => by
      have := hwH.out (257 + (tab.length - 1)) (by omega) w
      rw [hz.out] at this
      rwa [show ((257 + (tab.length - 1) : Nat) : Int) = 257 + ((tab.length : Int) - 1) by omega] at this
    clear hwH hz
    generalize zwid most tab = W at *
    go_enter Tryz.func72, Tryz.ntmps72
    go_wp2_with (first
      | (go_at_call 120; refine (hcw.out _).mono ?_; rintro _ _ ⟨rfl, rfl⟩)
      | (go_at_call 70; refine hn.out.mono ?_; rintro _ w2 ⟨rfl, o2⟩))
    go_end0
    exact ⟨rfl, hfin.out _ o2⟩
  · have hz : Hid (widP 257 most = zwid most tab) := by show _ = _; unfold zwid; rw [if_neg (by omega)]
    have hcw : Hid (∀ w, Calls Tryz.prog 120 #[.int .i64 257, .int .i64 (most : Int)] w fun e w' => e = .returned (.int .i64 (zwid most tab : Int)) ∧ w' = w) := fun w => by
      have := hwH.out 257 (by omega) w
      rwa [hz.out] at this
    clear hwH hz
    generalize zwid most tab = W at *
    go_enter Tryz.func72, Tryz.ntmps72
    go_wp2_with (first
      | (go_at_call 120; refine (hcw.out _).mono ?_; rintro _ _ ⟨rfl, rfl⟩)
      | (go_at_call 70; refine hn.out.mono ?_; rintro _ w2 ⟨rfl, o2⟩))
    go_end0
    exact ⟨rfl, hfin.out _ o2⟩

end Go.Proofs.YtgifhgnccmnbiabGreatDoor

set_option linter.unusedVariables false
set_option linter.unusedSimpArgs false
namespace Go.Proofs.YtgifhgnccmnbiabGreatDoor
open Go.RowKit Go.IntWalk

/-- What is written so far, and the table. -/
structure WS where
  V : Nat
  K : Nat
  tab : List Ent
def wwrite (most : Nat) (s : WS) (a : Nat) : WS := ⟨s.V + a * 2 ^ s.K, s.K + zwid most s.tab, s.tab⟩
def wgo (most : Nat) (s : WS) (num : Option Nat) (c : Nat) : WS × Nat :=
  match num with
  | none => (s, c)
  | some a =>
    match zfind s.tab (a, c) 257 with
    | some i => (s, i)
    | none => (⟨s.V + a * 2 ^ s.K, s.K + zwid most s.tab, zjoin most s.tab (a, c)⟩, c)
def numI : Option Nat → Int
  | none => -1
  | some a => (a : Int)
/-- What stays. -/
structure WInv (most q : Nat) (s : WS) (num : Option Nat) : Prop where
  len : s.tab.length ≤ q
  room : s.tab = [] ∨ 257 + s.tab.length ≤ 2 ^ most
  bits : s.K ≤ 8 + 12 * q
  num : ∀ a, num = some a → a < 257 + s.tab.length ∧ a ≠ 256
  ent : ∀ (i : Nat) (x : Ent), s.tab[i]? = some x → x.1 < 257 + i ∧ x.1 ≠ 256 ∧ x.2 < 256
theorem zfind_lt : ∀ {l : List Ent} {x : Ent} {k i : Nat}, zfind l x k = some i → k ≤ i ∧ i < k + l.length ∧ l[i - k]? = some x
  | [], _, _, _, h => by simp [zfind] at h
  | y :: l, x, k, i, h => by
    rw [zfind] at h
    by_cases hy : y = x
    · rw [if_pos hy] at h; simp at h; subst h; simp [hy]
    · rw [if_neg hy] at h
      obtain ⟨h1, h2, h3⟩ := zfind_lt h
      refine ⟨by omega, by simp; omega, ?_⟩
      rw [show i - k = (i - (k + 1)) + 1 by omega]
      simpa using h3
theorem zjoin_cases (most : Nat) (tab : List Ent) (x : Ent) : (zjoin most tab x = tab ++ [x] ∧ 257 + tab.length < 2 ^ most) ∨ (zjoin most tab x = tab ∧ 2 ^ most ≤ 257 + tab.length) := by
  unfold zjoin
  by_cases h : 257 + tab.length < 2 ^ most
  · exact Or.inl ⟨if_pos h, h⟩
  · exact Or.inr ⟨if_neg h, by omega⟩
theorem zwid_bd (most : Nat) (tab : List Ent) : 9 ≤ zwid most tab ∧ zwid most tab ≤ 12 := widP_bd _ _
theorem WInv.fits {most q : Nat} {s : WS} {num : Option Nat} (h : WInv most q s num) (hm : 9 ≤ most ∧ most ≤ 12) {a : Nat} (ha : num = some a) : a < 2 ^ zwid most s.tab := by
  obtain ⟨h1, h2⟩ := h.num a ha
  have hr := h.room
  have hb := zwid_bd most s.tab
  unfold zwid at *
  have p9 : (2 : Nat) ^ 9 = 512 := by decide
  have p10 : (2 : Nat) ^ 10 = 1024 := by decide
  have p11 : (2 : Nat) ^ 11 = 2048 := by decide
  have p12 : (2 : Nat) ^ 12 = 4096 := by decide
  have hle : s.tab = [] ∨ 0 < s.tab.length := by
    cases s.tab with
    | nil => exact Or.inl rfl
    | cons _ _ => exact Or.inr (by simp)
  have hmm : most = 9 ∨ most = 10 ∨ most = 11 ∨ most = 12 := by omega
  rcases hle with hle | hle
  · rw [hle] at h1 ⊢
    simp at h1
    have : 2 ^ 9 ≤ 2 ^ widP (if 0 < ([] : List Ent).length then 257 + (([] : List Ent).length - 1) else 257) most := Nat.pow_le_pow_right (by decide) (widP_bd _ _).1
    omega
  · have hr2 : 257 + s.tab.length ≤ 2 ^ most := by
      rcases hr with hr | hr
      · rw [hr] at hle; simp at hle
      · exact hr
    rw [if_pos hle]
    unfold widP
    rcases hmm with rfl | rfl | rfl | rfl <;> (repeat' split) <;> omega
theorem WInv.go {most q : Nat} {s : WS} {num : Option Nat} (h : WInv most q s num) (hm : 9 ≤ most ∧ most ≤ 12) {c : Nat} (hc : c < 256) : WInv most (q + 1) (wgo most s num c).1 (some (wgo most s num c).2) := by
  unfold wgo
  cases num with
  | none => exact ⟨Nat.le_succ_of_le h.len, h.room, Nat.le_trans h.bits (by omega), fun a ha => by simp only [Option.some.injEq] at ha; subst ha; exact ⟨by show c < _; omega, by show c ≠ _; omega⟩, h.ent⟩
  | some a =>
    simp only []
    cases hf : zfind s.tab (a, c) 257 with
    | some i =>
      obtain ⟨h1, h2, _⟩ := zfind_lt hf
      exact ⟨by have := h.len; simp only []; omega, h.room, by have := h.bits; simp only []; omega, fun a' ha => by simp only [Option.some.injEq] at ha; simp only []; omega, h.ent⟩
    | none =>
      have hb := zwid_bd most s.tab
      have hn := h.num a rfl
      rcases zjoin_cases most s.tab (a, c) with ⟨e, hr⟩ | ⟨e, hr⟩
      · refine ⟨by simp only [e]; have := h.len; simp; omega, Or.inr (by simp only [e]; simp; omega), by have := h.bits; simp only []; omega, fun a' ha => by simp only [Option.some.injEq] at ha; simp only [e]; simp; omega, fun i x hx => ?_⟩
        simp only [e] at hx
        by_cases hi : i < s.tab.length
        · rw [List.getElem?_append_left hi] at hx; exact h.ent i x hx
        · have hi2 : i = s.tab.length := by
            have := (List.getElem?_eq_some_iff.1 hx).1
            simp at this; omega
          subst hi2
          rw [List.getElem?_append_right (Nat.le_refl _), Nat.sub_self] at hx
          simp at hx
          subst hx
          exact ⟨hn.1, hn.2, hc⟩
      · exact ⟨by simp only [e]; have := h.len; omega, by simp only [e]; exact h.room, by have := h.bits; simp only []; omega, fun a' ha => by simp only [Option.some.injEq] at ha; simp only [e]; omega, by simp only [e]; exact h.ent⟩

set_option maxHeartbeats 2000000 in
set_option maxRecDepth 100000 in
theorem goOn_any {w : World} {b most q : Nat} {s : WS} {num : Option Nat} {v jv : Value} (h : CWM w b most s.V s.K s.tab v jv) (hI : WInv most q s num) (hm : 9 ≤ most ∧ most ≤ 12) (hq : q ≤ 1000) (c : Nat) (hc : c < 256) :
    Calls Tryz.prog 71 #[.pointer (some ⟨b, 0, none⟩), .int .i64 (numI num), .int .i64 (c : Int)] w fun e w' => e = .returned (.int .i64 ((wgo most s num c).2 : Int)) ∧ CwOut w w' b most (wgo most s num c).1.V (wgo most s num c).1.K (wgo most s num c).1.tab := by
  have hlen := hI.len
  have hbits := hI.bits
  cases num with
  | none =>
    have ho : Hid (CwOut w w b most s.V s.K s.tab) := ⟨Below.refl _ _, _, _, h⟩
    have e : Hid (wgo most s none c = (s, c)) := rfl
    rw [show wgo most s none c = (s, c) from rfl]
    clear h hI
    unfold numI
    go_enter Tryz.func71, Tryz.ntmps71
    go_wp2
    go_ret
    exact ⟨rfl, ho.out⟩
  | some a =>
    have hf : Hid (∀ w', w' = w → Calls _ _ _ w' _) := fun w' hw => by subst hw; exact find_any h (by omega) a c
    have han := hI.num a rfl
    cases hz : zfind s.tab (a, c) 257 with
    | some i =>
      have ho : Hid (CwOut w w b most s.V s.K s.tab) := ⟨Below.refl _ _, _, _, h⟩
      have e : wgo most s (some a) c = (s, i) := by unfold wgo; simp only [hz]
      have ei : zfindI s.tab (a, c) = (i : Int) := by unfold zfindI; simp only [hz]
      rw [ei] at hf
      rw [e]
      have hne : (i : Int) ≠ -1 := by omega
      have hna : (a : Int) ≠ -1 := by omega
      clear h hI e ei hz
      unfold numI
      simp only []
      go_enter Tryz.func71, Tryz.ntmps71
      go_wp2_with (go_at_call 118; refine (hf.out _ rfl).mono ?_; rintro _ _ ⟨rfl, rfl⟩)
      go_ret
      exact ⟨rfl, ho.out⟩
    | none =>
      have e : wgo most s (some a) c = (⟨s.V + a * 2 ^ s.K, s.K + zwid most s.tab, zjoin most s.tab (a, c)⟩, c) := by unfold wgo; simp only [hz]
      have ei : zfindI s.tab (a, c) = -1 := by unfold zfindI; simp only [hz]
      rw [ei] at hf
      rw [e]
      have hna : (a : Int) ≠ -1 := by omega
      have hw : Hid (Calls _ _ _ w _) := cwrite_any h (by omega) hm.2 (by omega) a (hI.fits hm rfl)
      have hj : Hid (∀ w2, CwOut w w2 b most (s.V + a * 2 ^ s.K) (s.K + zwid most s.tab) s.tab → Calls Tryz.prog 119 #[.pointer (some ⟨b, 0, none⟩), .int .i64 (a : Int), .int .i64 (c : Int)] w2 fun e w' => e = .returned (.tuple #[]) ∧ CwOut w w' b most (s.V + a * 2 ^ s.K) (s.K + zwid most s.tab) (zjoin most s.tab (a, c))) := fun w2 o => by
        obtain ⟨v2, j2, h2⟩ := o.ex
        refine (cjoin_any h2 (by omega) hm.2 a c).mono ?_
        rintro e w' ⟨rfl, o2⟩
        exact ⟨rfl, o.below.trans o2.below, o2.ex⟩
      clear h hI e ei hz
      unfold numI
      simp only []
      go_enter Tryz.func71, Tryz.ntmps71
      go_wp2_with (first
        | (go_at_call 118; refine (hf.out _ rfl).mono ?_; rintro _ _ ⟨rfl, rfl⟩)
        | (go_at_call 72; refine hw.out.mono ?_; rintro _ w2 ⟨rfl, o2⟩)
        | (go_at_call 119; refine (hj.out _ o2).mono ?_; rintro _ w3 ⟨rfl, o3⟩))
      go_ret
      exact ⟨rfl, o3⟩

def wrun (most : Nat) (t : ByteArray) : Nat → WS × Option Nat
  | 0 => (⟨most, 8, []⟩, none)
  | q + 1 =>
    let r := wgo most (wrun most t q).1 (wrun most t q).2 (bt t q)
    (r.1, some r.2)
theorem wrun_inv {most : Nat} {t : ByteArray} (hm : 9 ≤ most ∧ most ≤ 12) : ∀ q, WInv most q (wrun most t q).1 (wrun most t q).2
  | 0 => ⟨Nat.le_refl _, Or.inl rfl, by simp [wrun], fun a ha => by simp [wrun] at ha, fun i x hx => by simp [wrun] at hx⟩
  | q + 1 => (wrun_inv hm q).go hm (bt_bd t q)
def wfin (most : Nat) (r : WS × Option Nat) : WS :=
  match r.2 with
  | none => r.1
  | some a => wwrite most r.1 a
def zfile (most : Nat) (t : ByteArray) : ByteArray := ⟨#[83, 90]⟩ ++ bytesB (digs (wfin most (wrun most t t.size)).V (((wfin most (wrun most t t.size)).K + 7) / 8))

/-- What the loop over the bytes keeps. -/
structure WLoop (w0 w : World) (most : Nat) (t : ByteArray) (q : Nat) : Prop where
  below : Below w0.heap.size w0 w
  ex : ∃ v jv, CWM w w0.heap.size most (wrun most t q).1.V (wrun most t q).1.K (wrun most t q).1.tab v jv

set_option maxHeartbeats 2000000 in
set_option maxRecDepth 100000 in
theorem writeCodes_any (t : ByteArray) (ht : t.size ≤ 600) (most : Nat) (hm : 9 ≤ most ∧ most ≤ 12) (w : World) :
    Calls Tryz.prog 39 #[.string t, .int .i64 (most : Int)] w fun e w' => e = .returned (.string (zfile most t)) ∧ Below w.heap.size w w' := by
  have hb0 : BWL (w.alloc (.cells #[.slice none 0 0, .int .i64 0, .int .i64 0, .int .i64 (most : Int), .slice none 0 0] 133)) w.heap.size #[.int .i64 (most : Int), .slice none 0 0] 133 0 0 0 (.slice none 0 0) :=
    ⟨Blk.new w _ _, World.ownsRow_nil _ _ _ _⟩
  have hn0 : Hid (Calls _ _ _ _ _) := number_any _ w.heap.size #[.int .i64 (most : Int), .slice none 0 0] 133 0 0 _ hb0 (by decide) (by decide) most 8 (by omega) (by omega) (by omega)
  have h0 : Hid (∀ w2, NumOut (w.alloc (.cells #[.slice none 0 0, .int .i64 0, .int .i64 0, .int .i64 (most : Int), .slice none 0 0] 133)) w2 w.heap.size #[.int .i64 (most : Int), .slice none 0 0] 133 (0 + most * 2 ^ 0) (0 + 8) → WLoop w w2 most t 0) := fun w2 o => by
    obtain ⟨v1, hW⟩ := o.ex
    have hbd := o.bd
    rw [show 0 + most * 2 ^ 0 = most by simp] at hW hbd
    exact ⟨((Below.refl _ _).alloc (Nat.le_refl _) _).trans o.below, v1, _, ⟨hW, World.ownsRow_nil _ _ _ _, hbd⟩⟩
  have hz : Hid (zfile most t = ⟨#[83, 90]⟩ ++ bytesB (digs (wfin most (wrun most t t.size)).V (((wfin most (wrun most t t.size)).K + 7) / 8))) := rfl
  clear hb0
  go_enter Tryz.func39, Tryz.ntmps39
  go_wp2_with (go_at_call 70; refine hn0.out.mono ?_; rintro _ w2 ⟨rfl, o2⟩; have hL0 : Hid (WLoop _ _ _ _ _) := h0.out _ o2)
  go_loopw [6, 7] (fun nv iv wr => ∃ q : Nat, nv = .int .i64 (numI (wrun most t q).2) ∧ iv = .int .i64 (q : Int) ∧ q ≤ t.size ∧ WLoop w wr most t q) (fun _ iv _ => ((t.size : Int) - intOf iv).toNat)
  case atStart => exact ⟨0, rfl, rfl, Nat.zero_le _, hL0.out⟩
  case round =>
    clear hn0 h0 o2 hL0
    obtain ⟨q, rfl, rfl, hq, hI⟩ := hrel
    have hinv := wrun_inv (t := t) hm q
    by_cases hlt : (q : Int) < (t.size : Int)
    · have hqn : q < t.size := by omega
      have hc8 := t[q].toNat_lt
      obtain ⟨hBl, v1, jv1, hC⟩ := hI
      have hg : Hid (Calls _ _ _ wr _) := goOn_any hC hinv hm (by omega) t[q].toNat (by omega)
      have e1 : Hid (wrun most t (q + 1) = ((wgo most (wrun most t q).1 (wrun most t q).2 t[q].toNat).1, some (wgo most (wrun most t q).1 (wrun most t q).2 t[q].toNat).2)) := by
        show _ = _
        rw [wrun, bt_lt hqn]
      have hnext : Hid (∀ w3, CwOut wr w3 w.heap.size most (wgo most (wrun most t q).1 (wrun most t q).2 t[q].toNat).1.V (wgo most (wrun most t q).1 (wrun most t q).2 t[q].toNat).1.K (wgo most (wrun most t q).1 (wrun most t q).2 t[q].toNat).1.tab → WLoop w w3 most t (q + 1)) := fun w3 o => ⟨hBl.trans o.below, by rw [e1.out]; exact o.ex⟩
      have hnum : Hid (((wgo most (wrun most t q).1 (wrun most t q).2 t[q].toNat).2 : Int) = numI (wrun most t (q + 1)).2) := by show _ = _; rw [e1.out]; rfl
      clear hBl hC hinv e1
      generalize wgo most (wrun most t q).1 (wrun most t q).2 t[q].toNat = G at *
      generalize numI (wrun most t q).2 = N0 at *
      go_wp2_with (go_at_call 71; refine hg.out.mono ?_; rintro _ w3 ⟨rfl, o3⟩)
      refine ⟨⟨q + 1, by rw [← hnum.out], by go_num, by omega, hnext.out _ o3⟩, ?_⟩
      simp only [intOf]; omega
    · have hqe : q = t.size := by omega
      subst hqe
      obtain ⟨hBl, v1, jv1, hC⟩ := hI
      have hbt := hinv.bits
      have hln := hinv.len
      have hend : Hid (∀ (w3 : World) (V K : Nat) (tab : List Ent), Below w.heap.size w w3 → K ≤ 800000 → (∃ v jv, CWM w3 w.heap.size most V K tab v jv) → Calls Tryz.prog 73 #[.pointer (some ⟨w.heap.size, 0, none⟩)] w3 fun e w' => e = .returned (.string (bytesB (digs V ((K + 7) / 8)))) ∧ Below w.heap.size w w') := fun w3 V K tab hb hk hc => by
        obtain ⟨v, jv, hC⟩ := hc
        refine (bend_any w3 w.heap.size _ _ V K v hC.bits (by decide) hC.bd (by omega)).mono ?_
        rintro e w' ⟨rfl, b2⟩
        exact ⟨rfl, hb.trans b2⟩
      have hzb : Hid (∀ V K : Nat, K ≤ 800000 → (bytesB (digs V ((K + 7) / 8))).size ≤ 200000) := fun V K hk => by
        unfold bytesB
        have : (⟨((digs V ((K + 7) / 8)).map Nat.toUInt8).toArray⟩ : ByteArray).size = (K + 7) / 8 := by
          show (((digs V ((K + 7) / 8)).map Nat.toUInt8).toArray).size = _
          simp [digs_len]
        rw [this]; omega
      cases hnm : (wrun most t t.size).2 with
      | none =>
        have hf : wfin most (wrun most t t.size) = (wrun most t t.size).1 := by unfold wfin; simp only [hnm]
        rw [hf] at hz
        have hcall : Hid (Calls _ _ _ wr _) := hend.out wr _ _ _ hBl (by omega) ⟨_, _, hC⟩
        have hs := hzb.out (wrun most t t.size).1.V (wrun most t t.size).1.K (by omega)
        clear hinv hC hf hnm hend hzb hBl
        unfold numI
        simp only []
        generalize bytesB (digs (wrun most t t.size).1.V (((wrun most t t.size).1.K + 7) / 8)) = R at *
        have hx1 : ¬ 9223372036854775807 < 2 + R.size := by omega
        go_wp2_with (go_at_call 73; refine hcall.out.mono ?_; rintro _ w4 ⟨rfl, b4⟩)
        go_ret
        exact ⟨by rw [hz.out]; rfl, b4⟩
      | some a =>
        have hf : wfin most (wrun most t t.size) = wwrite most (wrun most t t.size).1 a := by unfold wfin; simp only [hnm]
        rw [hf] at hz
        unfold wwrite at hz
        simp only [] at hz
        have hzw := zwid_bd most (wrun most t t.size).1.tab
        have hwr : Hid (Calls _ _ _ wr _) := cwrite_any hC (by omega) hm.2 (by omega) a (hinv.fits hm hnm)
        have hcall : Hid (∀ w4, CwOut wr w4 w.heap.size most ((wrun most t t.size).1.V + a * 2 ^ (wrun most t t.size).1.K) ((wrun most t t.size).1.K + zwid most (wrun most t t.size).1.tab) (wrun most t t.size).1.tab → Calls _ _ _ w4 _) := fun w4 o => hend.out w4 _ _ _ (hBl.trans o.below) (by omega) o.ex
        have hs := hzb.out ((wrun most t t.size).1.V + a * 2 ^ (wrun most t t.size).1.K) ((wrun most t t.size).1.K + zwid most (wrun most t t.size).1.tab) (by omega)
        have hna : (a : Int) ≠ -1 := by omega
        clear hinv hC hf hnm hend hzb hBl hbt hln hzw
        unfold numI
        simp only []
        generalize bytesB (digs ((wrun most t t.size).1.V + a * 2 ^ (wrun most t t.size).1.K) (((wrun most t t.size).1.K + zwid most (wrun most t t.size).1.tab + 7) / 8)) = R at *
        have hx1 : ¬ 9223372036854775807 < 2 + R.size := by omega
        go_wp2_with (first
          | (go_at_call 72; refine hwr.out.mono ?_; rintro _ w4 ⟨rfl, o4⟩)
          | (go_at_call 73; refine (hcall.out _ o4).mono ?_; rintro _ w5 ⟨rfl, b5⟩))
        go_ret
        exact ⟨by rw [hz.out]; rfl, b5⟩

/-- What PackZ comes to. -/
def PackZOut (t : ByteArray) (wd : Int) (e : Ending) : Prop :=
  (600 < t.size ∧ e = .returned (.tuple #[.string ⟨#[]⟩, .int .i64 8])) ∨ (t.size ≤ 600 ∧ (wd < 9 ∨ 12 < wd) ∧ e = .returned (.tuple #[.string ⟨#[]⟩, .int .i64 6])) ∨
  (t.size ≤ 600 ∧ 9 ≤ wd ∧ wd ≤ 12 ∧ e = .returned (.tuple #[.string (zfile wd.toNat t), .int .i64 0]))
set_option maxHeartbeats 1000000 in
theorem packZ_any (t : ByteArray) (ht : t.size ≤ maxLen) (wd : Int) (w : World) :
    Calls Tryz.prog 15 #[.string t, .int .i64 wd] w fun e w' => PackZOut t wd e ∧ Below w.heap.size w w' := by
  unfold maxLen at ht
  have hb : Hid (Below w.heap.size w w) := Below.refl _ _
  by_cases h1 : (600 : Int) < (t.size : Int)
  · go_enter Tryz.func15, Tryz.ntmps15
    go_wp2
    go_ret2
    exact ⟨Or.inl ⟨by omega, rfl⟩, hb.out⟩
  · have hs : Hid (t.size ≤ 600) := by show t.size ≤ 600; omega
    by_cases h2 : wd < 9
    · go_enter Tryz.func15, Tryz.ntmps15
      go_wp2
      go_ret2
      exact ⟨Or.inr (Or.inl ⟨hs.out, Or.inl h2, rfl⟩), hb.out⟩
    · by_cases h3 : 12 < wd
      · go_enter Tryz.func15, Tryz.ntmps15
        go_wp2
        go_ret2
        exact ⟨Or.inr (Or.inl ⟨hs.out, Or.inr h3, rfl⟩), hb.out⟩
      · obtain ⟨m, rfl⟩ : ∃ m : Nat, wd = (m : Int) := ⟨wd.toNat, by omega⟩
        have hc : Hid (Calls _ _ _ w _) := writeCodes_any t hs.out m (by omega) w
        have hm : Hid (9 ≤ (m : Int) ∧ (m : Int) ≤ 12) := ⟨by omega, by omega⟩
        obtain ⟨R, hR⟩ : ∃ R, Hid (zfile m t = R) := ⟨_, rfl⟩
        rw [hR.out] at hc
        go_enter Tryz.func15, Tryz.ntmps15
        go_wp2_with (go_at_call 39; refine hc.out.mono ?_; rintro _ w2 ⟨rfl, b2⟩)
        go_ret2
        exact ⟨Or.inr (Or.inr ⟨hs.out, hm.out.1, hm.out.2, by rw [show ((m : Int)).toNat = m by omega, hR.out]; rfl⟩), b2⟩

end Go.Proofs.YtgifhgnccmnbiabGreatDoor

set_option linter.unusedVariables false
set_option linter.unusedSimpArgs false
namespace Go.Proofs.YtgifhgnccmnbiabGreatDoor

/-- How often a pair is met, going along. -/
def metL (a b : Nat) : List Nat → Nat
  | x :: y :: r => if x = a ∧ y = b then metL a b r + 1 else metL a b (y :: r)
  | _ => 0
def replL (a b s : Nat) : List Nat → List Nat
  | x :: y :: r => if x = a ∧ y = b then s :: replL a b s r else x :: replL a b s (y :: r)
  | l => l
theorem metL_nil (a b : Nat) : metL a b [] = 0 := by rw [metL]; intro _ _ _ h; cases h
theorem metL_one (a b x : Nat) : metL a b [x] = 0 := by rw [metL]; intro _ _ _ h; cases h
theorem metL_two (a b x y : Nat) (r : List Nat) : metL a b (x :: y :: r) = if x = a ∧ y = b then metL a b r + 1 else metL a b (y :: r) := by rw [metL]
/-- A pair and how often: is it taken ahead of another one? -/
structure Cand where
  n : Nat
  a : Nat
  b : Nat
def better (p q : Cand) : Prop := q.n < p.n ∨ (p.n = q.n ∧ (p.a < q.a ∨ (p.a = q.a ∧ p.b < q.b)))
instance (p q : Cand) : Decidable (better p q) := by unfold better; infer_instance
def bestQ (c : Nat → Cand) : Nat → Cand
  | 0 => ⟨0, 0, 0⟩
  | i + 1 => if better (c i) (bestQ c i) then c i else bestQ c i
theorem bestQ_max (c : Nat → Cand) : ∀ n, (bestQ c n = ⟨0, 0, 0⟩ ∨ ∃ i, i < n ∧ bestQ c n = c i) ∧ (¬ better ⟨0, 0, 0⟩ (bestQ c n)) ∧ ∀ i, i < n → ¬ better (c i) (bestQ c n)
  | 0 => ⟨Or.inl rfl, by unfold bestQ better; simp, fun i hi => by omega⟩
  | n + 1 => by
    obtain ⟨h1, h2, h3⟩ := bestQ_max c n
    by_cases hb : better (c n) (bestQ c n)
    · have e : bestQ c (n + 1) = c n := by rw [bestQ, if_pos hb]
      rw [e]
      refine ⟨Or.inr ⟨n, by omega, rfl⟩, ?_, fun i hi => ?_⟩
      · intro hc; exact h2 (by unfold better at *; omega)
      · by_cases hin : i = n
        · subst hin; unfold better; omega
        · have := h3 i (by omega)
          intro hc; exact this (by unfold better at *; omega)
    · have e : bestQ c (n + 1) = bestQ c n := by rw [bestQ, if_neg hb]
      rw [e]
      refine ⟨?_, h2, fun i hi => ?_⟩
      · rcases h1 with h1 | ⟨i, hi, h1⟩
        · exact Or.inl h1
        · exact Or.inr ⟨i, by omega, h1⟩
      · by_cases hin : i = n
        · subst hin; exact hb
        · exact h3 i (by omega)
def candC (l : List Nat) (i : Nat) : Cand := ⟨metL (l.getD i 0) (l.getD (i + 1) 0) (l.drop i), l.getD i 0, l.getD (i + 1) 0⟩
end Go.Proofs.YtgifhgnccmnbiabGreatDoor

set_option linter.unusedVariables false
set_option linter.unusedSimpArgs false
namespace Go.Proofs.YtgifhgnccmnbiabGreatDoor
open Go.RowKit Go.IntWalk

/-- Cells given by a function. -/
def rowF (n : Nat) (f : Nat → Value) : Array Value := ((List.range n).map f).toArray
@[simp] theorem rowF_size (n : Nat) (f : Nat → Value) : (rowF n f).size = n := by simp [rowF]
theorem rowF_get {n : Nat} (f : Nat → Value) {i : Nat} (h : i < n) : (rowF n f)[i]? = some (f i) := by simp [rowF, h]
theorem rowF_set {n : Nat} (f f' : Nat → Value) (i : Nat) (v : Value) (h : ∀ j, j < n → f' j = if j = i then v else f j) : (rowF n f).setIfInBounds i v = rowF n f' := by
  apply Array.ext
  · simp [rowF]
  · intro j h1 h2
    have hj : j < n := by simpa [rowF] using h2
    rw [Array.getElem_setIfInBounds (by simpa [rowF] using hj)]
    simp only [rowF, List.getElem_toArray, List.getElem_map, List.getElem_range]
    rw [h j hj]
    by_cases hij : i = j
    · subst hij; simp
    · rw [if_neg hij, if_neg (fun hc => hij hc.symm)]
theorem rowF_congr {n : Nat} {f f' : Nat → Value} (h : ∀ j, j < n → f j = f' j) : rowF n f = rowF n f' := by
  apply Array.ext
  · simp [rowF]
  · intro j h1 h2
    simp only [rowF, List.getElem_toArray, List.getElem_map, List.getElem_range]
    exact h j (by simpa [rowF] using h1)

/-- How far to the next s. -/
def nx (s : Nat) : List Nat → Nat
  | [] => 0
  | x :: r => if x = s then 0 else nx s r + 1
def nextF (l : List Nat) (s i : Nat) : Nat := i + nx s (l.drop i)
theorem nextF_end (l : List Nat) (s : Nat) : nextF l s l.length = l.length := by unfold nextF; rw [List.drop_eq_nil_of_le (Nat.le_refl _)]; rfl
theorem nextF_step (l : List Nat) (s i : Nat) (h : i < l.length) : nextF l s i = if l.getD i 0 = s then i else nextF l s (i + 1) := by
  unfold nextF
  have g : l.getD i 0 = l[i] := by simp [List.getD, h]
  rw [g, List.drop_eq_getElem_cons h, nx]
  split
  · rfl
  · omega
theorem nextF_le (l : List Nat) (s : Nat) : ∀ k i, i + k = l.length → nextF l s i ≤ l.length
  | 0, i, h => by
    have : i = l.length := by omega
    rw [this, nextF_end]; exact Nat.le_refl _
  | k + 1, i, h => by
    rw [nextF_step l s i (by omega)]
    split
    · omega
    · exact nextF_le l s k (i + 1) (by omega)
/-- The table of the next ones, behind place i. -/
def nextCells (l : List Nat) (i : Nat) : Array Value := rowF 356 fun s => .int .i64 ((nextF l s i : Nat) : Int)
def placeCell (l : List Nat) (i k : Nat) : Value :=
  if k / 2 < i then .int .i64 0 else if k % 2 = 0 then .int .i64 ((l.getD (k / 2) 0 : Nat) : Int) else .int .i64 ((nextF l (l.getD (k / 2) 0) (k / 2 + 1) : Nat) : Int)
/-- The places from i on are told; those ahead of it not yet. -/
def placeCells (l : List Nat) (i : Nat) : Array Value := rowF (2 * l.length) (placeCell l i)

theorem zero_next : (Tryz.prog.info? 237).map (fun i => (i.zero, i.size)) = some (some (.agg (rowF 356 fun _ => .int .i64 0)), 356) := by kernel_rfl
theorem zeroV_next (w : World) : (zeroValue 237).run Tryz.prog w = .ok (.agg (rowF 356 fun _ => .int .i64 0)) w := by
  have h := zero_next
  cases hq : Tryz.prog.info? 237 with
  | none => simp [hq] at h
  | some i =>
    simp [hq] at h
    simp [zeroValue, typeInfo, hq, h.1]
theorem infoPlace : (Tryz.prog.info? 239).map (fun i => (i.zero, i.size, i.bytes)) = some (some (.agg #[.int .i64 0, .int .i64 0]), 2, 16) := by kernel_rfl
theorem made_zero (n : Nat) : madeCells #[Value.int .i64 0, Value.int .i64 0] n = rowF n fun _ => .int .i64 0 := by
  unfold madeCells rowF
  apply Array.ext
  · simp
  · intro j h1 h2
    simp only [List.getElem_toArray, List.getElem_map]
    have hj : j % 2 = 0 ∨ j % 2 = 1 := by omega
    simp
    rcases hj with hj | hj <;> simp [hj]

theorem made_blk {w : World} {base g n : Nat} {e : TypeId} (h : w.ownsRow base e 2 (.slice (some ⟨g, 0, none⟩) n n) n (madeCells #[Value.int .i64 0, Value.int .i64 0] (n * 2)).toList) : Blk w g (rowF (2 * n) fun _ => .int .i64 0) e := by
  rcases h.2 with ⟨h1, _⟩ | ⟨g', cap, cur, h1, h2, h3, h4, h5, h6, h7⟩
  · simp at h1
  · simp only [Value.slice.injEq, Option.some.injEq, Addr.mk.injEq, and_true, true_and] at h1
    obtain ⟨rfl, rfl⟩ := h1
    have hc : cur = rowF (2 * n) fun _ => .int .i64 0 := by
      rw [← made_zero, Nat.mul_comm]
      apply Array.ext'
      rw [← h7, List.take_of_length_le]
      rw [Array.length_toList, h6]; exact Nat.le_refl _
    rw [← hc]
    exact h3
theorem place_none (l : List Nat) : placeCells l l.length = rowF (2 * l.length) fun _ => .int .i64 0 := rowF_congr fun k hk => by
  unfold placeCell
  rw [if_pos (by omega)]
theorem place_set (l : List Nat) (i : Nat) (h : i < l.length) (x : Value) : (((placeCells l (i + 1)).setIfInBounds (i * 2) (.int .i64 ((l.getD i 0 : Nat) : Int))).setIfInBounds (i * 2 + 1) x).setIfInBounds (i * 2 + 1) (.int .i64 ((nextF l (l.getD i 0) (i + 1) : Nat) : Int)) = placeCells l i := by
  unfold placeCells
  rw [rowF_set (placeCell l (i + 1)) (fun k => if k = i * 2 then .int .i64 ((l.getD i 0 : Nat) : Int) else placeCell l (i + 1) k) _ _ (fun _ _ => rfl)]
  rw [rowF_set _ (fun k => if k = i * 2 + 1 then x else if k = i * 2 then .int .i64 ((l.getD i 0 : Nat) : Int) else placeCell l (i + 1) k) _ _ (fun _ _ => rfl)]
  refine rowF_set _ _ _ _ fun k hk => ?_
  unfold placeCell
  by_cases h1 : k = i * 2 + 1
  · subst h1
    rw [if_pos rfl, if_neg (by omega), if_neg (by omega), show (i * 2 + 1) / 2 = i by omega]
  · rw [if_neg h1, if_neg h1]
    by_cases h2 : k = i * 2
    · subst h2
      rw [if_pos rfl, if_neg (by omega), if_pos (by omega), show i * 2 / 2 = i by omega]
    · rw [if_neg h2]
      by_cases h3 : k / 2 < i
      · have h4 : k / 2 < i + 1 := by omega
        rw [if_pos h3, if_pos h4]
      · have h4 : ¬ k / 2 < i + 1 := by omega
        rw [if_neg h3, if_neg h4]
theorem next_set (l : List Nat) (i : Nat) (h : i < l.length) : (nextCells l (i + 1)).setIfInBounds (l.getD i 0) (.int .i64 (i : Int)) = nextCells l i := rowF_set _ _ _ _ fun s _ => by
  rw [nextF_step l s i h]
  by_cases hs : l.getD i 0 = s
  · rw [if_pos hs, if_pos hs.symm]
  · rw [if_neg hs, if_neg (fun hc => hs hc.symm)]

structure PlOut (w w' : World) (g : Nat) (l : List Nat) : Prop where
  kept : Kept [] w w'
  ge : w.heap.size ≤ g
  blk : Blk w' g (placeCells l 0) 239

structure Pl1 (w wr : World) (N : Nat) (l : List Nat) (q : Nat) : Prop where
  k : Kept [] w wr
  nb : Blk wr N (rowF 356 fun s => .int .i64 (if s < q then (l.length : Int) else 0)) 237
  gb : Blk wr w.heap.size (placeCells l l.length) 239
  size : N < wr.heap.size
structure Pl2 (w wr : World) (N : Nat) (l : List Nat) (i : Nat) : Prop where
  k : Kept [] w wr
  nb : Blk wr N (nextCells l i) 237
  gb : Blk wr w.heap.size (placeCells l i) 239
theorem Pl1.set {w wr : World} {N : Nat} {l : List Nat} {q : Nat} (h : Pl1 w wr N l q) (hq : q < 356) (hN : w.heap.size < N) : Pl1 w (wr.setCell ⟨N, q, none⟩ (.int .i64 (l.length : Int))) N l (q + 1) := by
  refine ⟨h.k.setCell (Or.inr (by simp; omega)) _, ?_, h.gb.other _ _ (by omega), by simpa using h.size⟩
  have := h.nb.set q (.int .i64 (l.length : Int))
  rwa [rowF_set (n := 356) _ (fun s => .int .i64 (if s < q + 1 then (l.length : Int) else 0)) q _ (fun j _ => by
    by_cases h1 : j = q
    · rw [if_pos h1, if_pos (by omega)]
    · rw [if_neg h1]
      by_cases h2 : j < q
      · have h3 : j < q + 1 := by omega
        rw [if_pos h2, if_pos h3]
      · have h3 : ¬ j < q + 1 := by omega
        rw [if_neg h2, if_neg h3])] at this
theorem Pl1.done {w wr : World} {N : Nat} {l : List Nat} (h : Pl1 w wr N l 356) : Pl2 w wr N l l.length := by
  refine ⟨h.k, ?_, h.gb⟩
  have := h.nb
  rwa [rowF_congr (f' := fun s => .int .i64 ((nextF l s l.length : Nat) : Int)) (fun j hj => by rw [if_pos hj, nextF_end])] at this
theorem Pl2.step {w wr : World} {N : Nat} {l : List Nat} {i : Nat} (h : Pl2 w wr N l (i + 1)) (hi : i < l.length) (hN : w.heap.size < N) (x : Value) :
    Pl2 w ((((wr.setCell ⟨w.heap.size, i * 2, none⟩ (.int .i64 ((l.getD i 0 : Nat) : Int))).setCell ⟨w.heap.size, i * 2 + 1, none⟩ x).setCell ⟨w.heap.size, i * 2 + 1, none⟩ (.int .i64 ((nextF l (l.getD i 0) (i + 1) : Nat) : Int))).setCell ⟨N, l.getD i 0, none⟩ (.int .i64 (i : Int))) N l i := by
  have g1 := ((h.gb.set (i * 2) (.int .i64 ((l.getD i 0 : Nat) : Int))).set (i * 2 + 1) x).set (i * 2 + 1) (.int .i64 ((nextF l (l.getD i 0) (i + 1) : Nat) : Int))
  rw [place_set l i hi x] at g1
  have n1 := (((h.nb.other (b' := w.heap.size) (i * 2) (.int .i64 ((l.getD i 0 : Nat) : Int)) (by omega)).other (b' := w.heap.size) (i * 2 + 1) x (by omega)).other (b' := w.heap.size) (i * 2 + 1) (.int .i64 ((nextF l (l.getD i 0) (i + 1) : Nat) : Int)) (by omega)).set (l.getD i 0) (.int .i64 (i : Int))
  rw [next_set l i hi] at n1
  exact ⟨(((h.k.setCell (Or.inr (by simp)) _).setCell (Or.inr (by simp)) _).setCell (Or.inr (by simp)) _).setCell (Or.inr (by simp; omega)) _, n1, g1.other _ _ (by omega)⟩

set_option maxHeartbeats 4000000 in
set_option maxRecDepth 100000 in
theorem placesOf_any {l : List Nat} {v : Value} {base : Nat} (w : World) (hrow : w.ownsRow base 3 1 v l.length (symCells l)) (hl : l.length ≤ 600) (hs : ∀ s, s ∈ l → s < 356) :
    Calls Tryz.prog 121 #[v] w fun e w' => ∃ g, e = .returned (.slice (some ⟨g, 0, none⟩) l.length l.length) ∧ PlOut w w' g l := by
  have hz := zeroV_next
  obtain ⟨i0, hi0, hz0, hz1, hz2⟩ := info_parts infoPlace
  obtain ⟨va, vk, vc, rfl⟩ := own_shape hrow
  have hvk : vk = l.length := by
    rcases hrow.2 with ⟨h1, h2⟩ | ⟨g, cap, _, h1, _⟩
    · simp at h1; omega
    · simp at h1; omega
  subst hvk
  have hrowH : Hid (World.ownsRow _ _ _ _ _ _ _) := hrow
  clear hrow
  have mb : l.length ≤ maxLen := by unfold maxLen; omega
  go_enter Tryz.func121, Tryz.ntmps121
  go_wp2_with (refine wpList_make_full w rfl (.tmp 9) (.tmp 9) 200 rfl w.heap.size 239 i0 _ 2 Tryz.underlying200 hi0 hz0 hz1 .i64 .i64 (l.length : Int) (l.length : Int) l.length rfl rfl rfl rfl (by rw [hz2]; omega) mb (Nat.le_refl _) ?_; intro w1 hown hg)
  obtain ⟨N, hN⟩ : ∃ N, w1.heap.size = N := ⟨_, rfl⟩
  have hN : Hid (_ = _) := hN
  have hB : Hid (Blk w1 w.heap.size (placeCells l l.length) 239) := by rw [place_none]; exact made_blk hown
  have hk1 : Hid (Kept [] w w1) := ⟨hg.os, hg.tape, hg.output, hg.size, fun k hk _ => hg.block k hk (by simp)⟩
  have hN2 : w.heap.size < N := by rw [← hN.out]; exact hB.out.lt
  clear hown hg hz
  have hlt0 : Hid (Blk (w1.alloc (.cells (rowF 356 fun _ => .int .i64 0) 237)) N (rowF 356 fun s => .int .i64 (if s < 0 then (l.length : Int) else 0)) 237) := by
    have e : rowF 356 (fun s => Value.int .i64 (if s < 0 then (l.length : Int) else 0)) = rowF 356 fun _ => .int .i64 0 := rowF_congr fun j _ => by simp
    show Blk _ _ _ _; rw [e, ← hN.out]; exact Blk.new _ _ _
  have hst : Hid (Pl1 w (w1.alloc (.cells (rowF 356 fun _ => .int .i64 0) 237)) N l 0) := ⟨hk1.out.alloc _, hlt0.out, hB.out.alloc _, by have := hN.out; simp; omega⟩
  clear hlt0 hB hk1
  rw [hN.out]
  go_loopw [5] (fun iv wr => ∃ q : Nat, iv = .int .i64 (q : Int) ∧ q ≤ 356 ∧ Pl1 w wr N l q) (fun iv _ => (356 - intOf iv).toNat)
  case atStart => exact ⟨0, rfl, by omega, hst.out⟩
  case round =>
    obtain ⟨q, rfl, hq, hI⟩ := hrel
    clear hst
    by_cases hlt : (q : Int) < 356
    · have hqn : q < 356 := by omega
      have c1 := hI.nb.cell q
      rw [rowF_get _ hqn] at c1
      have c2 := hI.nb.frozen q
      have hnext : Hid (Pl1 w (wr.setCell ⟨N, q, none⟩ (.int .i64 (l.length : Int))) N l (q + 1)) := hI.set hqn hN2
      have hst := hI.size
      clear hI
      go_wp2
      refine ⟨⟨q + 1, by go_num, by omega, hnext.out⟩, ?_⟩
      simp only [intOf]; omega
    · have hqe : q = 356 := by omega
      subst hqe
      have hI : Hid (Pl2 w wr N l l.length) := hI.done
      go_wp2
      go_loopw [6] (fun iv wr => ∃ k : Nat, iv = .int .i64 ((k : Int) - 1) ∧ k ≤ l.length ∧ Pl2 w wr N l k) (fun iv _ => (intOf iv + 1).toNat)
      case atStart => exact ⟨l.length, rfl, Nat.le_refl _, hI.out⟩
      case round =>
        obtain ⟨k, rfl, hk, hJ⟩ := hrel
        clear hI
        cases k with
        | zero =>
          have hJ : Hid (Pl2 _ _ _ _ _) := hJ
          go_wp2
          go_ret
          exact ⟨w.heap.size, rfl, hJ.out.k, Nat.le_refl _, hJ.out.gb⟩
        | succ i =>
          have e : ((i + 1 : Nat) : Int) - 1 = (i : Int) := by omega
          rw [e]
          have hi : i < l.length := by omega
          obtain ⟨g, cap, hv⟩ := own_form hrowH.out (by omega)
          have hv2 := hv
          simp only [Value.slice.injEq, true_and] at hv2
          obtain ⟨rfl, rfl⟩ := hv2
          have hr2 := row_stay (S := []) hrowH.out hJ.k (fun _ _ => by simp)
          obtain ⟨s, hsv⟩ : ∃ s, l.getD i 0 = s := ⟨_, rfl⟩
          have hs3 : s < 356 := by
            rw [← hsv]; apply hs
            simp [List.getD, hi]
          have c1 : wr.cell? ⟨g, i, none⟩ = some (.int .i64 (s : Int)) := by
            have := hr2.cells (g := g) rfl i _ (symCells_get l i hi)
            rw [hsv] at this
            rwa [ptr_add] at this
          have c2 := hJ.nb.cell s
          unfold nextCells at c2
          rw [rowF_get _ hs3] at c2
          have c3 := hJ.nb.frozen s
          have d1 := hJ.gb.cell (i * 2)
          unfold placeCells at d1
          rw [rowF_get _ (by omega)] at d1
          have d2 := hJ.gb.cell (i * 2 + 1)
          unfold placeCells at d2
          rw [rowF_get _ (by omega)] at d2
          have d3 := hJ.gb.frozen (i * 2)
          have d4 := hJ.gb.frozen (i * 2 + 1)
          generalize placeCell l (i + 1) (i * 2) = v1 at d1
          generalize placeCell l (i + 1) (i * 2 + 1) = v2 at d2
          have hnext := hJ.step hi hN2 (.int .i64 (l.length : Int))
          rw [hsv] at hnext
          have hnext : Hid (Pl2 _ _ _ _ _) := hnext
          have hne : ¬ N = w.heap.size := by omega
          have hgN : ¬ g = w.heap.size := fun hc => by have := (hrowH.out.lt g rfl).2; omega
          clear hJ e hr2
          have hsv : Hid (_ = _) := hsv
          generalize nextF l s (i + 1) = F at *
          generalize l.length = n at *
          go_wp2
          refine ⟨⟨i, rfl, by omega, hnext.out⟩, ?_⟩
          simp only [intOf]; omega
end Go.Proofs.YtgifhgnccmnbiabGreatDoor
