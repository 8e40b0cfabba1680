/- The document's answer: is a line selected; Match. -/
import Derived.Test.YtgifhgnccmnbiaaG14
import Derived.Test.YtgifhgnccmnbiaaG15
import Derived.Test.YtgifhgnccmnbiaaG12
import Derived.Test.YtgifhgnccmnbiaaG10
set_option linter.unusedVariables false
set_option linter.unusedSimpArgs false
namespace Go.Proofs.Ytgifhgnccmnbiaa
open Go.RowKit Go.IntWalk

/-- Something that matches was met, ahead of the pair of places i, j. -/
def Seen (M : Nat → Nat → Bool) (n i j : Nat) : Prop := M 0 n = true ∨ ∃ a b, a ≤ b ∧ b ≤ n ∧ (a < i ∨ (a = i ∧ b < j)) ∧ M a b = true
structure SeenOk (M : Nat → Nat → Bool) (n i j : Nat) (y : Bool) : Prop where
  iff : y = true ↔ Seen M n i j
structure SelOk (whole : Bool) (n : Nat) (R : Rel) (y : Bool) : Prop where
  all : whole = true → (y = true ↔ R 0 n)
  part : whole = false → (y = true ↔ ∃ a b, a ≤ b ∧ b ≤ n ∧ R a b)

structure SelOut (inv whole : Bool) (n : Nat) (R : Rel) (w w' : World) (e : Ending) : Prop where
  ex : ∃ y : Bool, e = .returned (.bool (y != inv)) ∧ SelOk whole n R y
  kept : Kept [] w w'

theorem SeenOk.begin {M : Nat → Nat → Bool} {n : Nat} : SeenOk M n 0 0 (M 0 n) :=
  ⟨⟨fun h => Or.inl h, fun h => by
    rcases h with h | ⟨a, b, _, _, h, _⟩
    · exact h
    · omega⟩⟩
theorem SeenOk.row {M : Nat → Nat → Bool} {n i : Nat} {y : Bool} (h : SeenOk M n i 0 y) : SeenOk M n i i y :=
  ⟨h.iff.trans ⟨fun h => by
    rcases h with h | ⟨a, b, h1, h2, h3, h4⟩
    · exact Or.inl h
    · exact Or.inr ⟨a, b, h1, h2, by omega, h4⟩, fun h => by
    rcases h with h | ⟨a, b, h1, h2, h3, h4⟩
    · exact Or.inl h
    · exact Or.inr ⟨a, b, h1, h2, by omega, h4⟩⟩⟩
theorem SeenOk.step {M : Nat → Nat → Bool} {n i j : Nat} {y : Bool} (h : SeenOk M n i j y) (hij : i ≤ j) (hj : j ≤ n) : SeenOk M n i (j + 1) (y || M i j) :=
  ⟨by
    rw [Bool.or_eq_true, h.iff]
    constructor
    · rintro ((h | ⟨a, b, h1, h2, h3, h4⟩) | h)
      · exact Or.inl h
      · exact Or.inr ⟨a, b, h1, h2, by omega, h4⟩
      · exact Or.inr ⟨i, j, hij, hj, by omega, h⟩
    · rintro (h | ⟨a, b, h1, h2, h3, h4⟩)
      · exact Or.inl (Or.inl h)
      · by_cases hc : a = i ∧ b = j
        · obtain ⟨rfl, rfl⟩ := hc; exact Or.inr h4
        · exact Or.inl (Or.inr ⟨a, b, h1, h2, by omega, h4⟩)⟩
theorem SeenOk.next {M : Nat → Nat → Bool} {n i : Nat} {y : Bool} (h : SeenOk M n i (n + 1) y) : SeenOk M n (i + 1) 0 y :=
  ⟨h.iff.trans ⟨fun h => by
    rcases h with h | ⟨a, b, h1, h2, h3, h4⟩
    · exact Or.inl h
    · exact Or.inr ⟨a, b, h1, h2, by omega, h4⟩, fun h => by
    rcases h with h | ⟨a, b, h1, h2, h3, h4⟩
    · exact Or.inl h
    · exact Or.inr ⟨a, b, h1, h2, by omega, h4⟩⟩⟩
theorem SeenOk.fin {M : Nat → Nat → Bool} {n : Nat} {y : Bool} {R : Rel} (h : SeenOk M n (n + 1) 0 y) (hM : ∀ i j, i < n + 1 → j < n + 1 → (M i j = true ↔ R i j)) : SelOk false n R y :=
  ⟨fun h => (Bool.noConfusion h), fun _ => h.iff.trans ⟨fun h => by
    rcases h with h | ⟨a, b, h1, h2, h3, h4⟩
    · exact ⟨0, n, by omega, Nat.le_refl _, (hM 0 n (by omega) (by omega)).1 h⟩
    · exact ⟨a, b, h1, h2, (hM a b (by omega) (by omega)).1 h4⟩, fun ⟨a, b, h1, h2, h3⟩ => Or.inr ⟨a, b, h1, h2, by omega, (hM a b (by omega) (by omega)).2 h3⟩⟩⟩

set_option maxHeartbeats 4000000 in
set_option maxRecDepth 100000 in
theorem selected_ref (ps : List PN) (adrs : List Nat) (F : Nat → Prop) (inv fold whole num : Bool) (mx : Int) (t : ByteArray) (ht : t.size ≤ 1000) {i : Nat} (hg : GoodT ps i) (w : World) (hm : PMs w ps adrs F) :
    Calls Try.prog 46 #[.agg #[.bool inv, .bool fold, .bool whole, .bool num, .int .i64 mx], ptrTo adrs i, .string t] w fun e w' => SelOut inv whole t.size (MatR ps fold t i) w w' e := by
  have kb : Kept [] w (w.alloc (.cells #[.bool inv, .bool fold, .bool whole, .bool num, .int .i64 mx] 28)) := (Kept.refl _ _).alloc _
  have hmat := matched_any ps adrs F fold t ht hg _ (hm.kept kb)
  unfold TabCall at hmat
  obtain ⟨x, hx⟩ : ∃ x, ptrTo adrs i = .pointer (some ⟨x, 0, none⟩) := ⟨_, rfl⟩
  rw [hx] at hmat ⊢
  clear hx hm hg
  have kbH : Hid (Kept _ _ _) := kb
  clear kb
  obtain ⟨R, hR⟩ : ∃ R, R = MatR ps fold t i := ⟨_, rfl⟩
  rw [← hR] at hmat ⊢
  clear hR
  go_enter Try.func46, Try.ntmps46
  go_wp2_with fail
  refine Calls.mono hmat ?_
  rintro e w1 ⟨v, rfl, ⟨⟨rows, M, hlen, htab, hM⟩⟩, k1⟩
  clear hmat
  have hMH : Hid (∀ i j, _) := hM
  have hkk : Hid (Kept [] w w1) := kbH.out.trans k1
  have c0 : w1.cell? ⟨w.heap.size, 0, none⟩ = some (.bool inv) := by
    have h1 := (k1.block w.heap.size (by simp) (by simp)).trans (Blk.new w #[.bool inv, .bool fold, .bool whole, .bool num, .int .i64 mx] 28)
    exact Blk.cell (cs := #[.bool inv, .bool fold, .bool whole, .bool num, .int .i64 mx]) (e := 28) h1 0
  have c2 : w1.cell? ⟨w.heap.size, 2, none⟩ = some (.bool whole) := by
    have h1 := (k1.block w.heap.size (by simp) (by simp)).trans (Blk.new w #[.bool inv, .bool fold, .bool whole, .bool num, .int .i64 mx] 28)
    exact Blk.cell (cs := #[.bool inv, .bool fold, .bool whole, .bool num, .int .i64 mx]) (e := 28) h1 2
  clear hM k1 kbH
  obtain ⟨k, cap, rfl, _, hcells⟩ := htab.head (by omega)
  rw [hlen]
  obtain ⟨n, hn⟩ : ∃ n, n = t.size := ⟨_, rfl⟩
  rw [← hn] at hlen htab hMH hcells ⊢
  have hrow : Hid (∀ i j, i < n + 1 → j < n + 1 → ∃ g, w1.cell? ⟨k, i, none⟩ = some (.slice (some ⟨g, 0, none⟩) (n + 1) (n + 1)) ∧ w1.cell? ⟨g, j, none⟩ = some (.bool (M i j))) := fun i j hi hj => by
    obtain ⟨g, hg⟩ : ∃ g, rows[i]? = some g := ⟨_, List.getElem?_eq_getElem (by rw [hlen]; exact hi)⟩
    exact ⟨g, hcells i g hg, htab.cell hg hj⟩
  clear hcells htab hlen
  obtain ⟨g0, d1, d2⟩ := hrow.out 0 n (by omega) (by omega)
  have hn0 : n ≤ 1000 := by omega
  have eI : ∀ y : Bool, (y != inv) = (y != inv) := fun _ => rfl
  clear eI
  cases whole with
  | true =>
    have hfin : Hid (SelOk true n R (M 0 n)) := ⟨fun _ => hMH.out 0 n (by omega) (by omega), fun h => Bool.noConfusion h⟩
    clear hrow hMH
    rw [hn] at d2 hfin ⊢
    generalize M 0 t.size = Y at *
    cases Y <;> cases inv <;>
    · go_wp2
      go_ret
      refine ⟨⟨_, ?_, hfin.out⟩, hkk.out⟩; rfl
  | false =>
    have hbeg : Hid (SeenOk M n 0 0 (M 0 n)) := SeenOk.begin
    rw [hn] at d2
    have hnH : Hid (_ = _) := hn
    rw [← hn] at d2
    generalize hY : M 0 n = Y at *
    clear hY
    rw [hn] at d1 d2 hbeg hrow hMH hn0 ⊢
    clear hn hnH
    go_wp2_with fail
    go_loop [9, 10] (fun yv iv => ∃ (y : Bool) (i : Nat), yv = .bool y ∧ iv = .int .i64 (i : Int) ∧ i ≤ t.size + 1 ∧ SeenOk M t.size i 0 y) (fun _ iv => ((t.size : Int) + 1 - intOf iv).toNat)
    case atStart => exact ⟨Y, 0, rfl, rfl, by omega, hbeg.out⟩
    case round =>
      obtain ⟨y, i, rfl, rfl, hi, hs⟩ := hrel
      clear hbeg d1 d2
      have hsH : Hid (SeenOk _ _ _ _ _) := hs
      clear hs
      by_cases hlt : (i : Int) ≤ (t.size : Int)
      · go_wp2_with fail
        go_loop [9, 11] (fun yv jv => ∃ (y : Bool) (j : Nat), yv = .bool y ∧ jv = .int .i64 (j : Int) ∧ i ≤ j ∧ j ≤ t.size + 1 ∧ SeenOk M t.size i j y) (fun _ jv => ((t.size : Int) + 1 - intOf jv).toNat)
        case atStart => exact ⟨y, i, rfl, rfl, Nat.le_refl _, hi, hsH.out.row⟩
        case round =>
          obtain ⟨y2, j, rfl, rfl, hij, hj, hs⟩ := hrel
          clear hsH
          have hsH : Hid (SeenOk _ _ _ _ _) := hs
          clear hs
          by_cases hlt2 : (j : Int) ≤ (t.size : Int)
          · obtain ⟨g, f1, f2⟩ := hrow.out i j (by omega) (by omega)
            have hnx : Hid (SeenOk _ _ _ _ _) := hsH.out.step hij (by omega)
            clear hsH
            generalize M i j = B at *
            cases y2 <;> cases B <;>
            · go_wp2
              refine ⟨⟨_, j + 1, rfl, by go_num, by omega, by omega, hnx.out⟩, ?_⟩
              simp only [intOf]; omega
          · have hjn : j = t.size + 1 := by omega
            subst hjn
            have hnx : Hid (SeenOk _ _ _ _ _) := hsH.out.next
            clear hsH
            go_wp2
            refine ⟨⟨_, i + 1, rfl, by go_num, by omega, hnx.out⟩, ?_⟩
            simp only [intOf]; omega
      · have hin : i = t.size + 1 := by omega
        subst hin
        have hfin : Hid (SelOk _ _ _ _) := hsH.out.fin hMH.out
        clear hsH hrow hMH
        cases y <;> cases inv <;>
        · go_wp2
          go_ret
          refine ⟨⟨_, ?_, hfin.out⟩, hkk.out⟩; rfl

/-- What the document's Match comes to. -/
def RMatchOut (inv fold whole : Bool) (mx : Int) (t l : ByteArray) (e : Ending) : Prop :=
  (mx < 0 ∧ e = .returned (.tuple #[.bool false, .int .i64 1])) ∨
  (0 ≤ mx ∧ 40 < t.size ∧ e = .returned (.tuple #[.bool false, .int .i64 3])) ∨
  (0 ≤ mx ∧ t.size ≤ 40 ∧ ∃ q : Nat × RP, EvR t 0 [] rp0 q ∧
    ((BadT t q ∧ e = .returned (.tuple #[.bool false, .int .i64 2])) ∨
     (¬ BadT t q ∧ 60 < szT q ∧ e = .returned (.tuple #[.bool false, .int .i64 3])) ∨
     (¬ BadT t q ∧ szT q ≤ 60 ∧ ¬ IsLine l ∧ e = .returned (.tuple #[.bool false, .int .i64 8])) ∨
     (¬ BadT t q ∧ szT q ≤ 60 ∧ IsLine l ∧ ∃ y : Bool, e = .returned (.tuple #[.bool (y != inv), .int .i64 0]) ∧ SelOk whole l.size (MatR q.2.2 fold l q.1) y)))

set_option maxHeartbeats 2000000 in
set_option maxRecDepth 100000 in
theorem rmatch_any (inv fold whole num : Bool) (mx : Int) (t l : ByteArray) (w : World) (hm1 : -9223372036854775808 ≤ mx) (hm2 : mx ≤ 9223372036854775807) (ht : t.size ≤ maxLen) (hl : l.size ≤ maxLen)
    (hgood : t.size ≤ 40 → ∀ q, EvR t 0 [] rp0 q → ¬ BadT t q → GoodT q.2.2 q.1) :
    Calls Try.prog 19 #[.agg #[.bool inv, .bool fold, .bool whole, .bool num, .int .i64 mx], .string t, .string l] w fun e w' => RMatchOut inv fold whole mx t l e ∧ Below w.heap.size w w' := by
  by_cases hmx : mx < 0
  · go_enter Try.func19, Try.ntmps19
    go_wp2
    go_ret2
    exact ⟨Or.inl ⟨hmx, rfl⟩, (Below.refl _ _).alloc (Nat.le_refl _) _⟩
  have hmx : 0 ≤ mx := by omega
  have hB0 : Hid (Below w.heap.size w (w.alloc (.cells #[.bool inv, .bool fold, .bool whole, .bool num, .int .i64 mx] 28))) := (Below.refl _ _).alloc (Nat.le_refl _) _
  by_cases hlen : 40 < t.size
  · have hc : Hid (∀ w, Calls _ _ _ w _) := fun w => rtree_long t w hlen ht
    go_enter Try.func19, Try.ntmps19
    go_wp2_with (go_at_call 41; refine (hc.out _).mono ?_; rintro e w1 ⟨rfl, rfl⟩)
    go_ret2
    exact ⟨Or.inr (Or.inl ⟨hmx, hlen, rfl⟩), hB0.out⟩
  have hlen : t.size ≤ 40 := by omega
  go_enter Try.func19, Try.ntmps19
  go_wp2_with fail
  refine (rtree_any t _ hlen).mono ?_
  rintro e w1 ⟨b1, q, hev, hidx, hcase⟩
  have hB1 : Hid (Below w.heap.size w w1) := hB0.out.trans (b1.mono (by simp))
  have hblk : Blk w1 w.heap.size #[.bool inv, .bool fold, .bool whole, .bool num, .int .i64 mx] 28 := (b1.block w.heap.size (by simp)).trans (Blk.new w _ _)
  have hOut : Hid (∀ e, _ → RMatchOut inv fold whole mx t l e) := fun e h => Or.inr (Or.inr ⟨hmx, hlen, q, hev, h⟩)
  have hG : Hid (¬ BadT t q → _) := hgood hlen q hev
  clear b1 hev hidx hB0 hgood
  rcases hcase with ⟨hb, rfl⟩ | ⟨hb, hz, rfl⟩ | ⟨hb, hz, adrs, F, b, hbb, hn, rfl⟩
  · have hfin : Hid (RMatchOut inv fold whole mx t l (.returned (.tuple #[.bool false, .int .i64 2])) ∧ Below w.heap.size w w1) := ⟨hOut.out _ (Or.inl ⟨hb, rfl⟩), hB1.out⟩
    clear hOut hb hG hblk
    go_wp2
    go_ret2
    exact hfin.out
  · have hfin : Hid (RMatchOut inv fold whole mx t l (.returned (.tuple #[.bool false, .int .i64 3])) ∧ Below w.heap.size w w1) := ⟨hOut.out _ (Or.inr (Or.inl ⟨hb, hz, rfl⟩)), hB1.out⟩
    clear hOut hb hz hG hblk
    go_wp2
    go_ret2
    exact hfin.out
  · have hg : GoodT q.2.2 q.1 := hG.out hb
    have hpm := hn.pms
    have hbad : Hid (¬ IsLine l → RMatchOut inv fold whole mx t l (.returned (.tuple #[.bool false, .int .i64 8])) ∧ Below w.heap.size w w1) := fun h => ⟨hOut.out _ (Or.inr (Or.inr (Or.inl ⟨hb, hz, h, rfl⟩))), hB1.out⟩
    have hsel : Hid (IsLine l → Calls _ _ _ _ _) := fun h => selected_ref q.2.2 adrs F inv fold whole num mx l (by have := h.1; omega) hg w1 hpm
    have hyes : Hid (IsLine l → ∀ e w', SelOut inv whole l.size (MatR q.2.2 fold l q.1) w1 w' e → ∃ y : Bool, e = .returned (.bool y) ∧ RMatchOut inv fold whole mx t l (.returned (.tuple #[.bool y, .int .i64 0])) ∧ Below w.heap.size w w') := fun h e w' ho => by
      obtain ⟨⟨y, he, hs⟩, hk⟩ := ho
      exact ⟨_, he, hOut.out _ (Or.inr (Or.inr (Or.inr ⟨hb, hz, h, y, rfl, hs⟩))), hB1.out.trans ((hk.below (Nat.le_refl _) (by simp)).mono hB1.out.size)⟩
    obtain ⟨x, hx⟩ : ∃ x, ptrTo adrs q.1 = .pointer (some ⟨x, 0, none⟩) := ⟨_, rfl⟩
    rw [hx] at hsel ⊢
    clear hx hOut hb hz hG hg hpm hn hbb
    generalize MatR q.2.2 fold l q.1 = R at *
    generalize szT q = zz at *
    unfold maxLen at hl
    by_cases hbig : (600 : Int) < (l.size : Int)
    · have hfin : Hid (_ ∧ _) := hbad.out (fun hc => by have := hc.1; omega)
      clear hsel hyes hbad hblk
      go_wp2
      go_ret2
      exact hfin.out
    · have hl2 : (l.size : Int) ≤ 600 := by omega
      clear hbig
      go_wp2_with fail
      go_loop [11] (fun iv => ∃ q : Nat, iv = .int .i64 (q : Int) ∧ q ≤ l.size ∧ noNl l q) (fun iv => ((l.size : Int) - intOf iv).toNat)
      case atStart => exact ⟨0, rfl, by omega, fun i hi => by omega⟩
      case round =>
        obtain ⟨k, rfl, hq, hno⟩ := hrel
        have hnoH : Hid (noNl l k) := hno
        clear hno
        by_cases hlt : (k : Int) < (l.size : Int)
        · have hqn : k < l.size := by omega
          by_cases hc : (l[k].toNat : Int) = 10
          · have hfin : Hid (_ ∧ _) := hbad.out (fun hl => by have := hl.2 k hqn hqn; omega)
            clear hsel hyes hbad hblk
            go_wp2
            go_ret2
            exact hfin.out
          · have hnext : Hid (noNl l (k + 1)) := fun i hi h => by
              by_cases hiq : i = k
              · subst hiq; omega
              · exact hnoH.out i (by omega) h
            have hne : (l[k].toNat : Int) ≠ 10 := hc
            clear hsel hyes hbad hblk
            go_wp2
            refine ⟨⟨k + 1, by go_num, by omega, hnext.out⟩, ?_⟩
            simp only [intOf]; omega
        · have hqe : k = l.size := by omega
          have hline : IsLine l := ⟨by omega, by have := hnoH.out; rw [hqe] at this; exact this⟩
          have hselH : Hid (Calls _ _ _ _ _) := hsel.out hline
          have hyesH : Hid (∀ e w', _ → _) := hyes.out hline
          clear hqe hline hsel hyes hbad hnoH
          have e0 : w1.cell? ⟨w.heap.size, 0, none⟩ = some (.bool inv) := hblk.cell 0
          have e1 : w1.cell? ⟨w.heap.size, 1, none⟩ = some (.bool fold) := hblk.cell 1
          have e2 : w1.cell? ⟨w.heap.size, 2, none⟩ = some (.bool whole) := hblk.cell 2
          have e3 : w1.cell? ⟨w.heap.size, 3, none⟩ = some (.bool num) := hblk.cell 3
          have e4 : w1.cell? ⟨w.heap.size, 4, none⟩ = some (.int .i64 mx) := hblk.cell 4
          clear hblk
          go_wp2_with fail
          refine hselH.out.mono ?_
          rintro e w2 hso
          obtain ⟨y, rfl, hfin⟩ := hyesH.out _ _ hso
          have hfin : Hid (_ ∧ _) := hfin
          clear hselH hyesH hso e0 e1 e2 e3 e4
          go_wp2
          go_ret2
          exact hfin.out

end Go.Proofs.Ytgifhgnccmnbiaa

set_option linter.unusedVariables false
set_option linter.unusedSimpArgs false
namespace Go.Proofs.Ytgifhgnccmnbiaa

/-- From state s (60: ahead of all steps) to step b. -/
def Nx (P : GP) (s b : Nat) : Prop := (s = 60 ∧ P.first.getLsbD b = true) ∨ (s < P.count ∧ (P.next s).getLsbD b = true)
def RunX (P : GP) : Nat → List Nat → Prop
  | s, [] => (s < P.count ∧ P.last.getLsbD s = true) ∨ (s = 60 ∧ P.empty = true)
  | s, b :: r => Nx P s b ∧ RunX P b r

section
variable {P : GP} (hP : P.Fit)
include hP
theorem Nx.lt {s b : Nat} (h : Nx P s b) : b < P.count := by
  rcases h with ⟨_, h⟩ | ⟨_, h⟩
  · exact hP.first _ h
  · exact hP.next _ _ h
theorem runX_run : ∀ {l : List Nat} {s : Nat}, s < P.count → (RunX P s l ↔ P.Run s l)
  | [], s, hs => by
    have := hP.room
    simp only [RunX, GP.Run]
    constructor
    · rintro (⟨_, h⟩ | ⟨h, _⟩)
      · exact h
      · omega
    · intro h; exact Or.inl ⟨hs, h⟩
  | b :: r, s, hs => by
    have := hP.room
    simp only [RunX, GP.Run]
    constructor
    · rintro ⟨h1 | h1, h2⟩
      · omega
      · exact ⟨h1.2, (runX_run (hP.next _ _ h1.2)).1 h2⟩
    · rintro ⟨h1, h2⟩
      exact ⟨Or.inr ⟨hs, h1⟩, (runX_run (hP.next _ _ h1)).2 h2⟩
theorem runX_acc {l : List Nat} : RunX P 60 l ↔ P.Acc l := by
  have := hP.room
  cases l with
  | nil =>
    simp only [RunX, GP.Acc]
    constructor
    · rintro (⟨h, _⟩ | ⟨_, h⟩)
      · omega
      · exact h
    · intro h; exact Or.inr ⟨trivial, h⟩
  | cons b r =>
    simp only [RunX, GP.Acc]
    constructor
    · rintro ⟨h1 | h1, h2⟩
      · exact ⟨h1.2, (runX_run hP (hP.first _ h1.2)).1 h2⟩
      · omega
    · rintro ⟨h1, h2⟩
      exact ⟨Or.inl ⟨rfl, h1⟩, (runX_run hP (hP.first _ h1)).2 h2⟩
end

section
variable {m : MP} {ns : List AN} {P : GP} {fold whole : Bool} {t : ByteArray} (hm : MF m ns P fold whole)
include hm

def Sub (P : GP) (S : B64) : Prop := ∀ b, S.getLsbD b = true → b < P.count ∨ b = 60 ∨ b = 61
omit hm in
theorem runX_no {l : List Nat} (hP : P.Fit) : ¬ RunX P 61 l := by
  have := hP.room
  cases l with
  | nil => rintro (⟨h, _⟩ | ⟨h, _⟩) <;> omega
  | cons b r => rintro ⟨⟨h, _⟩ | ⟨h, _⟩, _⟩ <;> omega
theorem follow_nx {S : B64} (hS : Sub P S) {b : Nat} : (followP m S).getLsbD b = true ↔ ∃ s, S.getLsbD s = true ∧ Nx P s b := by
  have hr := hm.fit.room
  unfold followP
  rw [follow_bit]
  constructor
  · rintro ⟨s, h1, h2, h3⟩
    refine ⟨s, h2, ?_⟩
    rcases hS s h2 with h | h | h
    · rw [hm.next s h] at h3; exact Or.inr ⟨h, h3⟩
    · subst h; rw [hm.start] at h3; exact Or.inl ⟨rfl, h3⟩
    · omega
  · rintro ⟨s, h1, ⟨h2, h3⟩ | ⟨h2, h3⟩⟩
    · subst h2; exact ⟨60, by omega, h1, by rw [hm.start]; exact h3⟩
    · exact ⟨s, by omega, h1, by rw [hm.next s h2]; exact h3⟩
theorem last_run {s : Nat} (h : m.last.getLsbD s = true) : RunX P s [] := by
  rcases (hm.last s).1 h with h | h
  · exact Or.inl ⟨hm.fit.last _ h, h⟩
  · exact Or.inr h
theorem run_last {s : Nat} (h : RunX P s []) : m.last.getLsbD s = true := by
  rcases h with h | h
  · exact (hm.last s).2 (Or.inl h.2)
  · exact (hm.last s).2 (Or.inr h)
theorem free_lt {e : Bool} {b : Nat} (h : (freeP m e).getLsbD b = true) : b < P.count := by
  unfold freeP at h
  split at h
  · rw [bit_or, Bool.or_eq_true] at h
    rcases h with h | h
    · exact ((hm.ends b).1 h).1
    · exact ((hm.begins b).1 h).1
  · exact ((hm.ends b).1 h).1
theorem still_sub {S free : B64} (hS : Sub P S) (hf : ∀ b, free.getLsbD b = true → b < P.count) : Sub P (stillP m S free) := fun b h =>
  have _ := hm
  still_sound (Q := fun b => b < P.count ∨ b = 60 ∨ b = 61) hS (fun _ _ b _ h2 => Or.inl (hf b h2)) 60 b h

/-- What the set holds at the beginning. -/
theorem begin_facts : (∀ b, (beginP m).getLsbD b = true → b < P.count ∨ b = 60) ∧ (beginP m).getLsbD 60 = true ∧
    (∀ b, (beginP m).getLsbD b = true → ∀ l j, RunX P b l → Tr ns fold t (l.map P.node) 0 j → ∃ l', RunX P 60 l' ∧ Tr ns fold t (l'.map P.node) 0 j) ∧
    (∀ b, (followP m (beginP m)).getLsbD b = true → m.begins.getLsbD b = true → (beginP m).getLsbD b = true) := by
  have hr := hm.fit.room
  have hf : ∀ b, m.begins.getLsbD b = true → b < P.count := fun b h => ((hm.begins b).1 h).1
  have h1 : ∀ b, (beginP m).getLsbD b = true → b < P.count ∨ b = 60 := fun b h =>
    still_sound (Q := fun b => b < P.count ∨ b = 60) (fun b h => Or.inr (start_bit.1 h)) (fun _ _ b _ h2 => Or.inl (hf b h2)) 60 b h
  refine ⟨h1, still_up (start_bit.2 rfl) 60, ?_, fun b h2 h3 => still_closed (fun b h => by have := hf b h; omega) h2 h3⟩
  intro b hb
  have h2 := still_sound (m := m) (S := startB) (free := m.begins) (Q := fun b => (b < P.count ∨ b = 60) ∧ ∀ l j, RunX P b l → Tr ns fold t (l.map P.node) 0 j → ∃ l', RunX P 60 l' ∧ Tr ns fold t (l'.map P.node) 0 j)
    (fun b h => by
      have := start_bit.1 h
      subst this
      exact ⟨Or.inr rfl, fun l j h1 h2 => ⟨l, h1, h2⟩⟩)
    (fun S' hS' b h2 h3 => by
      refine ⟨Or.inl (hf b h3), fun l j h4 h5 => ?_⟩
      obtain ⟨s, hs, hn⟩ := (follow_nx hm (fun b h => (hS' b h).1.elim Or.inl (fun h => Or.inr (Or.inl h)))).1 h2
      obtain ⟨_, n, hn1, hn2⟩ := (hm.begins b).1 h3
      exact (hS' s hs).2 (b :: l) j ⟨hn, h4⟩ ⟨0, ⟨n, hn1, Or.inr (Or.inl ⟨hn2, rfl, rfl⟩)⟩, h5⟩)
    60 b hb
  exact h2.2

omit hm in
theorem takes_go {q b : Nat} (hm : MF m ns P fold whole) (hq : q < t.size) : (m.takes t[q].toNat).getLsbD b = true ↔ b < P.count ∧ ∃ n, ns[P.node b]? = some n ∧ n.kind = 1 ∧ takesP n fold t[q].toNat = true := by
  rw [hm.takes]
  exact ⟨fun h => h.2, fun h => ⟨t[q].toNat_lt, h⟩⟩
/-- One byte on: the steps that are that byte. -/
theorem after_bit {S : B64} (hS : Sub P S) {q b : Nat} (hq : q < t.size) : (afterP m S t[q].toNat).getLsbD b = true ↔ ∃ s, S.getLsbD s = true ∧ Nx P s b ∧ ∃ n, ns[P.node b]? = some n ∧ n.kind = 1 ∧ takesP n fold t[q].toNat = true := by
  unfold afterP
  rw [bit_and, Bool.and_eq_true, follow_nx hm hS, takes_go hm hq]
  constructor
  · rintro ⟨⟨s, h1, h2⟩, _, h3⟩; exact ⟨s, h1, h2, h3⟩
  · rintro ⟨s, h1, h2, h3⟩; exact ⟨⟨s, h1, h2⟩, h2.lt hm.fit, h3⟩

/-- What is at hand at the end of the line. -/
theorem end_sound {S : B64} {X : Prop} (hS : Sub P S) (h0 : ∀ b l j, S.getLsbD b = true → RunX P b l → Tr ns fold t (l.map P.node) t.size j → X) :
    ∀ b, (stillP m S (freeP m (t.size == 0))).getLsbD b = true → ∀ l j, RunX P b l → Tr ns fold t (l.map P.node) t.size j → X := by
  intro b hb
  have h2 := still_sound (m := m) (S := S) (free := freeP m (t.size == 0)) (Q := fun b => (b < P.count ∨ b = 60 ∨ b = 61) ∧ ∀ l j, RunX P b l → Tr ns fold t (l.map P.node) t.size j → X)
    (fun b h => ⟨hS b h, fun l j => h0 b l j h⟩)
    (fun S' hS' b h2 h3 => by
      refine ⟨Or.inl (free_lt hm h3), fun l j h4 h5 => ?_⟩
      obtain ⟨s, hs, hn⟩ := (follow_nx hm (fun b h => (hS' b h).1)).1 h2
      refine (hS' s hs).2 (b :: l) j ⟨hn, h4⟩ ⟨t.size, ?_, h5⟩
      unfold freeP at h3
      split at h3
      · rename_i hz
        have hz : t.size = 0 := by simpa using hz
        rw [bit_or, Bool.or_eq_true] at h3
        rcases h3 with h3 | h3
        · obtain ⟨_, n, hn1, hn2⟩ := (hm.ends b).1 h3
          exact ⟨n, hn1, Or.inr (Or.inr ⟨hn2, rfl, rfl⟩)⟩
        · obtain ⟨_, n, hn1, hn2⟩ := (hm.begins b).1 h3
          exact ⟨n, hn1, Or.inr (Or.inl ⟨hn2, hz, hz⟩)⟩
      · obtain ⟨_, n, hn1, hn2⟩ := (hm.ends b).1 h3
        exact ⟨n, hn1, Or.inr (Or.inr ⟨hn2, rfl, rfl⟩)⟩)
    60 b hb
  exact h2.2
theorem end_compl {S : B64} (hS : Sub P S) : ∀ (l : List Nat) (b : Nat), (stillP m S (freeP m (t.size == 0))).getLsbD b = true → RunX P b l → (∃ j, Tr ns fold t (l.map P.node) t.size j) → ∃ s, (stillP m S (freeP m (t.size == 0))).getLsbD s = true ∧ m.last.getLsbD s = true
  | [], b, hb, hr, _ => ⟨b, hb, run_last hm hr⟩
  | c :: r, b, hb, hr, ⟨j, k, ⟨n, hn, hg⟩, h2⟩ => by
    have hroom := hm.fit.room
    have hc := hr.1.lt hm.fit
    have hfl : (followP m (stillP m S (freeP m (t.size == 0)))).getLsbD c = true := (follow_nx hm (still_sub hm hS (fun b h => free_lt hm h))).2 ⟨b, hb, hr.1⟩
    have hclose : (freeP m (t.size == 0)).getLsbD c = true → (stillP m S (freeP m (t.size == 0))).getLsbD c = true := fun h => still_closed (fun b h => by have := free_lt hm h; omega) hfl h
    rcases hg with ⟨_, _, h3, _⟩ | ⟨hk, hz, rfl⟩ | ⟨hk, _, rfl⟩
    · omega
    · refine end_compl hS r c (hclose ?_) hr.2 ⟨j, by rw [hz]; exact h2⟩
      unfold freeP
      rw [if_pos (by simp [hz]), bit_or, Bool.or_eq_true]
      exact Or.inr ((hm.begins c).2 ⟨hc, n, hn, hk⟩)
    · refine end_compl hS r c (hclose ?_) hr.2 ⟨j, h2⟩
      have he : m.ends.getLsbD c = true := (hm.ends c).2 ⟨hc, n, hn, hk⟩
      unfold freeP
      split
      · rw [bit_or, Bool.or_eq_true]; exact Or.inl he
      · exact he
theorem accepts_iff {S : B64} : acceptsP m S (t.size == 0) = true ↔ ∃ b, (stillP m S (freeP m (t.size == 0))).getLsbD b = true ∧ (m.last.getLsbD b = true ∨ b = 61) := by
  have _ := hm
  unfold acceptsP
  rw [Bool.not_eq_true', decide_eq_false_iff_not, u_none]
  constructor
  · intro h
    apply Classical.byContradiction
    intro hc
    apply h
    intro i
    cases hi : (stillP m S (freeP m (t.size == 0)) &&& (m.last ||| foundB)).getLsbD i with
    | false => rfl
    | true =>
      exfalso
      rw [bit_and, bit_or, Bool.and_eq_true, Bool.or_eq_true, found_bit] at hi
      exact hc ⟨i, hi.1, hi.2⟩
  · rintro ⟨b, h1, h2⟩ hc
    have := hc b
    rw [bit_and, bit_or, h1] at this
    rcases h2 with h2 | h2
    · rw [h2] at this; simp at this
    · rw [found_bit.2 h2] at this; simp at this
end

/- THE WHOLE LINE. -/
section
variable {m : MP} {ns : List AN} {P : GP} {fold : Bool} {t : ByteArray} (hm : MF m ns P fold true)
include hm
def MatchW (P : GP) (ns : List AN) (fold : Bool) (t : ByteArray) : Prop := ∃ l, RunX P 60 l ∧ Tr ns fold t (l.map P.node) 0 t.size
structure InvW (m : MP) (ns : List AN) (P : GP) (fold : Bool) (t : ByteArray) (q : Nat) (S : B64) : Prop where
  sub : ∀ b, S.getLsbD b = true → b < P.count ∨ b = 60
  sound : ∀ b l j, S.getLsbD b = true → RunX P b l → Tr ns fold t (l.map P.node) q j → j = t.size → MatchW P ns fold t
  compl : MatchW P ns fold t → ∃ b l, S.getLsbD b = true ∧ RunX P b l ∧ Tr ns fold t (l.map P.node) q t.size
  closed : q = 0 → ∀ b, (followP m S).getLsbD b = true → m.begins.getLsbD b = true → S.getLsbD b = true

/-- Either the line is at its end here, or some step is the next byte. -/
theorem go_on {S : B64} {q : Nat} (hS : Sub P S) (hq : q < t.size) (hcl : q = 0 → ∀ b, (followP m S).getLsbD b = true → m.begins.getLsbD b = true → S.getLsbD b = true) :
    ∀ (l : List Nat) (b : Nat) (j : Nat), S.getLsbD b = true → RunX P b l → Tr ns fold t (l.map P.node) q j → (∃ s, S.getLsbD s = true ∧ m.last.getLsbD s = true ∧ j = q) ∨ ∃ c r, (afterP m S t[q].toNat).getLsbD c = true ∧ RunX P c r ∧ Tr ns fold t (r.map P.node) (q + 1) j
  | [], b, j, hb, hr, htr => Or.inl ⟨b, hb, run_last hm hr, htr.1.symm⟩
  | c :: r, b, j, hb, hr, ⟨k, ⟨n, hn, hg⟩, h2⟩ => by
    have hc := hr.1.lt hm.fit
    rcases hg with ⟨hk, rfl, h3, h4⟩ | ⟨hk, hz, rfl⟩ | ⟨hk, hz, _⟩
    · exact Or.inr ⟨c, r, (after_bit hm hS hq).2 ⟨b, hb, hr.1, n, hn, hk, h4⟩, hr.2, h2⟩
    · subst hz
      exact go_on hS hq hcl r c j (hcl rfl c ((follow_nx hm hS).2 ⟨b, hb, hr.1⟩) ((hm.begins c).2 ⟨hc, n, hn, hk⟩)) hr.2 h2
    · omega

theorem invW : ∀ q, q ≤ t.size → InvW m ns P fold t q (setQ m t q)
  | 0, _ => by
    obtain ⟨h1, h2, h3, h4⟩ := begin_facts (t := t) hm
    refine ⟨h1, fun b l j hb hr htr hj => ?_, ?_, fun _ => h4⟩
    · subst hj; exact h3 b hb l _ hr htr
    · rintro ⟨l, hl, htr⟩; exact ⟨60, l, h2, hl, htr⟩
  | q + 1, hq => by
    have ih := invW q (by omega)
    have hS : Sub P (setQ m t q) := fun b h => (ih.sub b h).elim Or.inl (fun h => Or.inr (Or.inl h))
    have hqt : q < t.size := by omega
    have e : setQ m t (q + 1) = afterP m (setQ m t q) t[q].toNat := by
      rw [setQ, dif_pos hqt]; unfold behindP; rw [if_pos hm.whole]
    rw [e]
    refine ⟨fun b h => ?_, fun b l j hb hr htr hj => ?_, fun hM => ?_, fun h => by omega⟩
    · obtain ⟨s, _, hn, _⟩ := (after_bit hm hS hqt).1 h
      exact Or.inl (hn.lt hm.fit)
    · obtain ⟨s, hs, hn, n, hn1, hn2, hn3⟩ := (after_bit hm hS hqt).1 hb
      exact ih.sound s (b :: l) j hs ⟨hn, hr⟩ ⟨q + 1, ⟨n, hn1, Or.inl ⟨hn2, rfl, hqt, hn3⟩⟩, htr⟩ hj
    · obtain ⟨b, l, hb, hr, htr⟩ := ih.compl hM
      rcases go_on hm hS hqt ih.closed l b _ hb hr htr with ⟨_, _, _, h⟩ | ⟨c, r, h1, h2, h3⟩
      · omega
      · exact ⟨c, r, h1, h2, h3⟩

theorem whole_iff : matchesP m t = true ↔ MatchW P ns fold t := by
  have inv := invW (t := t) hm t.size (Nat.le_refl _)
  have hS : Sub P (setQ m t t.size) := fun b h => (inv.sub b h).elim Or.inl (fun h => Or.inr (Or.inl h))
  have hroom := hm.fit.room
  unfold matchesP
  rw [accepts_iff hm]
  constructor
  · rintro ⟨b, hb, h | h⟩
    · refine end_sound hm hS (X := MatchW P ns fold t) (fun b l j h1 h2 h3 => inv.sound b l j h1 h2 h3 (by have := h3.le; omega)) b hb [] t.size (last_run hm h) ⟨rfl, Nat.le_refl _⟩
    · subst h
      exfalso
      have h1 := still_sound (m := m) (S := setQ m t t.size) (free := freeP m (t.size == 0)) (Q := fun b => b < P.count ∨ b = 60) inv.sub (fun _ _ b _ h2 => Or.inl (free_lt hm h2)) 60 61 hb
      omega
  · intro h
    obtain ⟨b, l, hb, hr, htr⟩ := inv.compl h
    obtain ⟨s, h1, h2⟩ := end_compl hm hS l b (still_up hb 60) hr ⟨_, htr⟩
    exact ⟨s, h1, Or.inl h2⟩
end

/- SOMEWHERE IN THE LINE. -/
section
variable {m : MP} {ns : List AN} {P : GP} {fold : Bool} {t : ByteArray} (hm : MF m ns P fold false)
include hm
def MatchA (P : GP) (ns : List AN) (fold : Bool) (t : ByteArray) : Prop := ∃ i j l, RunX P 60 l ∧ Tr ns fold t (l.map P.node) i j
structure InvA (m : MP) (ns : List AN) (P : GP) (fold : Bool) (t : ByteArray) (q : Nat) (S : B64) : Prop where
  sub : Sub P S
  found : S.getLsbD 61 = true → MatchA P ns fold t
  sound : ∀ b l j, S.getLsbD b = true → RunX P b l → Tr ns fold t (l.map P.node) q j → MatchA P ns fold t
  compl : MatchA P ns fold t → S.getLsbD 61 = true ∨ (∃ b l j, S.getLsbD b = true ∧ RunX P b l ∧ Tr ns fold t (l.map P.node) q j) ∨ ∃ i l j, q < i ∧ RunX P 60 l ∧ Tr ns fold t (l.map P.node) i j
  closed : q = 0 → ∀ b, (followP m S).getLsbD b = true → m.begins.getLsbD b = true → S.getLsbD b = true

theorem go_onA {S : B64} {q : Nat} (hS : Sub P S) (hq : q < t.size) (hcl : q = 0 → ∀ b, (followP m S).getLsbD b = true → m.begins.getLsbD b = true → S.getLsbD b = true) :
    ∀ (l : List Nat) (b : Nat) (j : Nat), S.getLsbD b = true → RunX P b l → Tr ns fold t (l.map P.node) q j → (∃ s, S.getLsbD s = true ∧ m.last.getLsbD s = true) ∨ ∃ c r, (afterP m S t[q].toNat).getLsbD c = true ∧ RunX P c r ∧ Tr ns fold t (r.map P.node) (q + 1) j
  | [], b, j, hb, hr, htr => Or.inl ⟨b, hb, run_last hm hr⟩
  | c :: r, b, j, hb, hr, ⟨k, ⟨n, hn, hg⟩, h2⟩ => by
    have hc := hr.1.lt hm.fit
    rcases hg with ⟨hk, rfl, h3, h4⟩ | ⟨hk, hz, rfl⟩ | ⟨hk, hz, _⟩
    · exact Or.inr ⟨c, r, (after_bit hm hS hq).2 ⟨b, hb, hr.1, n, hn, hk, h4⟩, hr.2, h2⟩
    · subst hz
      exact go_onA hS hq hcl r c j (hcl rfl c ((follow_nx hm hS).2 ⟨b, hb, hr.1⟩) ((hm.begins c).2 ⟨hc, n, hn, hk⟩)) hr.2 h2
    · omega

omit hm in
theorem and_none {A B : B64} : A &&& B = 0#64 ↔ ¬ ∃ s, A.getLsbD s = true ∧ B.getLsbD s = true := by
  rw [u_none]
  constructor
  · rintro h ⟨s, h1, h2⟩
    have := h s
    rw [bit_and, h1, h2] at this
    simp at this
  · intro h i
    rw [bit_and]
    cases h1 : A.getLsbD i with
    | false => rfl
    | true =>
      cases h2 : B.getLsbD i with
      | false => rfl
      | true => exact absurd ⟨i, h1, h2⟩ h
theorem behind_bit {S : B64} {c b : Nat} : (behindP m S c).getLsbD b = true ↔ (afterP m S c).getLsbD b = true ∨ (b = 61 ∧ ∃ s, S.getLsbD s = true ∧ m.last.getLsbD s = true) ∨ (b = 61 ∧ S.getLsbD 61 = true) ∨ b = 60 := by
  unfold behindP
  rw [if_neg (by rw [hm.whole]; decide), bit_or, bit_or, bit_and, Bool.or_eq_true, Bool.or_eq_true, Bool.and_eq_true, start_bit, found_bit]
  have hF : (S.getLsbD b = true ∧ b = 61) ↔ (b = 61 ∧ S.getLsbD 61 = true) := by
    constructor
    · rintro ⟨h1, rfl⟩; exact ⟨rfl, h1⟩
    · rintro ⟨rfl, h1⟩; exact ⟨h1, rfl⟩
  rw [hF]
  by_cases hz : S &&& m.last = 0#64
  · rw [if_pos hz]
    have := and_none.1 hz
    constructor
    · rintro ((h | h) | h)
      · exact Or.inl h
      · exact Or.inr (Or.inr (Or.inl h))
      · exact Or.inr (Or.inr (Or.inr h))
    · rintro (h | ⟨_, h⟩ | h | h)
      · exact Or.inl (Or.inl h)
      · exact absurd h this
      · exact Or.inl (Or.inr h)
      · exact Or.inr h
  · rw [if_neg hz, bit_or, Bool.or_eq_true, found_bit]
    have hex : ∃ s, S.getLsbD s = true ∧ m.last.getLsbD s = true := Classical.byContradiction fun hc => hz (and_none.2 hc)
    constructor
    · rintro (((h | h) | h) | h)
      · exact Or.inl h
      · exact Or.inr (Or.inl ⟨h, hex⟩)
      · exact Or.inr (Or.inr (Or.inl h))
      · exact Or.inr (Or.inr (Or.inr h))
    · rintro (h | ⟨h, _⟩ | h | h)
      · exact Or.inl (Or.inl (Or.inl h))
      · exact Or.inl (Or.inl (Or.inr h))
      · exact Or.inl (Or.inr h)
      · exact Or.inr h

theorem invA : ∀ q, q ≤ t.size → InvA m ns P fold t q (setQ m t q)
  | 0, _ => by
    have hroom := hm.fit.room
    obtain ⟨h1, h2, h3, h4⟩ := begin_facts (t := t) hm
    refine ⟨fun b h => (h1 b h).elim Or.inl (fun h => Or.inr (Or.inl h)), fun h => ?_, fun b l j hb hr htr => ?_, ?_, fun _ => h4⟩
    · have := h1 _ h; omega
    · obtain ⟨l', h5, h6⟩ := h3 b hb l _ hr htr
      exact ⟨0, j, l', h5, h6⟩
    · rintro ⟨i, j, l, hl, htr⟩
      by_cases hi : i = 0
      · subst hi; exact Or.inr (Or.inl ⟨60, l, j, h2, hl, htr⟩)
      · exact Or.inr (Or.inr ⟨i, l, j, by omega, hl, htr⟩)
  | q + 1, hq => by
    have hroom := hm.fit.room
    have ih := invA q (by omega)
    have hqt : q < t.size := by omega
    have e : setQ m t (q + 1) = behindP m (setQ m t q) t[q].toNat := by rw [setQ, dif_pos hqt]
    rw [e]
    have fnd : (∃ s, (setQ m t q).getLsbD s = true ∧ m.last.getLsbD s = true) → MatchA P ns fold t := by
      rintro ⟨s, h1, h2⟩
      exact ih.sound s [] q h1 (last_run hm h2) ⟨rfl, by omega⟩
    refine ⟨fun b h => ?_, fun h => ?_, fun b l j hb hr htr => ?_, fun hM => ?_, fun h => by omega⟩
    · rcases (behind_bit hm).1 h with h | h | h | h
      · obtain ⟨s, _, hn, _⟩ := (after_bit hm ih.sub hqt).1 h
        exact Or.inl (hn.lt hm.fit)
      · exact Or.inr (Or.inr h.1)
      · exact Or.inr (Or.inr h.1)
      · exact Or.inr (Or.inl h)
    · rcases (behind_bit hm).1 h with h | h | h | h
      · obtain ⟨s, _, hn, _⟩ := (after_bit hm ih.sub hqt).1 h
        have := hn.lt hm.fit
        omega
      · exact fnd h.2
      · exact ih.found h.2
      · omega
    · rcases (behind_bit hm).1 hb with h | h | h | h
      · obtain ⟨s, hs, hn, n, hn1, hn2, hn3⟩ := (after_bit hm ih.sub hqt).1 h
        exact ih.sound s (b :: l) j hs ⟨hn, hr⟩ ⟨q + 1, ⟨n, hn1, Or.inl ⟨hn2, rfl, hqt, hn3⟩⟩, htr⟩
      · exact fnd h.2
      · exact ih.found h.2
      · subst h; exact ⟨q + 1, j, l, hr, htr⟩
    · rcases ih.compl hM with h | ⟨b, l, j, hb, hr, htr⟩ | ⟨i, l, j, hi, hr, htr⟩
      · exact Or.inl ((behind_bit hm).2 (Or.inr (Or.inr (Or.inl ⟨rfl, h⟩))))
      · rcases go_onA hm ih.sub hqt ih.closed l b j hb hr htr with h | ⟨c, r, h1, h2, h3⟩
        · exact Or.inl ((behind_bit hm).2 (Or.inr (Or.inl ⟨rfl, h⟩)))
        · exact Or.inr (Or.inl ⟨c, r, j, (behind_bit hm).2 (Or.inl h1), h2, h3⟩)
      · by_cases hi1 : i = q + 1
        · subst hi1
          exact Or.inr (Or.inl ⟨60, l, j, (behind_bit hm).2 (Or.inr (Or.inr (Or.inr rfl))), hr, htr⟩)
        · exact Or.inr (Or.inr ⟨i, l, j, by omega, hr, htr⟩)

theorem any_iff : matchesP m t = true ↔ MatchA P ns fold t := by
  have inv := invA (t := t) hm t.size (Nat.le_refl _)
  have hroom := hm.fit.room
  unfold matchesP
  rw [accepts_iff hm]
  constructor
  · rintro ⟨b, hb, h | h⟩
    · exact end_sound hm inv.sub (X := MatchA P ns fold t) (fun b l j h1 h2 h3 => inv.sound b l j h1 h2 h3) b hb [] t.size (last_run hm h) ⟨rfl, Nat.le_refl _⟩
    · subst h
      have h1 := still_sound (m := m) (S := setQ m t t.size) (free := freeP m (t.size == 0)) (Q := fun b => b < P.count ∨ b = 60 ∨ (b = 61 ∧ (setQ m t t.size).getLsbD 61 = true))
        (fun b h => by
          rcases inv.sub b h with h1 | h1 | h1
          · exact Or.inl h1
          · exact Or.inr (Or.inl h1)
          · subst h1; exact Or.inr (Or.inr ⟨rfl, h⟩)) (fun _ _ b _ h2 => Or.inl (free_lt hm h2)) 60 61 hb
      rcases h1 with h1 | h1 | h1
      · omega
      · omega
      · exact inv.found h1.2
  · intro h
    rcases inv.compl h with h | ⟨b, l, j, hb, hr, htr⟩ | ⟨i, l, j, hi, hr, htr⟩
    · exact ⟨61, still_up h 60, Or.inr rfl⟩
    · obtain ⟨s, h1, h2⟩ := end_compl hm inv.sub l b (still_up hb 60) hr ⟨_, htr⟩
      exact ⟨s, h1, Or.inl h2⟩
    · have := htr.le
      omega
end

end Go.Proofs.Ytgifhgnccmnbiaa

set_option linter.unusedVariables false
set_option linter.unusedSimpArgs false
namespace Go.Proofs.Ytgifhgnccmnbiaa

def HiZ (m : MP) : Prop := ∀ s, 61 ≤ s → m.next s = 0#64
def Meet (A B : B64) : Prop := ∃ s, A.getLsbD s = true ∧ B.getLsbD s = true

theorem fresh_bit {b : Nat} : freshB.getLsbD b = true ↔ b = 62 := by
  have e : freshB = 1#64 <<< 62 := by decide
  rw [e]; exact one_bit (by decide)
theorem meet_iff {A B : B64} : (!decide (A &&& B = 0#64)) = true ↔ Meet A B := by
  rw [Bool.not_eq_true', decide_eq_false_iff_not, and_none]
  exact Classical.not_not
theorem meet_not {A B : B64} : A &&& B = 0#64 ↔ ¬ Meet A B := and_none

theorem follow_more {m : MP} {S S' : B64} (hz : HiZ m) (h : ∀ b, b < 61 → (S'.getLsbD b = true ↔ S.getLsbD b = true)) : followQ m S' 63 = followP m S := by
  apply BitVec.eq_of_getLsbD_eq
  intro b hb
  rw [Bool.eq_iff_iff]
  unfold followP
  rw [follow_bit, follow_bit]
  constructor
  · rintro ⟨s, h1, h2, h3⟩
    have hs : s < 61 := by
      apply Classical.byContradiction
      intro hc
      rw [hz s (by omega)] at h3
      simp at h3
    exact ⟨s, hs, (h s hs).1 h2, h3⟩
  · rintro ⟨s, h1, h2, h3⟩
    exact ⟨s, by omega, (h s h1).2 h2, h3⟩

theorem into_bit (m : MP) (tk S : B64) : ∀ q, q ≤ 63 → ∀ b, (intoQ m tk S q).getLsbD b = true ↔ b < q ∧ ∃ i, (m.next b).getLsbD i = true ∧ tk.getLsbD i = true ∧ S.getLsbD i = true
  | 0, _, b => by simp [intoQ]
  | q + 1, hq, b => by
    have ih := into_bit m tk S q (by omega) b
    have key : m.next q &&& tk &&& S = 0#64 ↔ ¬ ∃ i, (m.next q).getLsbD i = true ∧ tk.getLsbD i = true ∧ S.getLsbD i = true := by
      rw [and_none]
      simp only [bit_and, Bool.and_eq_true, and_assoc]
    rw [intoQ]
    by_cases hz : m.next q &&& tk &&& S = 0#64
    · rw [if_pos hz, ih]
      constructor
      · rintro ⟨h1, h2⟩; exact ⟨by omega, h2⟩
      · rintro ⟨h1, h2⟩
        by_cases hb : b = q
        · subst hb; exact absurd h2 (key.1 hz)
        · exact ⟨by omega, h2⟩
    · rw [if_neg hz, bit_or, Bool.or_eq_true, ih, one_bit (by omega)]
      constructor
      · rintro (⟨h1, h2⟩ | h1)
        · exact ⟨by omega, h2⟩
        · subst h1
          exact ⟨by omega, Classical.byContradiction fun hc => hz (key.2 hc)⟩
      · rintro ⟨h1, h2⟩
        by_cases hb : b = q
        · exact Or.inr hb
        · exact Or.inl ⟨by omega, h2⟩

section
variable {m : MP} {free S X : B64}
theorem step_dual (hz : HiZ m) : Meet (S ||| (followP m S &&& free)) X ↔ Meet S (X ||| intoP m free X) := by
  unfold Meet intoP
  constructor
  · rintro ⟨b, h1, h2⟩
    rw [bit_or, bit_and, Bool.or_eq_true, Bool.and_eq_true] at h1
    rcases h1 with h1 | ⟨h1, h3⟩
    · exact ⟨b, h1, by rw [bit_or, h2]; rfl⟩
    · unfold followP at h1
      obtain ⟨s, h4, h5, h6⟩ := (follow_bit m S 61 b).1 h1
      exact ⟨s, h5, by rw [bit_or, Bool.or_eq_true]; exact Or.inr ((into_bit m free X 63 (by omega) s).2 ⟨by omega, b, h6, h3, h2⟩)⟩
  · rintro ⟨s, h1, h2⟩
    rw [bit_or, Bool.or_eq_true] at h2
    rcases h2 with h2 | h2
    · exact ⟨s, by rw [bit_or, h1]; rfl, h2⟩
    · obtain ⟨h3, i, h4, h5, h6⟩ := (into_bit m free X 63 (by omega) s).1 h2
      have hs : s < 61 := by
        apply Classical.byContradiction
        intro hc
        rw [hz s (by omega)] at h4
        simp at h4
      refine ⟨i, ?_, h6⟩
      rw [bit_or, bit_and, Bool.or_eq_true, Bool.and_eq_true]
      exact Or.inr ⟨(follow_bit m S 61 i).2 ⟨s, hs, h1, h4⟩, h5⟩
theorem enough_shift : ∀ k, enoughQ m free (X ||| intoP m free X) k = enoughQ m free X (k + 1)
  | 0 => rfl
  | k + 1 => by
    show enoughQ m free (X ||| intoP m free X) k ||| intoP m free (enoughQ m free (X ||| intoP m free X) k) = _
    rw [enough_shift k]
    rfl
theorem still_dual (hz : HiZ m) : ∀ (k : Nat) (X : B64), Meet (stillQ m free S k) X ↔ Meet S (enoughQ m free X k)
  | 0, X => Iff.rfl
  | k + 1, X => by
    show Meet (stillQ m free S k ||| (followP m (stillQ m free S k) &&& free)) X ↔ _
    rw [step_dual hz, still_dual hz k, enough_shift]
theorem accept_iff (hz : HiZ m) (e : Bool) : acceptsP m S e = true ↔ Meet S (enoughP m (freeP m e)) := by
  unfold acceptsP
  rw [meet_iff]
  exact still_dual hz 60 _
theorem enough_up {free' : B64} (h : ∀ b, free.getLsbD b = true → free'.getLsbD b = true) : ∀ q b, (enoughQ m free X q).getLsbD b = true → (enoughQ m free' X q).getLsbD b = true
  | 0, b, hb => hb
  | q + 1, b, hb => by
    rw [enoughQ, bit_or, Bool.or_eq_true] at hb ⊢
    rcases hb with hb | hb
    · exact Or.inl (enough_up h q b hb)
    · unfold intoP at hb ⊢
      obtain ⟨h1, i, h2, h3, h4⟩ := (into_bit _ _ _ 63 (by omega) b).1 hb
      exact Or.inr ((into_bit _ _ _ 63 (by omega) b).2 ⟨h1, i, h2, h _ h3, enough_up h q i h4⟩)
theorem enough_no (hz : HiZ m) (hX : X.getLsbD 62 = false) : ∀ q, (enoughQ m free X q).getLsbD 62 = false
  | 0 => hX
  | q + 1 => by
    rw [enoughQ, bit_or, enough_no hz hX q, Bool.false_or]
    cases h : (intoP m free (enoughQ m free X q)).getLsbD 62 with
    | false => rfl
    | true =>
      unfold intoP at h
      obtain ⟨_, i, h2, _⟩ := (into_bit _ _ _ 63 (by omega) 62).1 h
      rw [hz 62 (by omega)] at h2
      simp at h2
theorem beg_eq (hz : HiZ m) : ∀ q, begQ m q = stillQ m m.begins startB q ||| freshB
  | 0 => rfl
  | q + 1 => by
    have e : followQ m (begQ m q) 63 = followP m (stillQ m m.begins startB q) := follow_more hz fun b hb => by
      rw [beg_eq hz q, bit_or, Bool.or_eq_true, fresh_bit]
      constructor
      · rintro (h | h)
        · exact h
        · omega
      · exact Or.inl
    show begQ m q ||| (followQ m (begQ m q) 63 &&& m.begins) = (stillQ m m.begins startB q ||| (followP m (stillQ m m.begins startB q) &&& m.begins)) ||| freshB
    rw [e, beg_eq hz q, BitVec.or_assoc, BitVec.or_assoc, BitVec.or_comm freshB]
end

section
variable {m : MP} {ns : List AN} {P : GP} {fold whole : Bool} {t : ByteArray}
theorem any_next {s b : Nat} (hs : s < 63) : ((anyP (begM m)).next s).getLsbD b = true ↔ (m.next s).getLsbD b = true ∨ (s = 60 ∧ b = 60) ∨ (b = 61 ∧ (m.last.getLsbD s = true ∨ s = 61)) := by
  have e : (anyP (begM m)).next s = if s < 63 ∧ (m.last.getLsbD s = true ∨ s = 61) then (if s = 60 then m.next s ||| startB else m.next s) ||| foundB else if s = 60 then m.next s ||| startB else m.next s := rfl
  have e1 : (if s = 60 then m.next s ||| startB else m.next s).getLsbD b = true ↔ (m.next s).getLsbD b = true ∨ (s = 60 ∧ b = 60) := by
    by_cases h : s = 60
    · rw [if_pos h, bit_or, Bool.or_eq_true, start_bit]; simp [h]
    · rw [if_neg h]; simp [h]
  rw [e]
  by_cases h : m.last.getLsbD s = true ∨ s = 61
  · rw [if_pos ⟨hs, h⟩, bit_or, Bool.or_eq_true, e1, found_bit, or_assoc]
    simp only [h, and_true]
  · rw [if_neg (fun hc => h hc.2), e1]
    simp only [h, and_false, or_false]
theorem any_takes {c b : Nat} (hc : c < 256) : ((anyP (begM m)).takes c).getLsbD b = true ↔ (m.takes c).getLsbD b = true ∨ b = 60 ∨ b = 61 := by
  have e : (anyP (begM m)).takes c = if c < 256 then m.takes c ||| (startB ||| foundB) else m.takes c := rfl
  rw [e, if_pos hc, bit_or, bit_or, Bool.or_eq_true, Bool.or_eq_true, start_bit, found_bit]

theorem last_no62 (hm : MF m ns P fold whole) : m.last.getLsbD 62 = false := by
  cases h : m.last.getLsbD 62 with
  | false => rfl
  | true =>
    have hr := hm.fit.room
    rcases (hm.last 62).1 h with h | h
    · have := hm.fit.last _ h; omega
    · omega

theorem start_in (hm : MF m ns P fold false) : ∀ q, q ≤ t.size → (setQ m t q).getLsbD 60 = true
  | 0, _ => (begin_facts (t := t) hm).2.1
  | q + 1, hq => by
    rw [setQ, dif_pos (by omega : q < t.size)]
    exact (behind_bit hm).2 (Or.inr (Or.inr (Or.inr rfl)))

theorem sub_all (hm : MF m ns P fold whole) (q : Nat) (hq : q ≤ t.size) : Sub P (setQ m t q) := by
  cases whole with
  | true => exact fun b h => ((invW (t := t) hm q hq).sub b h).elim Or.inl (fun h => Or.inr (Or.inl h))
  | false => exact (invA (t := t) hm q hq).sub

theorem set_same (hm : MF m ns P fold whole) (hz : HiZ m) : ∀ q, q ≤ t.size → ∀ b, (setN (finP m) t q).getLsbD b = true ↔ (setQ m t q).getLsbD b = true ∨ (b = 62 ∧ q = 0)
  | 0, _, b => by
    have e0 : setN (finP m) t 0 = begQ m 60 := by
      show (finP m).beg = _
      unfold finP
      split <;> rfl
    rw [e0]
    show (begQ m 60).getLsbD b = true ↔ (stillQ m m.begins startB 60).getLsbD b = true ∨ _
    rw [beg_eq hz, bit_or, Bool.or_eq_true, fresh_bit]
    simp
  | q + 1, hq, b => by
    have ih := set_same hm hz q (by omega)
    have hqt : q < t.size := by omega
    have hS := sub_all (t := t) hm q (by omega)
    have hroom := hm.fit.room
    have hc := t[q].toNat_lt
    rw [setN, setQ, dif_pos hqt]
    simp only [Nat.add_eq_zero_iff, Nat.one_ne_zero, and_false, or_false]
    cases whole with
    | true =>
      have e1 : finP m = begM m := by unfold finP; rw [if_pos hm.whole]
      have e2 : followQ m (setN (finP m) t q) 63 = followP m (setQ m t q) := follow_more hz fun b hb => by
        rw [ih b]
        constructor
        · rintro (h | h)
          · exact h
          · omega
        · exact Or.inl
      rw [show fromP (finP m) ((finP m).takes t[q].toNat) (setN (finP m) t q) = fromP m (m.takes t[q].toNat) (setN (finP m) t q) by rw [fromP_next (m := m) (by rw [e1]; rfl), e1]; rfl]
      unfold fromP behindP
      rw [e2, if_pos hm.whole]
      exact Iff.rfl
    | false =>
      have e1 : finP m = anyP (begM m) := by unfold finP; rw [if_neg (by rw [hm.whole]; decide)]
      have e2 : (finP m).takes t[q].toNat = (anyP (begM m)).takes t[q].toNat := by rw [e1]
      have e3 : ∀ s, (finP m).next s = (anyP (begM m)).next s := fun s => by rw [e1]
      rw [behind_bit hm]
      unfold fromP
      rw [bit_and, Bool.and_eq_true, follow_bit, e2, any_takes hc]
      simp only [e3]
      have hno := last_no62 hm
      constructor
      · rintro ⟨⟨s, h1, h2, h3⟩, h4⟩
        rw [any_next h1] at h3
        have hs : (setQ m t q).getLsbD s = true := by
          rcases (ih s).1 h2 with h | ⟨h, _⟩
          · exact h
          · subst h
            exfalso
            rcases h3 with h3 | h3 | h3
            · rw [hz 62 (by omega)] at h3; simp at h3
            · omega
            · rcases h3.2 with h | h
              · rw [hno] at h; exact absurd h (by decide)
              · omega
        rcases h3 with h3 | h3 | ⟨h5, h3 | h3⟩
        · have hs61 : s < 61 := by
            apply Classical.byContradiction
            intro hc
            rw [hz s (by omega)] at h3
            simp at h3
          have hf : (followP m (setQ m t q)).getLsbD b = true := (follow_bit m _ 61 b).2 ⟨s, hs61, hs, h3⟩
          obtain ⟨s', _, hn⟩ := (follow_nx hm hS).1 hf
          have hb := hn.lt hm.fit
          rcases h4 with h4 | h4 | h4
          · refine Or.inl ?_
            unfold afterP
            rw [bit_and, hf, h4]; rfl
          · omega
          · omega
        · exact Or.inr (Or.inr (Or.inr h3.2))
        · exact Or.inr (Or.inl ⟨h5, s, hs, h3⟩)
        · subst h3; exact Or.inr (Or.inr (Or.inl ⟨h5, hs⟩))
      · rintro (h | ⟨h1, s, h2, h3⟩ | ⟨h1, h2⟩ | h)
        · unfold afterP at h
          rw [bit_and, Bool.and_eq_true] at h
          obtain ⟨s, h1, h2, h3⟩ := (follow_bit m _ 61 b).1 h.1
          exact ⟨⟨s, by omega, (ih s).2 (Or.inl h2), (any_next (by omega)).2 (Or.inl h3)⟩, Or.inl h.2⟩
        · have hs : s < 63 := by
            rcases hS s h2 with h | h | h <;> omega
          exact ⟨⟨s, hs, (ih s).2 (Or.inl h2), (any_next hs).2 (Or.inr (Or.inr ⟨h1, Or.inl h3⟩))⟩, Or.inr (Or.inr h1)⟩
        · exact ⟨⟨61, by omega, (ih 61).2 (Or.inl h2), (any_next (by omega)).2 (Or.inr (Or.inr ⟨h1, Or.inr rfl⟩))⟩, Or.inr (Or.inr h1)⟩
        · subst h
          exact ⟨⟨60, by omega, (ih 60).2 (Or.inl (start_in hm q (by omega))), (any_next (by omega)).2 (Or.inr (Or.inl ⟨rfl, rfl⟩))⟩, Or.inr (Or.inl rfl)⟩

theorem en_bit {b : Nat} : (enP m).getLsbD b = true ↔ (enoughP m m.ends).getLsbD b = true ∨ (b = 62 ∧ Meet (begP m) (enoughP m (m.ends ||| m.begins))) := by
  unfold enP
  by_cases h : begP m &&& enoughP m (m.ends ||| m.begins) = 0#64
  · rw [if_pos h]
    simp only [meet_not.1 h, and_false, or_false]
  · rw [if_neg h, bit_or, Bool.or_eq_true, fresh_bit]
    have : Meet (begP m) (enoughP m (m.ends ||| m.begins)) := Classical.byContradiction fun hc => h (meet_not.2 hc)
    simp only [this, and_true]

theorem found_no62 (hm : MF m ns P fold whole) : (m.last ||| foundB).getLsbD 62 = false := by
  rw [bit_or, last_no62 hm]
  decide

/-- The code's machine is the simple one. -/
theorem matches_same (hm : MF m ns P fold whole) (hz : HiZ m) : matchesN (finP m) t = matchesP m t := by
  rw [Bool.eq_iff_iff]
  have e0 : (finP m).en = enP m := by unfold finP; split <;> rfl
  unfold matchesN matchesP
  rw [meet_iff, accept_iff hz, e0]
  have hS := sub_all (t := t) hm t.size (Nat.le_refl _)
  have hroom := hm.fit.room
  have hset := set_same (t := t) hm hz t.size (Nat.le_refl _)
  have no62 : ∀ free, (enoughP m free).getLsbD 62 = false := fun free => enough_no hz (found_no62 hm) 60
  by_cases hn : t.size = 0
  · have e : (t.size == 0) = true := by rw [hn]; rfl
    have ef : freeP m true = m.ends ||| m.begins := rfl
    rw [e, ef]
    have hb : ∀ b, (begP m).getLsbD b = true ↔ (setQ m t t.size).getLsbD b = true ∨ b = 62 := fun b => by
      have := hset b
      rw [hn] at this ⊢
      have hbeg : setN (finP m) t 0 = begP m := by
        show (finP m).beg = _
        unfold finP
        split <;> rfl
      rw [hbeg] at this
      rw [this]
      simp
    have key : Meet (begP m) (enoughP m (m.ends ||| m.begins)) ↔ Meet (setQ m t t.size) (enoughP m (m.ends ||| m.begins)) := by
      constructor
      · rintro ⟨s, h1, h2⟩
        rcases (hb s).1 h1 with h | h
        · exact ⟨s, h, h2⟩
        · subst h; rw [no62] at h2; exact absurd h2 (by decide)
      · rintro ⟨s, h1, h2⟩; exact ⟨s, (hb s).2 (Or.inl h1), h2⟩
    constructor
    · rintro ⟨s, h1, h2⟩
      rcases en_bit.1 h2 with h | h
      · rcases (hset s).1 h1 with h3 | h3
        · exact ⟨s, h3, enough_up (fun b h => by rw [bit_or, h]; rfl) 60 s h⟩
        · rw [h3.1, no62] at h; exact absurd h (by decide)
      · exact key.1 h.2
    · intro h
      exact ⟨62, (hset 62).2 (Or.inr ⟨rfl, hn⟩), en_bit.2 (Or.inr ⟨rfl, key.2 h⟩)⟩
  · have e : (t.size == 0) = false := by simp [hn]
    have ef : freeP m false = m.ends := rfl
    rw [e, ef]
    constructor
    · rintro ⟨s, h1, h2⟩
      have h3 : (setQ m t t.size).getLsbD s = true := by
        rcases (hset s).1 h1 with h | h
        · exact h
        · exact absurd h.2 hn
      rcases en_bit.1 h2 with h | h
      · exact ⟨s, h3, h⟩
      · rcases hS s h3 with h4 | h4 | h4 <;> omega
    · rintro ⟨s, h1, h2⟩
      exact ⟨s, (hset s).2 (Or.inl h1), en_bit.2 (Or.inl h2)⟩

theorem built_hi (ns : List AN) (P : GP) (fold whole : Bool) : ∀ q, q ≤ 60 → HiZ (buildQ ns P fold whole q)
  | 0, _, s, hs => by
    show (if s = 60 then P.first else 0#64) = 0#64
    rw [if_neg (by omega)]
  | q + 1, hq, s, hs => by
    have ih := built_hi ns P fold whole q (by omega) s hs
    have e : (nextM (buildQ ns P fold whole q) q (P.next q)).next s = 0#64 := by
      show (if s = q then P.next q else (buildQ ns P fold whole q).next s) = 0#64
      rw [if_neg (by omega)]; exact ih
    rw [buildQ]
    cases ns[P.node q]? with
    | none => exact e
    | some n =>
      show (learnP _ _ n fold).next s = 0#64
      unfold learnP learnQ
      repeat' split
      all_goals exact e
end

end Go.Proofs.Ytgifhgnccmnbiaa
