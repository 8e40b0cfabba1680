/- The machine: which bytes each step can be. -/
import Derived.Test.YtjhmkkhnnijigaaHolds
set_option linter.unusedVariables false
set_option linter.unusedSimpArgs false
namespace Go.Proofs.Ytjhmkkhnnijigaa
open Go.RowKit Go.IntWalk

theorem m_set_takes (m m' : MP) (i : Nat) (s : B64) (hi : i < 256) (h0 : m'.whole = m.whole) (h1 : m'.next = m.next) (h2 : ∀ j, j < 256 → m'.takes j = if j = i then s else m.takes j) (h3 : m'.begins = m.begins) (h4 : m'.ends = m.ends) (h5 : m'.last = m.last) :
    (mCells m).setIfInBounds (62 + i) (UV s) = mCells m' := by
  refine cellsF_set _ _ _ _ fun j hj => ?_
  unfold mCell
  rw [h0, h1, h3, h4, h5]
  by_cases h : j = 62 + i
  · subst h
    rw [if_neg (by omega), if_neg (by omega), if_pos (by omega), if_pos rfl, h2 _ (by omega), if_pos (by omega)]
  · rw [if_neg h]
    repeat' split
    all_goals first | rfl | (rw [h2 _ (by omega), if_neg (by omega)])
theorem m_set_next (m m' : MP) (i : Nat) (s : B64) (hi : i < 61) (h0 : m'.whole = m.whole) (h1 : m'.takes = m.takes) (h2 : ∀ j, j < 61 → m'.next j = if j = i then s else m.next j) (h3 : m'.begins = m.begins) (h4 : m'.ends = m.ends) (h5 : m'.last = m.last) :
    (mCells m).setIfInBounds (1 + i) (UV s) = mCells m' := by
  refine cellsF_set _ _ _ _ fun j hj => ?_
  unfold mCell
  rw [h0, h1, h3, h4, h5]
  by_cases h : j = 1 + i
  · subst h
    rw [if_neg (by omega), if_pos (by omega), if_pos rfl, h2 _ (by omega), if_pos (by omega)]
  · rw [if_neg h]
    repeat' split
    all_goals first | rfl | (rw [h2 _ (by omega), if_neg (by omega)])
theorem m_set_begins (m : MP) (s : B64) : (mCells m).setIfInBounds 318 (UV s) = mCells { m with begins := s } := cellsF_set _ _ _ _ fun j hj => by
  by_cases h : j = 318
  · subst h; rfl
  · unfold mCell; simp only [if_neg h]
theorem m_set_ends (m : MP) (s : B64) : (mCells m).setIfInBounds 319 (UV s) = mCells { m with ends := s } := cellsF_set _ _ _ _ fun j hj => by
  by_cases h : j = 319
  · subst h; rfl
  · unfold mCell; simp only [if_neg h]
theorem m_set_last (m : MP) (s : B64) : (mCells m).setIfInBounds 320 (UV s) = mCells { m with last := s } := cellsF_set _ _ _ _ fun j hj => by
  by_cases h : j = 320
  · subst h; rfl
  · unfold mCell; repeat' split
    all_goals first | rfl | omega

def takesP (n : AN) (fold : Bool) (c : Nat) : Bool := (holdsP n.its (c : Int) || (fold && holdsP n.its (otherC c : Int))) != n.neg
def learnQ (m : MP) (step : B64) (n : AN) (fold : Bool) (q : Nat) : MP := { m with takes := fun c => if c < q ∧ takesP n fold c = true then m.takes c ||| step else m.takes c }
def learnP (m : MP) (step : B64) (n : AN) (fold : Bool) : MP :=
  if n.kind = 2 then { m with begins := m.begins ||| step } else if n.kind = 3 then { m with ends := m.ends ||| step } else if n.kind = 1 then learnQ m step n fold 256 else m

theorem learnQ_off {m : MP} {step : B64} {n : AN} {fold : Bool} {q : Nat} (h : takesP n fold q = false) : learnQ m step n fold (q + 1) = learnQ m step n fold q := by
  unfold learnQ
  congr 1
  funext c
  by_cases hc : c = q
  · subst hc; rw [if_neg (by simp [h]), if_neg (by simp [h])]
  · by_cases h1 : c < q ∧ takesP n fold c = true
    · rw [if_pos ⟨by omega, h1.2⟩, if_pos h1]
    · rw [if_neg (fun hc => h1 ⟨by omega, hc.2⟩), if_neg h1]
theorem learnQ_on {m : MP} {step : B64} {n : AN} {fold : Bool} {q : Nat} (hq : q < 256) (h : takesP n fold q = true) : (mCells (learnQ m step n fold q)).setIfInBounds (62 + q) (UV (m.takes q ||| step)) = mCells (learnQ m step n fold (q + 1)) := by
  refine m_set_takes _ _ q _ hq rfl rfl (fun j _ => ?_) rfl rfl rfl
  simp only [learnQ]
  by_cases hs : j = q
  · subst hs; rw [if_pos ⟨by omega, h⟩, if_pos rfl]
  · rw [if_neg hs]
    by_cases h1 : j < q ∧ takesP n fold j = true
    · rw [if_pos ⟨by omega, h1.2⟩, if_pos h1]
    · rw [if_neg (fun hc => h1 ⟨by omega, hc.2⟩), if_neg h1]

theorem MIn.frozen {w : World} {g : Nat} {m : MP} (h : MIn w g m) (j : Nat) : w.frozen? ⟨g, j, none⟩ = false := Blk.frozen h j
theorem MIn.drewN {w : World} {g : Nat} {m : MP} (h : MIn w g m) (n : Nat) : MIn (w.drewN n) g m := h

/-- What one round of learnBytes leaves. -/
structure LbIn (w0 w : World) (g : Nat) (m : MP) (n : AN) (x : IV) : Prop where
  mi : MIn w g m
  nb : Blk w w0.heap.size #[.int .i64 n.kind, .slice x.1 x.2.1 x.2.2, .bool n.neg, .int .i64 n.left, .int .i64 n.right, .int .i64 n.least, .int .i64 n.most, .int .i64 n.size] 109
  k : Kept [g] w0 w
theorem LbIn.drewN {w0 w : World} {g : Nat} {m : MP} {n : AN} {x : IV} (h : LbIn w0 w g m n x) (q : Nat) : LbIn w0 (w.drewN q) g m n x := ⟨h.mi, h.nb, h.k.drewN q⟩
theorem LbIn.drew {w0 w : World} {g : Nat} {m : MP} {n : AN} {x : IV} (h : LbIn w0 w g m n x) : LbIn w0 w.drew g m n x := ⟨h.mi, h.nb, h.k.drew⟩
theorem LbIn.set {w0 w : World} {g : Nat} {m m' : MP} {n : AN} {x : IV} (h : LbIn w0 w g m n x) (hg : g < w0.heap.size) (i : Nat) (u : Value) (he : (mCells m).setIfInBounds i u = mCells m') : LbIn w0 (w.setCell ⟨g, i, none⟩ u) g m' n x := by
  refine ⟨?_, h.nb.other _ _ (by omega), h.k.setCell (Or.inl (by simp)) _⟩
  have := Blk.set h.mi i u
  rw [he] at this
  exact this

set_option maxHeartbeats 4000000 in
set_option maxRecDepth 100000 in
theorem learnBytes_any (m : MP) (g : Nat) (step : B64) (n : AN) (x : IV) (fold : Bool) (B : Nat) (w : World) (h : MIn w g m) (hx : ItemsOk w B x n.its) (hl : n.its.length ≤ 1000) (hne : (ivV x).ownBlock ≠ some g) :
    Calls Try.prog 72 #[.pointer (some ⟨g, 0, none⟩), .int .u64 (step.toNat : Int), .agg #[.int .i64 n.kind, .slice x.1 x.2.1 x.2.2, .bool n.neg, .int .i64 n.left, .int .i64 n.right, .int .i64 n.least, .int .i64 n.most, .int .i64 n.size], .bool fold] w
      fun e w' => e = .returned (.tuple #[]) ∧ MIn w' g (learnQ m step n fold 256) ∧ Kept [g] w w' := by
  have hg : g < w.heap.size := Blk.lt h
  have hst : LbIn w (w.alloc (.cells #[.int .i64 n.kind, .slice x.1 x.2.1 x.2.2, .bool n.neg, .int .i64 n.left, .int .i64 n.right, .int .i64 n.least, .int .i64 n.most, .int .i64 n.size] 109)) g (learnQ m step n fold 0) n x := by
    refine ⟨?_, Blk.new _ _ _, (Kept.refl _ _).alloc _⟩
    have e : learnQ m step n fold 0 = m := by unfold learnQ; congr 1
    rw [e]
    exact Blk.alloc h _
  have hstH : Hid (LbIn _ _ _ _ _ _) := hst
  clear hst
  go_enter Try.func72, Try.ntmps72
  go_wp2_with fail
  go_loopw [8] (fun iv wr => ∃ q : Nat, iv = .int .i64 (q : Int) ∧ q ≤ 256 ∧ LbIn w wr g (learnQ m step n fold q) n x) (fun iv _ => (256 - intOf iv).toNat)
  case atStart => exact ⟨0, rfl, by omega, hstH.out⟩
  case round =>
    obtain ⟨q, rfl, hq, hI⟩ := hrel
    clear hstH
    by_cases hlt : (q : Int) < 256
    · have hqn : q < 256 := by omega
      have hoc : otherC q ≤ 255 := by unfold otherC; repeat' split
                                      all_goals omega
      have hx1 : ItemsOk wr B x n.its := hx.keep hI.k (by simpa using hne)
      have hh1 : Hid (∀ w', w'.heap = wr.heap → Calls _ _ _ w' _) := fun w' e => holds_any n.its B x (q : Int) w' (hx1.same e) hl (by omega) (by omega)
      have hh2 : Hid (∀ w', w'.heap = wr.heap → Calls _ _ _ w' _) := fun w' e => holds_any n.its B x (otherC q : Int) w' (hx1.same e) hl (by omega) (by omega)
      have ho : Hid (∀ w', Calls _ _ _ w' _) := fun w' => otherCase_any q hqn w'
      have c1 : wr.cell? ⟨w.heap.size, 1, none⟩ = some (.slice x.1 x.2.1 x.2.2) := by rw [hI.nb.cell]; rfl
      have c2 : wr.cell? ⟨w.heap.size, 2, none⟩ = some (.bool n.neg) := by rw [hI.nb.cell]; rfl
      have c3 := hI.mi.takes hqn
      have c4 := hI.mi.frozen (62 + q)
      have et : (learnQ m step n fold q).takes q = m.takes q := by simp [learnQ]
      rw [et] at c3
      have hor := or_u (m.takes q) step
      have hon : Hid (takesP n fold q = true → LbIn w (wr.drew.setCell ⟨g, 62 + q, none⟩ (UV (m.takes q ||| step))) g (learnQ m step n fold (q + 1)) n x ∧ ∀ k, LbIn w ((wr.drewN k).drew.setCell ⟨g, 62 + q, none⟩ (UV (m.takes q ||| step))) g (learnQ m step n fold (q + 1)) n x) := fun hb =>
        ⟨hI.drew.set hg _ _ (learnQ_on hqn hb), fun k => (hI.drewN k).drew.set hg _ _ (learnQ_on hqn hb)⟩
      have hoff : Hid (takesP n fold q = false → LbIn w wr g (learnQ m step n fold (q + 1)) n x ∧ ∀ k, LbIn w (wr.drewN k) g (learnQ m step n fold (q + 1)) n x) := fun hb => by
        rw [learnQ_off hb]; exact ⟨hI, fun k => hI.drewN k⟩
      have etk : takesP n fold q = ((holdsP n.its (q : Int) || (fold && holdsP n.its (otherC q : Int))) != n.neg) := rfl
      clear et hI hx1 hx h hlt
      have hlt : (q : Int) < 256 := by omega
      generalize m.takes q ||| step = Z at *
      generalize takesP n fold q = TT at *
      generalize holdsP n.its (q : Int) = b1 at *
      generalize holdsP n.its (otherC q : Int) = b2 at *
      generalize hneg : n.neg = ng at *
      clear hneg
      cases b1 <;> cases ng <;> cases fold <;> cases b2 <;> simp only [Bool.or_true, Bool.or_false, Bool.true_or, Bool.false_or, Bool.true_and, Bool.false_and, Bool.and_true, Bool.and_false, bne_self_eq_false, Bool.true_bne, Bool.false_bne, Bool.bne_true, Bool.bne_false, Bool.not_true, Bool.not_false] at etk <;> subst etk
      · have H : Hid (_ ∧ _) := hoff.out rfl
        clear hon hoff
        go_wp2_with (go_at_call 107; refine (hh1.out _ rfl).mono ?_; rintro _ _ ⟨rfl, rfl⟩)
        refine ⟨⟨q + 1, by go_num, by omega, H.out.1⟩, ?_⟩
        simp only [intOf]; omega
      · have H : Hid (_ ∧ _) := hoff.out rfl
        clear hon hoff
        go_wp2_with (go_at_call 107; refine (hh1.out _ rfl).mono ?_; rintro _ _ ⟨rfl, rfl⟩)
        refine ⟨⟨q + 1, by go_num, by omega, H.out.1⟩, ?_⟩
        simp only [intOf]; omega
      · have H : Hid (_ ∧ _) := hoff.out rfl
        clear hon hoff
        go_wp2_with (go_at_call 107; refine (hh1.out _ rfl).mono ?_; rintro _ _ ⟨rfl, rfl⟩)
        go_quiet (first | (go_at_call 108; exact Calls.quiet_of_same (ho.out _)) | (go_at_call 107; exact Calls.quiet_of_same (hh2.out _ rfl)))
        go_wp2
        refine ⟨⟨q + 1, by go_num, by omega, H.out.2 _⟩, ?_⟩
        simp only [intOf]; omega
      · have H : Hid (_ ∧ _) := hon.out rfl
        clear hon hoff
        go_wp2_with (go_at_call 107; refine (hh1.out _ rfl).mono ?_; rintro _ _ ⟨rfl, rfl⟩)
        go_quiet (first | (go_at_call 108; exact Calls.quiet_of_same (ho.out _)) | (go_at_call 107; exact Calls.quiet_of_same (hh2.out _ rfl)))
        go_wp2
        go_region
        go_wp2
        refine ⟨⟨q + 1, by go_num, by omega, H.out.2 _⟩, ?_⟩
        simp only [intOf]; omega
      · have H : Hid (_ ∧ _) := hon.out rfl
        clear hon hoff
        go_wp2_with (go_at_call 107; refine (hh1.out _ rfl).mono ?_; rintro _ _ ⟨rfl, rfl⟩)
        go_region
        go_wp2
        refine ⟨⟨q + 1, by go_num, by omega, H.out.1⟩, ?_⟩
        simp only [intOf]; omega
      · have H : Hid (_ ∧ _) := hon.out rfl
        clear hon hoff
        go_wp2_with (go_at_call 107; refine (hh1.out _ rfl).mono ?_; rintro _ _ ⟨rfl, rfl⟩)
        go_region
        go_wp2
        refine ⟨⟨q + 1, by go_num, by omega, H.out.1⟩, ?_⟩
        simp only [intOf]; omega
      · have H : Hid (_ ∧ _) := hon.out rfl
        clear hon hoff
        go_wp2_with (go_at_call 107; refine (hh1.out _ rfl).mono ?_; rintro _ _ ⟨rfl, rfl⟩)
        go_quiet (first | (go_at_call 108; exact Calls.quiet_of_same (ho.out _)) | (go_at_call 107; exact Calls.quiet_of_same (hh2.out _ rfl)))
        go_wp2
        go_region
        go_wp2
        refine ⟨⟨q + 1, by go_num, by omega, H.out.2 _⟩, ?_⟩
        simp only [intOf]; omega
      · have H : Hid (_ ∧ _) := hoff.out rfl
        clear hon hoff
        go_wp2_with (go_at_call 107; refine (hh1.out _ rfl).mono ?_; rintro _ _ ⟨rfl, rfl⟩)
        go_quiet (first | (go_at_call 108; exact Calls.quiet_of_same (ho.out _)) | (go_at_call 107; exact Calls.quiet_of_same (hh2.out _ rfl)))
        go_wp2
        refine ⟨⟨q + 1, by go_num, by omega, H.out.2 _⟩, ?_⟩
        simp only [intOf]; omega
      · have H : Hid (_ ∧ _) := hon.out rfl
        clear hon hoff
        go_wp2_with (go_at_call 107; refine (hh1.out _ rfl).mono ?_; rintro _ _ ⟨rfl, rfl⟩)
        go_region
        go_wp2
        refine ⟨⟨q + 1, by go_num, by omega, H.out.1⟩, ?_⟩
        simp only [intOf]; omega
      · have H : Hid (_ ∧ _) := hon.out rfl
        clear hon hoff
        go_wp2_with (go_at_call 107; refine (hh1.out _ rfl).mono ?_; rintro _ _ ⟨rfl, rfl⟩)
        go_region
        go_wp2
        refine ⟨⟨q + 1, by go_num, by omega, H.out.1⟩, ?_⟩
        simp only [intOf]; omega
      · have H : Hid (_ ∧ _) := hon.out rfl
        clear hon hoff
        go_wp2_with (go_at_call 107; refine (hh1.out _ rfl).mono ?_; rintro _ _ ⟨rfl, rfl⟩)
        go_region
        go_wp2
        refine ⟨⟨q + 1, by go_num, by omega, H.out.1⟩, ?_⟩
        simp only [intOf]; omega
      · have H : Hid (_ ∧ _) := hon.out rfl
        clear hon hoff
        go_wp2_with (go_at_call 107; refine (hh1.out _ rfl).mono ?_; rintro _ _ ⟨rfl, rfl⟩)
        go_region
        go_wp2
        refine ⟨⟨q + 1, by go_num, by omega, H.out.1⟩, ?_⟩
        simp only [intOf]; omega
      · have H : Hid (_ ∧ _) := hoff.out rfl
        clear hon hoff
        go_wp2_with (go_at_call 107; refine (hh1.out _ rfl).mono ?_; rintro _ _ ⟨rfl, rfl⟩)
        refine ⟨⟨q + 1, by go_num, by omega, H.out.1⟩, ?_⟩
        simp only [intOf]; omega
      · have H : Hid (_ ∧ _) := hoff.out rfl
        clear hon hoff
        go_wp2_with (go_at_call 107; refine (hh1.out _ rfl).mono ?_; rintro _ _ ⟨rfl, rfl⟩)
        refine ⟨⟨q + 1, by go_num, by omega, H.out.1⟩, ?_⟩
        simp only [intOf]; omega
      · have H : Hid (_ ∧ _) := hoff.out rfl
        clear hon hoff
        go_wp2_with (go_at_call 107; refine (hh1.out _ rfl).mono ?_; rintro _ _ ⟨rfl, rfl⟩)
        refine ⟨⟨q + 1, by go_num, by omega, H.out.1⟩, ?_⟩
        simp only [intOf]; omega
      · have H : Hid (_ ∧ _) := hoff.out rfl
        clear hon hoff
        go_wp2_with (go_at_call 107; refine (hh1.out _ rfl).mono ?_; rintro _ _ ⟨rfl, rfl⟩)
        refine ⟨⟨q + 1, by go_num, by omega, H.out.1⟩, ?_⟩
        simp only [intOf]; omega
    · have hqe : q = 256 := by omega
      subst hqe
      have h1 := hI.mi
      have h2 := hI.k
      clear hI h hx
      go_wp2
      go_end0
      exact ⟨rfl, h1, h2⟩

end Go.Proofs.Ytjhmkkhnnijigaa
