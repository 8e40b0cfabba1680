/- The machine: which bytes each step can be. -/
import Derived.Test.YtgifhgnccmnbiabGreatDoorG07
import Derived.BigRegion
set_option linter.unusedVariables false
set_option linter.unusedSimpArgs false
namespace Go.Proofs.YtgifhgnccmnbiabGreatDoor
open Go.RowKit Go.IntWalk

theorem m_set_takes (m m' : MP) (i : Nat) (s : B64) (hi : i < 256) (h0 : m'.beg = m.beg ∧ m'.en = m.en) (h1 : m'.next = m.next) (h2 : ∀ j, j < 256 → m'.takes j = if j = i then s else m.takes j) (h3 : m'.begins = m.begins) (h4 : m'.ends = m.ends) (h5 : m'.last = m.last) :
    (mCells m).setIfInBounds (65 + i) (UV s) = mCells m' := by
  refine cellsF_set _ _ _ _ fun j hj => ?_
  unfold mCell
  rw [h0.1, h0.2, h1, h3, h4, h5]
  by_cases h : j = 65 + i
  · subst h
    rw [if_neg (by omega), if_neg (by omega), if_neg (by omega), if_pos (by omega), if_pos rfl, h2 _ (by omega), if_pos (by omega)]
  · rw [if_neg h]
    repeat' split
    all_goals first | rfl | (rw [h2 _ (by omega), if_neg (by omega)])
theorem m_set_next (m m' : MP) (i : Nat) (s : B64) (hi : i < 63) (h0 : m'.beg = m.beg ∧ m'.en = m.en) (h1 : m'.takes = m.takes) (h2 : ∀ j, j < 63 → m'.next j = if j = i then s else m.next j) (h3 : m'.begins = m.begins) (h4 : m'.ends = m.ends) (h5 : m'.last = m.last) :
    (mCells m).setIfInBounds (2 + i) (UV s) = mCells m' := by
  refine cellsF_set _ _ _ _ fun j hj => ?_
  unfold mCell
  rw [h0.1, h0.2, h1, h3, h4, h5]
  by_cases h : j = 2 + i
  · subst h
    rw [if_neg (by omega), if_neg (by omega), if_pos (by omega), if_pos rfl, h2 _ (by omega), if_pos (by omega)]
  · rw [if_neg h]
    repeat' split
    all_goals first | rfl | (rw [h2 _ (by omega), if_neg (by omega)])
theorem m_set_begins (m : MP) (s : B64) : (mCells m).setIfInBounds 321 (UV s) = mCells { m with begins := s } := cellsF_set _ _ _ _ fun j hj => by
  by_cases h : j = 321
  · subst h; rfl
  · unfold mCell; simp only [if_neg h]
theorem m_set_ends (m : MP) (s : B64) : (mCells m).setIfInBounds 322 (UV s) = mCells { m with ends := s } := cellsF_set _ _ _ _ fun j hj => by
  by_cases h : j = 322
  · subst h; rfl
  · unfold mCell; simp only [if_neg h]
theorem m_set_last (m : MP) (s : B64) : (mCells m).setIfInBounds 323 (UV s) = mCells { m with last := s } := cellsF_set _ _ _ _ fun j hj => by
  by_cases h : j = 323
  · subst h; rfl
  · unfold mCell; repeat' split
    all_goals first | rfl | omega

def takesP (n : AN) (fold : Bool) (c : Nat) : Bool := (holdsP n.its (c : Int) || (fold && holdsP n.its (otherC c : Int))) != n.neg
def learnQ (m : MP) (step : B64) (n : AN) (fold : Bool) (q : Nat) : MP := { m with takes := fun c => if c < q ∧ takesP n fold c = true then m.takes c ||| step else m.takes c }
def learnP (m : MP) (step : B64) (n : AN) (fold : Bool) : MP :=
  if n.kind = 2 then { m with begins := m.begins ||| step } else if n.kind = 3 then { m with ends := m.ends ||| step } else if n.kind = 1 then learnQ m step n fold 256 else m

theorem learnQ_off {m : MP} {step : B64} {n : AN} {fold : Bool} {q : Nat} (h : takesP n fold q = false) : learnQ m step n fold (q + 1) = learnQ m step n fold q := by
  unfold learnQ
  congr 1
  funext c
  by_cases hc : c = q
  · subst hc; rw [if_neg (by simp [h]), if_neg (by simp [h])]
  · by_cases h1 : c < q ∧ takesP n fold c = true
    · rw [if_pos ⟨by omega, h1.2⟩, if_pos h1]
    · rw [if_neg (fun hc => h1 ⟨by omega, hc.2⟩), if_neg h1]
theorem learnQ_on {m : MP} {step : B64} {n : AN} {fold : Bool} {q : Nat} (hq : q < 256) (h : takesP n fold q = true) : (mCells (learnQ m step n fold q)).setIfInBounds (65 + q) (UV (m.takes q ||| step)) = mCells (learnQ m step n fold (q + 1)) := by
  refine m_set_takes _ _ q _ hq ⟨rfl, rfl⟩ rfl (fun j _ => ?_) rfl rfl rfl
  simp only [learnQ]
  by_cases hs : j = q
  · subst hs; rw [if_pos ⟨by omega, h⟩, if_pos rfl]
  · rw [if_neg hs]
    by_cases h1 : j < q ∧ takesP n fold j = true
    · rw [if_pos ⟨by omega, h1.2⟩, if_pos h1]
    · rw [if_neg (fun hc => h1 ⟨by omega, hc.2⟩), if_neg h1]

theorem MIn.frozen {w : World} {g : Nat} {m : MP} (h : MIn w g m) (j : Nat) : w.frozen? ⟨g, j, none⟩ = false := Blk.frozen h j
theorem MIn.drewN {w : World} {g : Nat} {m : MP} (h : MIn w g m) (n : Nat) : MIn (w.drewN n) g m := h

/-- What one round of learnBytes leaves. -/
structure LbIn (w0 w : World) (g : Nat) (m : MP) (n : AN) (x : IV) : Prop where
  mi : MIn w g m
  nb : Blk w w0.heap.size #[.int .i64 n.kind, .slice x.1 x.2.1 x.2.2, .bool n.neg, .int .i64 n.left, .int .i64 n.right, .int .i64 n.least, .int .i64 n.most, .int .i64 n.size] 164
  k : Kept [g] w0 w
theorem LbIn.drewN {w0 w : World} {g : Nat} {m : MP} {n : AN} {x : IV} (h : LbIn w0 w g m n x) (q : Nat) : LbIn w0 (w.drewN q) g m n x := ⟨h.mi, h.nb, h.k.drewN q⟩
theorem LbIn.drew {w0 w : World} {g : Nat} {m : MP} {n : AN} {x : IV} (h : LbIn w0 w g m n x) : LbIn w0 w.drew g m n x := ⟨h.mi, h.nb, h.k.drew⟩
theorem LbIn.set {w0 w : World} {g : Nat} {m m' : MP} {n : AN} {x : IV} (h : LbIn w0 w g m n x) (hg : g < w0.heap.size) (i : Nat) (u : Value) (he : (mCells m).setIfInBounds i u = mCells m') : LbIn w0 (w.setCell ⟨g, i, none⟩ u) g m' n x := by
  refine ⟨?_, h.nb.other _ _ (by omega), h.k.setCell (Or.inl (by simp)) _⟩
  have := Blk.set h.mi i u
  rw [he] at this
  exact this

set_option maxHeartbeats 4000000 in
set_option maxRecDepth 100000 in
theorem learnBytes_any (m : MP) (g : Nat) (step : B64) (n : AN) (x : IV) (fold : Bool) (B : Nat) (w : World) (h : MIn w g m) (hx : ItemsOk w B x n.its) (hl : n.its.length ≤ 1000) (hne : (ivV x).ownBlock ≠ some g) :
    Calls Tryz.prog 141 #[.pointer (some ⟨g, 0, none⟩), .int .u64 (step.toNat : Int), .agg #[.int .i64 n.kind, .slice x.1 x.2.1 x.2.2, .bool n.neg, .int .i64 n.left, .int .i64 n.right, .int .i64 n.least, .int .i64 n.most, .int .i64 n.size], .bool fold] w
      fun e w' => e = .returned (.tuple #[]) ∧ MIn w' g (learnQ m step n fold 256) ∧ Kept [g] w w' := by
  have hg : g < w.heap.size := Blk.lt h
  have hst : LbIn w (w.alloc (.cells #[.int .i64 n.kind, .slice x.1 x.2.1 x.2.2, .bool n.neg, .int .i64 n.left, .int .i64 n.right, .int .i64 n.least, .int .i64 n.most, .int .i64 n.size] 164)) g (learnQ m step n fold 0) n x := by
    refine ⟨?_, Blk.new _ _ _, (Kept.refl _ _).alloc _⟩
    have e : learnQ m step n fold 0 = m := by unfold learnQ; congr 1
    rw [e]
    exact Blk.alloc h _
  have hstH : Hid (LbIn _ _ _ _ _ _) := hst
  clear hst
  go_enter Tryz.func141, Tryz.ntmps141
  go_wp2_with fail
  go_loopw [8] (fun iv wr => ∃ q : Nat, iv = .int .i64 (q : Int) ∧ q ≤ 256 ∧ LbIn w wr g (learnQ m step n fold q) n x) (fun iv _ => (256 - intOf iv).toNat)
  case atStart => exact ⟨0, rfl, by omega, hstH.out⟩
  case round =>
    obtain ⟨q, rfl, hq, hI⟩ := hrel
    clear hstH
    by_cases hlt : (q : Int) < 256
    · have hqn : q < 256 := by omega
      have hoc : otherC q ≤ 255 := by unfold otherC; repeat' split
                                      all_goals omega
      have hx1 : ItemsOk wr B x n.its := hx.keep hI.k (by simpa using hne)
      have hh1 : Hid (∀ w', w'.heap = wr.heap → Calls _ _ _ w' _) := fun w' e => holds_any n.its B x (q : Int) w' (hx1.same e) hl (by omega) (by omega)
      have hh2 : Hid (∀ w', w'.heap = wr.heap → Calls _ _ _ w' _) := fun w' e => holds_any n.its B x (otherC q : Int) w' (hx1.same e) hl (by omega) (by omega)
      have ho : Hid (∀ w', Calls _ _ _ w' _) := fun w' => otherCase_any q hqn w'
      have c1 : wr.cell? ⟨w.heap.size, 1, none⟩ = some (.slice x.1 x.2.1 x.2.2) := by rw [hI.nb.cell]; rfl
      have c2 : wr.cell? ⟨w.heap.size, 2, none⟩ = some (.bool n.neg) := by rw [hI.nb.cell]; rfl
      have c3 := hI.mi.takes hqn
      have c4 := hI.mi.frozen (65 + q)
      have et : (learnQ m step n fold q).takes q = m.takes q := by simp [learnQ]
      rw [et] at c3
      have hor := or_u (m.takes q) step
      have hon : Hid (takesP n fold q = true → LbIn w (wr.drew.setCell ⟨g, 65 + q, none⟩ (UV (m.takes q ||| step))) g (learnQ m step n fold (q + 1)) n x ∧ ∀ k, LbIn w ((wr.drewN k).drew.setCell ⟨g, 65 + q, none⟩ (UV (m.takes q ||| step))) g (learnQ m step n fold (q + 1)) n x) := fun hb =>
        ⟨hI.drew.set hg _ _ (learnQ_on hqn hb), fun k => (hI.drewN k).drew.set hg _ _ (learnQ_on hqn hb)⟩
      have hoff : Hid (takesP n fold q = false → LbIn w wr g (learnQ m step n fold (q + 1)) n x ∧ ∀ k, LbIn w (wr.drewN k) g (learnQ m step n fold (q + 1)) n x) := fun hb => by
        rw [learnQ_off hb]; exact ⟨hI, fun k => hI.drewN k⟩
      have etk : takesP n fold q = ((holdsP n.its (q : Int) || (fold && holdsP n.its (otherC q : Int))) != n.neg) := rfl
      clear et hI hx1 hx h hlt
      have hlt : (q : Int) < 256 := by omega
      generalize m.takes q ||| step = Z at *
      generalize takesP n fold q = TT at *
      generalize holdsP n.its (q : Int) = b1 at *
      generalize holdsP n.its (otherC q : Int) = b2 at *
      generalize hneg : n.neg = ng at *
      clear hneg
      cases b1 <;> cases ng <;> cases fold <;> cases b2 <;> simp only [Bool.or_true, Bool.or_false, Bool.true_or, Bool.false_or, Bool.true_and, Bool.false_and, Bool.and_true, Bool.and_false, bne_self_eq_false, Bool.true_bne, Bool.false_bne, Bool.bne_true, Bool.bne_false, Bool.not_true, Bool.not_false] at etk <;> subst etk
      · have H : Hid (_ ∧ _) := hoff.out rfl
        clear hon hoff
        go_wp2_with (go_at_call 180; refine (hh1.out _ rfl).mono ?_; rintro _ _ ⟨rfl, rfl⟩)
        refine ⟨⟨q + 1, by go_num, by omega, H.out.1⟩, ?_⟩
        simp only [intOf]; omega
      · have H : Hid (_ ∧ _) := hoff.out rfl
        clear hon hoff
        go_wp2_with (go_at_call 180; refine (hh1.out _ rfl).mono ?_; rintro _ _ ⟨rfl, rfl⟩)
        refine ⟨⟨q + 1, by go_num, by omega, H.out.1⟩, ?_⟩
        simp only [intOf]; omega
      · have H : Hid (_ ∧ _) := hoff.out rfl
        clear hon hoff
        go_wp2_with (go_at_call 180; refine (hh1.out _ rfl).mono ?_; rintro _ _ ⟨rfl, rfl⟩)
        go_quiet (first | (go_at_call 181; exact Calls.quiet_of_same (ho.out _)) | (go_at_call 180; exact Calls.quiet_of_same (hh2.out _ rfl)))
        go_wp2
        refine ⟨⟨q + 1, by go_num, by omega, H.out.2 _⟩, ?_⟩
        simp only [intOf]; omega
      · have H : Hid (_ ∧ _) := hon.out rfl
        clear hon hoff
        go_wp2_with (go_at_call 180; refine (hh1.out _ rfl).mono ?_; rintro _ _ ⟨rfl, rfl⟩)
        go_quiet (first | (go_at_call 181; exact Calls.quiet_of_same (ho.out _)) | (go_at_call 180; exact Calls.quiet_of_same (hh2.out _ rfl)))
        go_wp2
        go_region
        go_wp2
        refine ⟨⟨q + 1, by go_num, by omega, H.out.2 _⟩, ?_⟩
        simp only [intOf]; omega
      · have H : Hid (_ ∧ _) := hon.out rfl
        clear hon hoff
        go_wp2_with (go_at_call 180; refine (hh1.out _ rfl).mono ?_; rintro _ _ ⟨rfl, rfl⟩)
        go_region
        go_wp2
        refine ⟨⟨q + 1, by go_num, by omega, H.out.1⟩, ?_⟩
        simp only [intOf]; omega
      · have H : Hid (_ ∧ _) := hon.out rfl
        clear hon hoff
        go_wp2_with (go_at_call 180; refine (hh1.out _ rfl).mono ?_; rintro _ _ ⟨rfl, rfl⟩)
        go_region
        go_wp2
        refine ⟨⟨q + 1, by go_num, by omega, H.out.1⟩, ?_⟩
        simp only [intOf]; omega
      · have H : Hid (_ ∧ _) := hon.out rfl
        clear hon hoff
        go_wp2_with (go_at_call 180; refine (hh1.out _ rfl).mono ?_; rintro _ _ ⟨rfl, rfl⟩)
        go_quiet (first | (go_at_call 181; exact Calls.quiet_of_same (ho.out _)) | (go_at_call 180; exact Calls.quiet_of_same (hh2.out _ rfl)))
        go_wp2
        go_region
        go_wp2
        refine ⟨⟨q + 1, by go_num, by omega, H.out.2 _⟩, ?_⟩
        simp only [intOf]; omega
      · have H : Hid (_ ∧ _) := hoff.out rfl
        clear hon hoff
        go_wp2_with (go_at_call 180; refine (hh1.out _ rfl).mono ?_; rintro _ _ ⟨rfl, rfl⟩)
        go_quiet (first | (go_at_call 181; exact Calls.quiet_of_same (ho.out _)) | (go_at_call 180; exact Calls.quiet_of_same (hh2.out _ rfl)))
        go_wp2
        refine ⟨⟨q + 1, by go_num, by omega, H.out.2 _⟩, ?_⟩
        simp only [intOf]; omega
      · have H : Hid (_ ∧ _) := hon.out rfl
        clear hon hoff
        go_wp2_with (go_at_call 180; refine (hh1.out _ rfl).mono ?_; rintro _ _ ⟨rfl, rfl⟩)
        go_region
        go_wp2
        refine ⟨⟨q + 1, by go_num, by omega, H.out.1⟩, ?_⟩
        simp only [intOf]; omega
      · have H : Hid (_ ∧ _) := hon.out rfl
        clear hon hoff
        go_wp2_with (go_at_call 180; refine (hh1.out _ rfl).mono ?_; rintro _ _ ⟨rfl, rfl⟩)
        go_region
        go_wp2
        refine ⟨⟨q + 1, by go_num, by omega, H.out.1⟩, ?_⟩
        simp only [intOf]; omega
      · have H : Hid (_ ∧ _) := hon.out rfl
        clear hon hoff
        go_wp2_with (go_at_call 180; refine (hh1.out _ rfl).mono ?_; rintro _ _ ⟨rfl, rfl⟩)
        go_region
        go_wp2
        refine ⟨⟨q + 1, by go_num, by omega, H.out.1⟩, ?_⟩
        simp only [intOf]; omega
      · have H : Hid (_ ∧ _) := hon.out rfl
        clear hon hoff
        go_wp2_with (go_at_call 180; refine (hh1.out _ rfl).mono ?_; rintro _ _ ⟨rfl, rfl⟩)
        go_region
        go_wp2
        refine ⟨⟨q + 1, by go_num, by omega, H.out.1⟩, ?_⟩
        simp only [intOf]; omega
      · have H : Hid (_ ∧ _) := hoff.out rfl
        clear hon hoff
        go_wp2_with (go_at_call 180; refine (hh1.out _ rfl).mono ?_; rintro _ _ ⟨rfl, rfl⟩)
        refine ⟨⟨q + 1, by go_num, by omega, H.out.1⟩, ?_⟩
        simp only [intOf]; omega
      · have H : Hid (_ ∧ _) := hoff.out rfl
        clear hon hoff
        go_wp2_with (go_at_call 180; refine (hh1.out _ rfl).mono ?_; rintro _ _ ⟨rfl, rfl⟩)
        refine ⟨⟨q + 1, by go_num, by omega, H.out.1⟩, ?_⟩
        simp only [intOf]; omega
      · have H : Hid (_ ∧ _) := hoff.out rfl
        clear hon hoff
        go_wp2_with (go_at_call 180; refine (hh1.out _ rfl).mono ?_; rintro _ _ ⟨rfl, rfl⟩)
        refine ⟨⟨q + 1, by go_num, by omega, H.out.1⟩, ?_⟩
        simp only [intOf]; omega
      · have H : Hid (_ ∧ _) := hoff.out rfl
        clear hon hoff
        go_wp2_with (go_at_call 180; refine (hh1.out _ rfl).mono ?_; rintro _ _ ⟨rfl, rfl⟩)
        refine ⟨⟨q + 1, by go_num, by omega, H.out.1⟩, ?_⟩
        simp only [intOf]; omega
    · have hqe : q = 256 := by omega
      subst hqe
      have h1 := hI.mi
      have h2 := hI.k
      clear hI h hx
      go_wp2
      go_end0
      exact ⟨rfl, h1, h2⟩

end Go.Proofs.YtgifhgnccmnbiabGreatDoor

set_option linter.unusedVariables false
set_option linter.unusedSimpArgs false
namespace Go.Proofs.YtgifhgnccmnbiabGreatDoor
open Go.RowKit Go.IntWalk

set_option maxHeartbeats 2000000 in
set_option maxRecDepth 100000 in
theorem learn_any (m : MP) (g : Nat) (step : B64) (n : AN) (x : IV) (fold : Bool) (B : Nat) (w : World) (h : MIn w g m) (hx : ItemsOk w B x n.its) (hl : n.its.length ≤ 1000) (hne : (ivV x).ownBlock ≠ some g) :
    Calls Tryz.prog 95 #[.pointer (some ⟨g, 0, none⟩), .int .u64 (step.toNat : Int), .agg #[.int .i64 n.kind, .slice x.1 x.2.1 x.2.2, .bool n.neg, .int .i64 n.left, .int .i64 n.right, .int .i64 n.least, .int .i64 n.most, .int .i64 n.size], .bool fold] w
      fun e w' => e = .returned (.tuple #[]) ∧ MIn w' g (learnP m step n fold) ∧ Kept [g] w w' := by
  have hg : g < w.heap.size := Blk.lt h
  have hA : MIn (w.alloc (.cells #[.int .i64 n.kind, .slice x.1 x.2.1 x.2.2, .bool n.neg, .int .i64 n.left, .int .i64 n.right, .int .i64 n.least, .int .i64 n.most, .int .i64 n.size] 164)) g m := Blk.alloc h _
  have k0 : Kept [g] w (w.alloc (.cells #[.int .i64 n.kind, .slice x.1 x.2.1 x.2.2, .bool n.neg, .int .i64 n.left, .int .i64 n.right, .int .i64 n.least, .int .i64 n.most, .int .i64 n.size] 164)) := (Kept.refl _ _).alloc _
  by_cases e2 : n.kind = 2
  · have hP : Hid (learnP m step n fold = { m with begins := m.begins ||| step }) := by show learnP m step n fold = _; unfold learnP; rw [if_pos e2]
    have hor := or_u m.begins step
    have c1 := h.begins
    have f1 := h.frozen 321
    have hI := (Blk.set h 321 (UV (m.begins ||| step)))
    rw [m_set_begins] at hI
    have hIH : Hid (Blk _ _ _ _) := hI.alloc (.cells #[.int .i64 n.kind, .slice x.1 x.2.1 x.2.2, .bool n.neg, .int .i64 n.left, .int .i64 n.right, .int .i64 n.least, .int .i64 n.most, .int .i64 n.size] 164)
    have hKH : Hid (Kept _ _ _) := ((Kept.refl [g] w).setCell (p := ⟨g, 321, none⟩) (Or.inl (by simp)) (UV (m.begins ||| step))).alloc (.cells #[.int .i64 n.kind, .slice x.1 x.2.1 x.2.2, .bool n.neg, .int .i64 n.left, .int .i64 n.right, .int .i64 n.least, .int .i64 n.most, .int .i64 n.size] 164)
    have b2 : (n.kind == 2) = true := by rw [e2]; rfl
    clear hI hA h hx k0 e2
    generalize m.begins ||| step = Z at *
    go_enter Tryz.func95, Tryz.ntmps95
    go_wp2
    go_end0
    exact ⟨rfl, by rw [hP.out]; exact hIH.out, hKH.out⟩
  by_cases e3 : n.kind = 3
  · have hP : Hid (learnP m step n fold = { m with ends := m.ends ||| step }) := by show learnP m step n fold = _; unfold learnP; rw [if_neg e2, if_pos e3]
    have hor := or_u m.ends step
    have c1 := h.ends
    have f1 := h.frozen 322
    have hI := (Blk.set h 322 (UV (m.ends ||| step)))
    rw [m_set_ends] at hI
    have hIH : Hid (Blk _ _ _ _) := hI.alloc (.cells #[.int .i64 n.kind, .slice x.1 x.2.1 x.2.2, .bool n.neg, .int .i64 n.left, .int .i64 n.right, .int .i64 n.least, .int .i64 n.most, .int .i64 n.size] 164)
    have hKH : Hid (Kept _ _ _) := ((Kept.refl [g] w).setCell (p := ⟨g, 322, none⟩) (Or.inl (by simp)) (UV (m.ends ||| step))).alloc (.cells #[.int .i64 n.kind, .slice x.1 x.2.1 x.2.2, .bool n.neg, .int .i64 n.left, .int .i64 n.right, .int .i64 n.least, .int .i64 n.most, .int .i64 n.size] 164)
    have b2 : (n.kind == 2) = false := by rw [e3]; rfl
    have b3 : (n.kind == 3) = true := by rw [e3]; rfl
    clear hI hA h hx k0 e2 e3
    generalize m.ends ||| step = Z at *
    go_enter Tryz.func95, Tryz.ntmps95
    go_wp2
    go_end0
    exact ⟨rfl, by rw [hP.out]; exact hIH.out, hKH.out⟩
  by_cases e1 : n.kind = 1
  · have hP : Hid (learnP m step n fold = learnQ m step n fold 256) := by show learnP m step n fold = _; unfold learnP; rw [if_neg e2, if_neg e3, if_pos e1]
    have hc : Hid (Calls _ _ _ _ _) := learnBytes_any m g step n x fold B _ hA (hx.keep k0 (by simpa using hne)) hl hne
    have hrg : World.rangeAt (w.alloc (.cells #[.int .i64 n.kind, .slice x.1 x.2.1 x.2.2, .bool n.neg, .int .i64 n.left, .int .i64 n.right, .int .i64 n.least, .int .i64 n.most, .int .i64 n.size] 164)) w.heap.size 0 (n.cells x) := fun j v hv => by
      rw [Nat.zero_add, (Blk.new w _ _).cell, ← hv]
      show (n.cells x).toArray[j]? = _
      simp
    have hkH : Hid (Kept _ _ _) := k0
    have hK : Hid (n.kind = 1) := e1
    have ek : (w.alloc (.cells #[.int .i64 n.kind, .slice x.1 x.2.1 x.2.2, .bool n.neg, .int .i64 n.left, .int .i64 n.right, .int .i64 n.least, .int .i64 n.most, .int .i64 n.size] 164)).cell? ⟨w.heap.size, 0, none⟩ = some (.int .i64 1) := by
      rw [(Blk.new w _ _).cell, ← e1]; rfl
    have hk1 : ∀ kd, kd = n.kind → n.kind = 1 := fun _ _ => e1
    clear hA h hx k0 e2 e3 e1 ek hk1
    go_enter Tryz.func95, Tryz.ntmps95
    have e1 := hK.out
    have e1' : (n.kind == 2) = false := by rw [e1]; rfl
    have e1'' : (n.kind == 3) = false := by rw [e1]; rfl
    have e1''' : (n.kind == 1) = true := by rw [e1]; rfl
    clear e1
    go_wp2_with (first
      | (with_reducible refine wpList_load_node ?_ (.tmp 6) ?_ w.heap.size 0 ?_ n x ?_ ?_
         · rfl
         · rfl
         · rfl
         · exact hrg)
      | (go_at_call 141
         refine hc.out.mono ?_
         rintro e w5 ⟨rfl, h5, k5⟩))
    go_end0
    exact ⟨rfl, by rw [hP.out]; exact h5, hkH.out.trans k5⟩
  · have hP : Hid (learnP m step n fold = m) := by show learnP m step n fold = _; unfold learnP; rw [if_neg e2, if_neg e3, if_neg e1]
    have hIH : Hid (MIn _ _ _) := hA
    have hkH : Hid (Kept _ _ _) := k0
    clear hA h hx k0
    go_enter Tryz.func95, Tryz.ntmps95
    go_wp2
    go_end0
    exact ⟨rfl, by rw [hP.out]; exact hIH.out, hkH.out⟩

end Go.Proofs.YtgifhgnccmnbiabGreatDoor

set_option linter.unusedVariables false
set_option linter.unusedSimpArgs false
namespace Go.Proofs.YtgifhgnccmnbiabGreatDoor
open Go.RowKit Go.IntWalk

theorem mCell_one (m : MP) (i : Nat) : (mCell m i).oneCell' = true := by
  unfold mCell
  repeat' split
  all_goals rfl
theorem mCells_one (m : MP) : (mCells m).all (·.oneCell') = true := cellsF_one fun j _ => mCell_one m j
theorem zero_mach : (Tryz.prog.info? 101).map (fun i => (i.zero, i.size)) = some (some (.agg (mCells {})), 324) := by kernel_rfl
theorem zeroV_mach (w : World) : (zeroValue 101).run Tryz.prog w = .ok (.agg (mCells {})) w := by
  have h := zero_mach
  cases hq : Tryz.prog.info? 101 with
  | none => simp [hq] at h
  | some i =>
    simp [hq] at h
    simp [zeroValue, typeInfo, hq, h.1]
theorem size_mach : (Tryz.prog.info? 101).map (·.size) = some 324 := by kernel_rfl

theorem wpList_load_mach {ops : Array Oper} {rest : List Oper} {o : Oper} {a : Act} {w : World} {Q : Exit → Act → World → Prop} (hgd : o.guard = none) (x : Operand) (ho : o.op = .load 101 x)
    (g : Nat) (hx : a.eval x = .pointer (some ⟨g, 0, none⟩)) (p : MP) (hg : MIn w g p)
    (h : wpList Tryz.prog ops Q rest (a.put o.dst (.agg (mCells p))) w) : wpList Tryz.prog ops Q (o :: rest) a w :=
  wpList_load_row hgd _ x ho g hx _ _ _ _ hg Tryz.underlying101 rfl (by rw [mCells_size]; exact size_mach) h
theorem wpList_store_mach {ops : Array Oper} {rest : List Oper} {o : Oper} {a : Act} {w : World} {Q : Exit → Act → World → Prop} (hgd : o.guard = none) (x y : Operand) (ho : o.op = .store 101 x y)
    (g : Nat) (hx : a.eval x = .pointer (some ⟨g, 0, none⟩)) (q p : MP) (hy : a.eval y = .agg (mCells p)) (hg : MIn w g q)
    (h : ∀ w', MIn w' g p → Kept [g] w w' → w'.heap.size = w.heap.size → wpList Tryz.prog ops Q rest (a.put o.dst undef) w') : wpList Tryz.prog ops Q (o :: rest) a w := by
  refine wpList_plain hgd fun K hK => ?_
  have hr := run_storeVar_row (P := Tryz.prog) w g 101 101 (mCells q) (mCells p) hg (by rw [mCells_size]; exact size_mach) (by simp) (mCells_one p)
  unfold Oper.wp execOp
  simp only [ho, hx, hy, Instr.storeAt, Instr.sureAddr, Sem.run_bind, Sem.run_pure, Result.andThen_ok, hr]
  exact hK _ _ (h _ (Blk.storeRow hg) (Kept.setRow w g _) (by simp))
theorem results_mach {fn : Func} {r : Tmp} (h : fn.results = #[.cell r 101]) (tmps : Array Value) (w : World) (g : Nat) (p : MP)
    (hp : tmps.getD r undef = .pointer (some ⟨g, 0, none⟩)) (hg : MIn w g p) : (results fn tmps).run Tryz.prog w = .ok (.agg (mCells p)) w :=
  results_cell_row h tmps w g _ _ _ _ hp hg Tryz.underlying101 rfl (by rw [mCells_size]; exact size_mach)

theorem m_set_beg (m : MP) (s : B64) : (mCells m).setIfInBounds 0 (UV s) = mCells { m with beg := s } := cellsF_set _ _ _ _ fun j hj => by
  by_cases h : j = 0
  · subst h; rfl
  · unfold mCell; simp only [if_neg h]
theorem m_set_en (m : MP) (s : B64) : (mCells m).setIfInBounds 1 (UV s) = mCells { m with en := s } := cellsF_set _ _ _ _ fun j hj => by
  by_cases h : j = 1
  · subst h; rfl
  · unfold mCell; simp only [if_neg h]
theorem build_mach (w : World) (b : Bool) (s : B64) : (Instr.build 101 #[(6, .int .u64 (s.toNat : Int))]).run Tryz.prog w = .ok (.agg (mCells { whole := b, last := s })) w := by
  unfold Instr.build
  rw [Sem.run_bind, zeroV_mach w]
  simp [Sem.run_bind, run_underlying Tryz.underlying101, go_sem]
  have hne : mCells {} ≠ #[] := fun h => by have := mCells_size {}; rw [h] at this; simp at this
  have e := m_set_last { whole := b } s
  have e0 : mCells { whole := b } = mCells {} := rfl
  rw [e0] at e
  rw [e]
theorem wpList_build_mach {ops : Array Oper} {rest : List Oper} {o : Oper} {a : Act} {w : World} {Q : Exit → Act → World → Prop} (hgd : o.guard = none) (y : Operand) (ho : o.op = .build 101 #[(6, y)])
    (b : Bool) (s : B64) (hy : a.eval y = .int .u64 (s.toNat : Int))
    (h : wpList Tryz.prog ops Q rest (a.put o.dst (.agg (mCells { whole := b, last := s }))) w) : wpList Tryz.prog ops Q (o :: rest) a w :=
  wpList_build_value hgd _ _ ho _ (by simp only [List.map_toArray, List.map_cons, List.map_nil, hy]) _ (build_mach w b s) h

def nextM (m : MP) (q : Nat) (s : B64) : MP := { m with next := fun j => if j = q then s else m.next j }
def build0 (p : GP) (whole : Bool) : MP := { nextM { whole := whole, last := p.last } 60 p.first with last := if p.empty = true then p.last ||| startB else p.last }
def buildQ (ns : List AN) (p : GP) (fold whole : Bool) : Nat → MP
  | 0 => build0 p whole
  | q + 1 =>
    match ns[p.node q]? with
    | some n => learnP (nextM (buildQ ns p fold whole q) q (p.next q)) (1#64 <<< q) n fold
    | none => nextM (buildQ ns p fold whole q) q (p.next q)
def buildP (ns : List AN) (p : GP) (fold whole : Bool) : MP := buildQ ns p fold whole p.count

/-- The pattern, the result's room, the part, the machine so far. -/
structure BdIn (w0 w : World) (gp g : Nat) (v : Value) (size : Int) (p : GP) (m : MP) : Prop where
  mi : MIn w g m
  pt : Blk w gp (gpCells p) 158
  pat : Blk w w0.heap.size #[v, .int .i64 size] 93
  res : MIn w (w0.heap.size + 1) {}
  k : Kept [] w0 w
  lt : w0.heap.size + 1 < gp
  ltg : gp < g
theorem BdIn.into {w0 w w' : World} {gp g : Nat} {v : Value} {size : Int} {p : GP} {m m' : MP} (h : BdIn w0 w gp g v size p m) (hm : MIn w' g m') (k : Kept [g] w w') : BdIn w0 w' gp g v size p m' := by
  have := h.lt
  have := h.ltg
  exact ⟨hm, h.pt.kept k (by simp; omega), h.pat.kept k (by simp; omega), Blk.kept h.res k (by simp; omega), h.k.into k (by omega), h.lt, h.ltg⟩
theorem BdIn.set {w0 w : World} {gp g : Nat} {v : Value} {size : Int} {p : GP} {m m' : MP} (h : BdIn w0 w gp g v size p m) (i : Nat) (u : Value) (he : (mCells m).setIfInBounds i u = mCells m') : BdIn w0 (w.setCell ⟨g, i, none⟩ u) gp g v size p m' := by
  refine h.into (m' := m') ?_ ((Kept.refl _ _).setCell (Or.inl (by simp)) _)
  have := Blk.set h.mi i u
  rw [he] at this
  exact this

end Go.Proofs.YtgifhgnccmnbiabGreatDoor

set_option linter.unusedVariables false
set_option linter.unusedSimpArgs false
namespace Go.Proofs.YtgifhgnccmnbiabGreatDoor
open Go.RowKit Go.IntWalk

theorem MIn.set {w : World} {g : Nat} {m m' : MP} (h : MIn w g m) (i : Nat) (u : Value) (he : (mCells m).setIfInBounds i u = mCells m') : MIn (w.setCell ⟨g, i, none⟩ u) g m' := by
  have := Blk.set h i u
  rw [he] at this
  exact this

theorem MIn.drew' {w : World} {g : Nat} {m : MP} (h : MIn w g m) : MIn w.drew g m := Blk.kept h ((Kept.refl [] _).drew) (by simp)

end Go.Proofs.YtgifhgnccmnbiabGreatDoor

set_option linter.unusedVariables false
set_option linter.unusedSimpArgs false
namespace Go.Proofs.YtgifhgnccmnbiabGreatDoor
open Go.RowKit Go.IntWalk

theorem any_step (m : MP) (q : Nat) (hc : m.last.getLsbD q = true ∨ q = 61) (s : B64) (hs : s = (anyQ m q).next q ||| foundB) (hq : q < 63) : (mCells (anyQ m q)).setIfInBounds (2 + q) (UV s) = mCells (anyQ m (q + 1)) := by
  subst hs
  refine m_set_next _ _ q _ hq ⟨rfl, rfl⟩ rfl (fun j _ => ?_) rfl rfl rfl
  unfold anyQ
  simp only []
  by_cases h : j = q
  · subst h
    have e : ¬ (j < j ∧ (m.last.getLsbD j = true ∨ j = 61)) := fun hc => Nat.lt_irrefl _ hc.1
    rw [if_pos ⟨Nat.lt_succ_self _, hc⟩, if_pos rfl, if_neg e]
  · rw [if_neg h]
    by_cases h2 : j < q ∧ (m.last.getLsbD j = true ∨ j = 61)
    · rw [if_pos ⟨by omega, h2.2⟩, if_pos h2]
    · rw [if_neg (fun h3 => h2 ⟨by omega, h3.2⟩), if_neg h2]
theorem any_skip (m : MP) (q : Nat) (hc : ¬ (m.last.getLsbD q = true ∨ q = 61)) : anyQ m (q + 1) = anyQ m q := by
  unfold anyQ
  congr 1
  funext j
  by_cases h2 : j < q ∧ (m.last.getLsbD j = true ∨ j = 61)
  · rw [if_pos ⟨by omega, h2.2⟩, if_pos h2]
  · rw [if_neg (fun h3 => h2 ⟨by
      have := h3.1
      have : j ≠ q := fun he => hc (he ▸ h3.2)
      omega, h3.2⟩), if_neg h2]
theorem take_step (m : MP) (q : Nat) (hq : q < 256) (s : B64) (hs : s = (takeQ m q).takes q ||| (startB ||| foundB)) : (mCells (takeQ m q)).setIfInBounds (65 + q) (UV s) = mCells (takeQ m (q + 1)) := by
  subst hs
  refine m_set_takes _ _ q _ hq ⟨rfl, rfl⟩ rfl (fun j _ => ?_) rfl rfl rfl
  unfold takeQ
  simp only []
  by_cases h : j = q
  · subst h
    rw [if_pos (Nat.lt_succ_self _), if_pos rfl, if_neg (by omega)]
  · rw [if_neg h]
    by_cases h2 : j < q
    · rw [if_pos (by omega), if_pos h2]
    · rw [if_neg (by omega), if_neg h2]

theorem any_first (m : MP) : (mCells m).setIfInBounds 62 (UV (m.next 60 ||| startB)) = mCells (anyQ m 0) := by
  show (mCells m).setIfInBounds (2 + 60) _ = _
  refine m_set_next _ _ 60 _ (by decide) ⟨rfl, rfl⟩ rfl (fun j _ => ?_) rfl rfl rfl
  unfold anyQ
  simp only []
  rw [if_neg (by omega)]
  by_cases h : j = 60
  · subst h; rfl
  · rw [if_neg h, if_neg h]

set_option maxHeartbeats 4000000 in
set_option maxRecDepth 100000 in
theorem allowAnywhere_any (m : MP) (g : Nat) (w : World) (h : MIn w g m) :
    Calls Tryz.prog 97 #[.pointer (some ⟨g, 0, none⟩)] w fun e w' => e = .returned (.tuple #[]) ∧ MIn w' g (anyP m) ∧ Kept [g] w w' := by
  have hg : g < w.heap.size := Blk.lt h
  have c0 : w.cell? ⟨g, 62, none⟩ = some (UV (m.next 60)) := h.next (i := 60) (by decide)
  have f0 := h.frozen 62
  have ho := or_u (m.next 60) startB
  rw [startB_nat] at ho
  have hst : Hid (MIn (w.drew.setCell ⟨g, 62, none⟩ (UV (m.next 60 ||| startB))) g (anyQ m 0) ∧ Kept [g] w (w.drew.setCell ⟨g, 62, none⟩ (UV (m.next 60 ||| startB)))) := ⟨MIn.set h.drew' 62 _ (any_first m), ((Kept.refl [g] w).drew).setCell (Or.inl (by simp)) _⟩
  clear h
  generalize m.next 60 ||| startB = Z0 at *
  go_enter Tryz.func97, Tryz.ntmps97
  go_wp2_with fail
  go_region
  go_wp2_with fail
  go_loopw [2] (fun iv wr => ∃ q : Nat, iv = .int .i64 (q : Int) ∧ q ≤ 63 ∧ MIn wr g (anyQ m q) ∧ Kept [g] w wr) (fun iv _ => (63 - intOf iv).toNat)
  case atStart => exact ⟨0, rfl, by omega, hst.out.1, hst.out.2⟩
  case round =>
    obtain ⟨q, rfl, hq, hI, hK⟩ := hrel
    clear hst c0 f0 ho
    by_cases hlt : (q : Int) < 63
    · have hqn : q < 63 := by omega
      have d0 : wr.cell? ⟨g, 323, none⟩ = some (UV m.last) := hI.last
      have d1 : wr.cell? ⟨g, 2 + q, none⟩ = some (UV ((anyQ m q).next q)) := hI.next hqn
      have f1 := hI.frozen (2 + q)
      have hor := or_u ((anyQ m q).next q) foundB
      rw [foundB_nat] at hor
      have hhas : Hid (∀ w, Calls Tryz.prog 143 #[.int .u64 (m.last.toNat : Int), .int .i64 (q : Int)] w fun e w' => e = .returned (.bool (m.last.getLsbD q)) ∧ w' = w) := fun w => has_any m.last q (by omega) w
      have hon : Hid ((m.last.getLsbD q = true ∨ q = 61) → MIn (wr.drew.setCell ⟨g, 2 + q, none⟩ (UV ((anyQ m q).next q ||| foundB))) g (anyQ m (q + 1)) ∧ Kept [g] w (wr.drew.setCell ⟨g, 2 + q, none⟩ (UV ((anyQ m q).next q ||| foundB)))) := fun hb => ⟨MIn.set hI.drew' _ _ (any_step m q hb _ rfl hqn), (hK.drew).setCell (Or.inl (by simp)) _⟩
      have hoff : Hid (¬ (m.last.getLsbD q = true ∨ q = 61) → MIn wr g (anyQ m (q + 1)) ∧ Kept [g] w wr) := fun hb => by rw [any_skip m q hb]; exact ⟨hI, hK⟩
      clear hI hK
      generalize (anyQ m q).next q ||| foundB = Z at *
      generalize (anyQ m q).next q = V at *
      cases hbit : m.last.getLsbD q with
      | true =>
        have H : Hid (_ ∧ _) := hon.out (Or.inl hbit)
        rw [hbit] at hhas
        clear hon hoff hbit
        go_wp2_with (go_at_call 143; refine (hhas.out _).mono ?_; rintro _ _ ⟨rfl, rfl⟩)
        go_region
        go_wp2
        refine ⟨⟨q + 1, by go_num, by omega, H.out.1, H.out.2⟩, ?_⟩
        simp only [intOf]; omega
      | false =>
        by_cases h61 : (q : Int) = 61
        · have H : Hid (_ ∧ _) := hon.out (Or.inr (by omega))
          have hb61 : ((q : Int) == 61) = true := by simp [h61]
          rw [hbit] at hhas
          clear hon hoff hbit h61
          go_wp2_with (go_at_call 143; refine (hhas.out _).mono ?_; rintro _ _ ⟨rfl, rfl⟩)
          go_region
          go_wp2
          refine ⟨⟨q + 1, by go_num, by omega, H.out.1, H.out.2⟩, ?_⟩
          simp only [intOf]; omega
        · have H : Hid (_ ∧ _) := hoff.out (fun hc => by
            rcases hc with hc | hc
            · rw [hbit] at hc; exact absurd hc (by decide)
            · omega)
          rw [hbit] at hhas
          clear hon hoff hbit
          go_wp2_with (go_at_call 143; refine (hhas.out _).mono ?_; rintro _ _ ⟨rfl, rfl⟩)
          refine ⟨⟨q + 1, by go_num, by omega, H.out.1, H.out.2⟩, ?_⟩
          simp only [intOf]; omega
    · have hqe : q = 63 := by omega
      subst hqe
      have hst2 : Hid (MIn wr g (takeQ (anyQ m 63) 0) ∧ Kept [g] w wr) := ⟨by
        have e : takeQ (anyQ m 63) 0 = anyQ m 63 := by unfold takeQ; congr 1
        rw [e]; exact hI, hK⟩
      clear hI hK hlt hq
      have eA : Hid (anyP m = takeQ (anyQ m 63) 256) := rfl
      generalize anyQ m 63 = M at *
      go_wp2_with fail
      go_loopw [3] (fun iv wr => ∃ q : Nat, iv = .int .i64 (q : Int) ∧ q ≤ 256 ∧ MIn wr g (takeQ M q) ∧ Kept [g] w wr) (fun iv _ => (256 - intOf iv).toNat)
      case atStart => exact ⟨0, rfl, by omega, hst2.out.1, hst2.out.2⟩
      case round =>
        obtain ⟨q, rfl, hq, hI, hK⟩ := hrel
        clear hst2
        by_cases hlt : (q : Int) < 256
        · have hqn : q < 256 := by omega
          have d1 := hI.takes hqn
          have f1 := hI.frozen (65 + q)
          have hor := or_u ((takeQ M q).takes q) (startB ||| foundB)
          have hcn : (((startB ||| foundB : B64).toNat : Nat) : Int) = 3458764513820540928 := rfl
          rw [hcn] at hor
          have H : Hid (MIn (wr.drew.setCell ⟨g, 65 + q, none⟩ (UV ((takeQ M q).takes q ||| (startB ||| foundB)))) g (takeQ M (q + 1)) ∧ Kept [g] w (wr.drew.setCell ⟨g, 65 + q, none⟩ (UV ((takeQ M q).takes q ||| (startB ||| foundB))))) := ⟨MIn.set hI.drew' _ _ (take_step M q hqn _ rfl), (hK.drew).setCell (Or.inl (by simp)) _⟩
          clear hI hK hcn
          generalize (takeQ M q).takes q ||| (startB ||| foundB) = Z at *
          generalize (takeQ M q).takes q = V at *
          go_wp2_with fail
          go_region
          go_wp2
          refine ⟨⟨q + 1, by go_num, by omega, H.out.1, H.out.2⟩, ?_⟩
          simp only [intOf]; omega
        · have hqe : q = 256 := by omega
          subst hqe
          have hIH : Hid (MIn _ _ _) := hI
          have hKH : Hid (Kept _ _ _) := hK
          clear hI hK
          go_wp2
          go_end0
          exact ⟨rfl, by rw [eA.out]; exact hIH.out, hKH.out⟩

set_option maxHeartbeats 2000000 in
set_option maxRecDepth 100000 in
theorem way_any (m : MP) (g c : Nat) (hc : c < 256) (w : World) (h : MIn w g m) :
    Calls Tryz.prog 125 #[.pointer (some ⟨g, 0, none⟩), .int .u8 (c : Int)] w fun e w' => e = .returned (WV g 2 (m.takes c)) ∧ Kept [] w w' := by
  have hg : g < w.heap.size := Blk.lt h
  have c0 := h.takes hc
  clear h
  generalize m.takes c = V at *
  have hk : Hid (Kept [] w (w.alloc (.cells #[.pointer (some ⟨g, 2, none⟩), UV V] 167)).drew) := ((Kept.refl [] w).alloc _).drew
  go_enter Tryz.func125, Tryz.ntmps125
  go_wp2_with fail
  go_region
  go_wp2
  refine bodyPost_ret (v := WV g 2 V) (by simp [results, Tryz.results125, go_sem]) rfl ⟨rfl, hk.out⟩

set_option maxHeartbeats 4000000 in
set_option maxRecDepth 100000 in
theorem matches_any (M : MP) (g : Nat) (t : ByteArray) (ht : t.size ≤ 1000) (w : World) (h : MIn w g M) :
    Calls Tryz.prog 82 #[.pointer (some ⟨g, 0, none⟩), .string t] w fun e w' => e = .returned (.bool (matchesN M t)) ∧ Kept [] w w' := by
  have hg : g < w.heap.size := Blk.lt h
  have c0 := h.beg
  have hst : Hid (MIn w g M ∧ Kept [] w w) := ⟨h, Kept.refl _ _⟩
  clear h
  go_enter Tryz.func82, Tryz.ntmps82
  go_wp2_with fail
  go_loopw [5, 6] (fun sv iv wr => ∃ q : Nat, sv = .int .u64 ((setN M t q).toNat : Int) ∧ iv = .int .i64 (q : Int) ∧ q ≤ t.size ∧ MIn wr g M ∧ Kept [] w wr) (fun _ iv _ => ((t.size : Int) - intOf iv).toNat)
  case atStart => exact ⟨0, rfl, rfl, by omega, hst.out.1, hst.out.2⟩
  case round =>
    obtain ⟨q, rfl, rfl, hq, hI, hK⟩ := hrel
    clear hst c0
    by_cases hlt : (q : Int) < (t.size : Int)
    · have hqn : q < t.size := by omega
      have hc256 : t[q].toNat < 256 := t[q].toNat_lt
      have hwy : Hid (Calls _ _ _ _ _) := way_any M g t[q].toNat hc256 wr hI
      have e1 : Hid (setN M t (q + 1) = fromP M (M.takes t[q].toNat) (setN M t q)) := by show setN M t (q + 1) = _; rw [setN, dif_pos hqn]
      have hfr : Hid (∀ w', Kept [] wr w' → Calls Tryz.prog 124 #[WV g 2 (M.takes t[q].toNat), .int .u64 ((setN M t q).toNat : Int)] w' fun e w2 => e = .returned (.int .u64 ((fromP M (M.takes t[q].toNat) (setN M t q)).toNat : Int)) ∧ Kept [] w' w2) := fun w' k => from_any M g 2 _ _ w' (TabAt.kept hI.tab k (Blk.lt hI))
      have hIH : Hid (MIn _ _ _) := hI
      have hKH : Hid (Kept _ _ _) := hK
      clear hI hK
      generalize fromP M (M.takes t[q].toNat) (setN M t q) = F at *
      generalize M.takes t[q].toNat = T at *
      generalize setN M t q = S at *
      go_wp2_with (first
        | (go_at_call 125
           refine hwy.out.mono ?_
           rintro _ w1 ⟨rfl, k1⟩
           have k2 : Kept [] wr (w1.alloc (.cells #[.pointer (some ⟨g, 2, none⟩), UV T] 167)) := k1.alloc _)
        | (go_at_call 124
           refine (hfr.out _ k2).mono ?_
           rintro _ w3 ⟨rfl, k3⟩
           have k4 := k2.trans k3))
      refine ⟨⟨q + 1, by rw [e1.out], by go_num, by omega, Blk.kept hIH.out k4 (by simp), hKH.out.trans k4⟩, ?_⟩
      simp only [intOf]; omega
    · have hqe : q = t.size := by omega
      subst hqe
      have d0 := hI.en
      have ha := and_u (setN M t t.size) M.en
      have hKH : Hid (Kept _ _ _) := hK
      have e0 : Hid (matchesN M t = !decide (setN M t t.size &&& M.en = 0#64)) := rfl
      clear hI hK
      generalize setN M t t.size &&& M.en = X at *
      by_cases hz : X = 0#64
      · have hX0 : (X.toNat : Int) = 0 := (u_zero _).2 hz
        have e1 : Hid (matchesN M t = false) := by show matchesN M t = false; rw [e0.out]; simp [hz]
        clear hz e0
        go_wp2
        go_ret
        exact ⟨by rw [e1.out]; rfl, hKH.out⟩
      · have hX0 : (X.toNat : Int) ≠ 0 := fun hc => hz ((u_zero _).1 hc)
        have e1 : Hid (matchesN M t = true) := by show matchesN M t = true; rw [e0.out]; simp [hz]
        clear hz e0
        go_wp2
        go_ret
        have hb : (((X.toNat : Nat) : Int) != 0) = true := bne_iff_ne.2 hX0
        exact ⟨by rw [e1.out]; show Ending.returned (Value.bool (((X.toNat : Nat) : Int) != 0)) = _; rw [hb], hKH.out⟩

end Go.Proofs.YtgifhgnccmnbiabGreatDoor

set_option linter.unusedVariables false
set_option linter.unusedSimpArgs false
namespace Go.Proofs.YtgifhgnccmnbiabGreatDoor
open Go.RowKit Go.IntWalk

def tabCells (nx : Nat → B64) : Array Value := cellsF 63 fun i => UV (nx i)
theorem tabCells_get (nx : Nat → B64) {i : Nat} (h : i < 63) : (tabCells nx)[i]? = some (UV (nx i)) := cellsF_get _ h
theorem tabCells_set (nx : Nat → B64) (q : Nat) (X : B64) : (tabCells nx).setIfInBounds q (UV X) = tabCells (fun i => if i = q then X else nx i) :=
  cellsF_set _ _ _ _ fun j hj => by
    by_cases h : j = q
    · show UV (if j = q then X else nx j) = _; rw [if_pos h, if_pos h]
    · show UV (if j = q then X else nx j) = _; rw [if_neg h, if_neg h]
theorem zero_table : (Tryz.prog.info? 98).map (fun i => (i.zero, i.size)) = some (some (.agg (tabCells fun _ => 0#64)), 63) := by kernel_rfl
theorem zeroV_table (w : World) : (zeroValue 98).run Tryz.prog w = .ok (.agg (tabCells fun _ => 0#64)) w := by
  have h := zero_table
  cases hq : Tryz.prog.info? 98 with
  | none => simp [hq] at h
  | some i =>
    simp [hq] at h
    simp [zeroValue, typeInfo, hq, h.1]
theorem tabAt_blk {w : World} {G : Nat} {nx : Nat → B64} {t : TypeId} (h : Blk w G (tabCells nx) t) : TabAt w G 0 (tabM nx) := fun i hi => by
  rw [Nat.zero_add, h.cell, tabCells_get nx hi]; rfl

def thenQ (m : MP) (tk : B64) (m' : MP) (tk' : B64) (q : Nat) (i : Nat) : B64 := if i < q then thenN m tk m' tk' i else 0#64
theorem thenQ_succ (m : MP) (tk : B64) (m' : MP) (tk' : B64) (q : Nat) : (fun i => if i = q then thenN m tk m' tk' q else thenQ m tk m' tk' q i) = thenQ m tk m' tk' (q + 1) := by
  funext i
  unfold thenQ
  by_cases h : i = q
  · subst h; rw [if_pos rfl, if_pos (by omega)]
  · rw [if_neg h]
    by_cases h2 : i < q
    · rw [if_pos h2, if_pos (by omega)]
    · rw [if_neg h2, if_neg (by omega)]
/-- While the table fills. -/
structure ThenI (w wr : World) (m : MP) (g o : Nat) (tk : B64) (m' : MP) (g' o' : Nat) (tk' : B64) (q : Nat) : Prop where
  k : Kept [] w wr
  b0 : Blk wr w.heap.size #[.pointer (some ⟨g, o, none⟩), UV tk] 167
  b1 : Blk wr (w.heap.size + 1) #[.pointer (some ⟨g', o', none⟩), UV tk'] 167
  b2 : Blk wr (w.heap.size + 1 + 1) #[.pointer none, .int .u64 0] 167
  b3 : Blk wr (w.heap.size + 1 + 1 + 1) (tabCells (thenQ m tk m' tk' q)) 98
structure ThenOut (w w' : World) (m : MP) (tk : B64) (m' : MP) (tk' : B64) (e : Ending) : Prop where
  k : Kept [] w w'
  ex : ∃ G, e = .returned (WV G 0 tk') ∧ w.heap.size ≤ G ∧ TabAt w' G 0 (tabM (thenN m tk m' tk'))

set_option maxHeartbeats 4000000 in
set_option maxRecDepth 100000 in
theorem wthen_any (m : MP) (g o : Nat) (tk : B64) (m' : MP) (g' o' : Nat) (tk' : B64) (w : World) (h : TabAt w g o m) (h' : TabAt w g' o' m') (hg : g < w.heap.size) (hg' : g' < w.heap.size) :
    Calls Tryz.prog 183 #[WV g o tk, WV g' o' tk'] w fun e w' => ThenOut w w' m tk m' tk' e := by
  have hzt := zeroV_table
  have hst : Hid (ThenI w ((((w.alloc (.cells #[.pointer (some ⟨g, o, none⟩), UV tk] 167)).alloc (.cells #[.pointer (some ⟨g', o', none⟩), UV tk'] 167)).alloc (.cells #[.pointer none, .int .u64 0] 167)).alloc (.cells (tabCells (fun _ => 0#64)) 98)) m g o tk m' g' o' tk' 0) :=
    ⟨((((Kept.refl [] w).alloc _).alloc _).alloc _).alloc _, ((((Blk.new w _ _).alloc _).alloc _).alloc _), (((Blk.new1 w _ _ _).alloc _).alloc _), ((Blk.new2 w _ _ _ _).alloc _), Blk.new3 w _ _ _ _ _⟩
  have hT : Hid (TabAt w g o m) := h
  have hT' : Hid (TabAt w g' o' m') := h'
  clear h h'
  obtain ⟨T0, hT0⟩ : ∃ T0, tabCells (fun _ => 0#64) = T0 := ⟨_, rfl⟩
  rw [hT0] at hzt hst
  clear hT0
  go_enter Tryz.func183, Tryz.ntmps183
  go_wp2_with fail
  go_loopw [6] (fun iv wr => ∃ q : Nat, iv = .int .i64 (q : Int) ∧ q ≤ 63 ∧ ThenI w wr m g o tk m' g' o' tk' q) (fun iv _ => (63 - intOf iv).toNat)
  case atStart => exact ⟨0, rfl, by omega, hst.out⟩
  case round =>
    obtain ⟨q, rfl, hq, hI⟩ := hrel
    clear hst hzt
    have hs := hI.k.size
    have d0 : wr.cell? ⟨w.heap.size, 0, none⟩ = some (.pointer (some ⟨g, o, none⟩)) := hI.b0.cell 0
    have d1 : wr.cell? ⟨w.heap.size, 1, none⟩ = some (UV tk) := hI.b0.cell 1
    have d2 : wr.cell? ⟨w.heap.size + 1, 0, none⟩ = some (.pointer (some ⟨g', o', none⟩)) := hI.b1.cell 0
    have d3 : wr.cell? ⟨w.heap.size + 1, 1, none⟩ = some (UV tk') := hI.b1.cell 1
    have hlt3 : w.heap.size + 1 + 1 + 1 < wr.heap.size := hI.b3.lt
    have hIH : Hid (ThenI _ _ _ _ _ _ _ _ _ _ _) := hI
    clear hI
    by_cases hlt : (q : Int) < 63
    · have hqn : q < 63 := by omega
      have c1 : wr.cell? ⟨g, o + q, none⟩ = some (UV (m.next q)) := (hT.out.kept hIH.out.k hg) q hqn
      have hand := and_u (m.next q) tk
      have hcall : Hid (∀ w', Kept [] wr w' → Calls Tryz.prog 124 #[WV g' o' tk', .int .u64 ((m.next q &&& tk).toNat : Int)] w' fun e w2 => e = .returned (.int .u64 ((thenN m tk m' tk' q).toNat : Int)) ∧ Kept [] w' w2) := fun w' k => from_any m' g' o' tk' (m.next q &&& tk) w' (hT'.out.kept (hIH.out.k.trans k) hg')
      have hnx : Hid (∀ w5, Kept [] wr w5 → ThenI w (w5.setCell ⟨w.heap.size + 1 + 1 + 1, q, none⟩ (.int .u64 ((thenN m tk m' tk' q).toNat : Int))) m g o tk m' g' o' tk' (q + 1)) := fun w5 k => by
        have hb := (hIH.out.b3.kept k (by simp)).set q (UV (thenN m tk m' tk' q))
        rw [tabCells_set, thenQ_succ] at hb
        exact ⟨(hIH.out.k.trans k).setCell (Or.inr (by simp; omega)) _, (hIH.out.b0.kept k (by simp)).other _ _ (by omega), (hIH.out.b1.kept k (by simp)).other _ _ (by omega), (hIH.out.b2.kept k (by simp)).other _ _ (by omega), hb⟩
      have hfr : Hid (∀ w5, Kept [] wr w5 → w5.frozen? ⟨w.heap.size + 1 + 1 + 1, q, none⟩ = false) := fun w5 k => (hIH.out.b3.kept k (by simp)).frozen q
      have hce : Hid (∀ w5, Kept [] wr w5 → ∃ u, w5.cell? ⟨w.heap.size + 1 + 1 + 1, q, none⟩ = some u) := fun w5 k => ⟨_, by rw [(hIH.out.b3.kept k (by simp)).cell, tabCells_get _ hqn]⟩
      generalize thenN m tk m' tk' q = V at *
      generalize m.next q &&& tk = Y at *
      clear hT hT'
      go_wp2_with fail
      go_region_law (go_simp; go_at_call 124; refine (hcall.out _ (by first | exact (Kept.refl [] _).drew | exact Kept.refl _ _)).mono ?_; rintro _ w5 ⟨rfl, k5⟩; have K5 : Hid (Kept [] wr w5) := Kept.trans (by first | exact (Kept.refl [] _).drew | exact Kept.refl _ _) k5; have q5 := hfr.out _ K5.out; obtain ⟨u5, r5⟩ := hce.out _ K5.out)
      all_goals
        go_wp2
        refine ⟨⟨q + 1, by go_num, by omega, hnx.out _ K5.out⟩, ?_⟩
        simp only [intOf]; omega
    · have hqe : q = 63 := by omega
      subst hqe
      have hfin : Hid (∀ u0 u1, ThenOut w ((wr.setCell ⟨w.heap.size + 1 + 1, 0, none⟩ u0).setCell ⟨w.heap.size + 1 + 1, 1, none⟩ u1) m tk m' tk' (.returned (WV (w.heap.size + 1 + 1 + 1) 0 tk'))) := fun u0 u1 => by
        have hb := tabAt_blk ((hIH.out.b3.other (b' := w.heap.size + 1 + 1) 0 u0 (by omega)).other (b' := w.heap.size + 1 + 1) 1 u1 (by omega))
        refine ⟨(hIH.out.k.setCell (Or.inr (by simp; omega)) _).setCell (Or.inr (by simp; omega)) _, _, rfl, by omega, fun i hi => ?_⟩
        rw [hb i hi]
        show some (UV (thenQ m tk m' tk' 63 i)) = _
        unfold thenQ; rw [if_pos hi]; rfl
      have f0 := hIH.out.b2.frozen 0
      have f1 := hIH.out.b2.frozen 1
      have g0 : wr.cell? ⟨w.heap.size + 1 + 1, 0, none⟩ = some (.pointer none) := hIH.out.b2.cell 0
      have g1 : wr.cell? ⟨w.heap.size + 1 + 1, 1, none⟩ = some (.int .u64 0) := hIH.out.b2.cell 1
      have hres : Hid (∀ u0 u1, ((wr.setCell ⟨w.heap.size + 1 + 1, 0, none⟩ u0).setCell ⟨w.heap.size + 1 + 1, 1, none⟩ u1).cell? ⟨w.heap.size + 1 + 1, 0, none⟩ = some u0 ∧ ((wr.setCell ⟨w.heap.size + 1 + 1, 0, none⟩ u0).setCell ⟨w.heap.size + 1 + 1, 1, none⟩ u1).cell? ⟨w.heap.size + 1 + 1, 1, none⟩ = some u1) := fun u0 u1 => by
        have h2 := (hIH.out.b2.set 0 u0).set 1 u1
        exact ⟨by rw [h2.cell]; rfl, by rw [h2.cell]; rfl⟩
      clear hT hT'
      go_wp2
      obtain ⟨x0, x1⟩ := hres.out (.pointer (some ⟨w.heap.size + 1 + 1 + 1, 0, none⟩)) (UV tk')
      refine bodyPost_ret (v := WV (w.heap.size + 1 + 1 + 1) 0 tk') (by simp [results, Tryz.results183, go_sem, x0, x1]) rfl (hfin.out _ _)

end Go.Proofs.YtgifhgnccmnbiabGreatDoor

set_option linter.unusedVariables false
set_option linter.unusedSimpArgs false
namespace Go.Proofs.YtgifhgnccmnbiabGreatDoor
open Go.RowKit Go.IntWalk

def pcCells (p : PCE) (a : Option Addr) : Array Value := #[.int .i64 (p.len : Int), .int .i64 (p.nl : Int), .pointer a, UV p.tk, .int .i64 (p.inside : Int), UV p.en, UV p.la, .int .i64 (p.tail : Int)]
/-- The table of a piece without a newline. -/
def PTab (w : World) (p : PCE) (a : Option Addr) : Prop := p.nl = 0 → ∃ G O, a = some ⟨G, O, none⟩ ∧ TabAt w G O (tabM p.nx) ∧ G < w.heap.size
structure PBd (p : PCE) : Prop where
  len : p.len ≤ 1099511627776
  nl : p.nl ≤ 1099511627776
  inside : p.inside ≤ 1099511627776
  tail : p.tail ≤ 1099511627776
/-- A piece at a place of a block. -/
structure PAt (w : World) (g o : Nat) (p : PCE) (a : Option Addr) : Prop where
  cell : ∀ j, j < 8 → w.cell? ⟨g, o + j, none⟩ = (pcCells p a)[j]?
  tab : PTab w p a
  bd : PBd p
  lt : g < w.heap.size
theorem PTab.kept {w w' : World} {p : PCE} {a : Option Addr} (h : PTab w p a) (k : Kept [] w w') : PTab w' p a := fun hn => by
  obtain ⟨G, O, e, h1, h2⟩ := h hn
  exact ⟨G, O, e, h1.kept k h2, Nat.lt_of_lt_of_le h2 k.size⟩
section
variable {w w' : World} {g o : Nat} {p : PCE} {a : Option Addr} (h : PAt w g o p a)
include h
theorem PAt.kept (k : Kept [] w w') : PAt w' g o p a := ⟨fun j hj => by rw [k.cell h.lt]; exact h.cell j hj, h.tab.kept k, h.bd, Nat.lt_of_lt_of_le h.lt k.size⟩
theorem PAt.c0 : w.cell? ⟨g, o, none⟩ = some (.int .i64 (p.len : Int)) := h.cell 0 (by omega)
theorem PAt.c1 : w.cell? ⟨g, o + 1, none⟩ = some (.int .i64 (p.nl : Int)) := h.cell 1 (by omega)
theorem PAt.c2 : w.cell? ⟨g, o + 2, none⟩ = some (.pointer a) := h.cell 2 (by omega)
theorem PAt.c3 : w.cell? ⟨g, o + 3, none⟩ = some (UV p.tk) := h.cell 3 (by omega)
theorem PAt.c4 : w.cell? ⟨g, o + 4, none⟩ = some (.int .i64 (p.inside : Int)) := h.cell 4 (by omega)
theorem PAt.c5 : w.cell? ⟨g, o + 5, none⟩ = some (UV p.en) := h.cell 5 (by omega)
theorem PAt.c6 : w.cell? ⟨g, o + 6, none⟩ = some (UV p.la) := h.cell 6 (by omega)
theorem PAt.c7 : w.cell? ⟨g, o + 7, none⟩ = some (.int .i64 (p.tail : Int)) := h.cell 7 (by omega)
end
theorem endsP_le (inv : Bool) (p : PCE) (S : B64) : endsP inv p S ≤ p.inside + 1 := by
  unfold endsP
  split
  · omega
  · split <;> omega
/-- What a search has. -/
def seCells (bt : Nat) (beg : B64) (inv : Bool) (mx : Int) (pv : Value) : Array Value := #[.pointer (some ⟨bt, 0, none⟩), UV beg, .bool inv, .int .i64 mx, pv]

set_option maxHeartbeats 1000000 in
set_option maxRecDepth 100000 in
theorem countEnds_any {w : World} {gs : Nat} {inv : Bool} {g o : Nat} {p : PCE} {a : Option Addr} (S : B64) (hs : w.cell? ⟨gs, 2, none⟩ = some (.bool inv)) (hp : PAt w g o p a) :
    Calls Tryz.prog 78 #[.pointer (some ⟨gs, 0, none⟩), .pointer (some ⟨g, o, none⟩), .int .u64 (S.toNat : Int)] w fun e w' => e = .returned (.int .i64 (endsP inv p S : Int)) ∧ w' = w := by
  have d1 := hp.c1
  have d4 := hp.c4
  have d5 := hp.c5
  have hb := hp.bd.inside
  have hg := hp.lt
  clear hp
  by_cases hn : p.nl = 0
  · have e : Hid (endsP inv p S = 0) := if_pos hn
    rw [hn] at d1
    clear hn
    go_enter Tryz.func78, Tryz.ntmps78
    go_wp2
    go_ret
    exact ⟨by rw [e.out]; rfl, rfl⟩
  · have hni : ((p.nl : Nat) : Int) ≠ 0 := by omega
    have hand := and_u S p.en
    have h1 : Hid ((!decide (S &&& p.en = 0#64) != inv) = true → endsP inv p S = p.inside + 1) := fun h => by unfold endsP; rw [if_neg hn, if_pos h]
    have h2 : Hid (¬ (!decide (S &&& p.en = 0#64) != inv) = true → endsP inv p S = p.inside) := fun h => by unfold endsP; rw [if_neg hn, if_neg h]
    clear hn
    generalize p.nl = NL at *
    generalize S &&& p.en = X at *
    by_cases hx : X = 0#64
    · have hx0 : (X.toNat : Int) = 0 := (u_zero _).2 hx
      rw [decide_eq_true hx] at h1 h2
      clear hx
      cases inv with
      | false =>
        have e : Hid (endsP false p S = p.inside) := h2.out (by decide)
        clear h1 h2
        go_enter Tryz.func78, Tryz.ntmps78
        go_wp2
        go_ret
        exact ⟨by rw [e.out]; rfl, rfl⟩
      | true =>
        have e : Hid (endsP true p S = p.inside + 1) := h1.out (by decide)
        clear h1 h2
        go_enter Tryz.func78, Tryz.ntmps78
        go_wp2
        go_ret
        exact ⟨by rw [e.out]; rfl, rfl⟩
    · have hx0 : (X.toNat : Int) ≠ 0 := fun hc => hx ((u_zero _).1 hc)
      rw [decide_eq_false hx] at h1 h2
      have hb1 : ((X.toNat : Int) != 0) = true := bne_iff_ne.2 hx0
      have hb2 : (!((X.toNat : Int) != 0)) = false := by rw [hb1]; rfl
      clear hx
      cases inv with
      | false =>
        have e : Hid (endsP false p S = p.inside + 1) := h1.out (by decide)
        clear h1 h2
        go_enter Tryz.func78, Tryz.ntmps78
        go_wp2
        go_ret
        exact ⟨by rw [e.out]; rfl, rfl⟩
      | true =>
        have e : Hid (endsP true p S = p.inside) := h2.out (by decide)
        clear h1 h2
        go_enter Tryz.func78, Tryz.ntmps78
        go_wp2
        go_ret
        exact ⟨by rw [e.out]; rfl, rfl⟩

theorem res8 {w : World} {g : Nat} {c0 c1 c2 c3 c4 c5 c6 c7 : Value} {t : TypeId} (h : Blk w g #[c0, c1, c2, c3, c4, c5, c6, c7] t) (v0 v1 v2 v3 v4 v5 v6 v7 : Value) :
    Blk ((((((((w.setCell ⟨g, 0, none⟩ v0).setCell ⟨g, 1, none⟩ v1).setCell ⟨g, 2, none⟩ v2).setCell ⟨g, 3, none⟩ v3).setCell ⟨g, 4, none⟩ v4).setCell ⟨g, 5, none⟩ v5).setCell ⟨g, 6, none⟩ v6).setCell ⟨g, 7, none⟩ v7) g #[v0, v1, v2, v3, v4, v5, v6, v7] t := by
  have h0 : Blk _ g #[v0, c1, c2, c3, c4, c5, c6, c7] t := h.set 0 v0
  have h1 : Blk _ g #[v0, v1, c2, c3, c4, c5, c6, c7] t := h0.set 1 v1
  have h2 : Blk _ g #[v0, v1, v2, c3, c4, c5, c6, c7] t := h1.set 2 v2
  have h3 : Blk _ g #[v0, v1, v2, v3, c4, c5, c6, c7] t := h2.set 3 v3
  have h4 : Blk _ g #[v0, v1, v2, v3, v4, c5, c6, c7] t := h3.set 4 v4
  have h5 : Blk _ g #[v0, v1, v2, v3, v4, v5, c6, c7] t := h4.set 5 v5
  have h6 : Blk _ g #[v0, v1, v2, v3, v4, v5, v6, c7] t := h5.set 6 v6
  have h7 : Blk _ g #[v0, v1, v2, v3, v4, v5, v6, v7] t := h6.set 7 v7
  exact h7
theorem keptP8 {w x : World} {g : Nat} (h : Kept [] w x) (hg : w.heap.size ≤ g) (v0 v1 v2 v3 v4 v5 v6 v7 : Value) :
    Kept [] w ((((((((x.setCell ⟨g, 0, none⟩ v0).setCell ⟨g, 1, none⟩ v1).setCell ⟨g, 2, none⟩ v2).setCell ⟨g, 3, none⟩ v3).setCell ⟨g, 4, none⟩ v4).setCell ⟨g, 5, none⟩ v5).setCell ⟨g, 6, none⟩ v6).setCell ⟨g, 7, none⟩ v7) :=
  (((((((h.setCell (Or.inr (by simpa using hg)) _).setCell (Or.inr (by simpa using hg)) _).setCell (Or.inr (by simpa using hg)) _).setCell (Or.inr (by simpa using hg)) _).setCell (Or.inr (by simpa using hg)) _).setCell (Or.inr (by simpa using hg)) _).setCell (Or.inr (by simpa using hg)) _).setCell (Or.inr (by simpa using hg)) _

/-- A piece handed back by value; its table lies in one of some blocks, or is new. -/
structure POut (w w' : World) (L : List Nat) (p : PCE) (e : Ending) : Prop where
  k : Kept [] w w'
  ex : ∃ a, e = .returned (.agg (pcCells p a)) ∧ PTab w' p a ∧ ∀ A, a = some A → A.block ∈ L ∨ w.heap.size ≤ A.block

set_option maxHeartbeats 2000000 in
set_option maxRecDepth 100000 in
theorem byte_any {w : World} {gm : Nat} {M : MP} (hM : MIn w gm M) (c : Nat) (hc : c < 256) :
    Calls Tryz.prog 98 #[.int .i64 (c : Int), .pointer (some ⟨gm, 0, none⟩)] w fun e w' => POut w w' [gm] (bytePC M c) e := by
  have hg : gm < w.heap.size := Blk.lt hM
  by_cases h10 : (c : Int) = 10
  · have e : bytePC M c = { len := 1, nl := 1, en := M.en, la := M.beg } := by unfold bytePC; rw [if_pos (by omega)]
    rw [e]
    have d0 := hM.beg
    have d1 := hM.en
    have hfin : Hid (∀ w', Kept [] w w' → POut w w' [gm] { len := 1, nl := 1, en := M.en, la := M.beg } (.returned (.agg #[.int .i64 1, .int .i64 1, .pointer none, .int .u64 0, .int .i64 0, UV M.en, UV M.beg, .int .i64 0]))) := fun w' k => ⟨k, none, rfl, (fun h => by cases h), fun A h => by cases h⟩
    clear hM e
    generalize M.en = EN at *
    generalize M.beg = BG at *
    go_enter Tryz.func98, Tryz.ntmps98
    go_wp2_with fail
    go_region
    all_goals
      go_wp2
      refine bodyPost_ret (v := .agg #[.int .i64 1, .int .i64 1, .pointer none, .int .u64 0, .int .i64 0, UV EN, UV BG, .int .i64 0]) (by simp [results, Tryz.results98, go_sem]) rfl (hfin.out _ (((Kept.refl [] w).alloc _).drew))
  · have e : bytePC M c = { len := 1, nx := M.next, tk := M.takes c } := by unfold bytePC; rw [if_neg (by omega)]
    rw [e]
    have hw : Hid (∀ w', Kept [] w w' → Calls Tryz.prog 125 #[.pointer (some ⟨gm, 0, none⟩), .int .u8 (c : Int)] w' fun e w2 => e = .returned (WV gm 2 (M.takes c)) ∧ Kept [] w' w2) := fun w' k => way_any M gm c hc w' (Blk.kept hM k (by simp))
    have hT := hM.tab
    have hfin : Hid (∀ w', Kept [] w w' → POut w w' [gm] { len := 1, nx := M.next, tk := M.takes c } (.returned (.agg #[.int .i64 1, .int .i64 0, .pointer (some ⟨gm, 2, none⟩), UV (M.takes c), .int .i64 0, .int .u64 0, .int .u64 0, .int .i64 0]))) := fun w' k => ⟨k, _, rfl, fun _ => ⟨gm, 2, rfl, hT.kept k hg, Nat.lt_of_lt_of_le hg k.size⟩, fun A h => by simp only [Option.some.injEq] at h; subst h; exact Or.inl (by simp)⟩
    have hw8 : IntKind.wrap .u8 (c : Int) = (c : Int) := by rw [IntKind.wrap_u8]; omega
    have hb : Hid (Blk (w.alloc (.cells #[.int .i64 0, .int .i64 0, .pointer none, .int .u64 0, .int .i64 0, .int .u64 0, .int .u64 0, .int .i64 0] 169)) w.heap.size #[.int .i64 0, .int .i64 0, .pointer none, .int .u64 0, .int .i64 0, .int .u64 0, .int .u64 0, .int .i64 0] 169) := Blk.new w _ _
    have hk0 : Hid (∀ o, Kept [] w (w.alloc o)) := fun o => (Kept.refl [] w).alloc o
    clear hM e hT
    generalize M.takes c = TK at *
    go_enter Tryz.func98, Tryz.ntmps98
    go_wp2_with (go_at_call 125; refine (hw.out _ (hk0.out _)).mono ?_; rintro _ w2 ⟨rfl, k2⟩; have B2 := hb.out.kept k2 (by simp); have hl2 := B2.lt; have g0 := B2.cell 0; have g1 := B2.cell 1; have g2 := B2.cell 2; have g3 := B2.cell 3; have g4 := B2.cell 4; have g5 := B2.cell 5; have g6 := B2.cell 6; have g7 := B2.cell 7; have f0 := B2.frozen 0; have f1 := B2.frozen 1; have f2 := B2.frozen 2; have f3 := B2.frozen 3; have f4 := B2.frozen 4; have f5 := B2.frozen 5; have f6 := B2.frozen 6; have f7 := B2.frozen 7)
    have B8 := (res8 B2 (.int .i64 1) (.int .i64 0) (.pointer (some ⟨gm, 2, none⟩)) (UV TK) (.int .i64 0) (.int .u64 0) (.int .u64 0) (.int .i64 0)).alloc (.cells #[.pointer (some ⟨gm, 2, none⟩), UV TK] 167)
    have x0 := B8.cell 0
    have x1 := B8.cell 1
    have x2 := B8.cell 2
    have x3 := B8.cell 3
    have x4 := B8.cell 4
    have x5 := B8.cell 5
    have x6 := B8.cell 6
    have x7 := B8.cell 7
    refine bodyPost_ret (v := .agg #[.int .i64 1, .int .i64 0, .pointer (some ⟨gm, 2, none⟩), UV TK, .int .i64 0, .int .u64 0, .int .u64 0, .int .i64 0]) (by simp [results, Tryz.results98, go_sem, x0, x1, x2, x3, x4, x5, x6, x7]) rfl (hfin.out _ ?_)
    exact (keptP8 ((hk0.out _).trans k2) (Nat.le_refl _) _ _ _ _ _ _ _ _).alloc _

end Go.Proofs.YtgifhgnccmnbiabGreatDoor
