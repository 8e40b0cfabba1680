/- The document's answer: a choice. -/
import Derived.Test.YtgifhgnccmnbiaaRefProg
set_option linter.unusedVariables false
set_option linter.unusedSimpArgs false
namespace Go.Proofs.Ytgifhgnccmnbiaa
open Go.RowKit Go.IntWalk

theorem infoPtr : (Try.prog.info? 60).map (fun i => (i.zero, i.size, i.bytes)) = some (some (.pointer none), 1, 8) := by kernel_rfl

theorem stands2c (b : Nat) (t : ByteArray) (s : RS) (w : World) (h : RR w b t s) :
    Calls Try.prog 91 #[.pointer (some ⟨b, 0, none⟩), .string ⟨#[124, 41]⟩] w fun e w' => e = .returned (.bool (stB t s [124, 41])) ∧ RR w' b t s ∧ Kept [b] w w' := stands_any b t s _ w h (by decide)

theorem RMem.grow {w w' : World} {b : Nat} {t : ByteArray} {adrs : List Nat} {F : Nat → Prop} {r : Nat × RP} {pv : Value} (h : RMem w w' b t adrs F r pv) {n : Nat} (hn : adrs.length = n) : n ≤ r.2.2.length := by
  obtain ⟨⟨more, F', h1, _⟩, _⟩ := h
  rw [← h1.len, ← hn]
  simp

theorem moreR_true {t : ByteArray} {s : RS} (h : moreR t s = true) : s.1 < t.size := by
  simp only [moreR, Bool.and_eq_true, decide_eq_true_eq] at h
  exact h.1.2

set_option maxHeartbeats 8000000 in
set_option maxRecDepth 100000 in
theorem rchoice_step (t : ByteArray) (m : Nat) (H : RChC t m) : RChC t (m + 1) := by
  intro b s ps adrs F w hpm h
  obtain ⟨i0, hi0, hz0, hz1, hz2⟩ := info_parts infoPtr
  have hbw : b < w.heap.size := h.rr.blk.lt
  have hsm : Hid (t.size ≤ 40) := h.rr.small
  have hI0 := IP.start h w.heap.size rfl 5
  obtain ⟨X, hX⟩ : ∃ X, X = w.heap.size := ⟨_, rfl⟩
  rw [← hX] at hI0
  have hXH : Hid (_ = _) := hX
  clear hX
  go_enter Try.func63, Try.ntmps63
  go_wp2_with fail
  rw [← hXH.out]
  go_loopw [7] (fun _ wr => ∃ st' adrs' F' cur kv, IP w wr b t F F' st' adrs' cur X kv 5 ∧ (∃ more, adrs' = adrs ++ more) ∧ (∀ r', EvR t 0 cur st' r' → EvR t 0 [] (s, ps) r') ∧ s.1 ≤ st'.1.1 ∧ cur.length ≤ st'.1.1) (fun _ wr => restW wr b)
  case atStart => exact ⟨(s, ps), adrs, F, [], (none, 0, 0), hI0, ⟨[], by simp⟩, fun r' e => e, Nat.le_refl _, Nat.zero_le _⟩
  case round =>
    obtain ⟨st', adrs', F', cur, ⟨ko, kl, kc⟩, hI, ⟨more, hmore⟩, ev, hge, hcl⟩ := hrel
    have evH : Hid (∀ r', _) := ev
    have hmoreH : Hid (_ = _) := hmore
    clear ev hmore hI0
    obtain ⟨wo, rfl⟩ : ∃ wo : World, wo = wr := ⟨_, rfl⟩
    have hrw : Hid (_ = _) := restW_eq hI.rm.rr
    have hbo : b < wo.heap.size := hI.rm.rr.blk.lt
    have hB0 := IP.start hI.rm wo.heap.size rfl 4
    obtain ⟨B, hB⟩ : ∃ B, B = wo.heap.size := ⟨_, rfl⟩
    rw [← hB] at hB0
    have hBH : Hid (_ = _) := hB
    clear hB
    go_wp2_with fail
    rw [← hBH.out]
    refine (stands2c b t _ _ hB0.rm.rr).mono ?_
    rintro e2 w2 ⟨rfl, r2, k2⟩
    have hB2 := hB0.scan hbo r2 k2
    clear hB0 r2 k2
    go_wp2_with fail
    go_loopw [5] (fun en wr => ∃ st2 adrs2 F2 cur2 kv2, en = .bool (stB t st2.1 [124, 41]) ∧ IP wo wr b t F' F2 st2 adrs2 cur2 B kv2 4 ∧ (∃ more, adrs2 = adrs' ++ more) ∧ (∀ r', EvR t 1 cur2 st2 r' → EvR t 1 [] st' r') ∧ st'.1.1 ≤ st2.1.1 ∧ cur2.length ≤ st2.1.1) (fun _ wr => restW wr b)
    case atStart => exact ⟨st', adrs', F', [], (none, 0, 0), rfl, hB2, ⟨[], by simp⟩, fun r' e => e, Nat.le_refl _, Nat.zero_le _⟩
    case round =>
      obtain ⟨st2, adrs2, F2, cur2, ⟨jo, jl, jc⟩, rfl, hP, ⟨more2, hmore2⟩, ev2, hge2, hcl2⟩ := hrel
      have ev2H : Hid (∀ r', _) := ev2
      have hmore2H : Hid (_ = _) := hmore2
      clear ev2 hmore2 hB2
      have hrw2 : Hid (_ = _) := restW_eq hP.rm.rr
      have c0 := hP.rm.rr.c0
      have c1 := hP.rm.rr.c1
      go_upto_region 4 with fail
      go_cut [5, 30] (fun s5 s30 wx => s5 = .bool (stB t st2.1 [124, 41]) ∧ s30 = .bool (moreR t st2.1) ∧ wx = wr)
      case first =>
        cases he : stB t st2.1 [124, 41] with
        | true =>
          have e : Hid (moreR t st2.1 = false) := by show moreR t st2.1 = false; unfold moreR; rw [he]; rfl
          go_wp2
          go_meet
          exact ⟨by rw [he], by rw [e.out], rfl⟩
        | false =>
          by_cases hp : st2.1.1 < t.size
          · have hl : (0 : Int) < ((sfx t st2.1.1).size : Int) := by rw [sfx_size]; omega
            have hd : decide (st2.1.1 < t.size) = true := by simpa using hp
            have e : Hid (moreR t st2.1 = !st2.1.2) := by show moreR t st2.1 = !st2.1.2; unfold moreR; rw [he, hd]; rfl
            clear hd
            go_wp2
            go_meet
            exact ⟨by rw [he], by rw [e.out], rfl⟩
          · have hl : ¬ (0 : Int) < ((sfx t st2.1.1).size : Int) := by rw [sfx_size]; omega
            have hd : decide (st2.1.1 < t.size) = false := by simpa using hp
            have e : Hid (moreR t st2.1 = false) := by show moreR t st2.1 = false; unfold moreR; rw [he, hd]; rfl
            clear hd
            go_wp2
            go_meet
            exact ⟨by rw [he], by rw [e.out], rfl⟩
      case rest =>
        obtain ⟨rfl, rfl, rfl⟩ := hcut
        have hfit2 := hP.rm.rr.fits
        simp only [Fits] at hfit2
        have hBne : B ≠ b := hP.ne hbo
        -- what the branch comes to, if it ends here
        have hP' := hP
        rw [hmore2H.out] at hP'
        have mB := hP'.fin hbo (by decide)
        obtain ⟨more3, F3, hI3, hpv, hidx⟩ := hI.call hbw mB (mB.grow hI.rm.len)
        clear hP'
        have x3 := hI3.blk.cell 3
        have xf := hI3.blk.frozen 3
        have hpvH : Hid (_ = _) := hpv
        clear hpv mB
        go_wp2_with (at_builtin; refine wpList_append_placed rfl (.tmp 49) (.tmp 51) 158 rfl w.heap.size 60 i0 _ 1 8 Try.underlying158 hi0 hz0 hz1 hz2 rfl (by decide) (ivV (ko, kl, kc)) cur.length (cur.map (ptrTo (adrs' ++ more3))) rfl ?own ⟨wc.heap.size, 0, none⟩ 1 1 [.pointer (some ⟨B, 0, none⟩)] rfl rfl ?n1 ?n2 ?b1 ?b2 ?b3 ?kk)
        · have hmo : moreR t st2.1 = true := by assumption
          have hlt := moreR_true hmo
          have hpc : Hid (Calls _ _ _ _ _) := rpiece_any m b t st2.1 st2.2 adrs2 F2 _ H hP.rm hlt (by omega)
          refine hpc.out.mono ?_
          clear hpc
          rintro e4 w4 ⟨r4, pv4, rfl, ev4, m4, hlt4⟩
          obtain ⟨more4, F4, hP4, hpv4, hidx4⟩ := hP.call hbo m4 (m4.grow hP.rm.len)
          obtain ⟨x4, hx4⟩ := m4.ptr
          subst hx4
          have z3 := hP4.blk.cell 3
          have zf := hP4.blk.frozen 3
          have hpv4H : Hid (_ = _) := hpv4
          clear hpv4 hpvH hI3 x3 xf m4 c0 c1
          go_wp2_with (at_builtin; refine wpList_append_placed rfl (.tmp 37) (.tmp 39) 158 rfl wo.heap.size 60 i0 _ 1 8 Try.underlying158 hi0 hz0 hz1 hz2 rfl (by decide) (ivV (jo, jl, jc)) cur2.length (cur2.map (ptrTo (adrs2 ++ more4))) rfl ?pown ⟨w4.heap.size, 0, none⟩ 1 1 [.pointer (some ⟨x4, 0, none⟩)] rfl rfl ?pn1 ?pn2 ?pb1 ?pb2 ?pb3 ?pkk)
          case pown => exact hP4.row.alloc _
          case pn1 => exact cells_new _ _ _ _ rfl
          case pn2 => simp [Value.oneCell']
          case pb1 => unfold maxLen; have := hsm.out; omega
          case pb2 => have := hsm.out; omega
          case pb3 => have := hP4.kept.size; simp; omega
          case pkk =>
            intro v' w5 hown hgrow hpl
            rw [hpv4H.out] at hown
            obtain ⟨⟨qo, ql, qc⟩, rfl, ⟨y, hy⟩, hbX, hP5⟩ := hP4.app hbo _ _ hidx4 v' hown hgrow (hpl.imp id (fun hx g hg => by have := hx g hg; simpa using this))
            simp only [] at hy
            subst hy
            have y3 := hbX.cell 3
            have yf := hbX.frozen 3
            have hrr5 : RR (w5.setCell ⟨B, 3, none⟩ (.slice (some y) ql qc)) b t r4.2.1 := hP5.rm.rr
            have ev5 : Hid (∀ r', EvR t 1 (cur2 ++ [r4.1]) r4.2 r' → EvR t 1 [] st' r') := fun r' e => ev2H.out r' (EvR.branchOn hmo ev4 e)
            go_wp2_with fail
            refine (stands2c b t _ _ hrr5).mono ?_
            rintro e6 w6 ⟨rfl, r6, k6⟩
            have hP6 := hP5.scan hbo r6 k6
            have hrw6 : Hid (_ = _) := restW_eq r6
            have hfit6 := r6.fits
            simp only [Fits] at hfit6
            go_wp2
            refine ⟨⟨_, _, _, _, _, rfl, hP6, ⟨more2 ++ more4, by rw [hmore2H.out, List.append_assoc]⟩, ev5.out, ?_, ?_⟩, ?_⟩
            · show st'.1.1 ≤ r4.2.1.1; omega
            · show (cur2 ++ [_]).length ≤ r4.2.1.1
              simp; omega
            · rw [hrw6.out, hrw2.out]; omega
        case own => exact hI3.row.alloc _
        case n2 => simp [Value.oneCell']
        case b1 => unfold maxLen; have := hsm.out; omega
        case b2 => have := hsm.out; omega
        case b3 => have := hI3.kept.size; simp; omega
        case kk =>
          have hmo : moreR t st2.1 = false := by assumption
          intro v' w5 hown hgrow hpl
          rw [hpvH.out] at hown
          obtain ⟨⟨qo, ql, qc⟩, rfl, ⟨y, hy⟩, hbX, hI5⟩ := hI3.app hbw _ _ hidx v' hown hgrow (hpl.imp id (fun hx g hg => by have := hx g hg; simpa using this))
          simp only [] at hy
          subst hy
          have y3 := hbX.cell 3
          have yf := hbX.frozen 3
          have evB : EvR t 1 [] st' (pushP { kind := 4, kids := cur2 } st2) := ev2H.out _ (EvR.branchEnd hmo)
          have hpB : (pushP { kind := 4, kids := cur2 } st2).2.1 = st2.1 := rfl
          have hrrB : RR (w5.setCell ⟨X, 3, none⟩ (.slice (some y) ql qc)) b t st2.1 := hI5.rm.rr
          clear hpB
          go_wp2_with fail
          refine (rnext_any b 124 t _ _ hrrB (by omega) (by omega)).mono ?_
          rintro e6 w6 ⟨rfl, r6, k6⟩
          have hI6 := hI5.scan hbw r6 k6
          have d1 := r6.c1
          have hfit6 := r6.fits
          simp only [Fits] at hfit6
          have hend : ((takeS t 124 st2.1).1 = false ∨ (takeS t 124 st2.1).2.2 = true) → Hid (∃ (r : Nat × RP) (pv : Value), Value.pointer (some ⟨X, 0, none⟩) = pv ∧ EvR t 0 [] (s, ps) r ∧ RMem w w6 b t adrs F r pv ∧ s.1 ≤ r.2.1.1) := by
            intro hor
            have ev0 := evH.out _ (EvR.choiceEnd (cur := cur) evB hor)
            have hI7 := hI6
            rw [hmoreH.out, List.append_assoc] at hI7
            exact ⟨_, _, rfl, ev0, hI7.fin hbw (by decide), by
              show s.1 ≤ (takeS t 124 st2.1).2.1
              exact Nat.le_trans (Nat.le_trans hge hge2) take_ge⟩
          cases hm : (takeS t 124 st2.1).1 with
          | false =>
            have hx := hend (Or.inl hm)
            clear hend
            go_wp2
            go_ret
            obtain ⟨r, pv, h1, h2⟩ := hx.out
            exact ⟨r, pv, congrArg Ending.returned h1, h2⟩
          | true =>
            cases hb6 : (takeS t 124 st2.1).2.2 with
            | true =>
              have hx := hend (Or.inr hb6)
              rw [hb6] at d1
              clear hend
              go_wp2
              go_ret
              obtain ⟨r, pv, h1, h2⟩ := hx.out
              exact ⟨r, pv, congrArg Ending.returned h1, h2⟩
            | false =>
              have hgt := take_gt hm
              have ev7 : Hid (∀ r', EvR t 0 (cur ++ [(pushP { kind := 4, kids := cur2 } st2).1]) ((takeS t 124 st2.1).2, (pushP { kind := 4, kids := cur2 } st2).2.2) r' → EvR t 0 [] (s, ps) r') :=
                fun r' e => evH.out r' (EvR.choiceOn evB (by
                  show ¬ ((takeS t 124 st2.1).1 = false ∨ (takeS t 124 st2.1).2.2 = true)
                  rw [hm, hb6]; simp) e)
              have hrw6 : Hid (_ = _) := restW_eq r6
              rw [hb6] at d1
              clear hend
              go_wp2
              refine ⟨⟨_, _, _, _, _, hI6, ⟨more ++ more3, by rw [hmoreH.out, List.append_assoc]⟩, ev7.out, ?_, ?_⟩, ?_⟩
              · show s.1 ≤ (takeS t 124 st2.1).2.1; omega
              · show (cur ++ [_]).length ≤ (takeS t 124 st2.1).2.1
                simp; omega
              · rw [hrw6.out, hrw.out]; omega

theorem rchoice_any (t : ByteArray) : ∀ m, RChC t m
  | 0 => fun _ _ _ _ _ _ h => by omega
  | m + 1 => rchoice_step t m (rchoice_any t m)

end Go.Proofs.Ytgifhgnccmnbiaa
