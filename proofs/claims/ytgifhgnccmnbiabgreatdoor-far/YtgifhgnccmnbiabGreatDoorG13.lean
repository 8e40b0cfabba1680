/- Package packed: files of codes, read. -/
import Derived.Test.YtgifhgnccmnbiabGreatDoorG12
import Derived.Deep.DeepCutAuto
import Derived.Test.YtgifhgnccmnbiabGreatDoorG07
set_option linter.unusedVariables false
set_option linter.unusedSimpArgs false
namespace Go.Proofs.YtgifhgnccmnbiabGreatDoor
open Go.RowKit Go.IntWalk

structure CodesOut (f : ByteArray) (w w' : World) (e : Ending) : Prop where
  below : Below w.heap.size w w'
  out : (zMost f = false ∧ e = .returned (.tuple #[.agg ztext, .bool false])) ∨
    (zMost f = true ∧ ∃ n, ZRun f n ∧ ((zOk (zit (z0 f) n) = true ∧ ∃ rv sv, TVal w' w.heap.size (zit (z0 f) n).2 rv sv ∧ e = .returned (.tuple #[.agg ((zit (z0 f) n).2.cells rv sv), .bool true])) ∨ (zOk (zit (z0 f) n) = false ∧ e = .returned (.tuple #[.agg ztext, .bool false]))))

/-- What the loop keeps. -/
structure ZM (w0 w : World) (s : CD × TT) (rv sv : Value) : Prop where
  cm : CM w (w0.heap.size + 1) s.1 (w0.heap.size + 2) s.2 rv sv
  res : Blk w w0.heap.size ztext 86
  below : Below w0.heap.size w0 w
theorem ZM.text {w0 w w' : World} {s s' : CD × TT} {rv sv rv' sv' : Value} (h : ZM w0 w s rv sv) (m : CM w' (w0.heap.size + 1) s'.1 (w0.heap.size + 2) s'.2 rv' sv') (k : Fra (w0.heap.size + 2) (w0.heap.size + 1) w w') : ZM w0 w' s' rv' sv' :=
  ⟨m, k.blk h.res (by omega) (by omega), h.below.trans (k.below (by omega) (by omega))⟩
theorem ZM.kept {w0 w w' : World} {s : CD × TT} {rv sv : Value} (h : ZM w0 w s rv sv) (k : Kept [] w w') : ZM w0 w' s rv sv := h.text (h.cm.keptW k) (Fra.of_kept k h.cm.up)
theorem ZM.fin {w0 w : World} {s : CD × TT} {rv sv : Value} (h : ZM w0 w s rv sv) : ∀ w3, Kept [w0.heap.size] w w3 → Below w0.heap.size w0 w3 ∧ TVal w3 w0.heap.size s.2 rv sv := fun w3 k =>
  ⟨h.below.trans (k.below (by have := h.res.lt; omega) (by simp)), ((TM.val h.cm).kept k (fun g hg => by simp at hg; omega)).mono (by omega)⟩

def pAt (w : World) (b : Nat) : Nat := match w.cell? ⟨b, 4, none⟩ with
  | some (.int _ p) => (40000 - p).toNat
  | _ => 0
theorem pAt_of {w : World} {b : Nat} {p : Nat} (h : w.cell? ⟨b, 4, none⟩ = some (.int .i64 (p : Int))) : pAt w b = (40000 - (p : Int)).toNat := by unfold pAt; rw [h]
theorem most_zit {f : ByteArray} {n : Nat} (h : ∀ i, i < n → zgo (zit (z0 f) i) = true) : (zit (z0 f) n).1.most = bt f 2 := (zit_inv h).most

set_option maxHeartbeats 4000000 in
set_option maxRecDepth 100000 in
/-- One code, whichever. -/
theorem take_all {w : World} {b Bd n : Nat} {B : ByteArray} {m : Nat} {s : CD × TT} {rv sv : Value} (hi : ZI B m n s) (hm9 : 9 ≤ m) (hm12 : m ≤ 12) (hB : B.size ≤ 4000) (hp : s.1.p + zwide s ≤ 8 * s.1.B.size)
    (h : CM w b { s.1 with p := (numB s.1.B s.1.p (zwide s)).2 } Bd s.2 rv sv) :
    Calls Tryz.prog 134 #[.pointer (some ⟨b, 0, none⟩), .int .i64 ((numB s.1.B s.1.p (zwide s)).1 : Int)] w fun e w' => e = .returned (.tuple #[]) ∧ TakeOut w w' b Bd (zstep s) := by
  have h1 := hi.bytes; have h2 := hi.most; have h3 := hi.p; have h4 := hi.syms; have h5 := hi.rules; have h6 := hi.start; have h7 := hi.gone; have h8 := hi.ahead; have h9 := hi.pb
  have hw := widP_bd (freeN s.2 s.1) s.1.most
  have hlt : (numB s.1.B s.1.p (zwide s)).1 < 2 ^ 12 := Nat.lt_of_lt_of_le (numB_bd _ _ _).1 (Nat.pow_le_pow_right (by omega) hw.2)
  have h12 : (2 : Nat) ^ 12 = 4096 := by decide
  have hn : n ≤ 3600 := by omega
  unfold zstep
  by_cases hc : (numB s.1.B s.1.p (zwide s)).1 = 256
  · have := take_clear h (by omega)
    rw [hc]
    unfold takeC
    rw [if_pos rfl]
    exact this
  · exact ctake_any h _ (by omega) (by omega) hc (by show 9 ≤ s.1.most; omega) (by show s.1.most ≤ 12; omega) h7 (by omega) (by omega) (fun a ha => by have := h8 a ha; omega) (fun a F => hi.fb a _ F)

set_option maxHeartbeats 4000000 in
set_option maxRecDepth 100000 in
theorem readCodes_any (f : ByteArray) (hf : f.size ≤ 4000) (w : World) :
    Calls Tryz.prog 85 #[.string f] w fun e w' => CodesOut f w w' e := by
  have hz0 : Blk (w.alloc (.cells ztext 86)) w.heap.size ztext 86 := Blk.new w _ _
  have hBl0 : Hid (Below w.heap.size w (w.alloc (.cells ztext 86))) := (Below.refl w.heap.size w).alloc (Nat.le_refl _) _
  by_cases h3 : (f.size : Int) < 3
  · have hm : Hid (zMost f = false) := by show zMost f = false; unfold zMost; rw [decide_eq_false (show ¬ 3 ≤ f.size by omega)]; rfl
    clear hz0
    go_enter Tryz.func85, Tryz.ntmps85
    go_wp2
    exact bodyPost_ret (v := .tuple #[.agg ztext, .bool false]) (results_text Tryz.results85 _ _ w.heap.size ztext rfl _ rfl rfl (Blk.new w _ _)) rfl ⟨hBl0.out, Or.inl ⟨hm.out, rfl⟩⟩
  · have h3' : 3 ≤ f.size := by omega
    have h3i : (3 : Int) ≤ (f.size : Int) := by omega
    have h2i : (2 : Int) < (f.size : Int) := by omega
    obtain ⟨B, hB⟩ : ∃ B, B = f.extract 3 f.size := ⟨_, rfl⟩
    obtain ⟨mo, hmo⟩ : ∃ mo, mo = bt f 2 := ⟨_, rfl⟩
    have hmo2 : f[2].toNat = mo := by rw [hmo, bt_lt (by omega)]
    have hBe := hB.symm
    have hm255 : mo < 256 := by rw [← hmo2]; exact f[2].toNat_lt
    have e3 : IntKind.i64.wrap (mo : Int) = (mo : Int) := by rw [IntKind.wrap_i64]; omega
    have hBH : Hid (B = _) := hB
    have hmoH : Hid (mo = _) := hmo
    clear hB hmo
    go_enter Tryz.func85, Tryz.ntmps85
    go_upto_region 3 with fail
    go_cut [4] (fun s4 wx => s4 = .pointer (some ⟨w.heap.size + 1, 0, none⟩) ∧ wx = ((w.alloc (.cells ztext 86)).alloc (.cells #[.string B, .int .i64 0, .int .i64 (mo : Int), .int .i64 0, .int .i64 0, .slice none 0 0, .slice none 0 0, .int .i64 0, .int .i64 0, .int .i64 0, .int .i64 0, .int .i64 0, .int .i64 (-1), .bool false] 212)).drew)
    case first =>
      go_region_law (fail)
      all_goals
        go_wp2_with fail
        go_meet
        exact ⟨rfl, rfl⟩
    case rest =>
      obtain ⟨rfl, rfl⟩ := hcut
      have hI0 : ZM w ((w.alloc (.cells ztext 86)).alloc (.cells #[.string B, .int .i64 0, .int .i64 (mo : Int), .int .i64 90, .int .i64 0, .slice none 0 0, .slice none 0 0, .int .i64 0, .int .i64 0, .int .i64 0, .int .i64 0, .int .i64 0, .int .i64 (-1), .bool false] 212)).drew (z0 f) (.slice none 0 0) (.slice none 0 0) := by
        refine ⟨⟨?_, by omega, by show _ ≤ ((w.alloc _).alloc _).heap.size; simp, World.ownsRow_nil _ _ _ 6, World.ownsRow_nil _ _ _ 1, (fun x hx => nomatch hx), ⟨by show 0 ≤ _; omega, by show 0 ≤ _; omega⟩⟩, hz0.alloc _, ?_⟩
        · have := Blk.new (w.alloc (.cells ztext 86)) #[.string B, .int .i64 0, .int .i64 (mo : Int), .int .i64 90, .int .i64 0, .slice none 0 0, .slice none 0 0, .int .i64 0, .int .i64 0, .int .i64 0, .int .i64 0, .int .i64 0, .int .i64 (-1), .bool false] 212
          have e : (w.alloc (.cells ztext 86)).heap.size = w.heap.size + 1 := by simp
          rw [e] at this
          rw [hBH.out, hmoH.out] at this ⊢
          exact this
        · exact (hBl0.out.alloc (by simp) _).drew
      have hBs : B.size ≤ 4000 := by rw [hBH.out]; simp; omega
      by_cases hmo : 9 ≤ mo ∧ mo ≤ 12
      · obtain ⟨hm9, hm12⟩ := hmo
        have hmost : Hid (zMost f = true) := by show zMost f = true; unfold zMost; rw [← hmoH.out, decide_eq_true h3', decide_eq_true hm9, decide_eq_true hm12]; rfl
        have n1 : ¬ (mo : Int) < 9 := by omega
        have n2 : ¬ (12 : Int) < (mo : Int) := by omega
        have hw0 : Hid (Calls _ _ _ _ _) := cwidth_any hI0.cm (Nat.zero_le _) (Nat.zero_le _) (by show bt f 2 ≤ 12; rw [← hmoH.out]; exact hm12)
        have hI0H : Hid (ZM _ _ _ _ _) := hI0
        unfold ztext at hw0
        clear hI0 hz0 hmo2 hBe
        go_wp2_with fail
        refine hw0.out.mono ?_
        rintro e w1 ⟨rfl, k1⟩
        have hI1 : Hid (ZM _ _ _ _ _) := hI0H.out.kept k1
        clear hw0 hI0H k1
        go_wp2_with fail
        go_loopw [5] (fun v wr => ∃ n : Nat, v = .int .i64 (zwide (zit (z0 f) n) : Int) ∧ (∀ i, i < n → zgo (zit (z0 f) i) = true) ∧ ∃ rv sv, ZM w wr (zit (z0 f) n) rv sv) (fun _ wr => pAt wr (w.heap.size + 1))
        case atStart => exact ⟨0, rfl, fun i hi => by omega, _, _, hI1.out⟩
        case round =>
          obtain ⟨n, rfl, hall, rv, sv, hm⟩ := hrel
          clear hI1
          have hI := zit_inv hall
          rw [← hBH.out, ← hmoH.out] at hI
          have hallH : Hid (∀ i, _) := hall
          have hmost2 := most_zit hall
          clear hall
          rw [← hmoH.out] at hmost2
          have hsd : zit (z0 f) (n + 1) = zstep (zit (z0 f) n) := rfl
          have hsdH : Hid (_ = _) := hsd
          have hoff : Hid (zgo (zit (z0 f) n) = false → ZRun f n) := fun h => ⟨hallH.out, h⟩
          have hokd : Hid (zOk (zit (z0 f) n) = (!(zit (z0 f) n).1.bad && endB (zit (z0 f) n).1.B (zit (z0 f) n).1.p)) := rfl
          have hgod : Hid (zgo (zit (z0 f) n) = (!(zit (z0 f) n).1.bad && decide ((zit (z0 f) n).1.p + zwide (zit (z0 f) n) ≤ 8 * (zit (z0 f) n).1.B.size))) := rfl
          clear hsd
          obtain ⟨s, hs⟩ : ∃ s, s = zit (z0 f) n := ⟨_, rfl⟩
          rw [← hs] at hI hmost2 hm hsdH hoff hokd hgod ⊢
          have hsH : Hid (s = _) := hs
          clear hs
          have c1 : wr.cell? ⟨w.heap.size + 1, 4, none⟩ = some (.int .i64 (s.2.syms : Int)) := hm.cm.all.cell 4
          have b13' : wr.cell? ⟨w.heap.size + 1, 13, none⟩ = some (.bool s.1.bad) := hm.cm.all.cell 13
          have hpm := pAt_of c1
          have hpmH : Hid (_ = _) := hpm
          clear hpm c1
          have hp8 := hI.pb
          have hwd := widP_bd (freeN s.2 s.1) s.1.most
          have hwz : zwide s = widP (freeN s.2 s.1) s.1.most := rfl
          have hwzH : Hid (_ = _) := hwz
          cases hbad : s.1.bad with
          | true =>
            rw [hbad] at b13'
            have hbadE : s.1.bad = true := hbad
            have hrun : Hid (ZRun f n) := hoff.out (by rw [hgod.out, hbad]; rfl)
            have hno : Hid (zOk (zit (z0 f) n) = false) := by rw [← hsH.out, hokd.out, hbad]; rfl
            clear hoff hokd hgod hwz hwd
            have hrd : Hid (Calls _ _ _ _ _) := breadEnd_any wr (w.heap.size + 1) _ _ _ _ hm.cm.bits (by rw [hI.bytes]; exact hI.pb) (by rw [hI.bytes]; omega)
            have hmH : Hid (ZM _ _ _ _ _) := hm
            clear hm
            go_wp2_with fail
            refine hrd.out.mono ?_
            rintro e w7 ⟨rfl, ⟨q7, r7⟩, k7⟩
            have hm7 : ZM w w7 ({ s.1 with p := q7 }, s.2) rv sv := hmH.out.text (s' := ({ s.1 with p := q7 }, s.2)) (hmH.out.cm.readOn r7 k7) (Fra.kept k7 hmH.out.cm.up)
            have b13 : w7.cell? ⟨w.heap.size + 1, 13, none⟩ = some (.bool true) := by have := hm7.cm.all.cell 13; rw [hbadE] at this; exact this
            clear hrd hmH r7 k7
            have hS : Hid (∀ u0 u1 u2 u3 u4 u5 u6 u7, Blk _ _ _ _) := fun u0 u1 u2 u3 u4 u5 u6 u7 => set8 hm7.res u0 u1 u2 u3 u4 u5 u6 u7
            have hendH : Hid (∀ w3, _ → _) := hm7.fin
            have hz := hm7.res
            unfold ztext at hz
            have z0 : w7.cell? ⟨w.heap.size, 0, none⟩ = some (.int .i64 0) := hz.cell 0
            have y0 : w7.frozen? ⟨w.heap.size, 0, none⟩ = false := hz.frozen 0
            have z1 : w7.cell? ⟨w.heap.size, 1, none⟩ = some (.int .i64 0) := hz.cell 1
            have y1 : w7.frozen? ⟨w.heap.size, 1, none⟩ = false := hz.frozen 1
            have z2 : w7.cell? ⟨w.heap.size, 2, none⟩ = some (.slice none 0 0) := hz.cell 2
            have y2 : w7.frozen? ⟨w.heap.size, 2, none⟩ = false := hz.frozen 2
            have z3 : w7.cell? ⟨w.heap.size, 3, none⟩ = some (.slice none 0 0) := hz.cell 3
            have y3 : w7.frozen? ⟨w.heap.size, 3, none⟩ = false := hz.frozen 3
            have z4 : w7.cell? ⟨w.heap.size, 4, none⟩ = some (.int .i64 0) := hz.cell 4
            have y4 : w7.frozen? ⟨w.heap.size, 4, none⟩ = false := hz.frozen 4
            have z5 : w7.cell? ⟨w.heap.size, 5, none⟩ = some (.int .i64 0) := hz.cell 5
            have y5 : w7.frozen? ⟨w.heap.size, 5, none⟩ = false := hz.frozen 5
            have z6 : w7.cell? ⟨w.heap.size, 6, none⟩ = some (.int .i64 0) := hz.cell 6
            have y6 : w7.frozen? ⟨w.heap.size, 6, none⟩ = false := hz.frozen 6
            have z7 : w7.cell? ⟨w.heap.size, 7, none⟩ = some (.int .i64 0) := hz.cell 7
            have y7 : w7.frozen? ⟨w.heap.size, 7, none⟩ = false := hz.frozen 7
            clear hz
            clear hm7
            go_wp2
            exact bodyPost_ret (v := .tuple #[.agg ztext, .bool false]) (results_text Tryz.results85 _ _ w.heap.size ztext rfl _ rfl rfl (hS.out _ _ _ _ _ _ _ _)) rfl ⟨(hendH.out _ (kept8 _ _ _ _ _ _ _ _ _ _)).1, Or.inr ⟨hmost.out, n, hrun.out, Or.inr ⟨hno.out, rfl⟩⟩⟩
          | false =>
            rw [hbad] at b13'
            have hbadE : s.1.bad = false := hbad
            have hlf : Hid (Calls _ _ _ _ _) := bleft_any wr (w.heap.size + 1) _ _ _ _ hm.cm.bits (by omega) (by rw [hI.bytes]; omega)
            rw [hI.bytes] at hlf
            by_cases hle : s.1.p + zwide s ≤ 8 * B.size
            · have hgo : zgo s = true := by rw [hgod.out, hbad]; rw [Bool.not_false, Bool.true_and]; exact decide_eq_true (by rw [hI.bytes]; exact hle)
              have hWle : ((zwide s : Nat) : Int) ≤ 8 * (B.size : Int) - (s.1.p : Int) := by omega
              have hW20 : zwide s ≤ 20 := by omega
              have hIs := hI.step hgo
              have hsy1 := hI.syms
              have hsy2 := hIs.syms
              have hn36 : n ≤ 3600 := by have := hI.p; omega
              have hmH : Hid (ZM _ _ _ _ _) := hm
              have hIH : Hid (ZI _ _ _ _) := hI
              have hIsH : Hid (ZI _ _ _ _) := hIs
              have hgoH : Hid (_ = _) := hgo
              clear hm hI hIs hgo hwz hoff hokd hgod hbadE
              go_wp2_with fail
              refine hlf.out.mono ?_
              rintro e w2 ⟨rfl, r2, k2⟩
              have hm2 := hmH.out.kept k2
              have hnu : Hid (Calls _ _ _ _ _) := bnumber_any w2 (w.heap.size + 1) _ _ _ _ hm2.cm.bits (by omega) (by rw [hIH.out.bytes]; omega) (zwide s) hW20
              have hm2H : Hid (ZM _ _ _ _ _) := hm2
              clear hlf r2 k2 hm2 hmH b13'
              go_wp2_with fail
              refine hnu.out.mono ?_
              rintro e w3 ⟨rfl, r3, k3⟩
              have hm3 : ZM w w3 ({ s.1 with p := (numB s.1.B s.1.p (zwide s)).2 }, s.2) rv sv := hm2H.out.text (hm2H.out.cm.readOn r3 k3) (Fra.kept k3 hm2H.out.cm.up)
              have htk : Hid (Calls _ _ _ _ _) := take_all hIH.out hm9 hm12 hBs (by rw [hIH.out.bytes]; exact hle) hm3.cm
              have hm3H : Hid (ZM _ _ _ _ _) := hm3
              clear hnu r3 k3 hm3 hm2H
              go_wp2_with fail
              refine htk.out.mono ?_
              rintro e w4 ⟨rfl, ⟨⟨rv4, sv4, m4⟩, f4⟩⟩
              have hm4 := hm3H.out.text m4 f4
              have hwd4 : Hid (Calls _ _ _ _ _) := cwidth_any hm4.cm hIsH.out.gone (by have := hIsH.out.rules; omega) (by rw [hIsH.out.most]; exact hm12)
              have hm4H : Hid (ZM _ _ _ _ _) := hm4
              clear htk m4 f4 hm4 hm3H
              go_wp2_with fail
              refine hwd4.out.mono ?_
              rintro e w5 ⟨rfl, k5⟩
              have hm5 := hm4H.out.kept k5
              have c5 : w5.cell? ⟨w.heap.size + 1, 4, none⟩ = some (.int .i64 ((zstep s).2.syms : Int)) := hm5.cm.all.cell 4
              have hpm5 : Hid (_ = _) := pAt_of c5
              have hm5H : Hid (ZM _ _ _ _ _) := hm5
              clear hwd4 k5 hm5 hm4H c5
              go_wp2
              refine ⟨⟨n + 1, by rw [hsdH.out]; rfl, fun i hi => ?_, rv4, sv4, by rw [hsdH.out]; exact hm5H.out⟩, ?_⟩
              · by_cases hin : i = n
                · subst hin; rw [← hsH.out]; exact hgoH.out
                · exact hallH.out i (by omega)
              · rw [hpm5.out, hpmH.out, hsy1, hsy2]; omega
            · have hrun : Hid (ZRun f n) := hoff.out (by rw [hgod.out, hbad, hI.bytes, decide_eq_false hle]; rfl)
              have hWgt : ¬ ((zwide s : Nat) : Int) ≤ 8 * (B.size : Int) - (s.1.p : Int) := by omega
              have hokd2 : Hid (zOk (zit (z0 f) n) = endB s.1.B s.1.p) := by rw [← hsH.out, hokd.out, hbad]; rfl
              clear hokd hgod hwz
              have hIb := hI.bytes
              have hmH : Hid (ZM _ _ _ _ _) := hm
              clear hm
              go_wp2_with fail
              refine hlf.out.mono ?_
              rintro e w2 ⟨rfl, r2, k2⟩
              have hm2 := hmH.out.kept k2
              clear hlf r2 k2 hmH b13'
              have hrd : Hid (Calls _ _ _ _ _) := breadEnd_any w2 (w.heap.size + 1) _ _ _ _ hm2.cm.bits (by rw [hI.bytes]; exact hI.pb) (by rw [hI.bytes]; omega)
              have hmH : Hid (ZM _ _ _ _ _) := hm2
              clear hm2
              go_wp2_with fail
              refine hrd.out.mono ?_
              rintro e w7 ⟨rfl, ⟨q7, r7⟩, k7⟩
              have hm7 : ZM w w7 ({ s.1 with p := q7 }, s.2) rv sv := hmH.out.text (s' := ({ s.1 with p := q7 }, s.2)) (hmH.out.cm.readOn r7 k7) (Fra.kept k7 hmH.out.cm.up)
              have b13 : w7.cell? ⟨w.heap.size + 1, 13, none⟩ = some (.bool false) := by have := hm7.cm.all.cell 13; rw [hbadE] at this; exact this
              clear hrd hmH r7 k7
              generalize endB s.1.B s.1.p = EB at *
              cases EB with
              | false =>
                have hno : Hid (zOk (zit (z0 f) n) = false) := hokd2.out
                have hS : Hid (∀ u0 u1 u2 u3 u4 u5 u6 u7, Blk _ _ _ _) := fun u0 u1 u2 u3 u4 u5 u6 u7 => set8 hm7.res u0 u1 u2 u3 u4 u5 u6 u7
                have hendH : Hid (∀ w3, _ → _) := hm7.fin
                have hz := hm7.res
                unfold ztext at hz
                have z0 : w7.cell? ⟨w.heap.size, 0, none⟩ = some (.int .i64 0) := hz.cell 0
                have y0 : w7.frozen? ⟨w.heap.size, 0, none⟩ = false := hz.frozen 0
                have z1 : w7.cell? ⟨w.heap.size, 1, none⟩ = some (.int .i64 0) := hz.cell 1
                have y1 : w7.frozen? ⟨w.heap.size, 1, none⟩ = false := hz.frozen 1
                have z2 : w7.cell? ⟨w.heap.size, 2, none⟩ = some (.slice none 0 0) := hz.cell 2
                have y2 : w7.frozen? ⟨w.heap.size, 2, none⟩ = false := hz.frozen 2
                have z3 : w7.cell? ⟨w.heap.size, 3, none⟩ = some (.slice none 0 0) := hz.cell 3
                have y3 : w7.frozen? ⟨w.heap.size, 3, none⟩ = false := hz.frozen 3
                have z4 : w7.cell? ⟨w.heap.size, 4, none⟩ = some (.int .i64 0) := hz.cell 4
                have y4 : w7.frozen? ⟨w.heap.size, 4, none⟩ = false := hz.frozen 4
                have z5 : w7.cell? ⟨w.heap.size, 5, none⟩ = some (.int .i64 0) := hz.cell 5
                have y5 : w7.frozen? ⟨w.heap.size, 5, none⟩ = false := hz.frozen 5
                have z6 : w7.cell? ⟨w.heap.size, 6, none⟩ = some (.int .i64 0) := hz.cell 6
                have y6 : w7.frozen? ⟨w.heap.size, 6, none⟩ = false := hz.frozen 6
                have z7 : w7.cell? ⟨w.heap.size, 7, none⟩ = some (.int .i64 0) := hz.cell 7
                have y7 : w7.frozen? ⟨w.heap.size, 7, none⟩ = false := hz.frozen 7
                clear hz
                clear hm7
                go_wp2
                exact bodyPost_ret (v := .tuple #[.agg ztext, .bool false]) (results_text Tryz.results85 _ _ w.heap.size ztext rfl _ rfl rfl (hS.out _ _ _ _ _ _ _ _)) rfl ⟨(hendH.out _ (kept8 _ _ _ _ _ _ _ _ _ _)).1, Or.inr ⟨hmost.out, n, hrun.out, Or.inr ⟨hno.out, rfl⟩⟩⟩
              | true =>
                have hyes : Hid (zOk (zit (z0 f) n) = true) := hokd2.out
                obtain ⟨ra, rn, rc, rfl⟩ := own_shape hm7.cm.rules
                obtain ⟨sa, sn, sc, rfl⟩ := own_shape hm7.cm.start
                have hS : Hid (∀ u0 u1 u2 u3 u4 u5 u6 u7, Blk _ _ _ _) := fun u0 u1 u2 u3 u4 u5 u6 u7 => set8 hm7.res u0 u1 u2 u3 u4 u5 u6 u7
                have hendH : Hid (∀ w3, _ → _) := hm7.fin
                have hz := hm7.res
                unfold ztext at hz
                have z0 : w7.cell? ⟨w.heap.size, 0, none⟩ = some (.int .i64 0) := hz.cell 0
                have y0 : w7.frozen? ⟨w.heap.size, 0, none⟩ = false := hz.frozen 0
                have z1 : w7.cell? ⟨w.heap.size, 1, none⟩ = some (.int .i64 0) := hz.cell 1
                have y1 : w7.frozen? ⟨w.heap.size, 1, none⟩ = false := hz.frozen 1
                have z2 : w7.cell? ⟨w.heap.size, 2, none⟩ = some (.slice none 0 0) := hz.cell 2
                have y2 : w7.frozen? ⟨w.heap.size, 2, none⟩ = false := hz.frozen 2
                have z3 : w7.cell? ⟨w.heap.size, 3, none⟩ = some (.slice none 0 0) := hz.cell 3
                have y3 : w7.frozen? ⟨w.heap.size, 3, none⟩ = false := hz.frozen 3
                have z4 : w7.cell? ⟨w.heap.size, 4, none⟩ = some (.int .i64 0) := hz.cell 4
                have y4 : w7.frozen? ⟨w.heap.size, 4, none⟩ = false := hz.frozen 4
                have z5 : w7.cell? ⟨w.heap.size, 5, none⟩ = some (.int .i64 0) := hz.cell 5
                have y5 : w7.frozen? ⟨w.heap.size, 5, none⟩ = false := hz.frozen 5
                have z6 : w7.cell? ⟨w.heap.size, 6, none⟩ = some (.int .i64 0) := hz.cell 6
                have y6 : w7.frozen? ⟨w.heap.size, 6, none⟩ = false := hz.frozen 6
                have z7 : w7.cell? ⟨w.heap.size, 7, none⟩ = some (.int .i64 0) := hz.cell 7
                have y7 : w7.frozen? ⟨w.heap.size, 7, none⟩ = false := hz.frozen 7
                clear hz
                have hbn : w.heap.size + 1 < w7.heap.size := hm7.cm.all.lt
                have x0 : w7.cell? ⟨w.heap.size + 1, 3, none⟩ = some (.int .i64 s.2.kind) := hm7.cm.all.cell 3
                have x1 : w7.cell? ⟨w.heap.size + 1, 4, none⟩ = some (.int .i64 (s.2.syms : Int)) := hm7.cm.all.cell 4
                have x2 : w7.cell? ⟨w.heap.size + 1, 5, none⟩ = some (.slice ra rn rc) := hm7.cm.all.cell 5
                have x3 : w7.cell? ⟨w.heap.size + 1, 6, none⟩ = some (.slice sa sn sc) := hm7.cm.all.cell 6
                have x4 : w7.cell? ⟨w.heap.size + 1, 7, none⟩ = some (.int .i64 (s.2.whole.len : Int)) := hm7.cm.all.cell 7
                have x5 : w7.cell? ⟨w.heap.size + 1, 8, none⟩ = some (.int .i64 (s.2.whole.nl : Int)) := hm7.cm.all.cell 8
                have x6 : w7.cell? ⟨w.heap.size + 1, 9, none⟩ = some (.int .i64 (s.2.whole.first : Int)) := hm7.cm.all.cell 9
                have x7 : w7.cell? ⟨w.heap.size + 1, 10, none⟩ = some (.int .i64 (s.2.whole.last : Int)) := hm7.cm.all.cell 10
                have hfin : Hid (∀ w3, Kept [w.heap.size] w7 w3 → CodesOut f w w3 (.returned (.tuple #[.agg #[.int .i64 s.2.kind, .int .i64 s.2.syms, .slice ra rn rc, .slice sa sn sc, .int .i64 s.2.whole.len, .int .i64 s.2.whole.nl, .int .i64 s.2.whole.first, .int .i64 s.2.whole.last], .bool true]))) := fun w3 k => by
                  obtain ⟨b3, v3⟩ := hendH.out w3 k
                  refine ⟨b3, Or.inr ⟨hmost.out, n, hrun.out, Or.inl ⟨hyes.out, .slice ra rn rc, .slice sa sn sc, ?_, ?_⟩⟩⟩
                  · rw [← hsH.out]; exact v3
                  · rw [← hsH.out]; rfl
                clear hm7 hendH
                go_wp2
                refine bodyPost_ret (v := .tuple #[.agg #[.int .i64 s.2.kind, .int .i64 s.2.syms, .slice ra rn rc, .slice sa sn sc, .int .i64 s.2.whole.len, .int .i64 s.2.whole.nl, .int .i64 s.2.whole.first, .int .i64 s.2.whole.last], .bool true]) (results_text Tryz.results85 _ _ w.heap.size _ rfl _ rfl rfl (hS.out _ _ _ _ _ _ _ _)) rfl ?_
                exact hfin.out _ (kept8 _ _ _ _ _ _ _ _ _ _)
      · have hmost : Hid (zMost f = false) := by
          show zMost f = false
          unfold zMost
          rw [← hmoH.out]
          by_cases h9 : 9 ≤ mo
          · rw [decide_eq_false (show ¬ mo ≤ 12 by omega)]; simp
          · rw [decide_eq_false h9]; simp
        have hfin : Hid (Below w.heap.size w ((w.alloc (.cells ztext 86)).alloc (.cells #[.string B, .int .i64 0, .int .i64 (mo : Int), .int .i64 90, .int .i64 0, .slice none 0 0, .slice none 0 0, .int .i64 0, .int .i64 0, .int .i64 0, .int .i64 0, .int .i64 0, .int .i64 (-1), .bool false] 212)).drew ∧ Blk ((w.alloc (.cells ztext 86)).alloc (.cells #[.string B, .int .i64 0, .int .i64 (mo : Int), .int .i64 90, .int .i64 0, .slice none 0 0, .slice none 0 0, .int .i64 0, .int .i64 0, .int .i64 0, .int .i64 0, .int .i64 0, .int .i64 (-1), .bool false] 212)).drew w.heap.size ztext 86) := ⟨hI0.below, hI0.res⟩
        clear hI0 hz0
        unfold ztext
        by_cases h9 : (mo : Int) < 9
        · go_wp2
          exact bodyPost_ret (v := .tuple #[.agg ztext, .bool false]) (results_text Tryz.results85 _ _ w.heap.size ztext rfl _ rfl rfl hfin.out.2) rfl ⟨hfin.out.1, Or.inl ⟨hmost.out, rfl⟩⟩
        · have h12 : (12 : Int) < (mo : Int) := by omega
          go_wp2
          exact bodyPost_ret (v := .tuple #[.agg ztext, .bool false]) (results_text Tryz.results85 _ _ w.heap.size ztext rfl _ rfl rfl hfin.out.2) rfl ⟨hfin.out.1, Or.inl ⟨hmost.out, rfl⟩⟩

end Go.Proofs.YtgifhgnccmnbiabGreatDoor

set_option linter.unusedVariables false
set_option linter.unusedSimpArgs false
namespace Go.Proofs.YtgifhgnccmnbiabGreatDoor
open Go.RowKit Go.IntWalk

def isSG (f : ByteArray) : Prop := bt f 0 = 83 ∧ bt f 1 = 71
def isSZ (f : ByteArray) : Prop := bt f 0 = 83 ∧ bt f 1 = 90
/-- The file is one, and this is its text. -/
inductive SFile (f : ByteArray) : TT → Prop
  | rules : 2 ≤ f.size → f.size ≤ 4000 → isSG f → sgOk f = true → SFile f (sgT f)
  | codes {n : Nat} : 2 ≤ f.size → f.size ≤ 4000 → isSZ f → zMost f = true → ZRun f n → zOk (zit (z0 f) n) = true → SFile f (zit (z0 f) n).2
theorem SFile.one {f : ByteArray} {t u : TT} (h : SFile f t) (h' : SFile f u) : t = u := by
  cases h with
  | rules _ _ a _ =>
    cases h' with
    | rules => rfl
    | codes _ _ b => have := a.2; have := b.2; omega
  | codes _ _ a _ r _ =>
    cases h' with
    | rules _ _ b => have := a.2; have := b.2; omega
    | codes _ _ _ _ r' _ => rw [r.one r']
/-- What opening a file comes to. -/
structure OpenOut (f : ByteArray) (w w' : World) (e : Ending) : Prop where
  below : Below w.heap.size w w'
  out : ((∀ t, ¬ SFile f t) ∧ e = .returned (.tuple #[.agg ztext, .int .i64 4])) ∨
    ∃ t, SFile f t ∧ ((1099511627776 < t.whole.len ∧ e = .returned (.tuple #[.agg ztext, .int .i64 5])) ∨
      (t.whole.len ≤ 1099511627776 ∧ ∃ rv sv, TVal w' w.heap.size t rv sv ∧ e = .returned (.tuple #[.agg (t.cells rv sv), .int .i64 0])))

theorem head_bytes {f : ByteArray} (h : 2 ≤ f.size) (a b : UInt8) : f.extract 0 2 = ⟨#[a, b]⟩ ↔ bt f 0 = a.toNat ∧ bt f 1 = b.toNat := by
  have e : f.extract 0 2 = ⟨#[f[0], f[1]]⟩ := by
    apply ByteArray.ext
    rw [ByteArray.data_extract]
    apply Array.ext
    · simp; omega
    · intro i h1 h2
      have h2' : i < 2 := h2
      rw [Array.getElem_extract]
      rcases (by omega : i = 0 ∨ i = 1) with rfl | rfl <;> rfl
  rw [e, bt_lt (by omega), bt_lt (by omega)]
  constructor
  · intro h2
    have h3 := congrArg ByteArray.data h2
    simp only [Array.mk.injEq, List.cons.injEq, and_true] at h3
    exact ⟨by rw [h3.1], by rw [h3.2]⟩
  · rintro ⟨h2, h3⟩
    rw [UInt8.toNat_inj.1 h2, UInt8.toNat_inj.1 h3]

theorem two8 {w1 : World} {n : Nat} (hz : Blk w1 n ztext 86) (v0 v1 v2 v3 v4 v5 v6 v7 u0 u1 u2 u3 u4 u5 u6 u7 : Value) :
    Blk ((((((((((((((((w1.setCell ⟨(n + 1), 0, none⟩ v0).setCell ⟨(n + 1), 1, none⟩ v1).setCell ⟨(n + 1), 2, none⟩ v2).setCell ⟨(n + 1), 3, none⟩ v3).setCell ⟨(n + 1), 4, none⟩ v4).setCell ⟨(n + 1), 5, none⟩ v5).setCell ⟨(n + 1), 6, none⟩ v6).setCell ⟨(n + 1), 7, none⟩ v7).setCell ⟨n, 0, none⟩ u0).setCell ⟨n, 1, none⟩ u1).setCell ⟨n, 2, none⟩ u2).setCell ⟨n, 3, none⟩ u3).setCell ⟨n, 4, none⟩ u4).setCell ⟨n, 5, none⟩ u5).setCell ⟨n, 6, none⟩ u6).setCell ⟨n, 7, none⟩ u7) n #[u0, u1, u2, u3, u4, u5, u6, u7] 86 ∧ Kept [n + 1, n] w1 ((((((((((((((((w1.setCell ⟨(n + 1), 0, none⟩ v0).setCell ⟨(n + 1), 1, none⟩ v1).setCell ⟨(n + 1), 2, none⟩ v2).setCell ⟨(n + 1), 3, none⟩ v3).setCell ⟨(n + 1), 4, none⟩ v4).setCell ⟨(n + 1), 5, none⟩ v5).setCell ⟨(n + 1), 6, none⟩ v6).setCell ⟨(n + 1), 7, none⟩ v7).setCell ⟨n, 0, none⟩ u0).setCell ⟨n, 1, none⟩ u1).setCell ⟨n, 2, none⟩ u2).setCell ⟨n, 3, none⟩ u3).setCell ⟨n, 4, none⟩ u4).setCell ⟨n, 5, none⟩ u5).setCell ⟨n, 6, none⟩ u6).setCell ⟨n, 7, none⟩ u7) := by
  have k1 := kept8 w1 (n + 1) v0 v1 v2 v3 v4 v5 v6 v7
  have h1 := hz.kept k1 (by simp)
  exact ⟨set8 h1 u0 u1 u2 u3 u4 u5 u6 u7, (k1.mono (by simp)).trans ((kept8 _ n u0 u1 u2 u3 u4 u5 u6 u7).mono (by simp))⟩
theorem two_list (a b : UInt8) : (⟨#[a, b]⟩ : ByteArray).toList = [a, b] := by
  unfold ByteArray.toList
  rw [ByteArray.toList.loop.eq_1]; simp [ByteArray.size]
  rw [ByteArray.toList.loop.eq_1]; simp [ByteArray.size]
  rw [ByteArray.toList.loop.eq_1]; simp [ByteArray.size]
  exact ⟨rfl, rfl⟩
theorem head_ne {f : ByteArray} (h : 2 ≤ f.size) (a b : UInt8) (hn : ¬ (bt f 0 = a.toNat ∧ bt f 1 = b.toNat)) : ((f.extract 0 2).toList == [a, b]) = false := by
  have e : f.extract 0 2 = ⟨#[f[0], f[1]]⟩ := (head_bytes h f[0] f[1]).2 ⟨bt_lt (by omega), bt_lt (by omega)⟩
  rw [e, two_list]
  rw [bt_lt (by omega), bt_lt (by omega)] at hn
  rw [beq_eq_false_iff_ne]
  intro hc
  simp only [List.cons.injEq, and_true] at hc
  exact hn ⟨by rw [hc.1], by rw [hc.2]⟩
theorem SFile.none_of {f : ByteArray} (h1 : ¬ (isSG f ∧ sgOk f = true)) (h2 : ¬ (isSZ f ∧ zMost f = true ∧ ∃ n, ZRun f n ∧ zOk (zit (z0 f) n) = true)) : ∀ t, ¬ SFile f t := fun t ht => by
  cases ht with
  | rules _ _ a b => exact h1 ⟨a, b⟩
  | codes _ _ a b c d => exact h2 ⟨a, b, _, c, d⟩
theorem not_both {f : ByteArray} (h : isSG f) : ¬ isSZ f := fun h2 => by have := h.2; have := h2.2; omega

set_option maxHeartbeats 4000000 in
set_option maxRecDepth 100000 in
theorem read_file (f : ByteArray) (hf : f.size ≤ maxLen) (w : World) :
    Calls Tryz.prog 45 #[.string f] w fun e w' => OpenOut f w w' e := by
  unfold maxLen at hf
  have hno : Hid (f.size < 2 ∨ 4000 < f.size → ∀ t, ¬ SFile f t) := fun h t ht => by cases ht <;> omega
  have hz : Blk (w.alloc (.cells ztext 86)) w.heap.size ztext 86 := Blk.new w _ _
  have hB : Hid (Below w.heap.size w (w.alloc (.cells ztext 86))) := (Below.refl w.heap.size w).alloc (Nat.le_refl _) _
  by_cases h1 : (4000 : Int) < (f.size : Int)
  · have hn : Hid (∀ t, ¬ SFile f t) := hno.out (Or.inr (by omega))
    go_enter Tryz.func45, Tryz.ntmps45
    go_wp2
    exact bodyPost_ret (v := .tuple #[.agg ztext, .int .i64 4]) (results_text Tryz.results45 _ _ w.heap.size ztext rfl _ rfl rfl (Blk.new w _ _)) rfl ⟨hB.out, Or.inl ⟨hn.out, rfl⟩⟩
  · by_cases h2 : (f.size : Int) < 2
    · have hn : Hid (∀ t, ¬ SFile f t) := hno.out (Or.inl (by omega))
      go_enter Tryz.func45, Tryz.ntmps45
      go_wp2
      exact bodyPost_ret (v := .tuple #[.agg ztext, .int .i64 4]) (results_text Tryz.results45 _ _ w.heap.size ztext rfl _ rfl rfl (Blk.new w _ _)) rfl ⟨hB.out, Or.inl ⟨hn.out, rfl⟩⟩
    · have h1' : (f.size : Int) ≤ 4000 := by omega
      have h2' : (2 : Int) ≤ (f.size : Int) := by omega
      clear h1 h2
      by_cases hG : isSG f
      · have eG : f.extract 0 2 = ⟨#[83, 71]⟩ := (head_bytes (by omega) 83 71).2 hG
        have hGH : Hid (isSG f) := hG
        clear hG
        have hc : Hid (Calls _ _ _ ((w.alloc (.cells ztext 86)).alloc (.cells ztext 86)) _) := readRules_any f (by omega) _
        unfold ztext at hc
        clear hz
        go_enter Tryz.func45, Tryz.ntmps45
        go_wp2_with fail
        refine hc.out.mono ?_
        rintro e w1 hout
        have hout2 : RulesOut f ((w.alloc (.cells ztext 86)).alloc (.cells ztext 86)) w1 e := hout
        have hbl := hout2.below
        have ho := hout2.out
        clear hc hout hout2
        have hz1 : Blk w1 w.heap.size ztext 86 := (hbl.block _ (by simp; omega)).trans ((Blk.new w _ _).alloc _)
        have hz2 : Blk w1 (w.heap.size + 1) ztext 86 := by
          have e : (w.alloc (.cells ztext 86)).heap.size = w.heap.size + 1 := by simp
          have := Blk.new (w.alloc (.cells ztext 86)) ztext 86
          rw [e] at this
          exact (hbl.block _ (by simp)).trans this
        have hS : Hid (∀ v0 v1 v2 v3 v4 v5 v6 v7 u0 u1 u2 u3 u4 u5 u6 u7, _ ∧ _) := two8 hz1
        have hbel : Hid (∀ w3, Kept [w.heap.size + 1, w.heap.size] w1 w3 → Below w.heap.size w w3) := fun w3 k => ((hB.out.alloc (by simp) _).trans (hbl.mono (by simp; omega))).trans (k.below (by have := hz1.lt; omega) (by simp))
        have hlt2 : w.heap.size + 1 < w1.heap.size := hz2.lt
        unfold ztext at hz1 hz2
        have zc0 : w1.cell? ⟨w.heap.size, 0, none⟩ = some (.int .i64 0) := hz1.cell 0
        have y0 : w1.frozen? ⟨w.heap.size, 0, none⟩ = false := hz1.frozen 0
        have x0 : w1.cell? ⟨w.heap.size + 1, 0, none⟩ = some (.int .i64 0) := hz2.cell 0
        have tf0 : w1.frozen? ⟨w.heap.size + 1, 0, none⟩ = false := hz2.frozen 0
        have zc1 : w1.cell? ⟨w.heap.size, 1, none⟩ = some (.int .i64 0) := hz1.cell 1
        have y1 : w1.frozen? ⟨w.heap.size, 1, none⟩ = false := hz1.frozen 1
        have x1 : w1.cell? ⟨w.heap.size + 1, 1, none⟩ = some (.int .i64 0) := hz2.cell 1
        have tf1 : w1.frozen? ⟨w.heap.size + 1, 1, none⟩ = false := hz2.frozen 1
        have zc2 : w1.cell? ⟨w.heap.size, 2, none⟩ = some (.slice none 0 0) := hz1.cell 2
        have y2 : w1.frozen? ⟨w.heap.size, 2, none⟩ = false := hz1.frozen 2
        have x2 : w1.cell? ⟨w.heap.size + 1, 2, none⟩ = some (.slice none 0 0) := hz2.cell 2
        have tf2 : w1.frozen? ⟨w.heap.size + 1, 2, none⟩ = false := hz2.frozen 2
        have zc3 : w1.cell? ⟨w.heap.size, 3, none⟩ = some (.slice none 0 0) := hz1.cell 3
        have y3 : w1.frozen? ⟨w.heap.size, 3, none⟩ = false := hz1.frozen 3
        have x3 : w1.cell? ⟨w.heap.size + 1, 3, none⟩ = some (.slice none 0 0) := hz2.cell 3
        have tf3 : w1.frozen? ⟨w.heap.size + 1, 3, none⟩ = false := hz2.frozen 3
        have zc4 : w1.cell? ⟨w.heap.size, 4, none⟩ = some (.int .i64 0) := hz1.cell 4
        have y4 : w1.frozen? ⟨w.heap.size, 4, none⟩ = false := hz1.frozen 4
        have x4 : w1.cell? ⟨w.heap.size + 1, 4, none⟩ = some (.int .i64 0) := hz2.cell 4
        have tf4 : w1.frozen? ⟨w.heap.size + 1, 4, none⟩ = false := hz2.frozen 4
        have zc5 : w1.cell? ⟨w.heap.size, 5, none⟩ = some (.int .i64 0) := hz1.cell 5
        have y5 : w1.frozen? ⟨w.heap.size, 5, none⟩ = false := hz1.frozen 5
        have x5 : w1.cell? ⟨w.heap.size + 1, 5, none⟩ = some (.int .i64 0) := hz2.cell 5
        have tf5 : w1.frozen? ⟨w.heap.size + 1, 5, none⟩ = false := hz2.frozen 5
        have zc6 : w1.cell? ⟨w.heap.size, 6, none⟩ = some (.int .i64 0) := hz1.cell 6
        have y6 : w1.frozen? ⟨w.heap.size, 6, none⟩ = false := hz1.frozen 6
        have x6 : w1.cell? ⟨w.heap.size + 1, 6, none⟩ = some (.int .i64 0) := hz2.cell 6
        have tf6 : w1.frozen? ⟨w.heap.size + 1, 6, none⟩ = false := hz2.frozen 6
        have zc7 : w1.cell? ⟨w.heap.size, 7, none⟩ = some (.int .i64 0) := hz1.cell 7
        have y7 : w1.frozen? ⟨w.heap.size, 7, none⟩ = false := hz1.frozen 7
        have x7 : w1.cell? ⟨w.heap.size + 1, 7, none⟩ = some (.int .i64 0) := hz2.cell 7
        have tf7 : w1.frozen? ⟨w.heap.size + 1, 7, none⟩ = false := hz2.frozen 7
        clear hz1 hz2
        rcases ho with ⟨hok, rv, sv, htv, rfl⟩ | ⟨hok, rfl⟩
        · have hsf : SFile f (sgT f) := SFile.rules (by omega) (by omega) hGH.out hok
          obtain ⟨t, ht⟩ : ∃ t, t = (sgT f) := ⟨_, rfl⟩
          rw [← ht] at hsf htv ⊢
          have hsfH : Hid (SFile f t) := hsf
          have htvH : Hid (∀ w3, Kept [w.heap.size + 1, w.heap.size] w1 w3 → TVal w3 w.heap.size t rv sv) := fun w3 k => (htv.kept k (fun g hg => by simp at hg ⊢; omega)).mono (by simp; omega)
          obtain ⟨ra, rn, rc, rfl⟩ := own_shape htv.rules
          obtain ⟨sa, sn, sc, rfl⟩ := own_shape htv.start
          clear hsf htv ht hbl
          unfold TT.cells
          by_cases hbig : (1099511627776 : Int) < (t.whole.len : Int)
          · unfold ztext at *
            go_wp2
            refine bodyPost_ret (v := .tuple #[.agg ztext, .int .i64 5]) (results_text Tryz.results45 _ _ w.heap.size ztext rfl _ rfl rfl (hS.out _ _ _ _ _ _ _ _ _ _ _ _ _ _ _ _ ).1) rfl ?_
            exact ⟨hbel.out _ (hS.out _ _ _ _ _ _ _ _ _ _ _ _ _ _ _ _ ).2, Or.inr ⟨t, hsfH.out, Or.inl ⟨by omega, rfl⟩⟩⟩
          · have hle : t.whole.len ≤ 1099511627776 := by omega
            go_wp2
            refine bodyPost_ret (v := .tuple #[.agg #[.int .i64 t.kind, .int .i64 t.syms, .slice ra rn rc, .slice sa sn sc, .int .i64 t.whole.len, .int .i64 t.whole.nl, .int .i64 t.whole.first, .int .i64 t.whole.last], .int .i64 0]) (results_text Tryz.results45 _ _ w.heap.size _ rfl _ rfl rfl (hS.out _ _ _ _ _ _ _ _ _ _ _ _ _ _ _ _ ).1) rfl ?_
            exact ⟨hbel.out _ (hS.out _ _ _ _ _ _ _ _ _ _ _ _ _ _ _ _ ).2, Or.inr ⟨t, hsfH.out, Or.inr ⟨hle, _, _, htvH.out _ (hS.out _ _ _ _ _ _ _ _ _ _ _ _ _ _ _ _ ).2, rfl⟩⟩⟩
        · have hno2 : Hid (∀ t, ¬ SFile f t) := SFile.none_of (fun h => by rw [hok] at h; exact Bool.noConfusion h.2) (fun h => not_both hGH.out h.1)
          clear hbl
          unfold ztext
          go_wp2
          refine bodyPost_ret (v := .tuple #[.agg ztext, .int .i64 4]) (results_text Tryz.results45 _ _ w.heap.size ztext rfl _ rfl rfl (hS.out _ _ _ _ _ _ _ _ _ _ _ _ _ _ _ _ ).1) rfl ?_
          exact ⟨hbel.out _ (hS.out _ _ _ _ _ _ _ _ _ _ _ _ _ _ _ _ ).2, Or.inl ⟨hno2.out, rfl⟩⟩
      · by_cases hZ : isSZ f
        · have eG : f.extract 0 2 = ⟨#[83, 90]⟩ := (head_bytes (by omega) 83 90).2 hZ
          have hZH : Hid (isSZ f) := hZ
          clear hZ
          have hc : Hid (Calls _ _ _ ((w.alloc (.cells ztext 86)).alloc (.cells ztext 86)) _) := readCodes_any f (by omega) _
          unfold ztext at hc
          clear hz
          go_enter Tryz.func45, Tryz.ntmps45
          go_wp2_with fail
          refine hc.out.mono ?_
          rintro e w1 hout
          have hout2 : CodesOut f ((w.alloc (.cells ztext 86)).alloc (.cells ztext 86)) w1 e := hout
          have hbl := hout2.below
          have ho := hout2.out
          clear hc hout hout2
          have hz1 : Blk w1 w.heap.size ztext 86 := (hbl.block _ (by simp; omega)).trans ((Blk.new w _ _).alloc _)
          have hz2 : Blk w1 (w.heap.size + 1) ztext 86 := by
            have e : (w.alloc (.cells ztext 86)).heap.size = w.heap.size + 1 := by simp
            have := Blk.new (w.alloc (.cells ztext 86)) ztext 86
            rw [e] at this
            exact (hbl.block _ (by simp)).trans this
          have hS : Hid (∀ v0 v1 v2 v3 v4 v5 v6 v7 u0 u1 u2 u3 u4 u5 u6 u7, _ ∧ _) := two8 hz1
          have hbel : Hid (∀ w3, Kept [w.heap.size + 1, w.heap.size] w1 w3 → Below w.heap.size w w3) := fun w3 k => ((hB.out.alloc (by simp) _).trans (hbl.mono (by simp; omega))).trans (k.below (by have := hz1.lt; omega) (by simp))
          have hlt2 : w.heap.size + 1 < w1.heap.size := hz2.lt
          unfold ztext at hz1 hz2
          have zc0 : w1.cell? ⟨w.heap.size, 0, none⟩ = some (.int .i64 0) := hz1.cell 0
          have y0 : w1.frozen? ⟨w.heap.size, 0, none⟩ = false := hz1.frozen 0
          have x0 : w1.cell? ⟨w.heap.size + 1, 0, none⟩ = some (.int .i64 0) := hz2.cell 0
          have tf0 : w1.frozen? ⟨w.heap.size + 1, 0, none⟩ = false := hz2.frozen 0
          have zc1 : w1.cell? ⟨w.heap.size, 1, none⟩ = some (.int .i64 0) := hz1.cell 1
          have y1 : w1.frozen? ⟨w.heap.size, 1, none⟩ = false := hz1.frozen 1
          have x1 : w1.cell? ⟨w.heap.size + 1, 1, none⟩ = some (.int .i64 0) := hz2.cell 1
          have tf1 : w1.frozen? ⟨w.heap.size + 1, 1, none⟩ = false := hz2.frozen 1
          have zc2 : w1.cell? ⟨w.heap.size, 2, none⟩ = some (.slice none 0 0) := hz1.cell 2
          have y2 : w1.frozen? ⟨w.heap.size, 2, none⟩ = false := hz1.frozen 2
          have x2 : w1.cell? ⟨w.heap.size + 1, 2, none⟩ = some (.slice none 0 0) := hz2.cell 2
          have tf2 : w1.frozen? ⟨w.heap.size + 1, 2, none⟩ = false := hz2.frozen 2
          have zc3 : w1.cell? ⟨w.heap.size, 3, none⟩ = some (.slice none 0 0) := hz1.cell 3
          have y3 : w1.frozen? ⟨w.heap.size, 3, none⟩ = false := hz1.frozen 3
          have x3 : w1.cell? ⟨w.heap.size + 1, 3, none⟩ = some (.slice none 0 0) := hz2.cell 3
          have tf3 : w1.frozen? ⟨w.heap.size + 1, 3, none⟩ = false := hz2.frozen 3
          have zc4 : w1.cell? ⟨w.heap.size, 4, none⟩ = some (.int .i64 0) := hz1.cell 4
          have y4 : w1.frozen? ⟨w.heap.size, 4, none⟩ = false := hz1.frozen 4
          have x4 : w1.cell? ⟨w.heap.size + 1, 4, none⟩ = some (.int .i64 0) := hz2.cell 4
          have tf4 : w1.frozen? ⟨w.heap.size + 1, 4, none⟩ = false := hz2.frozen 4
          have zc5 : w1.cell? ⟨w.heap.size, 5, none⟩ = some (.int .i64 0) := hz1.cell 5
          have y5 : w1.frozen? ⟨w.heap.size, 5, none⟩ = false := hz1.frozen 5
          have x5 : w1.cell? ⟨w.heap.size + 1, 5, none⟩ = some (.int .i64 0) := hz2.cell 5
          have tf5 : w1.frozen? ⟨w.heap.size + 1, 5, none⟩ = false := hz2.frozen 5
          have zc6 : w1.cell? ⟨w.heap.size, 6, none⟩ = some (.int .i64 0) := hz1.cell 6
          have y6 : w1.frozen? ⟨w.heap.size, 6, none⟩ = false := hz1.frozen 6
          have x6 : w1.cell? ⟨w.heap.size + 1, 6, none⟩ = some (.int .i64 0) := hz2.cell 6
          have tf6 : w1.frozen? ⟨w.heap.size + 1, 6, none⟩ = false := hz2.frozen 6
          have zc7 : w1.cell? ⟨w.heap.size, 7, none⟩ = some (.int .i64 0) := hz1.cell 7
          have y7 : w1.frozen? ⟨w.heap.size, 7, none⟩ = false := hz1.frozen 7
          have x7 : w1.cell? ⟨w.heap.size + 1, 7, none⟩ = some (.int .i64 0) := hz2.cell 7
          have tf7 : w1.frozen? ⟨w.heap.size + 1, 7, none⟩ = false := hz2.frozen 7
          clear hz1 hz2
          rcases ho with ⟨hm, rfl⟩ | ⟨hm, n, hr, ⟨hok, rv, sv, htv, rfl⟩ | ⟨hok, rfl⟩⟩
          · have hno2 : Hid (∀ t, ¬ SFile f t) := SFile.none_of (fun h => hG h.1) (fun h => by rw [hm] at h; exact Bool.noConfusion h.2.1)
            clear hbl
            unfold ztext
            go_wp2
            refine bodyPost_ret (v := .tuple #[.agg ztext, .int .i64 4]) (results_text Tryz.results45 _ _ w.heap.size ztext rfl _ rfl rfl (hS.out _ _ _ _ _ _ _ _ _ _ _ _ _ _ _ _ ).1) rfl ?_
            exact ⟨hbel.out _ (hS.out _ _ _ _ _ _ _ _ _ _ _ _ _ _ _ _ ).2, Or.inl ⟨hno2.out, rfl⟩⟩
          · have hsf : SFile f (zit (z0 f) n).2 := SFile.codes (by omega) (by omega) hZH.out hm hr hok
            obtain ⟨t, ht⟩ : ∃ t, t = (zit (z0 f) n).2 := ⟨_, rfl⟩
            rw [← ht] at hsf htv ⊢
            have hsfH : Hid (SFile f t) := hsf
            have htvH : Hid (∀ w3, Kept [w.heap.size + 1, w.heap.size] w1 w3 → TVal w3 w.heap.size t rv sv) := fun w3 k => (htv.kept k (fun g hg => by simp at hg ⊢; omega)).mono (by simp; omega)
            obtain ⟨ra, rn, rc, rfl⟩ := own_shape htv.rules
            obtain ⟨sa, sn, sc, rfl⟩ := own_shape htv.start
            clear hsf htv ht hbl
            unfold TT.cells
            by_cases hbig : (1099511627776 : Int) < (t.whole.len : Int)
            · unfold ztext at *
              go_wp2
              refine bodyPost_ret (v := .tuple #[.agg ztext, .int .i64 5]) (results_text Tryz.results45 _ _ w.heap.size ztext rfl _ rfl rfl (hS.out _ _ _ _ _ _ _ _ _ _ _ _ _ _ _ _ ).1) rfl ?_
              exact ⟨hbel.out _ (hS.out _ _ _ _ _ _ _ _ _ _ _ _ _ _ _ _ ).2, Or.inr ⟨t, hsfH.out, Or.inl ⟨by omega, rfl⟩⟩⟩
            · have hle : t.whole.len ≤ 1099511627776 := by omega
              go_wp2
              refine bodyPost_ret (v := .tuple #[.agg #[.int .i64 t.kind, .int .i64 t.syms, .slice ra rn rc, .slice sa sn sc, .int .i64 t.whole.len, .int .i64 t.whole.nl, .int .i64 t.whole.first, .int .i64 t.whole.last], .int .i64 0]) (results_text Tryz.results45 _ _ w.heap.size _ rfl _ rfl rfl (hS.out _ _ _ _ _ _ _ _ _ _ _ _ _ _ _ _ ).1) rfl ?_
              exact ⟨hbel.out _ (hS.out _ _ _ _ _ _ _ _ _ _ _ _ _ _ _ _ ).2, Or.inr ⟨t, hsfH.out, Or.inr ⟨hle, _, _, htvH.out _ (hS.out _ _ _ _ _ _ _ _ _ _ _ _ _ _ _ _ ).2, rfl⟩⟩⟩
          · have hno2 : Hid (∀ t, ¬ SFile f t) := SFile.none_of (fun h => hG h.1) (fun h => by obtain ⟨_, _, m, hm2, h3⟩ := h; rw [hm2.one hr, hok] at h3; exact Bool.noConfusion h3)
            clear hbl
            unfold ztext
            go_wp2
            refine bodyPost_ret (v := .tuple #[.agg ztext, .int .i64 4]) (results_text Tryz.results45 _ _ w.heap.size ztext rfl _ rfl rfl (hS.out _ _ _ _ _ _ _ _ _ _ _ _ _ _ _ _ ).1) rfl ?_
            exact ⟨hbel.out _ (hS.out _ _ _ _ _ _ _ _ _ _ _ _ _ _ _ _ ).2, Or.inl ⟨hno2.out, rfl⟩⟩
        · have hno2 : Hid (∀ t, ¬ SFile f t) := SFile.none_of (fun h => hG h.1) (fun h => hZ h.1)
          have n1 : ¬ f.extract 0 2 = ⟨#[83, 71]⟩ := fun h => hG ((head_bytes (by omega) 83 71).1 h)
          have n2 : ¬ f.extract 0 2 = ⟨#[83, 90]⟩ := fun h => hZ ((head_bytes (by omega) 83 90).1 h)
          have d1 : ((f.extract 0 2).toList == [83, 71]) = false := head_ne (by omega) 83 71 (fun h => hG h)
          have d2 : ((f.extract 0 2).toList == [83, 90]) = false := head_ne (by omega) 83 90 (fun h => hZ h)
          have hz2 : Hid (Blk ((w.alloc (.cells ztext 86)).alloc (.cells ztext 86)) w.heap.size ztext 86 ∧ Below w.heap.size w ((w.alloc (.cells ztext 86)).alloc (.cells ztext 86))) := ⟨hz.alloc _, hB.out.alloc (by simp) _⟩
          clear hz hG hZ n1 n2
          go_enter Tryz.func45, Tryz.ntmps45
          go_wp2
          exact bodyPost_ret (v := .tuple #[.agg ztext, .int .i64 4]) (results_text Tryz.results45 _ _ w.heap.size ztext rfl _ rfl rfl hz2.out.1) rfl ⟨hz2.out.2, Or.inl ⟨hno2.out, rfl⟩⟩

end Go.Proofs.YtgifhgnccmnbiabGreatDoor

set_option linter.unusedVariables false
set_option linter.unusedSimpArgs false
namespace Go.Proofs.YtgifhgnccmnbiabGreatDoor

/-- Of x, whose first byte is at place a: the bytes from place fr to place dst. -/
def cutX (x : List Nat) (fr dst a : Nat) : List Nat := (x.take (dst - a)).drop (fr - a)
theorem cutX_late {x : List Nat} {fr dst a : Nat} (h : dst ≤ a) : cutX x fr dst a = [] := by
  unfold cutX
  rw [show dst - a = 0 by omega]
  simp
theorem cutX_early {x : List Nat} {fr dst a : Nat} (h : a + x.length ≤ fr) : cutX x fr dst a = [] := by
  unfold cutX
  apply List.drop_eq_nil_of_le
  rw [List.length_take]
  omega
theorem cutX_nil {fr dst a : Nat} : cutX [] fr dst a = [] := by unfold cutX; simp
theorem cutX_one {c fr dst a : Nat} (h1 : a < dst) (h2 : fr ≤ a) : cutX [c] fr dst a = [c] := by
  unfold cutX
  obtain ⟨k, hk⟩ : ∃ k, dst - a = k + 1 := ⟨dst - a - 1, by omega⟩
  rw [hk, show fr - a = 0 by omega]
  simp
theorem cutX_app (x y : List Nat) (fr dst a : Nat) : cutX (x ++ y) fr dst a = cutX x fr dst a ++ cutX y fr dst (a + x.length) := by
  unfold cutX
  rw [List.take_append, List.drop_append, List.length_take]
  congr 1
  by_cases h : x.length ≤ dst - a
  · rw [Nat.min_eq_right h, Nat.sub_sub, Nat.sub_sub]
  · rw [show dst - a - x.length = 0 by omega, show dst - (a + x.length) = 0 by omega]
    simp
theorem cutX_min {y : List Nat} {fr dst a : Nat} : cutX y fr dst (min a dst) = cutX y fr dst a := by
  by_cases h : a ≤ dst
  · rw [Nat.min_eq_left h]
  · rw [cutX_late (by omega), cutX_late (by omega)]
theorem cutX_whole (x : List Nat) (fr dst : Nat) : cutX x fr dst 0 = (x.take dst).drop fr := by unfold cutX; simp
theorem cutX_byte {x : List Nat} (h : ∀ c, c ∈ x → c < 256) {fr dst a : Nat} : ∀ c, c ∈ cutX x fr dst a → c < 256 := fun c hc => by
  unfold cutX at hc
  exact h c (List.mem_of_mem_take (List.mem_of_mem_drop hc))

end Go.Proofs.YtgifhgnccmnbiabGreatDoor

set_option linter.unusedVariables false
set_option linter.unusedSimpArgs false
namespace Go.Proofs.YtgifhgnccmnbiabGreatDoor
open Go.RowKit Go.IntWalk

/-- A text in block b, its lists somewhere: all below n. -/
structure TR (w : World) (n b : Nat) (t : TT) (rv sv : Value) : Prop where
  blk : Blk w b (t.cells rv sv) 86
  rules : w.ownsRow 0 221 6 rv t.rules.length (ruCells t.rules)
  start : w.ownsRow 0 3 1 sv t.start.length (symCells t.start)
  low : b < n
  rlow : ∀ g, rv.ownBlock = some g → g < n
  slow : ∀ g, sv.ownBlock = some g → g < n

theorem row_under {w w' : World} {n m base e z k : Nat} {v : Value} {xs : List Value} (h : w.ownsRow base e z v k xs) (hl : ∀ g, v.ownBlock = some g → g < n) (b : Below m w w') (hn : n ≤ m) : w'.ownsRow base e z v k xs := by
  refine ⟨h.1, ?_⟩
  rcases h.2 with h1 | ⟨g, cap, cur, h1, h2, h3, h4⟩
  · exact Or.inl h1
  · exact Or.inr ⟨g, cap, cur, h1, h2, (b.block g (by have := hl g (by rw [h1]; rfl); omega)).trans h3, h4⟩
section
variable {w w' : World} {n b : Nat} {t : TT} {rv sv : Value}
theorem TR.cell (h : TR w n b t rv sv) (j : Nat) : w.cell? ⟨b, j, none⟩ = (t.cells rv sv)[j]? := h.blk.cell j
theorem TR.under (h : TR w n b t rv sv) {m : Nat} (k : Below m w w') (hn : n ≤ m) : TR w' n b t rv sv :=
  ⟨(k.block b (by have := h.low; omega)).trans h.blk, row_under h.rules h.rlow k hn, row_under h.start h.slow k hn, h.low, h.rlow, h.slow⟩
theorem TR.kept (h : TR w n b t rv sv) (k : Kept [] w w') : TR w' n b t rv sv :=
  ⟨h.blk.kept k (by simp), row_stay (S := []) h.rules k (fun _ _ => by simp), row_stay (S := []) h.start k (fun _ _ => by simp), h.low, h.rlow, h.slow⟩
end

set_option maxHeartbeats 1000000 in
set_option maxRecDepth 100000 in
theorem ruleT_any {w : World} {n b : Nat} {t : TT} {rv sv : Value} (h : TR w n b t rv sv) (s : Nat) (hs : s ≤ 100000) (hl : t.rules.length ≤ 100000) :
    Calls Tryz.prog 144 #[.pointer (some ⟨b, 0, none⟩), .int .i64 (s : Int)] w fun e w' => e = .returned (ruleAt t.rules s).val ∧ Kept [] w w' := by
  have hk : Hid (∀ o1, Kept [] w (w.alloc o1)) := fun o1 => (Kept.refl [] w).alloc _
  have c2 : w.cell? ⟨b, 2, none⟩ = some rv := h.cell 2
  have hbw : b < w.heap.size := h.blk.lt
  by_cases h1 : (s : Int) - 256 < 0
  · have e : ruleAt t.rules s = ⟨0, 0, {}⟩ := by unfold ruleAt; rw [if_neg (by omega)]
    rw [e]
    unfold RU.val RU.cells
    clear h e c2
    go_enter Tryz.func144, Tryz.ntmps144
    go_wp2
    refine bodyPost_ret (v := .agg #[.int .i64 0, .int .i64 0, .int .i64 0, .int .i64 0, .int .i64 0, .int .i64 0]) (by simp [results, Tryz.results144, go_sem]) rfl ⟨rfl, hk.out _⟩
  · obtain ⟨k, rfl⟩ : ∃ k : Nat, s = k + 256 := ⟨s - 256, by omega⟩
    have hn : Hid (∀ x, t.rules[k]? = x → ruleAt t.rules ((k + 256 : Nat) : Int) = x.getD ⟨0, 0, {}⟩) := fun x hx => by
      unfold ruleAt; rw [if_pos (by omega), show (((k + 256 : Nat) : Int) - 256).toNat = k by omega, hx]
    clear h1
    by_cases h2 : k < t.rules.length
    · obtain ⟨x, hx⟩ : ∃ x, t.rules[k]? = some x := ⟨_, List.getElem?_eq_getElem h2⟩
      rw [hn.out _ hx]
      obtain ⟨g, cap, rfl⟩ := own_form h.rules (by omega)
      have hgw : g < w.heap.size := (h.rules.lt g rfl).2
      have hc : ∀ j, j < 6 → w.cell? ⟨g, k * 6 + j, none⟩ = x.cells[j]? := fun j hj => by
        obtain ⟨u, hu⟩ : ∃ u, x.cells[j]? = some u := ⟨_, List.getElem?_eq_getElem (by simp [RU.cells]; omega)⟩
        have := h.rules.cells (g := g) rfl (k * 6 + j) u (by rw [ruCells_get _ _ _ _ hx hj]; exact hu)
        rw [ptr_add] at this
        rw [this, hu]
      obtain ⟨l, r, ⟨p1, p2, p3, p4⟩⟩ := x
      have d0 : w.cell? ⟨g, k * 6, none⟩ = some (.int .i64 l) := hc 0 (by omega)
      have d1 : w.cell? ⟨g, k * 6 + 1, none⟩ = some (.int .i64 r) := hc 1 (by omega)
      have d2 : w.cell? ⟨g, k * 6 + 2, none⟩ = some (.int .i64 p1) := hc 2 (by omega)
      have d3 : w.cell? ⟨g, k * 6 + 3, none⟩ = some (.int .i64 p2) := hc 3 (by omega)
      have d4 : w.cell? ⟨g, k * 6 + 4, none⟩ = some (.int .i64 p3) := hc 4 (by omega)
      have d5 : w.cell? ⟨g, k * 6 + 5, none⟩ = some (.int .i64 p4) := hc 5 (by omega)
      show Calls _ _ _ _ (fun e w' => e = .returned (.agg #[.int .i64 l, .int .i64 r, .int .i64 p1, .int .i64 p2, .int .i64 p3, .int .i64 p4]) ∧ Kept [] w w')
      generalize t.rules.length = n0 at *
      have lt : (k : Int) < (n0 : Int) := by omega
      clear h hc hx hn
      go_enter Tryz.func144, Tryz.ntmps144
      go_wp2
      refine bodyPost_ret (v := .agg #[.int .i64 l, .int .i64 r, .int .i64 p1, .int .i64 p2, .int .i64 p3, .int .i64 p4]) (by simp [results, Tryz.results144, go_sem]) rfl ⟨rfl, hk.out _⟩
    · rw [hn.out none (List.getElem?_eq_none (by omega))]
      show Calls _ _ _ _ (fun e w' => e = .returned (.agg #[.int .i64 0, .int .i64 0, .int .i64 0, .int .i64 0, .int .i64 0, .int .i64 0]) ∧ Kept [] w w')
      have hv : ∃ a cap, rv = .slice a t.rules.length cap := by
        rcases h.rules.2 with ⟨h3, h4⟩ | ⟨g, cap, _, h3, _⟩
        · exact ⟨none, 0, by rw [h3, h4]⟩
        · exact ⟨_, cap, h3⟩
      obtain ⟨a, cap, rfl⟩ := hv
      generalize t.rules.length = n0 at *
      have lt : ¬ (k : Int) < (n0 : Int) := by omega
      clear h hn h2
      go_enter Tryz.func144, Tryz.ntmps144
      go_wp2
      refine bodyPost_ret (v := .agg #[.int .i64 0, .int .i64 0, .int .i64 0, .int .i64 0, .int .i64 0, .int .i64 0]) (by simp [results, Tryz.results144, go_sem]) rfl ⟨rfl, hk.out _⟩

set_option maxHeartbeats 1000000 in
set_option maxRecDepth 100000 in
theorem partT_any {w : World} {n b : Nat} {t : TT} {rv sv : Value} (h : TR w n b t rv sv) (s : Nat) (hs : s ≤ 100000) (hl : t.rules.length ≤ 100000) :
    Calls Tryz.prog 147 #[.pointer (some ⟨b, 0, none⟩), .int .i64 (s : Int)] w fun e w' => e = .returned (partAt t.rules s).val ∧ Kept [] w w' := by
  have hk : Kept [] w (w.alloc (.cells zero4 84)) := (Kept.refl [] w).alloc _
  have hfin : Hid (∀ w1, Kept [] (w.alloc (.cells zero4 84)) w1 → Blk w1 w.heap.size zero4 84 ∧ (∀ u0 u1 u2 u3, Blk ((((w1.setCell ⟨w.heap.size, 0, none⟩ u0).setCell ⟨w.heap.size, 1, none⟩ u1).setCell ⟨w.heap.size, 2, none⟩ u2).setCell ⟨w.heap.size, 3, none⟩ u3) w.heap.size #[u0, u1, u2, u3] 84) ∧ ∀ u0 u1 u2 u3, Kept [] w ((((w1.setCell ⟨w.heap.size, 0, none⟩ u0).setCell ⟨w.heap.size, 1, none⟩ u1).setCell ⟨w.heap.size, 2, none⟩ u2).setCell ⟨w.heap.size, 3, none⟩ u3)) := fun w1 k1 =>
    ⟨(Blk.new w _ _).kept k1 (by simp), fun u0 u1 u2 u3 => set4 ((Blk.new w _ _).kept k1 (by simp)) u0 u1 u2 u3, fun u0 u1 u2 u3 => kept4 (hk.trans k1) (Nat.le_refl _) u0 u1 u2 u3⟩
  by_cases h1 : (s : Int) < 256
  · have e : partAt t.rules s = byteP s := by unfold partAt; rw [if_pos (by omega)]
    rw [e]
    have hb : Hid (∀ w, Calls _ _ _ w _) := fun w => partOfByte_any s w
    clear e h hk
    generalize byteP s = p at *
    obtain ⟨p1, p2, p3, p4⟩ := p
    unfold PT.val PT.arr at hb ⊢
    unfold zero4 at hfin
    simp only [] at hb ⊢
    go_enter Tryz.func147, Tryz.ntmps147
    go_wp2_with fail
    refine (hb.out _).mono ?_
    rintro e w1 ⟨rfl, k1⟩
    obtain ⟨hb1, hS, hK⟩ := hfin.out _ k1
    have hS : Hid (∀ u0 u1 u2 u3, _) := hS
    have hK : Hid (∀ u0 u1 u2 u3, _) := hK
    have c0 : w1.cell? ⟨w.heap.size, 0, none⟩ = some (.int .i64 0) := hb1.cell 0
    have c1 : w1.cell? ⟨w.heap.size, 1, none⟩ = some (.int .i64 0) := hb1.cell 1
    have c2 : w1.cell? ⟨w.heap.size, 2, none⟩ = some (.int .i64 0) := hb1.cell 2
    have c3 : w1.cell? ⟨w.heap.size, 3, none⟩ = some (.int .i64 0) := hb1.cell 3
    have f0 : w1.frozen? ⟨w.heap.size, 0, none⟩ = false := hb1.frozen 0
    have f1 : w1.frozen? ⟨w.heap.size, 1, none⟩ = false := hb1.frozen 1
    have f2 : w1.frozen? ⟨w.heap.size, 2, none⟩ = false := hb1.frozen 2
    have f3 : w1.frozen? ⟨w.heap.size, 3, none⟩ = false := hb1.frozen 3
    clear hb1 k1 hb hfin
    go_wp2
    exact bodyPost_ret (v := .agg #[.int .i64 p1, .int .i64 p2, .int .i64 p3, .int .i64 p4]) (results_ppart Tryz.results147 _ _ w.heap.size ⟨p1, p2, p3, p4⟩ rfl (hS.out _ _ _ _)) rfl ⟨rfl, hK.out _ _ _ _⟩
  · have e : (ruleAt t.rules s).pt = partAt t.rules s := by
      unfold ruleAt partAt
      rw [if_pos (by omega), if_neg (by omega), show ((s : Int) - 256).toNat = s - 256 by omega]
      cases t.rules[s - 256]? <;> rfl
    have hr : Hid (Calls _ _ _ (w.alloc (.cells zero4 84)) _) := ruleT_any (h.kept hk) s hs hl
    rw [← e]
    clear e h hk
    generalize ruleAt t.rules (s : Int) = x at *
    obtain ⟨l, r, ⟨p1, p2, p3, p4⟩⟩ := x
    unfold RU.val RU.cells at hr
    unfold PT.val PT.arr
    unfold zero4 at hfin hr
    simp only [] at hr ⊢
    have hfp := field_part
    go_enter Tryz.func147, Tryz.ntmps147
    go_wp2_with fail
    refine hr.out.mono ?_
    rintro e w1 ⟨rfl, k1⟩
    obtain ⟨hb1, hS, hK⟩ := hfin.out _ k1
    have hS : Hid (∀ u0 u1 u2 u3, _) := hS
    have hK : Hid (∀ u0 u1 u2 u3, _) := hK
    have c0 : w1.cell? ⟨w.heap.size, 0, none⟩ = some (.int .i64 0) := hb1.cell 0
    have c1 : w1.cell? ⟨w.heap.size, 1, none⟩ = some (.int .i64 0) := hb1.cell 1
    have c2 : w1.cell? ⟨w.heap.size, 2, none⟩ = some (.int .i64 0) := hb1.cell 2
    have c3 : w1.cell? ⟨w.heap.size, 3, none⟩ = some (.int .i64 0) := hb1.cell 3
    have f0 : w1.frozen? ⟨w.heap.size, 0, none⟩ = false := hb1.frozen 0
    have f1 : w1.frozen? ⟨w.heap.size, 1, none⟩ = false := hb1.frozen 1
    have f2 : w1.frozen? ⟨w.heap.size, 2, none⟩ = false := hb1.frozen 2
    have f3 : w1.frozen? ⟨w.heap.size, 3, none⟩ = false := hb1.frozen 3
    clear hb1 k1 hr hfin
    go_wp2
    exact bodyPost_ret (v := .agg #[.int .i64 p1, .int .i64 p2, .int .i64 p3, .int .i64 p4]) (results_ppart Tryz.results147 _ _ w.heap.size ⟨p1, p2, p3, p4⟩ rfl (hS.out _ _ _ _)) rfl ⟨rfl, hK.out _ _ _ _⟩

end Go.Proofs.YtgifhgnccmnbiabGreatDoor
