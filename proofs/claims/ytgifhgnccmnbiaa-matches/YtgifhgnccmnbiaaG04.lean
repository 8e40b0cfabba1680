/- The document's answer: a part whose kids are still being gathered. -/
import Derived.Test.YtgifhgnccmnbiaaG03
set_option linter.unusedVariables false
set_option linter.unusedSimpArgs false
namespace Go.Proofs.Ytgifhgnccmnbiaa
open Go.RowKit Go.IntWalk

/-- A part at X, its kids 'cur' being gathered. -/
structure IP (w0 w : World) (b : Nat) (t : ByteArray) (F0 F : Nat → Prop) (st : RP) (adrs : List Nat) (cur : List Nat) (X : Nat) (kv : IV) (kind : Int) : Prop where
  rm : RM w b t st.1 st.2 adrs F
  sub : ∀ k, F0 k → F k
  new : ∀ k, F k → F0 k ∨ w0.heap.size ≤ k
  blk : Blk w X #[.int .i64 kind, .slice none 0 0, .bool false, .slice kv.1 kv.2.1 kv.2.2, .int .i64 0, .int .i64 0] 160
  row : w.ownsRow w0.heap.size 60 1 (ivV kv) cur.length (cur.map (ptrTo adrs))
  hX : w0.heap.size ≤ X ∧ ¬ F X
  hkv : ∀ g, (ivV kv).ownBlock = some g → ¬ F g
  kept : Kept [b] w0 w
  curOk : ∀ k, k ∈ cur → k < st.2.length

section
variable {w0 w w2 : World} {b X : Nat} {t : ByteArray} {F0 F : Nat → Prop} {st : RP} {adrs cur : List Nat} {kv : IV} {kind : Int} {s' : RS}

theorem IP.start {s : RS} {ps : List PN} (h : RM w b t s ps adrs F) (k : Nat) (hk : k = w.heap.size) (kind : Int) :
    IP w (w.alloc (.cells #[.int .i64 kind, .slice none 0 0, .bool false, .slice none 0 0, .int .i64 0, .int .i64 0] 160)) b t F F (s, ps) adrs [] k (none, 0, 0) kind := by
  subst hk
  have kk : Kept [b] w (w.alloc (.cells #[.int .i64 kind, .slice none 0 0, .bool false, .slice none 0 0, .int .i64 0, .int .i64 0] 160)) := (Kept.refl _ _).alloc _
  exact ⟨h.scan (h.rr.kept ((Kept.refl [] w).alloc _) (by simp)) kk, fun k hk => hk, fun k hk => Or.inl hk, Blk.new _ _ _, World.ownsRow_nil _ _ _ _, ⟨Nat.le_refl _, fun hf => by have := (h.old _ hf).1; omega⟩, fun g hg => (by cases hg), kk, fun k hk => (by cases hk)⟩

theorem IP.lt (h : IP w0 w b t F0 F st adrs cur X kv kind) : X < w.heap.size := h.blk.lt
theorem IP.ne (h : IP w0 w b t F0 F st adrs cur X kv kind) (hb : b < w0.heap.size) : X ≠ b := by have := h.hX.1; omega

theorem row_keep {S : List Nat} {base e z n : Nat} {v : Value} {xs : List Value} (h : w.ownsRow base e z v n xs) (k : Kept S w w2) (hg : ∀ g, v.ownBlock = some g → ¬ g ∈ S) : w2.ownsRow base e z v n xs := by
  refine ⟨h.1, ?_⟩
  rcases h.2 with h1 | ⟨g, cap, cur, h1, h2, h3, r⟩
  · exact Or.inl h1
  · exact Or.inr ⟨g, cap, cur, h1, h2, (k.block g (Array.getElem?_eq_some_iff.1 h3).1 (hg g (by rw [h1]; rfl))).trans h3, r⟩

theorem IP.scan (h : IP w0 w b t F0 F st adrs cur X kv kind) (hb : b < w0.heap.size) (r : RR w2 b t s') (k : Kept [b] w w2) : IP w0 w2 b t F0 F (s', st.2) adrs cur X kv kind :=
  ⟨h.rm.scan r k, h.sub, h.new, h.blk.kept k (by simpa using h.ne hb), row_keep h.row k (fun g hg => by have := (h.row.lt g hg).1; simp; omega), h.hX, h.hkv, h.kept.trans k, h.curOk⟩

/-- A callee has been at work. -/
theorem IP.call (h : IP w0 w b t F0 F st adrs cur X kv kind) (hb : b < w0.heap.size) {r : Nat × RP} {pv : Value} (m : RMem w w2 b t adrs F r pv) (hgrow : st.2.length ≤ r.2.2.length) :
    ∃ more F', IP w0 w2 b t F0 F' r.2 (adrs ++ more) cur X kv kind ∧ pv = ptrTo (adrs ++ more) r.1 ∧ r.1 < r.2.2.length := by
  obtain ⟨⟨more, F', h1, h2, h3, h4⟩, h5, h6⟩ := m
  refine ⟨more, F', ⟨h1, fun k hk => h2 k (h.sub k hk), fun k hk => ?_, h.blk.kept h5 (by simpa using h.ne hb), ?_, ⟨h.hX.1, fun hf => ?_⟩, fun g hg hf => ?_, h.kept.trans h5, fun k hk => Nat.lt_of_lt_of_le (h.curOk k hk) hgrow⟩, h4, h6⟩
  · rcases h3 k hk with h7 | h7
    · exact h.new k h7
    · exact Or.inr (Nat.le_trans h.kept.size h7)
  · have e : cur.map (ptrTo (adrs ++ more)) = cur.map (ptrTo adrs) := by
      apply List.map_congr_left
      intro k hk
      unfold ptrTo
      rw [getD_app (by rw [h.rm.len]; exact h.curOk k hk)]
    rw [e]
    exact row_keep h.row h5 (fun g hg => by have := (h.row.lt g hg).1; simp; omega)
  · rcases h3 X hf with h7 | h7
    · exact h.hX.2 h7
    · have := h.lt; omega
  · rcases h3 g hf with h7 | h7
    · exact h.hkv g hg h7
    · have := (h.row.lt g hg).2; omega

/-- One kid more has been appended. -/
theorem IP.app (h : IP w0 w b t F0 F st adrs cur X kv kind) (hb : b < w0.heap.size) (o : Obj) (k : Nat) (hk : k < st.2.length) (v' : Value) {w3 : World}
    (hown : w3.ownsRow w0.heap.size 60 1 v' (cur.length + 1) (cur.map (ptrTo adrs) ++ [ptrTo adrs k])) (hgrow : (w.alloc o).grownBy w3 (ivV kv).ownBlock)
    (hpl : v'.ownBlock = (ivV kv).ownBlock ∨ ∀ g, v'.ownBlock = some g → (w.alloc o).heap.size ≤ g) :
    ∃ kv' : IV, v' = .slice kv'.1 kv'.2.1 kv'.2.2 ∧ (∃ y, kv'.1 = some y) ∧ Blk w3 X #[.int .i64 kind, .slice none 0 0, .bool false, .slice kv.1 kv.2.1 kv.2.2, .int .i64 0, .int .i64 0] 160 ∧
      IP w0 (w3.setCell ⟨X, 3, none⟩ (.slice kv'.1 kv'.2.1 kv'.2.2)) b t F0 F st adrs (cur ++ [k]) X kv' kind := by
  obtain ⟨g, cap, rfl⟩ := own_form hown (by omega)
  have hbX := h.ne hb
  have hXlt := h.lt
  have hrow := h.row
  have hge : ∀ g, (ivV kv).ownBlock = some g → w0.heap.size ≤ g ∧ g < w.heap.size := fun g hg => hrow.lt g hg
  have hXne : ∀ g, (ivV kv).ownBlock = some g → g ≠ X := fun g hg hc => by
    subst hc
    rcases hrow.2 with ⟨h1, _⟩ | ⟨g', cap', cu, h1, _, h3, _⟩
    · rw [h1] at hg; cases hg
    · rw [h1] at hg
      simp only [Value.ownBlock, Option.some.injEq] at hg
      subst hg
      have h5 := h.blk
      unfold Blk at h5
      rw [h3] at h5
      simp at h5
  have bl : ∀ i, i < w.heap.size → some i ≠ (ivV kv).ownBlock → w3.heap[i]? = w.heap[i]? := fun i hi hne => by
    rw [hgrow.block i (by simp; omega) hne, Below.heap_alloc _ _ _ hi]
  have hs3 : w.heap.size ≤ w3.heap.size := by have := hgrow.size; simp at this; omega
  have blkX : Blk w3 X #[.int .i64 kind, .slice none 0 0, .bool false, .slice kv.1 kv.2.1 kv.2.2, .int .i64 0, .int .i64 0] 160 := (bl X hXlt (fun hc => hXne X hc.symm rfl)).trans h.blk
  have rr3 : RR w3 b t st.1 := ⟨(bl b h.rm.rr.blk.lt (fun hc => by have := (hge b hc.symm).1; omega)).trans h.rm.rr.blk, h.rm.rr.fits, h.rm.rr.small⟩
  have hgX : g ≠ X := fun hc => by
    subst hc
    rcases hown.2 with ⟨h1, _⟩ | ⟨g', cap', cu, h1, _, h3, _⟩
    · cases h1
    · simp only [Value.slice.injEq, Option.some.injEq, Addr.mk.injEq] at h1
      obtain ⟨⟨h1, _⟩, _⟩ := h1
      subst h1
      have h5 := blkX
      unfold Blk at h5
      rw [h3] at h5
      simp at h5
  have hgF : ¬ F g := fun hf => by
    rcases hpl with hpl | hpl
    · exact h.hkv g (by rw [← hpl]; rfl) hf
    · have := hpl g rfl
      have := (h.rm.old g hf).1
      simp at *
      omega
  refine ⟨(some ⟨g, 0, none⟩, cur.length + 1, cap), rfl, ⟨_, rfl⟩, blkX, ?_⟩
  refine ⟨?_, h.sub, h.new, blkX.set 3 _, ?_, h.hX, fun g' hg' hf => ?_, ?_, fun i hi => ?_⟩
  · refine h.rm.frame (fun i hi => ?_) ⟨Blk.other rr3.blk _ _ (Ne.symm hbX), rr3.fits, rr3.small⟩ (by simpa [World.setCell] using hs3)
    rw [Below.heap_setCell _ _ _ _ (by rintro rfl; exact h.hX.2 hi)]
    exact bl i (h.rm.old i hi).1 (fun hc => h.hkv i hc.symm hi)
  · have h1 : (w3.setCell ⟨X, 3, none⟩ (.slice (some ⟨g, 0, none⟩) (cur.length + 1) cap)).ownsRow w0.heap.size 60 1 (.slice (some ⟨g, 0, none⟩) (cur.length + 1) cap) (cur.length + 1) (cur.map (ptrTo adrs) ++ [ptrTo adrs k]) :=
      row_keep (S := [X]) hown ((Kept.refl _ _).setCell (by simp) _) (fun g' hg' => by simp [Value.ownBlock] at hg'; subst hg'; simpa using hgX)
    rw [List.map_append, List.length_append]
    exact h1
  · simp [ivV, Value.ownBlock] at hg'; subst hg'; exact hgF hf
  · refine Kept.setCell ?_ (Or.inr h.hX.1) _
    refine ⟨hgrow.os.trans h.kept.os, hgrow.tape.trans h.kept.tape, hgrow.output.trans h.kept.output, Nat.le_trans h.kept.size hs3, fun i hi hs => ?_⟩
    rw [bl i (Nat.lt_of_lt_of_le hi h.kept.size) (fun hc => by have := (hge i hc.symm).1; omega)]
    exact h.kept.block i hi hs
  · rcases List.mem_append.1 hi with hi | hi
    · exact h.curOk i hi
    · simp at hi; subst hi; exact hk

/-- The part is whole. -/
theorem IP.fin {adrs0 more : List Nat} (h : IP w0 w b t F0 F st (adrs0 ++ more) cur X kv kind) (hb : b < w0.heap.size) (hkind : 3 < kind) :
    RMem w0 w b t adrs0 F0 (pushP { kind := kind, kids := cur } st) (.pointer (some ⟨X, 0, none⟩)) := by
  have hX := h.hX.1
  refine ⟨⟨more ++ [X], fun x => F x ∨ x = X ∨ (ivV kv).ownBlock = some x, ?_, fun x hx => Or.inl (h.sub x hx), fun x hx => ?_, ?_⟩, h.kept, by simp [pushP]⟩
  · rw [← List.append_assoc]
    refine RM.push h.rm (fun x hx => Or.inl hx) (fun x hx => ?_) h.curOk (iv := (none, 0, 0)) (kv := kv) ⟨h.blk, Or.inr (Or.inl rfl), Or.inr ⟨hkind, rfl⟩, own_base h.row (Nat.zero_le _), fun g hg => Or.inr (Or.inr hg)⟩
    rcases hx with hx | rfl | hx
    · exact h.rm.old x hx
    · exact ⟨h.lt, by omega⟩
    · have := h.row.lt x hx; exact ⟨this.2, by omega⟩
  · rcases hx with hx | rfl | hx
    · exact h.new x hx
    · exact Or.inr hX
    · exact Or.inr (h.row.lt x hx).1
  · have e : ((adrs0 ++ (more ++ [X])).getD st.2.length 0) = X := by
      rw [← List.append_assoc, ← h.rm.len]; simp [List.getD]
    simp only [pushP, ptrTo, e]
end

end Go.Proofs.Ytgifhgnccmnbiaa

set_option linter.unusedVariables false
set_option linter.unusedSimpArgs false
namespace Go.Proofs.Ytgifhgnccmnbiaa
open Go.RowKit Go.IntWalk

theorem infoPtr : (Try.prog.info? 60).map (fun i => (i.zero, i.size, i.bytes)) = some (some (.pointer none), 1, 8) := by kernel_rfl

theorem stands2c (b : Nat) (t : ByteArray) (s : RS) (w : World) (h : RR w b t s) :
    Calls Try.prog 91 #[.pointer (some ⟨b, 0, none⟩), .string ⟨#[124, 41]⟩] w fun e w' => e = .returned (.bool (stB t s [124, 41])) ∧ RR w' b t s ∧ Kept [b] w w' := stands_any b t s _ w h (by decide)

theorem RMem.grow {w w' : World} {b : Nat} {t : ByteArray} {adrs : List Nat} {F : Nat → Prop} {r : Nat × RP} {pv : Value} (h : RMem w w' b t adrs F r pv) {n : Nat} (hn : adrs.length = n) : n ≤ r.2.2.length := by
  obtain ⟨⟨more, F', h1, _⟩, _⟩ := h
  rw [← h1.len, ← hn]
  simp

theorem moreR_true {t : ByteArray} {s : RS} (h : moreR t s = true) : s.1 < t.size := by
  simp only [moreR, Bool.and_eq_true, decide_eq_true_eq] at h
  exact h.1.2

set_option maxHeartbeats 8000000 in
set_option maxRecDepth 100000 in
theorem rchoice_step (t : ByteArray) (m : Nat) (H : RChC t m) : RChC t (m + 1) := by
  intro b s ps adrs F w hpm h
  obtain ⟨i0, hi0, hz0, hz1, hz2⟩ := info_parts infoPtr
  have hbw : b < w.heap.size := h.rr.blk.lt
  have hsm : Hid (t.size ≤ 40) := h.rr.small
  have hI0 := IP.start h w.heap.size rfl 5
  obtain ⟨X, hX⟩ : ∃ X, X = w.heap.size := ⟨_, rfl⟩
  rw [← hX] at hI0
  have hXH : Hid (_ = _) := hX
  clear hX
  go_enter Try.func63, Try.ntmps63
  go_wp2_with fail
  rw [← hXH.out]
  go_loopw [7] (fun _ wr => ∃ st' adrs' F' cur kv, IP w wr b t F F' st' adrs' cur X kv 5 ∧ (∃ more, adrs' = adrs ++ more) ∧ (∀ r', EvR t 0 cur st' r' → EvR t 0 [] (s, ps) r') ∧ s.1 ≤ st'.1.1 ∧ cur.length ≤ st'.1.1) (fun _ wr => restW wr b)
  case atStart => exact ⟨(s, ps), adrs, F, [], (none, 0, 0), hI0, ⟨[], by simp⟩, fun r' e => e, Nat.le_refl _, Nat.zero_le _⟩
  case round =>
    obtain ⟨st', adrs', F', cur, ⟨ko, kl, kc⟩, hI, ⟨more, hmore⟩, ev, hge, hcl⟩ := hrel
    have evH : Hid (∀ r', _) := ev
    have hmoreH : Hid (_ = _) := hmore
    clear ev hmore hI0
    obtain ⟨wo, rfl⟩ : ∃ wo : World, wo = wr := ⟨_, rfl⟩
    have hrw : Hid (_ = _) := restW_eq hI.rm.rr
    have hbo : b < wo.heap.size := hI.rm.rr.blk.lt
    have hB0 := IP.start hI.rm wo.heap.size rfl 4
    obtain ⟨B, hB⟩ : ∃ B, B = wo.heap.size := ⟨_, rfl⟩
    rw [← hB] at hB0
    have hBH : Hid (_ = _) := hB
    clear hB
    go_wp2_with fail
    rw [← hBH.out]
    refine (stands2c b t _ _ hB0.rm.rr).mono ?_
    rintro e2 w2 ⟨rfl, r2, k2⟩
    have hB2 := hB0.scan hbo r2 k2
    clear hB0 r2 k2
    go_wp2_with fail
    go_loopw [5] (fun en wr => ∃ st2 adrs2 F2 cur2 kv2, en = .bool (stB t st2.1 [124, 41]) ∧ IP wo wr b t F' F2 st2 adrs2 cur2 B kv2 4 ∧ (∃ more, adrs2 = adrs' ++ more) ∧ (∀ r', EvR t 1 cur2 st2 r' → EvR t 1 [] st' r') ∧ st'.1.1 ≤ st2.1.1 ∧ cur2.length ≤ st2.1.1) (fun _ wr => restW wr b)
    case atStart => exact ⟨st', adrs', F', [], (none, 0, 0), rfl, hB2, ⟨[], by simp⟩, fun r' e => e, Nat.le_refl _, Nat.zero_le _⟩
    case round =>
      obtain ⟨st2, adrs2, F2, cur2, ⟨jo, jl, jc⟩, rfl, hP, ⟨more2, hmore2⟩, ev2, hge2, hcl2⟩ := hrel
      have ev2H : Hid (∀ r', _) := ev2
      have hmore2H : Hid (_ = _) := hmore2
      clear ev2 hmore2 hB2
      have hrw2 : Hid (_ = _) := restW_eq hP.rm.rr
      have c0 := hP.rm.rr.c0
      have c1 := hP.rm.rr.c1
      go_upto_region 4 with fail
      go_cut [5, 30] (fun s5 s30 wx => s5 = .bool (stB t st2.1 [124, 41]) ∧ s30 = .bool (moreR t st2.1) ∧ wx = wr)
      case first =>
        cases he : stB t st2.1 [124, 41] with
        | true =>
          have e : Hid (moreR t st2.1 = false) := by show moreR t st2.1 = false; unfold moreR; rw [he]; rfl
          go_wp2
          go_meet
          exact ⟨by rw [he], by rw [e.out], rfl⟩
        | false =>
          by_cases hp : st2.1.1 < t.size
          · have hl : (0 : Int) < ((sfx t st2.1.1).size : Int) := by rw [sfx_size]; omega
            have hd : decide (st2.1.1 < t.size) = true := by simpa using hp
            have e : Hid (moreR t st2.1 = !st2.1.2) := by show moreR t st2.1 = !st2.1.2; unfold moreR; rw [he, hd]; rfl
            clear hd
            go_wp2
            go_meet
            exact ⟨by rw [he], by rw [e.out], rfl⟩
          · have hl : ¬ (0 : Int) < ((sfx t st2.1.1).size : Int) := by rw [sfx_size]; omega
            have hd : decide (st2.1.1 < t.size) = false := by simpa using hp
            have e : Hid (moreR t st2.1 = false) := by show moreR t st2.1 = false; unfold moreR; rw [he, hd]; rfl
            clear hd
            go_wp2
            go_meet
            exact ⟨by rw [he], by rw [e.out], rfl⟩
      case rest =>
        obtain ⟨rfl, rfl, rfl⟩ := hcut
        have hfit2 := hP.rm.rr.fits
        simp only [Fits] at hfit2
        have hBne : B ≠ b := hP.ne hbo
        -- what the branch comes to, if it ends here
        have hP' := hP
        rw [hmore2H.out] at hP'
        have mB := hP'.fin hbo (by decide)
        obtain ⟨more3, F3, hI3, hpv, hidx⟩ := hI.call hbw mB (mB.grow hI.rm.len)
        clear hP'
        have x3 := hI3.blk.cell 3
        have xf := hI3.blk.frozen 3
        have hpvH : Hid (_ = _) := hpv
        clear hpv mB
        go_wp2_with (at_builtin; refine wpList_append_placed rfl (.tmp 49) (.tmp 51) 158 rfl w.heap.size 60 i0 _ 1 8 Try.underlying158 hi0 hz0 hz1 hz2 rfl (by decide) (ivV (ko, kl, kc)) cur.length (cur.map (ptrTo (adrs' ++ more3))) rfl ?own ⟨wc.heap.size, 0, none⟩ 1 1 [.pointer (some ⟨B, 0, none⟩)] rfl rfl ?n1 ?n2 ?b1 ?b2 ?b3 ?kk)
        · have hmo : moreR t st2.1 = true := by assumption
          have hlt := moreR_true hmo
          have hpc : Hid (Calls _ _ _ _ _) := rpiece_any m b t st2.1 st2.2 adrs2 F2 _ H hP.rm hlt (by omega)
          refine hpc.out.mono ?_
          clear hpc
          rintro e4 w4 ⟨r4, pv4, rfl, ev4, m4, hlt4⟩
          obtain ⟨more4, F4, hP4, hpv4, hidx4⟩ := hP.call hbo m4 (m4.grow hP.rm.len)
          obtain ⟨x4, hx4⟩ := m4.ptr
          subst hx4
          have z3 := hP4.blk.cell 3
          have zf := hP4.blk.frozen 3
          have hpv4H : Hid (_ = _) := hpv4
          clear hpv4 hpvH hI3 x3 xf m4 c0 c1
          go_wp2_with (at_builtin; refine wpList_append_placed rfl (.tmp 37) (.tmp 39) 158 rfl wo.heap.size 60 i0 _ 1 8 Try.underlying158 hi0 hz0 hz1 hz2 rfl (by decide) (ivV (jo, jl, jc)) cur2.length (cur2.map (ptrTo (adrs2 ++ more4))) rfl ?pown ⟨w4.heap.size, 0, none⟩ 1 1 [.pointer (some ⟨x4, 0, none⟩)] rfl rfl ?pn1 ?pn2 ?pb1 ?pb2 ?pb3 ?pkk)
          case pown => exact hP4.row.alloc _
          case pn1 => exact cells_new _ _ _ _ rfl
          case pn2 => simp [Value.oneCell']
          case pb1 => unfold maxLen; have := hsm.out; omega
          case pb2 => have := hsm.out; omega
          case pb3 => have := hP4.kept.size; simp; omega
          case pkk =>
            intro v' w5 hown hgrow hpl
            rw [hpv4H.out] at hown
            obtain ⟨⟨qo, ql, qc⟩, rfl, ⟨y, hy⟩, hbX, hP5⟩ := hP4.app hbo _ _ hidx4 v' hown hgrow (hpl.imp id (fun hx g hg => by have := hx g hg; simpa using this))
            simp only [] at hy
            subst hy
            have y3 := hbX.cell 3
            have yf := hbX.frozen 3
            have hrr5 : RR (w5.setCell ⟨B, 3, none⟩ (.slice (some y) ql qc)) b t r4.2.1 := hP5.rm.rr
            have ev5 : Hid (∀ r', EvR t 1 (cur2 ++ [r4.1]) r4.2 r' → EvR t 1 [] st' r') := fun r' e => ev2H.out r' (EvR.branchOn hmo ev4 e)
            go_wp2_with fail
            refine (stands2c b t _ _ hrr5).mono ?_
            rintro e6 w6 ⟨rfl, r6, k6⟩
            have hP6 := hP5.scan hbo r6 k6
            have hrw6 : Hid (_ = _) := restW_eq r6
            have hfit6 := r6.fits
            simp only [Fits] at hfit6
            go_wp2
            refine ⟨⟨_, _, _, _, _, rfl, hP6, ⟨more2 ++ more4, by rw [hmore2H.out, List.append_assoc]⟩, ev5.out, ?_, ?_⟩, ?_⟩
            · show st'.1.1 ≤ r4.2.1.1; omega
            · show (cur2 ++ [_]).length ≤ r4.2.1.1
              simp; omega
            · rw [hrw6.out, hrw2.out]; omega
        case own => exact hI3.row.alloc _
        case n2 => simp [Value.oneCell']
        case b1 => unfold maxLen; have := hsm.out; omega
        case b2 => have := hsm.out; omega
        case b3 => have := hI3.kept.size; simp; omega
        case kk =>
          have hmo : moreR t st2.1 = false := by assumption
          intro v' w5 hown hgrow hpl
          rw [hpvH.out] at hown
          obtain ⟨⟨qo, ql, qc⟩, rfl, ⟨y, hy⟩, hbX, hI5⟩ := hI3.app hbw _ _ hidx v' hown hgrow (hpl.imp id (fun hx g hg => by have := hx g hg; simpa using this))
          simp only [] at hy
          subst hy
          have y3 := hbX.cell 3
          have yf := hbX.frozen 3
          have evB : EvR t 1 [] st' (pushP { kind := 4, kids := cur2 } st2) := ev2H.out _ (EvR.branchEnd hmo)
          have hpB : (pushP { kind := 4, kids := cur2 } st2).2.1 = st2.1 := rfl
          have hrrB : RR (w5.setCell ⟨X, 3, none⟩ (.slice (some y) ql qc)) b t st2.1 := hI5.rm.rr
          clear hpB
          go_wp2_with fail
          refine (rnext_any b 124 t _ _ hrrB (by omega) (by omega)).mono ?_
          rintro e6 w6 ⟨rfl, r6, k6⟩
          have hI6 := hI5.scan hbw r6 k6
          have d1 := r6.c1
          have hfit6 := r6.fits
          simp only [Fits] at hfit6
          have hend : ((takeS t 124 st2.1).1 = false ∨ (takeS t 124 st2.1).2.2 = true) → Hid (∃ (r : Nat × RP) (pv : Value), Value.pointer (some ⟨X, 0, none⟩) = pv ∧ EvR t 0 [] (s, ps) r ∧ RMem w w6 b t adrs F r pv ∧ s.1 ≤ r.2.1.1) := by
            intro hor
            have ev0 := evH.out _ (EvR.choiceEnd (cur := cur) evB hor)
            have hI7 := hI6
            rw [hmoreH.out, List.append_assoc] at hI7
            exact ⟨_, _, rfl, ev0, hI7.fin hbw (by decide), by
              show s.1 ≤ (takeS t 124 st2.1).2.1
              exact Nat.le_trans (Nat.le_trans hge hge2) take_ge⟩
          cases hm : (takeS t 124 st2.1).1 with
          | false =>
            have hx := hend (Or.inl hm)
            clear hend
            go_wp2
            go_ret
            obtain ⟨r, pv, h1, h2⟩ := hx.out
            exact ⟨r, pv, congrArg Ending.returned h1, h2⟩
          | true =>
            cases hb6 : (takeS t 124 st2.1).2.2 with
            | true =>
              have hx := hend (Or.inr hb6)
              rw [hb6] at d1
              clear hend
              go_wp2
              go_ret
              obtain ⟨r, pv, h1, h2⟩ := hx.out
              exact ⟨r, pv, congrArg Ending.returned h1, h2⟩
            | false =>
              have hgt := take_gt hm
              have ev7 : Hid (∀ r', EvR t 0 (cur ++ [(pushP { kind := 4, kids := cur2 } st2).1]) ((takeS t 124 st2.1).2, (pushP { kind := 4, kids := cur2 } st2).2.2) r' → EvR t 0 [] (s, ps) r') :=
                fun r' e => evH.out r' (EvR.choiceOn evB (by
                  show ¬ ((takeS t 124 st2.1).1 = false ∨ (takeS t 124 st2.1).2.2 = true)
                  rw [hm, hb6]; simp) e)
              have hrw6 : Hid (_ = _) := restW_eq r6
              rw [hb6] at d1
              clear hend
              go_wp2
              refine ⟨⟨_, _, _, _, _, hI6, ⟨more ++ more3, by rw [hmoreH.out, List.append_assoc]⟩, ev7.out, ?_, ?_⟩, ?_⟩
              · show s.1 ≤ (takeS t 124 st2.1).2.1; omega
              · show (cur ++ [_]).length ≤ (takeS t 124 st2.1).2.1
                simp; omega
              · rw [hrw6.out, hrw.out]; omega

theorem rchoice_any (t : ByteArray) : ∀ m, RChC t m
  | 0 => fun _ _ _ _ _ _ h => by omega
  | m + 1 => rchoice_step t m (rchoice_any t m)

end Go.Proofs.Ytgifhgnccmnbiaa

set_option linter.unusedVariables false
set_option linter.unusedSimpArgs false
namespace Go.Proofs.Ytgifhgnccmnbiaa
open Go.RowKit Go.IntWalk

def sizeK (p : PN) (n : Int) : Int :=
  if p.kind = 1 ∨ p.kind = 2 ∨ p.kind = 3 then 1
  else if p.kind = 4 then (if n < 1 then 1 else n)
  else if p.kind = 6 then (if 1 < p.most then wrap64 (n * p.most) else if p.most < 0 ∧ 1 < p.least then wrap64 (n * p.least) else n)
  else n
def sizeG (ps : List PN) : Nat → Nat → Int
  | 0, _ => 0
  | f + 1, i => match ps[i]? with
    | none => 0
    | some p => sizeK p (p.kids.foldl (fun n k => wrap64 (n + sizeG ps f k)) 0)

/-- The parts, to be read alone. -/
def PM (w : World) (ps : List PN) (adrs : List Nat) : Prop :=
  ∀ (i : Nat) (p : PN), ps[i]? = some p → (∀ k, k ∈ p.kids → k < i) ∧ ∃ F iv kv, PartOk w F adrs p (adrs.getD i 0) iv kv

theorem sizeG_more (ps : List PN) (hk : ∀ (i : Nat) (p : PN), ps[i]? = some p → ∀ k, k ∈ p.kids → k < i) : ∀ (f g i : Nat), i < f → i < g → sizeG ps f i = sizeG ps g i
  | 0, _, _, h, _ => by omega
  | _ + 1, 0, _, _, h => by omega
  | f + 1, g + 1, i, h1, h2 => by
    rw [sizeG, sizeG]
    cases hp : ps[i]? with
    | none => rfl
    | some p =>
      simp only []
      congr 1
      have : ∀ (l : List Nat) (n : Int), (∀ k, k ∈ l → k < i) → l.foldl (fun n k => wrap64 (n + sizeG ps f k)) n = l.foldl (fun n k => wrap64 (n + sizeG ps g k)) n := by
        intro l
        induction l with
        | nil => intro n _; rfl
        | cons x r ih =>
          intro n hl
          rw [List.foldl_cons, List.foldl_cons, sizeG_more ps hk f g x (by have := hl x (by simp); omega) (by have := hl x (by simp); omega)]
          exact ih _ (fun k hk => hl k (by simp [hk]))
      exact this p.kids 0 (hk i p hp)

set_option maxHeartbeats 2000000 in
set_option maxRecDepth 100000 in
theorem rsize_step (ps : List PN) (adrs : List Nat) (w : World) (hm : PM w ps adrs) (i : Nat) (p : PN) (hp : ps[i]? = some p)
    (ih : ∀ k, k < i → Calls Try.prog 64 #[ptrTo adrs k] w fun e w' => e = .returned (.int .i64 (sizeG ps i k)) ∧ w' = w) :
    Calls Try.prog 64 #[ptrTo adrs i] w fun e w' => e = .returned (.int .i64 (sizeG ps (i + 1) i)) ∧ w' = w := by
  obtain ⟨hk, F, iv, kv, po⟩ := hm i p hp
  have hsz : Hid (sizeG ps (i + 1) i = sizeK p (p.kids.foldl (fun n k => wrap64 (n + sizeG ps i k)) 0)) := by
    show sizeG ps (i + 1) i = _
    rw [sizeG, hp]
  have hl : p.kids.length ≤ maxLen := by
    rcases po.kids.2 with ⟨_, h2⟩ | ⟨g, cap, cu, _, _, _, h4, h5, _⟩
    · omega
    · omega
  unfold maxLen at hl
  have ihH : Hid (∀ k, k < i → _) := ih
  clear ih hm hp
  obtain ⟨a, ha⟩ : ∃ a, a = adrs.getD i 0 := ⟨_, rfl⟩
  rw [← ha] at po
  have e : ptrTo adrs i = .pointer (some ⟨a, 0, none⟩) := by rw [ha]; rfl
  rw [e]
  clear e ha
  have c0 := po.blk.cell 0
  have c3 := po.blk.cell 3
  have c4 := po.blk.cell 4
  have c5 := po.blk.cell 5
  have hlen : kv.2.1 = p.kids.length := by
    rcases po.kids.2 with ⟨h1, h2⟩ | ⟨g, cap, cu, h1, _⟩
    · simp [ivV] at h1; rw [h1.2.1, h2]
    · simp [ivV] at h1; exact h1.2.1
  obtain ⟨ko, kl, kc⟩ := kv
  simp only [] at hlen c3
  subst hlen
  have hcell : ∀ j, j < p.kids.length → ∃ g, ko = some ⟨g, 0, none⟩ ∧ w.cell? ⟨g, j, none⟩ = some (ptrTo adrs (p.kids.getD j 0)) ∧ j < kc := by
    intro j hj
    rcases po.kids.2 with ⟨h1, h2⟩ | ⟨g, cap, cu, h1, h2, h3, h4, _⟩
    · omega
    · simp [ivV] at h1
      have hc := po.kids.cells (g := g) (by simp [ivV, h1.1, Value.ownBlock]) j (ptrTo adrs (p.kids.getD j 0)) (by simp [List.getD, hj])
      refine ⟨g, h1.1, ?_, by rw [h1.2]; omega⟩
      rwa [show (⟨g, 0, none⟩ : Addr).add j = ⟨g, j, none⟩ by unfold Addr.add; split <;> simp_all] at hc
  have hcellH : Hid (∀ j, j < p.kids.length → _) := hcell
  clear po hcell
  go_enter Try.func64, Try.ntmps64
  go_wp2_with fail
  go_loop [3, 4] (fun n j => ∃ c : Nat, c ≤ p.kids.length ∧ j = .int .i64 (c : Int) ∧ n = .int .i64 ((p.kids.take c).foldl (fun n k => wrap64 (n + sizeG ps i k)) 0)) (fun _ j => p.kids.length - (intOf j).toNat)
  case atStart => exact ⟨0, Nat.zero_le _, rfl, rfl⟩
  case round =>
    obtain ⟨c, hc, rfl, rfl⟩ := hrel
    by_cases hlt : c < p.kids.length
    · obtain ⟨g, rfl, hcj, hck⟩ := hcellH.out c hlt
      have hget : p.kids.getD c 0 = p.kids[c] := by simp [List.getD, hlt]
      have hki := hk (p.kids.getD c 0) (by rw [hget]; exact List.getElem_mem hlt)
      have hnext : Hid ((p.kids.take (c + 1)).foldl (fun n k => wrap64 (n + sizeG ps i k)) 0 = wrap64 ((p.kids.take c).foldl (fun n k => wrap64 (n + sizeG ps i k)) 0 + sizeG ps i (p.kids.getD c 0))) := by
        show _ = _
        rw [List.take_succ_eq_append_getElem hlt, List.foldl_append, hget]
        rfl
      clear hget
      generalize p.kids.getD c 0 = kk at *
      have ihc : Hid (Calls _ _ _ _ _) := ihH.out _ hki
      obtain ⟨y, hy⟩ : ∃ y, ptrTo adrs kk = .pointer (some ⟨y, 0, none⟩) := ⟨_, rfl⟩
      rw [hy] at hcj
      have hyH : Hid (_ = _) := hy
      clear hy
      generalize (p.kids.take c).foldl (fun n k => wrap64 (n + sizeG ps i k)) 0 = acc at *
      go_wp2_with fail
      rw [← hyH.out]
      refine ihc.out.mono ?_
      rintro e w2 ⟨rfl, rfl⟩
      go_wp2
      refine ⟨⟨c + 1, by omega, by go_num, by rw [hnext.out]⟩, by simp [intOf]; omega⟩
    · have hc2 : c = p.kids.length := by omega
      subst hc2
      rw [List.take_of_length_le (Nat.le_refl _)] at *
      generalize p.kids.foldl (fun n k => wrap64 (n + sizeG ps i k)) 0 = acc at *
      clear hk hcellH ihH
      by_cases k1 : p.kind = 1
      · have e : Hid (sizeK p acc = 1) := if_pos (Or.inl k1)
        go_wp2
        go_ret
        exact ⟨ret_int (by rw [hsz.out, e.out]), rfl⟩
      have b1 : (p.kind == 1) = false := by simpa using k1
      by_cases k2 : p.kind = 2
      · have e : Hid (sizeK p acc = 1) := if_pos (Or.inr (Or.inl k2))
        go_wp2
        go_ret
        exact ⟨ret_int (by rw [hsz.out, e.out]), rfl⟩
      have b2 : (p.kind == 2) = false := by simpa using k2
      by_cases k3 : p.kind = 3
      · have e : Hid (sizeK p acc = 1) := if_pos (Or.inr (Or.inr k3))
        go_wp2
        go_ret
        exact ⟨ret_int (by rw [hsz.out, e.out]), rfl⟩
      have b3 : (p.kind == 3) = false := by simpa using k3
      by_cases k4 : p.kind = 4
      · have e : Hid (sizeK p acc = if acc < 1 then 1 else acc) := by show sizeK p acc = _; unfold sizeK; rw [if_neg (by omega), if_pos k4]
        by_cases l : acc < 1
        · go_wp2
          go_ret
          exact ⟨ret_int (by rw [hsz.out, e.out, if_pos l]), rfl⟩
        · go_wp2
          go_ret
          exact ⟨ret_int (by rw [hsz.out, e.out, if_neg (by omega)]), rfl⟩
      have b4 : (p.kind == 4) = false := by simpa using k4
      by_cases k6 : p.kind = 6
      · have e : Hid (sizeK p acc = if 1 < p.most then wrap64 (acc * p.most) else if p.most < 0 ∧ 1 < p.least then wrap64 (acc * p.least) else acc) := by
          show sizeK p acc = _; unfold sizeK; rw [if_neg (by omega), if_neg k4, if_pos k6]
        clear k1 k2 k3 k4 b1 b2 b3 b4
        by_cases l : 1 < p.most
        · go_wp2
          go_ret
          exact ⟨ret_int (by rw [hsz.out, e.out, if_pos l]), rfl⟩
        by_cases l2 : p.most < 0
        · by_cases l3 : 1 < p.least
          · go_wp2
            go_ret
            exact ⟨ret_int (by rw [hsz.out, e.out, if_neg (by omega), if_pos ⟨l2, l3⟩]), rfl⟩
          · go_wp2
            go_ret
            exact ⟨ret_int (by rw [hsz.out, e.out, if_neg (by omega), if_neg (by omega)]), rfl⟩
        · go_wp2
          go_ret
          exact ⟨ret_int (by rw [hsz.out, e.out, if_neg (by omega), if_neg (by omega)]), rfl⟩
      · have e : Hid (sizeK p acc = acc) := by show sizeK p acc = _; unfold sizeK; rw [if_neg (by omega), if_neg k4, if_neg k6]
        have b6 : (p.kind == 6) = false := by simpa using k6
        clear k1 k2 k3 k4 k6
        go_wp2
        go_ret
        exact ⟨ret_int (by rw [hsz.out, e.out]), rfl⟩

theorem rsize_any (ps : List PN) (adrs : List Nat) (w : World) (hm : PM w ps adrs) :
    ∀ (n i : Nat), i < n → i < ps.length → Calls Try.prog 64 #[ptrTo adrs i] w fun e w' => e = .returned (.int .i64 (sizeG ps (i + 1) i)) ∧ w' = w
  | 0, _, h, _ => by omega
  | n + 1, i, h, hi => by
    have hp : ps[i]? = some ps[i] := List.getElem?_eq_getElem hi
    refine rsize_step ps adrs w hm i ps[i] hp (fun k hk => ?_)
    have h2 := rsize_any ps adrs w hm n k (by omega) (by omega)
    rwa [sizeG_more ps (fun i p hp => (hm i p hp).1) (k + 1) i k (by omega) hk] at h2

theorem RM.pm {w : World} {b : Nat} {t : ByteArray} {s : RS} {ps : List PN} {adrs : List Nat} {F : Nat → Prop} (h : RM w b t s ps adrs F) : PM w ps adrs := fun i p hp => by
  obtain ⟨h1, iv, kv, h2⟩ := h.part i p hp
  exact ⟨h1, F, iv, kv, h2⟩

def rp0 : RP := ((0, false), [])
def BadT (t : ByteArray) (r : Nat × RP) : Prop := r.2.1.2 = true ∨ r.2.1.1 < t.size
def szT (r : Nat × RP) : Int := sizeG r.2.2 (r.1 + 1) r.1

def TreeOut (t : ByteArray) (w w' : World) (e : Ending) : Prop :=
  Below w.heap.size w w' ∧ ∃ r : Nat × RP, EvR t 0 [] rp0 r ∧ r.1 < r.2.2.length ∧
    ((BadT t r ∧ e = .returned (.tuple #[.pointer none, .int .i64 0, .int .i64 2])) ∨
     (¬ BadT t r ∧ 60 < szT r ∧ e = .returned (.tuple #[.pointer none, .int .i64 0, .int .i64 3])) ∨
     (¬ BadT t r ∧ szT r ≤ 60 ∧ ∃ adrs F b, w.heap.size ≤ b ∧ RM w' b t r.2.1 r.2.2 adrs F ∧ e = .returned (.tuple #[ptrTo adrs r.1, .int .i64 (szT r), .int .i64 0])))

set_option maxHeartbeats 400000 in
theorem rtree_long (t : ByteArray) (w : World) (h : 40 < t.size) (hs : t.size ≤ maxLen) :
    Calls Try.prog 41 #[.string t] w fun e w' => e = .returned (.tuple #[.pointer none, .int .i64 0, .int .i64 3]) ∧ w' = w := by
  unfold maxLen at hs
  go_enter Try.func41, Try.ntmps41
  go_wp2
  go_ret3
  exact ⟨rfl, rfl⟩

theorem sfx_zero (t : ByteArray) : sfx t 0 = t := by simp [sfx]

set_option maxHeartbeats 2000000 in
theorem rtree_any (t : ByteArray) (w : World) (h : t.size ≤ 40) :
    Calls Try.prog 41 #[.string t] w fun e w' => TreeOut t w w' e := by
  have hr : RM (w.alloc (.cells #[.string t, .bool false] 107)) w.heap.size t (0, false) [] [] (fun _ => False) := by
    refine ⟨⟨?_, Nat.zero_le _, h⟩, rfl, fun i p hp => by simp at hp, fun k hk => hk.elim⟩
    simp only [sfx_zero]
    exact Blk.new _ _ _
  have hC : Hid (Calls _ _ _ _ _) := rchoice_any t (t.size + 1) w.heap.size (0, false) [] [] (fun _ => False) _ (by simp only []; omega) hr
  have bw : Below w.heap.size w (w.alloc (.cells #[.string t, .bool false] 107)) := (Below.refl _ _).alloc (Nat.le_refl _) _
  go_enter Try.func41, Try.ntmps41
  go_wp2_with fail
  refine hC.out.mono ?_
  clear hC hr
  rintro e w1 ⟨r, pv, rfl, ev, m, hge⟩
  obtain ⟨⟨adrs, F, hm, _, _, hpv⟩, k1, hidx⟩ := m
  simp only [List.nil_append] at hm hpv
  have b1 : Below w.heap.size w w1 := bw.trans (k1.below (by simp) (by simp))
  have c0 := hm.rr.c0
  have c1 := hm.rr.c1
  have hfit := hm.rr.fits
  simp only [Fits] at hfit
  obtain ⟨x, hx⟩ : ∃ x, pv = .pointer (some ⟨x, 0, none⟩) := ⟨_, hpv⟩
  subst hx
  have evH : Hid (EvR t 0 [] rp0 r) := ev
  have hpvH : Hid (_ = _) := hpv
  have hmH : Hid (RM _ _ _ _ _ _ _) := hm
  clear ev hpv bw k1
  cases hb : r.2.1.2 with
  | true =>
    rw [hb] at c1
    have hbH : Hid (BadT t r) := Or.inl hb
    go_wp2
    go_ret3
    exact ⟨b1, r, evH.out, hidx, Or.inl ⟨hbH.out, rfl⟩⟩
  | false =>
    rw [hb] at c1
    by_cases hlt : r.2.1.1 < t.size
    · have hl : (0 : Int) < ((sfx t r.2.1.1).size : Int) := by rw [sfx_size]; omega
      have hbH : Hid (BadT t r) := Or.inr hlt
      go_wp2
      go_ret3
      exact ⟨b1, r, evH.out, hidx, Or.inl ⟨hbH.out, rfl⟩⟩
    · have hl : ¬ (0 : Int) < ((sfx t r.2.1.1).size : Int) := by rw [sfx_size]; omega
      have hnb : Hid (¬ BadT t r) := fun hc => by rcases hc with hc | hc; rw [hb] at hc; cases hc; exact hlt hc
      have hS : Hid (Calls _ _ _ _ _) := rsize_any r.2.2 adrs w1 hm.pm (r.1 + 1) r.1 (Nat.lt_succ_self _) hidx
      clear hm hb
      go_wp2_with fail
      rw [hpvH.out]
      refine hS.out.mono ?_
      clear hS
      rw [← hpvH.out]
      obtain ⟨z, hz⟩ : ∃ z, z = sizeG r.2.2 (r.1 + 1) r.1 := ⟨_, rfl⟩
      rw [← hz]
      rintro e w2 ⟨rfl, rfl⟩
      have hzH : Hid (z = szT r) := hz
      clear hz
      by_cases hbig : 60 < z
      · go_wp2
        go_ret3
        exact ⟨b1, r, evH.out, hidx, Or.inr (Or.inl ⟨hnb.out, by rw [← hzH.out]; exact hbig, rfl⟩)⟩
      · go_wp2
        go_ret3
        exact ⟨b1, r, evH.out, hidx, Or.inr (Or.inr ⟨hnb.out, by rw [← hzH.out]; omega, adrs, F, w.heap.size, Nat.le_refl _, hmH.out, by rw [← hpvH.out, ← hzH.out]; rfl⟩)⟩

def RCheckOut (t : ByteArray) (w w' : World) (e : Ending) : Prop :=
  Below w.heap.size w w' ∧ ∃ r : Nat × RP, EvR t 0 [] rp0 r ∧ r.1 < r.2.2.length ∧
    ((BadT t r ∧ e = .returned (.tuple #[.int .i64 0, .int .i64 2])) ∨
     (¬ BadT t r ∧ 60 < szT r ∧ e = .returned (.tuple #[.int .i64 0, .int .i64 3])) ∨
     (¬ BadT t r ∧ szT r ≤ 60 ∧ e = .returned (.tuple #[.int .i64 (szT r), .int .i64 0])))

set_option maxHeartbeats 400000 in
theorem rcheck_long (t : ByteArray) (w : World) (h : 40 < t.size) (hs : t.size ≤ maxLen) :
    Calls Try.prog 16 #[.string t] w fun e w' => e = .returned (.tuple #[.int .i64 0, .int .i64 3]) ∧ w' = w := by
  go_enter Try.func16, Try.ntmps16
  go_wp2_with fail
  refine (rtree_long t _ h hs).mono ?_
  rintro e w1 ⟨rfl, rfl⟩
  go_wp2
  go_ret2
  exact ⟨rfl, rfl⟩

set_option maxHeartbeats 1000000 in
theorem rcheck_any (t : ByteArray) (w : World) (h : t.size ≤ 40) :
    Calls Try.prog 16 #[.string t] w fun e w' => RCheckOut t w w' e := by
  go_enter Try.func16, Try.ntmps16
  go_wp2_with fail
  refine (rtree_any t _ h).mono ?_
  rintro e w1 ⟨b1, r, hev, hidx, ⟨hb, rfl⟩ | ⟨hb, hz, rfl⟩ | ⟨hb, hz, adrs, F, b, hbb, hn, rfl⟩⟩
  · have hh : Hid (RCheckOut t w w1 (.returned (.tuple #[.int .i64 0, .int .i64 2]))) := ⟨b1, r, hev, hidx, Or.inl ⟨hb, rfl⟩⟩
    clear hev hidx hb
    go_wp2
    go_ret2
    exact hh.out
  · have hh : Hid (RCheckOut t w w1 (.returned (.tuple #[.int .i64 0, .int .i64 3]))) := ⟨b1, r, hev, hidx, Or.inr (Or.inl ⟨hb, hz, rfl⟩)⟩
    clear hev hidx hb
    go_wp2
    go_ret2
    exact hh.out
  · have hh : Hid (RCheckOut t w w1 (.returned (.tuple #[.int .i64 (szT r), .int .i64 0]))) := ⟨b1, r, hev, hidx, Or.inr (Or.inr ⟨hb, hz, rfl⟩)⟩
    clear hev hidx hb hn
    generalize szT r = z at *
    generalize ptrTo adrs r.1 = pp at *
    go_wp2
    go_ret2
    exact hh.out

end Go.Proofs.Ytgifhgnccmnbiaa

set_option linter.unusedVariables false
set_option linter.unusedSimpArgs false
namespace Go.Proofs.Ytgifhgnccmnbiaa
open Go.RowKit Go.IntWalk

def boolRow (n : Nat) (f : Nat → Bool) : Array Value := ((List.range n).map (fun i => Value.bool (f i))).toArray
theorem boolRow_get {n : Nat} (f : Nat → Bool) {i : Nat} (h : i < n) : (boolRow n f)[i]? = some (.bool (f i)) := by simp [boolRow, h]
theorem boolRow_set {n : Nat} (f f' : Nat → Bool) (i : Nat) (b : Bool) (h : ∀ j, j < n → f' j = if j = i then b else f j) : (boolRow n f).setIfInBounds i (.bool b) = boolRow n f' := by
  apply Array.ext
  · simp [boolRow]
  · intro j h1 h2
    have hj : j < n := by simpa [boolRow] using h2
    rw [Array.getElem_setIfInBounds (by simpa [boolRow] using hj)]
    simp only [boolRow, List.getElem_toArray, List.getElem_map, List.getElem_range]
    rw [h j hj]
    by_cases hij : i = j
    · subst hij; simp
    · rw [if_neg hij, if_neg (fun hc => hij hc.symm)]
theorem boolRow_congr {n : Nat} {f f' : Nat → Bool} (h : ∀ j, j < n → f j = f' j) : boolRow n f = boolRow n f' := by
  apply Array.ext
  · simp [boolRow]
  · intro j h1 h2
    simp only [boolRow, List.getElem_toArray, List.getElem_map, List.getElem_range]
    rw [h j (by simpa [boolRow] using h1)]

theorem made_row (n : Nat) : madeCells (Value.bool false).cells n = boolRow n (fun _ => false) := by
  apply Array.ext
  · simp [madeCells, boolRow]
  · intro i h1 h2
    simp [madeCells, boolRow, Value.cells, Nat.mod_one]
theorem make_row (n : Nat) (hn : n ≤ 1000000) (w : World) : (Instr.makeSlice 89 (.int .i64 (n : Int)) (.int .i64 (n : Int))).run Try.prog w = .ok (.slice (some ⟨w.heap.size, 0, none⟩) n n) (w.alloc (.cells (boolRow n (fun _ => false)) 4)) := by
  obtain ⟨i0, hi0, hz0, hz1, hz2⟩ := info_parts infoBool
  have h := run_make (P := Try.prog) w 89 4 i0 (.bool false) Try.underlying89 hi0 hz0 .i64 .i64 (n : Int) (n : Int) (by omega) (by omega) (by rw [hz2]; omega) (by omega)
  rw [hz1] at h
  simp only [Int.toNat_natCast, Nat.mul_one] at h
  rw [made_row] at h
  exact h

theorem infoRow : (Try.prog.info? 89).map (fun i => (i.zero, i.size, i.bytes)) = some (some (.slice none 0 0), 1, 24) := by kernel_rfl

def rowV (n g : Nat) : Value := .slice (some ⟨g, 0, none⟩) n n

/-- A table: of rows of n truths each, that lie in blocks of their own. -/
structure Tab (w : World) (B : Nat) (v : Value) (n : Nat) (rows : List Nat) (M : Nat → Nat → Bool) : Prop where
  own : w.ownsRow B 89 1 v rows.length (rows.map (rowV n))
  row : ∀ i g, rows[i]? = some g → Blk w g (boolRow n (M i)) 4
  base : ∀ g, g ∈ rows → B ≤ g
  nodup : rows.Nodup

section
variable {w w' : World} {B n : Nat} {v : Value} {rows : List Nat} {M : Nat → Nat → Bool}

theorem Tab.ne (h : Tab w B v n rows M) {i g : Nat} (hg : rows[i]? = some g) : v.ownBlock ≠ some g := fun hc => by
  rcases h.own.2 with ⟨rfl, _⟩ | ⟨k, c, u, rfl, _, hk, _⟩
  · simp [Value.ownBlock] at hc
  · simp only [Value.ownBlock, Option.some.injEq] at hc
    subst hc
    have h5 := h.row i _ hg
    unfold Blk at h5
    rw [hk] at h5
    simp at h5

theorem Tab.lt (h : Tab w B v n rows M) {g : Nat} (hg : g ∈ rows) : g < w.heap.size := by
  obtain ⟨i, hi⟩ := List.mem_iff_getElem?.1 hg
  exact (h.row i g hi).lt

theorem Tab.kept {S : List Nat} (h : Tab w B v n rows M) (k : Kept S w w') (hs : ∀ g, g ∈ S → g < B ∨ w.heap.size ≤ g) : Tab w' B v n rows M := by
  refine ⟨row_keep (S := S) h.own k (fun g hg hc => ?_), fun i g hg => (h.row i g hg).kept k (fun hc => ?_), h.base, h.nodup⟩
  · have := h.own.lt g hg; have := hs g hc; omega
  · have h1 := h.base g (List.mem_iff_getElem?.2 ⟨i, hg⟩); have := (h.row i g hg).lt; have := hs g hc; omega

theorem Tab.nil (w : World) (B n : Nat) (M : Nat → Nat → Bool) : Tab w B (.slice none 0 0) n [] M :=
  ⟨World.ownsRow_nil w B _ 1, fun i g hg => by simp at hg, fun g hg => by simp at hg, List.nodup_nil⟩

/-- One row more. -/
theorem Tab.push (h : Tab w B v n rows M) (hB : B ≤ w.heap.size) (hM : ∀ j, M rows.length j = false) (o : Obj) {v' : Value}
    (hown : w'.ownsRow B 89 1 v' (rows.length + 1) (rows.map (rowV n) ++ [rowV n w.heap.size]))
    (hgrow : ((w.alloc (.cells (boolRow n (fun _ => false)) 4)).alloc o).grownBy w' v.ownBlock) :
    Tab w' B v' n (rows ++ [w.heap.size]) M ∧ (∀ w0, Kept [] w0 w → w0.heap.size ≤ B → Kept [] w0 w') := by
  have bl : ∀ k, k < w.heap.size + 1 → v.ownBlock ≠ some k → w'.heap[k]? = (w.alloc (.cells (boolRow n (fun _ => false)) 4)).heap[k]? := fun k hk hne => by
    rw [hgrow.block k (by simp; omega) (fun hc => hne hc.symm), Below.heap_alloc _ _ _ (by simp; omega)]
  have hs : w.heap.size ≤ w'.heap.size := by have := hgrow.size; simp at this; omega
  have hvl : v.ownBlock ≠ some w.heap.size := fun hc => by have := h.own.lt _ hc; omega
  refine ⟨⟨?_, fun i g hg => ?_, fun g hg => ?_, ?_⟩, fun w0 k hk => ⟨hgrow.os.trans k.os, hgrow.tape.trans k.tape, hgrow.output.trans k.output, Nat.le_trans k.size hs, fun i hi hn => ?_⟩⟩
  · rw [List.map_append, List.length_append]; exact hown
  · by_cases hi : i < rows.length
    · rw [List.getElem?_append_left hi] at hg
      have h1 := h.row i g hg
      refine (bl g (by have := h1.lt; omega) (h.ne hg)).trans ?_
      rw [Below.heap_alloc _ _ _ h1.lt]
      exact h1
    · have hi2 : i = rows.length := by
        have := (List.getElem?_eq_some_iff.1 hg).1
        simp at this; omega
      subst hi2
      rw [List.getElem?_append_right (Nat.le_refl _), Nat.sub_self] at hg
      simp at hg
      subst hg
      refine (bl w.heap.size (by omega) hvl).trans ?_
      rw [boolRow_congr (f := M rows.length) (f' := fun _ => false) (fun j _ => hM j)]
      exact Blk.new w _ _
  · rcases List.mem_append.1 hg with hg | hg
    · exact h.base g hg
    · simp at hg; omega
  · rw [List.nodup_append]
    refine ⟨h.nodup, by simp, fun a ha b hb => ?_⟩
    simp at hb
    have := h.lt ha
    omega
  · have := k.size
    rw [bl i (by omega) (fun hc => by have := (h.own.lt _ hc).1; omega), Below.heap_alloc _ _ _ (by omega)]
    exact k.block i hi hn
end

/-- none: the table of no truths. -/
def TabC (P : Program) (f : Nat) (args : Array Value) (n : Nat) (w : World) (M : Nat → Nat → Bool) : Prop :=
  Calls P f args w fun e w' => ∃ v rows, e = .returned v ∧ rows.length = n + 1 ∧ Tab w' w.heap.size v (n + 1) rows M ∧ Kept [] w w'

set_option maxHeartbeats 2000000 in
set_option maxRecDepth 100000 in
theorem none_any (n : Nat) (hn : n ≤ 100000) (w : World) : TabC Try.prog 98 #[.int .i64 (n : Int)] n w (fun _ _ => false) := by
  obtain ⟨i0, hi0, hz0, hz1, hz2⟩ := info_parts infoRow
  have hmk := make_row (n + 1) (by omega)
  have hne : ((n + 1 : Nat) : Int) = (n : Int) + 1 := by omega
  rw [hne] at hmk
  clear hne
  unfold TabC
  go_enter Try.func98, Try.ntmps98
  go_wp2_with fail
  go_loopw [3, 4] (fun tv iv wr => ∃ rows : List Nat, iv = .int .i64 (rows.length : Int) ∧ rows.length ≤ n + 1 ∧ Tab wr w.heap.size tv (n + 1) rows (fun _ _ => false) ∧ Kept [] w wr) (fun _ iv _ => ((n : Int) + 1 - intOf iv).toNat)
  case atStart => exact ⟨[], rfl, by simp, Tab.nil _ _ _ _, Kept.refl _ _⟩
  case round =>
    obtain ⟨rows, rfl, hle, ht, hk⟩ := hrel
    have hsz := hk.size
    by_cases hlt : (rows.length : Int) ≤ (n : Int)
    · go_wp2_with (at_builtin; go_loud (refine wpList_append_placed rfl (.tmp 10) (.tmp 14) 126 rfl w.heap.size 89 i0 _ 1 24 Try.underlying126 hi0 hz0 hz1 hz2 rfl (by decide) _ rows.length (rows.map (rowV (n + 1))) rfl ?own ⟨wr.heap.size + 1, 0, none⟩ 1 1 [rowV (n + 1) wr.heap.size] (by simp [Act.eval, Act.put]) rfl ?n1 ?n2 ?b1 ?b2 ?b3 ?kk))
      case own => exact (ht.own.alloc _).alloc _
      case n1 => exact cells_new _ _ _ _ (by simp)
      case n2 => simp [Value.oneCell', rowV]
      case b1 => unfold maxLen; omega
      case b2 => omega
      case b3 => simp; omega
      case kk =>
        intro v' w5 hown hgrow _
        obtain ⟨ht5, hk5⟩ := ht.push hsz (fun _ => rfl) _ hown hgrow
        have hk5 := hk5 w hk (Nat.le_refl _)
        go_wp2
        refine ⟨⟨_, ?_, ?_, ht5, hk5⟩, ?_⟩
        · simp
        · simp; omega
        · simp only [intOf]; omega
    · go_wp2
      go_ret
      exact ⟨_, rfl, rows, by omega, ht, hk⟩

end Go.Proofs.Ytgifhgnccmnbiaa

set_option linter.unusedVariables false
set_option linter.unusedSimpArgs false
namespace Go.Proofs.Ytgifhgnccmnbiaa
open Go.RowKit Go.IntWalk

section
variable {w w' : World} {B n : Nat} {v : Value} {rows : List Nat} {M M' : Nat → Nat → Bool}

theorem Tab.congr (h : Tab w B v n rows M) (e : ∀ i j, i < rows.length → j < n → M i j = M' i j) : Tab w B v n rows M' := by
  refine ⟨h.own, fun i g hg => ?_, h.base, h.nodup⟩
  rw [← boolRow_congr (f := M i) (f' := M' i) (fun j hj => e i j (List.getElem?_eq_some_iff.1 hg).1 hj)]
  exact h.row i g hg

theorem Tab.mono {B' : Nat} (h : Tab w B v n rows M) (hb : B' ≤ B) : Tab w B' v n rows M :=
  ⟨own_base h.own hb, h.row, fun g hg => Nat.le_trans hb (h.base g hg), h.nodup⟩

/-- The outer row, and its cells. -/
theorem Tab.head (h : Tab w B v n rows M) (hr : 0 < rows.length) :
    ∃ k cap, v = .slice (some ⟨k, 0, none⟩) rows.length cap ∧ B ≤ k ∧ (∀ i g, rows[i]? = some g → w.cell? ⟨k, i, none⟩ = some (rowV n g)) := by
  obtain ⟨k, cap, rfl⟩ := own_form h.own hr
  refine ⟨k, cap, rfl, (h.own.lt k rfl).1, fun i g hg => ?_⟩
  have h1 := h.own.cells (g := k) rfl i (rowV n g) (by simp [hg])
  rwa [show (⟨k, 0, none⟩ : Addr).add i = ⟨k, i, none⟩ by unfold Addr.add; split <;> simp_all] at h1

theorem Tab.cell (h : Tab w B v n rows M) {i g j : Nat} (hg : rows[i]? = some g) (hj : j < n) : w.cell? ⟨g, j, none⟩ = some (.bool (M i j)) := by
  rw [(h.row i g hg).cell, boolRow_get _ hj]
theorem Tab.frozen (h : Tab w B v n rows M) {i g : Nat} (hg : rows[i]? = some g) (j : Nat) : w.frozen? ⟨g, j, none⟩ = false := (h.row i g hg).frozen j

theorem Tab.drew (h : Tab w B v n rows M) : Tab w.drew B v n rows M := ⟨h.own.drew, fun i g hg => (h.row i g hg).drew, h.base, h.nodup⟩

/-- One truth written. -/
theorem Tab.set (h : Tab w B v n rows M) {i g : Nat} (hg : rows[i]? = some g) (j : Nat) (b : Bool) (e : ∀ a c, a < rows.length → c < n → M' a c = if a = i ∧ c = j then b else M a c) :
    Tab (w.setCell ⟨g, j, none⟩ (.bool b)) B v n rows M' := by
  refine ⟨ownsRow_setCell_other h.own (h.ne hg) _, fun a k hk => ?_, h.base, h.nodup⟩
  by_cases hai : a = i
  · subst hai
    have hkg : k = g := by rw [hg] at hk; exact (Option.some.inj hk).symm
    subst hkg
    have h1 := (h.row a k hk).set j (.bool b)
    rw [boolRow_set (M a) (M' a) j b (fun c hc => by rw [e a c (List.getElem?_eq_some_iff.1 hk).1 hc]; simp)] at h1
    exact h1
  · have hkg : k ≠ g := fun hc => by
      subst hc
      exact hai ((List.getElem?_inj (List.getElem?_eq_some_iff.1 hk).1 h.nodup).1 (hk.trans hg.symm))
    rw [boolRow_congr (f := M' a) (f' := M a) (fun c hc => by rw [e a c (List.getElem?_eq_some_iff.1 hk).1 hc, if_neg (fun x => hai x.1)])]
    exact Blk.other (h.row a k hk) _ _ hkg
end

set_option maxHeartbeats 2000000 in
set_option maxRecDepth 100000 in
theorem same_any (n : Nat) (hn : n ≤ 100000) (w : World) : TabC Try.prog 100 #[.int .i64 (n : Int)] n w (fun i j => decide (i = j)) := by
  have hnone := none_any n hn w
  unfold TabC at hnone
  unfold TabC
  go_enter Try.func100, Try.ntmps100
  go_wp2_with fail
  refine hnone.mono ?_
  rintro e w1 ⟨v, rows, rfl, hlen, ht0, hk0⟩
  obtain ⟨k, cap, rfl, hk, _⟩ := ht0.head (by omega)
  rw [hlen] at ht0
  rw [hlen]
  have hlenH : Hid (_ = _) := hlen
  clear hnone hlen
  go_wp2_with fail
  go_loopw [4] (fun iv wr => ∃ i : Nat, iv = .int .i64 (i : Int) ∧ i ≤ n + 1 ∧ Tab wr w.heap.size (.slice (some ⟨k, 0, none⟩) (n + 1) cap) (n + 1) rows (fun a c => decide (a = c) && decide (a < i)) ∧ Kept [] w wr) (fun iv _ => ((n : Int) + 1 - intOf iv).toNat)
  case atStart => exact ⟨0, rfl, by omega, ht0.congr (fun i j _ _ => by simp), hk0⟩
  case round =>
    obtain ⟨i, rfl, hle, ht, hkw⟩ := hrel
    clear ht0 hk0
    by_cases hlt : (i : Int) ≤ (n : Int)
    · obtain ⟨g, hg⟩ : ∃ g, rows[i]? = some g := ⟨_, List.getElem?_eq_getElem (by rw [hlenH.out]; omega)⟩
      have hgH : Hid (_ = _) := hg
      obtain ⟨k2, cap2, he, _, hcells⟩ := ht.head (by rw [hlenH.out]; omega)
      simp only [Value.slice.injEq, Option.some.injEq, Addr.mk.injEq] at he
      obtain ⟨⟨rfl, _⟩, _⟩ := he
      have d1 := hcells i g hg
      unfold rowV at d1
      have d2 := ht.cell hg (j := i) (by omega)
      have d3 := ht.frozen hg i
      have ht2 : Hid (Tab _ _ _ _ _ _) := ht.set (M' := fun a c => decide (a = c) && decide (a < i + 1)) hg i true (fun a c _ _ => by
        by_cases hac : a = i ∧ c = i
        · obtain ⟨rfl, rfl⟩ := hac; simp
        · rw [if_neg hac]
          by_cases h1 : a = c
          · subst h1
            have : a ≠ i := fun hc => hac ⟨hc, hc⟩
            simp; omega
          · simp [h1])
      have hgb := ht.base g (List.mem_iff_getElem?.2 ⟨i, hg⟩)
      have hk2 : Hid (Kept [] w (wr.setCell ⟨g, i, none⟩ (.bool true))) := hkw.setCell (Or.inr hgb) _
      clear hg hcells
      go_wp2
      refine ⟨⟨i + 1, by go_num, by omega, ht2.out, hk2.out⟩, ?_⟩
      simp only [intOf]; omega
    · go_wp2
      go_ret
      exact ⟨_, rfl, rows, hlenH.out, ht.congr (fun a c ha _ => by rw [hlenH.out] at ha; rw [decide_eq_true (show a < i by omega), Bool.and_true]), hkw⟩

end Go.Proofs.Ytgifhgnccmnbiaa

set_option linter.unusedVariables false
set_option linter.unusedSimpArgs false
namespace Go.Proofs.Ytgifhgnccmnbiaa
open Go.RowKit Go.IntWalk

def eitherT (A B : Nat → Nat → Bool) (i j : Nat) : Bool := decide (i ≤ j) && (A i j || B i j)

/-- Row by row, place by place: what is written by now. -/
def doneT (f : Nat → Nat → Bool) (i j : Nat) (a c : Nat) : Bool := (decide (a < i) || (decide (a = i) && decide (c < j))) && f a c

theorem doneT_step (f : Nat → Nat → Bool) (i j a c : Nat) : doneT f i (j + 1) a c = if a = i ∧ c = j then f i j else doneT f i j a c := by
  unfold doneT
  by_cases h : a = i ∧ c = j
  · obtain ⟨rfl, rfl⟩ := h; simp
  · rw [if_neg h]
    congr 1
    by_cases h1 : a = i
    · subst h1
      have : c ≠ j := fun hc => h ⟨rfl, hc⟩
      congr 2
      apply decide_eq_decide.2; omega
    · rw [decide_eq_false h1]
      simp
theorem doneT_begin (f : Nat → Nat → Bool) (hf : ∀ a c, c < a → f a c = false) (i a c : Nat) : doneT f i i a c = (decide (a < i) && f a c) := by
  unfold doneT
  by_cases h1 : a = i
  · subst h1
    by_cases h2 : c < a
    · rw [hf a c h2]; simp
    · rw [decide_eq_false h2]; simp
  · rw [decide_eq_false h1]; simp
theorem doneT_row (f : Nat → Nat → Bool) (n i a c : Nat) (hc : c < n) : doneT f i n a c = (decide (a < i + 1) && f a c) := by
  unfold doneT
  rw [decide_eq_true hc, Bool.and_true]
  congr 1
  by_cases h1 : a = i
  · subst h1; simp
  · rw [decide_eq_false h1, Bool.or_false]
    apply decide_eq_decide.2; omega

set_option maxHeartbeats 4000000 in
set_option maxRecDepth 100000 in
theorem either_any (n : Nat) (hn : n ≤ 100000) (w : World) (va vb : Value) (ra rb : List Nat) (A B : Nat → Nat → Bool) (hla : ra.length = n + 1) (hlb : rb.length = n + 1)
    (ha : Tab w 0 va (n + 1) ra A) (hb : Tab w 0 vb (n + 1) rb B) : TabC Try.prog 102 #[va, vb] n w (eitherT A B) := by
  have hnone := none_any n hn w
  unfold TabC at hnone
  have hup : Hid (∀ a c, c < a → eitherT A B a c = false) := fun a c h => by unfold eitherT; rw [decide_eq_false (by omega), Bool.false_and]
  obtain ⟨ka, capa, rfl, _, hca⟩ := ha.head (by omega)
  obtain ⟨kb, capb, rfl, _, hcb⟩ := hb.head (by omega)
  rw [hla] at ha ⊢
  rw [hlb] at hb ⊢
  have hlaH : Hid (_ = _) := hla
  have hlbH : Hid (_ = _) := hlb
  clear hla hlb hca hcb
  unfold TabC
  go_enter Try.func102, Try.ntmps102
  go_wp2_with fail
  refine hnone.mono ?_
  rintro e w1 ⟨v, rows, rfl, hlen, ht0, hk0⟩
  obtain ⟨k, cap, rfl, hk, _⟩ := ht0.head (by omega)
  rw [hlen] at ht0
  rw [hlen]
  have hlenH : Hid (_ = _) := hlen
  clear hnone hlen
  go_wp2_with fail
  go_loopw [6] (fun iv wr => ∃ i : Nat, iv = .int .i64 (i : Int) ∧ i ≤ n + 1 ∧ Tab wr w.heap.size (.slice (some ⟨k, 0, none⟩) (n + 1) cap) (n + 1) rows (fun a c => decide (a < i) && eitherT A B a c) ∧ Kept [] w wr) (fun iv _ => ((n : Int) + 1 - intOf iv).toNat)
  case atStart => exact ⟨0, rfl, by omega, ht0.congr (fun i j _ _ => by simp), hk0⟩
  case round =>
    obtain ⟨i, rfl, hle, ht, hkw⟩ := hrel
    clear ht0 hk0
    by_cases hlt : (i : Int) < (n : Int) + 1
    · have htb : Hid (Tab _ _ _ _ _ _) := ht.congr (M' := doneT (eitherT A B) i i) (fun a c _ _ => (doneT_begin _ hup.out i a c).symm)
      have hkwH : Hid (Kept _ _ _) := hkw
      clear ht hkw
      go_wp2_with fail
      go_loopw [7] (fun jv wr => ∃ j : Nat, jv = .int .i64 (j : Int) ∧ i ≤ j ∧ j ≤ n + 1 ∧ Tab wr w.heap.size (.slice (some ⟨k, 0, none⟩) (n + 1) cap) (n + 1) rows (doneT (eitherT A B) i j) ∧ Kept [] w wr) (fun jv _ => ((n : Int) + 1 - intOf jv).toNat)
      case atStart => exact ⟨i, rfl, Nat.le_refl _, hle, htb.out, hkwH.out⟩
      case round =>
        obtain ⟨j, rfl, hij, hjle, ht, hkw⟩ := hrel
        clear htb hkwH
        by_cases hjt : (j : Int) < (n : Int) + 1
        · obtain ⟨g, hg⟩ : ∃ g, rows[i]? = some g := ⟨_, List.getElem?_eq_getElem (by rw [hlenH.out]; omega)⟩
          obtain ⟨ga, hga⟩ : ∃ g, ra[i]? = some g := ⟨_, List.getElem?_eq_getElem (by rw [hlaH.out]; omega)⟩
          obtain ⟨gb, hgb⟩ : ∃ g, rb[i]? = some g := ⟨_, List.getElem?_eq_getElem (by rw [hlbH.out]; omega)⟩
          have ha2 := ha.kept hkw (by simp)
          have hb2 := hb.kept hkw (by simp)
          obtain ⟨k2, cap2, he, _, hcells⟩ := ht.head (by rw [hlenH.out]; omega)
          simp only [Value.slice.injEq, Option.some.injEq, Addr.mk.injEq] at he
          obtain ⟨⟨rfl, _⟩, _⟩ := he
          obtain ⟨k2, cap2, he, _, hcellsA⟩ := ha2.head (by rw [hlaH.out]; omega)
          simp only [Value.slice.injEq, Option.some.injEq, Addr.mk.injEq] at he
          obtain ⟨⟨rfl, _⟩, _⟩ := he
          obtain ⟨k2, cap2, he, _, hcellsB⟩ := hb2.head (by rw [hlbH.out]; omega)
          simp only [Value.slice.injEq, Option.some.injEq, Addr.mk.injEq] at he
          obtain ⟨⟨rfl, _⟩, _⟩ := he
          have d1 := hcells i g hg
          have a1 := hcellsA i ga hga
          have b1 := hcellsB i gb hgb
          unfold rowV at d1 a1 b1
          have d2 := ht.cell hg (j := j) (by omega)
          have d3 := ht.frozen hg j
          have a2 := ha2.cell hga (j := j) (by omega)
          have b2 := hb2.cell hgb (j := j) (by omega)
          have hle' : decide (i ≤ j) = true := decide_eq_true hij
          have ht2 : Hid (Tab _ _ _ _ _ _) := ht.set (M' := doneT (eitherT A B) i (j + 1)) hg j (A i j || B i j) (fun a c _ _ => by
            rw [doneT_step]; unfold eitherT; rw [hle', Bool.true_and])
          have hgbase := ht.base g (List.mem_iff_getElem?.2 ⟨i, hg⟩)
          have hk2 : Hid (Kept [] w (wr.setCell ⟨g, j, none⟩ (.bool (A i j || B i j)))) := hkw.setCell (Or.inr hgbase) _
          clear hg hga hgb hcells hcellsA hcellsB ha2 hb2 ht hle'
          cases hA : A i j with
          | true =>
            rw [hA] at a2
            have hx : (A i j || B i j) = true := by rw [hA]; rfl
            rw [hx] at ht2 hk2
            clear hx
            go_wp2_with fail
            go_region
            go_wp2
            refine ⟨⟨j + 1, by go_num, by omega, by omega, ht2.out.drew, hk2.out.drew⟩, ?_⟩
            simp only [intOf]; omega
          | false =>
            rw [hA] at a2
            have hx : (A i j || B i j) = B i j := by rw [hA]; rfl
            rw [hx] at ht2 hk2
            clear hx
            go_wp2_with fail
            go_region
            go_wp2
            refine ⟨⟨j + 1, by go_num, by omega, by omega, ht2.out.drew, hk2.out.drew⟩, ?_⟩
            simp only [intOf]; omega
        · have hjn : j = n + 1 := by omega
          subst hjn
          have ht3 : Hid (Tab _ _ _ _ _ _) := ht.congr (M' := fun a c => decide (a < i + 1) && eitherT A B a c) (fun a c _ hc => doneT_row _ (n + 1) i a c hc)
          have hkwH : Hid (Kept _ _ _) := hkw
          clear ht hkw
          go_wp2
          refine ⟨⟨i + 1, by go_num, by omega, ht3.out, hkwH.out⟩, ?_⟩
          simp only [intOf]; omega
    · go_wp2
      go_ret
      exact ⟨_, rfl, rows, hlenH.out, ht.congr (fun a c ha _ => by rw [hlenH.out] at ha; rw [decide_eq_true (show a < i by omega), Bool.true_and]), hkw⟩

end Go.Proofs.Ytgifhgnccmnbiaa
