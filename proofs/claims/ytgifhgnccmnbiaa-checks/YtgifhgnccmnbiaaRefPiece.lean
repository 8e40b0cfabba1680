/- The document's answer: a piece. -/
import Derived.Test.YtgifhgnccmnbiaaRefGroup
set_option linter.unusedVariables false
set_option linter.unusedSimpArgs false
namespace Go.Proofs.Ytgifhgnccmnbiaa
open Go.RowKit Go.IntWalk

/-- How many bytes are left, read off the reader's cell. -/
def restW (w : World) (b : Nat) : Nat := match w.cell? ⟨b, 0, none⟩ with | some (.string x) => x.size | _ => 0
theorem restW_eq {w : World} {b : Nat} {t : ByteArray} {s : RS} (h : RR w b t s) : restW w b = t.size - s.1 := by
  unfold restW; rw [h.c0]; simp [sfx_size]

/-- One part more, whose kids' row is new. -/
theorem times_mem {w w2 w' : World} {b Y : Nat} {t : ByteArray} {adrs : List Nat} {F : Nat → Prop} {r : Nat × RP} {pv : Value} {s' : RS} {p : PN} {kv : IV}
    (h : RMem w w2 b t adrs F r pv) (r' : RR w' b t s') (k : Kept [b] w2 w') (hY : w2.heap.size ≤ Y)
    (hkind : 3 < p.kind) (hkids : ∀ x, x ∈ p.kids → x < r.2.2.length)
    (hp : Blk w' Y #[.int .i64 p.kind, .slice none 0 0, .bool p.neg, .slice kv.1 kv.2.1 kv.2.2, .int .i64 p.least, .int .i64 p.most] 160)
    (hrow : ∀ more F', RM w2 b t r.2.1 r.2.2 (adrs ++ more) F' → pv = ptrTo (adrs ++ more) r.1 → w'.ownsRow 0 60 1 (ivV kv) p.kids.length (p.kids.map (ptrTo (adrs ++ more))))
    (hnew : ∀ g, (ivV kv).ownBlock = some g → w2.heap.size ≤ g ∧ g < w'.heap.size) :
    RMem w w' b t adrs F (pushP p (s', r.2.2)) (.pointer (some ⟨Y, 0, none⟩)) := by
  obtain ⟨⟨more, F', h1, h2, h3, h4⟩, h5, h6⟩ := h
  have hb := h1.rr.blk.lt
  have hsz := h5.size
  refine ⟨⟨more ++ [Y], fun x => F' x ∨ x = Y ∨ (ivV kv).ownBlock = some x, ?_, fun x hx => Or.inl (h2 x hx), fun x hx => ?_, ?_⟩, h5.trans k, by simp [pushP]⟩
  · rw [← List.append_assoc]
    refine RM.push (h1.scan r' k) (fun x hx => Or.inl hx) (fun x hx => ?_) hkids (iv := (none, 0, 0)) (kv := kv) ⟨hp, Or.inr (Or.inl rfl), Or.inr ⟨hkind, rfl⟩, hrow more F' h1 h4, fun g hg => Or.inr (Or.inr hg)⟩
    rcases hx with hx | rfl | hx
    · exact ⟨Nat.lt_of_lt_of_le (h1.old x hx).1 k.size, (h1.old x hx).2⟩
    · exact ⟨hp.lt, by omega⟩
    · have := hnew x hx; exact ⟨this.2, by omega⟩
  · rcases hx with hx | rfl | hx
    · exact h3 x hx
    · exact Or.inr (by omega)
    · have := hnew x hx; exact Or.inr (by omega)
  · have e : (adrs ++ (more ++ [Y])).getD r.2.2.length 0 = Y := by
      rw [← List.append_assoc, ← h1.len]; simp [List.getD]
    simp only [pushP, ptrTo, e]

theorem row_one (w : World) (x : Value) (e : TypeId) (k : Nat) (hk : k = w.heap.size) : (w.alloc (.cells #[x] e)).ownsRow 0 e 1 (.slice (some ⟨k, 0, none⟩) 1 1) 1 [x] := by
  subst hk
  exact ⟨rfl, .inr ⟨w.heap.size, 1, #[x], rfl, Nat.zero_le _, heap_alloc_new w _, Nat.le_refl _, by unfold maxLen; omega, rfl, rfl⟩⟩

theorem row_kept {S : List Nat} {w w' : World} {e : TypeId} {z n g c : Nat} {xs : List Value} (h : w.ownsRow 0 e z (.slice (some ⟨g, 0, none⟩) n c) n xs) (k : Kept S w w') (hg : ¬ g ∈ S) : w'.ownsRow 0 e z (.slice (some ⟨g, 0, none⟩) n c) n xs := by
  refine ⟨h.1, ?_⟩
  rcases h.2 with ⟨h1, _⟩ | ⟨g', cap, cur, h1, h2, h3, r⟩
  · cases h1
  · simp only [Value.slice.injEq, Option.some.injEq, Addr.mk.injEq, and_true] at h1
    obtain ⟨e1, _, e2⟩ := h1
    subst e1 e2
    exact Or.inr ⟨g, c, cur, rfl, h2, (k.block g (Array.getElem?_eq_some_iff.1 h3).1 hg).trans h3, r⟩

theorem stB_lt {t : ByteArray} {s : RS} {l : List UInt8} (h : stB t s l = true) : s.1 < t.size := by
  by_cases hp : s.1 < t.size
  · exact hp
  · rw [stB_none hp] at h; cases h
theorem stB_rep {t : ByteArray} {s : RS} (h : stB t s [42, 43, 63, 123] = true) : pk t s.1 = 42 ∨ pk t s.1 = 43 ∨ pk t s.1 = 63 ∨ pk t s.1 = 123 := by
  simp only [stB, List.any_cons, List.any_nil, Bool.or_false, Bool.or_eq_true, beq_iff_eq] at h
  exact h
theorem bndR_ge {t : ByteArray} {s : RS} : s.1 ≤ (bndR t s).2.1 := by
  have h1 := tk_ge (t := t) (s := s)
  have h2 := take_ge (t := t) (c := 44) (s := (tkS t s).2)
  have h3 := take_ge (t := t) (c := 125) (s := (takeS t 44 (tkS t s).2).2)
  have h4 := tk_ge (t := t) (s := (takeS t 125 (takeS t 44 (tkS t s).2).2).2)
  have h5 := take_ge (t := t) (c := 125) (s := (tkS t (takeS t 125 (takeS t 44 (tkS t s).2).2).2).2)
  have hm : s.1 ≤ (bndMost t s).2.2.1 := by
    unfold bndMost
    simp only []
    split
    · simp only []; omega
    · split
      · simp only []; split
        · simp only [markS]; omega
        · omega
      · simp only []; omega
  unfold bndR
  simp only []
  split
  · exact hm
  · exact hm

set_option maxHeartbeats 4000000 in
set_option maxRecDepth 100000 in
theorem rpiece_any (m : Nat) (b : Nat) (t : ByteArray) (s : RS) (ps : List PN) (adrs : List Nat) (F : Nat → Prop) (w : World) (H : RChC t m) (h : RM w b t s ps adrs F) (hp : s.1 < t.size) (hpm : t.size - s.1 ≤ m) :
    Calls Try.prog 92 #[.pointer (some ⟨b, 0, none⟩)] w fun e w' => ∃ r pv, e = .returned pv ∧ EvR t 2 [] (s, ps) r ∧ RMem w w' b t adrs F r pv ∧ s.1 < r.2.1.1 := by
  have ha := ratom_any m b t s ps adrs F w H h hp hpm
  unfold RAtomC at ha
  have haH : Hid (Calls _ _ _ _ _) := ha
  clear ha H h
  go_enter Try.func92, Try.ntmps92
  go_wp2_with fail
  refine haH.out.mono ?_
  clear haH
  rintro e w1 ⟨r1, pv1, rfl, ev1, m1, hp1⟩
  obtain ⟨x1, rfl⟩ := m1.ptr
  go_wp2_with fail
  go_loopw [3] (fun x wr => ∃ (r : Nat × RP) (y : Nat), x = .pointer (some ⟨y, 0, none⟩) ∧ RMem w wr b t adrs F r (.pointer (some ⟨y, 0, none⟩)) ∧ (∀ r', EvR t 4 [r.1] r.2 r' → EvR t 2 [] (s, ps) r') ∧ s.1 < r.2.1.1) (fun _ wr => restW wr b)
  case atStart => exact ⟨r1, x1, rfl, m1, fun r' e => EvR.piece ev1 e, hp1⟩
  case round =>
    obtain ⟨r, y, rfl, m, ev, hpr⟩ := hrel
    have evH : Hid (∀ r', _) := ev
    clear ev
    have c1 := m.rr.c1
    have hrw : Hid (_ = _) := restW_eq m.rr
    cases hbad : r.2.1.2 with
    | true =>
      have e : Hid (EvR t 2 [] (s, ps) r) := evH.out r (EvR.repEnd (Or.inl hbad))
      rw [hbad] at c1
      go_wp2
      go_ret
      exact ⟨r, _, rfl, e.out, m, hpr⟩
    | false =>
      rw [hbad] at c1
      cases hq : stB t r.2.1 [42, 43, 63, 123] with
      | false =>
        have e : Hid (EvR t 2 [] (s, ps) r) := evH.out r (EvR.repEnd (Or.inr hq))
        go_wp2_with fail
        refine (stands4 b t _ _ m.rr).mono ?_
        rintro e2 w2 ⟨rfl, r2, k2⟩
        have m2 : Hid (RMem _ _ _ _ _ _ _ _) := m.scan r2 k2
        go_wp2
        go_ret
        exact ⟨r, _, rfl, e.out, m2.out, hpr⟩
      | true =>
        have hlt := stB_lt hq
        have hcs := stB_rep hq
        have htk : tkS t r.2.1 = (pk t r.2.1.1, (r.2.1.1 + 1, r.2.1.2)) := if_pos hlt
        have ev : Hid (∀ r', _) := fun r' h' => evH.out r' (EvR.rep (r := r') hbad hq h')
        clear evH
        go_wp2_with fail
        refine (stands4 b t _ _ m.rr).mono ?_
        rintro e2 w2 ⟨rfl, r2, k2⟩
        go_wp2_with fail
        refine (rtake_any b t _ _ r2).mono ?_
        rintro e3 w3 ⟨rfl, r3, k3⟩
        have m3 := m.scan r3 (k2.trans k3)
        clear m r2 k2 k3
        have hb3 := r3.blk.lt
        have hrow : (w3.alloc (.cells #[.pointer (some ⟨y, 0, none⟩)] 60)).ownsRow 0 60 1 (.slice (some ⟨w3.heap.size, 0, none⟩) 1 1) 1 [.pointer (some ⟨y, 0, none⟩)] := row_one _ _ _ _ rfl
        have hrowH : Hid (∀ o, ((w3.alloc (.cells #[.pointer (some ⟨y, 0, none⟩)] 60)).alloc o).ownsRow 0 60 1 (.slice (some ⟨w3.heap.size, 0, none⟩) 1 1) 1 [.pointer (some ⟨y, 0, none⟩)]) := fun o => hrow.alloc o
        clear hrow
        have hblk : ∀ l m : Int, Blk ((w3.alloc (.cells #[.pointer (some ⟨y, 0, none⟩)] 60)).alloc (.cells #[.int .i64 6, .slice none 0 0, .bool false, .slice (some ⟨w3.heap.size, 0, none⟩) 1 1, .int .i64 l, .int .i64 m] 160)) (w3.heap.size + 1) #[.int .i64 6, .slice none 0 0, .bool false, .slice (some ⟨w3.heap.size, 0, none⟩) 1 1, .int .i64 l, .int .i64 m] 160 := by
          intro l m
          have h0 := Blk.new (w3.alloc (.cells #[.pointer (some ⟨y, 0, none⟩)] 60)) #[.int .i64 6, .slice none 0 0, .bool false, .slice (some ⟨w3.heap.size, 0, none⟩) 1 1, .int .i64 l, .int .i64 m] 160
          rwa [show (w3.alloc (.cells #[.pointer (some ⟨y, 0, none⟩)] 60)).heap.size = w3.heap.size + 1 by simp] at h0
        have hkw : ∀ o1 o2, Kept [b] w3 ((w3.alloc o1).alloc o2) := fun o1 o2 => ((Kept.refl _ _).alloc o1).alloc o2
        have hrr : ∀ o1 o2, RR ((w3.alloc o1).alloc o2) b t (tkS t r.2.1).2 := fun o1 o2 => r3.kept (((Kept.refl [] _).alloc o1).alloc o2) (by simp)
        -- the new part, however its bounds have come about
        have fin : ∀ (w5 : World) (s' : RS) (least most : Int), RR w5 b t s' → Kept [b] w3 w5 → Blk w5 (w3.heap.size + 1) #[.int .i64 6, .slice none 0 0, .bool false, .slice (some ⟨w3.heap.size, 0, none⟩) 1 1, .int .i64 least, .int .i64 most] 160 →
            w5.ownsRow 0 60 1 (.slice (some ⟨w3.heap.size, 0, none⟩) 1 1) 1 [.pointer (some ⟨y, 0, none⟩)] → repR t r.2.1 = ((least, most), s') → r.2.1.1 < s'.1 →
            (∃ (r' : Nat × RP) (y' : Nat), Value.pointer (some ⟨w3.heap.size + 1, 0, none⟩) = .pointer (some ⟨y', 0, none⟩) ∧ RMem w w5 b t adrs F r' (.pointer (some ⟨y', 0, none⟩)) ∧ (∀ r'', EvR t 4 [r'.1] r'.2 r'' → EvR t 2 [] (s, ps) r'') ∧ s.1 < r'.2.1.1) ∧ restW w5 b < restW wr b := by
          intro w5 s' least most hr5 hk5 hb5 hrow5 hrep hs'
          have hlt5 := hb5.lt
          refine ⟨⟨pushP { kind := 6, kids := [r.1], least := (repR t r.2.1).1.1, most := (repR t r.2.1).1.2 } ((repR t r.2.1).2, r.2.2), w3.heap.size + 1, rfl, ?_, ev.out, ?_⟩, ?_⟩
          · rw [hrep]
            exact times_mem (r := (r.1, ((tkS t r.2.1).2, r.2.2))) (kv := (some ⟨w3.heap.size, 0, none⟩, 1, 1)) (p := { kind := 6, kids := [r.1], least := least, most := most }) m3 hr5 hk5 (by omega) (by show (3 : Int) < 6; decide) (fun x hx => by simp at hx; subst hx; exact m3.idx) hb5
              (fun more F' _ hpv => by show w5.ownsRow 0 _ 1 _ 1 [ptrTo (adrs ++ more) r.1]; rw [← hpv]; exact hrow5) (fun g hg => by simp [ivV, Value.ownBlock] at hg; subst hg; exact ⟨Nat.le_refl _, by omega⟩)
          · rw [hrep]; simp only [pushP]; omega
          · rw [restW_eq hr5, hrw.out]
            have := hr5.fits
            simp only [Fits] at this
            omega
        have finH : Hid (∀ (w5 : World) (s' : RS) (least most : Int), _) := fin
        clear fin ev m3 hrw
        rcases hcs with hcs | hcs | hcs | hcs
        · have hv : (tkS t r.2.1).1 = 42 := by rw [htk]; exact hcs
          have hrep : repR t r.2.1 = ((0, -1), (tkS t r.2.1).2) := by unfold repR; rw [hv]; rfl
          have hs' : r.2.1.1 < (tkS t r.2.1).2.1 := by rw [htk]; exact Nat.lt_succ_self _
          have fH : Hid _ := finH.out _ _ _ _ (hrr _ _) (hkw _ _) (hblk _ _) (hrowH.out _) hrep hs'
          clear hrep htk hcs
          go_wp2
          exact fH.out
        · have hv : (tkS t r.2.1).1 = 43 := by rw [htk]; exact hcs
          have hrep : repR t r.2.1 = ((1, -1), (tkS t r.2.1).2) := by unfold repR; rw [hv]; rfl
          have hs' : r.2.1.1 < (tkS t r.2.1).2.1 := by rw [htk]; exact Nat.lt_succ_self _
          have fH : Hid _ := finH.out _ _ _ _ (hrr _ _) (hkw _ _) (hblk _ _) (hrowH.out _) hrep hs'
          clear hrep htk hcs
          go_wp2
          exact fH.out
        · have hv : (tkS t r.2.1).1 = 63 := by rw [htk]; exact hcs
          have hrep : repR t r.2.1 = ((0, 1), (tkS t r.2.1).2) := by unfold repR; rw [hv]; rfl
          have hs' : r.2.1.1 < (tkS t r.2.1).2.1 := by rw [htk]; exact Nat.lt_succ_self _
          have fH : Hid _ := finH.out _ _ _ _ (hrr _ _) (hkw _ _) (hblk _ _) (hrowH.out _) hrep hs'
          clear hrep htk hcs
          go_wp2
          exact fH.out
        · have hv : (tkS t r.2.1).1 = 123 := by rw [htk]; exact hcs
          have hrep : repR t r.2.1 = bndR t (tkS t r.2.1).2 := by unfold repR; rw [hv]; rfl
          have hs' : r.2.1.1 < (bndR t (tkS t r.2.1).2).2.1 := Nat.lt_of_lt_of_le (by rw [htk]; exact Nat.lt_succ_self _) bndR_ge
          have hrepH : Hid (_ = _) := hrep
          clear hrep htk hcs
          go_wp2_with fail
          refine (rbounds_any b (w3.heap.size + 1) t _ _ _ (hrr _ _) (hblk _ _) (by omega)).mono ?_
          rintro e5 w5 ⟨rfl, m5⟩
          have fH : Hid _ := finH.out _ _ _ _ m5.rr (kept_drop (hkw _ _) (m5.kept.mono (S' := [b, w3.heap.size + 1, w3.heap.size + 1]) (by simp)) (by omega) (by omega)) m5.part (row_kept (hrowH.out _) m5.kept (by simp; omega)) hrepH.out hs'
          go_wp2
          exact fH.out

end Go.Proofs.Ytgifhgnccmnbiaa
