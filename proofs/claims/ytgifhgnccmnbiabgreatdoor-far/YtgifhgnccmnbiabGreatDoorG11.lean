/- Package packed: files of rules, read. -/
import Derived.Test.YtgifhgnccmnbiabGreatDoorG10
set_option linter.unusedVariables false
set_option linter.unusedSimpArgs false
namespace Go.Proofs.YtgifhgnccmnbiabGreatDoor
open Go.RowKit Go.IntWalk

theorem own_low {w : World} {base base' : Nat} {e : TypeId} {size : Nat} {v : Value} {n : Nat} {xs : List Value} (h : w.ownsRow base e size v n xs) (hb : base' ≤ base) : w.ownsRow base' e size v n xs := by
  refine ⟨h.1, ?_⟩
  rcases h.2 with h2 | ⟨g, c, u, h3, h4, r⟩
  · exact Or.inl h2
  · exact Or.inr ⟨g, c, u, h3, Nat.le_trans hb h4, r⟩
/-- A text as a value, its lists in memory. -/
structure TVal (w : World) (B : Nat) (t : TT) (rv sv : Value) : Prop where
  rules : w.ownsRow B 221 6 rv t.rules.length (ruCells t.rules)
  start : w.ownsRow B 3 1 sv t.start.length (symCells t.start)
  small : ∀ x, x ∈ t.rules → PTsmall x.pt
  whole : PTsmall t.whole
def ztext : Array Value := #[.int .i64 0, .int .i64 0, .slice none 0 0, .slice none 0 0, .int .i64 0, .int .i64 0, .int .i64 0, .int .i64 0]
theorem TM.val {w : World} {b E B : Nat} {pre post : Array Value} {t : TT} {rv sv : Value} (h : TM w b pre post E B t rv sv) : TVal w B t rv sv := ⟨h.rules, h.start, h.small, h.whole⟩
theorem TVal.mono {w : World} {B C : Nat} {t : TT} {rv sv : Value} (h : TVal w B t rv sv) (hc : C ≤ B) : TVal w C t rv sv := ⟨own_low h.rules hc, own_low h.start hc, h.small, h.whole⟩
theorem TVal.kept {w w' : World} {B : Nat} {t : TT} {rv sv : Value} {S : List Nat} (h : TVal w B t rv sv) (k : Kept S w w') (hs : ∀ g, g ∈ S → g < B ∨ w.heap.size ≤ g) : TVal w' B t rv sv :=
  ⟨row_stay h.rules k (fun g hg hc => by have := hs g hc; have := h.rules.lt g hg; omega), row_stay h.start k (fun g hg hc => by have := hs g hc; have := h.start.lt g hg; omega), h.small, h.whole⟩
theorem size_text : (Tryz.prog.info? 86).map (·.size) = some 8 := by kernel_rfl
theorem results_text {fn : Func} {p u : Tmp} (h : fn.results = #[.cell p 86, .tmp u]) (tmps : Array Value) (w : World) (g : Nat) (cs : Array Value) (hs : cs.size = 8) (v : Value)
    (hp : tmps.getD p undef = .pointer (some ⟨g, 0, none⟩)) (hv : tmps.getD u undef = v) (hg : Blk w g cs 86) : (results fn tmps).run Tryz.prog w = .ok (.tuple #[.agg cs, v]) w := by
  rw [results_cell_tmp h, hp, hv]
  simp only [asAddr, Sem.run_pure, Result.andThen_ok]
  rw [run_loadVar_row w g _ 86 cs (0, 0) _ hg Tryz.underlying86 rfl (by rw [hs]; exact size_text)]
  rfl
theorem set8 {w : World} {g : Nat} {E : TypeId} (h : Blk w g ztext E) (u0 u1 u2 u3 u4 u5 u6 u7 : Value) :
    Blk ((((((((w.setCell ⟨g, 0, none⟩ u0).setCell ⟨g, 1, none⟩ u1).setCell ⟨g, 2, none⟩ u2).setCell ⟨g, 3, none⟩ u3).setCell ⟨g, 4, none⟩ u4).setCell ⟨g, 5, none⟩ u5).setCell ⟨g, 6, none⟩ u6).setCell ⟨g, 7, none⟩ u7) g #[u0, u1, u2, u3, u4, u5, u6, u7] E := by
  have h0 : Blk (w.setCell ⟨g, 0, none⟩ u0) g #[u0, .int .i64 0, .slice none 0 0, .slice none 0 0, .int .i64 0, .int .i64 0, .int .i64 0, .int .i64 0] E := h.set 0 u0
  have h1 : Blk ((w.setCell ⟨g, 0, none⟩ u0).setCell ⟨g, 1, none⟩ u1) g #[u0, u1, .slice none 0 0, .slice none 0 0, .int .i64 0, .int .i64 0, .int .i64 0, .int .i64 0] E := h0.set 1 u1
  have h2 : Blk (((w.setCell ⟨g, 0, none⟩ u0).setCell ⟨g, 1, none⟩ u1).setCell ⟨g, 2, none⟩ u2) g #[u0, u1, u2, .slice none 0 0, .int .i64 0, .int .i64 0, .int .i64 0, .int .i64 0] E := h1.set 2 u2
  have h3 : Blk ((((w.setCell ⟨g, 0, none⟩ u0).setCell ⟨g, 1, none⟩ u1).setCell ⟨g, 2, none⟩ u2).setCell ⟨g, 3, none⟩ u3) g #[u0, u1, u2, u3, .int .i64 0, .int .i64 0, .int .i64 0, .int .i64 0] E := h2.set 3 u3
  have h4 : Blk (((((w.setCell ⟨g, 0, none⟩ u0).setCell ⟨g, 1, none⟩ u1).setCell ⟨g, 2, none⟩ u2).setCell ⟨g, 3, none⟩ u3).setCell ⟨g, 4, none⟩ u4) g #[u0, u1, u2, u3, u4, .int .i64 0, .int .i64 0, .int .i64 0] E := h3.set 4 u4
  have h5 : Blk ((((((w.setCell ⟨g, 0, none⟩ u0).setCell ⟨g, 1, none⟩ u1).setCell ⟨g, 2, none⟩ u2).setCell ⟨g, 3, none⟩ u3).setCell ⟨g, 4, none⟩ u4).setCell ⟨g, 5, none⟩ u5) g #[u0, u1, u2, u3, u4, u5, .int .i64 0, .int .i64 0] E := h4.set 5 u5
  have h6 : Blk (((((((w.setCell ⟨g, 0, none⟩ u0).setCell ⟨g, 1, none⟩ u1).setCell ⟨g, 2, none⟩ u2).setCell ⟨g, 3, none⟩ u3).setCell ⟨g, 4, none⟩ u4).setCell ⟨g, 5, none⟩ u5).setCell ⟨g, 6, none⟩ u6) g #[u0, u1, u2, u3, u4, u5, u6, .int .i64 0] E := h5.set 6 u6
  have h7 : Blk ((((((((w.setCell ⟨g, 0, none⟩ u0).setCell ⟨g, 1, none⟩ u1).setCell ⟨g, 2, none⟩ u2).setCell ⟨g, 3, none⟩ u3).setCell ⟨g, 4, none⟩ u4).setCell ⟨g, 5, none⟩ u5).setCell ⟨g, 6, none⟩ u6).setCell ⟨g, 7, none⟩ u7) g #[u0, u1, u2, u3, u4, u5, u6, u7] E := h6.set 7 u7
  exact h7
theorem kept8 (w : World) (g : Nat) (u0 u1 u2 u3 u4 u5 u6 u7 : Value) :
    Kept [g] w ((((((((w.setCell ⟨g, 0, none⟩ u0).setCell ⟨g, 1, none⟩ u1).setCell ⟨g, 2, none⟩ u2).setCell ⟨g, 3, none⟩ u3).setCell ⟨g, 4, none⟩ u4).setCell ⟨g, 5, none⟩ u5).setCell ⟨g, 6, none⟩ u6).setCell ⟨g, 7, none⟩ u7) :=
  have s := List.mem_singleton.2 (rfl : g = g)
  ((((((((Kept.refl [g] w).setCell (p := ⟨g, 0, none⟩) (Or.inl s) u0).setCell (p := ⟨g, 1, none⟩) (Or.inl s) u1).setCell (p := ⟨g, 2, none⟩) (Or.inl s) u2).setCell (p := ⟨g, 3, none⟩) (Or.inl s) u3).setCell (p := ⟨g, 4, none⟩) (Or.inl s) u4).setCell (p := ⟨g, 5, none⟩) (Or.inl s) u5).setCell (p := ⟨g, 6, none⟩) (Or.inl s) u6).setCell (p := ⟨g, 7, none⟩) (Or.inl s) u7

structure RulesOut (f : ByteArray) (w w' : World) (e : Ending) : Prop where
  below : Below w.heap.size w w'
  out : (sgOk f = true ∧ ∃ rv sv, TVal w' w.heap.size (sgT f) rv sv ∧ e = .returned (.tuple #[.agg ((sgT f).cells rv sv), .bool true])) ∨ (sgOk f = false ∧ e = .returned (.tuple #[.agg ztext, .bool false]))

/-- What the loops keep: the reader's block, the text's block, all below the reader's. -/
structure Two (w0 w : World) (n : Nat) (f : ByteArray) (s : RS) (t : TT) (rv sv : Value) : Prop where
  rg : RG w (n + 1) f s
  tm : TM w (n + 2) #[] #[] 86 (n + 3) t rv sv
  below : Below (n + 1) w0 w
theorem Two.read {w0 w w' : World} {n : Nat} {f : ByteArray} {s s' : RS} {t : TT} {rv sv : Value} (h : Two w0 w n f s t rv sv) (r : RG w' (n + 1) f s') (k : Kept [n + 1] w w') : Two w0 w' n f s' t rv sv :=
  ⟨r, h.tm.other k (by omega) (by omega), h.below.trans (k.below (by have := h.rg.lt; omega) (by simp))⟩
theorem Two.text {w0 w w' : World} {n : Nat} {f : ByteArray} {s : RS} {t t' : TT} {rv sv rv' sv' : Value} (h : Two w0 w n f s t rv sv) (m : TM w' (n + 2) #[] #[] 86 (n + 3) t' rv' sv') (k : Fra (n + 3) (n + 2) w w') : Two w0 w' n f s t' rv' sv' :=
  ⟨k.blk h.rg (by omega) (by omega), m, h.below.trans (k.below (by omega) (by omega))⟩

theorem Two.syms {w0 w : World} {n : Nat} {f : ByteArray} {s : RS} {t : TT} {rv sv : Value} (h : Two w0 w n f s t rv sv) (N : Nat) : Two w0 (w.setCell ⟨n + 2, 1, none⟩ (.int .i64 (N : Int))) n f s { t with syms := N } rv sv :=
  ⟨h.rg.other 1 _ (by omega), ⟨text_set (cs := t.cells rv sv) (o := 0) (j := 1) (cs' := TT.cells { t with syms := N } rv sv) h.tm.blk rfl (by simp [TT.cells]) _ rfl, h.tm.lt, by have := h.tm.up; simpa [World.setCell] using this, row_set h.tm.rules (by omega) _ _, row_set h.tm.start (by omega) _ _, h.tm.small, h.tm.whole⟩, h.below.setCell (by simp) _⟩
theorem Two.at2 {w0 w : World} {n : Nat} {f : ByteArray} {s : RS} {t : TT} {rv sv : Value} (h : Two w0 w n f s t rv sv) (j : Nat) (hj : j < 8) : w.cell? ⟨n + 2, j, none⟩ = (t.cells rv sv)[j]? := by
  have := h.tm.cell (o := 0) rfl j hj
  rwa [Nat.zero_add] at this
theorem rcount1_any (w : World) (b : Nat) (f : ByteArray) (h : RG w b f (2, false)) (hf : f.size ≤ 4000) :
    Calls Tryz.prog 127 #[.pointer (some ⟨b, 0, none⟩), .int .i64 1, .int .i64 100] w fun e w' => e = .returned (.int .i64 ((sgR f).1 : Int)) ∧ RG w' b f (sgR f).2 ∧ Kept [b] w w' :=
  rcount_any w b f (2, false) h (by omega) (by simp) 1 (Or.inl rfl) 100 (by omega)
theorem rcount2_any (w : World) (b : Nat) (f : ByteArray) (s : RS) (h : RG w b f s) (hf : f.size ≤ 4000) (hs : s.1 ≤ 99000) :
    Calls Tryz.prog 127 #[.pointer (some ⟨b, 0, none⟩), .int .i64 2, .int .i64 1000] w fun e w' => e = .returned (.int .i64 ((countG f 2 1000 s).1 : Int)) ∧ RG w' b f (countG f 2 1000 s).2 ∧ Kept [b] w w' :=
  rcount_any w b f s h (by omega) hs 2 (Or.inr rfl) 1000 (by omega)

theorem own_shape {w : World} {base : Nat} {e : TypeId} {size : Nat} {v : Value} {n : Nat} {xs : List Value} (h : w.ownsRow base e size v n xs) : ∃ a k c, v = .slice a k c := by
  rcases h.2 with ⟨h2, _⟩ | ⟨g, c, u, h3, _⟩
  · exact ⟨_, _, _, h2⟩
  · exact ⟨_, _, _, h3⟩
/-- What comes out of the reader's end. -/
theorem rules_end {f : ByteArray} {w w2 w3 : World} {s : RS} {t : TT} {rv sv : Value} (h : Two (w.alloc (.cells ztext 86)) w2 w.heap.size f s t rv sv) :
    Blk w2 w.heap.size ztext 86 ∧ (∀ w3, Kept [w.heap.size] w2 w3 → Below w.heap.size w w3 ∧ TVal w3 w.heap.size t rv sv) := by
  refine ⟨(h.below.block _ (by omega)).trans (Blk.new w _ _), fun w3 k => ⟨?_, ?_⟩⟩
  · exact (((Below.refl w.heap.size w).alloc (Nat.le_refl _) _).trans (h.below.mono (by omega))).trans (k.below (by have := h.below.size; simp at this; omega) (by simp))
  · exact (h.tm.val.kept k (fun g hg => by simp at hg; omega)).mono (by omega)

set_option maxHeartbeats 4000000 in
set_option maxRecDepth 100000 in
theorem readRules_any (f : ByteArray) (hf : f.size ≤ 4000) (w : World) :
    Calls Tryz.prog 84 #[.string f] w fun e w' => RulesOut f w w' e := by
  obtain ⟨n, hn⟩ : ∃ n, n = w.heap.size := ⟨_, rfl⟩
  have h0 : Two (w.alloc (.cells ztext 86)) (((w.alloc (.cells ztext 86)).alloc (.cells #[.string f, .int .i64 2, .bool false] 208)).alloc (.cells #[.int .i64 71, .int .i64 0, .slice none 0 0, .slice none 0 0, .int .i64 0, .int .i64 0, .int .i64 0, .int .i64 0] 86)) w.heap.size f (2, false) { kind := 71 } (.slice none 0 0) (.slice none 0 0) := by
    refine ⟨?_, ⟨?_, by omega, by simp, World.ownsRow_nil _ _ _ 6, World.ownsRow_nil _ _ _ 1, (fun x hx => nomatch hx), ⟨by simp, by simp⟩⟩, ?_⟩
    · have := (Blk.new (w.alloc (.cells ztext 86)) #[.string f, .int .i64 2, .bool false] 208).alloc (.cells #[.int .i64 71, .int .i64 0, .slice none 0 0, .slice none 0 0, .int .i64 0, .int .i64 0, .int .i64 0, .int .i64 0] 86)
      unfold RG; simpa using this
    · have := Blk.new ((w.alloc (.cells ztext 86)).alloc (.cells #[.string f, .int .i64 2, .bool false] 208)) #[.int .i64 71, .int .i64 0, .slice none 0 0, .slice none 0 0, .int .i64 0, .int .i64 0, .int .i64 0, .int .i64 0] 86
      simpa [TT.cells] using this
    · exact ((Below.refl (w.heap.size + 1) _).alloc (by simp) _).alloc (by simp) _
  have hRb := sgR_bd f
  have h0H : Hid (Two _ _ _ _ _ _ _ _) := h0
  have hc1 : Hid (Calls _ _ _ _ _) := rcount1_any _ _ f h0.rg hf
  unfold ztext at hc1
  clear h0 hn
  go_enter Tryz.func84, Tryz.ntmps84
  go_wp2_with fail
  refine hc1.out.mono ?_
  rintro e w1 ⟨rfl, r1, k1⟩
  have h1 : Hid (Two _ _ _ _ _ _ _ _) := h0H.out.read r1 k1
  clear hc1 h0H r1 k1
  go_wp2_with fail
  go_loopw [7] (fun iv wr => ∃ q : Nat, iv = .int .i64 (q : Int) ∧ q ≤ (sgR f).1 ∧ ∃ rv, Two (w.alloc (.cells ztext 86)) wr w.heap.size f (ruG f (sgR f).2 q).2 { kind := 71, rules := (ruG f (sgR f).2 q).1 } rv (.slice none 0 0)) (fun iv _ => (((sgR f).1 : Int) - intOf iv).toNat)
  case atStart => exact ⟨0, rfl, Nat.zero_le _, _, h1.out⟩
  case round =>
    obtain ⟨q, rfl, hq, rv, h2⟩ := hrel
    clear h1
    have hqat := ruG_at f (sgR f).2 q
    have hqlen := ruG_len f (sgR f).2 q
    have e2 : wr.cell? ⟨w.heap.size + 1, 2, none⟩ = some (.bool (ruG f (sgR f).2 q).2.2) := h2.rg.cell 2
    obtain ⟨bad, hbad⟩ : ∃ bad, bad = (ruG f (sgR f).2 q).2.2 := ⟨_, rfl⟩
    rw [← hbad] at e2
    have hbadH : Hid (_ = _) := hbad
    clear hbad
    by_cases hlt : (q : Int) < ((sgR f).1 : Int)
    · cases bad with
      | false =>
        have hs1 : Hid (Calls _ _ _ _ _) := rsymbol_any wr (w.heap.size + 1) f _ h2.rg (by omega) (by omega) q (by omega)
        have h2H : Hid (Two _ _ _ _ _ _ _ _) := h2
        clear h2
        go_wp2_with fail
        refine hs1.out.mono ?_
        rintro e w3 ⟨rfl, r3, k3⟩
        have h3 := h2H.out.read r3 k3
        have hA1 := (countG_ge f 2 (255 + q) (ruG f (sgR f).2 q).2).2
        have hL1 := countG_le f 2 (255 + q) (ruG f (sgR f).2 q).2
        have hs2 : Hid (Calls _ _ _ _ _) := rsymbol_any w3 (w.heap.size + 1) f _ h3.rg (by omega) (by omega) q (by omega)
        have h3H : Hid (Two _ _ _ _ _ _ _ _) := h3
        clear hs1 r3 k3 h3 h2H e2
        go_wp2_with fail
        refine hs2.out.mono ?_
        rintro e w4 ⟨rfl, r4, k4⟩
        have h4 := h3H.out.read r4 k4
        have hL2 := countG_le f 2 (255 + q) (countG f 2 (255 + q) (ruG f (sgR f).2 q).2).2
        have hs3 : Hid (Calls _ _ _ _ _) := addRule_any h4.tm (o := 0) rfl (countG f 2 (255 + q) (ruG f (sgR f).2 q).2).1 (countG f 2 (255 + q) (countG f 2 (255 + q) (ruG f (sgR f).2 q).2).2).1 (by omega) (by omega) (by simp only []; omega)
        have h4H : Hid (Two _ _ _ _ _ _ _ _) := h4
        clear hs2 r4 k4 h4 h3H
        go_wp2_with fail
        refine hs3.out.mono ?_
        rintro e w5 ⟨rfl, f5, rv5, t5⟩
        have h5 : Hid (Two _ _ _ _ _ _ _ _) := h4H.out.text t5 f5
        clear hs3 h4H f5 t5
        go_wp2
        refine ⟨⟨q + 1, by go_num, by omega, _, h5.out⟩, ?_⟩
        simp only [intOf]; omega
      | true =>
        have hA : Hid (AfterRules _ _ _) := AfterRules.of hq (Or.inl hbadH.out.symm)
        clear hbadH hqat hqlen
        generalize (ruG f (sgR f).2 q).1 = rs at *
        generalize (ruG f (sgR f).2 q).2 = S at *
        have hc2 : Hid (Calls _ _ _ _ _) := rcount2_any wr (w.heap.size + 1) f S h2.rg hf (by have := hA.out.at_; omega)
        have h2H : Hid (Two _ _ _ _ _ _ _ _) := h2
        clear h2
        go_wp2_with fail
        refine hc2.out.mono ?_
        rintro e w3 ⟨rfl, r3, k3⟩
        have h3 := h2H.out.read r3 k3
        have hC := hA.out.count
        generalize countG f 2 1000 S = NS at *
        obtain ⟨N, s3⟩ := NS
        simp only [] at h3 hC r3
        have hN := hC.up
        have d1 : w3.cell? ⟨w.heap.size + 2, 1, none⟩ = some (.int .i64 0) := h3.at2 1 (by omega)
        have d2 : w3.frozen? ⟨w.heap.size + 2, 1, none⟩ = false := h3.tm.blk.frozen 1
        have h4 : Hid (Two _ _ _ _ _ _ _ _) := h3.syms N
        have hC : Hid (AmongSyms _ _ _ _ _ _ _) := hC
        clear hc2 h2H r3 k3 h3 hA
        go_wp2_with fail
        go_loopw [10] (fun jv wr => ∃ (j : Nat) (l : List Nat) (p : PT) (s : RS) (sv : Value), jv = .int .i64 (j : Int) ∧ j ≤ N ∧ AmongSyms f rs N j l p s ∧ Two (w.alloc (.cells ztext 86)) wr w.heap.size f s { kind := 71, syms := N, rules := rs, start := l, whole := p } rv sv) (fun jv _ => ((N : Int) - intOf jv).toNat)
        case atStart => exact ⟨0, [], {}, s3, _, rfl, Nat.zero_le _, hC.out, h4.out⟩
        case round =>
          obtain ⟨j, l, p, s, sv, rfl, hj, hC, h5⟩ := hrel
          clear h4 d1 d2
          have hRb1 := (sgR_bd f).1
          have hsat := hC.at_
          have hrl := hC.len
          have hll := hC.llen
          have e1 : wr.cell? ⟨w.heap.size + 1, 1, none⟩ = some (.int .i64 (s.1 : Int)) := h5.rg.cell 1
          have e2 : wr.cell? ⟨w.heap.size + 1, 2, none⟩ = some (.bool s.2) := h5.rg.cell 2
          have e3 : wr.cell? ⟨w.heap.size + 2, 1, none⟩ = some (.int .i64 (N : Int)) := h5.at2 1 (by omega)
          have hCH : Hid (AmongSyms _ _ _ _ _ _ _) := hC
          have h5H : Hid (Two _ _ _ _ _ _ _ _) := h5
          obtain ⟨p0, bad⟩ := s
          simp only [] at e1 e2 hsat
          clear hC h5
          by_cases hjl : (j : Int) < (N : Int)
          · cases bad with
            | false =>
              have hs1 : Hid (Calls _ _ _ _ _) := rsymbol_any wr (w.heap.size + 1) f _ h5H.out.rg (by omega) (by simp only []; omega) (sgR f).1 (by omega)
              go_wp2_with fail
              refine hs1.out.mono ?_
              rintro e w6 ⟨rfl, r6, k6⟩
              have h6 := h5H.out.read r6 k6
              have hC6 : Hid (AmongSyms _ _ _ _ _ _ _) := hCH.out.next (by omega) rfl
              have hcl : (countG f 2 (255 + (sgR f).1) (p0, false)).1 ≤ 1000 := Nat.le_trans (countG_le _ _ _ _) (by omega)
              have hst : Hid (Calls _ _ _ _ _) := addToStart_any h6.tm (o := 0) rfl (countG f 2 (255 + (sgR f).1) (p0, false)).1 (by omega) (by simp only []; omega) (by simp only []; omega)
              have h6H : Hid (Two _ _ _ _ _ _ _ _) := h6
              generalize countG f 2 (255 + (sgR f).1) (p0, false) = C at *
              clear hs1 r6 k6 h6 e1 e2 e3 hCH h5H
              go_wp2_with fail
              refine hst.out.mono ?_
              rintro e w7 ⟨rfl, f7, sv7, t7⟩
              have h7 : Hid (Two _ _ _ _ _ _ _ _) := h6H.out.text t7 f7
              clear hst h6H f7 t7
              go_wp2
              refine ⟨⟨j + 1, _, _, _, _, by go_num, by omega, hC6.out, h7.out⟩, ?_⟩
              simp only [intOf]; omega
            | true =>
              have hno : Hid (sgOk f = false) := hCH.out.bad rfl
              obtain ⟨hz, hend⟩ := rules_end (w3 := wr) h5H.out
              have hendH : Hid (∀ w3, _ → _) := hend
              have hS : Hid (∀ u0 u1 u2 u3 u4 u5 u6 u7, Blk _ _ _ _) := fun u0 u1 u2 u3 u4 u5 u6 u7 => set8 hz u0 u1 u2 u3 u4 u5 u6 u7
              unfold ztext at hz
              have z0 : wr.cell? ⟨w.heap.size, 0, none⟩ = some (.int .i64 0) := hz.cell 0
              have y0 : wr.frozen? ⟨w.heap.size, 0, none⟩ = false := hz.frozen 0
              have z1 : wr.cell? ⟨w.heap.size, 1, none⟩ = some (.int .i64 0) := hz.cell 1
              have y1 : wr.frozen? ⟨w.heap.size, 1, none⟩ = false := hz.frozen 1
              have z2 : wr.cell? ⟨w.heap.size, 2, none⟩ = some (.slice none 0 0) := hz.cell 2
              have y2 : wr.frozen? ⟨w.heap.size, 2, none⟩ = false := hz.frozen 2
              have z3 : wr.cell? ⟨w.heap.size, 3, none⟩ = some (.slice none 0 0) := hz.cell 3
              have y3 : wr.frozen? ⟨w.heap.size, 3, none⟩ = false := hz.frozen 3
              have z4 : wr.cell? ⟨w.heap.size, 4, none⟩ = some (.int .i64 0) := hz.cell 4
              have y4 : wr.frozen? ⟨w.heap.size, 4, none⟩ = false := hz.frozen 4
              have z5 : wr.cell? ⟨w.heap.size, 5, none⟩ = some (.int .i64 0) := hz.cell 5
              have y5 : wr.frozen? ⟨w.heap.size, 5, none⟩ = false := hz.frozen 5
              have z6 : wr.cell? ⟨w.heap.size, 6, none⟩ = some (.int .i64 0) := hz.cell 6
              have y6 : wr.frozen? ⟨w.heap.size, 6, none⟩ = false := hz.frozen 6
              have z7 : wr.cell? ⟨w.heap.size, 7, none⟩ = some (.int .i64 0) := hz.cell 7
              have y7 : wr.frozen? ⟨w.heap.size, 7, none⟩ = false := hz.frozen 7
              clear hz hend
              clear hCH h5H
              go_wp2
              exact bodyPost_ret (v := .tuple #[.agg ztext, .bool false]) (results_text Tryz.results84 _ _ w.heap.size ztext rfl _ rfl rfl (hS.out _ _ _ _ _ _ _ _)) rfl ⟨(hendH.out _ (kept8 _ _ _ _ _ _ _ _ _ _)).1, Or.inr ⟨hno.out, rfl⟩⟩
          · have hjn : j = N := by omega
            subst hjn
            cases bad with
            | true =>
              have hno : Hid (sgOk f = false) := hCH.out.bad rfl
              obtain ⟨hz, hend⟩ := rules_end (w3 := wr) h5H.out
              have hendH : Hid (∀ w3, _ → _) := hend
              have hS : Hid (∀ u0 u1 u2 u3 u4 u5 u6 u7, Blk _ _ _ _) := fun u0 u1 u2 u3 u4 u5 u6 u7 => set8 hz u0 u1 u2 u3 u4 u5 u6 u7
              unfold ztext at hz
              have z0 : wr.cell? ⟨w.heap.size, 0, none⟩ = some (.int .i64 0) := hz.cell 0
              have y0 : wr.frozen? ⟨w.heap.size, 0, none⟩ = false := hz.frozen 0
              have z1 : wr.cell? ⟨w.heap.size, 1, none⟩ = some (.int .i64 0) := hz.cell 1
              have y1 : wr.frozen? ⟨w.heap.size, 1, none⟩ = false := hz.frozen 1
              have z2 : wr.cell? ⟨w.heap.size, 2, none⟩ = some (.slice none 0 0) := hz.cell 2
              have y2 : wr.frozen? ⟨w.heap.size, 2, none⟩ = false := hz.frozen 2
              have z3 : wr.cell? ⟨w.heap.size, 3, none⟩ = some (.slice none 0 0) := hz.cell 3
              have y3 : wr.frozen? ⟨w.heap.size, 3, none⟩ = false := hz.frozen 3
              have z4 : wr.cell? ⟨w.heap.size, 4, none⟩ = some (.int .i64 0) := hz.cell 4
              have y4 : wr.frozen? ⟨w.heap.size, 4, none⟩ = false := hz.frozen 4
              have z5 : wr.cell? ⟨w.heap.size, 5, none⟩ = some (.int .i64 0) := hz.cell 5
              have y5 : wr.frozen? ⟨w.heap.size, 5, none⟩ = false := hz.frozen 5
              have z6 : wr.cell? ⟨w.heap.size, 6, none⟩ = some (.int .i64 0) := hz.cell 6
              have y6 : wr.frozen? ⟨w.heap.size, 6, none⟩ = false := hz.frozen 6
              have z7 : wr.cell? ⟨w.heap.size, 7, none⟩ = some (.int .i64 0) := hz.cell 7
              have y7 : wr.frozen? ⟨w.heap.size, 7, none⟩ = false := hz.frozen 7
              clear hz hend
              clear hCH h5H
              go_wp2
              exact bodyPost_ret (v := .tuple #[.agg ztext, .bool false]) (results_text Tryz.results84 _ _ w.heap.size ztext rfl _ rfl rfl (hS.out _ _ _ _ _ _ _ _)) rfl ⟨(hendH.out _ (kept8 _ _ _ _ _ _ _ _ _ _)).1, Or.inr ⟨hno.out, rfl⟩⟩
            | false =>
              obtain ⟨hok, hT⟩ := hCH.out.fin rfl
              simp only [] at hok
              have hokH : Hid (_ = _) := hok
              have hTH : Hid (_ = _) := hT
              clear hok hT
              by_cases hat : (p0 : Int) < (f.size : Int)
              · have hno : Hid (sgOk f = false) := by rw [hokH.out]; exact decide_eq_false (by omega)
                obtain ⟨hz, hend⟩ := rules_end (w3 := wr) h5H.out
                have hendH : Hid (∀ w3, _ → _) := hend
                have hS : Hid (∀ u0 u1 u2 u3 u4 u5 u6 u7, Blk _ _ _ _) := fun u0 u1 u2 u3 u4 u5 u6 u7 => set8 hz u0 u1 u2 u3 u4 u5 u6 u7
                unfold ztext at hz
                have z0 : wr.cell? ⟨w.heap.size, 0, none⟩ = some (.int .i64 0) := hz.cell 0
                have y0 : wr.frozen? ⟨w.heap.size, 0, none⟩ = false := hz.frozen 0
                have z1 : wr.cell? ⟨w.heap.size, 1, none⟩ = some (.int .i64 0) := hz.cell 1
                have y1 : wr.frozen? ⟨w.heap.size, 1, none⟩ = false := hz.frozen 1
                have z2 : wr.cell? ⟨w.heap.size, 2, none⟩ = some (.slice none 0 0) := hz.cell 2
                have y2 : wr.frozen? ⟨w.heap.size, 2, none⟩ = false := hz.frozen 2
                have z3 : wr.cell? ⟨w.heap.size, 3, none⟩ = some (.slice none 0 0) := hz.cell 3
                have y3 : wr.frozen? ⟨w.heap.size, 3, none⟩ = false := hz.frozen 3
                have z4 : wr.cell? ⟨w.heap.size, 4, none⟩ = some (.int .i64 0) := hz.cell 4
                have y4 : wr.frozen? ⟨w.heap.size, 4, none⟩ = false := hz.frozen 4
                have z5 : wr.cell? ⟨w.heap.size, 5, none⟩ = some (.int .i64 0) := hz.cell 5
                have y5 : wr.frozen? ⟨w.heap.size, 5, none⟩ = false := hz.frozen 5
                have z6 : wr.cell? ⟨w.heap.size, 6, none⟩ = some (.int .i64 0) := hz.cell 6
                have y6 : wr.frozen? ⟨w.heap.size, 6, none⟩ = false := hz.frozen 6
                have z7 : wr.cell? ⟨w.heap.size, 7, none⟩ = some (.int .i64 0) := hz.cell 7
                have y7 : wr.frozen? ⟨w.heap.size, 7, none⟩ = false := hz.frozen 7
                clear hz hend
                clear hCH h5H
                go_wp2
                exact bodyPost_ret (v := .tuple #[.agg ztext, .bool false]) (results_text Tryz.results84 _ _ w.heap.size ztext rfl _ rfl rfl (hS.out _ _ _ _ _ _ _ _)) rfl ⟨(hendH.out _ (kept8 _ _ _ _ _ _ _ _ _ _)).1, Or.inr ⟨hno.out, rfl⟩⟩
              · have hyes : Hid (sgOk f = true) := by rw [hokH.out]; exact decide_eq_true (by omega)
                obtain ⟨hz, hend⟩ := rules_end (w3 := wr) h5H.out
                have hendH : Hid (∀ w3, _ → _) := hend
                have hS : Hid (∀ u0 u1 u2 u3 u4 u5 u6 u7, Blk _ _ _ _) := fun u0 u1 u2 u3 u4 u5 u6 u7 => set8 hz u0 u1 u2 u3 u4 u5 u6 u7
                unfold ztext at hz
                have z0 : wr.cell? ⟨w.heap.size, 0, none⟩ = some (.int .i64 0) := hz.cell 0
                have y0 : wr.frozen? ⟨w.heap.size, 0, none⟩ = false := hz.frozen 0
                have z1 : wr.cell? ⟨w.heap.size, 1, none⟩ = some (.int .i64 0) := hz.cell 1
                have y1 : wr.frozen? ⟨w.heap.size, 1, none⟩ = false := hz.frozen 1
                have z2 : wr.cell? ⟨w.heap.size, 2, none⟩ = some (.slice none 0 0) := hz.cell 2
                have y2 : wr.frozen? ⟨w.heap.size, 2, none⟩ = false := hz.frozen 2
                have z3 : wr.cell? ⟨w.heap.size, 3, none⟩ = some (.slice none 0 0) := hz.cell 3
                have y3 : wr.frozen? ⟨w.heap.size, 3, none⟩ = false := hz.frozen 3
                have z4 : wr.cell? ⟨w.heap.size, 4, none⟩ = some (.int .i64 0) := hz.cell 4
                have y4 : wr.frozen? ⟨w.heap.size, 4, none⟩ = false := hz.frozen 4
                have z5 : wr.cell? ⟨w.heap.size, 5, none⟩ = some (.int .i64 0) := hz.cell 5
                have y5 : wr.frozen? ⟨w.heap.size, 5, none⟩ = false := hz.frozen 5
                have z6 : wr.cell? ⟨w.heap.size, 6, none⟩ = some (.int .i64 0) := hz.cell 6
                have y6 : wr.frozen? ⟨w.heap.size, 6, none⟩ = false := hz.frozen 6
                have z7 : wr.cell? ⟨w.heap.size, 7, none⟩ = some (.int .i64 0) := hz.cell 7
                have y7 : wr.frozen? ⟨w.heap.size, 7, none⟩ = false := hz.frozen 7
                clear hz hend
                have x0 : wr.cell? ⟨w.heap.size + 2, 0, none⟩ = some (.int .i64 71) := h5H.out.at2 0 (by omega)
                have x2 : wr.cell? ⟨w.heap.size + 2, 2, none⟩ = some (rv) := h5H.out.at2 2 (by omega)
                have x3 : wr.cell? ⟨w.heap.size + 2, 3, none⟩ = some (sv) := h5H.out.at2 3 (by omega)
                have x4 : wr.cell? ⟨w.heap.size + 2, 4, none⟩ = some (.int .i64 p.len) := h5H.out.at2 4 (by omega)
                have x5 : wr.cell? ⟨w.heap.size + 2, 5, none⟩ = some (.int .i64 p.nl) := h5H.out.at2 5 (by omega)
                have x6 : wr.cell? ⟨w.heap.size + 2, 6, none⟩ = some (.int .i64 p.first) := h5H.out.at2 6 (by omega)
                have x7 : wr.cell? ⟨w.heap.size + 2, 7, none⟩ = some (.int .i64 p.last) := h5H.out.at2 7 (by omega)
                have hbn : w.heap.size + 2 < wr.heap.size := h5H.out.tm.blk.lt
                obtain ⟨ra, rn, rc, rfl⟩ := own_shape h5H.out.tm.rules
                obtain ⟨sa, sn, sc, rfl⟩ := own_shape h5H.out.tm.start
                have hfin : Hid (∀ w3, Kept [w.heap.size] wr w3 → RulesOut f w w3 (.returned (.tuple #[.agg #[.int .i64 71, .int .i64 (j : Int), .slice ra rn rc, .slice sa sn sc, .int .i64 p.len, .int .i64 p.nl, .int .i64 p.first, .int .i64 p.last], .bool true]))) := fun w3 k => by
                  obtain ⟨b3, v3⟩ := hendH.out w3 k
                  rw [hTH.out] at v3
                  refine ⟨b3, Or.inl ⟨hyes.out, _, _, v3, ?_⟩⟩
                  rw [← hTH.out]; rfl
                clear hCH h5H hendH hTH hokH
                go_wp2
                refine bodyPost_ret (v := .tuple #[.agg #[.int .i64 71, .int .i64 (j : Int), .slice ra rn rc, .slice sa sn sc, .int .i64 p.len, .int .i64 p.nl, .int .i64 p.first, .int .i64 p.last], .bool true]) (results_text Tryz.results84 _ _ w.heap.size _ rfl _ rfl rfl (hS.out _ _ _ _ _ _ _ _)) rfl ?_
                exact hfin.out _ (kept8 _ _ _ _ _ _ _ _ _ _)
    · have hqe : q = (sgR f).1 := by omega
      have hA : Hid (AfterRules _ _ _) := AfterRules.of hq (Or.inr hqe)
      have hnl : ¬ (q : Int) < ((sgR f).1 : Int) := hlt
      clear hbadH hqat hqlen hqe hlt
      generalize (ruG f (sgR f).2 q).1 = rs at *
      generalize (ruG f (sgR f).2 q).2 = S at *
      have hc2 : Hid (Calls _ _ _ _ _) := rcount2_any wr (w.heap.size + 1) f S h2.rg hf (by have := hA.out.at_; omega)
      have h2H : Hid (Two _ _ _ _ _ _ _ _) := h2
      clear h2
      go_wp2_with fail
      refine hc2.out.mono ?_
      rintro e w3 ⟨rfl, r3, k3⟩
      have h3 := h2H.out.read r3 k3
      have hC := hA.out.count
      generalize countG f 2 1000 S = NS at *
      obtain ⟨N, s3⟩ := NS
      simp only [] at h3 hC r3
      have hN := hC.up
      have d1 : w3.cell? ⟨w.heap.size + 2, 1, none⟩ = some (.int .i64 0) := h3.at2 1 (by omega)
      have d2 : w3.frozen? ⟨w.heap.size + 2, 1, none⟩ = false := h3.tm.blk.frozen 1
      have h4 : Hid (Two _ _ _ _ _ _ _ _) := h3.syms N
      have hC : Hid (AmongSyms _ _ _ _ _ _ _) := hC
      clear hc2 h2H r3 k3 h3 hA
      go_wp2_with fail
      go_loopw [10] (fun jv wr => ∃ (j : Nat) (l : List Nat) (p : PT) (s : RS) (sv : Value), jv = .int .i64 (j : Int) ∧ j ≤ N ∧ AmongSyms f rs N j l p s ∧ Two (w.alloc (.cells ztext 86)) wr w.heap.size f s { kind := 71, syms := N, rules := rs, start := l, whole := p } rv sv) (fun jv _ => ((N : Int) - intOf jv).toNat)
      case atStart => exact ⟨0, [], {}, s3, _, rfl, Nat.zero_le _, hC.out, h4.out⟩
      case round =>
        obtain ⟨j, l, p, s, sv, rfl, hj, hC, h5⟩ := hrel
        clear h4 d1 d2
        have hRb1 := (sgR_bd f).1
        have hsat := hC.at_
        have hrl := hC.len
        have hll := hC.llen
        have e1 : wr.cell? ⟨w.heap.size + 1, 1, none⟩ = some (.int .i64 (s.1 : Int)) := h5.rg.cell 1
        have e2 : wr.cell? ⟨w.heap.size + 1, 2, none⟩ = some (.bool s.2) := h5.rg.cell 2
        have e3 : wr.cell? ⟨w.heap.size + 2, 1, none⟩ = some (.int .i64 (N : Int)) := h5.at2 1 (by omega)
        have hCH : Hid (AmongSyms _ _ _ _ _ _ _) := hC
        have h5H : Hid (Two _ _ _ _ _ _ _ _) := h5
        obtain ⟨p0, bad⟩ := s
        simp only [] at e1 e2 hsat
        clear hC h5
        by_cases hjl : (j : Int) < (N : Int)
        · cases bad with
          | false =>
            have hs1 : Hid (Calls _ _ _ _ _) := rsymbol_any wr (w.heap.size + 1) f _ h5H.out.rg (by omega) (by simp only []; omega) (sgR f).1 (by omega)
            go_wp2_with fail
            refine hs1.out.mono ?_
            rintro e w6 ⟨rfl, r6, k6⟩
            have h6 := h5H.out.read r6 k6
            have hC6 : Hid (AmongSyms _ _ _ _ _ _ _) := hCH.out.next (by omega) rfl
            have hcl : (countG f 2 (255 + (sgR f).1) (p0, false)).1 ≤ 1000 := Nat.le_trans (countG_le _ _ _ _) (by omega)
            have hst : Hid (Calls _ _ _ _ _) := addToStart_any h6.tm (o := 0) rfl (countG f 2 (255 + (sgR f).1) (p0, false)).1 (by omega) (by simp only []; omega) (by simp only []; omega)
            have h6H : Hid (Two _ _ _ _ _ _ _ _) := h6
            generalize countG f 2 (255 + (sgR f).1) (p0, false) = C at *
            clear hs1 r6 k6 h6 e1 e2 e3 hCH h5H
            go_wp2_with fail
            refine hst.out.mono ?_
            rintro e w7 ⟨rfl, f7, sv7, t7⟩
            have h7 : Hid (Two _ _ _ _ _ _ _ _) := h6H.out.text t7 f7
            clear hst h6H f7 t7
            go_wp2
            refine ⟨⟨j + 1, _, _, _, _, by go_num, by omega, hC6.out, h7.out⟩, ?_⟩
            simp only [intOf]; omega
          | true =>
            have hno : Hid (sgOk f = false) := hCH.out.bad rfl
            obtain ⟨hz, hend⟩ := rules_end (w3 := wr) h5H.out
            have hendH : Hid (∀ w3, _ → _) := hend
            have hS : Hid (∀ u0 u1 u2 u3 u4 u5 u6 u7, Blk _ _ _ _) := fun u0 u1 u2 u3 u4 u5 u6 u7 => set8 hz u0 u1 u2 u3 u4 u5 u6 u7
            unfold ztext at hz
            have z0 : wr.cell? ⟨w.heap.size, 0, none⟩ = some (.int .i64 0) := hz.cell 0
            have y0 : wr.frozen? ⟨w.heap.size, 0, none⟩ = false := hz.frozen 0
            have z1 : wr.cell? ⟨w.heap.size, 1, none⟩ = some (.int .i64 0) := hz.cell 1
            have y1 : wr.frozen? ⟨w.heap.size, 1, none⟩ = false := hz.frozen 1
            have z2 : wr.cell? ⟨w.heap.size, 2, none⟩ = some (.slice none 0 0) := hz.cell 2
            have y2 : wr.frozen? ⟨w.heap.size, 2, none⟩ = false := hz.frozen 2
            have z3 : wr.cell? ⟨w.heap.size, 3, none⟩ = some (.slice none 0 0) := hz.cell 3
            have y3 : wr.frozen? ⟨w.heap.size, 3, none⟩ = false := hz.frozen 3
            have z4 : wr.cell? ⟨w.heap.size, 4, none⟩ = some (.int .i64 0) := hz.cell 4
            have y4 : wr.frozen? ⟨w.heap.size, 4, none⟩ = false := hz.frozen 4
            have z5 : wr.cell? ⟨w.heap.size, 5, none⟩ = some (.int .i64 0) := hz.cell 5
            have y5 : wr.frozen? ⟨w.heap.size, 5, none⟩ = false := hz.frozen 5
            have z6 : wr.cell? ⟨w.heap.size, 6, none⟩ = some (.int .i64 0) := hz.cell 6
            have y6 : wr.frozen? ⟨w.heap.size, 6, none⟩ = false := hz.frozen 6
            have z7 : wr.cell? ⟨w.heap.size, 7, none⟩ = some (.int .i64 0) := hz.cell 7
            have y7 : wr.frozen? ⟨w.heap.size, 7, none⟩ = false := hz.frozen 7
            clear hz hend
            clear hCH h5H
            go_wp2
            exact bodyPost_ret (v := .tuple #[.agg ztext, .bool false]) (results_text Tryz.results84 _ _ w.heap.size ztext rfl _ rfl rfl (hS.out _ _ _ _ _ _ _ _)) rfl ⟨(hendH.out _ (kept8 _ _ _ _ _ _ _ _ _ _)).1, Or.inr ⟨hno.out, rfl⟩⟩
        · have hjn : j = N := by omega
          subst hjn
          cases bad with
          | true =>
            have hno : Hid (sgOk f = false) := hCH.out.bad rfl
            obtain ⟨hz, hend⟩ := rules_end (w3 := wr) h5H.out
            have hendH : Hid (∀ w3, _ → _) := hend
            have hS : Hid (∀ u0 u1 u2 u3 u4 u5 u6 u7, Blk _ _ _ _) := fun u0 u1 u2 u3 u4 u5 u6 u7 => set8 hz u0 u1 u2 u3 u4 u5 u6 u7
            unfold ztext at hz
            have z0 : wr.cell? ⟨w.heap.size, 0, none⟩ = some (.int .i64 0) := hz.cell 0
            have y0 : wr.frozen? ⟨w.heap.size, 0, none⟩ = false := hz.frozen 0
            have z1 : wr.cell? ⟨w.heap.size, 1, none⟩ = some (.int .i64 0) := hz.cell 1
            have y1 : wr.frozen? ⟨w.heap.size, 1, none⟩ = false := hz.frozen 1
            have z2 : wr.cell? ⟨w.heap.size, 2, none⟩ = some (.slice none 0 0) := hz.cell 2
            have y2 : wr.frozen? ⟨w.heap.size, 2, none⟩ = false := hz.frozen 2
            have z3 : wr.cell? ⟨w.heap.size, 3, none⟩ = some (.slice none 0 0) := hz.cell 3
            have y3 : wr.frozen? ⟨w.heap.size, 3, none⟩ = false := hz.frozen 3
            have z4 : wr.cell? ⟨w.heap.size, 4, none⟩ = some (.int .i64 0) := hz.cell 4
            have y4 : wr.frozen? ⟨w.heap.size, 4, none⟩ = false := hz.frozen 4
            have z5 : wr.cell? ⟨w.heap.size, 5, none⟩ = some (.int .i64 0) := hz.cell 5
            have y5 : wr.frozen? ⟨w.heap.size, 5, none⟩ = false := hz.frozen 5
            have z6 : wr.cell? ⟨w.heap.size, 6, none⟩ = some (.int .i64 0) := hz.cell 6
            have y6 : wr.frozen? ⟨w.heap.size, 6, none⟩ = false := hz.frozen 6
            have z7 : wr.cell? ⟨w.heap.size, 7, none⟩ = some (.int .i64 0) := hz.cell 7
            have y7 : wr.frozen? ⟨w.heap.size, 7, none⟩ = false := hz.frozen 7
            clear hz hend
            clear hCH h5H
            go_wp2
            exact bodyPost_ret (v := .tuple #[.agg ztext, .bool false]) (results_text Tryz.results84 _ _ w.heap.size ztext rfl _ rfl rfl (hS.out _ _ _ _ _ _ _ _)) rfl ⟨(hendH.out _ (kept8 _ _ _ _ _ _ _ _ _ _)).1, Or.inr ⟨hno.out, rfl⟩⟩
          | false =>
            obtain ⟨hok, hT⟩ := hCH.out.fin rfl
            simp only [] at hok
            have hokH : Hid (_ = _) := hok
            have hTH : Hid (_ = _) := hT
            clear hok hT
            by_cases hat : (p0 : Int) < (f.size : Int)
            · have hno : Hid (sgOk f = false) := by rw [hokH.out]; exact decide_eq_false (by omega)
              obtain ⟨hz, hend⟩ := rules_end (w3 := wr) h5H.out
              have hendH : Hid (∀ w3, _ → _) := hend
              have hS : Hid (∀ u0 u1 u2 u3 u4 u5 u6 u7, Blk _ _ _ _) := fun u0 u1 u2 u3 u4 u5 u6 u7 => set8 hz u0 u1 u2 u3 u4 u5 u6 u7
              unfold ztext at hz
              have z0 : wr.cell? ⟨w.heap.size, 0, none⟩ = some (.int .i64 0) := hz.cell 0
              have y0 : wr.frozen? ⟨w.heap.size, 0, none⟩ = false := hz.frozen 0
              have z1 : wr.cell? ⟨w.heap.size, 1, none⟩ = some (.int .i64 0) := hz.cell 1
              have y1 : wr.frozen? ⟨w.heap.size, 1, none⟩ = false := hz.frozen 1
              have z2 : wr.cell? ⟨w.heap.size, 2, none⟩ = some (.slice none 0 0) := hz.cell 2
              have y2 : wr.frozen? ⟨w.heap.size, 2, none⟩ = false := hz.frozen 2
              have z3 : wr.cell? ⟨w.heap.size, 3, none⟩ = some (.slice none 0 0) := hz.cell 3
              have y3 : wr.frozen? ⟨w.heap.size, 3, none⟩ = false := hz.frozen 3
              have z4 : wr.cell? ⟨w.heap.size, 4, none⟩ = some (.int .i64 0) := hz.cell 4
              have y4 : wr.frozen? ⟨w.heap.size, 4, none⟩ = false := hz.frozen 4
              have z5 : wr.cell? ⟨w.heap.size, 5, none⟩ = some (.int .i64 0) := hz.cell 5
              have y5 : wr.frozen? ⟨w.heap.size, 5, none⟩ = false := hz.frozen 5
              have z6 : wr.cell? ⟨w.heap.size, 6, none⟩ = some (.int .i64 0) := hz.cell 6
              have y6 : wr.frozen? ⟨w.heap.size, 6, none⟩ = false := hz.frozen 6
              have z7 : wr.cell? ⟨w.heap.size, 7, none⟩ = some (.int .i64 0) := hz.cell 7
              have y7 : wr.frozen? ⟨w.heap.size, 7, none⟩ = false := hz.frozen 7
              clear hz hend
              clear hCH h5H
              go_wp2
              exact bodyPost_ret (v := .tuple #[.agg ztext, .bool false]) (results_text Tryz.results84 _ _ w.heap.size ztext rfl _ rfl rfl (hS.out _ _ _ _ _ _ _ _)) rfl ⟨(hendH.out _ (kept8 _ _ _ _ _ _ _ _ _ _)).1, Or.inr ⟨hno.out, rfl⟩⟩
            · have hyes : Hid (sgOk f = true) := by rw [hokH.out]; exact decide_eq_true (by omega)
              obtain ⟨hz, hend⟩ := rules_end (w3 := wr) h5H.out
              have hendH : Hid (∀ w3, _ → _) := hend
              have hS : Hid (∀ u0 u1 u2 u3 u4 u5 u6 u7, Blk _ _ _ _) := fun u0 u1 u2 u3 u4 u5 u6 u7 => set8 hz u0 u1 u2 u3 u4 u5 u6 u7
              unfold ztext at hz
              have z0 : wr.cell? ⟨w.heap.size, 0, none⟩ = some (.int .i64 0) := hz.cell 0
              have y0 : wr.frozen? ⟨w.heap.size, 0, none⟩ = false := hz.frozen 0
              have z1 : wr.cell? ⟨w.heap.size, 1, none⟩ = some (.int .i64 0) := hz.cell 1
              have y1 : wr.frozen? ⟨w.heap.size, 1, none⟩ = false := hz.frozen 1
              have z2 : wr.cell? ⟨w.heap.size, 2, none⟩ = some (.slice none 0 0) := hz.cell 2
              have y2 : wr.frozen? ⟨w.heap.size, 2, none⟩ = false := hz.frozen 2
              have z3 : wr.cell? ⟨w.heap.size, 3, none⟩ = some (.slice none 0 0) := hz.cell 3
              have y3 : wr.frozen? ⟨w.heap.size, 3, none⟩ = false := hz.frozen 3
              have z4 : wr.cell? ⟨w.heap.size, 4, none⟩ = some (.int .i64 0) := hz.cell 4
              have y4 : wr.frozen? ⟨w.heap.size, 4, none⟩ = false := hz.frozen 4
              have z5 : wr.cell? ⟨w.heap.size, 5, none⟩ = some (.int .i64 0) := hz.cell 5
              have y5 : wr.frozen? ⟨w.heap.size, 5, none⟩ = false := hz.frozen 5
              have z6 : wr.cell? ⟨w.heap.size, 6, none⟩ = some (.int .i64 0) := hz.cell 6
              have y6 : wr.frozen? ⟨w.heap.size, 6, none⟩ = false := hz.frozen 6
              have z7 : wr.cell? ⟨w.heap.size, 7, none⟩ = some (.int .i64 0) := hz.cell 7
              have y7 : wr.frozen? ⟨w.heap.size, 7, none⟩ = false := hz.frozen 7
              clear hz hend
              have x0 : wr.cell? ⟨w.heap.size + 2, 0, none⟩ = some (.int .i64 71) := h5H.out.at2 0 (by omega)
              have x2 : wr.cell? ⟨w.heap.size + 2, 2, none⟩ = some (rv) := h5H.out.at2 2 (by omega)
              have x3 : wr.cell? ⟨w.heap.size + 2, 3, none⟩ = some (sv) := h5H.out.at2 3 (by omega)
              have x4 : wr.cell? ⟨w.heap.size + 2, 4, none⟩ = some (.int .i64 p.len) := h5H.out.at2 4 (by omega)
              have x5 : wr.cell? ⟨w.heap.size + 2, 5, none⟩ = some (.int .i64 p.nl) := h5H.out.at2 5 (by omega)
              have x6 : wr.cell? ⟨w.heap.size + 2, 6, none⟩ = some (.int .i64 p.first) := h5H.out.at2 6 (by omega)
              have x7 : wr.cell? ⟨w.heap.size + 2, 7, none⟩ = some (.int .i64 p.last) := h5H.out.at2 7 (by omega)
              have hbn : w.heap.size + 2 < wr.heap.size := h5H.out.tm.blk.lt
              obtain ⟨ra, rn, rc, rfl⟩ := own_shape h5H.out.tm.rules
              obtain ⟨sa, sn, sc, rfl⟩ := own_shape h5H.out.tm.start
              have hfin : Hid (∀ w3, Kept [w.heap.size] wr w3 → RulesOut f w w3 (.returned (.tuple #[.agg #[.int .i64 71, .int .i64 (j : Int), .slice ra rn rc, .slice sa sn sc, .int .i64 p.len, .int .i64 p.nl, .int .i64 p.first, .int .i64 p.last], .bool true]))) := fun w3 k => by
                obtain ⟨b3, v3⟩ := hendH.out w3 k
                rw [hTH.out] at v3
                refine ⟨b3, Or.inl ⟨hyes.out, _, _, v3, ?_⟩⟩
                rw [← hTH.out]; rfl
              clear hCH h5H hendH hTH hokH
              go_wp2
              refine bodyPost_ret (v := .tuple #[.agg #[.int .i64 71, .int .i64 (j : Int), .slice ra rn rc, .slice sa sn sc, .int .i64 p.len, .int .i64 p.nl, .int .i64 p.first, .int .i64 p.last], .bool true]) (results_text Tryz.results84 _ _ w.heap.size _ rfl _ rfl rfl (hS.out _ _ _ _ _ _ _ _)) rfl ?_
              exact hfin.out _ (kept8 _ _ _ _ _ _ _ _ _ _)

end Go.Proofs.YtgifhgnccmnbiabGreatDoor

set_option linter.unusedVariables false
set_option linter.unusedSimpArgs false
namespace Go.Proofs.YtgifhgnccmnbiabGreatDoor
open Go.RowKit Go.IntWalk

/-- A bit of some bytes. -/
def bitP (B : ByteArray) (p : Nat) : Nat := bt B (p / 8) / 2 ^ (p % 8) % 2
def nextB (B : ByteArray) (p : Nat) : Nat × Nat := if p / 8 < B.size then (bitP B p, p + 1) else (0, p)
def numB (B : ByteArray) (p : Nat) : Nat → Nat × Nat
  | 0 => (0, p)
  | i + 1 => ((numB B p i).1 + (nextB B (numB B p i).2).1 * 2 ^ i, (nextB B (numB B p i).2).2)

/-- The reader's bits, at the beginning of a block. -/
structure BR (w : World) (b : Nat) (cs : Array Value) (E : Nat) (B : ByteArray) (p : Nat) : Prop where
  blk : Blk w b cs E
  bytes : cs[0]? = some (.string B)
  at_ : cs[1]? = some (.int .i64 (p : Int))
theorem BR.set {w : World} {b : Nat} {cs : Array Value} {E : Nat} {B : ByteArray} {p : Nat} (h : BR w b cs E B p) (q : Nat) : BR (w.setCell ⟨b, 1, none⟩ (.int .i64 (q : Int))) b (cs.setIfInBounds 1 (.int .i64 (q : Int))) E B q := by
  have h1 : 1 < cs.size := (Array.getElem?_eq_some_iff.1 h.at_).1
  exact ⟨h.blk.set 1 _, by rw [Array.getElem?_setIfInBounds_ne (by omega)]; exact h.bytes, by rw [Array.getElem?_setIfInBounds_self_of_lt h1]⟩
theorem BR.drewN {w : World} {b : Nat} {cs : Array Value} {E : Nat} {B : ByteArray} {p : Nat} (h : BR w b cs E B p) (n : Nat) : BR (w.drewN n) b cs E B p := ⟨h.blk, h.bytes, h.at_⟩
theorem BR.same {w : World} {b : Nat} {cs : Array Value} {E : Nat} {B : ByteArray} {p : Nat} (h : BR w b cs E B p) : cs.setIfInBounds 1 (.int .i64 (p : Int)) = cs := by
  have h1 := (Array.getElem?_eq_some_iff.1 h.at_)
  obtain ⟨h2, h3⟩ := h1
  apply Array.ext
  · simp
  · intro i hi1 hi2
    rw [Array.getElem_setIfInBounds (by simpa using hi2)]
    split
    · rename_i h; subst h; exact h3.symm
    · rfl

theorem wraps_i64 (n : Int) (h₀ : 0 ≤ n) (h₁ : n < 2 ^ 62) : IntKind.i64.wrap n = n := by rw [IntKind.wrap_i64]; omega
theorem and_one (x : Nat) (hx : x < 256) : bits .and .i64 (x : Int) 1 = ((x % 2 : Nat) : Int) := by
  have := bits_mask .i64 62 (by decide) wraps_i64 1 (by decide) (x : Int) (by omega) (by omega)
  have e : ((2 : Int) ^ 1 - 1) = 1 := by decide
  rw [e] at this
  rw [this]; omega
theorem or_bit (n c i : Nat) (hn : n < 2 ^ i) (hc : c < 2) (hi : i ≤ 20) : bits .or .i64 (n : Int) ((c * 2 ^ i : Nat) : Int) = ((n + c * 2 ^ i : Nat) : Int) := by
  have hp : 2 ^ i ≤ 2 ^ 20 := Nat.pow_le_pow_right (by omega) hi
  have h1 : c * 2 ^ i ≤ 1 * 2 ^ i := Nat.mul_le_mul_right _ (by omega)
  have h2 : (2 : Nat) ^ 20 = 1048576 := by decide
  rw [(bits_nat .i64 62 (by decide) wraps_i64 n (c * 2 ^ i) (by omega) (by omega)).2]
  have := Nat.two_pow_add_eq_or_of_lt hn c
  rw [Nat.or_comm, Nat.mul_comm c, ← this, Nat.add_comm]

set_option maxHeartbeats 1000000 in
set_option maxRecDepth 100000 in
theorem bnext_any (w : World) (b : Nat) (cs : Array Value) (E : Nat) (B : ByteArray) (p : Nat) (h : BR w b cs E B p) (hp : p ≤ 1000000) (hB : B.size ≤ 100000) :
    Calls Tryz.prog 165 #[.pointer (some ⟨b, 0, none⟩)] w fun e w' => e = .returned (.int .i64 ((nextB B p).1 : Int)) ∧ BR w' b (cs.setIfInBounds 1 (.int .i64 ((nextB B p).2 : Int))) E B (nextB B p).2 ∧ Kept [b] w w' := by
  have c0 : w.cell? ⟨b, 0, none⟩ = some (.string B) := (h.blk.cell 0).trans h.bytes
  have c1 : w.cell? ⟨b, 1, none⟩ = some (.int .i64 (p : Int)) := (h.blk.cell 1).trans h.at_
  have f1 : w.frozen? ⟨b, 1, none⟩ = false := h.blk.frozen 1
  have hH : Hid (BR w b cs E B p) := h
  obtain ⟨q, hq⟩ : ∃ q, q = p / 8 := ⟨_, rfl⟩
  have hqH : Hid (q = p / 8) := hq
  have q0 : ¬ (q : Int) < 0 := by omega
  have q2 : q ≤ 1000000 := by omega
  by_cases hlt : q < B.size
  · have e : nextB B p = (B[q].toNat / 2 ^ (p % 8) % 2, p + 1) := by unfold nextB bitP; rw [if_pos (by omega), ← hq, bt_lt hlt]
    rw [e]
    have g1 : ¬ (B.size : Int) ≤ (q : Int) := by omega
    have g2 : (q : Int) < (B.size : Int) := by omega
    have ediv : (p : Int).tdiv 8 = (q : Int) := by rw [hq]; exact Int.ofNat_tdiv p 8 |>.symm
    have emod : (p : Int).tmod 8 = ((p % 8 : Nat) : Int) := (Int.ofNat_tmod p 8).symm
    clear h e hq
    go_enter Tryz.func165, Tryz.ntmps165
    go_wp2_with fail
    go_quiet (fail)
    go_wp2
    go_ret
    refine ⟨ret_int ?_, (hH.out.drewN _).set (p + 1), ((Kept.refl [b] w).drewN _).setCell (p := ⟨b, 1, none⟩) (by simp) _⟩
    have hb := B[q].toNat_lt
    rw [wrap64_in _ (by omega)]
    have hle : B[q].toNat / 2 ^ (p % 8) ≤ B[q].toNat := Nat.div_le_self _ _
    have := and_one (B[q].toNat / 2 ^ (p % 8)) (by omega)
    rw [← this]
    congr 1
  · have e : nextB B p = (0, p) := by unfold nextB; rw [if_neg (by omega)]
    rw [e, hH.out.same]
    have g1 : (B.size : Int) ≤ (q : Int) := by omega
    have ediv : (p : Int).tdiv 8 = (q : Int) := by rw [hq]; exact Int.ofNat_tdiv p 8 |>.symm
    clear h e hq
    go_enter Tryz.func165, Tryz.ntmps165
    go_wp2
    go_ret
    exact ⟨rfl, hH.out, Kept.refl _ _⟩

theorem nextB_bd (B : ByteArray) (p : Nat) : (nextB B p).1 < 2 ∧ p ≤ (nextB B p).2 ∧ (nextB B p).2 ≤ p + 1 := by
  unfold nextB bitP
  split
  · simp only []; omega
  · simp only []; omega
theorem numB_bd (B : ByteArray) (p : Nat) : ∀ i, (numB B p i).1 < 2 ^ i ∧ p ≤ (numB B p i).2 ∧ (numB B p i).2 ≤ p + i
  | 0 => ⟨by simp [numB], Nat.le_refl _, Nat.le_refl _⟩
  | i + 1 => by
    obtain ⟨h1, h2, h3⟩ := numB_bd B p i
    obtain ⟨g1, g2, g3⟩ := nextB_bd B (numB B p i).2
    have h4 : (nextB B (numB B p i).2).1 * 2 ^ i ≤ 1 * 2 ^ i := Nat.mul_le_mul_right _ (by omega)
    have h5 : (2 : Nat) ^ (i + 1) = 2 * 2 ^ i := by rw [Nat.pow_succ]; omega
    refine ⟨?_, ?_, ?_⟩
    · show (numB B p i).1 + (nextB B (numB B p i).2).1 * 2 ^ i < _
      omega
    · show p ≤ (nextB B (numB B p i).2).2; omega
    · show (nextB B (numB B p i).2).2 ≤ p + (i + 1); omega

theorem set_set {cs : Array Value} {j : Nat} {u v : Value} : (cs.setIfInBounds j u).setIfInBounds j v = cs.setIfInBounds j v := by
  apply Array.ext
  · simp
  · intro i h1 h2
    have hi : i < cs.size := by simpa using h2
    rw [Array.getElem_setIfInBounds (by simpa using hi), Array.getElem_setIfInBounds (by simpa using hi), Array.getElem_setIfInBounds (by simpa using hi)]
    split <;> rfl

set_option maxHeartbeats 1000000 in
set_option maxRecDepth 100000 in
theorem bnumber_any (w : World) (b : Nat) (cs : Array Value) (E : Nat) (B : ByteArray) (p : Nat) (h : BR w b cs E B p) (hp : p ≤ 900000) (hB : B.size ≤ 100000) (n : Nat) (hn : n ≤ 20) :
    Calls Tryz.prog 133 #[.pointer (some ⟨b, 0, none⟩), .int .i64 (n : Int)] w fun e w' => e = .returned (.int .i64 ((numB B p n).1 : Int)) ∧ BR w' b (cs.setIfInBounds 1 (.int .i64 ((numB B p n).2 : Int))) E B (numB B p n).2 ∧ Kept [b] w w' := by
  have hx : Hid (∀ w cs p, BR w b cs E B p → p ≤ 1000000 → Calls _ _ _ w _) := fun w cs p h hp => bnext_any w b cs E B p h hp hB
  have h0 : Hid (BR w b (cs.setIfInBounds 1 (.int .i64 ((numB B p 0).2 : Int))) E B (numB B p 0).2) := by
    have e : cs.setIfInBounds 1 (.int .i64 ((numB B p 0).2 : Int)) = cs := h.same
    show BR _ _ _ _ _ _
    rw [e]; exact h
  clear h
  go_enter Tryz.func133, Tryz.ntmps133
  go_wp2_with fail
  go_loopw [5, 6] (fun nv iv wr => ∃ q : Nat, iv = .int .i64 (q : Int) ∧ q ≤ n ∧ nv = .int .i64 ((numB B p q).1 : Int) ∧ BR wr b (cs.setIfInBounds 1 (.int .i64 ((numB B p q).2 : Int))) E B (numB B p q).2 ∧ Kept [b] w wr) (fun _ iv _ => ((n : Int) - intOf iv).toNat)
  case atStart => exact ⟨0, rfl, Nat.zero_le _, rfl, h0.out, Kept.refl _ _⟩
  case round =>
    obtain ⟨q, rfl, hq, rfl, hr, hk⟩ := hrel
    clear h0
    by_cases hlt : (q : Int) < (n : Int)
    · obtain ⟨b1, b2, b3⟩ := numB_bd B p q
      obtain ⟨d1, d2, d3⟩ := nextB_bd B (numB B p q).2
      have hc : Hid (Calls _ _ _ _ _) := hx.out _ _ _ hr (by omega)
      have hor := or_bit (numB B p q).1 (nextB B (numB B p q).2).1 q b1 d1 (by omega)
      have e1 : Hid (numB B p (q + 1) = ((numB B p q).1 + (nextB B (numB B p q).2).1 * 2 ^ q, (nextB B (numB B p q).2).2)) := rfl
      have hp2 : 2 ^ q ≤ 2 ^ 20 := Nat.pow_le_pow_right (by omega) (by omega)
      have hp3 : (2 : Nat) ^ 20 = 1048576 := by decide
      have hm : (nextB B (numB B p q).2).1 * 2 ^ q ≤ 1 * 2 ^ q := Nat.mul_le_mul_right _ (by omega)
      generalize (numB B p q).1 = A at *
      generalize nextB B (numB B p q).2 = N at *
      obtain ⟨c, s2⟩ := N
      simp only [] at d1 hm hor
      have hw : Hid (wrap64 ((c : Int) * 2 ^ q) = ((c * 2 ^ q : Nat) : Int)) := by
        have e : ((c : Int) * 2 ^ q) = ((c * 2 ^ q : Nat) : Int) := by simp [Int.natCast_mul, Int.natCast_pow]
        show wrap64 _ = _
        rw [e]; exact wrap64_in _ (by omega)
      have horH : Hid (_ = _) := hor
      clear hor
      clear hx hr b2 b3 d2 d3
      go_wp2_with fail
      refine hc.out.mono ?_
      rintro e w2 ⟨rfl, r2, k2⟩
      rw [set_set] at r2
      have k2 : Hid (Kept _ _ _) := hk.trans k2
      have r2 : Hid (BR _ _ _ _ _ _) := r2
      clear hk hc
      go_wp2
      refine ⟨⟨q + 1, by go_num, by omega, by rw [e1.out, hw.out, horH.out], by rw [e1.out]; exact r2.out, k2.out⟩, ?_⟩
      simp only [intOf]; omega
    · have hqn : q = n := by omega
      subst hqn
      have hk : Hid (Kept _ _ _) := hk
      have hr : Hid (BR _ _ _ _ _ _) := hr
      clear hx
      go_wp2
      go_ret
      exact ⟨rfl, hr.out, hk.out⟩

set_option maxHeartbeats 1000000 in
set_option maxRecDepth 100000 in
theorem bleft_any (w : World) (b : Nat) (cs : Array Value) (E : Nat) (B : ByteArray) (p : Nat) (h : BR w b cs E B p) (hp : p ≤ 1000000) (hB : B.size ≤ 100000) :
    Calls Tryz.prog 132 #[.pointer (some ⟨b, 0, none⟩)] w fun e w' => e = .returned (.int .i64 (8 * (B.size : Int) - (p : Int))) ∧ BR w' b cs E B p ∧ Kept [] w w' := by
  have c0 : w.cell? ⟨b, 0, none⟩ = some (.string B) := (h.blk.cell 0).trans h.bytes
  have c1 : w.cell? ⟨b, 1, none⟩ = some (.int .i64 (p : Int)) := (h.blk.cell 1).trans h.at_
  have hH : Hid (BR w b cs E B p) := h
  clear h
  go_enter Tryz.func132, Tryz.ntmps132
  go_wp2_with fail
  go_quiet (fail)
  go_wp2
  go_ret
  exact ⟨rfl, hH.out.drewN _, (Kept.refl [] w).drewN _⟩

def endB (B : ByteArray) (p : Nat) : Bool := decide (8 * B.size - p < 8) && decide ((numB B p (8 * B.size - p)).1 = 0)

set_option maxHeartbeats 1000000 in
set_option maxRecDepth 100000 in
theorem breadEnd_any (w : World) (b : Nat) (cs : Array Value) (E : Nat) (B : ByteArray) (p : Nat) (h : BR w b cs E B p) (hp : p ≤ 8 * B.size) (hB : B.size ≤ 100000) :
    Calls Tryz.prog 135 #[.pointer (some ⟨b, 0, none⟩)] w fun e w' => e = .returned (.bool (endB B p)) ∧ (∃ q : Nat, BR w' b (cs.setIfInBounds 1 (.int .i64 (q : Int))) E B q) ∧ Kept [b] w w' := by
  have hl : Hid (Calls _ _ _ _ _) := bleft_any w b cs E B p h (by omega) hB
  obtain ⟨L, hL⟩ : ∃ L, L = 8 * B.size - p := ⟨_, rfl⟩
  have e : 8 * (B.size : Int) - (p : Int) = (L : Int) := by omega
  rw [e] at hl
  have hs := h.same
  unfold endB
  rw [← hL]
  have hn : Hid (L ≤ 20 → ∀ w', BR w' b cs E B p → Calls _ _ _ w' _) := fun h20 w' h' => bnumber_any w' b cs E B p h' (by omega) hB L h20
  clear h e hL
  by_cases h8 : (8 : Int) ≤ (L : Int)
  · rw [decide_eq_false (show ¬ L < 8 by omega)]
    have hsH : Hid (_ = _) := hs
    clear hs hn
    go_enter Tryz.func135, Tryz.ntmps135
    go_wp2_with fail
    refine hl.out.mono ?_
    rintro e w2 ⟨rfl, r2, k2⟩
    have hR : Hid (BR _ _ _ _ _ _) := r2
    have hK : Hid (Kept [b] w w2) := k2.mono (by simp)
    clear r2 k2 hl
    go_wp2
    go_ret
    exact ⟨rfl, ⟨p, by rw [hsH.out]; exact hR.out⟩, hK.out⟩
  · rw [decide_eq_true (show L < 8 by omega), Bool.true_and]
    have hn2 : Hid (∀ w', _ → Calls _ _ _ w' _) := hn.out (by omega)
    clear hs hn
    obtain ⟨v, hv⟩ : ∃ v, v = (numB B p L).1 := ⟨_, rfl⟩
    rw [← hv] at hn2 ⊢
    clear hv
    by_cases hv0 : v = 0
    · subst hv0
      go_enter Tryz.func135, Tryz.ntmps135
      go_wp2_with fail
      refine hl.out.mono ?_
      rintro e w2 ⟨rfl, r2, k2⟩
      have hc : Hid (Calls _ _ _ _ _) := hn2.out _ r2
      have k2 : Hid (Kept _ _ _) := k2.mono (S' := [b]) (by simp)
      clear r2 hl hn2
      go_wp2_with fail
      refine hc.out.mono ?_
      rintro e w3 ⟨rfl, r3, k3⟩
      have hR : Hid (BR _ _ _ _ _ _) := r3
      have hK : Hid (Kept [b] w w3) := k2.out.trans k3
      clear r3 k3 hc k2
      go_wp2
      go_ret
      exact ⟨rfl, ⟨_, hR.out⟩, hK.out⟩
    · have e0 : ((v : Int) == 0) = false := beq_eq_false_iff_ne.2 (by omega)
      rw [decide_eq_false hv0]
      clear hv0
      go_enter Tryz.func135, Tryz.ntmps135
      go_wp2_with fail
      refine hl.out.mono ?_
      rintro e w2 ⟨rfl, r2, k2⟩
      have hc : Hid (Calls _ _ _ _ _) := hn2.out _ r2
      have k2 : Hid (Kept _ _ _) := k2.mono (S' := [b]) (by simp)
      clear r2 hl hn2
      go_wp2_with fail
      refine hc.out.mono ?_
      rintro e w3 ⟨rfl, r3, k3⟩
      have hR : Hid (BR _ _ _ _ _ _) := r3
      have hK : Hid (Kept [b] w w3) := k2.out.trans k3
      clear r3 k3 hc k2
      go_wp2
      go_ret
      exact ⟨rfl, ⟨_, hR.out⟩, hK.out⟩

/-- The width of the next code. -/
def widP (f m : Nat) : Nat := if f < 512 ∨ m ≤ 9 then 9 else if f < 1024 ∨ m ≤ 10 then 10 else if f < 2048 ∨ m ≤ 11 then 11 else 12
theorem widP_bd (f m : Nat) : 9 ≤ widP f m ∧ widP f m ≤ 12 := by
  unfold widP
  split
  · omega
  · split
    · omega
    · split <;> omega

set_option maxHeartbeats 1000000 in
set_option maxRecDepth 100000 in
theorem widthOf_any (f m : Nat) (hf : f ≤ 1000000) (hm : m ≤ 12) (w : World) :
    Calls Tryz.prog 120 #[.int .i64 (f : Int), .int .i64 (m : Int)] w fun e w' => e = .returned (.int .i64 (widP f m : Int)) ∧ w' = w := by
  go_enter Tryz.func120, Tryz.ntmps120
  go_wp2_with fail
  go_loop [5] (fun iv => ∃ q : Nat, iv = .int .i64 (q : Int) ∧ 9 ≤ q ∧ (q = 9 ∨ q ≤ m) ∧ ∀ j, 9 ≤ j → j < q → 2 ^ j ≤ f) (fun iv => ((m : Int) - intOf iv).toNat)
  case atStart => exact ⟨9, rfl, Nat.le_refl _, Or.inl rfl, fun j h1 h2 => by omega⟩
  case round =>
    obtain ⟨q, rfl, h9, hqm, hall⟩ := hrel
    have hallH : Hid (∀ j, _) := hall
    clear hall
    by_cases hlt : (q : Int) < (m : Int)
    · have hq : q = 9 ∨ q = 10 ∨ q = 11 := by omega
      by_cases hfq : 2 ^ q ≤ f
      · have hn : Hid (∀ j, 9 ≤ j → j < q + 1 → 2 ^ j ≤ f) := fun j h1 h2 => by
          by_cases hj : j = q
          · subst hj; exact hfq
          · exact hallH.out j h1 (by omega)
        clear hallH
        have hq12 : Hid (q + 1 ≤ m) := by show q + 1 ≤ m; omega
        rcases hq with rfl | rfl | rfl <;>
        · simp only [Nat.reducePow] at hfq
          have hz : ¬ (f : Int) < _ := Int.not_lt.2 (Int.ofNat_le.2 hfq)
          go_wp2
          refine ⟨⟨_, rfl, by decide, Or.inr hq12.out, hn.out⟩, ?_⟩
          simp only [intOf]; omega
      · have hw : Hid (widP f m = q) := by
          have a9 := hallH.out 9 (by omega)
          have a10 := hallH.out 10 (by omega)
          show widP f m = q
          unfold widP
          rcases hq with rfl | rfl | rfl
          · rw [if_pos (by simp at hfq; omega)]
          · have := a9 (by omega)
            simp at hfq this
            rw [if_neg (by omega), if_pos (by omega)]
          · have t1 := a9 (by omega)
            have t2 := a10 (by omega)
            simp at hfq t1 t2
            rw [if_neg (by omega), if_neg (by omega), if_pos (by omega)]
        clear hallH
        rcases hq with rfl | rfl | rfl <;>
        · simp only [Nat.reducePow] at hfq
          have hz : (f : Int) < _ := Int.ofNat_lt.2 (Nat.lt_of_not_le hfq)
          go_wp2
          go_ret
          exact ⟨ret_int (by rw [hw.out]; rfl), rfl⟩
    · have hw : Hid (widP f m = q) := by
        have a9 := hallH.out 9 (by omega)
        have a10 := hallH.out 10 (by omega)
        have a11 := hallH.out 11 (by omega)
        show widP f m = q
        have hq : q = 9 ∨ q = 10 ∨ q = 11 ∨ q = 12 := by omega
        unfold widP
        rcases hq with rfl | rfl | rfl | rfl
        · rw [if_pos (by omega)]
        · have := a9 (by omega)
          simp at this
          rw [if_neg (by omega), if_pos (by omega)]
        · have t1 := a9 (by omega)
          have t2 := a10 (by omega)
          simp at t1 t2
          rw [if_neg (by omega), if_neg (by omega), if_pos (by omega)]
        · have t1 := a9 (by omega)
          have t2 := a10 (by omega)
          have t3 := a11 (by omega)
          simp at t1 t2 t3
          rw [if_neg (by omega), if_neg (by omega), if_neg (by omega)]
      clear hallH
      go_wp2
      go_ret
      exact ⟨ret_int (by rw [hw.out]), rfl⟩

end Go.Proofs.YtgifhgnccmnbiabGreatDoor
