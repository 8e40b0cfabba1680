/- The document's answer: Cut, walked. -/
import Derived.Test.YtgifhgnccmnbiaaRCutB
import Derived.Test.YtgifhgnccmnbiaaCutS
set_option linter.unusedVariables false
set_option linter.unusedSimpArgs false
namespace Go.Proofs.Ytgifhgnccmnbiaa
open Go.RowKit Go.IntWalk

theorem RSound.nil : RSound [] [] [] := ⟨rfl, rfl, fun i h => by simp at h⟩
theorem RSound.push {rl : List Nat} {ps : List PI} {T : List (List Nat)} (h : RSound rl ps T) {l r : Nat} (hl : l < 256 + T.length) (hr : r < 256 + T.length) :
    RSound (rl ++ [l, r]) (ps ++ [piOf (symT T l ++ symT T r)]) (T ++ [symT T l ++ symT T r]) := by
  have hlen := h.len
  refine ⟨by simp [hlen]; omega, by rw [h.ps]; simp, fun i hi => ?_⟩
  simp at hi
  by_cases hi2 : i < T.length
  · obtain ⟨a, b, c⟩ := h.rule i hi2
    have e1 : (rl ++ [l, r]).getD (2 * i) 0 = rl.getD (2 * i) 0 := by simp only [List.getD]; rw [List.getElem?_append_left (by omega)]
    have e2 : (rl ++ [l, r]).getD (2 * i + 1) 0 = rl.getD (2 * i + 1) 0 := by simp only [List.getD]; rw [List.getElem?_append_left (by omega)]
    have e3 : (T ++ [symT T l ++ symT T r]).getD i [] = T.getD i [] := by simp only [List.getD]; rw [List.getElem?_append_left hi2]
    rw [e1, e2, e3, symT_app (by omega), symT_app (by omega)]
    exact ⟨a, b, c⟩
  · have hi3 : i = T.length := by omega
    subst hi3
    have e1 : (rl ++ [l, r]).getD (2 * T.length) 0 = l := by simp only [List.getD]; rw [List.getElem?_append_right (by omega), hlen]; simp
    have e2 : (rl ++ [l, r]).getD (2 * T.length + 1) 0 = r := by simp only [List.getD]; rw [List.getElem?_append_right (by omega), hlen, show 2 * T.length + 1 - 2 * T.length = 1 by omega]; simp
    have e3 : (T ++ [symT T l ++ symT T r]).getD T.length [] = symT T l ++ symT T r := by simp [List.getD]
    rw [e1, e2, e3, symT_app (by omega), symT_app (by omega)]
    exact ⟨hl, hr, rfl⟩
theorem GOk.rsound {f : ByteArray} (h : GOk f) : ∀ k, k ≤ bt f 2 → RSound (gRules f k) ((gTx f k).map piOf) (gTx f k)
  | 0, _ => RSound.nil
  | k + 1, hk => by
    have ih := (h.rsound k (by omega)).push (l := gA f k) (r := gB f k) (by rw [gTx_len]; exact (h.a (by omega)).2) (by rw [gTx_len]; exact (h.b (by omega)).2)
    show RSound (gRules f k ++ [gA f k, gB f k]) ((gTx f k ++ [symT (gTx f k) (gA f k) ++ symT (gTx f k) (gB f k)]).map piOf) (gTx f k ++ [symT (gTx f k) (gA f k) ++ symT (gTx f k) (gB f k)])
    rw [List.map_append]
    exact ih

/-- What is cut out of the bytes X, or that it is refused. -/
def RangeCase (X : List Nat) (x y : Int) (e : Ending) : Prop :=
  (¬ RangeOk x y X.length ∧ e = .returned (.tuple #[.string ⟨#[]⟩, .int .i64 6])) ∨
  (RangeOk x y X.length ∧ e = .returned (.tuple #[.string (bytesB (cutX X x.toNat y.toNat 0)), .int .i64 0]))
structure CutR (f : ByteArray) (x y : Int) (w w' : World) (e : Ending) : Prop where
  below : Below w.heap.size w w'
  out : (∃ n r, ZGood f n r ∧ RangeCase (bytesN r.out) x y e) ∨ (ZNo f ∧ ¬ GOk f ∧ e = .returned (.tuple #[.string ⟨#[]⟩, .int .i64 4])) ∨
    (ZNo f ∧ GOk f ∧ 1099511627776 < (gAll f).long ∧ e = .returned (.tuple #[.string ⟨#[]⟩, .int .i64 5])) ∨
    (ZNo f ∧ GOk f ∧ (gAll f).long ≤ 1099511627776 ∧ RangeCase ((gTop f (gN f)).flatMap (symT (gTx f (bt f 2)))) x y e)
theorem GM.rg {w : World} {b B C : Nat} {kind : Int} {n : Nat} {rl top : List Nat} {ps : List PI} {rv tv pv : Value} (h : GM w b B C kind n rl top ps rv tv pv) : GRd w b (.int .i64 kind) (.int .i64 (n : Int)) rl top ps rv tv pv :=
  ⟨h.blk, own_low h.rules (Nat.zero_le _), own_low h.top (Nat.zero_le _), own_low h.pieces (Nat.zero_le _)⟩
theorem gAll_tx {f : ByteArray} (h : GOk f) : gAll f = piOf ((gTop f (gN f)).flatMap (symT (gTx f (bt f 2)))) := by
  have hb : ∀ s, s ∈ gTop f (gN f) → s < 256 + (gTx f (bt f 2)).length := fun s hs => by rw [gTx_len]; exact h.top _ (Nat.le_refl _) s hs
  unfold gAll wholeR
  rw [h.ps _ (Nat.le_refl _)]
  exact whole_tx _ hb []
/-- A file that the document's side has opened. -/
structure ROpen (w : World) (b B C : Nat) (kind : Int) (n : Nat) (rl top : List Nat) (ps : List PI) (rv tv pv : Value) (T : List (List Nat)) (X : List Nat) : Prop where
  gm : GM w b B C kind n rl top ps rv tv pv
  sound : RSound rl ps T
  tlen : T.length ≤ 1000
  nlen : top.length ≤ 100000000
  syms : ∀ s, s ∈ top → s < 256 + T.length
  text : X = top.flatMap (symT T)
  xlen : X.length ≤ 1099511627776
  byte : ∀ c, c ∈ X → c < 256
theorem OpenedR.cut {f : ByteArray} {x y : Int} {w w' : World} {e : Ending} (h : OpenedR f w w' e) :
    (∃ c : Int, c ≠ 0 ∧ 0 ≤ c ∧ c ≤ 5 ∧ e = .returned (.tuple #[.pointer none, .int .i64 c]) ∧ ∀ w2, Below w.heap.size w w2 → CutR f x y w w2 (.returned (.tuple #[.string ⟨#[]⟩, .int .i64 c]))) ∨
    ∃ b B C kind n rl top ps rv tv pv T X, ROpen w' b B C kind n rl top ps rv tv pv T X ∧ e = .returned (.tuple #[.pointer (some ⟨b, 0, none⟩), .int .i64 0]) ∧ ∀ w2 e2, Below w.heap.size w w2 → RangeCase X x y e2 → CutR f x y w w2 e2 := by
  rcases h.out with ⟨n, r, b, B, C, tv, hz, hG, he⟩ | ⟨a, c, he⟩ | ⟨a, c, d, he⟩ | ⟨a, c, d, b, B, C, rv, tv, pv, hG, he⟩
  · have hfl := flat_self (bytesN r.out) (bytesN_lt r.out)
    refine Or.inr ⟨b, B, C, 90, n, [], _, [], _, _, _, [], bytesN r.out, ⟨hG, RSound.nil, by simp, by rw [bytesN_len]; have := hz.size; omega, fun s hs => by have := bytesN_lt _ s hs; simp; omega, hfl.symm, by rw [bytesN_len]; have := hz.size; omega, bytesN_lt r.out⟩, he, fun w2 e2 k hr => ⟨k, Or.inl ⟨n, r, hz, hr⟩⟩⟩
  · exact Or.inl ⟨4, by omega, by omega, by omega, he, fun w2 k => ⟨k, Or.inr (Or.inl ⟨a, c, rfl⟩)⟩⟩
  · exact Or.inl ⟨5, by omega, by omega, by omega, he, fun w2 k => ⟨k, Or.inr (Or.inr (Or.inl ⟨a, c, d, rfl⟩))⟩⟩
  · have hl : (piOf ((gTop f (gN f)).flatMap (symT (gTx f (bt f 2))))).long ≤ 1099511627776 := by rw [← gAll_tx c]; exact d
    have hs : ∀ s, s ∈ gTop f (gN f) → s < 256 + (gTx f (bt f 2)).length := fun s hs => by rw [gTx_len]; exact c.top _ (Nat.le_refl _) s hs
    have hR := c.rsound _ (Nat.le_refl _)
    rw [← c.ps _ (Nat.le_refl _)] at hR
    have hx : ((gTop f (gN f)).flatMap (symT (gTx f (bt f 2)))).length ≤ 1099511627776 := by
      have := capL_small (n := ((gTop f (gN f)).flatMap (symT (gTx f (bt f 2)))).length) hl
      have h2 : capL ((gTop f (gN f)).flatMap (symT (gTx f (bt f 2)))).length ≤ 1099511627776 := hl
      omega
    refine Or.inr ⟨b, B, C, 71, gN f, _, _, _, _, _, _, gTx f (bt f 2), _, ⟨hG, hR, by rw [gTx_len]; have := c.r; omega, by rw [gTop_len]; have := c.n; omega, hs, rfl, hx, fun z hz => ?_⟩, he, fun w2 e2 k hr => ⟨k, Or.inr (Or.inr (Or.inr ⟨a, c, d, hr⟩))⟩⟩
    obtain ⟨s, h1, h2⟩ := List.mem_flatMap.1 hz
    have hS := c.sound _ (Nat.le_refl _)
    exact hS.byte (s + 1) s (by omega) (by rw [gRu_len]; exact c.top _ (Nat.le_refl _) s h1) z h2

set_option maxHeartbeats 4000000 in
set_option maxRecDepth 100000 in
theorem rcutW_any (f : ByteArray) (hf : f.size ≤ maxLen) (x y : Int) (hx1 : -9223372036854775808 ≤ x) (hx2 : x ≤ 9223372036854775807) (hy1 : -9223372036854775808 ≤ y) (hy2 : y ≤ 9223372036854775807) (w : World) :
    Calls Try.prog 28 #[.string f, .int .i64 x, .int .i64 y] w fun e w' => CutR f x y w w' e := by
  have hc : Hid (Calls _ _ _ w _) := opened_any f hf w
  go_enter Try.func28, Try.ntmps28
  go_wp2_with fail
  refine hc.out.mono ?_
  rintro e w1 hout
  have hk1 : Hid (Kept [] w w1) := hout.kept
  rcases hout.cut (x := x) (y := y) with ⟨c, c0, c1, c2, rfl, hfin⟩ | ⟨b, B, C, kind, n, rl, top, ps, rv, tv, pv, T, X, hO, rfl, hfin⟩
  · have hfinH : Hid (∀ w2, _) := hfin
    have cne : (c != 0) = true := by simp [c0]
    have hb : Hid (Below w.heap.size w w1) := hk1.out.below (Nat.le_refl _) (by simp)
    clear hfin hout hc c0
    go_wp2
    go_ret2
    exact hfinH.out _ hb.out
  · have hfinH : Hid (∀ w2 e2, _) := hfin
    have hps : ps.length = T.length := by rw [hO.sound.ps, List.length_map]
    have hwh : Hid (Calls _ _ _ _ _) := whole_any hO.gm (by rw [hps]; exact hO.syms) (by have := hO.tlen; omega) hO.nlen
    have hwx : wholeR ps top = piOf X := by
      rw [hO.text, hO.sound.ps]
      unfold wholeR
      exact whole_tx top hO.syms []
    rw [hwx] at hwh
    have hlong : (piOf X).long = X.length := capL_of (by have := hO.xlen; omega)
    have hxl := hO.xlen
    have hOH : Hid (ROpen _ _ _ _ _ _ _ _ _ _ _ _ _ _) := hO
    have hbad : Hid (∀ w2, Below w.heap.size w w2 → ¬ RangeOk x y X.length → CutR f x y w w2 (.returned (.tuple #[.string ⟨#[]⟩, .int .i64 6]))) := fun w2 b h => hfinH.out _ _ b (Or.inl ⟨h, rfl⟩)
    have hgood : Hid (∀ (w2 : World) (fr dst : Nat), Kept [] w1 w2 → x = (fr : Int) → y = (dst : Int) → RangeOk x y X.length → Calls Try.prog 53 #[.pointer (some ⟨b, 0, none⟩), .int .i64 x, .int .i64 y] w2 fun e w' => ∃ s, e = .returned (.string s) ∧ CutR f x y w w' (.returned (.tuple #[.string s, .int .i64 0]))) := fun w2 fr dst k e1 e2 h => by
      have h' := h
      unfold RangeOk at h'
      have hct : cutX X x.toNat y.toNat 0 = cutI X (fr : Int) (dst : Int) := by rw [cutX_whole, e1, e2]; rfl
      rw [e1, e2] at h'
      have hcall := rbytes_any hOH.out.sound hOH.out.tlen hOH.out.syms (by rw [← hOH.out.text]; exact hOH.out.xlen) hOH.out.nlen (by rw [← hOH.out.text]; exact hOH.out.byte) (fr := fr) (dst := dst) (by omega) (by omega) w2 (hOH.out.gm.rg.kept k)
      rw [← hOH.out.text] at hcall
      rw [show (Value.int .i64 x) = .int .i64 (fr : Int) by rw [e1], show (Value.int .i64 y) = .int .i64 (dst : Int) by rw [e2]]
      refine hcall.mono ?_
      rintro e w' ⟨rfl, b2⟩
      refine ⟨_, rfl, hfinH.out _ _ (((hk1.out.trans k).below (Nat.le_refl _) (by simp)).trans (b2.mono (hk1.out.trans k).size)) (Or.inr ⟨h, ?_⟩)⟩
      rw [hct]
    have hR : Hid (RangeOk x y X.length ↔ 0 ≤ x ∧ x ≤ y ∧ y ≤ (X.length : Int) ∧ y - x ≤ 2000) := Iff.rfl
    clear hfin hout hc hO hps hwx
    generalize piOf X = D at *
    obtain ⟨D1, D2, D3⟩ := D
    simp only [] at hlong
    rw [← hlong] at hR hxl hbad hgood
    unfold PI.val PI.arr at hwh
    simp only [] at hwh
    clear hlong
    have hwH : Hid (∀ w9 o, Kept [] w1 w9 → Kept [] w1 (w9.alloc o) ∧ Below w.heap.size w (w9.alloc o)) := fun w9 o k => ⟨k.alloc o, (hk1.out.trans (k.alloc o)).below (Nat.le_refl _) (by simp)⟩
    by_cases h1 : x < 0
    · go_wp2_with (go_at_call 51; refine hwh.out.mono ?_; rintro _ w9 ⟨rfl, k9⟩; have hf9 := hbad.out _ (hwH.out w9 (.cells #[.int .i64 (D1 : Int), .int .i64 (D2 : Int), .int .i64 (D3 : Int), .slice none 0 0, .slice none 0 0, .int .i64 0] 91) k9).2 (fun h => by have := hR.out.1 h; omega); have hf9 : Hid (CutR _ _ _ _ _ _) := hf9)
      go_ret2
      exact hf9.out
    · by_cases h2 : y < x
      · go_wp2_with (go_at_call 51; refine hwh.out.mono ?_; rintro _ w9 ⟨rfl, k9⟩; have hf9 := hbad.out _ (hwH.out w9 (.cells #[.int .i64 (D1 : Int), .int .i64 (D2 : Int), .int .i64 (D3 : Int), .slice none 0 0, .slice none 0 0, .int .i64 0] 91) k9).2 (fun h => by have := hR.out.1 h; omega); have hf9 : Hid (CutR _ _ _ _ _ _) := hf9)
        go_ret2
        exact hf9.out
      · by_cases h3 : (D1 : Int) < y
        · go_wp2_with (go_at_call 51; refine hwh.out.mono ?_; rintro _ w9 ⟨rfl, k9⟩; have hf9 := hbad.out _ (hwH.out w9 (.cells #[.int .i64 (D1 : Int), .int .i64 (D2 : Int), .int .i64 (D3 : Int), .slice none 0 0, .slice none 0 0, .int .i64 0] 91) k9).2 (fun h => by have := hR.out.1 h; omega); have hf9 : Hid (CutR _ _ _ _ _ _) := hf9)
          go_ret2
          exact hf9.out
        · have hs1 : -9223372036854775808 ≤ y - x := by omega
          have hs2 : y - x ≤ 9223372036854775807 := by omega
          by_cases h4 : 2000 < y - x
          · go_wp2_with (go_at_call 51; refine hwh.out.mono ?_; rintro _ w9 ⟨rfl, k9⟩; have hf9 := hbad.out _ (hwH.out w9 (.cells #[.int .i64 (D1 : Int), .int .i64 (D2 : Int), .int .i64 (D3 : Int), .slice none 0 0, .slice none 0 0, .int .i64 0] 91) k9).2 (fun h => by have := hR.out.1 h; omega); have hf9 : Hid (CutR _ _ _ _ _ _) := hf9)
            go_ret2
            exact hf9.out
          · go_wp2_with (first
              | (go_at_call 51; refine hwh.out.mono ?_; rintro _ w9 ⟨rfl, k9⟩; have hg9 := hgood.out _ x.toNat y.toNat (hwH.out w9 (.cells #[.int .i64 (D1 : Int), .int .i64 (D2 : Int), .int .i64 (D3 : Int), .slice none 0 0, .slice none 0 0, .int .i64 0] 91) k9).1 (by omega) (by omega) (hR.out.2 (by omega)); have hg9 : Hid (Calls _ _ _ _ _) := hg9)
              | (go_at_call 53; refine hg9.out.mono ?_; rintro _ w5 ⟨s, rfl, o5⟩))
            go_ret2
            exact o5

end Go.Proofs.Ytgifhgnccmnbiaa
