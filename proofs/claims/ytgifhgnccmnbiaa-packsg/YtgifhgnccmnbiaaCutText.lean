/- Package packed: a text cut. -/
import Derived.Test.YtgifhgnccmnbiaaCutSym
import Derived.Test.YtgifhgnccmnbiaaShapeSame
import Derived.Laws.IdiomStrings
import Derived.Lib.BufferRead
set_option linter.unusedVariables false
set_option linter.unusedSimpArgs false
namespace Go.Proofs.Ytgifhgnccmnbiaa
open Go.RowKit Go.IntWalk

def bytesB (l : List Nat) : ByteArray := ⟨(l.map Nat.toUInt8).toArray⟩
theorem conv_out {w : World} {base : Nat} {v : Value} {out : List Nat} (h : w.ownsRow base 5 1 v out.length (byteCells out)) (hb : ∀ c, c ∈ out → c < 256) :
    (convert 98 9 v).run Try.prog w = .ok (.string (bytesB out)) w := by
  rcases h.2 with ⟨h1, h2⟩ | ⟨g, cap, cur, h1, h2, h3, h4⟩
  · have e : out = [] := List.eq_nil_of_length_eq_zero h2
    subst e
    rw [h1]
    exact Lib.run_convert_nil_bytes (P := Try.prog) w 98 9 5 0 Try.underlying98 Try.underlying5 Try.underlying9
  · subst h1
    have hl : (out.map Nat.toUInt8).length = out.length := List.length_map ..
    have := run_convert_bytes_back (P := Try.prog) w 98 9 5 ⟨g, 0, none⟩ cap (out.map Nat.toUInt8) Try.underlying98 Try.underlying5 Try.underlying9 (fun j hj => by
      rw [hl] at hj
      have hc : (byteCells out)[j]? = some (.int .u8 (out[j] : Int)) := by unfold byteCells; rw [List.getElem?_map, List.getElem?_eq_getElem hj]; rfl
      rw [h.cells (g := g) rfl j _ hc, List.getElem_map]
      have hlt := hb out[j] (List.getElem_mem hj)
      rw [Nat.toUInt8_eq, UInt8.toNat_ofNat', Nat.mod_eq_of_lt (by omega)])
    rw [hl] at this
    exact this

/-- The text's rules stand for these texts. -/
structure SText (t : TT) (T : List (List Nat)) : Prop where
  sound : Sound t.rules T
  start : ∀ s, s ∈ t.start → s < 256 + t.rules.length
  whole : t.whole = ptOf (t.start.flatMap (symT T))
  rlen : t.rules.length ≤ 9000
  slen : t.start.length ≤ 9000
theorem SText.len {t : TT} {T : List (List Nat)} (h : SText t T) (hw : t.whole.len ≤ 1099511627776) : (t.start.flatMap (symT T)).length = t.whole.len := by
  rw [h.whole, ptOf_len] at hw ⊢
  exact (capL_small hw).symm
theorem mem_flat {T : List (List Nat)} : ∀ {l : List Nat} {s : Nat}, s ∈ l → (symT T s).length ≤ (l.flatMap (symT T)).length
  | x :: l, s, h => by
    rw [List.flatMap_cons, List.length_append]
    rcases List.mem_cons.1 h with h | h
    · subst h; omega
    · have := mem_flat (T := T) h; omega
theorem Sound.byte {rs : List RU} {T : List (List Nat)} (h : Sound rs T) : ∀ (k s : Nat), s < k → s < 256 + rs.length → ∀ c, c ∈ symT T s → c < 256 := by
  intro k
  induction k with
  | zero => intro s hs; omega
  | succ k ih =>
    intro s hs hs2 c hc
    by_cases h1 : s < 256
    · unfold symT at hc; rw [if_pos h1] at hc; simp at hc; omega
    · obtain ⟨x, hx⟩ : ∃ x, rs[s - 256]? = some x := ⟨_, List.getElem?_eq_getElem (by omega)⟩
      obtain ⟨u1, u2, u3, _⟩ := h.rule _ _ hx
      have e : symT T s = symT T x.l ++ symT T x.r := by rw [← u3]; unfold symT; rw [if_neg h1]
      rw [e] at hc
      rcases List.mem_append.1 hc with hc | hc
      · exact ih x.l (by omega) (by omega) c hc
      · exact ih x.r (by omega) (by omega) c hc
theorem SText.byte {t : TT} {T : List (List Nat)} (h : SText t T) : ∀ c, c ∈ t.start.flatMap (symT T) → c < 256 := fun c hc => by
  obtain ⟨s, h1, h2⟩ := List.mem_flatMap.1 hc
  exact h.sound.byte (s + 1) s (by omega) (h.start s h1) c h2

/-- What the loop over the symbols keeps. -/
structure CutLoop (w0 w : World) (n b : Nat) (t : TT) (rv sv : Value) (T : List (List Nat)) (fr dst q : Nat) : Prop where
  text : TR w n b t rv sv
  below : Below w0.heap.size w0 w
  ex : ∃ a k c, CutM w w0.heap.size b fr dst (min ((t.start.take q).flatMap (symT T)).length dst) (.slice a k c) (cutX ((t.start.take q).flatMap (symT T)) fr dst 0)

set_option maxHeartbeats 4000000 in
set_option maxRecDepth 100000 in
theorem cutText_any {T : List (List Nat)} {t : TT} (hS : SText t T) (hw : t.whole.len ≤ 1099511627776) {n b : Nat} {rv sv : Value} {fr dst : Nat} (hfd : fr ≤ dst) (hd : dst ≤ 1099511627776) (w : World) (hT : TR w n b t rv sv) (hn : n ≤ w.heap.size) :
    Calls Try.prog 52 #[.pointer (some ⟨b, 0, none⟩), .int .i64 (fr : Int), .int .i64 (dst : Int)] w fun e w' => e = .returned (.string (bytesB (cutX (t.start.flatMap (symT T)) fr dst 0))) ∧ Below w.heap.size w w' := by
  have hlenX := hS.len hw
  have h0 : Hid (CutLoop w (w.alloc (.cells #[.pointer (some ⟨b, 0, none⟩), .int .i64 (fr : Int), .int .i64 (dst : Int), .int .i64 0, .slice none 0 0] 139)) n b t rv sv T fr dst 0) :=
    ⟨hT.kept ((Kept.refl [] w).alloc _), (Below.refl _ _).alloc (Nat.le_refl _) _, none, 0, 0, by
      have e1 : cutX ((t.start.take 0).flatMap (symT T)) fr dst 0 = [] := by rw [List.take_zero, List.flatMap_nil, cutX_nil]
      have e2 : min ((t.start.take 0).flatMap (symT T)).length dst = 0 := by rw [List.take_zero, List.flatMap_nil]; simp
      rw [e1, e2]
      exact ⟨Blk.new w _ _, World.ownsRow_nil _ _ _ _, Nat.zero_le _⟩⟩
  clear hT
  go_enter Try.func52, Try.ntmps52
  go_wp2_with fail
  go_loopw [8] (fun iv wr => ∃ q : Nat, iv = .int .i64 (q : Int) ∧ q ≤ t.start.length ∧ CutLoop w wr n b t rv sv T fr dst q) (fun iv _ => ((t.start.length : Int) - intOf iv).toNat)
  case atStart => exact ⟨0, rfl, Nat.zero_le _, h0.out⟩
  case round =>
    obtain ⟨q, rfl, hq, hI⟩ := hrel
    clear h0
    obtain ⟨hT, hBl, oa, ok, oc, hC⟩ := hI
    obtain ⟨sa, sk, sc, hsv⟩ := own_shape hT.start
    have hsl := hS.slen
    have hX : Hid (∀ q, ((t.start.take q).flatMap (symT T)) ++ ((t.start.drop q).flatMap (symT T)) = t.start.flatMap (symT T)) := fun q => by rw [← List.flatMap_append, List.take_append_drop]
    have hend : Hid (dst ≤ ((t.start.take q).flatMap (symT T)).length ∨ q = t.start.length → cutX ((t.start.take q).flatMap (symT T)) fr dst 0 = cutX (t.start.flatMap (symT T)) fr dst 0) := fun h => by
      rcases h with h | h
      · rw [← hX.out q, cutX_app, cutX_late (x := (t.start.drop q).flatMap (symT T)) (by omega), List.append_nil]
      · rw [h, List.take_length]
    have hby : Hid (∀ c, c ∈ cutX ((t.start.take q).flatMap (symT T)) fr dst 0 → c < 256) := cutX_byte fun c hc => hS.byte c (by
      rw [← hX.out q]; exact List.mem_append_left _ hc)
    have d3 : wr.cell? ⟨w.heap.size, 3, none⟩ = some (.int .i64 ((min ((t.start.take q).flatMap (symT T)).length dst : Nat) : Int)) := hC.blk.cell 3
    have d4 : wr.cell? ⟨w.heap.size, 4, none⟩ = some (.slice oa ok oc) := hC.blk.cell 4
    have c3 : wr.cell? ⟨b, 3, none⟩ = some sv := hT.cell 3
    have hconv : (convert 98 9 (.slice oa ok oc)).run Try.prog wr = .ok (.string (bytesB (cutX ((t.start.take q).flatMap (symT T)) fr dst 0))) wr := conv_out hC.row hby.out
    have hBH : Hid (Below w.heap.size w wr) := hBl
    have hTH : Hid (TR _ _ _ _ _ _) := hT
    have hCH : Hid (CutM _ _ _ _ _ _ _ _) := hC
    by_cases hlt : (q : Int) < (t.start.length : Int)
    · by_cases hpd : ((min ((t.start.take q).flatMap (symT T)).length dst : Nat) : Int) < (dst : Int)
      · obtain ⟨s, hs⟩ : ∃ s, t.start[q]? = some s := ⟨_, List.getElem?_eq_getElem (by omega)⟩
        obtain ⟨g, cap, hv⟩ := own_form hT.start (by omega)
        have hcell : wr.cell? ⟨g, q, none⟩ = some (.int .i64 (s : Int)) := by
          have hc : (symCells t.start)[q]? = some (.int .i64 (s : Int)) := by unfold symCells; rw [List.getElem?_map, hs]; rfl
          have := hT.start.cells (g := g) (by rw [hv]; rfl) q _ hc
          rwa [ptr_add] at this
        have hm : s ∈ t.start := List.mem_of_getElem? hs
        have hsym : Hid (Calls _ _ _ wr _) := symbol_any hS.sound (by have := hS.rlen; omega) hfd hd w.heap.size hn (s + 1) s (by omega) (hS.start s hm) (by have := mem_flat (T := T) hm; omega) _ _ _ wr hT hC (Nat.min_le_right _ _)
        have hnext : Hid (∀ w', SymOut wr w' w.heap.size b fr dst (min ((t.start.take q).flatMap (symT T)).length dst) (symT T s) (cutX ((t.start.take q).flatMap (symT T)) fr dst 0) → CutLoop w w' n b t rv sv T fr dst (q + 1)) := fun w' o => by
          obtain ⟨ov, hC2⟩ := o.ex
          obtain ⟨xa, xk, xc, rfl⟩ := own_shape hC2.row
          refine ⟨hTH.out.under o.below hn, hBH.out.trans o.below, xa, xk, xc, ?_⟩
          have e : (t.start.take (q + 1)).flatMap (symT T) = (t.start.take q).flatMap (symT T) ++ symT T s := by
            rw [List.take_add_one, hs, List.flatMap_append]; simp
          rw [e, cutX_app, Nat.zero_add, List.length_append]
          rw [cutX_min] at hC2
          rw [show min (((t.start.take q).flatMap (symT T)).length + (symT T s).length) dst = min (min ((t.start.take q).flatMap (symT T)).length dst + (symT T s).length) dst by omega]
          exact hC2
        subst hv
        clear hsv hT hC hBl hS hs hm hend hby hconv
        generalize ((min ((t.start.take q).flatMap (symT T)).length dst : Nat) : Int) = P at *
        generalize t.start.length = N at *
        go_wp2_with (go_at_call 79; refine hsym.out.mono ?_; rintro _ w5 ⟨rfl, o5⟩)
        refine ⟨⟨q + 1, by go_num, by omega, hnext.out _ o5⟩, ?_⟩
        simp only [intOf]; omega
      · have e := hend.out (Or.inl (by omega))
        rw [e] at hconv
        subst hsv
        have hcl : sk = t.start.length := by
          rcases hT.start.2 with ⟨h1, h2⟩ | ⟨g, cap, _, h1, _⟩
          · simp at h1; omega
          · simp at h1; omega
        subst hcl
        clear hT hC hBl hS hend hby e
        generalize ((min ((t.start.take q).flatMap (symT T)).length dst : Nat) : Int) = P at *
        obtain ⟨R, hR⟩ : ∃ R, Hid (bytesB (cutX (t.start.flatMap (symT T)) fr dst 0) = R) := ⟨_, rfl⟩
        rw [hR.out] at hconv
        generalize t.start.length = N at *
        go_wp2
        go_ret
        exact ⟨by rw [hR.out]; rfl, hBH.out⟩
    · have e := hend.out (Or.inr (by omega))
      rw [e] at hconv
      subst hsv
      have hcl : sk = t.start.length := by
        rcases hT.start.2 with ⟨h1, h2⟩ | ⟨g, cap, _, h1, _⟩
        · simp at h1; omega
        · simp at h1; omega
      subst hcl
      clear hT hC hBl hS hend hby e
      generalize ((min ((t.start.take q).flatMap (symT T)).length dst : Nat) : Int) = P at *
      obtain ⟨R, hR⟩ : ∃ R, Hid (bytesB (cutX (t.start.flatMap (symT T)) fr dst 0) = R) := ⟨_, rfl⟩
      rw [hR.out] at hconv
      generalize t.start.length = N at *
      go_wp2
      go_ret
      exact ⟨by rw [hR.out]; rfl, hBH.out⟩

end Go.Proofs.Ytgifhgnccmnbiaa
