/- Files of codes: both sides read the same, code by code. No Go in it. -/
import Derived.Test.YtgifhgnccmnbiaaG09
import Derived.Test.YtgifhgnccmnbiaaG06
import Derived.Laws.IdiomStrings
import Derived.Lib.BufferRead
set_option linter.unusedVariables false
set_option linter.unusedSimpArgs false
namespace Go.Proofs.Ytgifhgnccmnbiaa
open Go.RowKit Go.IntWalk

theorem bytesN_app (a b : ByteArray) : bytesN (a ++ b) = bytesN a ++ bytesN b := by
  unfold bytesN; rw [ByteArray.data_append, Array.toList_append, List.map_append]
theorem bytesN_empty : bytesN ByteArray.empty = [] := rfl
theorem bytesN_one {c : Nat} (h : c < 256) : bytesN ⟨#[c.toUInt8]⟩ = [c] := by
  show [c.toUInt8.toNat] = [c]
  rw [Nat.toUInt8_eq, UInt8.toNat_ofNat', Nat.mod_eq_of_lt (by omega)]
theorem bytesN_nil {s : ByteArray} : bytesN s = [] ↔ s.size = 0 := by
  rw [← bytesN_len]; exact List.length_eq_zero_iff.symm
theorem bytesN_first {s : ByteArray} (h : s.size ≠ 0) : bytesN (s.extract 0 1) = [(bytesN s).headD 0] := by
  unfold bytesN
  rw [ByteArray.data_extract]
  obtain ⟨⟨l⟩⟩ := s
  cases l with
  | nil => exact absurd rfl h
  | cons x l => simp
theorem ptOf_first {t : List Nat} (h : t ≠ []) : (ptOf t).first = t.headD 0 := by unfold ptOf; rw [if_neg h]
theorem numB_end {B : ByteArray} {p : Nat} : ∀ i, p + i ≤ 8 * B.size → (numB B p i).2 = p + i := by
  intro i
  induction i with
  | zero => intro _; rfl
  | succ i ih =>
    intro hi
    show (nextB B (numB B p i).2).2 = _
    rw [ih (by omega)]
    unfold nextB; rw [if_pos (by omega)]; rfl

/-- The code's state and the document's tell the same. -/
structure ZZ (B : ByteArray) (m : Nat) (s : CD × TT) (r : ZB) (T : List (List Nat)) : Prop where
  bytes : s.1.B = B
  most : s.1.most = m
  p : s.1.p = r.p
  bad : s.1.bad = false
  sound : Sound s.2.rules T
  len : s.1.gone + r.tab.length = T.length
  ent : ∀ i, i < r.tab.length → bytesN (r.tab.getD i ByteArray.empty) = T.getD (s.1.gone + i) []
  last : (s.1.ahead = none ∧ r.last.size = 0 ∧ r.tab = []) ∨ ∃ a, s.1.ahead = some a ∧ a < 256 + T.length ∧ bytesN r.last = symT T a ∧ r.last.size ≠ 0
  start : ∀ x, x ∈ s.2.start → x < 256 + T.length
  out : bytesN r.out = s.2.start.flatMap (symT T)
  whole : s.2.whole = ptOf (bytesN r.out)
  syms : s.2.syms = r.n
  kind : s.2.kind = 90
theorem ZZ.free {B : ByteArray} {m : Nat} {s : CD × TT} {r : ZB} {T : List (List Nat)} (h : ZZ B m s r T) : freeN s.2 s.1 = frB r := by
  have := h.len
  have := h.sound.len
  unfold freeN frB; omega
theorem ZZ.wide {B : ByteArray} {m : Nat} {s : CD × TT} {r : ZB} {T : List (List Nat)} (h : ZZ B m s r T) : zwide s = zwB m r := by unfold zwide zwB; rw [h.free, h.most]
theorem ZZ.go {B : ByteArray} {m : Nat} {s : CD × TT} {r : ZB} {T : List (List Nat)} (h : ZZ B m s r T) : zgo s = zgoB B m r := by
  unfold zgo zgoB; rw [h.bad, h.wide, h.p, h.bytes]; rfl
theorem ZZ.ok {B : ByteArray} {m : Nat} {s : CD × TT} {r : ZB} {T : List (List Nat)} (h : ZZ B m s r T) : zOk s = endB B r.p := by
  unfold zOk; rw [h.bad, h.p, h.bytes]; rfl
/-- The text of a number that has one. -/
theorem ZZ.entry {B : ByteArray} {m : Nat} {s : CD × TT} {r : ZB} {T : List (List Nat)} (h : ZZ B m s r T) {c : Nat} (hc : c < 256 ∨ (257 ≤ c ∧ c < frB r)) : bytesN (entB r.tab c) = symT T (symC s.1.gone c) ∧ symC s.1.gone c < 256 + T.length := by
  have hl := h.len
  unfold entB symC symT
  rcases hc with hc | ⟨hc, hf⟩
  · rw [if_pos hc, if_pos hc, if_pos hc]
    exact ⟨bytesN_one hc, by omega⟩
  · unfold frB at hf
    have n1 : ¬ c < 256 := by omega
    have n2 : ¬ s.1.gone + c - 1 < 256 := by omega
    simp only [if_neg n1, if_neg n2]
    rw [h.ent _ (by omega), show s.1.gone + (c - 257) = s.1.gone + c - 1 - 256 by omega]
    exact ⟨rfl, by omega⟩
theorem flatMap_sym {T U : List (List Nat)} {l : List Nat} (h : ∀ x, x ∈ l → x < 256 + T.length) : l.flatMap (symT (T ++ U)) = l.flatMap (symT T) := by
  induction l with
  | nil => rfl
  | cons x l ih =>
    rw [List.flatMap_cons, List.flatMap_cons, symT_app (h x (by simp)), ih (fun y hy => h y (by simp [hy]))]
/-- A code that is taken: no entry joins. -/
theorem ZZ.plain {B : ByteArray} {m : Nat} {s : CD × TT} {r : ZB} {T : List (List Nat)} (h : ZZ B m s r T) {q sy : Nat} {now : ByteArray} (hsy : sy < 256 + T.length) (hn : bytesN now = symT T sy) (hne : now.size ≠ 0) :
    ZZ B m ({ s.1 with p := q, ahead := some sy }, addStart (upSyms s.2) sy) { p := q, n := r.n + 1, out := r.out ++ now, tab := r.tab, last := now } T := by
  have ho : bytesN (r.out ++ now) = (s.2.start ++ [sy]).flatMap (symT T) := by
    rw [bytesN_app, h.out, hn, List.flatMap_append]; simp
  refine ⟨h.bytes, h.most, rfl, h.bad, h.sound, h.len, h.ent, Or.inr ⟨sy, rfl, hsy, hn, hne⟩, ?_, ho, ?_, ?_, h.kind⟩
  · intro x hx
    rcases List.mem_append.1 hx with hx | hx
    · exact h.start x hx
    · simp at hx; omega
  · show joinP s.2.whole (partAt s.2.rules sy) = ptOf (bytesN (r.out ++ now))
    rw [h.whole, h.sound.part (by rw [h.sound.len]; exact hsy), join_ptOf, bytesN_app, hn]
  · show s.2.syms + 1 = r.n + 1
    rw [h.syms]
/-- An entry joins. -/
theorem ZZ.join {B : ByteArray} {m : Nat} {s : CD × TT} {r : ZB} {T : List (List Nat)} (h : ZZ B m s r T) {a fb : Nat} {e : ByteArray} (ha : a < 256 + T.length) (hfb : fb < 256) (he : bytesN e = symT T a ++ [fb]) (hl : (s.1.ahead = some a ∧ bytesN r.last = symT T a ∧ r.last.size ≠ 0)) :
    ZZ B m (s.1, addRuleT s.2 a fb) { r with tab := r.tab ++ [e] } (T ++ [symT T a ++ symT T fb]) := by
  have hs := h.sound.push (l := a) (r := fb) (by rw [h.sound.len]; exact ha) (by omega)
  have hT : (T ++ [symT T a ++ symT T fb]).length = T.length + 1 := by simp
  have hlen := h.len
  refine ⟨h.bytes, h.most, h.p, h.bad, hs, ?_, ?_, Or.inr ⟨a, hl.1, by omega, by rw [symT_app ha]; exact hl.2.1, hl.2.2⟩, ?_, ?_, h.whole, h.syms, h.kind⟩
  · show s.1.gone + (r.tab ++ [e]).length = _
    rw [hT, List.length_append, List.length_singleton]; omega
  · intro i hi
    replace hi : i < (r.tab ++ [e]).length := hi
    show bytesN ((r.tab ++ [e]).getD i ByteArray.empty) = _
    rw [List.length_append, List.length_singleton] at hi
    by_cases h2 : i < r.tab.length
    · have := h.ent i h2
      simp only [List.getD] at this ⊢
      rw [List.getElem?_append_left h2, List.getElem?_append_left (by omega)]
      exact this
    · have h3 : i = r.tab.length := by omega
      subst h3
      simp only [List.getD]
      rw [List.getElem?_append_right (Nat.le_refl _), hlen, List.getElem?_append_right (Nat.le_refl _)]
      simp only [Nat.sub_self, List.getElem?_cons_zero, Option.getD_some]
      rw [he]
      have : symT T fb = [fb] := if_pos hfb
      rw [this]
  · intro x hx
    have := h.start x hx
    omega
  · rw [h.out]
    exact (flatMap_sym h.start).symm

/-- One code more. -/
theorem ZZ.step {B : ByteArray} {m : Nat} {s : CD × TT} {r : ZB} {T : List (List Nat)} (h : ZZ B m s r T) (hg : zgoB B m r = true) :
    (zsB B m r = none → (zstep s).1.bad = true) ∧ ∀ r', zsB B m r = some r' → ∃ T', ZZ B m (zstep s) r' T' := by
  have hg' : r.p + zwB m r ≤ 8 * B.size := by unfold zgoB at hg; simpa using hg
  have hz : zstep s = takeC { s.1 with p := r.p + zwB m r } s.2 (numB B r.p (zwB m r)).1 := by
    unfold zstep; rw [h.bytes, h.p, h.wide, numB_end _ hg']
  rw [hz]
  unfold zsB
  generalize (numB B r.p (zwB m r)).1 = c
  have eF : freeN s.2 { s.1 with p := r.p + zwB m r } = frB r := h.free
  have h' : ZZ B m ({ s.1 with p := r.p + zwB m r }, s.2) { r with p := r.p + zwB m r } T := ⟨h.bytes, h.most, rfl, h.bad, h.sound, h.len, h.ent, h.last, h.start, h.out, h.whole, h.syms, h.kind⟩
  have hF : 257 ≤ frB r := by unfold frB; omega
  unfold takeC tkB
  rw [eF]
  by_cases hc : c = 256
  · subst hc
    rw [if_pos rfl, if_pos rfl]
    refine ⟨fun hx => by (cases hx), fun r' hr => ⟨T, ?_⟩⟩
    simp only [Option.some.injEq] at hr
    subst hr
    exact ⟨h.bytes, h.most, rfl, h.bad, h.sound, h.sound.len, (fun i hi => absurd hi (Nat.not_lt_zero _)), Or.inl ⟨rfl, rfl, rfl⟩, h.start, h.out, h.whole, by show s.2.syms + 1 = r.n + 1; rw [h.syms], h.kind⟩
  rw [if_neg hc, if_neg hc]
  rcases h.last with ⟨la, lb, lc⟩ | ⟨a, la, lb, lt, lne⟩
  · have hF7 : frB r = 257 := by unfold frB; rw [lc]; rfl
    have hj : joinsC { s.1 with p := r.p + zwB m r } (frB r) = none := by unfold joinsC; simp only []; rw [la]
    by_cases hb : 256 < c
    · rw [if_pos ⟨lb, hb⟩, if_pos (show badC _ c (frB r) by
        by_cases h7 : c = 257
        · exact Or.inr ⟨by omega, hj⟩
        · exact Or.inl (by omega))]
      exact ⟨fun _ => rfl, fun r' hr => by (cases hr)⟩
    · rw [if_neg (fun hx => hb hx.2), if_neg (by omega), if_neg (show ¬ badC _ c (frB r) from fun hx => by rcases hx with hx | hx <;> omega), hj]
      refine ⟨fun hx => by (cases hx), fun r' hr => ⟨T, ?_⟩⟩
      simp only [Option.some.injEq] at hr
      subst hr
      have hnow : nowB r c = entB r.tab c := by unfold nowB; rw [if_neg (by omega)]
      obtain ⟨e1, e2⟩ := h.entry (c := c) (Or.inl (by omega))
      have hne : (entB r.tab c).size ≠ 0 := fun hx => by
        have := bytesN_nil.2 hx
        rw [e1] at this
        exact h.sound.ne (by rw [h.sound.len]; exact e2) this
      rw [hnow, if_neg (fun hx => hx.1 lb)]
      exact h'.plain e2 e1 hne
  · rw [if_neg (fun hx => lne hx.1)]
    have hj : joinsC { s.1 with p := r.p + zwB m r } (frB r) = if frB r < 2 ^ m then some a else none := by unfold joinsC; simp only []; rw [la, h.most]
    by_cases hb : frB r < c ∨ (c = frB r ∧ ¬ frB r < 2 ^ m)
    · rw [if_pos hb, if_pos (show badC _ c (frB r) by
        rcases hb with hb | hb
        · exact Or.inl hb
        · exact Or.inr ⟨hb.1, by rw [hj, if_neg hb.2]⟩)]
      exact ⟨fun _ => rfl, fun r' hr => by (cases hr)⟩
    · rw [if_neg hb, if_neg (show ¬ badC _ c (frB r) from fun hx => by
        rcases hx with hx | ⟨hx, hy⟩
        · exact hb (Or.inl hx)
        · by_cases hr : frB r < 2 ^ m
          · rw [hj, if_pos hr] at hy; cases hy
          · exact hb (Or.inr ⟨hx, hr⟩))]
      refine ⟨fun hx => by (cases hx), fun r' hr => ?_⟩
      simp only [Option.some.injEq] at hr
      subst hr
      have hle : c ≤ frB r := by omega
      by_cases hroom : frB r < 2 ^ m
      · rw [hj, if_pos hroom, if_pos ⟨lne, hroom⟩]
        -- the first byte of what is read now
        have hap : partAt s.2.rules a = ptOf (symT T a) := h.sound.part (by rw [h.sound.len]; exact lb)
        have hane : symT T a ≠ [] := h.sound.ne (by rw [h.sound.len]; exact lb)
        have hfirst : bytesN ((nowB r c).extract 0 1) = [firstC s.2 s.1.gone a c (frB r)] := by
          unfold firstC nowB
          by_cases hcF : c = frB r
          · rw [if_pos hcF, if_pos hcF, hap, ptOf_first hane]
            have hsz : (r.last ++ r.last.extract 0 1).size ≠ 0 := by rw [ba_size_app]; omega
            rw [bytesN_first hsz, bytesN_app, lt]
            cases hx : symT T a with
            | nil => exact absurd hx hane
            | cons y l => rfl
          · rw [if_neg hcF, if_neg hcF]
            obtain ⟨e1, e2⟩ := h.entry (c := c) (by omega)
            have hne2 : symT T (symC s.1.gone c) ≠ [] := h.sound.ne (by rw [h.sound.len]; exact e2)
            have hne : (entB r.tab c).size ≠ 0 := fun hx => by rw [← bytesN_nil, e1] at hx; exact hne2 hx
            rw [bytesN_first hne, e1, h.sound.part (by rw [h.sound.len]; exact e2), ptOf_first hne2]
        have hfb : firstC s.2 s.1.gone a c (frB r) < 256 := by
          have := bytesN_lt ((nowB r c).extract 0 1) (firstC s.2 s.1.gone a c (frB r)) (by rw [hfirst]; simp)
          exact this
        obtain ⟨fb, hfbg⟩ : ∃ fb, fb = firstC s.2 s.1.gone a c (frB r) := ⟨_, rfl⟩
        rw [← hfbg] at hfirst hfb
        have hent : bytesN (r.last ++ (nowB r c).extract 0 1) = symT T a ++ [fb] := by rw [bytesN_app, lt, hfirst]
        have hJ := h'.join (a := a) (fb := fb) lb hfb hent ⟨la, lt, lne⟩
        have hfbT : symT T fb = [fb] := if_pos hfb
        have hnow : bytesN (nowB r c) = symT (T ++ [symT T a ++ symT T fb]) (symC s.1.gone c) ∧ symC s.1.gone c < 256 + (T ++ [symT T a ++ symT T fb]).length := by
          by_cases hcF : c = frB r
          · have hsy : symC s.1.gone c = 256 + T.length := by
              have := h.len
              unfold symC frB at *
              rw [if_neg (by omega)]; omega
            rw [hsy, symT_new]
            refine ⟨?_, by simp⟩
            have hn : nowB r c = r.last ++ r.last.extract 0 1 := by unfold nowB; rw [if_pos hcF]
            have h3 := hfirst
            rw [hn] at h3 ⊢
            have hsz : (r.last ++ r.last.extract 0 1).size ≠ 0 := by rw [ba_size_app]; omega
            rw [bytesN_first hsz, bytesN_app, lt, bytesN_first lne, lt] at h3
            rw [bytesN_app, lt, bytesN_first lne, lt, hfbT]
            cases hx : symT T a with
            | nil => exact absurd hx hane
            | cons y l => rw [hx] at h3; simpa using h3
          · obtain ⟨e1, e2⟩ := h.entry (c := c) (by omega)
            have hn : nowB r c = entB r.tab c := by unfold nowB; rw [if_neg hcF]
            rw [hn, e1, symT_app e2]
            exact ⟨rfl, by rw [List.length_append]; omega⟩
        have hnne : (nowB r c).size ≠ 0 := fun hx => by
          have h5 := bytesN_nil.2 hx
          rw [hnow.1] at h5
          exact hJ.sound.ne (by rw [hJ.sound.len]; exact hnow.2) h5
        refine ⟨T ++ [symT T a ++ symT T fb], ?_⟩
        have hfin := hJ.plain (q := r.p + zwB m r) hnow.2 hnow.1 hnne
        rw [hfbg] at hfin ⊢
        exact hfin
      · rw [hj, if_neg hroom, if_neg (fun hx => hroom hx.2)]
        have hcF : c ≠ frB r := fun hx => hb (Or.inr ⟨hx, hroom⟩)
        have hnow : nowB r c = entB r.tab c := by unfold nowB; rw [if_neg hcF]
        obtain ⟨e1, e2⟩ := h.entry (c := c) (by omega)
        have hne : (entB r.tab c).size ≠ 0 := fun hx => by
          have := bytesN_nil.2 hx
          rw [e1] at this
          exact h.sound.ne (by rw [h.sound.len]; exact e2) this
        rw [hnow]
        exact ⟨T, h'.plain e2 e1 hne⟩

end Go.Proofs.Ytgifhgnccmnbiaa

set_option linter.unusedVariables false
set_option linter.unusedSimpArgs false
namespace Go.Proofs.Ytgifhgnccmnbiaa
open Go.RowKit Go.IntWalk

theorem ShapeOut.form {f : ByteArray} {w w' : World} {e : Ending} (h : ShapeOut f w w' e) : ∃ (k c : Int) (n l m : Nat), e = .returned (.tuple #[.agg #[.int .i64 k, .int .i64 (n : Int), .int .i64 (l : Int), .int .i64 (m : Int)], .int .i64 c]) := by
  rcases h.out with ⟨_, he⟩ | ⟨t, _, ⟨_, he⟩ | ⟨_, he⟩⟩
  · exact ⟨0, 4, 0, 0, 0, he⟩
  · exact ⟨0, 5, 0, 0, 0, he⟩
  · exact ⟨_, 0, _, _, _, he⟩

/-- What is still to be shown of the two answers. -/
def ShapeSame : Prop := ∀ (f : ByteArray) (w0 w1 w2 w3 : World) (e e' : Ending), ShapeOut f w0 w1 e → ShapeR f w2 w3 e' → e = e'

set_option maxHeartbeats 4000000 in
set_option maxRecDepth 100000 in
theorem shapes_law (hsame : ShapeSame) (f : ByteArray) (hf : f.size ≤ maxLen) (w : World) :
    Calls Try.prog 9 #[.string f] w fun e w' => e = .returned (.bool true) ∧ Below w.heap.size w w' := by
  have h1 : Hid (Calls _ _ _ w _) := shape_any f hf w
  have h2 : Hid (∀ w, Calls _ _ _ w _) := fun w => shapeR_any f hf w
  have hsH : Hid ShapeSame := hsame
  clear hsame
  go_enter Try.func9, Try.ntmps9
  go_wp2_with fail
  refine h1.out.mono ?_
  rintro e w1 ho
  obtain ⟨k, c, n, l, m, rfl⟩ := ho.form
  have hoH : Hid (ShapeOut _ _ _ _) := ho
  have hB1 : Hid (∀ o, Below w.heap.size w (w1.alloc o)) := fun o => ho.below.alloc ho.below.size o
  have hsz1 : Hid (w.heap.size ≤ w1.heap.size) := ho.below.size
  clear ho h1
  go_wp2_with fail
  refine (h2.out _).mono ?_
  rintro e w2 hr
  have he := hsH.out f _ _ _ _ _ _ hoH.out hr
  subst he
  have k2 := hr.kept
  have hA : Blk w2 w1.heap.size #[.int .i64 k, .int .i64 (n : Int), .int .i64 (l : Int), .int .i64 (m : Int)] 41 := (Blk.new w1 _ _).kept k2 (by simp)
  have d0 : w2.cell? ⟨w1.heap.size, 0, none⟩ = some (.int .i64 k) := hA.cell 0
  have d1 : w2.cell? ⟨w1.heap.size, 1, none⟩ = some (.int .i64 (n : Int)) := hA.cell 1
  have d2 : w2.cell? ⟨w1.heap.size, 2, none⟩ = some (.int .i64 (l : Int)) := hA.cell 2
  have d3 : w2.cell? ⟨w1.heap.size, 3, none⟩ = some (.int .i64 (m : Int)) := hA.cell 3
  have hA1 : w1.heap.size < w2.heap.size := hA.lt
  have hB2 : Hid (∀ o, Below w.heap.size w (w2.alloc o)) := fun o => ((hB1.out _).trans (k2.below (by have := hsz1.out; simp; omega) (by simp))).alloc (by have := hsz1.out; omega) o
  clear hA k2 hr hoH hsH h2 hB1
  go_wp2
  go_ret
  exact ⟨rfl, hB2.out _⟩

end Go.Proofs.Ytgifhgnccmnbiaa

set_option linter.unusedVariables false
set_option linter.unusedSimpArgs false
namespace Go.Proofs.Ytgifhgnccmnbiaa
open Go.RowKit Go.IntWalk

theorem zz0 (f : ByteArray) : ZZ (f.extract 3 f.size) (bt f 2) (z0 f) {} [] :=
  ⟨rfl, rfl, rfl, rfl, Sound.nil, rfl, (fun i hi => absurd hi (Nat.not_lt_zero _)), Or.inl ⟨rfl, rfl, rfl⟩, (fun x hx => nomatch hx), rfl, rfl, rfl, rfl⟩
def OnB (f : ByteArray) (n : Nat) : Prop := ∀ i, i < n → ∃ q, zitB (f.extract 3 f.size) (bt f 2) i = some q ∧ zgoB (f.extract 3 f.size) (bt f 2) q = true
theorem zz_run {f : ByteArray} : ∀ n r, zitB (f.extract 3 f.size) (bt f 2) n = some r → OnB f n → ∃ T, ZZ (f.extract 3 f.size) (bt f 2) (zit (z0 f) n) r T
  | 0, r, h, _ => by
    simp only [zitB, Option.some.injEq] at h
    subst h
    exact ⟨[], zz0 f⟩
  | n + 1, r, h, hon => by
    obtain ⟨q, hq, hg⟩ := hon n (by omega)
    obtain ⟨T, hT⟩ := zz_run n q hq (fun i hi => hon i (by omega))
    have h2 : (zitB (f.extract 3 f.size) (bt f 2) n).bind (zsB (f.extract 3 f.size) (bt f 2)) = some r := h
    rw [hq] at h2
    exact (hT.step hg).2 r h2
theorem zz_on {f : ByteArray} {n : Nat} (hon : OnB f n) : ∀ i, i < n → zgo (zit (z0 f) i) = true := fun i hi => by
  obtain ⟨q, hq, hg⟩ := hon i hi
  obtain ⟨T, hT⟩ := zz_run i q hq (fun j hj => hon j (by omega))
  rw [hT.go]; exact hg
theorem ZGood.file' {f : ByteArray} {n : Nat} {r : ZB} (h : ZGood f n r) : SFile f (zit (z0 f) n).2 ∧ (zit (z0 f) n).2.kind = 90 ∧ (zit (z0 f) n).2.syms = n ∧ (zit (z0 f) n).2.whole = ptOf (bytesN r.out) := by
  obtain ⟨T, hT⟩ := zz_run n r h.it h.on
  obtain ⟨z1, z2, z3, z4, z5⟩ := h.file
  refine ⟨SFile.codes (by omega) z2 z3 ?_ ⟨zz_on h.on, by rw [hT.go]; exact h.stop⟩ (by rw [hT.ok]; exact h.fin), hT.kind, by rw [hT.syms, h.num], hT.whole⟩
  unfold zMost
  rw [decide_eq_true z1, decide_eq_true z4, decide_eq_true z5]; rfl
theorem ZNo.none {f : ByteArray} (h : ZNo f) (h4 : f.size ≤ 4000) (hz : isSZ f) (hm : zMost f = true) {n : Nat} (hr : ZRun f n) (hk : zOk (zit (z0 f) n) = true) : False := by
  rcases h with h | ⟨h, n0, r, hit, hon, ⟨a, b⟩ | ⟨a, b⟩⟩
  · unfold zMost at hm
    simp only [Bool.and_eq_true, decide_eq_true_eq] at hm
    exact h ⟨hm.1.1, h4, hz, hm.1.2, hm.2⟩
  · obtain ⟨T, hT⟩ := zz_run n0 r hit hon
    have hb := (hT.step a).1 b
    have hrun : ZRun f (n0 + 1) := by
      refine ⟨fun i hi => ?_, ?_⟩
      · by_cases hin : i = n0
        · subst hin; rw [hT.go]; exact a
        · exact zz_on hon i (by omega)
      · show zgo (zstep (zit (z0 f) n0)) = false
        unfold zgo; rw [hb]; rfl
    have := hr.one hrun
    subst this
    have hk2 : zOk (zstep (zit (z0 f) n0)) = true := hk
    unfold zOk at hk2
    rw [hb] at hk2
    cases hk2
  · obtain ⟨T, hT⟩ := zz_run n0 r hit hon
    have hrun : ZRun f n0 := ⟨zz_on hon, by rw [hT.go]; exact a⟩
    have := hr.one hrun
    subst this
    rw [hT.ok, b] at hk
    cases hk
theorem flat_self : ∀ l : List Nat, (∀ x, x ∈ l → x < 256) → l.flatMap (symT []) = l
  | [], _ => rfl
  | x :: l, h => by
    have e : symT [] x = [x] := if_pos (h x (by simp))
    rw [List.flatMap_cons, e, flat_self l (fun y hy => h y (by simp [hy]))]; rfl
theorem whole_bytes (s : ByteArray) : wholeR [] (bytesN s) = piOf (bytesN s) := by
  have h := whole_tx (T := []) (bytesN s) (fun x hx => by have := bytesN_lt s x hx; simp; omega) []
  rw [flat_self _ (bytesN_lt s)] at h
  exact h

theorem shape_same : ShapeSame := by
  intro f w0 w1 w2 w3 e e' hS hR
  have four : ∀ t, SFile f t → f.size ≤ 4000 := fun t ht => by cases ht <;> assumption
  rcases hR.out with ⟨n, r, hz, he'⟩ | ⟨hno, hg, he'⟩ | ⟨hno, hg, hb, he'⟩ | ⟨hno, hg, hb, he'⟩
  · obtain ⟨hf, hk, hsy, hw⟩ := hz.file'
    have hsz := hz.size
    rcases hS.out with ⟨hn, _⟩ | ⟨t, ht, h2⟩
    · exact absurd hf (hn _)
    · have := ht.one hf
      subst this
      have hlen : (zit (z0 f) n).2.whole.len ≤ 1099511627776 := by
        rw [hw, ptOf_len, bytesN_len, capL_of (by omega)]; omega
      rcases h2 with ⟨h3, _⟩ | ⟨_, he⟩
      · omega
      · rw [he, he', hk, hsy, hw, whole_bytes, lines_same, long_len]
  · rcases hS.out with ⟨hn, he⟩ | ⟨t, ht, h2⟩
    · rw [he, he']
    · exfalso
      cases ht with
      | rules a b c d => exact hg (ok_GOk c b d)
      | codes a b c d x y => exact hno.none b c d x y
  · have hf : SFile f (sgT f) := SFile.rules (by have := hg.five; omega) hg.most hg.sg hg.ok
    obtain ⟨t0, q1, q2⟩ := hg.whole
    rcases hS.out with ⟨hn, _⟩ | ⟨t, ht, h2⟩
    · exact absurd hf (hn _)
    · have := ht.one hf
      subst this
      rcases h2 with ⟨_, he⟩ | ⟨h3, _⟩
      · rw [he, he']
      · rw [q1, long_len, ← q2] at h3; omega
  · have hf : SFile f (sgT f) := SFile.rules (by have := hg.five; omega) hg.most hg.sg hg.ok
    obtain ⟨t0, q1, q2⟩ := hg.whole
    obtain ⟨_, _, e3, _, _⟩ := hg.read
    rcases hS.out with ⟨hn, _⟩ | ⟨t, ht, h2⟩
    · exact absurd hf (hn _)
    · have := ht.one hf
      subst this
      rcases h2 with ⟨h3, _⟩ | ⟨_, he⟩
      · rw [q1, long_len, ← q2] at h3; omega
      · have hsy : (sgT f).syms = gN f := by show (sgN f).1 = gN f; rw [e3]
        rw [he, he', hsy, q1, q2, lines_same, long_len]
        rfl

theorem shapes_any (f : ByteArray) (hf : f.size ≤ maxLen) (w : World) :
    Calls Try.prog 9 #[.string f] w fun e w' => e = .returned (.bool true) ∧ Below w.heap.size w w' := shapes_law shape_same f hf w

end Go.Proofs.Ytgifhgnccmnbiaa

set_option linter.unusedVariables false
set_option linter.unusedSimpArgs false
namespace Go.Proofs.Ytgifhgnccmnbiaa
open Go.RowKit Go.IntWalk

def bytesB (l : List Nat) : ByteArray := ⟨(l.map Nat.toUInt8).toArray⟩
theorem conv_out {w : World} {base : Nat} {v : Value} {out : List Nat} (h : w.ownsRow base 5 1 v out.length (byteCells out)) (hb : ∀ c, c ∈ out → c < 256) :
    (convert 98 9 v).run Try.prog w = .ok (.string (bytesB out)) w := by
  rcases h.2 with ⟨h1, h2⟩ | ⟨g, cap, cur, h1, h2, h3, h4⟩
  · have e : out = [] := List.eq_nil_of_length_eq_zero h2
    subst e
    rw [h1]
    exact Lib.run_convert_nil_bytes (P := Try.prog) w 98 9 5 0 Try.underlying98 Try.underlying5 Try.underlying9
  · subst h1
    have hl : (out.map Nat.toUInt8).length = out.length := List.length_map ..
    have := run_convert_bytes_back (P := Try.prog) w 98 9 5 ⟨g, 0, none⟩ cap (out.map Nat.toUInt8) Try.underlying98 Try.underlying5 Try.underlying9 (fun j hj => by
      rw [hl] at hj
      have hc : (byteCells out)[j]? = some (.int .u8 (out[j] : Int)) := by unfold byteCells; rw [List.getElem?_map, List.getElem?_eq_getElem hj]; rfl
      rw [h.cells (g := g) rfl j _ hc, List.getElem_map]
      have hlt := hb out[j] (List.getElem_mem hj)
      rw [Nat.toUInt8_eq, UInt8.toNat_ofNat', Nat.mod_eq_of_lt (by omega)])
    rw [hl] at this
    exact this

/-- The text's rules stand for these texts. -/
structure SText (t : TT) (T : List (List Nat)) : Prop where
  sound : Sound t.rules T
  start : ∀ s, s ∈ t.start → s < 256 + t.rules.length
  whole : t.whole = ptOf (t.start.flatMap (symT T))
  rlen : t.rules.length ≤ 9000
  slen : t.start.length ≤ 9000
theorem SText.len {t : TT} {T : List (List Nat)} (h : SText t T) (hw : t.whole.len ≤ 1099511627776) : (t.start.flatMap (symT T)).length = t.whole.len := by
  rw [h.whole, ptOf_len] at hw ⊢
  exact (capL_small hw).symm
theorem mem_flat {T : List (List Nat)} : ∀ {l : List Nat} {s : Nat}, s ∈ l → (symT T s).length ≤ (l.flatMap (symT T)).length
  | x :: l, s, h => by
    rw [List.flatMap_cons, List.length_append]
    rcases List.mem_cons.1 h with h | h
    · subst h; omega
    · have := mem_flat (T := T) h; omega
theorem Sound.byte {rs : List RU} {T : List (List Nat)} (h : Sound rs T) : ∀ (k s : Nat), s < k → s < 256 + rs.length → ∀ c, c ∈ symT T s → c < 256 := by
  intro k
  induction k with
  | zero => intro s hs; omega
  | succ k ih =>
    intro s hs hs2 c hc
    by_cases h1 : s < 256
    · unfold symT at hc; rw [if_pos h1] at hc; simp at hc; omega
    · obtain ⟨x, hx⟩ : ∃ x, rs[s - 256]? = some x := ⟨_, List.getElem?_eq_getElem (by omega)⟩
      obtain ⟨u1, u2, u3, _⟩ := h.rule _ _ hx
      have e : symT T s = symT T x.l ++ symT T x.r := by rw [← u3]; unfold symT; rw [if_neg h1]
      rw [e] at hc
      rcases List.mem_append.1 hc with hc | hc
      · exact ih x.l (by omega) (by omega) c hc
      · exact ih x.r (by omega) (by omega) c hc
theorem SText.byte {t : TT} {T : List (List Nat)} (h : SText t T) : ∀ c, c ∈ t.start.flatMap (symT T) → c < 256 := fun c hc => by
  obtain ⟨s, h1, h2⟩ := List.mem_flatMap.1 hc
  exact h.sound.byte (s + 1) s (by omega) (h.start s h1) c h2

/-- What the loop over the symbols keeps. -/
structure CutLoop (w0 w : World) (n b : Nat) (t : TT) (rv sv : Value) (T : List (List Nat)) (fr dst q : Nat) : Prop where
  text : TR w n b t rv sv
  below : Below w0.heap.size w0 w
  ex : ∃ a k c, CutM w w0.heap.size b fr dst (min ((t.start.take q).flatMap (symT T)).length dst) (.slice a k c) (cutX ((t.start.take q).flatMap (symT T)) fr dst 0)

set_option maxHeartbeats 4000000 in
set_option maxRecDepth 100000 in
theorem cutText_any {T : List (List Nat)} {t : TT} (hS : SText t T) (hw : t.whole.len ≤ 1099511627776) {n b : Nat} {rv sv : Value} {fr dst : Nat} (hfd : fr ≤ dst) (hd : dst ≤ 1099511627776) (w : World) (hT : TR w n b t rv sv) (hn : n ≤ w.heap.size) :
    Calls Try.prog 52 #[.pointer (some ⟨b, 0, none⟩), .int .i64 (fr : Int), .int .i64 (dst : Int)] w fun e w' => e = .returned (.string (bytesB (cutX (t.start.flatMap (symT T)) fr dst 0))) ∧ Below w.heap.size w w' := by
  have hlenX := hS.len hw
  have h0 : Hid (CutLoop w (w.alloc (.cells #[.pointer (some ⟨b, 0, none⟩), .int .i64 (fr : Int), .int .i64 (dst : Int), .int .i64 0, .slice none 0 0] 139)) n b t rv sv T fr dst 0) :=
    ⟨hT.kept ((Kept.refl [] w).alloc _), (Below.refl _ _).alloc (Nat.le_refl _) _, none, 0, 0, by
      have e1 : cutX ((t.start.take 0).flatMap (symT T)) fr dst 0 = [] := by rw [List.take_zero, List.flatMap_nil, cutX_nil]
      have e2 : min ((t.start.take 0).flatMap (symT T)).length dst = 0 := by rw [List.take_zero, List.flatMap_nil]; simp
      rw [e1, e2]
      exact ⟨Blk.new w _ _, World.ownsRow_nil _ _ _ _, Nat.zero_le _⟩⟩
  clear hT
  go_enter Try.func52, Try.ntmps52
  go_wp2_with fail
  go_loopw [8] (fun iv wr => ∃ q : Nat, iv = .int .i64 (q : Int) ∧ q ≤ t.start.length ∧ CutLoop w wr n b t rv sv T fr dst q) (fun iv _ => ((t.start.length : Int) - intOf iv).toNat)
  case atStart => exact ⟨0, rfl, Nat.zero_le _, h0.out⟩
  case round =>
    obtain ⟨q, rfl, hq, hI⟩ := hrel
    clear h0
    obtain ⟨hT, hBl, oa, ok, oc, hC⟩ := hI
    obtain ⟨sa, sk, sc, hsv⟩ := own_shape hT.start
    have hsl := hS.slen
    have hX : Hid (∀ q, ((t.start.take q).flatMap (symT T)) ++ ((t.start.drop q).flatMap (symT T)) = t.start.flatMap (symT T)) := fun q => by rw [← List.flatMap_append, List.take_append_drop]
    have hend : Hid (dst ≤ ((t.start.take q).flatMap (symT T)).length ∨ q = t.start.length → cutX ((t.start.take q).flatMap (symT T)) fr dst 0 = cutX (t.start.flatMap (symT T)) fr dst 0) := fun h => by
      rcases h with h | h
      · rw [← hX.out q, cutX_app, cutX_late (x := (t.start.drop q).flatMap (symT T)) (by omega), List.append_nil]
      · rw [h, List.take_length]
    have hby : Hid (∀ c, c ∈ cutX ((t.start.take q).flatMap (symT T)) fr dst 0 → c < 256) := cutX_byte fun c hc => hS.byte c (by
      rw [← hX.out q]; exact List.mem_append_left _ hc)
    have d3 : wr.cell? ⟨w.heap.size, 3, none⟩ = some (.int .i64 ((min ((t.start.take q).flatMap (symT T)).length dst : Nat) : Int)) := hC.blk.cell 3
    have d4 : wr.cell? ⟨w.heap.size, 4, none⟩ = some (.slice oa ok oc) := hC.blk.cell 4
    have c3 : wr.cell? ⟨b, 3, none⟩ = some sv := hT.cell 3
    have hconv : (convert 98 9 (.slice oa ok oc)).run Try.prog wr = .ok (.string (bytesB (cutX ((t.start.take q).flatMap (symT T)) fr dst 0))) wr := conv_out hC.row hby.out
    have hBH : Hid (Below w.heap.size w wr) := hBl
    have hTH : Hid (TR _ _ _ _ _ _) := hT
    have hCH : Hid (CutM _ _ _ _ _ _ _ _) := hC
    by_cases hlt : (q : Int) < (t.start.length : Int)
    · by_cases hpd : ((min ((t.start.take q).flatMap (symT T)).length dst : Nat) : Int) < (dst : Int)
      · obtain ⟨s, hs⟩ : ∃ s, t.start[q]? = some s := ⟨_, List.getElem?_eq_getElem (by omega)⟩
        obtain ⟨g, cap, hv⟩ := own_form hT.start (by omega)
        have hcell : wr.cell? ⟨g, q, none⟩ = some (.int .i64 (s : Int)) := by
          have hc : (symCells t.start)[q]? = some (.int .i64 (s : Int)) := by unfold symCells; rw [List.getElem?_map, hs]; rfl
          have := hT.start.cells (g := g) (by rw [hv]; rfl) q _ hc
          rwa [ptr_add] at this
        have hm : s ∈ t.start := List.mem_of_getElem? hs
        have hsym : Hid (Calls _ _ _ wr _) := symbol_any hS.sound (by have := hS.rlen; omega) hfd hd w.heap.size hn (s + 1) s (by omega) (hS.start s hm) (by have := mem_flat (T := T) hm; omega) _ _ _ wr hT hC (Nat.min_le_right _ _)
        have hnext : Hid (∀ w', SymOut wr w' w.heap.size b fr dst (min ((t.start.take q).flatMap (symT T)).length dst) (symT T s) (cutX ((t.start.take q).flatMap (symT T)) fr dst 0) → CutLoop w w' n b t rv sv T fr dst (q + 1)) := fun w' o => by
          obtain ⟨ov, hC2⟩ := o.ex
          obtain ⟨xa, xk, xc, rfl⟩ := own_shape hC2.row
          refine ⟨hTH.out.under o.below hn, hBH.out.trans o.below, xa, xk, xc, ?_⟩
          have e : (t.start.take (q + 1)).flatMap (symT T) = (t.start.take q).flatMap (symT T) ++ symT T s := by
            rw [List.take_add_one, hs, List.flatMap_append]; simp
          rw [e, cutX_app, Nat.zero_add, List.length_append]
          rw [cutX_min] at hC2
          rw [show min (((t.start.take q).flatMap (symT T)).length + (symT T s).length) dst = min (min ((t.start.take q).flatMap (symT T)).length dst + (symT T s).length) dst by omega]
          exact hC2
        subst hv
        clear hsv hT hC hBl hS hs hm hend hby hconv
        generalize ((min ((t.start.take q).flatMap (symT T)).length dst : Nat) : Int) = P at *
        generalize t.start.length = N at *
        go_wp2_with (go_at_call 79; refine hsym.out.mono ?_; rintro _ w5 ⟨rfl, o5⟩)
        refine ⟨⟨q + 1, by go_num, by omega, hnext.out _ o5⟩, ?_⟩
        simp only [intOf]; omega
      · have e := hend.out (Or.inl (by omega))
        rw [e] at hconv
        subst hsv
        have hcl : sk = t.start.length := by
          rcases hT.start.2 with ⟨h1, h2⟩ | ⟨g, cap, _, h1, _⟩
          · simp at h1; omega
          · simp at h1; omega
        subst hcl
        clear hT hC hBl hS hend hby e
        generalize ((min ((t.start.take q).flatMap (symT T)).length dst : Nat) : Int) = P at *
        obtain ⟨R, hR⟩ : ∃ R, Hid (bytesB (cutX (t.start.flatMap (symT T)) fr dst 0) = R) := ⟨_, rfl⟩
        rw [hR.out] at hconv
        generalize t.start.length = N at *
        go_wp2
        go_ret
        exact ⟨by rw [hR.out]; rfl, hBH.out⟩
    · have e := hend.out (Or.inr (by omega))
      rw [e] at hconv
      subst hsv
      have hcl : sk = t.start.length := by
        rcases hT.start.2 with ⟨h1, h2⟩ | ⟨g, cap, _, h1, _⟩
        · simp at h1; omega
        · simp at h1; omega
      subst hcl
      clear hT hC hBl hS hend hby e
      generalize ((min ((t.start.take q).flatMap (symT T)).length dst : Nat) : Int) = P at *
      obtain ⟨R, hR⟩ : ∃ R, Hid (bytesB (cutX (t.start.flatMap (symT T)) fr dst 0) = R) := ⟨_, rfl⟩
      rw [hR.out] at hconv
      generalize t.start.length = N at *
      go_wp2
      go_ret
      exact ⟨by rw [hR.out]; rfl, hBH.out⟩

end Go.Proofs.Ytgifhgnccmnbiaa

set_option linter.unusedVariables false
set_option linter.unusedSimpArgs false
namespace Go.Proofs.Ytgifhgnccmnbiaa
open Go.RowKit Go.IntWalk

/-- The bytes of a number, the lowest one first. -/
def dig (V i : Nat) : Nat := V / 256 ^ i % 256
def digs (V n : Nat) : List Nat := (List.range n).map (dig V)
theorem digs_len (V n : Nat) : (digs V n).length = n := by simp [digs]
theorem digs_succ (V n : Nat) : digs V (n + 1) = digs V n ++ [dig V n] := by unfold digs; rw [List.range_succ, List.map_append]; rfl
theorem digs_lt (V n : Nat) : ∀ c, c ∈ digs V n → c < 256 := fun c hc => by
  unfold digs at hc
  obtain ⟨i, _, rfl⟩ := List.mem_map.1 hc
  unfold dig; omega
theorem pow8 (m k : Nat) : 2 ^ (8 * m + k) = 256 ^ m * 2 ^ k := by rw [Nat.pow_add, Nat.pow_mul]
theorem div_more (V n m k : Nat) : (V + n * 2 ^ (8 * m + k)) / 256 ^ m = V / 256 ^ m + n * 2 ^ k := by
  have hp : 0 < 256 ^ m := Nat.pow_pos (by decide)
  rw [pow8, show n * (256 ^ m * 2 ^ k) = (n * 2 ^ k) * 256 ^ m by rw [Nat.mul_comm (256 ^ m), Nat.mul_assoc], Nat.add_mul_div_right _ _ hp]
theorem digs_keep (V n m k : Nat) : digs (V + n * 2 ^ (8 * m + k)) m = digs V m := by
  unfold digs
  refine List.map_congr_left fun i hi => ?_
  have hi2 : i < m := List.mem_range.1 hi
  unfold dig
  obtain ⟨d, hd⟩ : ∃ d, m = i + 1 + d := ⟨m - (i + 1), by omega⟩
  have e : 8 * m + k = 8 * i + (8 + 8 * d + k) := by omega
  rw [e, div_more, Nat.pow_add, Nat.pow_add, show (2 : Nat) ^ 8 = 256 by decide]
  rw [show n * (256 * 2 ^ (8 * d) * 2 ^ k) = 256 * (n * (2 ^ (8 * d) * 2 ^ k)) by rw [Nat.mul_assoc 256, Nat.mul_left_comm]]
  rw [Nat.add_mul_mod_self_left]
theorem div_next (V m : Nat) : V / 256 ^ m / 256 = V / 256 ^ (m + 1) := by rw [Nat.div_div_eq_div_mul, Nat.pow_succ]
theorem val_less {V n K w : Nat} (hV : V < 2 ^ K) (hn : n < 2 ^ w) : V + n * 2 ^ K < 2 ^ (K + w) := by
  have h1 : (n + 1) * 2 ^ K ≤ 2 ^ w * 2 ^ K := Nat.mul_le_mul_right _ hn
  rw [Nat.add_mul, Nat.one_mul] at h1
  rw [Nat.pow_add, Nat.mul_comm (2 ^ K) (2 ^ w)]
  omega
theorem rest_lt {V m k : Nat} (hV : V < 2 ^ (8 * m + k)) : V / 256 ^ m < 2 ^ k := by
  rw [pow8] at hV
  exact Nat.div_lt_of_lt_mul hV
theorem or_add (r n k : Nat) (hr : r < 2 ^ k) (hk : k ≤ 8) (hn : n < 65536) : bits .or .i64 (r : Int) ((n * 2 ^ k : Nat) : Int) = ((r + n * 2 ^ k : Nat) : Int) := by
  have hp : 2 ^ k ≤ 2 ^ 8 := Nat.pow_le_pow_right (by omega) hk
  have h1 : n * 2 ^ k ≤ 65536 * 256 := Nat.mul_le_mul (by omega) hp
  have h2 : (2 : Nat) ^ 8 = 256 := by decide
  rw [(bits_nat .i64 62 (by decide) wraps_i64 r (n * 2 ^ k) (by omega) (by omega)).2]
  have := Nat.two_pow_add_eq_or_of_lt hr n
  rw [Nat.or_comm, Nat.mul_comm n, ← this, Nat.add_comm]

/-- A writer of bits at the front of block b: m bytes are written, the rest is what is left of V. -/
structure BWL (w : World) (b : Nat) (post : Array Value) (E V m r : Nat) (v : Value) : Prop where
  blk : Blk w b (#[v, .int .i64 ((V / 256 ^ m : Nat) : Int), .int .i64 (r : Int)] ++ post) E
  row : w.ownsRow (b + 1) 5 1 v m (byteCells (digs V m))
theorem pre0 (post : Array Value) (a c d u : Value) : (#[a, c, d] ++ post).setIfInBounds 0 u = #[u, c, d] ++ post := by apply Array.ext'; simp
theorem pre1 (post : Array Value) (a c d u : Value) : (#[a, c, d] ++ post).setIfInBounds 1 u = #[a, u, d] ++ post := by apply Array.ext'; simp
theorem pre2 (post : Array Value) (a c d u : Value) : (#[a, c, d] ++ post).setIfInBounds 2 u = #[a, c, u] ++ post := by apply Array.ext'; simp
theorem preGet (post : Array Value) (a c d : Value) (j : Nat) (hj : j < 3) : (#[a, c, d] ++ post)[j]? = #[a, c, d][j]? := by rw [Array.getElem?_append_left (by simpa using hj)]
theorem digs_eq {V V' m : Nat} (h : digs V m = digs V' m) (hl : True) : byteCells (digs V m) = byteCells (digs V' m) := by rw [h]

/-- What writing a number leaves. -/
structure NumOut (w w' : World) (b : Nat) (post : Array Value) (E V K : Nat) : Prop where
  below : Below b w w'
  stay : ∀ k cs e, k ≠ b → e ≠ 5 → Blk w k cs e → Blk w' k cs e
  bd : V < 2 ^ K
  ex : ∃ v, BWL w' b post E V (K / 8) (K % 8) v

/-- While whole bytes are taken off. -/
structure NumLoop (w w' : World) (b : Nat) (post : Array Value) (E V m r : Nat) : Prop where
  below : Below b w w'
  stay : ∀ k cs e, k ≠ b → e ≠ 5 → Blk w k cs e → Blk w' k cs e
  ex : ∃ a k c, BWL w' b post E V m r (.slice a k c)

def rAt (w : World) (b : Nat) : Nat :=
  match w.cell? ⟨b, 2, none⟩ with
  | some (.int _ r) => r.toNat
  | _ => 0
theorem rAt_of {w : World} {b r : Nat} (h : w.cell? ⟨b, 2, none⟩ = some (.int .i64 (r : Int))) : rAt w b = r := by unfold rAt; rw [h]; rfl

set_option maxHeartbeats 4000000 in
set_option maxRecDepth 100000 in
theorem number_any (w : World) (b : Nat) (post : Array Value) (E V K : Nat) (v : Value) (h : BWL w b post E V (K / 8) (K % 8) v) (hE : E ≠ 5) (hV : V < 2 ^ K) (n wd : Nat) (hn : n < 2 ^ wd) (hw : wd ≤ 16) (hK : K ≤ 1000000) :
    Calls Try.prog 81 #[.pointer (some ⟨b, 0, none⟩), .int .i64 (n : Int), .int .i64 (wd : Int)] w fun e w' => e = .returned (.tuple #[]) ∧ NumOut w w' b post E (V + n * 2 ^ K) (K + wd) := by
  obtain ⟨m, hm⟩ : ∃ m, m = K / 8 := ⟨_, rfl⟩
  obtain ⟨k, hk⟩ : ∃ k, k = K % 8 := ⟨_, rfl⟩
  rw [← hm, ← hk] at h
  have hKe : K = 8 * m + k := by omega
  have hk8 : k < 8 := by omega
  have hVl := val_less hV hn
  have hn16 : n < 65536 := Nat.lt_of_lt_of_le hn (Nat.pow_le_pow_right (by decide) hw)
  have hr := rest_lt (V := V) (m := m) (k := k) (by rw [← hKe]; exact hV)
  have hor := or_add (V / 256 ^ m) n k hr (by omega) hn16
  have hdm := div_more V n m k
  rw [← hdm] at hor
  have hdk := digs_keep V n m k
  have hrow2 : w.ownsRow (b + 1) 5 1 v m (byteCells (digs (V + n * 2 ^ (8 * m + k)) m)) := by rw [hdk]; exact h.row
  have hdH : Hid (digs (V + n * 2 ^ (8 * m + k)) m = digs V m) := hdk
  rw [hKe] at hVl
  have hKm : m ≤ 125000 := by omega
  have hVlH : Hid (V + n * 2 ^ (8 * m + k) < 2 ^ (8 * m + k + wd)) := hVl
  have hp8 : n * 2 ^ k ≤ 65536 * 256 := Nat.mul_le_mul (by omega) (Nat.pow_le_pow_right (by omega) (by omega : k ≤ 8))
  have hwr : IntKind.wrap .i64 ((n : Int) * 2 ^ k) = ((n * 2 ^ k : Nat) : Int) := by
    have e : ((n : Int) * 2 ^ k) = ((n * 2 ^ k : Nat) : Int) := by simp [Int.natCast_mul, Int.natCast_pow]
    rw [e, IntKind.wrap_i64]; omega
  obtain ⟨va, vk, vc, rfl⟩ := own_shape h.row
  have hgoal : Hid (K = 8 * m + k) := hKe
  obtain ⟨V2, hV2⟩ : ∃ V2, V2 = V + n * 2 ^ (8 * m + k) := ⟨_, rfl⟩
  rw [← hV2] at hor hdH hVlH hrow2
  have c1 : w.cell? ⟨b, 1, none⟩ = some (.int .i64 ((V / 256 ^ m : Nat) : Int)) := by rw [h.blk.cell, preGet _ _ _ _ 1 (by omega)]; rfl
  have c2 : w.cell? ⟨b, 2, none⟩ = some (.int .i64 (k : Int)) := by rw [h.blk.cell, preGet _ _ _ _ 2 (by omega)]; rfl
  have f1 := h.blk.frozen 1
  have f2 := h.blk.frozen 2
  have hbl := h.blk.lt
  have hst : Hid (NumLoop w ((w.setCell ⟨b, 1, none⟩ (.int .i64 ((V2 / 256 ^ m : Nat) : Int))).setCell ⟨b, 2, none⟩ (.int .i64 ((k : Int) + (wd : Int)))).drew b post E V2 m (k + wd)) := by
    have hk0 : Kept [b] w ((w.setCell ⟨b, 1, none⟩ (.int .i64 ((V2 / 256 ^ m : Nat) : Int))).setCell ⟨b, 2, none⟩ (.int .i64 ((k : Int) + (wd : Int)))).drew := (((Kept.refl [b] w).setCell (Or.inl (by simp)) _).setCell (Or.inl (by simp)) _).drew
    refine ⟨hk0.below (Nat.le_of_lt hbl) (by simp), fun j cs e hj _ hb => hb.kept hk0 (by simp; omega), va, vk, vc, ?_, ?_⟩
    · have h1 := (h.blk.set 1 (.int .i64 ((V2 / 256 ^ m : Nat) : Int))).set 2 (.int .i64 ((k : Int) + (wd : Int)))
      rw [pre1, pre2] at h1
      exact h1.kept ((Kept.refl [] _).drew) (by simp)
    · exact row_stay (S := []) (row_set (row_set hrow2 (Nat.lt_succ_self b) _ _) (Nat.lt_succ_self b) _ _) ((Kept.refl [] _).drew) (fun _ _ => by simp)
  clear h hdm hdk hrow2 hr hVl hV hKe hK hm hk
  have hV2H : Hid (V2 = V + n * 2 ^ (8 * m + k)) := hV2
  clear hV2
  generalize V / 256 ^ m = R0 at *
  generalize V2 / 256 ^ m = R1 at hor hst
  generalize n * 2 ^ k = N2 at *
  obtain ⟨i0, hi0, hz0, hz1, hz2⟩ := info_parts infoU8
  go_enter Try.func81, Try.ntmps81
  go_wp2_with fail
  go_region
  go_wp2_with fail
  clear hor hwr c1 c2 f1 f2 hp8
  go_loopw [] (fun wr => ∃ j r : Nat, k + wd = r + 8 * j ∧ NumLoop w wr b post E V2 (m + j) r) (fun wr => rAt wr b)
  case atStart => exact ⟨0, k + wd, rfl, hst.out⟩
  case round =>
    obtain ⟨j, r, hjr, hI⟩ := hrel
    clear hst
    obtain ⟨hBl, hSt, va, vk, vc, hW⟩ := hI
    have hVr : V2 < 2 ^ (8 * (m + j) + r) := by have := hVlH.out; rwa [show 8 * m + k + wd = 8 * (m + j) + r by omega] at this
    have hR := rest_lt hVr
    have hR24 : V2 / 256 ^ (m + j) < 16777216 := Nat.lt_of_lt_of_le hR (Nat.le_trans (Nat.pow_le_pow_right (by decide) (by omega : r ≤ 24)) (by decide))
    have hdn := div_next V2 (m + j)
    have hds := digs_succ V2 (m + j)
    have hdg : Hid (dig V2 (m + j) = V2 / 256 ^ (m + j) % 256) := rfl
    have hBlH : Hid (Below _ _ _) := hBl
    have hStH : Hid (∀ k cs e, _) := hSt
    have hWH : Hid (BWL _ _ _ _ _ _ _ _) := hW
    have c0 : wr.cell? ⟨b, 0, none⟩ = some (.slice va vk vc) := by rw [hW.blk.cell, preGet _ _ _ _ 0 (by omega)]; rfl
    have c1 : wr.cell? ⟨b, 1, none⟩ = some (.int .i64 ((V2 / 256 ^ (m + j) : Nat) : Int)) := by rw [hW.blk.cell, preGet _ _ _ _ 1 (by omega)]; rfl
    have c2 : wr.cell? ⟨b, 2, none⟩ = some (.int .i64 (r : Int)) := by rw [hW.blk.cell, preGet _ _ _ _ 2 (by omega)]; rfl
    have hmeas : Hid (rAt wr b = r) := rAt_of c2
    have hbw : b < wr.heap.size := hW.blk.lt
    clear hBl hSt hVr hR
    by_cases h8 : (8 : Int) ≤ (r : Int)
    · have own : ∀ o, (wr.alloc o).ownsRow (b + 1) 5 1 (.slice va vk vc) (m + j) (byteCells (digs V2 (m + j))) := fun o => row_stay (S := []) hW.row ((Kept.refl [] wr).alloc o) (fun _ _ => by simp)
      have own2 : ∀ o, (wr.alloc o).drew.ownsRow (b + 1) 5 1 (.slice va vk vc) (m + j) (byteCells (digs V2 (m + j))) := fun o => row_stay (S := []) hW.row (((Kept.refl [] wr).alloc o).drew) (fun _ _ => by simp)
      have up : ∀ o, b + 1 ≤ (wr.alloc o).heap.size := fun o => by simp; omega
      have mb : m + j + 1 ≤ maxLen := by unfold maxLen; omega
      have mc : (m + j + 1) * 1 ≤ 140737488355328 := by omega
      have hw8 : IntKind.wrap .u8 ((V2 / 256 ^ (m + j) : Nat) : Int) = ((dig V2 (m + j) : Nat) : Int) := by rw [IntKind.wrap_u8, hdg.out]; omega
      have hnext : Hid (∀ (w4 : World) (g cap : Nat), w4.ownsRow (b + 1) 5 1 (.slice (some ⟨g, 0, none⟩) (m + j + 1) cap) (m + j + 1) (byteCells (digs V2 (m + j)) ++ [.int .u8 ((dig V2 (m + j) : Nat) : Int)]) → ∀ o, (wr.alloc o).drew.grownBy w4 (Value.slice va vk vc).ownBlock →
          Blk w4 b (#[.slice va vk vc, .int .i64 ((V2 / 256 ^ (m + j) : Nat) : Int), .int .i64 (r : Int)] ++ post) E ∧
          NumLoop w (((w4.setCell ⟨b, 0, none⟩ (.slice (some ⟨g, 0, none⟩) (m + j + 1) cap)).setCell ⟨b, 1, none⟩ (.int .i64 ((V2 / 256 ^ (m + j + 1) : Nat) : Int))).setCell ⟨b, 2, none⟩ (.int .i64 ((r : Int) - 8))) b post E V2 (m + (j + 1)) (r - 8)) := fun w4 g cap hown o hg => by
        have hk0 : Kept [] wr (wr.alloc o).drew := ((Kept.refl [] wr).alloc o).drew
        have hne : ∀ i, i ≤ b → some i ≠ (Value.slice va vk vc).ownBlock := fun i hi hc => by have := (hWH.out.row.lt i hc.symm).1; omega
        have hb4 := (hg.block b (by have := hk0.size; omega) (hne b (Nat.le_refl _))).trans (hWH.out.blk.kept hk0 (by simp))
        have hbel : Below b w w4 := (hBlH.out.trans (hk0.below (Nat.le_of_lt hbw) (by simp))).trans ⟨hg.os, hg.tape, hg.output, hg.size, fun i hi => hg.block i (by have := hk0.size; omega) (hne i (by omega))⟩
        have hst4 : ∀ i cs e, i ≠ b → e ≠ 5 → Blk w i cs e → Blk w4 i cs e := fun i cs e hi he hb => by
          have h1 := (hStH.out i cs e hi he hb).kept hk0 (by simp)
          exact (hg.block i h1.lt (fun hc => he (own_type (row_stay (S := []) hWH.out.row hk0 (fun _ _ => by simp)) h1 hc.symm))).trans h1
        have hk4 : Kept [b] w4 (((w4.setCell ⟨b, 0, none⟩ (.slice (some ⟨g, 0, none⟩) (m + j + 1) cap)).setCell ⟨b, 1, none⟩ (.int .i64 ((V2 / 256 ^ (m + j + 1) : Nat) : Int))).setCell ⟨b, 2, none⟩ (.int .i64 ((r : Int) - 8))) := (((Kept.refl [b] w4).setCell (Or.inl (by simp)) _).setCell (Or.inl (by simp)) _).setCell (Or.inl (by simp)) _
        have hblk : Blk (((w4.setCell ⟨b, 0, none⟩ (.slice (some ⟨g, 0, none⟩) (m + j + 1) cap)).setCell ⟨b, 1, none⟩ (.int .i64 ((V2 / 256 ^ (m + j + 1) : Nat) : Int))).setCell ⟨b, 2, none⟩ (.int .i64 ((r : Int) - 8))) b (#[.slice (some ⟨g, 0, none⟩) (m + j + 1) cap, .int .i64 ((V2 / 256 ^ (m + j + 1) : Nat) : Int), .int .i64 ((r : Int) - 8)] ++ post) E := by
          have h1 := ((Blk.set hb4 0 (.slice (some ⟨g, 0, none⟩) (m + j + 1) cap)).set 1 (.int .i64 ((V2 / 256 ^ (m + j + 1) : Nat) : Int))).set 2 (.int .i64 ((r : Int) - 8))
          rw [pre0, pre1, pre2] at h1
          exact h1
        refine ⟨hb4, ⟨hbel.trans (hk4.below (by have := Blk.lt hb4; omega) (by simp)), fun i cs e hi he hb => (hst4 i cs e hi he hb).kept hk4 (by simp; omega), some ⟨g, 0, none⟩, m + j + 1, cap, ⟨?_, ?_⟩⟩⟩
        · rw [show ((r - 8 : Nat) : Int) = (r : Int) - 8 by omega]
          exact hblk
        · rw [show m + (j + 1) = m + j + 1 by omega, digs_succ, byteCells_app]
          exact row_set (row_set (row_set hown (Nat.lt_succ_self b) _ _) (Nat.lt_succ_self b) _ _) (Nat.lt_succ_self b) _ _
      have hml : Hid (∀ W : World, W.cell? ⟨b, 2, none⟩ = some (.int .i64 ((r - 8 : Nat) : Int)) → rAt W b < rAt wr b) := fun W hW => by rw [rAt_of hW, hmeas.out]; omega
      clear hW hds hmeas
      rw [← hdn] at hnext
      generalize dig V2 (m + j) = Dg at *
      generalize V2 / 256 ^ (m + j) = R at *
      have eR : ((R / 256 : Nat) : Int) = (R : Int) / 256 := by omega
      rw [eR] at hnext
      clear eR
      go_wp2_with fail
      go_region_law (refine step_append_owned rfl (.tmp 37) (.tmp 43) 98 rfl 5 i0 _ 1 1 Try.underlying98 hi0 hz0 hz1 hz2 rfl (by decide) (b + 1) (.slice va vk vc) (m + j) (byteCells (digs V2 (m + j))) (by simp [Act.eval, Act.put]) (by first | exact own2 _ | exact own _) ⟨wr.heap.size, 0, none⟩ 1 1 [.int .u8 (Dg : Int)] (by simp [Act.eval, Act.put]) rfl (by first | exact cells_new _ _ _ _ (by simp) | exact fun j u hj => cells_new _ _ _ _ (by simp) j u hj) (by simp [Value.oneCell']) mb mc (by exact up _) ?_; intro v' w4 hown hgrow; obtain ⟨g, cap, rfl⟩ := own_form hown (by omega); obtain ⟨hb4, hNL⟩ := hnext.out w4 g cap hown _ hgrow; have e0 : w4.cell? ⟨b, 0, none⟩ = some (.slice va vk vc) := (Blk.cell hb4 0).trans (preGet _ _ _ _ 0 (by omega)); have e1 : w4.cell? ⟨b, 1, none⟩ = some (.int .i64 (R : Int)) := (Blk.cell hb4 1).trans (preGet _ _ _ _ 1 (by omega)); have e2 : w4.cell? ⟨b, 2, none⟩ = some (.int .i64 (r : Int)) := (Blk.cell hb4 2).trans (preGet _ _ _ _ 2 (by omega)); have g0 := Blk.frozen hb4 0; have g1 := Blk.frozen hb4 1; have g2 := Blk.frozen hb4 2; have hb4l := Blk.lt hb4; have hNL : Hid (NumLoop _ _ _ _ _ _ _ _) := hNL; clear hb4 hown hgrow)
      all_goals
        go_wp2_with fail
        refine ⟨⟨j + 1, r - 8, by omega, hNL.out⟩, hml.out _ ?_⟩
        obtain ⟨_, _, _, _, _, hW2⟩ := hNL.out
        exact (Blk.cell hW2.blk 2).trans (preGet _ _ _ _ 2 (by omega))
    · have hKK := hgoal.out
      have e1 : m + j = (K + wd) / 8 := by omega
      have e2 : r = (K + wd) % 8 := by omega
      have hVV : V + n * 2 ^ K = V2 := by rw [hKK]; exact hV2H.out.symm
      have hfin : Hid (NumOut w wr b post E (V + n * 2 ^ K) (K + wd)) := by
        rw [hVV]
        refine ⟨hBlH.out, hStH.out, ?_, .slice va vk vc, ?_⟩
        · have := hVlH.out; rwa [← hKK] at this
        · rw [← e1, ← e2]; exact hWH.out
      clear hW hKK e1 e2 hVV hdn hds hmeas
      go_wp2
      go_end0
      exact ⟨rfl, hfin.out⟩

set_option maxHeartbeats 2000000 in
set_option maxRecDepth 100000 in
theorem bend_any (w : World) (b : Nat) (post : Array Value) (E V K : Nat) (v : Value) (h : BWL w b post E V (K / 8) (K % 8) v) (hE : E ≠ 5) (hV : V < 2 ^ K) (hK : K ≤ 900000) :
    Calls Try.prog 84 #[.pointer (some ⟨b, 0, none⟩)] w fun e w' => e = .returned (.string (bytesB (digs V ((K + 7) / 8)))) ∧ Below b w w' := by
  obtain ⟨va, vk, vc, rfl⟩ := own_shape h.row
  have c0 : w.cell? ⟨b, 0, none⟩ = some (.slice va vk vc) := by rw [h.blk.cell, preGet _ _ _ _ 0 (by omega)]; rfl
  have c2 : w.cell? ⟨b, 2, none⟩ = some (.int .i64 ((K % 8 : Nat) : Int)) := by rw [h.blk.cell, preGet _ _ _ _ 2 (by omega)]; rfl
  have hbl := h.blk.lt
  have hb0 : Hid (Below b w w) := Below.refl _ _
  obtain ⟨k, hk⟩ : ∃ k, k = K % 8 := ⟨_, rfl⟩
  rw [← hk] at c2
  obtain ⟨R, hR⟩ : ∃ R, Hid (bytesB (digs V ((K + 7) / 8)) = R) := ⟨_, rfl⟩
  by_cases h0 : (0 : Int) < (k : Int)
  · have hc : Hid (Calls Try.prog 81 #[.pointer (some ⟨b, 0, none⟩), .int .i64 0, .int .i64 (8 - (k : Int))] w fun e w' => e = .returned (.tuple #[]) ∧ NumOut w w' b post E (V + 0 * 2 ^ K) (K + (8 - k))) := by
      have := number_any w b post E V K _ h hE hV 0 (8 - k) (Nat.pow_pos (by decide)) (by omega) (by omega)
      rwa [show ((8 - k : Nat) : Int) = 8 - (k : Int) by omega] at this
    have e1 : (K + (8 - k)) / 8 = (K + 7) / 8 := by omega
    have e2 : V + 0 * 2 ^ K = V := by simp
    rw [e2] at hc
    have e1H : Hid (_ = _) := e1
    have hk8 : k < 8 := by omega
    clear h hV e2 e1 hk hK
    go_enter Try.func84, Try.ntmps84
    go_wp2_with fail
    refine hc.out.mono ?_
    rintro e w1 ⟨rfl, o⟩
    obtain ⟨v1, hW⟩ := o.ex
    have hrow := hW.row
    rw [e1H.out] at hrow
    obtain ⟨xa, xk, xc, rfl⟩ := own_shape hrow
    have hl := digs_len V ((K + 7) / 8)
    have hconv := conv_out (out := digs V ((K + 7) / 8)) (by rw [hl]; exact hrow) (digs_lt _ _)
    rw [hR.out] at hconv
    have d0 : w1.cell? ⟨b, 0, none⟩ = some (.slice xa xk xc) := (Blk.cell hW.blk 0).trans (preGet _ _ _ _ 0 (by omega))
    have hB : Hid (Below b w w1) := o.below
    clear o hW hrow hl hc c0 c2
    go_wp2
    go_ret
    exact ⟨by rw [hR.out]; rfl, hB.out⟩
  · have e1 : K / 8 = (K + 7) / 8 := by omega
    have hrow := h.row
    rw [e1] at hrow
    have hl := digs_len V ((K + 7) / 8)
    have hconv := conv_out (out := digs V ((K + 7) / 8)) (by rw [hl]; exact hrow) (digs_lt _ _)
    rw [hR.out] at hconv
    clear h hV e1 hk hrow hl
    go_enter Try.func84, Try.ntmps84
    go_wp2
    go_ret
    exact ⟨by rw [hR.out]; rfl, hb0.out⟩

end Go.Proofs.Ytgifhgnccmnbiaa
