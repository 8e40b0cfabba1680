/- Files of codes: both sides read the same, code by code. No Go in it. -/
import Derived.Test.YtgifhgnccmnbiaaG08
set_option linter.unusedVariables false
set_option linter.unusedSimpArgs false
namespace Go.Proofs.Ytgifhgnccmnbiaa
open Go.RowKit Go.IntWalk

theorem bytesN_app (a b : ByteArray) : bytesN (a ++ b) = bytesN a ++ bytesN b := by
  unfold bytesN; rw [ByteArray.data_append, Array.toList_append, List.map_append]
theorem bytesN_empty : bytesN ByteArray.empty = [] := rfl
theorem bytesN_one {c : Nat} (h : c < 256) : bytesN ⟨#[c.toUInt8]⟩ = [c] := by
  show [c.toUInt8.toNat] = [c]
  rw [Nat.toUInt8_eq, UInt8.toNat_ofNat', Nat.mod_eq_of_lt (by omega)]
theorem bytesN_nil {s : ByteArray} : bytesN s = [] ↔ s.size = 0 := by
  rw [← bytesN_len]; exact List.length_eq_zero_iff.symm
theorem bytesN_first {s : ByteArray} (h : s.size ≠ 0) : bytesN (s.extract 0 1) = [(bytesN s).headD 0] := by
  unfold bytesN
  rw [ByteArray.data_extract]
  obtain ⟨⟨l⟩⟩ := s
  cases l with
  | nil => exact absurd rfl h
  | cons x l => simp
theorem ptOf_first {t : List Nat} (h : t ≠ []) : (ptOf t).first = t.headD 0 := by unfold ptOf; rw [if_neg h]
theorem numB_end {B : ByteArray} {p : Nat} : ∀ i, p + i ≤ 8 * B.size → (numB B p i).2 = p + i := by
  intro i
  induction i with
  | zero => intro _; rfl
  | succ i ih =>
    intro hi
    show (nextB B (numB B p i).2).2 = _
    rw [ih (by omega)]
    unfold nextB; rw [if_pos (by omega)]; rfl

/-- The code's state and the document's tell the same. -/
structure ZZ (B : ByteArray) (m : Nat) (s : CD × TT) (r : ZB) (T : List (List Nat)) : Prop where
  bytes : s.1.B = B
  most : s.1.most = m
  p : s.1.p = r.p
  bad : s.1.bad = false
  sound : Sound s.2.rules T
  len : s.1.gone + r.tab.length = T.length
  ent : ∀ i, i < r.tab.length → bytesN (r.tab.getD i ByteArray.empty) = T.getD (s.1.gone + i) []
  last : (s.1.ahead = none ∧ r.last.size = 0 ∧ r.tab = []) ∨ ∃ a, s.1.ahead = some a ∧ a < 256 + T.length ∧ bytesN r.last = symT T a ∧ r.last.size ≠ 0
  start : ∀ x, x ∈ s.2.start → x < 256 + T.length
  out : bytesN r.out = s.2.start.flatMap (symT T)
  whole : s.2.whole = ptOf (bytesN r.out)
  syms : s.2.syms = r.n
  kind : s.2.kind = 90
theorem ZZ.free {B : ByteArray} {m : Nat} {s : CD × TT} {r : ZB} {T : List (List Nat)} (h : ZZ B m s r T) : freeN s.2 s.1 = frB r := by
  have := h.len
  have := h.sound.len
  unfold freeN frB; omega
theorem ZZ.wide {B : ByteArray} {m : Nat} {s : CD × TT} {r : ZB} {T : List (List Nat)} (h : ZZ B m s r T) : zwide s = zwB m r := by unfold zwide zwB; rw [h.free, h.most]
theorem ZZ.go {B : ByteArray} {m : Nat} {s : CD × TT} {r : ZB} {T : List (List Nat)} (h : ZZ B m s r T) : zgo s = zgoB B m r := by
  unfold zgo zgoB; rw [h.bad, h.wide, h.p, h.bytes]; rfl
theorem ZZ.ok {B : ByteArray} {m : Nat} {s : CD × TT} {r : ZB} {T : List (List Nat)} (h : ZZ B m s r T) : zOk s = endB B r.p := by
  unfold zOk; rw [h.bad, h.p, h.bytes]; rfl
/-- The text of a number that has one. -/
theorem ZZ.entry {B : ByteArray} {m : Nat} {s : CD × TT} {r : ZB} {T : List (List Nat)} (h : ZZ B m s r T) {c : Nat} (hc : c < 256 ∨ (257 ≤ c ∧ c < frB r)) : bytesN (entB r.tab c) = symT T (symC s.1.gone c) ∧ symC s.1.gone c < 256 + T.length := by
  have hl := h.len
  unfold entB symC symT
  rcases hc with hc | ⟨hc, hf⟩
  · rw [if_pos hc, if_pos hc, if_pos hc]
    exact ⟨bytesN_one hc, by omega⟩
  · unfold frB at hf
    have n1 : ¬ c < 256 := by omega
    have n2 : ¬ s.1.gone + c - 1 < 256 := by omega
    simp only [if_neg n1, if_neg n2]
    rw [h.ent _ (by omega), show s.1.gone + (c - 257) = s.1.gone + c - 1 - 256 by omega]
    exact ⟨rfl, by omega⟩
theorem flatMap_sym {T U : List (List Nat)} {l : List Nat} (h : ∀ x, x ∈ l → x < 256 + T.length) : l.flatMap (symT (T ++ U)) = l.flatMap (symT T) := by
  induction l with
  | nil => rfl
  | cons x l ih =>
    rw [List.flatMap_cons, List.flatMap_cons, symT_app (h x (by simp)), ih (fun y hy => h y (by simp [hy]))]
/-- A code that is taken: no entry joins. -/
theorem ZZ.plain {B : ByteArray} {m : Nat} {s : CD × TT} {r : ZB} {T : List (List Nat)} (h : ZZ B m s r T) {q sy : Nat} {now : ByteArray} (hsy : sy < 256 + T.length) (hn : bytesN now = symT T sy) (hne : now.size ≠ 0) :
    ZZ B m ({ s.1 with p := q, ahead := some sy }, addStart (upSyms s.2) sy) { p := q, n := r.n + 1, out := r.out ++ now, tab := r.tab, last := now } T := by
  have ho : bytesN (r.out ++ now) = (s.2.start ++ [sy]).flatMap (symT T) := by
    rw [bytesN_app, h.out, hn, List.flatMap_append]; simp
  refine ⟨h.bytes, h.most, rfl, h.bad, h.sound, h.len, h.ent, Or.inr ⟨sy, rfl, hsy, hn, hne⟩, ?_, ho, ?_, ?_, h.kind⟩
  · intro x hx
    rcases List.mem_append.1 hx with hx | hx
    · exact h.start x hx
    · simp at hx; omega
  · show joinP s.2.whole (partAt s.2.rules sy) = ptOf (bytesN (r.out ++ now))
    rw [h.whole, h.sound.part (by rw [h.sound.len]; exact hsy), join_ptOf, bytesN_app, hn]
  · show s.2.syms + 1 = r.n + 1
    rw [h.syms]
/-- An entry joins. -/
theorem ZZ.join {B : ByteArray} {m : Nat} {s : CD × TT} {r : ZB} {T : List (List Nat)} (h : ZZ B m s r T) {a fb : Nat} {e : ByteArray} (ha : a < 256 + T.length) (hfb : fb < 256) (he : bytesN e = symT T a ++ [fb]) (hl : (s.1.ahead = some a ∧ bytesN r.last = symT T a ∧ r.last.size ≠ 0)) :
    ZZ B m (s.1, addRuleT s.2 a fb) { r with tab := r.tab ++ [e] } (T ++ [symT T a ++ symT T fb]) := by
  have hs := h.sound.push (l := a) (r := fb) (by rw [h.sound.len]; exact ha) (by omega)
  have hT : (T ++ [symT T a ++ symT T fb]).length = T.length + 1 := by simp
  have hlen := h.len
  refine ⟨h.bytes, h.most, h.p, h.bad, hs, ?_, ?_, Or.inr ⟨a, hl.1, by omega, by rw [symT_app ha]; exact hl.2.1, hl.2.2⟩, ?_, ?_, h.whole, h.syms, h.kind⟩
  · show s.1.gone + (r.tab ++ [e]).length = _
    rw [hT, List.length_append, List.length_singleton]; omega
  · intro i hi
    replace hi : i < (r.tab ++ [e]).length := hi
    show bytesN ((r.tab ++ [e]).getD i ByteArray.empty) = _
    rw [List.length_append, List.length_singleton] at hi
    by_cases h2 : i < r.tab.length
    · have := h.ent i h2
      simp only [List.getD] at this ⊢
      rw [List.getElem?_append_left h2, List.getElem?_append_left (by omega)]
      exact this
    · have h3 : i = r.tab.length := by omega
      subst h3
      simp only [List.getD]
      rw [List.getElem?_append_right (Nat.le_refl _), hlen, List.getElem?_append_right (Nat.le_refl _)]
      simp only [Nat.sub_self, List.getElem?_cons_zero, Option.getD_some]
      rw [he]
      have : symT T fb = [fb] := if_pos hfb
      rw [this]
  · intro x hx
    have := h.start x hx
    omega
  · rw [h.out]
    exact (flatMap_sym h.start).symm

/-- One code more. -/
theorem ZZ.step {B : ByteArray} {m : Nat} {s : CD × TT} {r : ZB} {T : List (List Nat)} (h : ZZ B m s r T) (hg : zgoB B m r = true) :
    (zsB B m r = none → (zstep s).1.bad = true) ∧ ∀ r', zsB B m r = some r' → ∃ T', ZZ B m (zstep s) r' T' := by
  have hg' : r.p + zwB m r ≤ 8 * B.size := by unfold zgoB at hg; simpa using hg
  have hz : zstep s = takeC { s.1 with p := r.p + zwB m r } s.2 (numB B r.p (zwB m r)).1 := by
    unfold zstep; rw [h.bytes, h.p, h.wide, numB_end _ hg']
  rw [hz]
  unfold zsB
  generalize (numB B r.p (zwB m r)).1 = c
  have eF : freeN s.2 { s.1 with p := r.p + zwB m r } = frB r := h.free
  have h' : ZZ B m ({ s.1 with p := r.p + zwB m r }, s.2) { r with p := r.p + zwB m r } T := ⟨h.bytes, h.most, rfl, h.bad, h.sound, h.len, h.ent, h.last, h.start, h.out, h.whole, h.syms, h.kind⟩
  have hF : 257 ≤ frB r := by unfold frB; omega
  unfold takeC tkB
  rw [eF]
  by_cases hc : c = 256
  · subst hc
    rw [if_pos rfl, if_pos rfl]
    refine ⟨fun hx => by (cases hx), fun r' hr => ⟨T, ?_⟩⟩
    simp only [Option.some.injEq] at hr
    subst hr
    exact ⟨h.bytes, h.most, rfl, h.bad, h.sound, h.sound.len, (fun i hi => absurd hi (Nat.not_lt_zero _)), Or.inl ⟨rfl, rfl, rfl⟩, h.start, h.out, h.whole, by show s.2.syms + 1 = r.n + 1; rw [h.syms], h.kind⟩
  rw [if_neg hc, if_neg hc]
  rcases h.last with ⟨la, lb, lc⟩ | ⟨a, la, lb, lt, lne⟩
  · have hF7 : frB r = 257 := by unfold frB; rw [lc]; rfl
    have hj : joinsC { s.1 with p := r.p + zwB m r } (frB r) = none := by unfold joinsC; simp only []; rw [la]
    by_cases hb : 256 < c
    · rw [if_pos ⟨lb, hb⟩, if_pos (show badC _ c (frB r) by
        by_cases h7 : c = 257
        · exact Or.inr ⟨by omega, hj⟩
        · exact Or.inl (by omega))]
      exact ⟨fun _ => rfl, fun r' hr => by (cases hr)⟩
    · rw [if_neg (fun hx => hb hx.2), if_neg (by omega), if_neg (show ¬ badC _ c (frB r) from fun hx => by rcases hx with hx | hx <;> omega), hj]
      refine ⟨fun hx => by (cases hx), fun r' hr => ⟨T, ?_⟩⟩
      simp only [Option.some.injEq] at hr
      subst hr
      have hnow : nowB r c = entB r.tab c := by unfold nowB; rw [if_neg (by omega)]
      obtain ⟨e1, e2⟩ := h.entry (c := c) (Or.inl (by omega))
      have hne : (entB r.tab c).size ≠ 0 := fun hx => by
        have := bytesN_nil.2 hx
        rw [e1] at this
        exact h.sound.ne (by rw [h.sound.len]; exact e2) this
      rw [hnow, if_neg (fun hx => hx.1 lb)]
      exact h'.plain e2 e1 hne
  · rw [if_neg (fun hx => lne hx.1)]
    have hj : joinsC { s.1 with p := r.p + zwB m r } (frB r) = if frB r < 2 ^ m then some a else none := by unfold joinsC; simp only []; rw [la, h.most]
    by_cases hb : frB r < c ∨ (c = frB r ∧ ¬ frB r < 2 ^ m)
    · rw [if_pos hb, if_pos (show badC _ c (frB r) by
        rcases hb with hb | hb
        · exact Or.inl hb
        · exact Or.inr ⟨hb.1, by rw [hj, if_neg hb.2]⟩)]
      exact ⟨fun _ => rfl, fun r' hr => by (cases hr)⟩
    · rw [if_neg hb, if_neg (show ¬ badC _ c (frB r) from fun hx => by
        rcases hx with hx | ⟨hx, hy⟩
        · exact hb (Or.inl hx)
        · by_cases hr : frB r < 2 ^ m
          · rw [hj, if_pos hr] at hy; cases hy
          · exact hb (Or.inr ⟨hx, hr⟩))]
      refine ⟨fun hx => by (cases hx), fun r' hr => ?_⟩
      simp only [Option.some.injEq] at hr
      subst hr
      have hle : c ≤ frB r := by omega
      by_cases hroom : frB r < 2 ^ m
      · rw [hj, if_pos hroom, if_pos ⟨lne, hroom⟩]
        -- the first byte of what is read now
        have hap : partAt s.2.rules a = ptOf (symT T a) := h.sound.part (by rw [h.sound.len]; exact lb)
        have hane : symT T a ≠ [] := h.sound.ne (by rw [h.sound.len]; exact lb)
        have hfirst : bytesN ((nowB r c).extract 0 1) = [firstC s.2 s.1.gone a c (frB r)] := by
          unfold firstC nowB
          by_cases hcF : c = frB r
          · rw [if_pos hcF, if_pos hcF, hap, ptOf_first hane]
            have hsz : (r.last ++ r.last.extract 0 1).size ≠ 0 := by rw [ba_size_app]; omega
            rw [bytesN_first hsz, bytesN_app, lt]
            cases hx : symT T a with
            | nil => exact absurd hx hane
            | cons y l => rfl
          · rw [if_neg hcF, if_neg hcF]
            obtain ⟨e1, e2⟩ := h.entry (c := c) (by omega)
            have hne2 : symT T (symC s.1.gone c) ≠ [] := h.sound.ne (by rw [h.sound.len]; exact e2)
            have hne : (entB r.tab c).size ≠ 0 := fun hx => by rw [← bytesN_nil, e1] at hx; exact hne2 hx
            rw [bytesN_first hne, e1, h.sound.part (by rw [h.sound.len]; exact e2), ptOf_first hne2]
        have hfb : firstC s.2 s.1.gone a c (frB r) < 256 := by
          have := bytesN_lt ((nowB r c).extract 0 1) (firstC s.2 s.1.gone a c (frB r)) (by rw [hfirst]; simp)
          exact this
        obtain ⟨fb, hfbg⟩ : ∃ fb, fb = firstC s.2 s.1.gone a c (frB r) := ⟨_, rfl⟩
        rw [← hfbg] at hfirst hfb
        have hent : bytesN (r.last ++ (nowB r c).extract 0 1) = symT T a ++ [fb] := by rw [bytesN_app, lt, hfirst]
        have hJ := h'.join (a := a) (fb := fb) lb hfb hent ⟨la, lt, lne⟩
        have hfbT : symT T fb = [fb] := if_pos hfb
        have hnow : bytesN (nowB r c) = symT (T ++ [symT T a ++ symT T fb]) (symC s.1.gone c) ∧ symC s.1.gone c < 256 + (T ++ [symT T a ++ symT T fb]).length := by
          by_cases hcF : c = frB r
          · have hsy : symC s.1.gone c = 256 + T.length := by
              have := h.len
              unfold symC frB at *
              rw [if_neg (by omega)]; omega
            rw [hsy, symT_new]
            refine ⟨?_, by simp⟩
            have hn : nowB r c = r.last ++ r.last.extract 0 1 := by unfold nowB; rw [if_pos hcF]
            have h3 := hfirst
            rw [hn] at h3 ⊢
            have hsz : (r.last ++ r.last.extract 0 1).size ≠ 0 := by rw [ba_size_app]; omega
            rw [bytesN_first hsz, bytesN_app, lt, bytesN_first lne, lt] at h3
            rw [bytesN_app, lt, bytesN_first lne, lt, hfbT]
            cases hx : symT T a with
            | nil => exact absurd hx hane
            | cons y l => rw [hx] at h3; simpa using h3
          · obtain ⟨e1, e2⟩ := h.entry (c := c) (by omega)
            have hn : nowB r c = entB r.tab c := by unfold nowB; rw [if_neg hcF]
            rw [hn, e1, symT_app e2]
            exact ⟨rfl, by rw [List.length_append]; omega⟩
        have hnne : (nowB r c).size ≠ 0 := fun hx => by
          have h5 := bytesN_nil.2 hx
          rw [hnow.1] at h5
          exact hJ.sound.ne (by rw [hJ.sound.len]; exact hnow.2) h5
        refine ⟨T ++ [symT T a ++ symT T fb], ?_⟩
        have hfin := hJ.plain (q := r.p + zwB m r) hnow.2 hnow.1 hnne
        rw [hfbg] at hfin ⊢
        exact hfin
      · rw [hj, if_neg hroom, if_neg (fun hx => hroom hx.2)]
        have hcF : c ≠ frB r := fun hx => hb (Or.inr ⟨hx, hroom⟩)
        have hnow : nowB r c = entB r.tab c := by unfold nowB; rw [if_neg hcF]
        obtain ⟨e1, e2⟩ := h.entry (c := c) (by omega)
        have hne : (entB r.tab c).size ≠ 0 := fun hx => by
          have := bytesN_nil.2 hx
          rw [e1] at this
          exact h.sound.ne (by rw [h.sound.len]; exact e2) this
        rw [hnow]
        exact ⟨T, h'.plain e2 e1 hne⟩

end Go.Proofs.Ytgifhgnccmnbiaa

set_option linter.unusedVariables false
set_option linter.unusedSimpArgs false
namespace Go.Proofs.Ytgifhgnccmnbiaa
open Go.RowKit Go.IntWalk

theorem ShapeOut.form {f : ByteArray} {w w' : World} {e : Ending} (h : ShapeOut f w w' e) : ∃ (k c : Int) (n l m : Nat), e = .returned (.tuple #[.agg #[.int .i64 k, .int .i64 (n : Int), .int .i64 (l : Int), .int .i64 (m : Int)], .int .i64 c]) := by
  rcases h.out with ⟨_, he⟩ | ⟨t, _, ⟨_, he⟩ | ⟨_, he⟩⟩
  · exact ⟨0, 4, 0, 0, 0, he⟩
  · exact ⟨0, 5, 0, 0, 0, he⟩
  · exact ⟨_, 0, _, _, _, he⟩

/-- What is still to be shown of the two answers. -/
def ShapeSame : Prop := ∀ (f : ByteArray) (w0 w1 w2 w3 : World) (e e' : Ending), ShapeOut f w0 w1 e → ShapeR f w2 w3 e' → e = e'

set_option maxHeartbeats 4000000 in
set_option maxRecDepth 100000 in
theorem shapes_law (hsame : ShapeSame) (f : ByteArray) (hf : f.size ≤ maxLen) (w : World) :
    Calls Try.prog 9 #[.string f] w fun e w' => e = .returned (.bool true) ∧ Below w.heap.size w w' := by
  have h1 : Hid (Calls _ _ _ w _) := shape_any f hf w
  have h2 : Hid (∀ w, Calls _ _ _ w _) := fun w => shapeR_any f hf w
  have hsH : Hid ShapeSame := hsame
  clear hsame
  go_enter Try.func9, Try.ntmps9
  go_wp2_with fail
  refine h1.out.mono ?_
  rintro e w1 ho
  obtain ⟨k, c, n, l, m, rfl⟩ := ho.form
  have hoH : Hid (ShapeOut _ _ _ _) := ho
  have hB1 : Hid (∀ o, Below w.heap.size w (w1.alloc o)) := fun o => ho.below.alloc ho.below.size o
  have hsz1 : Hid (w.heap.size ≤ w1.heap.size) := ho.below.size
  clear ho h1
  go_wp2_with fail
  refine (h2.out _).mono ?_
  rintro e w2 hr
  have he := hsH.out f _ _ _ _ _ _ hoH.out hr
  subst he
  have k2 := hr.kept
  have hA : Blk w2 w1.heap.size #[.int .i64 k, .int .i64 (n : Int), .int .i64 (l : Int), .int .i64 (m : Int)] 41 := (Blk.new w1 _ _).kept k2 (by simp)
  have d0 : w2.cell? ⟨w1.heap.size, 0, none⟩ = some (.int .i64 k) := hA.cell 0
  have d1 : w2.cell? ⟨w1.heap.size, 1, none⟩ = some (.int .i64 (n : Int)) := hA.cell 1
  have d2 : w2.cell? ⟨w1.heap.size, 2, none⟩ = some (.int .i64 (l : Int)) := hA.cell 2
  have d3 : w2.cell? ⟨w1.heap.size, 3, none⟩ = some (.int .i64 (m : Int)) := hA.cell 3
  have hA1 : w1.heap.size < w2.heap.size := hA.lt
  have hB2 : Hid (∀ o, Below w.heap.size w (w2.alloc o)) := fun o => ((hB1.out _).trans (k2.below (by have := hsz1.out; simp; omega) (by simp))).alloc (by have := hsz1.out; omega) o
  clear hA k2 hr hoH hsH h2 hB1
  go_wp2
  go_ret
  exact ⟨rfl, hB2.out _⟩

end Go.Proofs.Ytgifhgnccmnbiaa

set_option linter.unusedVariables false
set_option linter.unusedSimpArgs false
namespace Go.Proofs.Ytgifhgnccmnbiaa
open Go.RowKit Go.IntWalk

theorem zz0 (f : ByteArray) : ZZ (f.extract 3 f.size) (bt f 2) (z0 f) {} [] :=
  ⟨rfl, rfl, rfl, rfl, Sound.nil, rfl, (fun i hi => absurd hi (Nat.not_lt_zero _)), Or.inl ⟨rfl, rfl, rfl⟩, (fun x hx => nomatch hx), rfl, rfl, rfl, rfl⟩
def OnB (f : ByteArray) (n : Nat) : Prop := ∀ i, i < n → ∃ q, zitB (f.extract 3 f.size) (bt f 2) i = some q ∧ zgoB (f.extract 3 f.size) (bt f 2) q = true
theorem zz_run {f : ByteArray} : ∀ n r, zitB (f.extract 3 f.size) (bt f 2) n = some r → OnB f n → ∃ T, ZZ (f.extract 3 f.size) (bt f 2) (zit (z0 f) n) r T
  | 0, r, h, _ => by
    simp only [zitB, Option.some.injEq] at h
    subst h
    exact ⟨[], zz0 f⟩
  | n + 1, r, h, hon => by
    obtain ⟨q, hq, hg⟩ := hon n (by omega)
    obtain ⟨T, hT⟩ := zz_run n q hq (fun i hi => hon i (by omega))
    have h2 : (zitB (f.extract 3 f.size) (bt f 2) n).bind (zsB (f.extract 3 f.size) (bt f 2)) = some r := h
    rw [hq] at h2
    exact (hT.step hg).2 r h2
theorem zz_on {f : ByteArray} {n : Nat} (hon : OnB f n) : ∀ i, i < n → zgo (zit (z0 f) i) = true := fun i hi => by
  obtain ⟨q, hq, hg⟩ := hon i hi
  obtain ⟨T, hT⟩ := zz_run i q hq (fun j hj => hon j (by omega))
  rw [hT.go]; exact hg
theorem ZGood.file' {f : ByteArray} {n : Nat} {r : ZB} (h : ZGood f n r) : SFile f (zit (z0 f) n).2 ∧ (zit (z0 f) n).2.kind = 90 ∧ (zit (z0 f) n).2.syms = n ∧ (zit (z0 f) n).2.whole = ptOf (bytesN r.out) := by
  obtain ⟨T, hT⟩ := zz_run n r h.it h.on
  obtain ⟨z1, z2, z3, z4, z5⟩ := h.file
  refine ⟨SFile.codes (by omega) z2 z3 ?_ ⟨zz_on h.on, by rw [hT.go]; exact h.stop⟩ (by rw [hT.ok]; exact h.fin), hT.kind, by rw [hT.syms, h.num], hT.whole⟩
  unfold zMost
  rw [decide_eq_true z1, decide_eq_true z4, decide_eq_true z5]; rfl
theorem ZNo.none {f : ByteArray} (h : ZNo f) (h4 : f.size ≤ 4000) (hz : isSZ f) (hm : zMost f = true) {n : Nat} (hr : ZRun f n) (hk : zOk (zit (z0 f) n) = true) : False := by
  rcases h with h | ⟨h, n0, r, hit, hon, ⟨a, b⟩ | ⟨a, b⟩⟩
  · unfold zMost at hm
    simp only [Bool.and_eq_true, decide_eq_true_eq] at hm
    exact h ⟨hm.1.1, h4, hz, hm.1.2, hm.2⟩
  · obtain ⟨T, hT⟩ := zz_run n0 r hit hon
    have hb := (hT.step a).1 b
    have hrun : ZRun f (n0 + 1) := by
      refine ⟨fun i hi => ?_, ?_⟩
      · by_cases hin : i = n0
        · subst hin; rw [hT.go]; exact a
        · exact zz_on hon i (by omega)
      · show zgo (zstep (zit (z0 f) n0)) = false
        unfold zgo; rw [hb]; rfl
    have := hr.one hrun
    subst this
    have hk2 : zOk (zstep (zit (z0 f) n0)) = true := hk
    unfold zOk at hk2
    rw [hb] at hk2
    cases hk2
  · obtain ⟨T, hT⟩ := zz_run n0 r hit hon
    have hrun : ZRun f n0 := ⟨zz_on hon, by rw [hT.go]; exact a⟩
    have := hr.one hrun
    subst this
    rw [hT.ok, b] at hk
    cases hk
theorem flat_self : ∀ l : List Nat, (∀ x, x ∈ l → x < 256) → l.flatMap (symT []) = l
  | [], _ => rfl
  | x :: l, h => by
    have e : symT [] x = [x] := if_pos (h x (by simp))
    rw [List.flatMap_cons, e, flat_self l (fun y hy => h y (by simp [hy]))]; rfl
theorem whole_bytes (s : ByteArray) : wholeR [] (bytesN s) = piOf (bytesN s) := by
  have h := whole_tx (T := []) (bytesN s) (fun x hx => by have := bytesN_lt s x hx; simp; omega) []
  rw [flat_self _ (bytesN_lt s)] at h
  exact h

theorem shape_same : ShapeSame := by
  intro f w0 w1 w2 w3 e e' hS hR
  have four : ∀ t, SFile f t → f.size ≤ 4000 := fun t ht => by cases ht <;> assumption
  rcases hR.out with ⟨n, r, hz, he'⟩ | ⟨hno, hg, he'⟩ | ⟨hno, hg, hb, he'⟩ | ⟨hno, hg, hb, he'⟩
  · obtain ⟨hf, hk, hsy, hw⟩ := hz.file'
    have hsz := hz.size
    rcases hS.out with ⟨hn, _⟩ | ⟨t, ht, h2⟩
    · exact absurd hf (hn _)
    · have := ht.one hf
      subst this
      have hlen : (zit (z0 f) n).2.whole.len ≤ 1099511627776 := by
        rw [hw, ptOf_len, bytesN_len, capL_of (by omega)]; omega
      rcases h2 with ⟨h3, _⟩ | ⟨_, he⟩
      · omega
      · rw [he, he', hk, hsy, hw, whole_bytes, lines_same, long_len]
  · rcases hS.out with ⟨hn, he⟩ | ⟨t, ht, h2⟩
    · rw [he, he']
    · exfalso
      cases ht with
      | rules a b c d => exact hg (ok_GOk c b d)
      | codes a b c d x y => exact hno.none b c d x y
  · have hf : SFile f (sgT f) := SFile.rules (by have := hg.five; omega) hg.most hg.sg hg.ok
    obtain ⟨t0, q1, q2⟩ := hg.whole
    rcases hS.out with ⟨hn, _⟩ | ⟨t, ht, h2⟩
    · exact absurd hf (hn _)
    · have := ht.one hf
      subst this
      rcases h2 with ⟨_, he⟩ | ⟨h3, _⟩
      · rw [he, he']
      · rw [q1, long_len, ← q2] at h3; omega
  · have hf : SFile f (sgT f) := SFile.rules (by have := hg.five; omega) hg.most hg.sg hg.ok
    obtain ⟨t0, q1, q2⟩ := hg.whole
    obtain ⟨_, _, e3, _, _⟩ := hg.read
    rcases hS.out with ⟨hn, _⟩ | ⟨t, ht, h2⟩
    · exact absurd hf (hn _)
    · have := ht.one hf
      subst this
      rcases h2 with ⟨h3, _⟩ | ⟨_, he⟩
      · rw [q1, long_len, ← q2] at h3; omega
      · have hsy : (sgT f).syms = gN f := by show (sgN f).1 = gN f; rw [e3]
        rw [he, he', hsy, q1, q2, lines_same, long_len]
        rfl

theorem shapes_any (f : ByteArray) (hf : f.size ≤ maxLen) (w : World) :
    Calls Try.prog 9 #[.string f] w fun e w' => e = .returned (.bool true) ∧ Below w.heap.size w w' := shapes_law shape_same f hf w

end Go.Proofs.Ytgifhgnccmnbiaa
