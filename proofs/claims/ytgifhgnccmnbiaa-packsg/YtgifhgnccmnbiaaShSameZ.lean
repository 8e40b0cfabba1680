/- Files of codes: both sides read the same, code by code. No Go in it. -/
import Derived.Test.YtgifhgnccmnbiaaShSame2
set_option linter.unusedVariables false
set_option linter.unusedSimpArgs false
namespace Go.Proofs.Ytgifhgnccmnbiaa
open Go.RowKit Go.IntWalk

theorem bytesN_app (a b : ByteArray) : bytesN (a ++ b) = bytesN a ++ bytesN b := by
  unfold bytesN; rw [ByteArray.data_append, Array.toList_append, List.map_append]
theorem bytesN_empty : bytesN ByteArray.empty = [] := rfl
theorem bytesN_one {c : Nat} (h : c < 256) : bytesN ⟨#[c.toUInt8]⟩ = [c] := by
  show [c.toUInt8.toNat] = [c]
  rw [Nat.toUInt8_eq, UInt8.toNat_ofNat', Nat.mod_eq_of_lt (by omega)]
theorem bytesN_nil {s : ByteArray} : bytesN s = [] ↔ s.size = 0 := by
  rw [← bytesN_len]; exact List.length_eq_zero_iff.symm
theorem bytesN_first {s : ByteArray} (h : s.size ≠ 0) : bytesN (s.extract 0 1) = [(bytesN s).headD 0] := by
  unfold bytesN
  rw [ByteArray.data_extract]
  obtain ⟨⟨l⟩⟩ := s
  cases l with
  | nil => exact absurd rfl h
  | cons x l => simp
theorem ptOf_first {t : List Nat} (h : t ≠ []) : (ptOf t).first = t.headD 0 := by unfold ptOf; rw [if_neg h]
theorem numB_end {B : ByteArray} {p : Nat} : ∀ i, p + i ≤ 8 * B.size → (numB B p i).2 = p + i := by
  intro i
  induction i with
  | zero => intro _; rfl
  | succ i ih =>
    intro hi
    show (nextB B (numB B p i).2).2 = _
    rw [ih (by omega)]
    unfold nextB; rw [if_pos (by omega)]; rfl

/-- The code's state and the document's tell the same. -/
structure ZZ (B : ByteArray) (m : Nat) (s : CD × TT) (r : ZB) (T : List (List Nat)) : Prop where
  bytes : s.1.B = B
  most : s.1.most = m
  p : s.1.p = r.p
  bad : s.1.bad = false
  sound : Sound s.2.rules T
  len : s.1.gone + r.tab.length = T.length
  ent : ∀ i, i < r.tab.length → bytesN (r.tab.getD i ByteArray.empty) = T.getD (s.1.gone + i) []
  last : (s.1.ahead = none ∧ r.last.size = 0 ∧ r.tab = []) ∨ ∃ a, s.1.ahead = some a ∧ a < 256 + T.length ∧ bytesN r.last = symT T a ∧ r.last.size ≠ 0
  start : ∀ x, x ∈ s.2.start → x < 256 + T.length
  out : bytesN r.out = s.2.start.flatMap (symT T)
  whole : s.2.whole = ptOf (bytesN r.out)
  syms : s.2.syms = r.n
  kind : s.2.kind = 90
theorem ZZ.free {B : ByteArray} {m : Nat} {s : CD × TT} {r : ZB} {T : List (List Nat)} (h : ZZ B m s r T) : freeN s.2 s.1 = frB r := by
  have := h.len
  have := h.sound.len
  unfold freeN frB; omega
theorem ZZ.wide {B : ByteArray} {m : Nat} {s : CD × TT} {r : ZB} {T : List (List Nat)} (h : ZZ B m s r T) : zwide s = zwB m r := by unfold zwide zwB; rw [h.free, h.most]
theorem ZZ.go {B : ByteArray} {m : Nat} {s : CD × TT} {r : ZB} {T : List (List Nat)} (h : ZZ B m s r T) : zgo s = zgoB B m r := by
  unfold zgo zgoB; rw [h.bad, h.wide, h.p, h.bytes]; rfl
theorem ZZ.ok {B : ByteArray} {m : Nat} {s : CD × TT} {r : ZB} {T : List (List Nat)} (h : ZZ B m s r T) : zOk s = endB B r.p := by
  unfold zOk; rw [h.bad, h.p, h.bytes]; rfl
/-- The text of a number that has one. -/
theorem ZZ.entry {B : ByteArray} {m : Nat} {s : CD × TT} {r : ZB} {T : List (List Nat)} (h : ZZ B m s r T) {c : Nat} (hc : c < 256 ∨ (257 ≤ c ∧ c < frB r)) : bytesN (entB r.tab c) = symT T (symC s.1.gone c) ∧ symC s.1.gone c < 256 + T.length := by
  have hl := h.len
  unfold entB symC symT
  rcases hc with hc | ⟨hc, hf⟩
  · rw [if_pos hc, if_pos hc, if_pos hc]
    exact ⟨bytesN_one hc, by omega⟩
  · unfold frB at hf
    have n1 : ¬ c < 256 := by omega
    have n2 : ¬ s.1.gone + c - 1 < 256 := by omega
    simp only [if_neg n1, if_neg n2]
    rw [h.ent _ (by omega), show s.1.gone + (c - 257) = s.1.gone + c - 1 - 256 by omega]
    exact ⟨rfl, by omega⟩
theorem flatMap_sym {T U : List (List Nat)} {l : List Nat} (h : ∀ x, x ∈ l → x < 256 + T.length) : l.flatMap (symT (T ++ U)) = l.flatMap (symT T) := by
  induction l with
  | nil => rfl
  | cons x l ih =>
    rw [List.flatMap_cons, List.flatMap_cons, symT_app (h x (by simp)), ih (fun y hy => h y (by simp [hy]))]
/-- A code that is taken: no entry joins. -/
theorem ZZ.plain {B : ByteArray} {m : Nat} {s : CD × TT} {r : ZB} {T : List (List Nat)} (h : ZZ B m s r T) {q sy : Nat} {now : ByteArray} (hsy : sy < 256 + T.length) (hn : bytesN now = symT T sy) (hne : now.size ≠ 0) :
    ZZ B m ({ s.1 with p := q, ahead := some sy }, addStart (upSyms s.2) sy) { p := q, n := r.n + 1, out := r.out ++ now, tab := r.tab, last := now } T := by
  have ho : bytesN (r.out ++ now) = (s.2.start ++ [sy]).flatMap (symT T) := by
    rw [bytesN_app, h.out, hn, List.flatMap_append]; simp
  refine ⟨h.bytes, h.most, rfl, h.bad, h.sound, h.len, h.ent, Or.inr ⟨sy, rfl, hsy, hn, hne⟩, ?_, ho, ?_, ?_, h.kind⟩
  · intro x hx
    rcases List.mem_append.1 hx with hx | hx
    · exact h.start x hx
    · simp at hx; omega
  · show joinP s.2.whole (partAt s.2.rules sy) = ptOf (bytesN (r.out ++ now))
    rw [h.whole, h.sound.part (by rw [h.sound.len]; exact hsy), join_ptOf, bytesN_app, hn]
  · show s.2.syms + 1 = r.n + 1
    rw [h.syms]
/-- An entry joins. -/
theorem ZZ.join {B : ByteArray} {m : Nat} {s : CD × TT} {r : ZB} {T : List (List Nat)} (h : ZZ B m s r T) {a fb : Nat} {e : ByteArray} (ha : a < 256 + T.length) (hfb : fb < 256) (he : bytesN e = symT T a ++ [fb]) (hl : (s.1.ahead = some a ∧ bytesN r.last = symT T a ∧ r.last.size ≠ 0)) :
    ZZ B m (s.1, addRuleT s.2 a fb) { r with tab := r.tab ++ [e] } (T ++ [symT T a ++ symT T fb]) := by
  have hs := h.sound.push (l := a) (r := fb) (by rw [h.sound.len]; exact ha) (by omega)
  have hT : (T ++ [symT T a ++ symT T fb]).length = T.length + 1 := by simp
  have hlen := h.len
  refine ⟨h.bytes, h.most, h.p, h.bad, hs, ?_, ?_, Or.inr ⟨a, hl.1, by omega, by rw [symT_app ha]; exact hl.2.1, hl.2.2⟩, ?_, ?_, h.whole, h.syms, h.kind⟩
  · show s.1.gone + (r.tab ++ [e]).length = _
    rw [hT, List.length_append, List.length_singleton]; omega
  · intro i hi
    replace hi : i < (r.tab ++ [e]).length := hi
    show bytesN ((r.tab ++ [e]).getD i ByteArray.empty) = _
    rw [List.length_append, List.length_singleton] at hi
    by_cases h2 : i < r.tab.length
    · have := h.ent i h2
      simp only [List.getD] at this ⊢
      rw [List.getElem?_append_left h2, List.getElem?_append_left (by omega)]
      exact this
    · have h3 : i = r.tab.length := by omega
      subst h3
      simp only [List.getD]
      rw [List.getElem?_append_right (Nat.le_refl _), hlen, List.getElem?_append_right (Nat.le_refl _)]
      simp only [Nat.sub_self, List.getElem?_cons_zero, Option.getD_some]
      rw [he]
      have : symT T fb = [fb] := if_pos hfb
      rw [this]
  · intro x hx
    have := h.start x hx
    omega
  · rw [h.out]
    exact (flatMap_sym h.start).symm

/-- One code more. -/
theorem ZZ.step {B : ByteArray} {m : Nat} {s : CD × TT} {r : ZB} {T : List (List Nat)} (h : ZZ B m s r T) (hg : zgoB B m r = true) :
    (zsB B m r = none → (zstep s).1.bad = true) ∧ ∀ r', zsB B m r = some r' → ∃ T', ZZ B m (zstep s) r' T' := by
  have hg' : r.p + zwB m r ≤ 8 * B.size := by unfold zgoB at hg; simpa using hg
  have hz : zstep s = takeC { s.1 with p := r.p + zwB m r } s.2 (numB B r.p (zwB m r)).1 := by
    unfold zstep; rw [h.bytes, h.p, h.wide, numB_end _ hg']
  rw [hz]
  unfold zsB
  generalize (numB B r.p (zwB m r)).1 = c
  have eF : freeN s.2 { s.1 with p := r.p + zwB m r } = frB r := h.free
  have h' : ZZ B m ({ s.1 with p := r.p + zwB m r }, s.2) { r with p := r.p + zwB m r } T := ⟨h.bytes, h.most, rfl, h.bad, h.sound, h.len, h.ent, h.last, h.start, h.out, h.whole, h.syms, h.kind⟩
  have hF : 257 ≤ frB r := by unfold frB; omega
  unfold takeC tkB
  rw [eF]
  by_cases hc : c = 256
  · subst hc
    rw [if_pos rfl, if_pos rfl]
    refine ⟨fun hx => by (cases hx), fun r' hr => ⟨T, ?_⟩⟩
    simp only [Option.some.injEq] at hr
    subst hr
    exact ⟨h.bytes, h.most, rfl, h.bad, h.sound, h.sound.len, (fun i hi => absurd hi (Nat.not_lt_zero _)), Or.inl ⟨rfl, rfl, rfl⟩, h.start, h.out, h.whole, by show s.2.syms + 1 = r.n + 1; rw [h.syms], h.kind⟩
  rw [if_neg hc, if_neg hc]
  rcases h.last with ⟨la, lb, lc⟩ | ⟨a, la, lb, lt, lne⟩
  · have hF7 : frB r = 257 := by unfold frB; rw [lc]; rfl
    have hj : joinsC { s.1 with p := r.p + zwB m r } (frB r) = none := by unfold joinsC; simp only []; rw [la]
    by_cases hb : 256 < c
    · rw [if_pos ⟨lb, hb⟩, if_pos (show badC _ c (frB r) by
        by_cases h7 : c = 257
        · exact Or.inr ⟨by omega, hj⟩
        · exact Or.inl (by omega))]
      exact ⟨fun _ => rfl, fun r' hr => by (cases hr)⟩
    · rw [if_neg (fun hx => hb hx.2), if_neg (by omega), if_neg (show ¬ badC _ c (frB r) from fun hx => by rcases hx with hx | hx <;> omega), hj]
      refine ⟨fun hx => by (cases hx), fun r' hr => ⟨T, ?_⟩⟩
      simp only [Option.some.injEq] at hr
      subst hr
      have hnow : nowB r c = entB r.tab c := by unfold nowB; rw [if_neg (by omega)]
      obtain ⟨e1, e2⟩ := h.entry (c := c) (Or.inl (by omega))
      have hne : (entB r.tab c).size ≠ 0 := fun hx => by
        have := bytesN_nil.2 hx
        rw [e1] at this
        exact h.sound.ne (by rw [h.sound.len]; exact e2) this
      rw [hnow, if_neg (fun hx => hx.1 lb)]
      exact h'.plain e2 e1 hne
  · rw [if_neg (fun hx => lne hx.1)]
    have hj : joinsC { s.1 with p := r.p + zwB m r } (frB r) = if frB r < 2 ^ m then some a else none := by unfold joinsC; simp only []; rw [la, h.most]
    by_cases hb : frB r < c ∨ (c = frB r ∧ ¬ frB r < 2 ^ m)
    · rw [if_pos hb, if_pos (show badC _ c (frB r) by
        rcases hb with hb | hb
        · exact Or.inl hb
        · exact Or.inr ⟨hb.1, by rw [hj, if_neg hb.2]⟩)]
      exact ⟨fun _ => rfl, fun r' hr => by (cases hr)⟩
    · rw [if_neg hb, if_neg (show ¬ badC _ c (frB r) from fun hx => by
        rcases hx with hx | ⟨hx, hy⟩
        · exact hb (Or.inl hx)
        · by_cases hr : frB r < 2 ^ m
          · rw [hj, if_pos hr] at hy; cases hy
          · exact hb (Or.inr ⟨hx, hr⟩))]
      refine ⟨fun hx => by (cases hx), fun r' hr => ?_⟩
      simp only [Option.some.injEq] at hr
      subst hr
      have hle : c ≤ frB r := by omega
      by_cases hroom : frB r < 2 ^ m
      · rw [hj, if_pos hroom, if_pos ⟨lne, hroom⟩]
        -- the first byte of what is read now
        have hap : partAt s.2.rules a = ptOf (symT T a) := h.sound.part (by rw [h.sound.len]; exact lb)
        have hane : symT T a ≠ [] := h.sound.ne (by rw [h.sound.len]; exact lb)
        have hfirst : bytesN ((nowB r c).extract 0 1) = [firstC s.2 s.1.gone a c (frB r)] := by
          unfold firstC nowB
          by_cases hcF : c = frB r
          · rw [if_pos hcF, if_pos hcF, hap, ptOf_first hane]
            have hsz : (r.last ++ r.last.extract 0 1).size ≠ 0 := by rw [ba_size_app]; omega
            rw [bytesN_first hsz, bytesN_app, lt]
            cases hx : symT T a with
            | nil => exact absurd hx hane
            | cons y l => rfl
          · rw [if_neg hcF, if_neg hcF]
            obtain ⟨e1, e2⟩ := h.entry (c := c) (by omega)
            have hne2 : symT T (symC s.1.gone c) ≠ [] := h.sound.ne (by rw [h.sound.len]; exact e2)
            have hne : (entB r.tab c).size ≠ 0 := fun hx => by rw [← bytesN_nil, e1] at hx; exact hne2 hx
            rw [bytesN_first hne, e1, h.sound.part (by rw [h.sound.len]; exact e2), ptOf_first hne2]
        have hfb : firstC s.2 s.1.gone a c (frB r) < 256 := by
          have := bytesN_lt ((nowB r c).extract 0 1) (firstC s.2 s.1.gone a c (frB r)) (by rw [hfirst]; simp)
          exact this
        obtain ⟨fb, hfbg⟩ : ∃ fb, fb = firstC s.2 s.1.gone a c (frB r) := ⟨_, rfl⟩
        rw [← hfbg] at hfirst hfb
        have hent : bytesN (r.last ++ (nowB r c).extract 0 1) = symT T a ++ [fb] := by rw [bytesN_app, lt, hfirst]
        have hJ := h'.join (a := a) (fb := fb) lb hfb hent ⟨la, lt, lne⟩
        have hfbT : symT T fb = [fb] := if_pos hfb
        have hnow : bytesN (nowB r c) = symT (T ++ [symT T a ++ symT T fb]) (symC s.1.gone c) ∧ symC s.1.gone c < 256 + (T ++ [symT T a ++ symT T fb]).length := by
          by_cases hcF : c = frB r
          · have hsy : symC s.1.gone c = 256 + T.length := by
              have := h.len
              unfold symC frB at *
              rw [if_neg (by omega)]; omega
            rw [hsy, symT_new]
            refine ⟨?_, by simp⟩
            have hn : nowB r c = r.last ++ r.last.extract 0 1 := by unfold nowB; rw [if_pos hcF]
            have h3 := hfirst
            rw [hn] at h3 ⊢
            have hsz : (r.last ++ r.last.extract 0 1).size ≠ 0 := by rw [ba_size_app]; omega
            rw [bytesN_first hsz, bytesN_app, lt, bytesN_first lne, lt] at h3
            rw [bytesN_app, lt, bytesN_first lne, lt, hfbT]
            cases hx : symT T a with
            | nil => exact absurd hx hane
            | cons y l => rw [hx] at h3; simpa using h3
          · obtain ⟨e1, e2⟩ := h.entry (c := c) (by omega)
            have hn : nowB r c = entB r.tab c := by unfold nowB; rw [if_neg hcF]
            rw [hn, e1, symT_app e2]
            exact ⟨rfl, by rw [List.length_append]; omega⟩
        have hnne : (nowB r c).size ≠ 0 := fun hx => by
          have h5 := bytesN_nil.2 hx
          rw [hnow.1] at h5
          exact hJ.sound.ne (by rw [hJ.sound.len]; exact hnow.2) h5
        refine ⟨T ++ [symT T a ++ symT T fb], ?_⟩
        have hfin := hJ.plain (q := r.p + zwB m r) hnow.2 hnow.1 hnne
        rw [hfbg] at hfin ⊢
        exact hfin
      · rw [hj, if_neg hroom, if_neg (fun hx => hroom hx.2)]
        have hcF : c ≠ frB r := fun hx => hb (Or.inr ⟨hx, hroom⟩)
        have hnow : nowB r c = entB r.tab c := by unfold nowB; rw [if_neg hcF]
        obtain ⟨e1, e2⟩ := h.entry (c := c) (by omega)
        have hne : (entB r.tab c).size ≠ 0 := fun hx => by
          have := bytesN_nil.2 hx
          rw [e1] at this
          exact h.sound.ne (by rw [h.sound.len]; exact e2) this
        rw [hnow]
        exact ⟨T, h'.plain e2 e1 hne⟩

end Go.Proofs.Ytgifhgnccmnbiaa
