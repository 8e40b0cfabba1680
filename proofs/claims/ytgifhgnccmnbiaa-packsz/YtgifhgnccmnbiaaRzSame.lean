/- Both sides pack alike. No Go in it. -/
import Derived.Test.YtgifhgnccmnbiaaRzVal
import Derived.Test.YtgifhgnccmnbiaaRzPack
set_option linter.unusedVariables false
set_option linter.unusedSimpArgs false
namespace Go.Proofs.Ytgifhgnccmnbiaa
open Go.RowKit Go.IntWalk

def ntx (D : List ByteArray) (a : Nat) : List Nat := if a < 256 then [a] else bytesN (D.getD (a - 257) ByteArray.empty)
def Num (D : List ByteArray) (a : Nat) : Prop := a < 256 ∨ (257 ≤ a ∧ a < 257 + D.length)
theorem zfind_mem : ∀ {l : List Ent} {x : Ent} {k j : Nat}, l[j]? = some x → zfind l x k ≠ none
  | [], _, _, _, h => by simp at h
  | y :: l, x, k, j, h => by
    rw [zfind]
    by_cases hy : y = x
    · rw [if_pos hy]; simp
    · rw [if_neg hy]
      cases j with
      | zero => simp at h; exact absurd h hy
      | succ j => exact zfind_mem (j := j) (by simpa using h)

theorem bt_at {f : ByteArray} (i : Nat) : bt f i = (bytesN f).getD i 0 := by
  unfold bt bytesN
  split
  · rename_i h
    have h2 : i < f.data.toList.length := h
    simp only [List.getD]
    rw [List.getElem?_map, List.getElem?_eq_getElem h2]
    rfl
  · rename_i h
    have h2 : ¬ i < f.data.toList.length := h
    simp only [List.getD]
    rw [List.getElem?_map, List.getElem?_eq_none (by omega)]
    rfl
theorem num_two {D : List ByteArray} {a : Nat} (ha : Num D a) (hl : 2 ≤ (ntx D a).length) : 257 ≤ a ∧ a < 257 + D.length := by
  rcases ha with ha | ha
  · unfold ntx at hl; rw [if_pos ha] at hl; simp at hl
  · exact ha
theorem beg_fits {x : ByteArray} {D : List ByteArray} {k : Nat} (hb : begB x (D.getD k ByteArray.empty) = true) : ntx D (257 + k) = (bytesN x).take (D.getD k ByteArray.empty).size ∧ (D.getD k ByteArray.empty).size ≤ x.size := by
  unfold begB at hb
  rw [decide_eq_true_eq] at hb
  refine ⟨?_, hb.1⟩
  unfold ntx
  rw [if_neg (by omega), Nat.add_sub_cancel_left]
  exact hb.2.symm

/-- The code at the beginning of an entry, and the document ahead of it. -/
structure Sim (t : ByteArray) (wd m q : Nat) (ws : WS) (s : DS) : Prop where
  run : q < t.size → wrun wd t (q + 1) = (ws, some (bt t q))
  pos : q ≤ t.size
  x : bytesN s.x = (bytesN t).drop q
  V : ws.V = wd + 256 * valB s.S
  K : ws.K = 8 + s.S.length
  tlen : ws.tab.length = s.D.length
  ent : ∀ (i : Nat) (y : Ent), ws.tab[i]? = some y → bytesN (s.D.getD i ByteArray.empty) = ntx s.D y.1 ++ [y.2] ∧ y.1 < 257 + i ∧ y.1 ≠ 256
  inj : ∀ a b, Num s.D a → Num s.D b → ntx s.D a = ntx s.D b → a = b
  len : s.D.length = min m (2 ^ wd - 257)
  n : s.n = m
section
variable {t : ByteArray} {wd m q : Nat} {ws : WS} {s : DS} (h : Sim t wd m q ws s)
include h
theorem Sim.xsize : s.x.size = t.size - q := by
  have := congrArg List.length h.x
  rw [bytesN_len, List.length_drop, bytesN_len] at this; exact this
theorem Sim.entry {a : Nat} (ha : 257 ≤ a) (hb : a < 257 + s.D.length) : ∃ y : Ent, ws.tab[a - 257]? = some y ∧ ntx s.D a = ntx s.D y.1 ++ [y.2] ∧ Num s.D y.1 ∧ y.1 < a := by
  have hl := h.tlen
  obtain ⟨y, hy⟩ : ∃ y, ws.tab[a - 257]? = some y := ⟨_, List.getElem?_eq_getElem (by omega)⟩
  obtain ⟨e1, e2, e3⟩ := h.ent _ _ hy
  refine ⟨y, hy, ?_, ?_, by omega⟩
  · rw [← e1]; unfold ntx; rw [if_neg (by omega)]
  · unfold Num; omega
theorem Sim.ne {a : Nat} (ha : Num s.D a) : 1 ≤ (ntx s.D a).length := by
  rcases ha with ha | ⟨ha, hb⟩
  · unfold ntx; rw [if_pos ha]; simp
  · obtain ⟨y, _, e, _, _⟩ := h.entry ha hb
    rw [e]; simp
/-- An entry's beginnings are entries: so there is one a byte longer than any beginning of it. -/
theorem Sim.longer (X : List Nat) : ∀ (k c L l : Nat), L = l + 1 + k → Num s.D c → L ≤ X.length → ntx s.D c = X.take L → 1 ≤ l → ∃ (j : Nat) (a' : Nat), ws.tab[j]? = some (a', X.getD l 0) ∧ Num s.D a' ∧ ntx s.D a' = X.take l
  | 0, c, L, l, hL, hc, hX, hn, hl => by
    have h2 : 2 ≤ (ntx s.D c).length := by rw [hn, List.length_take]; omega
    obtain ⟨y, hy, e, ny, _⟩ := h.entry (num_two hc h2).1 (num_two hc h2).2
    have e2 : X.take L = X.take l ++ [X.getD l 0] := by
      rw [hL, show l + 1 + 0 = l + 1 by omega, List.take_add_one, List.getElem?_eq_getElem (by omega)]
      simp [List.getD, List.getElem?_eq_getElem (by omega : l < X.length)]
    rw [hn, e2] at e
    obtain ⟨h3, h4⟩ := List.append_inj' e rfl
    refine ⟨c - 257, y.1, ?_, ny, h3.symm⟩
    rw [hy]
    have : y.2 = X.getD l 0 := by simpa using h4.symm
    rw [← this]
  | k + 1, c, L, l, hL, hc, hX, hn, hl => by
    have h2 : 2 ≤ (ntx s.D c).length := by rw [hn, List.length_take]; omega
    obtain ⟨y, hy, e, ny, _⟩ := h.entry (num_two hc h2).1 (num_two hc h2).2
    have e2 : X.take L = X.take (l + 1 + k) ++ [X.getD (l + 1 + k) 0] := by
      rw [hL, show l + 1 + (k + 1) = l + 1 + k + 1 by omega, List.take_add_one, List.getElem?_eq_getElem (by omega)]
      simp [List.getD, List.getElem?_eq_getElem (by omega : l + 1 + k < X.length)]
    rw [hn, e2] at e
    obtain ⟨h3, _⟩ := List.append_inj' e rfl
    exact Sim.longer X k y.1 (l + 1 + k) l rfl ny (by omega) h3.symm hl
/-- The code goes along the longest entry. -/
theorem Sim.walk : ∀ (k l a : Nat), k = s.x.size - l → 1 ≤ l → l ≤ s.x.size → wrun wd t (q + l) = (ws, some a) → Num s.D a → ntx s.D a = (bytesN s.x).take l →
    ∃ l' a', 1 ≤ l' ∧ l' ≤ s.x.size ∧ wrun wd t (q + l') = (ws, some a') ∧ Num s.D a' ∧ ntx s.D a' = (bytesN s.x).take l' ∧ (l' = s.x.size ∨ (l' < s.x.size ∧ zfind ws.tab (a', (bytesN s.x).getD l' 0) 257 = none))
  | 0, l, a, hk, h1, h2, hr, hn, hx => ⟨l, a, h1, h2, hr, hn, hx, Or.inl (by omega)⟩
  | k + 1, l, a, hk, h1, h2, hr, hn, hx => by
    have hlt : l < s.x.size := by omega
    cases hz : zfind ws.tab (a, (bytesN s.x).getD l 0) 257 with
    | none => exact ⟨l, a, h1, h2, hr, hn, hx, Or.inr ⟨hlt, hz⟩⟩
    | some i =>
      obtain ⟨b1, b2, b3⟩ := zfind_lt hz
      have hl := h.tlen
      obtain ⟨e1, e2, e3⟩ := h.ent _ _ b3
      have hbt : bt t (q + l) = (bytesN s.x).getD l 0 := by
        rw [bt_at, h.x]
        simp [List.getD, List.getElem?_drop]
      have hrun : wrun wd t (q + (l + 1)) = (ws, some i) := by
        show (let r := wgo wd (wrun wd t (q + l)).1 (wrun wd t (q + l)).2 (bt t (q + l)); (r.1, some r.2)) = _
        rw [hr, hbt]
        unfold wgo
        simp only [hz]
      have hxl : l < (bytesN s.x).length := by rw [bytesN_len]; exact hlt
      refine Sim.walk k (l + 1) i (by omega) (by omega) (by omega) hrun (Or.inr ⟨b1, by omega⟩) ?_
      have : ntx s.D i = ntx s.D a ++ [(bytesN s.x).getD l 0] := by unfold ntx; rw [if_neg (by omega)]; exact e1
      rw [this, hx, List.take_add_one, List.getElem?_eq_getElem hxl]
      simp [List.getD, hxl]
end
/-- What the document takes is the longest that fits. -/
theorem dpick_is (x : ByteArray) (D : List ByteArray) : ∀ q, ((dpick x D q) = (bt x 0, 1) ∨ ∃ k, k < q ∧ begB x (D.getD k ByteArray.empty) = true ∧ dpick x D q = (257 + k, (D.getD k ByteArray.empty).size) ∧ 1 < (D.getD k ByteArray.empty).size) ∧ 1 ≤ (dpick x D q).2 ∧ ∀ k, k < q → begB x (D.getD k ByteArray.empty) = true → (D.getD k ByteArray.empty).size ≤ (dpick x D q).2
  | 0 => ⟨Or.inl rfl, Nat.le_refl _, fun k hk => by omega⟩
  | q + 1 => by
    obtain ⟨h1, h2, h3⟩ := dpick_is x D q
    by_cases hc : begB x (D.getD q ByteArray.empty) = true ∧ (dpick x D q).2 < (D.getD q ByteArray.empty).size
    · have e : dpick x D (q + 1) = (257 + q, (D.getD q ByteArray.empty).size) := by rw [dpick, if_pos hc]
      rw [e]
      refine ⟨Or.inr ⟨q, by omega, hc.1, rfl, by omega⟩, by simp only []; omega, fun k hk hb => ?_⟩
      by_cases hkq : k = q
      · subst hkq; exact Nat.le_refl _
      · have := h3 k (by omega) hb; simp only []; omega
    · have e : dpick x D (q + 1) = dpick x D q := by rw [dpick, if_neg hc]
      rw [e]
      refine ⟨?_, h2, fun k hk hb => ?_⟩
      · rcases h1 with h1 | ⟨k, hk, r⟩
        · exact Or.inl h1
        · exact Or.inr ⟨k, by omega, r⟩
      · by_cases hkq : k = q
        · subst hkq
          by_cases hs : (dpick x D k).2 < (D.getD k ByteArray.empty).size
          · exact absurd ⟨hb, hs⟩ hc
          · omega
        · exact h3 k (by omega) hb

section
variable {t : ByteArray} {wd m q : Nat} {ws : WS} {s : DS} (h : Sim t wd m q ws s)
include h
theorem Sim.pick {l a : Nat} (hx : 1 ≤ s.x.size) (h1 : 1 ≤ l) (h2 : l ≤ s.x.size) (hn : Num s.D a) (ht : ntx s.D a = (bytesN s.x).take l) (hz : l = s.x.size ∨ (l < s.x.size ∧ zfind ws.tab (a, (bytesN s.x).getD l 0) 257 = none)) :
    dpick s.x s.D s.D.length = (a, l) := by
  obtain ⟨p1, p2, p3⟩ := dpick_is s.x s.D s.D.length
  have hxl : (bytesN s.x).length = s.x.size := bytesN_len _
  -- what is taken is a number that has a beginning of the text
  have hc : Num s.D (dpick s.x s.D s.D.length).1 ∧ ntx s.D (dpick s.x s.D s.D.length).1 = (bytesN s.x).take (dpick s.x s.D s.D.length).2 ∧ (dpick s.x s.D s.D.length).2 ≤ s.x.size := by
    rcases p1 with e | ⟨k, hk, hb, e, hs⟩
    · rw [e]
      have hb := bt_bd s.x 0
      refine ⟨Or.inl hb, ?_, hx⟩
      unfold ntx
      simp only []
      rw [if_pos hb, bt_at, List.take_add_one, List.take_zero, List.getElem?_eq_getElem (by omega)]
      simp [List.getD, List.getElem?_eq_getElem (by omega : 0 < (bytesN s.x).length)]
    · rw [e]
      obtain ⟨f1, f2⟩ := beg_fits hb
      exact ⟨Or.inr ⟨by simp only []; omega, by simp only []; omega⟩, f1, f2⟩
  obtain ⟨c1, c2, c3⟩ := hc
  have hge : l ≤ (dpick s.x s.D s.D.length).2 := by
    by_cases hl1 : l = 1
    · omega
    · have h2' : 2 ≤ (ntx s.D a).length := by rw [ht, List.length_take]; omega
      obtain ⟨g1, g2⟩ := num_two hn h2'
      have hsz : (s.D.getD (a - 257) ByteArray.empty).size = l := by
        have e := congrArg List.length ht
        unfold ntx at e
        rw [if_neg (by omega), bytesN_len, List.length_take] at e
        omega
      have hb : begB s.x (s.D.getD (a - 257) ByteArray.empty) = true := by
        unfold begB
        rw [decide_eq_true_eq, hsz]
        refine ⟨h2, ?_⟩
        rw [← ht]
        unfold ntx
        rw [if_neg (by omega)]
      have := p3 (a - 257) (by omega) hb
      omega
  have hle : (dpick s.x s.D s.D.length).2 ≤ l := by
    rcases hz with hz | ⟨hz1, hz⟩
    · omega
    · apply Classical.byContradiction
      intro hgt
      obtain ⟨j, a', hj, hn', ht'⟩ := h.longer (bytesN s.x) ((dpick s.x s.D s.D.length).2 - (l + 1)) _ (dpick s.x s.D s.D.length).2 l (by omega) c1 (by omega) c2 h1
      have : a' = a := h.inj a' a hn' hn (by rw [ht', ht])
      subst this
      exact zfind_mem hj hz
  have hL : (dpick s.x s.D s.D.length).2 = l := by omega
  rw [hL] at c2
  have hA : (dpick s.x s.D s.D.length).1 = a := h.inj _ _ c1 hn (by rw [c2, ht])
  exact Prod.ext hA hL
/-- What is written is the same number. -/
theorem Sim.wrote (hwd : 9 ≤ wd ∧ wd ≤ 12) {a l : Nat} (hp : dpick s.x s.D s.D.length = (a, l)) (ha : a < 2 ^ zwid wd ws.tab) :
    ws.V + a * 2 ^ ws.K = wd + 256 * valB (dstep wd s).S ∧ ws.K + zwid wd ws.tab = 8 + (dstep wd s).S.length := by
  have hw := wid_same (wd := wd) (m := m) (tab := ws.tab) hwd (by rw [h.tlen]; exact h.len)
  have e : (dstep wd s).S = s.S ++ bitsOf a (zwid wd ws.tab) := by
    show s.S ++ bitsOf (dpick s.x s.D s.D.length).1 (widP (dfree s.n wd) wd) = _
    rw [hp, h.n, ← hw]
  rw [e, valB_app, valB_bits, Nat.mod_eq_of_lt ha, List.length_append, bitsOf_len, h.V, h.K, Nat.pow_add]
  refine ⟨?_, by omega⟩
  rw [Nat.mul_add, show (2 : Nat) ^ 8 = 256 by decide, Nat.mul_left_comm a 256, Nat.mul_comm a]
  omega
end

theorem ntx_more {D : List ByteArray} {y : ByteArray} {a : Nat} (h : Num D a) : ntx (D ++ [y]) a = ntx D a := by
  unfold ntx
  rcases h with h | ⟨h1, h2⟩
  · rw [if_pos h, if_pos h]
  · rw [if_neg (by omega), if_neg (by omega)]
    simp only [List.getD]
    rw [List.getElem?_append_left (by omega)]
theorem ntx_new {D : List ByteArray} {y : ByteArray} : ntx (D ++ [y]) (257 + D.length) = bytesN y := by
  unfold ntx
  rw [if_neg (by omega), Nat.add_sub_cancel_left]
  simp [List.getD]

/-- One entry taken: on to the next one, or the end. -/
theorem Sim.next {t : ByteArray} {wd m q : Nat} {ws : WS} {s : DS} (h : Sim t wd m q ws s) (hwd : 9 ≤ wd ∧ wd ≤ 12) (hx : 1 ≤ s.x.size) (hfit : ∀ p a, (wrun wd t p).2 = some a → a < 2 ^ zwid wd (wrun wd t p).1.tab) :
    (∃ q' ws', q' < t.size ∧ Sim t wd (m + 1) q' ws' (dstep wd s)) ∨ ((dstep wd s).x.size = 0 ∧ (wfin wd (wrun wd t t.size)).V = wd + 256 * valB (dstep wd s).S ∧ (wfin wd (wrun wd t t.size)).K = 8 + (dstep wd s).S.length) := by
  have hxs := h.xsize
  have hqt : q < t.size := by omega
  have hxl : (bytesN s.x).length = s.x.size := bytesN_len _
  have hb0 : bt t q = (bytesN s.x).getD 0 0 := by rw [bt_at, h.x]; simp [List.getD, List.getElem?_drop]
  have h1 : ntx s.D (bt t q) = (bytesN s.x).take 1 := by
    unfold ntx
    rw [if_pos (bt_bd t q), hb0, List.take_add_one, List.take_zero, List.getElem?_eq_getElem (by omega)]
    simp [List.getD, List.getElem?_eq_getElem (by omega : 0 < (bytesN s.x).length)]
  obtain ⟨l, a, l1, l2, hr, hn, ht, hz⟩ := h.walk (s.x.size - 1) 1 (bt t q) rfl (Nat.le_refl _) hx (h.run hqt) (Or.inl (bt_bd t q)) h1
  have hp := h.pick hx l1 l2 hn ht hz
  have hfa : a < 2 ^ zwid wd ws.tab := by have := hfit (q + l) a (by rw [hr]); rwa [hr] at this
  obtain ⟨w1, w2⟩ := h.wrote hwd hp hfa
  have hx' : bytesN (dstep wd s).x = (bytesN t).drop (q + l) := by
    show bytesN (s.x.extract (dpick s.x s.D s.D.length).2 s.x.size) = _
    rw [hp, bytesN_drop, h.x, List.drop_drop]
  have hxs' : (dstep wd s).x.size = t.size - (q + l) := by
    have := congrArg List.length hx'
    rw [bytesN_len, List.length_drop, bytesN_len] at this; exact this
  rcases hz with hz | ⟨hz1, hz⟩
  · right
    have he : q + l = t.size := by omega
    refine ⟨by rw [hxs']; omega, ?_, ?_⟩
    · rw [← he, hr]; exact w1
    · rw [← he, hr]; exact w2
  · left
    have hbt : bt t (q + l) = (bytesN s.x).getD l 0 := by rw [bt_at, h.x]; simp [List.getD, List.getElem?_drop]
    have hrun : wrun wd t (q + l + 1) = (⟨ws.V + a * 2 ^ ws.K, ws.K + zwid wd ws.tab, zjoin wd ws.tab (a, bt t (q + l))⟩, some (bt t (q + l))) := by
      show (let r := wgo wd (wrun wd t (q + l)).1 (wrun wd t (q + l)).2 (bt t (q + l)); (r.1, some r.2)) = _
      rw [hr]
      unfold wgo
      simp only [hbt, hz]
    have hp2 : 512 ≤ 2 ^ wd := by
      have : 2 ^ 9 ≤ 2 ^ wd := Nat.pow_le_pow_right (by decide) hwd.1
      exact this
    suffices H : (zjoin wd ws.tab (a, bt t (q + l))).length = (dstep wd s).D.length ∧ (∀ (i : Nat) (y : Ent), (zjoin wd ws.tab (a, bt t (q + l)))[i]? = some y → bytesN ((dstep wd s).D.getD i ByteArray.empty) = ntx (dstep wd s).D y.1 ++ [y.2] ∧ y.1 < 257 + i ∧ y.1 ≠ 256) ∧ (∀ b c, Num (dstep wd s).D b → Num (dstep wd s).D c → ntx (dstep wd s).D b = ntx (dstep wd s).D c → b = c) ∧ (dstep wd s).D.length = min (m + 1) (2 ^ wd - 257) ∧ (dstep wd s).n = m + 1 from
      ⟨q + l, _, by omega, ⟨fun _ => hrun, by omega, hx', w1, w2, H.1, H.2.1, H.2.2.1, H.2.2.2.1, H.2.2.2.2⟩⟩
    have hD : (dstep wd s).D = if l < s.x.size ∧ 257 + s.D.length < 2 ^ wd then s.D ++ [s.x.extract 0 (l + 1)] else s.D := by
      show (if (dpick s.x s.D s.D.length).2 < s.x.size ∧ _ then _ else _) = _
      rw [hp]
    have hlen := h.len
    have htl := h.tlen
    rcases zjoin_cases wd ws.tab (a, bt t (q + l)) with ⟨e, hroom⟩ | ⟨e, hroom⟩
    · rw [if_pos ⟨hz1, by omega⟩] at hD
      have hnt : bytesN (s.x.extract 0 (l + 1)) = ntx s.D a ++ [bt t (q + l)] := by
        rw [bytesN_take, ht, List.take_add_one, List.getElem?_eq_getElem (by omega), hbt]
        simp [List.getD, List.getElem?_eq_getElem (by omega : l < (bytesN s.x).length)]
      have hnew : ∀ b, Num s.D b → ntx s.D b ≠ ntx s.D a ++ [bt t (q + l)] := fun b hb hc => by
        have hb2 : 2 ≤ (ntx s.D b).length := by rw [hc, List.length_append]; have := h.ne hn; simp; omega
        obtain ⟨y, hy, ey, ny, _⟩ := h.entry (num_two hb hb2).1 (num_two hb hb2).2
        rw [hc] at ey
        obtain ⟨h3, h4⟩ := List.append_inj' ey rfl
        have ha' : y.1 = a := h.inj _ _ ny hn h3.symm
        have hy2 : y.2 = bt t (q + l) := by simpa using h4.symm
        have : y = (a, (bytesN s.x).getD l 0) := Prod.ext ha' (by rw [hy2, hbt])
        rw [this] at hy
        exact zfind_mem hy hz
      refine ⟨?_, ?_, ?_, ?_, by show s.n + 1 = _; rw [h.n]⟩
      · show (zjoin wd ws.tab (a, bt t (q + l))).length = _
        rw [e, hD]; simp [htl]
      · intro i y hy
        rw [e] at hy
        rw [hD]
        by_cases hi : i < ws.tab.length
        · rw [List.getElem?_append_left hi] at hy
          obtain ⟨e1, e2, e3⟩ := h.ent i y hy
          have hny : Num s.D y.1 := by unfold Num; omega
          rw [ntx_more hny]
          refine ⟨?_, e2, e3⟩
          simp only [List.getD] at e1 ⊢
          rw [List.getElem?_append_left (by omega)]
          exact e1
        · have hi2 : i = ws.tab.length := by
            have := (List.getElem?_eq_some_iff.1 hy).1
            simp at this; omega
          subst hi2
          rw [List.getElem?_append_right (Nat.le_refl _), Nat.sub_self] at hy
          simp at hy
          subst hy
          rw [ntx_more hn]
          refine ⟨?_, ?_, ?_⟩
          · rw [htl]
            simp only [List.getD]
            rw [List.getElem?_append_right (Nat.le_refl _), Nat.sub_self]
            exact hnt
          · rcases hn with hn | hn
            · simp only []; omega
            · simp only []; omega
          · rcases hn with hn | hn
            · simp only []; omega
            · simp only []; omega
      · rw [hD]
        have hN : ∀ b, Num (s.D ++ [s.x.extract 0 (l + 1)]) b → Num s.D b ∨ b = 257 + s.D.length := fun b hb => by
          unfold Num at hb ⊢
          simp at hb
          omega
        intro b c hb hc hbc
        rcases hN b hb with hb' | hb' <;> rcases hN c hc with hc' | hc'
        · rw [ntx_more hb', ntx_more hc'] at hbc; exact h.inj b c hb' hc' hbc
        · subst hc'; rw [ntx_more hb', ntx_new, hnt] at hbc; exact absurd hbc (hnew b hb')
        · subst hb'; rw [ntx_more hc', ntx_new, hnt] at hbc; exact absurd hbc.symm (hnew c hc')
        · rw [hb', hc']
      · rw [hD, List.length_append, hlen]
        simp
        omega
    · rw [if_neg (fun hc => by omega)] at hD
      refine ⟨?_, ?_, ?_, ?_, by show s.n + 1 = _; rw [h.n]⟩
      · show (zjoin wd ws.tab (a, bt t (q + l))).length = _
        rw [e, hD]; exact htl
      · intro i y hy
        rw [e] at hy
        rw [hD]
        exact h.ent i y hy
      · rw [hD]; exact h.inj
      · rw [hD, hlen]
        omega

end Go.Proofs.Ytgifhgnccmnbiaa
