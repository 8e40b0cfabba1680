/- What the writer of codes writes, the reader of codes reads. No Go in it. -/
import Derived.Test.YtgifhgnccmnbiabGreatDoorG25
import Derived.Test.YtgifhgnccmnbiabGreatDoorG07
import Derived.Test.YtgifhgnccmnbiabGreatDoorG06
import Derived.Test.YtgifhgnccmnbiabGreatDoorG15
import Derived.Test.YtgifhgnccmnbiabGreatDoorG01
import Derived.ProofKit
import Derived.OpenShut
import Derived.ShutString
import Derived.ChangeSame
import Derived.Test.YtgifhgnccmnbiabGreatDoorG20
import Derived.LaidHandle
import Derived.Lib.LaidTab
set_option linter.unusedVariables false
set_option linter.unusedSimpArgs false
namespace Go.Proofs.YtgifhgnccmnbiabGreatDoor
open Go.RowKit Go.IntWalk

def sy (T : List (List Nat)) (a : Nat) : List Nat := if a < 256 then [a] else T.getD (a - 257) []
theorem sy_app {T : List (List Nat)} {x : List Nat} {a : Nat} (h : a < 256 ∨ (257 ≤ a ∧ a < 257 + T.length)) : sy (T ++ [x]) a = sy T a := by
  unfold sy
  by_cases h1 : a < 256
  · rw [if_pos h1, if_pos h1]
  · rw [if_neg h1, if_neg h1]
    simp only [List.getD]
    rw [List.getElem?_append_left (by omega)]
theorem wid_eq {wd n m : Nat} (hwd : 9 ≤ wd ∧ wd ≤ 12) (h : n = m ∨ (n + 1 = m ∧ m = 2 ^ wd)) : widP n wd = widP m wd := by
  rcases h with h | ⟨h1, h2⟩
  · rw [h]
  · have hmm : wd = 9 ∨ wd = 10 ∨ wd = 11 ∨ wd = 12 := by omega
    rcases hmm with rfl | rfl | rfl | rfl
    · have : m = 512 := h2
      have : n = 511 := by omega
      subst this; subst h2; rfl
    · have : m = 1024 := h2
      have : n = 1023 := by omega
      subst this; subst h2; rfl
    · have : m = 2048 := h2
      have : n = 2047 := by omega
      subst this; subst h2; rfl
    · have : m = 4096 := h2
      have : n = 4095 := by omega
      subst this; subst h2; rfl

/-- The bits of these bytes are those of a number, but for its lowest eight. -/
structure BitsOf (B : ByteArray) (V : Nat) : Prop where
  byte : ∀ i, i < B.size → bt B i = dig V (i + 1)
theorem mod_bit (x k : Nat) (hk : k < 8) : x % 256 / 2 ^ k % 2 = x / 2 ^ k % 2 := by
  have hk2 : k = 0 ∨ k = 1 ∨ k = 2 ∨ k = 3 ∨ k = 4 ∨ k = 5 ∨ k = 6 ∨ k = 7 := by omega
  rcases hk2 with rfl | rfl | rfl | rfl | rfl | rfl | rfl | rfl <;> simp only [Nat.reducePow] <;> omega
theorem BitsOf.bit {B : ByteArray} {V : Nat} (h : BitsOf B V) {p : Nat} (hp : p / 8 < B.size) : bitP B p = V / 2 ^ (8 + p) % 2 := by
  unfold bitP
  rw [h.byte _ hp]
  unfold dig
  rw [mod_bit _ _ (by omega), Nat.div_div_eq_div_mul, ← pow8]
  congr 3; omega
theorem BitsOf.num {B : ByteArray} {V : Nat} (h : BitsOf B V) {p : Nat} : ∀ w, p + w ≤ 8 * B.size → (numB B p w).1 = V / 2 ^ (8 + p) % 2 ^ w
  | 0, _ => by simp [numB, Nat.mod_one]
  | w + 1, hw => by
    have ih := h.num (p := p) w (by omega)
    have he := numB_end (B := B) (p := p) w (by omega)
    show (numB B p w).1 + (nextB B (numB B p w).2).1 * 2 ^ w = _
    rw [ih, he]
    have : (nextB B (p + w)).1 = V / 2 ^ (8 + p) / 2 ^ w % 2 := by
      unfold nextB
      rw [if_pos (by omega)]
      show bitP B (p + w) = _
      rw [h.bit (by omega), Nat.div_div_eq_div_mul, ← Nat.pow_add, Nat.add_assoc]
    rw [this, Nat.mod_pow_succ, Nat.mul_comm]

/-- Going on adds only higher bits. -/
structure More (s s' : WS) : Prop where
  K : s.K ≤ s'.K
  V : s'.V % 2 ^ s.K = s.V % 2 ^ s.K
theorem More.refl (s : WS) : More s s := ⟨Nat.le_refl _, rfl⟩
theorem More.trans {a b c : WS} (h : More a b) (g : More b c) : More a c := ⟨Nat.le_trans h.K g.K, by
  have e := Nat.mod_mod_of_dvd c.V (Nat.pow_dvd_pow 2 h.K)
  rw [← e, g.V, Nat.mod_mod_of_dvd _ (Nat.pow_dvd_pow 2 h.K), h.V]⟩
theorem More.wrote (s : WS) (a w : Nat) (tab : List Ent) : More s ⟨s.V + a * 2 ^ s.K, s.K + w, tab⟩ := ⟨Nat.le_add_right _ _, by
  show (s.V + a * 2 ^ s.K) % 2 ^ s.K = _
  rw [Nat.mul_comm, Nat.add_mul_mod_self_left]⟩
theorem More.go (most : Nat) (s : WS) (num : Option Nat) (c : Nat) : More s (wgo most s num c).1 := by
  unfold wgo
  cases num with
  | none => exact More.refl _
  | some a =>
    simp only []
    cases zfind s.tab (a, c) 257 with
    | some i => exact More.refl _
    | none => exact More.wrote _ _ _ _
theorem more_run (most : Nat) (t : ByteArray) (q : Nat) : ∀ n, More (wrun most t q).1 (wrun most t (q + n)).1
  | 0 => More.refl _
  | n + 1 => (more_run most t q n).trans (More.go _ _ _ _)

/-- The writer at a place of the text, and the reader behind the codes written so far. -/
structure ZR (t : ByteArray) (wd : Nat) (B : ByteArray) (q : Nat) (ws : WS) (a n : Nat) (r : ZB) (T : List (List Nat)) : Prop where
  it : zitB B wd n = some r
  on : ∀ i, i < n → ∃ x, zitB B wd i = some x ∧ zgoB B wd x = true
  num : r.n = n
  inv : ZBI B r
  p : ws.K = 8 + r.p
  bd : ws.V < 2 ^ ws.K
  tlen : T.length = ws.tab.length
  ent : ∀ (i : Nat) (y : Ent), ws.tab[i]? = some y → T.getD i [] = sy T y.1 ++ [y.2]
  rt : ∀ i, i < r.tab.length → bytesN (r.tab.getD i ByteArray.empty) = T.getD i []
  out : bytesN r.out ++ sy T a = (bytesN t).take q
  st : (r.last.size = 0 ∧ r.tab = [] ∧ ws.tab = []) ∨ (r.last.size ≠ 0 ∧
    ((r.tab.length + 1 = ws.tab.length ∧ 257 + r.tab.length < 2 ^ wd ∧ T.getD r.tab.length [] = bytesN r.last ++ [(sy T a).headD 0]) ∨
     (r.tab.length = ws.tab.length ∧ 2 ^ wd = 257 + r.tab.length)))
  ne : sy T a ≠ []
/-- The reader, one code on. -/
structure ZW (wd : Nat) (ws : WS) (a : Nat) (r r' : ZB) (T : List (List Nat)) : Prop where
  n : r'.n = r.n + 1
  p : r'.p = r.p + zwid wd ws.tab
  out : bytesN r'.out = bytesN r.out ++ sy T a
  last : bytesN r'.last = sy T a
  rt : ∀ i, i < r'.tab.length → bytesN (r'.tab.getD i ByteArray.empty) = T.getD i []
  len : r'.tab.length = ws.tab.length
section
variable {t : ByteArray} {wd : Nat} {B : ByteArray} {q : Nat} {ws : WS} {a n : Nat} {r : ZB} {T : List (List Nat)} (h : ZR t wd B q ws a n r T) (hI : WInv wd q ws (some a)) (hwd : 9 ≤ wd ∧ wd ≤ 12)
include h hI hwd
omit hI in
theorem ZR.wid : zwB wd r = zwid wd ws.tab := by
  unfold zwB zwid frB
  rcases h.st with ⟨_, e1, e2⟩ | ⟨_, ⟨e1, _, _⟩ | ⟨e1, e2⟩⟩
  · rw [e1, e2]; rfl
  · rw [if_pos (by omega)]
    congr 1; omega
  · have p9 : 2 ^ 9 ≤ 2 ^ wd := Nat.pow_le_pow_right (by decide) hwd.1
    have : (2 : Nat) ^ 9 = 512 := by decide
    rw [if_pos (by omega)]
    exact (wid_eq hwd (Or.inr ⟨by omega, by omega⟩)).symm
omit hI in
theorem ZR.go (hB : ws.K + zwid wd ws.tab ≤ 8 + 8 * B.size) : zgoB B wd r = true := by
  have := h.p
  unfold zgoB
  rw [h.wid hwd]
  exact decide_eq_true (by omega)
/-- The code that is written is read. -/
theorem ZR.read {F : WS} (hF : More ⟨ws.V + a * 2 ^ ws.K, ws.K + zwid wd ws.tab, ws.tab⟩ F) (hBF : BitsOf B F.V) (hB : ws.K + zwid wd ws.tab ≤ 8 + 8 * B.size) : (numB B r.p (zwB wd r)).1 = a := by
  have hp := h.p
  have hfit := hI.fits hwd rfl
  have hw := h.wid hwd
  rw [hBF.num _ (by rw [hw]; omega), hw, ← hp]
  have hV := hF.V
  simp only [] at hV
  have hlt := val_less (w := zwid wd ws.tab) h.bd hfit
  rw [Nat.mod_eq_of_lt hlt] at hV
  rw [← Nat.mod_mul_right_div_self, ← Nat.pow_add, hV]
  rw [Nat.add_mul_div_right _ _ (Nat.two_pow_pos _), Nat.div_eq_of_lt h.bd, Nat.zero_add]
omit hI hwd in
theorem ZR.first : ∃ c l, sy T a = c :: l := by
  cases hx : sy T a with
  | nil => exact absurd hx h.ne
  | cons c l => exact ⟨c, l, rfl⟩
theorem ZR.code (hc : (numB B r.p (zwB wd r)).1 = a) : ∃ r', zsB B wd r = some r' ∧ ZW wd ws a r r' T := by
  obtain ⟨ha, ha6⟩ := hI.num a rfl
  have hw := h.wid hwd
  have htl := h.tlen
  obtain ⟨c0, l0, hf⟩ := h.first
  unfold zsB tkB
  rw [hc, if_neg ha6]
  rcases h.st with ⟨e0, e1, e2⟩ | ⟨e0, e⟩
  · have ha2 : a < 256 := by rw [e2] at ha; simp at ha; omega
    have hn : nowB r a = ⟨#[a.toUInt8]⟩ := by
      unfold nowB entB frB
      rw [if_neg (by omega), if_pos ha2]
    have hs : sy T a = [a] := if_pos ha2
    rw [if_neg (fun hx => by omega), if_neg (fun hx => by unfold frB at hx; omega), if_neg (fun hx => hx.1 e0)]
    refine ⟨_, rfl, rfl, by rw [hw], ?_, ?_, ?_, ?_⟩
    · rw [bytesN_app, hn, bytesN_one ha2, hs]
    · rw [hn, bytesN_one ha2, hs]
    · intro i hi; rw [e1] at hi; exact absurd hi (Nat.not_lt_zero _)
    · rw [e1, e2]; rfl
  · rw [if_neg (fun hx => e0 hx.1)]
    have hlast : bytesN r.last ≠ [] := fun hx => e0 (bytesN_nil.1 hx)
    rcases e with ⟨e1, e2, e3⟩ | ⟨e1, e2⟩
    · have hle : a ≤ frB r := by unfold frB; omega
      rw [if_neg (fun hx => by
        rcases hx with hx | ⟨_, hx⟩
        · omega
        · exact hx e2), if_pos ⟨e0, e2⟩]
      -- what is read now is the text of the code
      have hnow : bytesN (nowB r a) = sy T a := by
        unfold nowB
        by_cases hx : a = frB r
        · rw [if_pos hx]
          have ha2 : ¬ a < 256 := by unfold frB at hx; omega
          have e4 : sy T a = bytesN r.last ++ [(sy T a).headD 0] := by
            rw [← e3]
            conv => lhs; unfold sy
            rw [if_neg ha2, show a - 257 = r.tab.length by unfold frB at hx; omega]
          rw [bytesN_app, bytesN_first e0, e4]
          congr 2
          cases hy : bytesN r.last with
          | nil => exact absurd hy hlast
          | cons y l =>
            rw [hy] at e4
            rw [e4]; rfl
        · rw [if_neg hx]
          unfold entB sy
          by_cases ha2 : a < 256
          · rw [if_pos ha2, if_pos ha2, bytesN_one ha2]
          · rw [if_neg ha2, if_neg ha2]
            exact h.rt _ (by unfold frB at hx hle; omega)
      have hne : (nowB r a).size ≠ 0 := fun hx => h.ne (by rw [← hnow]; exact bytesN_nil.2 hx)
      refine ⟨_, rfl, rfl, by rw [hw], by rw [bytesN_app, hnow], hnow, ?_, ?_⟩
      · intro i hi
        simp only [List.length_append, List.length_cons, List.length_nil] at hi
        by_cases hi2 : i < r.tab.length
        · have := h.rt i hi2
          simp only [List.getD] at this ⊢
          rw [List.getElem?_append_left hi2]
          exact this
        · have : i = r.tab.length := by omega
          subst this
          rw [e3]
          simp only [List.getD]
          rw [List.getElem?_append_right (Nat.le_refl _), Nat.sub_self]
          show bytesN (r.last ++ (nowB r a).extract 0 1) = _
          rw [bytesN_app, bytesN_first hne, hnow]
      · simp only [List.length_append, List.length_cons, List.length_nil]; omega
    · have hle : a < frB r := by unfold frB; omega
      rw [if_neg (fun hx => by
        rcases hx with hx | ⟨hx, _⟩ <;> omega), if_neg (fun hx => by have := hx.2; unfold frB at this; omega)]
      have hnow : bytesN (nowB r a) = sy T a := by
        unfold nowB
        rw [if_neg (by omega)]
        unfold entB sy
        by_cases ha2 : a < 256
        · rw [if_pos ha2, if_pos ha2, bytesN_one ha2]
        · rw [if_neg ha2, if_neg ha2]
          exact h.rt _ (by unfold frB at hle; omega)
      exact ⟨_, rfl, rfl, by rw [hw], by rw [bytesN_app, hnow], hnow, h.rt, e1⟩
/-- One byte of the text more. -/
theorem ZR.next {F : WS} (hB4 : B.size ≤ 4000) (hq : q < t.size) (hF : More (wgo wd ws (some a) (bt t q)).1 F) (hBF : BitsOf B F.V) (hFK : F.K ≤ 8 + 8 * B.size) : ∃ n' r' T', ZR t wd B (q + 1) (wgo wd ws (some a) (bt t q)).1 (wgo wd ws (some a) (bt t q)).2 n' r' T' := by
  have hnum := hI.num a rfl
  have htl := h.tlen
  have hc8 := bt_bd t q
  have htake : (bytesN t).take (q + 1) = (bytesN t).take q ++ [bt t q] := by
    have hql : q < (bytesN t).length := by rw [bytesN_len]; exact hq
    rw [List.take_add_one, List.getElem?_eq_getElem hql, bt_list]
    simp [List.getD, hql]
  unfold wgo at hF ⊢
  simp only [] at hF ⊢
  cases hz : zfind ws.tab (a, bt t q) 257 with
  | some i =>
    simp only [hz] at hF ⊢
    obtain ⟨z1, z2, z3⟩ := zfind_lt hz
    have he := h.ent _ _ z3
    have hs : sy T i = sy T a ++ [bt t q] := by
      conv => lhs; unfold sy
      rw [if_neg (by omega)]
      exact he
    refine ⟨n, r, T, h.it, h.on, h.num, h.inv, h.p, h.bd, h.tlen, h.ent, h.rt, ?_, ?_, ?_⟩
    · rw [hs, ← List.append_assoc, h.out, htake]
    · obtain ⟨c0, l0, hf⟩ := h.first
      have : (sy T i).headD 0 = (sy T a).headD 0 := by rw [hs, hf]; rfl
      rw [this]; exact h.st
    · rw [hs]; simp
  | none =>
    simp only [hz] at hF ⊢
    have hK := hF.K
    simp only [] at hK
    have hgo := h.go hwd (by omega)
    have hF2 : More ⟨ws.V + a * 2 ^ ws.K, ws.K + zwid wd ws.tab, ws.tab⟩ F := ⟨hF.K, hF.V⟩
    obtain ⟨r', hr', hW⟩ := h.code hI hwd (h.read hI hwd hF2 hBF (by omega))
    have hfit := hI.fits hwd rfl
    have hit : zitB B wd (n + 1) = some r' := by
      show (zitB B wd n).bind (zsB B wd) = _
      rw [h.it]; exact hr'
    have hon : ∀ i, i < n + 1 → ∃ x, zitB B wd i = some x ∧ zgoB B wd x = true := fun i hi => by
      by_cases hin : i = n
      · subst hin; exact ⟨r, h.it, hgo⟩
      · exact h.on i (by omega)
    have hinv : ZBI B r' := h.inv.take hgo hB4 hr'
    have hl0 : r'.last.size ≠ 0 := fun hx => h.ne (by rw [← hW.last]; exact bytesN_nil.2 hx)
    have hout : bytesN r'.out = (bytesN t).take q := by rw [hW.out, h.out]
    have hs1 : ∀ T, sy T (bt t q) = [bt t q] := fun T => if_pos hc8
    have hp := hW.p
    have hpp := h.p
    have hna : a < 256 ∨ (257 ≤ a ∧ a < 257 + T.length) := by omega
    rcases zjoin_cases wd ws.tab (a, bt t q) with ⟨e, hroom⟩ | ⟨e, hroom⟩
    · refine ⟨n + 1, r', T ++ [sy T a ++ [bt t q]], hit, hon, by rw [hW.n, h.num], hinv, by simp only []; omega, val_less h.bd hfit, by simp only [e, List.length_append, htl]; rfl, ?_, ?_, ?_, ?_, ?_⟩
      · intro i y hy
        simp only [e] at hy
        by_cases hi : i < ws.tab.length
        · rw [List.getElem?_append_left hi] at hy
          have hy2 := hI.ent i y hy
          rw [sy_app (by omega)]
          have := h.ent i y hy
          simp only [List.getD] at this ⊢
          rw [List.getElem?_append_left (by omega)]
          exact this
        · have hi2 : i = ws.tab.length := by
            have := (List.getElem?_eq_some_iff.1 hy).1
            simp at this; omega
          subst hi2
          rw [List.getElem?_append_right (Nat.le_refl _), Nat.sub_self] at hy
          simp at hy
          subst hy
          rw [sy_app hna]
          simp only [List.getD]
          rw [List.getElem?_append_right (by omega), htl, Nat.sub_self]
          rfl
      · intro i hi
        have := hW.rt i hi
        have hlen := hW.len
        simp only [List.getD] at this ⊢
        rw [List.getElem?_append_left (by omega)]
        exact this
      · rw [hs1, hout, htake]
      · right
        refine ⟨hl0, Or.inl ⟨by simp only [e, List.length_append, hW.len]; rfl, by rw [hW.len]; exact hroom, ?_⟩⟩
        rw [hs1, hW.len, hW.last]
        simp only [List.getD]
        rw [List.getElem?_append_right (by omega), htl, Nat.sub_self]
        rfl
      · rw [hs1]; simp
    · have hroom2 : 257 + ws.tab.length ≤ 2 ^ wd := by
        rcases hI.room with hx | hx
        · have p9 : 2 ^ 9 ≤ 2 ^ wd := Nat.pow_le_pow_right (by decide) hwd.1
          have : (2 : Nat) ^ 9 = 512 := by decide
          rw [hx]; simp; omega
        · exact hx
      refine ⟨n + 1, r', T, hit, hon, by rw [hW.n, h.num], hinv, by simp only []; omega, val_less h.bd hfit, by simp only [e]; exact htl, by simp only [e]; exact h.ent, hW.rt, ?_, ?_, ?_⟩
      · rw [hs1, hout, htake]
      · right
        exact ⟨hl0, Or.inr ⟨by simp only [e]; exact hW.len, by rw [hW.len]; omega⟩⟩
      · rw [hs1]; simp
end

theorem ZGood.text {f : ByteArray} {n : Nat} {r : ZB} (hz : ZGood f n r) : HasText f 90 (bytesN r.out) := by
  obtain ⟨hf, hk, hsy, hw⟩ := hz.file'
  obtain ⟨T, hT⟩ := zz_run n r hz.it hz.on
  obtain ⟨T', hST⟩ := stext_of hf
  exact ⟨_, T, hf, ⟨hT.sound, fun s hs => by rw [hT.sound.len]; exact hT.start s hs, by rw [hT.whole, hT.out], hST.rlen, hST.slen⟩, hT.out.symm, by rw [hk]⟩
theorem digs_get {V n i : Nat} (h : i < n) : (digs V n).getD i 0 = dig V i := by
  unfold digs
  simp [List.getD, h]

section
variable {t : ByteArray} {wd : Nat} (ht : t.size ≤ 600) (hwd : 9 ≤ wd ∧ wd ≤ 12)
include ht hwd
omit ht hwd in
/-- The bytes of the file. -/
theorem zfile_bytes : bytesN (zfile wd t) = [83, 90] ++ digs (wfin wd (wrun wd t t.size)).V (((wfin wd (wrun wd t t.size)).K + 7) / 8) := by
  unfold zfile
  rw [bytesN_app, bytesN_B (digs_lt _ _)]; rfl
theorem zfile_K : 8 ≤ (wfin wd (wrun wd t t.size)).K ∧ (wfin wd (wrun wd t t.size)).K ≤ 8000 ∧ (wfin wd (wrun wd t t.size)).V % 256 = wd := by
  have h0 := more_run wd t 0 t.size
  rw [Nat.zero_add] at h0
  have hi := (wrun_inv (t := t) hwd t.size).bits
  have hf : More (wrun wd t t.size).1 (wfin wd (wrun wd t t.size)) ∧ (wfin wd (wrun wd t t.size)).K ≤ (wrun wd t t.size).1.K + 12 := by
    unfold wfin
    cases (wrun wd t t.size).2 with
    | none => exact ⟨More.refl _, Nat.le_add_right _ _⟩
    | some a => exact ⟨More.wrote _ _ _ _, Nat.add_le_add_left (zwid_bd _ _).2 _⟩
  have hm := h0.trans hf.1
  have hK : 8 ≤ (wfin wd (wrun wd t t.size)).K := hm.K
  have hV : (wfin wd (wrun wd t t.size)).V % 2 ^ 8 = wd % 2 ^ 8 := hm.V
  have : (2 : Nat) ^ 8 = 256 := by decide
  exact ⟨hK, by omega, by omega⟩
omit ht hwd in
theorem zfile_size : (zfile wd t).size = 2 + ((wfin wd (wrun wd t t.size)).K + 7) / 8 := by
  rw [← bytesN_len, zfile_bytes, List.length_append, digs_len]; rfl
theorem zfile_isZ : isZ (zfile wd t) ∧ bt (zfile wd t) 2 = wd := by
  obtain ⟨k1, k2, k3⟩ := zfile_K ht hwd
  have hs := zfile_size (t := t) (wd := wd)
  have hb := zfile_bytes (t := t) (wd := wd)
  have e0 : bt (zfile wd t) 0 = 83 := by rw [bt_list, hb]; rfl
  have e1 : bt (zfile wd t) 1 = 90 := by rw [bt_list, hb]; rfl
  have e2 : bt (zfile wd t) 2 = wd := by
    rw [bt_list, hb]
    show (digs _ _).getD 0 0 = wd
    rw [digs_get (by omega)]
    unfold dig
    rw [Nat.pow_zero, Nat.div_one, k3]
  exact ⟨⟨by omega, by omega, ⟨e0, e1⟩, by omega, by omega⟩, e2⟩
theorem zfile_bits : BitsOf ((zfile wd t).extract 3 (zfile wd t).size) (wfin wd (wrun wd t t.size)).V ∧ ((zfile wd t).extract 3 (zfile wd t).size).size + 1 = ((wfin wd (wrun wd t t.size)).K + 7) / 8 := by
  obtain ⟨k1, k2, k3⟩ := zfile_K ht hwd
  have hs := zfile_size (t := t) (wd := wd)
  have hz : ((zfile wd t).extract 3 (zfile wd t).size).size = (zfile wd t).size - 3 := by simp [ByteArray.size_extract]
  refine ⟨⟨fun i hi => ?_⟩, by omega⟩
  rw [bt_sfx _ (by omega), bt_list, zfile_bytes, show 3 + i = i + 1 + 1 + 1 by omega]
  show (digs _ _).getD (i + 1) 0 = _
  exact digs_get (by omega)
theorem zfile_good : ∃ n r, ZGood (zfile wd t) n r ∧ bytesN r.out = bytesN t := by
  obtain ⟨k1, k2, k3⟩ := zfile_K ht hwd
  obtain ⟨hBF, hBs⟩ := zfile_bits ht hwd
  obtain ⟨hZ, e2⟩ := zfile_isZ ht hwd
  obtain ⟨B, hB⟩ : ∃ B, (zfile wd t).extract 3 (zfile wd t).size = B := ⟨_, rfl⟩
  rw [hB] at hBF hBs
  have hB4 : B.size ≤ 4000 := by omega
  suffices H : ∃ n r, zitB B wd n = some r ∧ ZBI B r ∧ r.n = n ∧ (∀ i, i < n → ∃ q, zitB B wd i = some q ∧ zgoB B wd q = true) ∧ (wfin wd (wrun wd t t.size)).K = 8 + r.p ∧ (wfin wd (wrun wd t t.size)).V < 2 ^ (wfin wd (wrun wd t t.size)).K ∧ bytesN r.out = bytesN t by
    obtain ⟨n, r, a1, a2, a3, a4, a5, a6, a7⟩ := H
    have hw := widP_bd (frB r) wd
    refine ⟨n, r, ⟨hZ, by rw [hB, e2]; exact a1, by rw [hB]; exact a2, a3, by rw [hB, e2]; exact a4, ?_, ?_⟩, a7⟩
    · rw [hB, e2]
      unfold zgoB zwB
      rw [decide_eq_false_iff_not]; omega
    · rw [hB]
      unfold endB
      rw [Bool.and_eq_true, decide_eq_true_eq, decide_eq_true_eq]
      refine ⟨by omega, ?_⟩
      rw [hBF.num _ (by have := a2.pb; omega), ← a5, Nat.div_eq_of_lt a6, Nat.zero_mod]
  by_cases h0 : t.size = 0
  · have e : wfin wd (wrun wd t t.size) = ⟨wd, 8, []⟩ := by rw [h0]; rfl
    have hbt : bytesN t = [] := List.eq_nil_of_length_eq_zero (by rw [bytesN_len]; exact h0)
    refine ⟨0, {}, rfl, zbi0 B, rfl, fun i hi => by omega, by rw [e]; rfl, ?_, by rw [hbt]; rfl⟩
    rw [e]
    show wd < 2 ^ 8
    have : (2 : Nat) ^ 8 = 256 := by decide
    omega
  · have hb := bt_bd t 0
    have h1 : ZR t wd B 1 (wrun wd t 1).1 (bt t 0) 0 {} [] := by
      refine ⟨rfl, fun i hi => by omega, rfl, zbi0 B, rfl, ?_, rfl, fun i y hy => ?_, fun i hi => absurd hi (Nat.not_lt_zero _), ?_, Or.inl ⟨rfl, rfl, rfl⟩, ?_⟩
      · show wd < 2 ^ 8
        have : (2 : Nat) ^ 8 = 256 := by decide
        omega
      · exact absurd hy (by simp [wrun, wgo])
      · have e : sy [] (bt t 0) = [bt t 0] := if_pos hb
        have hl : 0 < (bytesN t).length := by rw [bytesN_len]; omega
        rw [e, bt_list, List.take_add_one, List.take_zero, List.getElem?_eq_getElem hl]
        simp [List.getD, hl]; rfl
      · have e : sy [] (bt t 0) = [bt t 0] := if_pos hb
        rw [e]; simp
    have hm : ∀ q, q ≤ t.size → More (wrun wd t q).1 (wfin wd (wrun wd t t.size)) := fun q hq => by
      have h := more_run wd t q (t.size - q)
      rw [show q + (t.size - q) = t.size by omega] at h
      refine h.trans ?_
      unfold wfin
      cases (wrun wd t t.size).2 with
      | none => exact More.refl _
      | some a => exact More.wrote _ _ _ _
    have key : ∀ k, 1 + k ≤ t.size → ∃ a n r T, (wrun wd t (1 + k)).2 = some a ∧ ZR t wd B (1 + k) (wrun wd t (1 + k)).1 a n r T := by
      intro k
      induction k with
      | zero => intro _; exact ⟨bt t 0, 0, {}, [], rfl, h1⟩
      | succ k ih =>
        intro hk
        obtain ⟨a, n, r, T, ha, hR⟩ := ih (by omega)
        have hI := wrun_inv (t := t) hwd (1 + k)
        rw [ha] at hI
        have e : wrun wd t (1 + (k + 1)) = ((wgo wd (wrun wd t (1 + k)).1 (some a) (bt t (1 + k))).1, some (wgo wd (wrun wd t (1 + k)).1 (some a) (bt t (1 + k))).2) := by
          show (let r := wgo wd (wrun wd t (1 + k)).1 (wrun wd t (1 + k)).2 (bt t (1 + k)); (r.1, some r.2)) = _
          rw [ha]
        have hF := hm (1 + (k + 1)) hk
        rw [e] at hF
        obtain ⟨n', r', T', h⟩ := hR.next hI hwd hB4 (by omega) hF hBF (by omega)
        rw [e]
        exact ⟨_, n', r', T', rfl, h⟩
    obtain ⟨a, n, r, T, ha, hR⟩ := key (t.size - 1) (by omega)
    rw [show 1 + (t.size - 1) = t.size by omega] at ha hR
    have hI := wrun_inv (t := t) hwd t.size
    rw [ha] at hI
    have eF : wfin wd (wrun wd t t.size) = ⟨(wrun wd t t.size).1.V + a * 2 ^ (wrun wd t t.size).1.K, (wrun wd t t.size).1.K + zwid wd (wrun wd t t.size).1.tab, (wrun wd t t.size).1.tab⟩ := by
      unfold wfin; rw [ha]; rfl
    have hBF' := hBF
    rw [eF] at hBs k1 k2
    simp only [] at hBs k1 k2
    have hgo := hR.go hwd (by omega)
    obtain ⟨r', hr', hW⟩ := hR.code hI hwd (hR.read hI hwd (F := wfin wd (wrun wd t t.size)) (by rw [eF]; exact More.refl _) hBF (by omega))
    have hp := hW.p
    have hpp := hR.p
    refine ⟨n + 1, r', ?_, hR.inv.take hgo hB4 hr', by rw [hW.n, hR.num], fun i hi => ?_, by rw [eF]; simp only []; omega, ?_, ?_⟩
    · show (zitB B wd n).bind (zsB B wd) = _
      rw [hR.it]; exact hr'
    · by_cases hin : i = n
      · subst hin; exact ⟨r, hR.it, hgo⟩
      · exact hR.on i (by omega)
    · rw [eF]; exact val_less hR.bd (hI.fits hwd rfl)
    · rw [hW.out, hR.out, ← bytesN_len, List.take_length]
theorem zfile_text : HasText (zfile wd t) 90 (bytesN t) := by
  obtain ⟨n, r, h, e⟩ := zfile_good ht hwd
  rw [← e]
  exact h.text
end

end Go.Proofs.YtgifhgnccmnbiabGreatDoor

set_option linter.unusedVariables false
set_option linter.unusedSimpArgs false
namespace Go.Proofs.YtgifhgnccmnbiabGreatDoor
open Go.RowKit Go.IntWalk

theorem infoStringK : (Tryz.prog.info? 9).map (fun i => (i.zero, i.size, i.bytes)) = some (some (.string ByteArray.empty), 1, 16) := by kernel_rfl
structure LinesIn (w0 w : World) (v : Value) (ls : List ByteArray) : Prop where
  own : w.ownsRow w0.heap.size 9 1 v ls.length (ls.map Value.string)
  k : Kept [] w0 w
theorem LinesIn.push {w0 w w' : World} {v v' : Value} {ls : List ByteArray} {s : ByteArray} {o : Obj} (h : LinesIn w0 w v ls)
    (hown : w'.ownsRow w0.heap.size 9 1 v' (ls.length + 1) (ls.map Value.string ++ [.string s])) (hgrow : (w.alloc o).grownBy w' v.ownBlock) : LinesIn w0 w' v' (ls ++ [s]) := by
  refine ⟨by rw [List.map_append, List.length_append]; exact hown, ?_⟩
  have bl : ∀ k, k < w.heap.size → v.ownBlock ≠ some k → w'.heap[k]? = w.heap[k]? := fun k hk hne => by
    rw [hgrow.block k (by simp; omega) (fun hc => hne hc.symm), Below.heap_alloc _ _ _ hk]
  have hs2 : w.heap.size ≤ w'.heap.size := by have := hgrow.size; simp at this; omega
  have hk := h.k
  exact ⟨hgrow.os.trans hk.os, hgrow.tape.trans hk.tape, hgrow.output.trans hk.output, Nat.le_trans hk.size hs2, fun i hi hn => by
    have := hk.size
    rw [bl i (by omega) (fun hc => by have := (h.own.lt i hc).1; omega)]; exact hk.block i hi hn⟩
theorem loopK_len (bs : ByteArray) : ∀ (k i : Nat) (r : List UInt8), bs.size - i = k → (ByteArray.toList.loop bs i r).length = r.length + (bs.size - i)
  | 0, i, r, h => by
    rw [ByteArray.toList.loop]
    rw [if_neg (by omega)]
    simp; omega
  | k + 1, i, r, h => by
    rw [ByteArray.toList.loop]
    rw [if_pos (by omega)]
    rw [loopK_len bs k (i + 1) _ (by omega)]
    simp; omega
theorem emptyK_iff (s : ByteArray) : s.toList.isEmpty = true ↔ bytesN s = [] := by
  rw [List.isEmpty_iff, ← List.length_eq_zero_iff, ← List.length_eq_zero_iff, bytesN_len]
  unfold ByteArray.toList
  rw [loopK_len s s.size 0 [] (by omega)]
  simp
theorem mapN_inj : ∀ {a b : List UInt8}, a.map UInt8.toNat = b.map UInt8.toNat → a = b
  | [], [], _ => rfl
  | [], y :: b, h => by simp at h
  | x :: a, [], h => by simp at h
  | x :: a, y :: b, h => by
    simp only [List.map_cons, List.cons.injEq] at h
    rw [UInt8.toNat_inj.1 h.1, mapN_inj h.2]
theorem bytesN_inj {a b : ByteArray} (h : bytesN a = bytesN b) : a = b := by
  apply ByteArray.ext
  apply Array.ext'
  exact mapN_inj h
theorem bytesN_appK (a b : ByteArray) : bytesN (a ++ b) = bytesN a ++ bytesN b := by
  unfold bytesN; rw [ByteArray.data_append, Array.toList_append, List.map_append]
theorem bytesN_at1 {t : ByteArray} {q : Nat} (h : q < t.size) : bytesN (t.extract q (q + 1)) = [t[q].toNat] ∧ (bytesN t).drop q = t[q].toNat :: (bytesN t).drop (q + 1) := by
  have hl : q < t.data.toList.length := h
  have hl2 : q < (bytesN t).length := by rw [bytesN_len]; exact h
  have e : (bytesN t)[q] = t[q].toNat := by
    show (t.data.toList.map UInt8.toNat)[q]'(by simpa using h) = _
    rw [List.getElem_map, Array.getElem_toList]; rfl
  refine ⟨?_, by rw [List.drop_eq_getElem_cons hl2, e]⟩
  have h2 : bytesN (t.extract q (q + 1)) = ((bytesN t).drop q).take 1 := by
    unfold bytesN
    rw [ByteArray.data_extract]
    simp [List.map_drop, List.map_take, List.take_drop]
  rw [h2, List.drop_eq_getElem_cons hl2, e]; rfl

set_option maxHeartbeats 2000000 in
set_option maxRecDepth 100000 in
theorem linesOf_any (t : ByteArray) (ht : t.size ≤ 1000) (w : World) :
    Calls Tryz.prog 19 #[.string t] w fun e w' => ∃ v, e = .returned v ∧ ∃ ls, LinesIn w w' v ls ∧ ls.map bytesN = linesL (bytesN t) := by
  obtain ⟨i0, hi0, hz0, hz1, hz2⟩ := info_parts infoStringK
  have h0 : Hid (linesL (bytesN t) = ([] : List ByteArray).map bytesN ++ linesA (bytesN ByteArray.empty) ((bytesN t).drop 0)) := by show _ = _; rfl
  have hend : Hid ((bytesN t).drop t.size = []) := by show _ = _; rw [← bytesN_len]; exact List.drop_length
  obtain ⟨X, hX⟩ : ∃ X, linesL (bytesN t) = X := ⟨_, rfl⟩
  rw [hX] at h0 ⊢
  clear hX
  go_enter Tryz.func19, Tryz.ntmps19
  go_wp2_with fail
  go_loopw [3, 4, 5] (fun lv av iv wr => ∃ (q : Nat) (v : Value) (s : ByteArray) (ls : List ByteArray), lv = v ∧ av = .string s ∧ iv = .int .i64 (q : Int) ∧ q ≤ t.size ∧ s.size ≤ q ∧ ls.length ≤ q ∧ LinesIn w wr v ls ∧ Hid (X = ls.map bytesN ++ linesA (bytesN s) ((bytesN t).drop q))) (fun _ _ iv _ => ((t.size : Int) - intOf iv).toNat)
  case atStart => exact ⟨0, _, ByteArray.empty, [], rfl, rfl, rfl, Nat.zero_le _, Nat.zero_le _, Nat.zero_le _, ⟨World.ownsRow_nil _ _ _ _, Kept.refl _ _⟩, h0⟩
  case round =>
    clear h0
    obtain ⟨q, v, s, ls, hv, rfl, rfl, hq, hsq, hlq, hI, hXq⟩ := hrel
    obtain rfl := hv.symm
    have hsz := hI.k.size
    by_cases hlt : (q : Int) < (t.size : Int)
    · have hqn : q < t.size := by omega
      obtain ⟨p1, p2⟩ := bytesN_at1 hqn
      by_cases hc : (t[q].toNat : Int) = 10
      · have hX2 : Hid (X = (ls ++ [s]).map bytesN ++ linesA (bytesN ByteArray.empty) ((bytesN t).drop (q + 1))) := by
          show _ = _
          rw [hXq.out, p2, show t[q].toNat = 10 by omega, linesA_nl, List.map_append, List.append_assoc]; rfl
        clear p1 p2 hXq
        go_wp2_with (at_builtin; (refine wpList_append_placed rfl (.tmp 16) (.tmp 18) 38 rfl w.heap.size 9 i0 _ 1 16 Tryz.underlying38 hi0 hz0 hz1 hz2 rfl (by decide) v ls.length (ls.map Value.string) rfl ?own ⟨wr.heap.size, 0, none⟩ 1 1 [.string s] rfl rfl ?n1 ?n2 ?b1 ?b2 ?b3 ?kk))
        case own => exact hI.own.alloc _
        case n2 => first | (simp [Value.oneCell']; done) | exact cells_new _ _ _ _ rfl | (intro u hu; simp at hu; subst hu; rfl)
        case b1 => unfold maxLen; omega
        case b2 => omega
        case b3 => first | omega | (simp; omega)
        case kk =>
          intro v' w5 hown hgrow _
          have h5 : Hid (LinesIn _ _ _ _) := hI.push hown hgrow
          clear hown hgrow hI
          go_wp2
          refine ⟨⟨q + 1, v', ByteArray.empty, ls ++ [s], rfl, rfl, by go_num, by omega, Nat.zero_le _, by simp; omega, h5.out, hX2⟩, ?_⟩
          simp only [intOf]; omega
      · have hz : Hid ((s ++ t.extract q (q + 1)).size = s.size + 1) := by show _ = _; rw [ByteArray.size_append, ByteArray.size_extract]; omega
        have hX2 : Hid (X = ls.map bytesN ++ linesA (bytesN (s ++ t.extract q (q + 1))) ((bytesN t).drop (q + 1))) := by
          show _ = _
          rw [hXq.out, p2, linesA_c (by omega), bytesN_appK, p1]
        have hIH : Hid (LinesIn _ _ _ _) := hI
        have e1 : ((t[q].toNat : Int) == 10) = false := beq_eq_false_iff_ne.2 hc
        have n1 : (t[q].toNat : Int) ≠ 10 := hc
        clear hI hc p1 p2 hXq
        go_wp2
        refine ⟨⟨q + 1, v, s ++ t.extract q (q + 1), ls, rfl, rfl, by go_num, by omega, by rw [hz.out]; omega, by omega, hIH.out, hX2⟩, ?_⟩
        simp only [intOf]; omega
    · have hqe : q = t.size := by omega
      subst hqe
      by_cases he : s.toList.isEmpty = true
      · have hIH : Hid (LinesIn _ _ _ _) := hI
        have hs : bytesN s = [] := (emptyK_iff s).1 he
        have hfin : Hid (ls.map bytesN = X) := by
          show _ = _
          rw [hXq.out, hend.out, hs]; simp [linesA]
        clear hI hs hXq hend
        go_wp2
        go_ret
        exact ⟨_, rfl, ls, hIH.out, hfin.out⟩
      · have hs : bytesN s ≠ [] := fun hx => he ((emptyK_iff s).2 hx)
        have hfin : Hid ((ls ++ [s]).map bytesN = X) := by
          show _ = _
          rw [hXq.out, hend.out, List.map_append, linesA, if_neg hs]; rfl
        have he : s.toList.isEmpty = false := by simpa using he
        clear hs hXq hend
        go_wp2_with (at_builtin; (refine wpList_append_placed rfl (.tmp 29) (.tmp 31) 38 rfl w.heap.size 9 i0 _ 1 16 Tryz.underlying38 hi0 hz0 hz1 hz2 rfl (by decide) v ls.length (ls.map Value.string) rfl ?own ⟨wr.heap.size, 0, none⟩ 1 1 [.string s] rfl rfl ?n1 ?n2 ?b1 ?b2 ?b3 ?kk))
        case own => exact hI.own.alloc _
        case n2 => first | (simp [Value.oneCell']; done) | exact cells_new _ _ _ _ rfl | (intro u hu; simp at hu; subst hu; rfl)
        case b1 => unfold maxLen; omega
        case b2 => omega
        case b3 => first | omega | (simp; omega)
        case kk =>
          intro v' w5 hown hgrow _
          have h5 : Hid (LinesIn _ _ _ _) := hI.push hown hgrow
          clear hown hgrow hI
          go_wp2
          go_ret
          exact ⟨_, rfl, _, h5.out, hfin.out⟩

end Go.Proofs.YtgifhgnccmnbiabGreatDoor

set_option linter.unusedVariables false
set_option linter.unusedSimpArgs false
namespace Go.Proofs.YtgifhgnccmnbiabGreatDoor
open Go.RowKit Go.IntWalk

theorem plain_file {t R : ByteArray} (ht : t.size ≤ 600) (h : bytesN R = [83, 71, 0] ++ twoL t.size ++ (bytesN t).flatMap twoL) : HasText R 71 (bytesN t) := by
  have e : R = gfile (gst t 0).1 (gst t 0).2 := by
    apply bytesN_inj
    rw [(gfile_num ht (Nat.zero_le _)).file, h]
    show _ = [83, 71, 0] ++ ([] ++ [(bytesN t).length] ++ bytesN t).flatMap twoL
    rw [bytesN_len]
    simp
  rw [e]
  exact gfile_text ht (Nat.zero_le _)

set_option maxHeartbeats 1000000 in
set_option maxRecDepth 100000 in
theorem plain_any (t : ByteArray) (ht : t.size ≤ 600) (w : World) :
    Calls Tryz.prog 17 #[.string t] w fun e w' => ∃ f : ByteArray, e = .returned (.string f) ∧ (HasText f 71 (bytesN t) ∧ f.size ≤ maxLen) ∧ Kept [] w w' := by
  have hk : Hid (∀ o, Kept [] w (w.alloc o)) := fun o => (Kept.refl [] w).alloc o
  have m1 : Int.tmod (t.size : Int) 256 = ((t.size % 256 : Nat) : Int) := by rw [Int.tmod_eq_emod_of_nonneg (by omega)]; omega
  have m2 : Int.tdiv (t.size : Int) 256 = ((t.size / 256 : Nat) : Int) := by rw [Int.tdiv_eq_ediv_of_nonneg (by omega)]; omega
  have hconv : (convert 77 9 (.slice (some ⟨w.heap.size, 0, none⟩) 2 2)).run Tryz.prog (w.alloc (.cells #[.int .u8 ((t.size % 256 : Nat) : Int), .int .u8 ((t.size / 256 : Nat) : Int)] 5)) = .ok (.string (bytesB (twoL t.size))) (w.alloc (.cells #[.int .u8 ((t.size % 256 : Nat) : Int), .int .u8 ((t.size / 256 : Nat) : Int)] 5)) := by
    refine run_convert_bytes_back (P := Tryz.prog) _ 77 9 5 ⟨w.heap.size, 0, none⟩ 2 [(t.size % 256).toUInt8, (t.size / 256).toUInt8] Tryz.underlying77 Tryz.underlying5 Tryz.underlying9 (fun j hj => ?_)
    have hj2 : j < 2 := hj
    rw [ptr_add, (Blk.new w _ _).cell]
    rcases (by omega : j = 0 ∨ j = 1) with rfl | rfl
    · show some (Value.int .u8 ((t.size % 256 : Nat) : Int)) = some (.int .u8 ((t.size % 256).toUInt8.toNat : Int))
      rw [Nat.toUInt8_eq, UInt8.toNat_ofNat', show t.size % 256 % 2 ^ 8 = t.size % 256 by omega]
    · show some (Value.int .u8 ((t.size / 256 : Nat) : Int)) = some (.int .u8 ((t.size / 256).toUInt8.toNat : Int))
      rw [Nat.toUInt8_eq, UInt8.toNat_ofNat', show t.size / 256 % 2 ^ 8 = t.size / 256 by omega]
  have b1 : t.size % 256 < 256 := by omega
  have b2 : t.size / 256 < 256 := by omega
  have h0 : Hid (bytesN (⟨#[83, 71, 0]⟩ ++ bytesB (twoL t.size)) = [83, 71, 0] ++ twoL t.size ++ ((bytesN t).take 0).flatMap twoL) := by
    show _ = _
    rw [bytesN_appK, bytesN_two (by omega), List.take_zero, List.flatMap_nil, List.append_nil]
    rfl
  have hz : (bytesB (twoL t.size)).size = 2 := rfl
  have hfin : Hid (∀ R, bytesN R = [83, 71, 0] ++ twoL t.size ++ ((bytesN t).take t.size).flatMap twoL → HasText R 71 (bytesN t)) := fun R h => plain_file ht (by rw [h, List.take_of_length_le (by rw [bytesN_len]; omega)])
  have hnx : Hid (∀ (q : Nat) (hq : q < t.size) (R : ByteArray), bytesN R = [83, 71, 0] ++ twoL t.size ++ ((bytesN t).take q).flatMap twoL → bytesN (R ++ t.extract q (q + 1) ++ ⟨#[0]⟩) = [83, 71, 0] ++ twoL t.size ++ ((bytesN t).take (q + 1)).flatMap twoL) := fun q hq R h => by
    obtain ⟨p1, p2⟩ := bytesN_at1 hq
    have hb := t[q].toNat_lt
    have hx : (bytesN t)[q]? = some t[q].toNat := by
      have := congrArg (fun l => l[0]?) p2
      simpa using this
    have e2 : twoL t[q].toNat = [t[q].toNat, 0] := by
      unfold twoL
      rw [Nat.mod_eq_of_lt (by omega), Nat.div_eq_of_lt (by omega)]
    rw [bytesN_appK, bytesN_appK, h, p1, List.take_add_one, hx, List.flatMap_append]
    show _ ++ [t[q].toNat] ++ [0] = _
    simp [e2]
  have hlen : Hid (∀ (q : Nat) (R : ByteArray), q ≤ t.size → bytesN R = [83, 71, 0] ++ twoL t.size ++ ((bytesN t).take q).flatMap twoL → R.size = 5 + 2 * q) := fun q R hq h => by
    have e := congrArg List.length h
    rw [bytesN_len] at e
    have : (((bytesN t).take q).flatMap twoL).length = 2 * q := by
      rw [more_len, List.length_take, bytesN_len]; omega
    rw [List.length_append, List.length_append, this, show (twoL t.size).length = 2 from rfl] at e
    simp at e
    omega
  generalize hTL : bytesB (twoL t.size) = TL at *
  have hx0 : ¬ 9223372036854775807 < 3 + TL.size := by omega
  generalize hS : [83, 71, 0] ++ twoL t.size = S at *
  clear hS
  generalize hx : t.size % 256 = x at *
  generalize hy : t.size / 256 = y at *
  clear hx hy hTL hz
  go_enter Tryz.func17, Tryz.ntmps17
  go_wp2_with fail
  go_loopw [4, 5] (fun rv iv wr => ∃ (q : Nat) (R : ByteArray), rv = .string R ∧ iv = .int .i64 (q : Int) ∧ q ≤ t.size ∧ Hid (bytesN R = S ++ ((bytesN t).take q).flatMap twoL) ∧ Kept [] w wr) (fun _ iv _ => ((t.size : Int) - intOf iv).toNat)
  case atStart => exact ⟨0, _, rfl, rfl, Nat.zero_le _, h0, hk.out _⟩
  case round =>
    clear h0 hconv
    obtain ⟨q, R, rfl, rfl, hq, hR, hK⟩ := hrel
    have hRs := hlen.out q R hq hR.out
    by_cases hlt : (q : Int) < (t.size : Int)
    · have hR2 : Hid (_ = _) := hnx.out q (by omega) R hR.out
      have hKH : Hid (Kept _ _ _) := hK
      have hes : (t.extract q (q + 1)).size = 1 := by rw [ByteArray.size_extract]; omega
      clear hfin hnx hlen hK hR
      go_wp2
      exact ⟨⟨q + 1, _, rfl, by go_num, by omega, hR2, hKH.out⟩, by simp only [intOf]; omega⟩
    · have hqe : q = t.size := by omega
      subst hqe
      have hF : Hid (HasText _ _ _) := hfin.out R hR.out
      have hKH : Hid (Kept _ _ _) := hK
      clear hfin hnx hlen hK hR
      go_wp2
      go_ret
      exact ⟨_, rfl, ⟨hF.out, by unfold maxLen; omega⟩, hKH.out⟩

end Go.Proofs.YtgifhgnccmnbiabGreatDoor

set_option linter.unusedVariables false
set_option linter.unusedSimpArgs false
namespace Go.Proofs.YtgifhgnccmnbiabGreatDoor
open Go.RowKit Go.IntWalk

theorem packZ_text {t : ByteArray} (ht : t.size ≤ 600) (k : Nat) (hk : k < 4) (w : World) : Calls Tryz.prog 15 #[.string t, .int .i64 (9 + (k : Int))] w fun e w' => (∃ f : ByteArray, e = .returned (.tuple #[.string f, .int .i64 0]) ∧ HasText f 90 (bytesN t) ∧ f.size ≤ maxLen) ∧ Below w.heap.size w w' := by
  refine (packZ_any t (by unfold maxLen; omega) (9 + (k : Int)) w).mono ?_
  rintro e w' ⟨ho, b⟩
  refine ⟨?_, b⟩
  rcases ho with ⟨h1, h2⟩ | ⟨_, h1, _⟩ | ⟨h1, h2, h3, h4⟩
  · omega
  · omega
  · refine ⟨_, h4, zfile_text h1 (by omega), ?_⟩
    have := zfile_isZ (t := t) (wd := (9 + (k : Int)).toNat) h1 (by omega)
    have := this.1.2.1
    unfold maxLen; omega
theorem packG_text {t : ByteArray} (ht : t.size ≤ 600) (w : World) : Calls Tryz.prog 16 #[.string t] w fun e w' => (∃ f : ByteArray, e = .returned (.tuple #[.string f, .int .i64 0]) ∧ HasText f 71 (bytesN t) ∧ f.size ≤ maxLen) ∧ Below w.heap.size w w' := by
  refine (packG_any t (by unfold maxLen; omega) w).mono ?_
  rintro e w' ⟨ho, b⟩
  refine ⟨?_, b⟩
  rcases ho with ⟨h1, h2⟩ | ⟨h1, q, hq, h4⟩
  · omega
  · refine ⟨_, h4, gfile_text h1 hq.le, ?_⟩
    have := (gfile_ok h1 hq.le).most
    unfold maxLen; omega

set_option maxHeartbeats 4000000 in
set_option maxRecDepth 100000 in
theorem alike_law (inv fold whole num : Bool) (mx : Int) (p t : ByteArray) (c : Int) (w : World) (htab : TabP w) (hm1 : -9223372036854775808 ≤ mx) (hm2 : mx ≤ 9223372036854775807) (hp : p.size ≤ maxLen) (ht : t.size ≤ maxLen) (hc1 : -9223372036854775808 ≤ c) (hc2 : c ≤ 9223372036854775807) :
    Calls Tryz.prog 4 #[.agg #[.bool inv, .bool fold, .bool whole, .bool num, .int .i64 mx], .string p, .string t, .int .i64 c] w fun e w' => e = .returned (.bool true) ∧ Below w.heap.size w w' := by
  have htb : Hid (∀ w', Below w.heap.size w w' → TabP w') := fun w' b => htab.kept (below_kept b)
  have h0 : Hid (∀ o, Below w.heap.size w (w.alloc o)) := fun o => (Below.refl _ _).alloc (Nat.le_refl _) o
  clear htab
  go_enter Tryz.func4, Tryz.ntmps4
  go_wp2_with fail
  refine (awake_any _ (htb.out _ (h0.out _))).mono ?_
  rintro e w1 ⟨rfl, b1⟩
  have B1 : Hid (Blk w1 w.heap.size #[.bool inv, .bool fold, .bool whole, .bool num, .int .i64 mx] 23) := Blk.kept (Blk.new w _ _) (below_kept b1) (by simp)
  have b1 : Hid (Below w.heap.size w w1) := (h0.out _).trans (b1.mono (by simp))
  clear h0
  go_wp2_with fail
  refine (some2_any t 600 ht (by omega) _).mono ?_
  rintro e w2 ⟨⟨s, rfl, hs, _⟩, hw2⟩
  subst hw2
  go_wp2_with fail
  refine (pick_any c 4 hc1 hc2 (by omega) (by omega) _).mono ?_
  rintro e w3 ⟨⟨k, rfl, hk⟩, hw3⟩
  subst hw3
  clear hc1 hc2
  have hXs : (bytesN s).length ≤ 1099511627776 := by rw [bytesN_len]; omega
  obtain ⟨n, x, hcs⟩ := count_same (inv := inv) (fold := fold) (whole := whole) (num := num) hp (bytesN s) hXs hm1 hm2
  obtain ⟨g, y, hgs⟩ := grep_same (inv := inv) (fold := fold) (whole := whole) (num := num) hp (bytesN s) hXs hm1 hm2
  have hc : Hid (∀ f kind, HasText f kind (bytesN s) → f.size ≤ maxLen → ∀ w, Calls _ _ _ w _) := hcs
  have hg : Hid (∀ f kind, HasText f kind (bytesN s) → f.size ≤ maxLen → ∀ w, TabP w → Calls _ _ _ w _) := hgs
  clear hcs hgs hXs
  go_wp2_with fail
  refine (packZ_text hs k hk _).mono ?_
  rintro e w4 ⟨⟨fz, rfl, hz1, hz2⟩, b4⟩
  have B4 : Hid (Blk _ _ _ _) := Blk.kept B1.out (below_kept b4) (by simp)
  have b4 : Hid (Below w.heap.size w w4) := b1.out.trans (b4.mono b1.out.size)
  have hz : Hid (HasText _ _ _) := hz1
  clear b1 B1 hz1
  go_wp2_with fail
  refine (packG_text hs _).mono ?_
  rintro e w5 ⟨⟨fg, rfl, hz1, hg2⟩, b5⟩
  have B5 : Hid (Blk _ _ _ _) := Blk.kept B4.out (below_kept b5) (by simp)
  have b5 : Hid (Below w.heap.size w w5) := b4.out.trans (b5.mono b4.out.size)
  have hgt : Hid (HasText _ _ _) := hz1
  clear b4 B4 hz1
  go_wp2_with fail
  refine (plain_any s hs _).mono ?_
  rintro e w6 ⟨fp, rfl, ⟨hz1, hp2⟩, k6⟩
  have B6 : Hid (Blk _ _ _ _) := Blk.kept B5.out k6 (by simp)
  have b6 : Hid (Below w.heap.size w w6) := b5.out.trans (k6.below b5.out.size (by simp))
  have hpt : Hid (HasText _ _ _) := hz1
  clear b5 B5 hz1 k6
  obtain ⟨o0, o1, o2, o3, o4, ol⟩ := all5 B6.out
  go_wp2_with fail
  refine (hc.out fz _ hz.out hz2 _).mono ?_
  rintro e w7 ⟨rfl, b7⟩
  have B7 : Hid (Blk _ _ _ _) := Blk.kept B6.out (below_kept b7) (by simp)
  have b7 : Hid (Below w.heap.size w w7) := b6.out.trans (b7.mono b6.out.size)
  clear b6 B6 o0 o1 o2 o3 o4 ol
  obtain ⟨o0, o1, o2, o3, o4, ol⟩ := all5 B7.out
  go_wp2_with fail
  refine (hc.out fg _ hgt.out hg2 _).mono ?_
  rintro e w8 ⟨rfl, b8⟩
  have B8 : Hid (Blk _ _ _ _) := Blk.kept B7.out (below_kept b8) (by simp)
  have b8 : Hid (Below w.heap.size w w8) := b7.out.trans (b8.mono b7.out.size)
  clear b7 B7 o0 o1 o2 o3 o4 ol
  obtain ⟨o0, o1, o2, o3, o4, ol⟩ := all5 B8.out
  go_wp2_with fail
  refine (hc.out fp _ hpt.out hp2 _).mono ?_
  rintro e w9 ⟨rfl, b9⟩
  have B9 : Hid (Blk _ _ _ _) := Blk.kept B8.out (below_kept b9) (by simp)
  have b9 : Hid (Below w.heap.size w w9) := b8.out.trans (b9.mono b8.out.size)
  clear b8 B8 o0 o1 o2 o3 o4 ol hc
  obtain ⟨o0, o1, o2, o3, o4, ol⟩ := all5 B9.out
  go_wp2_with fail
  refine (hg.out fz _ hz.out hz2 _ (htb.out _ b9.out)).mono ?_
  rintro e w10 ⟨rfl, b10⟩
  have B10 : Hid (Blk _ _ _ _) := Blk.kept B9.out (below_kept b10) (by simp)
  have b10 : Hid (Below w.heap.size w w10) := b9.out.trans (b10.mono b9.out.size)
  clear b9 B9 o0 o1 o2 o3 o4 ol
  obtain ⟨o0, o1, o2, o3, o4, ol⟩ := all5 B10.out
  go_wp2_with fail
  refine (hg.out fg _ hgt.out hg2 _ (htb.out _ b10.out)).mono ?_
  rintro e w11 ⟨rfl, b11⟩
  have B11 : Hid (Blk _ _ _ _) := Blk.kept B10.out (below_kept b11) (by simp)
  have b11 : Hid (Below w.heap.size w w11) := b10.out.trans (b11.mono b10.out.size)
  clear b10 B10 o0 o1 o2 o3 o4 ol
  obtain ⟨o0, o1, o2, o3, o4, ol⟩ := all5 B11.out
  go_wp2_with fail
  refine (hg.out fp _ hpt.out hp2 _ (htb.out _ b11.out)).mono ?_
  rintro e w12 ⟨rfl, b12⟩
  have b12 : Hid (Below w.heap.size w w12) := b11.out.trans (b12.mono b11.out.size)
  clear b11 B11 o0 o1 o2 o3 o4 ol hg
  go_wp2
  go_ret
  exact ⟨rfl, b12.out⟩

end Go.Proofs.YtgifhgnccmnbiabGreatDoor

set_option linter.unusedVariables false
set_option linter.unusedSimpArgs false
namespace Go.Proofs.YtgifhgnccmnbiabGreatDoor
open Go.ChangeShapes Go.WideShapes Go.ChangeAt Go.RowKit

theorem optCells : Tryz.prog.cellsOf 23 = 5 := by kernel_rfl
theorem boolCell : Tryz.prog.cellsOf 4 = 1 := by kernel_rfl
theorem intCell : Tryz.prog.cellsOf 3 = 1 := by kernel_rfl

section
variable {H : Type} {enc : TypeId × Value → H} {w : World} {base : Nat} {spare : Nat → Bool} {held : Bool}
set_option maxRecDepth 100000 in
theorem open_options {r : Reach} {b0 : Nat} {v : Value} {d : DataW H} {ps : List MemPlace} (hval : Value.okWide Tryz.prog w r b0 23 v) (hd : DataW.Trod enc Tryz.prog w base spare held 23 v d ps) :
    ∃ (i f wh nu : Bool) (mx : Int), v = .agg #[.bool i, .bool f, .bool wh, .bool nu, .int .i64 mx] ∧ d = .agg [.lit (.bool i), .lit (.bool f), .lit (.bool wh), .lit (.bool nu), .lit (.int .i64 mx)] ∧ ps = [] ∧ (Lit.int .i64 mx).wf = true := by
  obtain ⟨cs, rfl, hsz⟩ := okWide_struct Tryz.underlying23 hval
  rw [optCells] at hsz
  obtain ⟨l⟩ := cs
  match l, hsz with
  | [c0, c1, c2, c3, c4], _ =>
  obtain ⟨fuel, hf⟩ := hd
  obtain ⟨xs, n, _, hx, _, hlen, hall⟩ := DataW.trod_struct Tryz.underlying23 hf
  match xs, hlen with
  | [y0, y1, y2, y3, y4], _ =>
  have g0 : DataW.trod enc Tryz.prog w base spare held n 4 [c0] = some y0 := by
    have h : DataW.trod enc Tryz.prog w base spare held n 4 (([c0, c1, c2, c3, c4].drop 0).take (Tryz.prog.cellsOf 4)) = some y0 := hall 0 _ rfl
    rw [boolCell] at h
    exact h
  have g1 : DataW.trod enc Tryz.prog w base spare held n 4 [c1] = some y1 := by
    have h : DataW.trod enc Tryz.prog w base spare held n 4 (([c0, c1, c2, c3, c4].drop 1).take (Tryz.prog.cellsOf 4)) = some y1 := hall 1 _ rfl
    rw [boolCell] at h
    exact h
  have g2 : DataW.trod enc Tryz.prog w base spare held n 4 [c2] = some y2 := by
    have h : DataW.trod enc Tryz.prog w base spare held n 4 (([c0, c1, c2, c3, c4].drop 2).take (Tryz.prog.cellsOf 4)) = some y2 := hall 2 _ rfl
    rw [boolCell] at h
    exact h
  have g3 : DataW.trod enc Tryz.prog w base spare held n 4 [c3] = some y3 := by
    have h : DataW.trod enc Tryz.prog w base spare held n 4 (([c0, c1, c2, c3, c4].drop 3).take (Tryz.prog.cellsOf 4)) = some y3 := hall 3 _ rfl
    rw [boolCell] at h
    exact h
  have g4 : DataW.trod enc Tryz.prog w base spare held n 3 [c4] = some y4 := by
    have h : DataW.trod enc Tryz.prog w base spare held n 3 (([c0, c1, c2, c3, c4].drop 4).take (Tryz.prog.cellsOf 3)) = some y4 := hall 4 _ rfl
    rw [intCell] at h
    exact h
  obtain ⟨b0', e0, rfl⟩ := DataW.trod_bool Tryz.underlying4 g0
  obtain ⟨b1', e1, rfl⟩ := DataW.trod_bool Tryz.underlying4 g1
  obtain ⟨b2', e2, rfl⟩ := DataW.trod_bool Tryz.underlying4 g2
  obtain ⟨b3', e3, rfl⟩ := DataW.trod_bool Tryz.underlying4 g3
  obtain ⟨m, e4, rfl, wm⟩ := DataW.trod_int Tryz.underlying3 g4
  simp only [List.cons.injEq, and_true] at e0 e1 e2 e3 e4
  subst e0 e1 e2 e3 e4
  simp only [Prod.mk.injEq] at hx
  obtain ⟨rfl, rfl⟩ := hx
  exact ⟨_, _, _, _, _, rfl, rfl, rfl, wm⟩
set_option maxRecDepth 100000 in
theorem shut_options (i f wh nu : Bool) {mx : Int} (hm : (Lit.int .i64 mx).wf = true) :
    DataW.Trod enc Tryz.prog w base spare held 23 (.agg #[.bool i, .bool f, .bool wh, .bool nu, .int .i64 mx]) (.agg [.lit (.bool i), .lit (.bool f), .lit (.bool wh), .lit (.bool nu), .lit (.int .i64 mx)]) [] := ⟨2, by
  have fb : ∀ b : Bool, DataW.trod enc Tryz.prog w base spare held 1 4 [.bool b] = some (.lit (.bool b), []) := fun b => by simp [DataW.trod, Tryz.underlying4]
  have fi : DataW.trod enc Tryz.prog w base spare held 1 3 [.int .i64 mx] = some (.lit (.int .i64 mx), []) := by simp [DataW.trod, Tryz.underlying3, hm]
  have := trod_struct_mk (enc := enc) (w := w) (base := base) (spare := spare) (held := held) (n := 1) (cs := [.bool i, .bool f, .bool wh, .bool nu, .int .i64 mx])
    (xs := [(.lit (.bool i), []), (.lit (.bool f), []), (.lit (.bool wh), []), (.lit (.bool nu), []), (.lit (.int .i64 mx), [])]) Tryz.underlying23 (by simp [optCells]) (by simp [boolCell, intCell, fb, fi])
  simpa [Value.cells] using this⟩
end
end Go.Proofs.YtgifhgnccmnbiabGreatDoor

set_option linter.unusedVariables false
namespace Go.Proofs.YtgifhgnccmnbiabGreatDoor
open Go

theorem tab_of_vars {P : Program} {W : World} {name : String} {k : IntKind} {zs : List Int} {rest : List (String × DataW Unit)} {ps : List MemPlace} {g : Nat} {t e : TypeId} {n : Nat}
    (hg : P.globalNamed name = some g) (hty : (P.globals[g]?).map (·.type) = some t) (ht : P.underlying t = some (.array n e)) (he : P.underlying e = some (.int k)) (hce : P.cellsOf e = 1) (hct : P.cellsOf t = n)
    (h : DataW.LaidVars P W ((name, Lib.tabData k zs) :: rest) ps) : Lib.TabIs P W name k zs := by
  obtain ⟨g', t', cs, fuel, p, q, hg', ht', hvar, hd, _, _⟩ := h
  obtain rfl := Option.some.inj (hg.symm.trans hg')
  obtain rfl := Option.some.inj (hty.symm.trans ht')
  unfold Lib.TabIs
  rw [hvar, ← Lib.cells_of_tab ht he hce hct hd]
theorem vars_tail {P : Program} {W : World} {x : String × DataW Unit} {rest : List (String × DataW Unit)} {ps : List MemPlace} (h : DataW.LaidVars P W (x :: rest) ps) : ∃ q, DataW.LaidVars P W rest q := by
  obtain ⟨g', t', cs, fuel, p, q, _, _, _, _, h5, _⟩ := h
  exact ⟨q, h5⟩
/-- The block and the type of the table. -/
noncomputable def powG : Nat := (Tryz.prog.globalNamed powN).getD 0
noncomputable def powT : TypeId := ((Tryz.prog.globals[powG]?).map (·.type)).getD 0
theorem tabP_of_laid {W : World} (h : laidMetH Tryz.prog Rows.alikeRow.laid W) : TabP W := by
  have h' : laidMet Tryz.prog Rows.alikeRow.laid W := h
  obtain ⟨ps, hv, _⟩ := h'
  obtain ⟨q1, h1⟩ := vars_tail hv
  obtain ⟨q2, h2⟩ := vars_tail h1
  exact tab_of_vars (g := powG) (t := powT) (n := 20) (e := 56) (by kernel_rfl) (by kernel_rfl) (by kernel_rfl) (by kernel_rfl) (by kernel_rfl) (by kernel_rfl) h2

/-- The cells of a listed table. -/
def cellsD : DataW Unit → Array Value
  | .agg l => (l.filterMap fun d => match d with | .lit (.int k n) => some (.int k n) | _ => none).toArray
  | _ => #[]
/-- A world that meets the condition: the settled one, the tables' cells laid. -/
noncomputable def laidWorld (os : Os) : World :=
  let w0 := World.holding Tryz.prog os ⟨#[], #[], []⟩
  { w0 with heap := Rows.alikeRow.laid.foldl (fun h x => h.modify ((Tryz.prog.globalNamed x.1).getD 0) fun
      | .cells _ t frozen => .cells (cellsD x.2) t frozen
      | o => o) w0.heap }
set_option maxRecDepth 100000 in
theorem laidWorld_met (os : Os) (args : Array Value) : laidMetH Tryz.prog Rows.alikeRow.laid ((laidWorld os).forCall (fun _ _ => 0) ⟨#[], args, []⟩).memory :=
  laidMetH_of_parts (laidMet_of_run' 8 (by kernel_rfl) (by kernel_rfl)) (by kernel_rfl)

end Go.Proofs.YtgifhgnccmnbiabGreatDoor
