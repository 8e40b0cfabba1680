/- Package packed: WriteCodes; package sift: PackZ: walked. -/
import Derived.Test.YtgifhgnccmnbiaaZwCode
set_option linter.unusedVariables false
set_option linter.unusedSimpArgs false
namespace Go.Proofs.Ytgifhgnccmnbiaa
open Go.RowKit Go.IntWalk

/-- What is written so far, and the table. -/
structure WS where
  V : Nat
  K : Nat
  tab : List Ent
def wwrite (most : Nat) (s : WS) (a : Nat) : WS := ⟨s.V + a * 2 ^ s.K, s.K + zwid most s.tab, s.tab⟩
def wgo (most : Nat) (s : WS) (num : Option Nat) (c : Nat) : WS × Nat :=
  match num with
  | none => (s, c)
  | some a =>
    match zfind s.tab (a, c) 257 with
    | some i => (s, i)
    | none => (⟨s.V + a * 2 ^ s.K, s.K + zwid most s.tab, zjoin most s.tab (a, c)⟩, c)
def numI : Option Nat → Int
  | none => -1
  | some a => (a : Int)
/-- What stays. -/
structure WInv (most q : Nat) (s : WS) (num : Option Nat) : Prop where
  len : s.tab.length ≤ q
  room : s.tab = [] ∨ 257 + s.tab.length ≤ 2 ^ most
  bits : s.K ≤ 8 + 12 * q
  num : ∀ a, num = some a → a < 257 + s.tab.length ∧ a ≠ 256
  ent : ∀ (i : Nat) (x : Ent), s.tab[i]? = some x → x.1 < 257 + i ∧ x.1 ≠ 256 ∧ x.2 < 256
theorem zfind_lt : ∀ {l : List Ent} {x : Ent} {k i : Nat}, zfind l x k = some i → k ≤ i ∧ i < k + l.length ∧ l[i - k]? = some x
  | [], _, _, _, h => by simp [zfind] at h
  | y :: l, x, k, i, h => by
    rw [zfind] at h
    by_cases hy : y = x
    · rw [if_pos hy] at h; simp at h; subst h; simp [hy]
    · rw [if_neg hy] at h
      obtain ⟨h1, h2, h3⟩ := zfind_lt h
      refine ⟨by omega, by simp; omega, ?_⟩
      rw [show i - k = (i - (k + 1)) + 1 by omega]
      simpa using h3
theorem zjoin_cases (most : Nat) (tab : List Ent) (x : Ent) : (zjoin most tab x = tab ++ [x] ∧ 257 + tab.length < 2 ^ most) ∨ (zjoin most tab x = tab ∧ 2 ^ most ≤ 257 + tab.length) := by
  unfold zjoin
  by_cases h : 257 + tab.length < 2 ^ most
  · exact Or.inl ⟨if_pos h, h⟩
  · exact Or.inr ⟨if_neg h, by omega⟩
theorem zwid_bd (most : Nat) (tab : List Ent) : 9 ≤ zwid most tab ∧ zwid most tab ≤ 12 := widP_bd _ _
theorem WInv.fits {most q : Nat} {s : WS} {num : Option Nat} (h : WInv most q s num) (hm : 9 ≤ most ∧ most ≤ 12) {a : Nat} (ha : num = some a) : a < 2 ^ zwid most s.tab := by
  obtain ⟨h1, h2⟩ := h.num a ha
  have hr := h.room
  have hb := zwid_bd most s.tab
  unfold zwid at *
  have p9 : (2 : Nat) ^ 9 = 512 := by decide
  have p10 : (2 : Nat) ^ 10 = 1024 := by decide
  have p11 : (2 : Nat) ^ 11 = 2048 := by decide
  have p12 : (2 : Nat) ^ 12 = 4096 := by decide
  have hle : s.tab = [] ∨ 0 < s.tab.length := by
    cases s.tab with
    | nil => exact Or.inl rfl
    | cons _ _ => exact Or.inr (by simp)
  have hmm : most = 9 ∨ most = 10 ∨ most = 11 ∨ most = 12 := by omega
  rcases hle with hle | hle
  · rw [hle] at h1 ⊢
    simp at h1
    have : 2 ^ 9 ≤ 2 ^ widP (if 0 < ([] : List Ent).length then 257 + (([] : List Ent).length - 1) else 257) most := Nat.pow_le_pow_right (by decide) (widP_bd _ _).1
    omega
  · have hr2 : 257 + s.tab.length ≤ 2 ^ most := by
      rcases hr with hr | hr
      · rw [hr] at hle; simp at hle
      · exact hr
    rw [if_pos hle]
    unfold widP
    rcases hmm with rfl | rfl | rfl | rfl <;> (repeat' split) <;> omega
theorem WInv.go {most q : Nat} {s : WS} {num : Option Nat} (h : WInv most q s num) (hm : 9 ≤ most ∧ most ≤ 12) {c : Nat} (hc : c < 256) : WInv most (q + 1) (wgo most s num c).1 (some (wgo most s num c).2) := by
  unfold wgo
  cases num with
  | none => exact ⟨Nat.le_succ_of_le h.len, h.room, Nat.le_trans h.bits (by omega), fun a ha => by simp only [Option.some.injEq] at ha; subst ha; exact ⟨by show c < _; omega, by show c ≠ _; omega⟩, h.ent⟩
  | some a =>
    simp only []
    cases hf : zfind s.tab (a, c) 257 with
    | some i =>
      obtain ⟨h1, h2, _⟩ := zfind_lt hf
      exact ⟨by have := h.len; simp only []; omega, h.room, by have := h.bits; simp only []; omega, fun a' ha => by simp only [Option.some.injEq] at ha; simp only []; omega, h.ent⟩
    | none =>
      have hb := zwid_bd most s.tab
      have hn := h.num a rfl
      rcases zjoin_cases most s.tab (a, c) with ⟨e, hr⟩ | ⟨e, hr⟩
      · refine ⟨by simp only [e]; have := h.len; simp; omega, Or.inr (by simp only [e]; simp; omega), by have := h.bits; simp only []; omega, fun a' ha => by simp only [Option.some.injEq] at ha; simp only [e]; simp; omega, fun i x hx => ?_⟩
        simp only [e] at hx
        by_cases hi : i < s.tab.length
        · rw [List.getElem?_append_left hi] at hx; exact h.ent i x hx
        · have hi2 : i = s.tab.length := by
            have := (List.getElem?_eq_some_iff.1 hx).1
            simp at this; omega
          subst hi2
          rw [List.getElem?_append_right (Nat.le_refl _), Nat.sub_self] at hx
          simp at hx
          subst hx
          exact ⟨hn.1, hn.2, hc⟩
      · exact ⟨by simp only [e]; have := h.len; omega, by simp only [e]; exact h.room, by have := h.bits; simp only []; omega, fun a' ha => by simp only [Option.some.injEq] at ha; simp only [e]; omega, by simp only [e]; exact h.ent⟩

set_option maxHeartbeats 2000000 in
set_option maxRecDepth 100000 in
theorem goOn_any {w : World} {b most q : Nat} {s : WS} {num : Option Nat} {v jv : Value} (h : CWM w b most s.V s.K s.tab v jv) (hI : WInv most q s num) (hm : 9 ≤ most ∧ most ≤ 12) (hq : q ≤ 1000) (c : Nat) (hc : c < 256) :
    Calls Try.prog 82 #[.pointer (some ⟨b, 0, none⟩), .int .i64 (numI num), .int .i64 (c : Int)] w fun e w' => e = .returned (.int .i64 ((wgo most s num c).2 : Int)) ∧ CwOut w w' b most (wgo most s num c).1.V (wgo most s num c).1.K (wgo most s num c).1.tab := by
  have hlen := hI.len
  have hbits := hI.bits
  cases num with
  | none =>
    have ho : Hid (CwOut w w b most s.V s.K s.tab) := ⟨Below.refl _ _, _, _, h⟩
    have e : Hid (wgo most s none c = (s, c)) := rfl
    rw [show wgo most s none c = (s, c) from rfl]
    clear h hI
    unfold numI
    go_enter Try.func82, Try.ntmps82
    go_wp2
    go_ret
    exact ⟨rfl, ho.out⟩
  | some a =>
    have hf : Hid (∀ w', w' = w → Calls _ _ _ w' _) := fun w' hw => by subst hw; exact find_any h (by omega) a c
    have han := hI.num a rfl
    cases hz : zfind s.tab (a, c) 257 with
    | some i =>
      have ho : Hid (CwOut w w b most s.V s.K s.tab) := ⟨Below.refl _ _, _, _, h⟩
      have e : wgo most s (some a) c = (s, i) := by unfold wgo; simp only [hz]
      have ei : zfindI s.tab (a, c) = (i : Int) := by unfold zfindI; simp only [hz]
      rw [ei] at hf
      rw [e]
      have hne : (i : Int) ≠ -1 := by omega
      have hna : (a : Int) ≠ -1 := by omega
      clear h hI e ei hz
      unfold numI
      simp only []
      go_enter Try.func82, Try.ntmps82
      go_wp2_with (go_at_call 118; refine (hf.out _ rfl).mono ?_; rintro _ _ ⟨rfl, rfl⟩)
      go_ret
      exact ⟨rfl, ho.out⟩
    | none =>
      have e : wgo most s (some a) c = (⟨s.V + a * 2 ^ s.K, s.K + zwid most s.tab, zjoin most s.tab (a, c)⟩, c) := by unfold wgo; simp only [hz]
      have ei : zfindI s.tab (a, c) = -1 := by unfold zfindI; simp only [hz]
      rw [ei] at hf
      rw [e]
      have hna : (a : Int) ≠ -1 := by omega
      have hw : Hid (Calls _ _ _ w _) := cwrite_any h (by omega) hm.2 (by omega) a (hI.fits hm rfl)
      have hj : Hid (∀ w2, CwOut w w2 b most (s.V + a * 2 ^ s.K) (s.K + zwid most s.tab) s.tab → Calls Try.prog 119 #[.pointer (some ⟨b, 0, none⟩), .int .i64 (a : Int), .int .i64 (c : Int)] w2 fun e w' => e = .returned (.tuple #[]) ∧ CwOut w w' b most (s.V + a * 2 ^ s.K) (s.K + zwid most s.tab) (zjoin most s.tab (a, c))) := fun w2 o => by
        obtain ⟨v2, j2, h2⟩ := o.ex
        refine (join_any h2 (by omega) hm.2 a c).mono ?_
        rintro e w' ⟨rfl, o2⟩
        exact ⟨rfl, o.below.trans o2.below, o2.ex⟩
      clear h hI e ei hz
      unfold numI
      simp only []
      go_enter Try.func82, Try.ntmps82
      go_wp2_with (first
        | (go_at_call 118; refine (hf.out _ rfl).mono ?_; rintro _ _ ⟨rfl, rfl⟩)
        | (go_at_call 83; refine hw.out.mono ?_; rintro _ w2 ⟨rfl, o2⟩)
        | (go_at_call 119; refine (hj.out _ o2).mono ?_; rintro _ w3 ⟨rfl, o3⟩))
      go_ret
      exact ⟨rfl, o3⟩

def wrun (most : Nat) (t : ByteArray) : Nat → WS × Option Nat
  | 0 => (⟨most, 8, []⟩, none)
  | q + 1 =>
    let r := wgo most (wrun most t q).1 (wrun most t q).2 (bt t q)
    (r.1, some r.2)
theorem wrun_inv {most : Nat} {t : ByteArray} (hm : 9 ≤ most ∧ most ≤ 12) : ∀ q, WInv most q (wrun most t q).1 (wrun most t q).2
  | 0 => ⟨Nat.le_refl _, Or.inl rfl, by simp [wrun], fun a ha => by simp [wrun] at ha, fun i x hx => by simp [wrun] at hx⟩
  | q + 1 => (wrun_inv hm q).go hm (bt_bd t q)
def wfin (most : Nat) (r : WS × Option Nat) : WS :=
  match r.2 with
  | none => r.1
  | some a => wwrite most r.1 a
def zfile (most : Nat) (t : ByteArray) : ByteArray := ⟨#[83, 90]⟩ ++ bytesB (digs (wfin most (wrun most t t.size)).V (((wfin most (wrun most t t.size)).K + 7) / 8))

/-- What the loop over the bytes keeps. -/
structure WLoop (w0 w : World) (most : Nat) (t : ByteArray) (q : Nat) : Prop where
  below : Below w0.heap.size w0 w
  ex : ∃ v jv, CWM w w0.heap.size most (wrun most t q).1.V (wrun most t q).1.K (wrun most t q).1.tab v jv

set_option maxHeartbeats 2000000 in
set_option maxRecDepth 100000 in
theorem writeCodes_any (t : ByteArray) (ht : t.size ≤ 600) (most : Nat) (hm : 9 ≤ most ∧ most ≤ 12) (w : World) :
    Calls Try.prog 54 #[.string t, .int .i64 (most : Int)] w fun e w' => e = .returned (.string (zfile most t)) ∧ Below w.heap.size w w' := by
  have hb0 : BWL (w.alloc (.cells #[.slice none 0 0, .int .i64 0, .int .i64 0, .int .i64 (most : Int), .slice none 0 0] 146)) w.heap.size #[.int .i64 (most : Int), .slice none 0 0] 146 0 0 0 (.slice none 0 0) :=
    ⟨Blk.new w _ _, World.ownsRow_nil _ _ _ _⟩
  have hn0 : Hid (Calls _ _ _ _ _) := number_any _ w.heap.size #[.int .i64 (most : Int), .slice none 0 0] 146 0 0 _ hb0 (by decide) (by decide) most 8 (by omega) (by omega) (by omega)
  have h0 : Hid (∀ w2, NumOut (w.alloc (.cells #[.slice none 0 0, .int .i64 0, .int .i64 0, .int .i64 (most : Int), .slice none 0 0] 146)) w2 w.heap.size #[.int .i64 (most : Int), .slice none 0 0] 146 (0 + most * 2 ^ 0) (0 + 8) → WLoop w w2 most t 0) := fun w2 o => by
    obtain ⟨v1, hW⟩ := o.ex
    have hbd := o.bd
    rw [show 0 + most * 2 ^ 0 = most by simp] at hW hbd
    exact ⟨((Below.refl _ _).alloc (Nat.le_refl _) _).trans o.below, v1, _, ⟨hW, World.ownsRow_nil _ _ _ _, hbd⟩⟩
  have hz : Hid (zfile most t = ⟨#[83, 90]⟩ ++ bytesB (digs (wfin most (wrun most t t.size)).V (((wfin most (wrun most t t.size)).K + 7) / 8))) := rfl
  clear hb0
  go_enter Try.func54, Try.ntmps54
  go_wp2_with (go_at_call 81; refine hn0.out.mono ?_; rintro _ w2 ⟨rfl, o2⟩; have hL0 : Hid (WLoop _ _ _ _ _) := h0.out _ o2)
  go_loopw [6, 7] (fun nv iv wr => ∃ q : Nat, nv = .int .i64 (numI (wrun most t q).2) ∧ iv = .int .i64 (q : Int) ∧ q ≤ t.size ∧ WLoop w wr most t q) (fun _ iv _ => ((t.size : Int) - intOf iv).toNat)
  case atStart => exact ⟨0, rfl, rfl, Nat.zero_le _, hL0.out⟩
  case round =>
    clear hn0 h0 o2 hL0
    obtain ⟨q, rfl, rfl, hq, hI⟩ := hrel
    have hinv := wrun_inv (t := t) hm q
    by_cases hlt : (q : Int) < (t.size : Int)
    · have hqn : q < t.size := by omega
      have hc8 := t[q].toNat_lt
      obtain ⟨hBl, v1, jv1, hC⟩ := hI
      have hg : Hid (Calls _ _ _ wr _) := goOn_any hC hinv hm (by omega) t[q].toNat (by omega)
      have e1 : Hid (wrun most t (q + 1) = ((wgo most (wrun most t q).1 (wrun most t q).2 t[q].toNat).1, some (wgo most (wrun most t q).1 (wrun most t q).2 t[q].toNat).2)) := by
        show _ = _
        rw [wrun, bt_lt hqn]
      have hnext : Hid (∀ w3, CwOut wr w3 w.heap.size most (wgo most (wrun most t q).1 (wrun most t q).2 t[q].toNat).1.V (wgo most (wrun most t q).1 (wrun most t q).2 t[q].toNat).1.K (wgo most (wrun most t q).1 (wrun most t q).2 t[q].toNat).1.tab → WLoop w w3 most t (q + 1)) := fun w3 o => ⟨hBl.trans o.below, by rw [e1.out]; exact o.ex⟩
      have hnum : Hid (((wgo most (wrun most t q).1 (wrun most t q).2 t[q].toNat).2 : Int) = numI (wrun most t (q + 1)).2) := by show _ = _; rw [e1.out]; rfl
      clear hBl hC hinv e1
      generalize wgo most (wrun most t q).1 (wrun most t q).2 t[q].toNat = G at *
      generalize numI (wrun most t q).2 = N0 at *
      go_wp2_with (go_at_call 82; refine hg.out.mono ?_; rintro _ w3 ⟨rfl, o3⟩)
      refine ⟨⟨q + 1, by rw [← hnum.out], by go_num, by omega, hnext.out _ o3⟩, ?_⟩
      simp only [intOf]; omega
    · have hqe : q = t.size := by omega
      subst hqe
      obtain ⟨hBl, v1, jv1, hC⟩ := hI
      have hbt := hinv.bits
      have hln := hinv.len
      have hend : Hid (∀ (w3 : World) (V K : Nat) (tab : List Ent), Below w.heap.size w w3 → K ≤ 800000 → (∃ v jv, CWM w3 w.heap.size most V K tab v jv) → Calls Try.prog 84 #[.pointer (some ⟨w.heap.size, 0, none⟩)] w3 fun e w' => e = .returned (.string (bytesB (digs V ((K + 7) / 8)))) ∧ Below w.heap.size w w') := fun w3 V K tab hb hk hc => by
        obtain ⟨v, jv, hC⟩ := hc
        refine (bend_any w3 w.heap.size _ _ V K v hC.bits (by decide) hC.bd (by omega)).mono ?_
        rintro e w' ⟨rfl, b2⟩
        exact ⟨rfl, hb.trans b2⟩
      have hzb : Hid (∀ V K : Nat, K ≤ 800000 → (bytesB (digs V ((K + 7) / 8))).size ≤ 200000) := fun V K hk => by
        unfold bytesB
        have : (⟨((digs V ((K + 7) / 8)).map Nat.toUInt8).toArray⟩ : ByteArray).size = (K + 7) / 8 := by
          show (((digs V ((K + 7) / 8)).map Nat.toUInt8).toArray).size = _
          simp [digs_len]
        rw [this]; omega
      cases hnm : (wrun most t t.size).2 with
      | none =>
        have hf : wfin most (wrun most t t.size) = (wrun most t t.size).1 := by unfold wfin; simp only [hnm]
        rw [hf] at hz
        have hcall : Hid (Calls _ _ _ wr _) := hend.out wr _ _ _ hBl (by omega) ⟨_, _, hC⟩
        have hs := hzb.out (wrun most t t.size).1.V (wrun most t t.size).1.K (by omega)
        clear hinv hC hf hnm hend hzb hBl
        unfold numI
        simp only []
        generalize bytesB (digs (wrun most t t.size).1.V (((wrun most t t.size).1.K + 7) / 8)) = R at *
        have hx1 : ¬ 9223372036854775807 < 2 + R.size := by omega
        go_wp2_with (go_at_call 84; refine hcall.out.mono ?_; rintro _ w4 ⟨rfl, b4⟩)
        go_ret
        exact ⟨by rw [hz.out]; rfl, b4⟩
      | some a =>
        have hf : wfin most (wrun most t t.size) = wwrite most (wrun most t t.size).1 a := by unfold wfin; simp only [hnm]
        rw [hf] at hz
        unfold wwrite at hz
        simp only [] at hz
        have hzw := zwid_bd most (wrun most t t.size).1.tab
        have hwr : Hid (Calls _ _ _ wr _) := cwrite_any hC (by omega) hm.2 (by omega) a (hinv.fits hm hnm)
        have hcall : Hid (∀ w4, CwOut wr w4 w.heap.size most ((wrun most t t.size).1.V + a * 2 ^ (wrun most t t.size).1.K) ((wrun most t t.size).1.K + zwid most (wrun most t t.size).1.tab) (wrun most t t.size).1.tab → Calls _ _ _ w4 _) := fun w4 o => hend.out w4 _ _ _ (hBl.trans o.below) (by omega) o.ex
        have hs := hzb.out ((wrun most t t.size).1.V + a * 2 ^ (wrun most t t.size).1.K) ((wrun most t t.size).1.K + zwid most (wrun most t t.size).1.tab) (by omega)
        have hna : (a : Int) ≠ -1 := by omega
        clear hinv hC hf hnm hend hzb hBl hbt hln hzw
        unfold numI
        simp only []
        generalize bytesB (digs ((wrun most t t.size).1.V + a * 2 ^ (wrun most t t.size).1.K) (((wrun most t t.size).1.K + zwid most (wrun most t t.size).1.tab + 7) / 8)) = R at *
        have hx1 : ¬ 9223372036854775807 < 2 + R.size := by omega
        go_wp2_with (first
          | (go_at_call 83; refine hwr.out.mono ?_; rintro _ w4 ⟨rfl, o4⟩)
          | (go_at_call 84; refine (hcall.out _ o4).mono ?_; rintro _ w5 ⟨rfl, b5⟩))
        go_ret
        exact ⟨by rw [hz.out]; rfl, b5⟩

/-- What PackZ comes to. -/
def PackZOut (t : ByteArray) (wd : Int) (e : Ending) : Prop :=
  (600 < t.size ∧ e = .returned (.tuple #[.string ⟨#[]⟩, .int .i64 8])) ∨ (t.size ≤ 600 ∧ (wd < 9 ∨ 12 < wd) ∧ e = .returned (.tuple #[.string ⟨#[]⟩, .int .i64 6])) ∨
  (t.size ≤ 600 ∧ 9 ≤ wd ∧ wd ≤ 12 ∧ e = .returned (.tuple #[.string (zfile wd.toNat t), .int .i64 0]))
set_option maxHeartbeats 1000000 in
theorem packZ_any (t : ByteArray) (ht : t.size ≤ maxLen) (wd : Int) (w : World) :
    Calls Try.prog 29 #[.string t, .int .i64 wd] w fun e w' => PackZOut t wd e ∧ Below w.heap.size w w' := by
  unfold maxLen at ht
  have hb : Hid (Below w.heap.size w w) := Below.refl _ _
  by_cases h1 : (600 : Int) < (t.size : Int)
  · go_enter Try.func29, Try.ntmps29
    go_wp2
    go_ret2
    exact ⟨Or.inl ⟨by omega, rfl⟩, hb.out⟩
  · have hs : Hid (t.size ≤ 600) := by show t.size ≤ 600; omega
    by_cases h2 : wd < 9
    · go_enter Try.func29, Try.ntmps29
      go_wp2
      go_ret2
      exact ⟨Or.inr (Or.inl ⟨hs.out, Or.inl h2, rfl⟩), hb.out⟩
    · by_cases h3 : 12 < wd
      · go_enter Try.func29, Try.ntmps29
        go_wp2
        go_ret2
        exact ⟨Or.inr (Or.inl ⟨hs.out, Or.inr h3, rfl⟩), hb.out⟩
      · obtain ⟨m, rfl⟩ : ∃ m : Nat, wd = (m : Int) := ⟨wd.toNat, by omega⟩
        have hc : Hid (Calls _ _ _ w _) := writeCodes_any t hs.out m (by omega) w
        have hm : Hid (9 ≤ (m : Int) ∧ (m : Int) ≤ 12) := ⟨by omega, by omega⟩
        obtain ⟨R, hR⟩ : ∃ R, Hid (zfile m t = R) := ⟨_, rfl⟩
        rw [hR.out] at hc
        go_enter Try.func29, Try.ntmps29
        go_wp2_with (go_at_call 54; refine hc.out.mono ?_; rintro _ w2 ⟨rfl, b2⟩)
        go_ret2
        exact ⟨Or.inr (Or.inr ⟨hs.out, hm.out.1, hm.out.2, by rw [show ((m : Int)).toNat = m by omega, hR.out]; rfl⟩), b2⟩

end Go.Proofs.Ytgifhgnccmnbiaa
