/- Package sift: Cut, walked. -/
import Derived.Test.YtgifhgnccmnbiaaCutText
set_option linter.unusedVariables false
set_option linter.unusedSimpArgs false
namespace Go.Proofs.Ytgifhgnccmnbiaa
open Go.RowKit Go.IntWalk

theorem codes_zz {f : ByteArray} {n : Nat} (hr : ZRun f n) (hk : zOk (zit (z0 f) n) = true) : ∀ i, i ≤ n → ∃ r T, zitB (f.extract 3 f.size) (bt f 2) i = some r ∧ OnB f i ∧ ZZ (f.extract 3 f.size) (bt f 2) (zit (z0 f) i) r T
  | 0, _ => ⟨{}, [], rfl, fun _ h => by omega, zz0 f⟩
  | i + 1, hi => by
    obtain ⟨r, T, h1, h2, h3⟩ := codes_zz hr hk i (by omega)
    have hg : zgoB (f.extract 3 f.size) (bt f 2) r = true := by rw [← h3.go]; exact hr.on i (by omega)
    have hon : OnB f (i + 1) := fun j hj => by
      by_cases hji : j = i
      · subst hji; exact ⟨r, h1, hg⟩
      · exact h2 j (by omega)
    have hit : zitB (f.extract 3 f.size) (bt f 2) (i + 1) = zsB (f.extract 3 f.size) (bt f 2) r := by
      show (zitB (f.extract 3 f.size) (bt f 2) i).bind (zsB (f.extract 3 f.size) (bt f 2)) = _
      rw [h1]; rfl
    cases hz : zsB (f.extract 3 f.size) (bt f 2) r with
    | none =>
      exfalso
      have hb := (h3.step hg).1 hz
      have hb' : (zit (z0 f) (i + 1)).1.bad = true := hb
      by_cases hin : i + 1 = n
      · rw [hin] at hb'
        unfold zOk at hk
        rw [hb'] at hk; cases hk
      · have := hr.on (i + 1) (by omega)
        unfold zgo at this
        rw [hb'] at this; cases this
    | some r' =>
      obtain ⟨T', hT'⟩ := (h3.step hg).2 r' hz
      exact ⟨r', T', by rw [hit, hz], hon, hT'⟩

theorem stext_of {f : ByteArray} {t : TT} (h : SFile f t) : ∃ T, SText t T := by
  cases h with
  | rules a b c d =>
    have hG := ok_GOk c b d
    obtain ⟨e1, e2, e3, e4, e5⟩ := hG.read
    refine ⟨gTx f (bt f 2), ?_, ?_, ?_, ?_, ?_⟩
    · show Sound (sgG f).1 _
      rw [e2]; exact hG.sound _ (Nat.le_refl _)
    · show ∀ s, s ∈ (sgS f).1 → s < 256 + (sgG f).1.length
      rw [e2, e5]
      intro s hs
      rw [gRu_len]
      exact hG.top _ (Nat.le_refl _) s hs
    · show wholeP (sgG f).1 (sgS f).1 = ptOf ((sgS f).1.flatMap _)
      rw [e2, e5]
      exact whole_pt (hG.sound _ (Nat.le_refl _)) _ (fun s hs => by rw [gTx_len]; exact hG.top _ (Nat.le_refl _) s hs) []
    · show (sgG f).1.length ≤ 9000
      rw [e2, gRu_len]; have := hG.r; omega
    · show (sgS f).1.length ≤ 9000
      rw [e5, gTop_range]
      simp
      have := hG.n1
      unfold gN
      omega
  | codes a b c d x y =>
    obtain ⟨r, T, h1, h2, h3⟩ := codes_zz x y _ (Nat.le_refl _)
    have hI := zit_inv x.on
    have hp := hI.p
    have hpb := hI.pb
    have hsz : (f.extract 3 f.size).size ≤ 4000 := by simp [ByteArray.size_extract]; omega
    have := hI.rules
    have := hI.start
    refine ⟨T, h3.sound, fun s hs => by rw [h3.sound.len]; exact h3.start s hs, by rw [h3.whole, h3.out], by omega, by omega⟩

theorem Sound.one {rs : List RU} {T U : List (List Nat)} (h : Sound rs T) (h' : Sound rs U) : ∀ (k s : Nat), s < k → s < 256 + rs.length → symT T s = symT U s := by
  intro k
  induction k with
  | zero => intro s hs; omega
  | succ k ih =>
    intro s hs hs2
    by_cases h1 : s < 256
    · unfold symT; rw [if_pos h1, if_pos h1]
    · obtain ⟨x, hx⟩ : ∃ x, rs[s - 256]? = some x := ⟨_, List.getElem?_eq_getElem (by omega)⟩
      obtain ⟨u1, u2, u3, _⟩ := h.rule _ _ hx
      obtain ⟨_, _, v3, _⟩ := h'.rule _ _ hx
      have e : symT T s = symT T x.l ++ symT T x.r := by rw [← u3]; unfold symT; rw [if_neg h1]
      have e' : symT U s = symT U x.l ++ symT U x.r := by rw [← v3]; unfold symT; rw [if_neg h1]
      rw [e, e', ih x.l (by omega) (by omega), ih x.r (by omega) (by omega)]
theorem SText.one {t : TT} {T U : List (List Nat)} (h : SText t T) (h' : SText t U) : t.start.flatMap (symT T) = t.start.flatMap (symT U) := by
  have : ∀ l : List Nat, (∀ s, s ∈ l → s < 256 + t.rules.length) → l.flatMap (symT T) = l.flatMap (symT U) := by
    intro l
    induction l with
    | nil => intro _; rfl
    | cons x l ih =>
      intro hl
      rw [List.flatMap_cons, List.flatMap_cons, h.sound.one h'.sound (x + 1) x (by omega) (hl x (by simp)), ih (fun y hy => hl y (by simp [hy]))]
  exact this _ h.start

def RangeOk (x y : Int) (L : Nat) : Prop := 0 ≤ x ∧ x ≤ y ∧ y ≤ (L : Int) ∧ y - x ≤ 2000
structure CutOut (f : ByteArray) (x y : Int) (w w' : World) (e : Ending) : Prop where
  below : Below w.heap.size w w'
  out : ((∀ t, ¬ SFile f t) ∧ e = .returned (.tuple #[.string ⟨#[]⟩, .int .i64 4])) ∨
    ∃ t, SFile f t ∧ ((1099511627776 < t.whole.len ∧ e = .returned (.tuple #[.string ⟨#[]⟩, .int .i64 5])) ∨
      (t.whole.len ≤ 1099511627776 ∧ ¬ RangeOk x y t.whole.len ∧ e = .returned (.tuple #[.string ⟨#[]⟩, .int .i64 6])) ∨
      (t.whole.len ≤ 1099511627776 ∧ RangeOk x y t.whole.len ∧ ∃ T, SText t T ∧ e = .returned (.tuple #[.string (bytesB (cutX (t.start.flatMap (symT T)) x.toNat y.toNat 0)), .int .i64 0])))

set_option maxHeartbeats 4000000 in
set_option maxRecDepth 100000 in
theorem cut_any (f : ByteArray) (hf : f.size ≤ maxLen) (x y : Int) (hx1 : -9223372036854775808 ≤ x) (hx2 : x ≤ 9223372036854775807) (hy1 : -9223372036854775808 ≤ y) (hy2 : y ≤ 9223372036854775807) (w : World) :
    Calls Try.prog 27 #[.string f, .int .i64 x, .int .i64 y] w fun e w' => CutOut f x y w w' e := by
  have hc : Hid (Calls _ _ _ w _) := read_file f hf w
  go_enter Try.func27, Try.ntmps27
  go_wp2_with fail
  refine hc.out.mono ?_
  rintro e w1 ⟨hbl, ho⟩
  have hblH : Hid (Below w.heap.size w w1) := hbl
  have hal : Hid (∀ o, Below w.heap.size w (w1.alloc o)) := fun o => hbl.alloc hbl.size o
  clear hc hbl
  rcases ho with ⟨hn, rfl⟩ | ⟨t, ht, ⟨hb, rfl⟩ | ⟨hb, rv, sv, htv, rfl⟩⟩
  · have hnH : Hid (∀ t, ¬ SFile f t) := hn
    clear hn
    unfold ztext
    go_wp2
    go_ret2
    exact ⟨hal.out _, Or.inl ⟨hnH.out, rfl⟩⟩
  · have htH : Hid (SFile f t) := ht
    have hbH : Hid (1099511627776 < t.whole.len) := hb
    clear ht hb
    unfold ztext
    go_wp2
    go_ret2
    exact ⟨hal.out _, Or.inr ⟨t, htH.out, Or.inl ⟨hbH.out, rfl⟩⟩⟩
  · obtain ⟨T, hST⟩ := stext_of ht
    have hTR : Hid (TR (w1.alloc (.cells (t.cells rv sv) 81)) (w1.heap.size + 1) w1.heap.size t rv sv) :=
      ⟨Blk.new w1 _ _, row_stay (S := []) (own_low htv.rules (Nat.zero_le _)) ((Kept.refl [] w1).alloc _) (fun _ _ => by simp), row_stay (S := []) (own_low htv.start (Nat.zero_le _)) ((Kept.refl [] w1).alloc _) (fun _ _ => by simp), Nat.lt_succ_self _, fun g hg => by have := (htv.rules.lt g hg).2; omega, fun g hg => by have := (htv.start.lt g hg).2; omega⟩
    obtain ⟨ra, rn, rc, rfl⟩ := own_shape htv.rules
    obtain ⟨sa, sn, sc, rfl⟩ := own_shape htv.start
    have htH : Hid (SFile f t) := ht
    have hSTH : Hid (SText t T) := hST
    clear ht htv hST
    have hbad : Hid (∀ o, ¬ RangeOk x y t.whole.len → CutOut f x y w (w1.alloc o) (.returned (.tuple #[.string ⟨#[]⟩, .int .i64 6]))) := fun o h => ⟨hal.out _, Or.inr ⟨t, htH.out, Or.inr (Or.inl ⟨hb, h, rfl⟩)⟩⟩
    have hcut : Hid (∀ fr dst : Nat, x = (fr : Int) → y = (dst : Int) → RangeOk x y t.whole.len → Calls Try.prog 52 #[.pointer (some ⟨w1.heap.size, 0, none⟩), .int .i64 x, .int .i64 y] (w1.alloc (.cells (t.cells (.slice ra rn rc) (.slice sa sn sc)) 81)) fun e w' => ∃ s, e = .returned (.string s) ∧ CutOut f x y w w' (.returned (.tuple #[.string s, .int .i64 0]))) := fun fr dst h1 h2 h => by
      have h' := h
      unfold RangeOk at h'
      rw [h1, h2] at h' ⊢
      refine (cutText_any hSTH.out hb (fr := fr) (dst := dst) (by omega) (by omega) _ hTR.out (by simp)).mono ?_
      rintro e w' ⟨rfl, b2⟩
      refine ⟨_, rfl, ((hal.out _).trans (b2.mono (by have := hblH.out.size; simp; omega))), Or.inr ⟨t, htH.out, Or.inr (Or.inr ⟨hb, ?_, T, hSTH.out, ?_⟩)⟩⟩
      · rw [h1, h2] at h; exact h
      · rfl
    unfold TT.cells at hcut ⊢
    have hR : Hid (RangeOk x y t.whole.len ↔ 0 ≤ x ∧ x ≤ y ∧ y ≤ (t.whole.len : Int) ∧ y - x ≤ 2000) := Iff.rfl
    generalize t.whole.len = L at *
    by_cases h1 : x < 0
    · have hf : Hid (∀ o, _) := fun o => hbad.out o (fun h => by have := hR.out.1 h; omega)
      clear hbad hcut hR
      go_wp2
      go_ret2
      exact hf.out _
    · by_cases h2 : y < x
      · have hf : Hid (∀ o, _) := fun o => hbad.out o (fun h => by have := hR.out.1 h; omega)
        clear hbad hcut hR
        go_wp2
        go_ret2
        exact hf.out _
      · by_cases h3 : (L : Int) < y
        · have hf : Hid (∀ o, _) := fun o => hbad.out o (fun h => by have := hR.out.1 h; omega)
          clear hbad hcut hR
          go_wp2
          go_ret2
          exact hf.out _
        · have hs1 : -9223372036854775808 ≤ y - x := by omega
          have hs2 : y - x ≤ 9223372036854775807 := by omega
          by_cases h4 : 2000 < y - x
          · have hf : Hid (∀ o, _) := fun o => hbad.out o (fun h => by have := hR.out.1 h; omega)
            clear hbad hcut hR
            go_wp2
            go_ret2
            exact hf.out _
          · have hg := hcut.out x.toNat y.toNat (by omega) (by omega) (hR.out.2 (by omega))
            have hgH : Hid (Calls _ _ _ _ _) := hg
            clear hbad hcut hR hg
            go_wp2_with (go_at_call 52; refine hgH.out.mono ?_; rintro _ w5 ⟨s, rfl, o5⟩)
            go_ret2
            exact o5

end Go.Proofs.Ytgifhgnccmnbiaa
