/- Package sift: Cut, walked. -/
import Derived.Test.YtgifhgnccmnbiaaG10
import Derived.Test.YtgifhgnccmnbiaaG13
set_option linter.unusedVariables false
set_option linter.unusedSimpArgs false
namespace Go.Proofs.Ytgifhgnccmnbiaa
open Go.RowKit Go.IntWalk

theorem codes_zz {f : ByteArray} {n : Nat} (hr : ZRun f n) (hk : zOk (zit (z0 f) n) = true) : ∀ i, i ≤ n → ∃ r T, zitB (f.extract 3 f.size) (bt f 2) i = some r ∧ OnB f i ∧ ZZ (f.extract 3 f.size) (bt f 2) (zit (z0 f) i) r T
  | 0, _ => ⟨{}, [], rfl, fun _ h => by omega, zz0 f⟩
  | i + 1, hi => by
    obtain ⟨r, T, h1, h2, h3⟩ := codes_zz hr hk i (by omega)
    have hg : zgoB (f.extract 3 f.size) (bt f 2) r = true := by rw [← h3.go]; exact hr.on i (by omega)
    have hon : OnB f (i + 1) := fun j hj => by
      by_cases hji : j = i
      · subst hji; exact ⟨r, h1, hg⟩
      · exact h2 j (by omega)
    have hit : zitB (f.extract 3 f.size) (bt f 2) (i + 1) = zsB (f.extract 3 f.size) (bt f 2) r := by
      show (zitB (f.extract 3 f.size) (bt f 2) i).bind (zsB (f.extract 3 f.size) (bt f 2)) = _
      rw [h1]; rfl
    cases hz : zsB (f.extract 3 f.size) (bt f 2) r with
    | none =>
      exfalso
      have hb := (h3.step hg).1 hz
      have hb' : (zit (z0 f) (i + 1)).1.bad = true := hb
      by_cases hin : i + 1 = n
      · rw [hin] at hb'
        unfold zOk at hk
        rw [hb'] at hk; cases hk
      · have := hr.on (i + 1) (by omega)
        unfold zgo at this
        rw [hb'] at this; cases this
    | some r' =>
      obtain ⟨T', hT'⟩ := (h3.step hg).2 r' hz
      exact ⟨r', T', by rw [hit, hz], hon, hT'⟩

theorem stext_of {f : ByteArray} {t : TT} (h : SFile f t) : ∃ T, SText t T := by
  cases h with
  | rules a b c d =>
    have hG := ok_GOk c b d
    obtain ⟨e1, e2, e3, e4, e5⟩ := hG.read
    refine ⟨gTx f (bt f 2), ?_, ?_, ?_, ?_, ?_⟩
    · show Sound (sgG f).1 _
      rw [e2]; exact hG.sound _ (Nat.le_refl _)
    · show ∀ s, s ∈ (sgS f).1 → s < 256 + (sgG f).1.length
      rw [e2, e5]
      intro s hs
      rw [gRu_len]
      exact hG.top _ (Nat.le_refl _) s hs
    · show wholeP (sgG f).1 (sgS f).1 = ptOf ((sgS f).1.flatMap _)
      rw [e2, e5]
      exact whole_pt (hG.sound _ (Nat.le_refl _)) _ (fun s hs => by rw [gTx_len]; exact hG.top _ (Nat.le_refl _) s hs) []
    · show (sgG f).1.length ≤ 9000
      rw [e2, gRu_len]; have := hG.r; omega
    · show (sgS f).1.length ≤ 9000
      rw [e5, gTop_range]
      simp
      have := hG.n1
      unfold gN
      omega
  | codes a b c d x y =>
    obtain ⟨r, T, h1, h2, h3⟩ := codes_zz x y _ (Nat.le_refl _)
    have hI := zit_inv x.on
    have hp := hI.p
    have hpb := hI.pb
    have hsz : (f.extract 3 f.size).size ≤ 4000 := by simp [ByteArray.size_extract]; omega
    have := hI.rules
    have := hI.start
    refine ⟨T, h3.sound, fun s hs => by rw [h3.sound.len]; exact h3.start s hs, by rw [h3.whole, h3.out], by omega, by omega⟩

theorem Sound.one {rs : List RU} {T U : List (List Nat)} (h : Sound rs T) (h' : Sound rs U) : ∀ (k s : Nat), s < k → s < 256 + rs.length → symT T s = symT U s := by
  intro k
  induction k with
  | zero => intro s hs; omega
  | succ k ih =>
    intro s hs hs2
    by_cases h1 : s < 256
    · unfold symT; rw [if_pos h1, if_pos h1]
    · obtain ⟨x, hx⟩ : ∃ x, rs[s - 256]? = some x := ⟨_, List.getElem?_eq_getElem (by omega)⟩
      obtain ⟨u1, u2, u3, _⟩ := h.rule _ _ hx
      obtain ⟨_, _, v3, _⟩ := h'.rule _ _ hx
      have e : symT T s = symT T x.l ++ symT T x.r := by rw [← u3]; unfold symT; rw [if_neg h1]
      have e' : symT U s = symT U x.l ++ symT U x.r := by rw [← v3]; unfold symT; rw [if_neg h1]
      rw [e, e', ih x.l (by omega) (by omega), ih x.r (by omega) (by omega)]
theorem SText.one {t : TT} {T U : List (List Nat)} (h : SText t T) (h' : SText t U) : t.start.flatMap (symT T) = t.start.flatMap (symT U) := by
  have : ∀ l : List Nat, (∀ s, s ∈ l → s < 256 + t.rules.length) → l.flatMap (symT T) = l.flatMap (symT U) := by
    intro l
    induction l with
    | nil => intro _; rfl
    | cons x l ih =>
      intro hl
      rw [List.flatMap_cons, List.flatMap_cons, h.sound.one h'.sound (x + 1) x (by omega) (hl x (by simp)), ih (fun y hy => hl y (by simp [hy]))]
  exact this _ h.start

def RangeOk (x y : Int) (L : Nat) : Prop := 0 ≤ x ∧ x ≤ y ∧ y ≤ (L : Int) ∧ y - x ≤ 2000
structure CutOut (f : ByteArray) (x y : Int) (w w' : World) (e : Ending) : Prop where
  below : Below w.heap.size w w'
  out : ((∀ t, ¬ SFile f t) ∧ e = .returned (.tuple #[.string ⟨#[]⟩, .int .i64 4])) ∨
    ∃ t, SFile f t ∧ ((1099511627776 < t.whole.len ∧ e = .returned (.tuple #[.string ⟨#[]⟩, .int .i64 5])) ∨
      (t.whole.len ≤ 1099511627776 ∧ ¬ RangeOk x y t.whole.len ∧ e = .returned (.tuple #[.string ⟨#[]⟩, .int .i64 6])) ∨
      (t.whole.len ≤ 1099511627776 ∧ RangeOk x y t.whole.len ∧ ∃ T, SText t T ∧ e = .returned (.tuple #[.string (bytesB (cutX (t.start.flatMap (symT T)) x.toNat y.toNat 0)), .int .i64 0])))

set_option maxHeartbeats 4000000 in
set_option maxRecDepth 100000 in
theorem cut_any (f : ByteArray) (hf : f.size ≤ maxLen) (x y : Int) (hx1 : -9223372036854775808 ≤ x) (hx2 : x ≤ 9223372036854775807) (hy1 : -9223372036854775808 ≤ y) (hy2 : y ≤ 9223372036854775807) (w : World) :
    Calls Try.prog 27 #[.string f, .int .i64 x, .int .i64 y] w fun e w' => CutOut f x y w w' e := by
  have hc : Hid (Calls _ _ _ w _) := read_file f hf w
  go_enter Try.func27, Try.ntmps27
  go_wp2_with fail
  refine hc.out.mono ?_
  rintro e w1 ⟨hbl, ho⟩
  have hblH : Hid (Below w.heap.size w w1) := hbl
  have hal : Hid (∀ o, Below w.heap.size w (w1.alloc o)) := fun o => hbl.alloc hbl.size o
  clear hc hbl
  rcases ho with ⟨hn, rfl⟩ | ⟨t, ht, ⟨hb, rfl⟩ | ⟨hb, rv, sv, htv, rfl⟩⟩
  · have hnH : Hid (∀ t, ¬ SFile f t) := hn
    clear hn
    unfold ztext
    go_wp2
    go_ret2
    exact ⟨hal.out _, Or.inl ⟨hnH.out, rfl⟩⟩
  · have htH : Hid (SFile f t) := ht
    have hbH : Hid (1099511627776 < t.whole.len) := hb
    clear ht hb
    unfold ztext
    go_wp2
    go_ret2
    exact ⟨hal.out _, Or.inr ⟨t, htH.out, Or.inl ⟨hbH.out, rfl⟩⟩⟩
  · obtain ⟨T, hST⟩ := stext_of ht
    have hTR : Hid (TR (w1.alloc (.cells (t.cells rv sv) 81)) (w1.heap.size + 1) w1.heap.size t rv sv) :=
      ⟨Blk.new w1 _ _, row_stay (S := []) (own_low htv.rules (Nat.zero_le _)) ((Kept.refl [] w1).alloc _) (fun _ _ => by simp), row_stay (S := []) (own_low htv.start (Nat.zero_le _)) ((Kept.refl [] w1).alloc _) (fun _ _ => by simp), Nat.lt_succ_self _, fun g hg => by have := (htv.rules.lt g hg).2; omega, fun g hg => by have := (htv.start.lt g hg).2; omega⟩
    obtain ⟨ra, rn, rc, rfl⟩ := own_shape htv.rules
    obtain ⟨sa, sn, sc, rfl⟩ := own_shape htv.start
    have htH : Hid (SFile f t) := ht
    have hSTH : Hid (SText t T) := hST
    clear ht htv hST
    have hbad : Hid (∀ o, ¬ RangeOk x y t.whole.len → CutOut f x y w (w1.alloc o) (.returned (.tuple #[.string ⟨#[]⟩, .int .i64 6]))) := fun o h => ⟨hal.out _, Or.inr ⟨t, htH.out, Or.inr (Or.inl ⟨hb, h, rfl⟩)⟩⟩
    have hcut : Hid (∀ fr dst : Nat, x = (fr : Int) → y = (dst : Int) → RangeOk x y t.whole.len → Calls Try.prog 52 #[.pointer (some ⟨w1.heap.size, 0, none⟩), .int .i64 x, .int .i64 y] (w1.alloc (.cells (t.cells (.slice ra rn rc) (.slice sa sn sc)) 81)) fun e w' => ∃ s, e = .returned (.string s) ∧ CutOut f x y w w' (.returned (.tuple #[.string s, .int .i64 0]))) := fun fr dst h1 h2 h => by
      have h' := h
      unfold RangeOk at h'
      rw [h1, h2] at h' ⊢
      refine (cutText_any hSTH.out hb (fr := fr) (dst := dst) (by omega) (by omega) _ hTR.out (by simp)).mono ?_
      rintro e w' ⟨rfl, b2⟩
      refine ⟨_, rfl, ((hal.out _).trans (b2.mono (by have := hblH.out.size; simp; omega))), Or.inr ⟨t, htH.out, Or.inr (Or.inr ⟨hb, ?_, T, hSTH.out, ?_⟩)⟩⟩
      · rw [h1, h2] at h; exact h
      · rfl
    unfold TT.cells at hcut ⊢
    have hR : Hid (RangeOk x y t.whole.len ↔ 0 ≤ x ∧ x ≤ y ∧ y ≤ (t.whole.len : Int) ∧ y - x ≤ 2000) := Iff.rfl
    generalize t.whole.len = L at *
    by_cases h1 : x < 0
    · have hf : Hid (∀ o, _) := fun o => hbad.out o (fun h => by have := hR.out.1 h; omega)
      clear hbad hcut hR
      go_wp2
      go_ret2
      exact hf.out _
    · by_cases h2 : y < x
      · have hf : Hid (∀ o, _) := fun o => hbad.out o (fun h => by have := hR.out.1 h; omega)
        clear hbad hcut hR
        go_wp2
        go_ret2
        exact hf.out _
      · by_cases h3 : (L : Int) < y
        · have hf : Hid (∀ o, _) := fun o => hbad.out o (fun h => by have := hR.out.1 h; omega)
          clear hbad hcut hR
          go_wp2
          go_ret2
          exact hf.out _
        · have hs1 : -9223372036854775808 ≤ y - x := by omega
          have hs2 : y - x ≤ 9223372036854775807 := by omega
          by_cases h4 : 2000 < y - x
          · have hf : Hid (∀ o, _) := fun o => hbad.out o (fun h => by have := hR.out.1 h; omega)
            clear hbad hcut hR
            go_wp2
            go_ret2
            exact hf.out _
          · have hg := hcut.out x.toNat y.toNat (by omega) (by omega) (hR.out.2 (by omega))
            have hgH : Hid (Calls _ _ _ _ _) := hg
            clear hbad hcut hR hg
            go_wp2_with (go_at_call 52; refine hgH.out.mono ?_; rintro _ w5 ⟨s, rfl, o5⟩)
            go_ret2
            exact o5

end Go.Proofs.Ytgifhgnccmnbiaa

set_option linter.unusedVariables false
set_option linter.unusedSimpArgs false
namespace Go.Proofs.Ytgifhgnccmnbiaa
open Go.RowKit Go.IntWalk

theorem RSound.nil : RSound [] [] [] := ⟨rfl, rfl, fun i h => by simp at h⟩
theorem RSound.push {rl : List Nat} {ps : List PI} {T : List (List Nat)} (h : RSound rl ps T) {l r : Nat} (hl : l < 256 + T.length) (hr : r < 256 + T.length) :
    RSound (rl ++ [l, r]) (ps ++ [piOf (symT T l ++ symT T r)]) (T ++ [symT T l ++ symT T r]) := by
  have hlen := h.len
  refine ⟨by simp [hlen]; omega, by rw [h.ps]; simp, fun i hi => ?_⟩
  simp at hi
  by_cases hi2 : i < T.length
  · obtain ⟨a, b, c⟩ := h.rule i hi2
    have e1 : (rl ++ [l, r]).getD (2 * i) 0 = rl.getD (2 * i) 0 := by simp only [List.getD]; rw [List.getElem?_append_left (by omega)]
    have e2 : (rl ++ [l, r]).getD (2 * i + 1) 0 = rl.getD (2 * i + 1) 0 := by simp only [List.getD]; rw [List.getElem?_append_left (by omega)]
    have e3 : (T ++ [symT T l ++ symT T r]).getD i [] = T.getD i [] := by simp only [List.getD]; rw [List.getElem?_append_left hi2]
    rw [e1, e2, e3, symT_app (by omega), symT_app (by omega)]
    exact ⟨a, b, c⟩
  · have hi3 : i = T.length := by omega
    subst hi3
    have e1 : (rl ++ [l, r]).getD (2 * T.length) 0 = l := by simp only [List.getD]; rw [List.getElem?_append_right (by omega), hlen]; simp
    have e2 : (rl ++ [l, r]).getD (2 * T.length + 1) 0 = r := by simp only [List.getD]; rw [List.getElem?_append_right (by omega), hlen, show 2 * T.length + 1 - 2 * T.length = 1 by omega]; simp
    have e3 : (T ++ [symT T l ++ symT T r]).getD T.length [] = symT T l ++ symT T r := by simp [List.getD]
    rw [e1, e2, e3, symT_app (by omega), symT_app (by omega)]
    exact ⟨hl, hr, rfl⟩
theorem GOk.rsound {f : ByteArray} (h : GOk f) : ∀ k, k ≤ bt f 2 → RSound (gRules f k) ((gTx f k).map piOf) (gTx f k)
  | 0, _ => RSound.nil
  | k + 1, hk => by
    have ih := (h.rsound k (by omega)).push (l := gA f k) (r := gB f k) (by rw [gTx_len]; exact (h.a (by omega)).2) (by rw [gTx_len]; exact (h.b (by omega)).2)
    show RSound (gRules f k ++ [gA f k, gB f k]) ((gTx f k ++ [symT (gTx f k) (gA f k) ++ symT (gTx f k) (gB f k)]).map piOf) (gTx f k ++ [symT (gTx f k) (gA f k) ++ symT (gTx f k) (gB f k)])
    rw [List.map_append]
    exact ih

/-- What is cut out of the bytes X, or that it is refused. -/
def RangeCase (X : List Nat) (x y : Int) (e : Ending) : Prop :=
  (¬ RangeOk x y X.length ∧ e = .returned (.tuple #[.string ⟨#[]⟩, .int .i64 6])) ∨
  (RangeOk x y X.length ∧ e = .returned (.tuple #[.string (bytesB (cutX X x.toNat y.toNat 0)), .int .i64 0]))
structure CutR (f : ByteArray) (x y : Int) (w w' : World) (e : Ending) : Prop where
  below : Below w.heap.size w w'
  out : (∃ n r, ZGood f n r ∧ RangeCase (bytesN r.out) x y e) ∨ (ZNo f ∧ ¬ GOk f ∧ e = .returned (.tuple #[.string ⟨#[]⟩, .int .i64 4])) ∨
    (ZNo f ∧ GOk f ∧ 1099511627776 < (gAll f).long ∧ e = .returned (.tuple #[.string ⟨#[]⟩, .int .i64 5])) ∨
    (ZNo f ∧ GOk f ∧ (gAll f).long ≤ 1099511627776 ∧ RangeCase ((gTop f (gN f)).flatMap (symT (gTx f (bt f 2)))) x y e)
theorem GM.rg {w : World} {b B C : Nat} {kind : Int} {n : Nat} {rl top : List Nat} {ps : List PI} {rv tv pv : Value} (h : GM w b B C kind n rl top ps rv tv pv) : GRd w b (.int .i64 kind) (.int .i64 (n : Int)) rl top ps rv tv pv :=
  ⟨h.blk, own_low h.rules (Nat.zero_le _), own_low h.top (Nat.zero_le _), own_low h.pieces (Nat.zero_le _)⟩
theorem gAll_tx {f : ByteArray} (h : GOk f) : gAll f = piOf ((gTop f (gN f)).flatMap (symT (gTx f (bt f 2)))) := by
  have hb : ∀ s, s ∈ gTop f (gN f) → s < 256 + (gTx f (bt f 2)).length := fun s hs => by rw [gTx_len]; exact h.top _ (Nat.le_refl _) s hs
  unfold gAll wholeR
  rw [h.ps _ (Nat.le_refl _)]
  exact whole_tx _ hb []
/-- A file that the document's side has opened. -/
structure ROpen (w : World) (b B C : Nat) (kind : Int) (n : Nat) (rl top : List Nat) (ps : List PI) (rv tv pv : Value) (T : List (List Nat)) (X : List Nat) : Prop where
  gm : GM w b B C kind n rl top ps rv tv pv
  sound : RSound rl ps T
  tlen : T.length ≤ 1000
  nlen : top.length ≤ 100000000
  syms : ∀ s, s ∈ top → s < 256 + T.length
  text : X = top.flatMap (symT T)
  xlen : X.length ≤ 1099511627776
  byte : ∀ c, c ∈ X → c < 256
theorem OpenedR.cut {f : ByteArray} {x y : Int} {w w' : World} {e : Ending} (h : OpenedR f w w' e) :
    (∃ c : Int, c ≠ 0 ∧ 0 ≤ c ∧ c ≤ 5 ∧ e = .returned (.tuple #[.pointer none, .int .i64 c]) ∧ ∀ w2, Below w.heap.size w w2 → CutR f x y w w2 (.returned (.tuple #[.string ⟨#[]⟩, .int .i64 c]))) ∨
    ∃ b B C kind n rl top ps rv tv pv T X, ROpen w' b B C kind n rl top ps rv tv pv T X ∧ e = .returned (.tuple #[.pointer (some ⟨b, 0, none⟩), .int .i64 0]) ∧ ∀ w2 e2, Below w.heap.size w w2 → RangeCase X x y e2 → CutR f x y w w2 e2 := by
  rcases h.out with ⟨n, r, b, B, C, tv, hz, hG, he⟩ | ⟨a, c, he⟩ | ⟨a, c, d, he⟩ | ⟨a, c, d, b, B, C, rv, tv, pv, hG, he⟩
  · have hfl := flat_self (bytesN r.out) (bytesN_lt r.out)
    refine Or.inr ⟨b, B, C, 90, n, [], _, [], _, _, _, [], bytesN r.out, ⟨hG, RSound.nil, by simp, by rw [bytesN_len]; have := hz.size; omega, fun s hs => by have := bytesN_lt _ s hs; simp; omega, hfl.symm, by rw [bytesN_len]; have := hz.size; omega, bytesN_lt r.out⟩, he, fun w2 e2 k hr => ⟨k, Or.inl ⟨n, r, hz, hr⟩⟩⟩
  · exact Or.inl ⟨4, by omega, by omega, by omega, he, fun w2 k => ⟨k, Or.inr (Or.inl ⟨a, c, rfl⟩)⟩⟩
  · exact Or.inl ⟨5, by omega, by omega, by omega, he, fun w2 k => ⟨k, Or.inr (Or.inr (Or.inl ⟨a, c, d, rfl⟩))⟩⟩
  · have hl : (piOf ((gTop f (gN f)).flatMap (symT (gTx f (bt f 2))))).long ≤ 1099511627776 := by rw [← gAll_tx c]; exact d
    have hs : ∀ s, s ∈ gTop f (gN f) → s < 256 + (gTx f (bt f 2)).length := fun s hs => by rw [gTx_len]; exact c.top _ (Nat.le_refl _) s hs
    have hR := c.rsound _ (Nat.le_refl _)
    rw [← c.ps _ (Nat.le_refl _)] at hR
    have hx : ((gTop f (gN f)).flatMap (symT (gTx f (bt f 2)))).length ≤ 1099511627776 := by
      have := capL_small (n := ((gTop f (gN f)).flatMap (symT (gTx f (bt f 2)))).length) hl
      have h2 : capL ((gTop f (gN f)).flatMap (symT (gTx f (bt f 2)))).length ≤ 1099511627776 := hl
      omega
    refine Or.inr ⟨b, B, C, 71, gN f, _, _, _, _, _, _, gTx f (bt f 2), _, ⟨hG, hR, by rw [gTx_len]; have := c.r; omega, by rw [gTop_len]; have := c.n; omega, hs, rfl, hx, fun z hz => ?_⟩, he, fun w2 e2 k hr => ⟨k, Or.inr (Or.inr (Or.inr ⟨a, c, d, hr⟩))⟩⟩
    obtain ⟨s, h1, h2⟩ := List.mem_flatMap.1 hz
    have hS := c.sound _ (Nat.le_refl _)
    exact hS.byte (s + 1) s (by omega) (by rw [gRu_len]; exact c.top _ (Nat.le_refl _) s h1) z h2

set_option maxHeartbeats 4000000 in
set_option maxRecDepth 100000 in
theorem rcutW_any (f : ByteArray) (hf : f.size ≤ maxLen) (x y : Int) (hx1 : -9223372036854775808 ≤ x) (hx2 : x ≤ 9223372036854775807) (hy1 : -9223372036854775808 ≤ y) (hy2 : y ≤ 9223372036854775807) (w : World) :
    Calls Try.prog 28 #[.string f, .int .i64 x, .int .i64 y] w fun e w' => CutR f x y w w' e := by
  have hc : Hid (Calls _ _ _ w _) := opened_any f hf w
  go_enter Try.func28, Try.ntmps28
  go_wp2_with fail
  refine hc.out.mono ?_
  rintro e w1 hout
  have hk1 : Hid (Kept [] w w1) := hout.kept
  rcases hout.cut (x := x) (y := y) with ⟨c, c0, c1, c2, rfl, hfin⟩ | ⟨b, B, C, kind, n, rl, top, ps, rv, tv, pv, T, X, hO, rfl, hfin⟩
  · have hfinH : Hid (∀ w2, _) := hfin
    have cne : (c != 0) = true := by simp [c0]
    have hb : Hid (Below w.heap.size w w1) := hk1.out.below (Nat.le_refl _) (by simp)
    clear hfin hout hc c0
    go_wp2
    go_ret2
    exact hfinH.out _ hb.out
  · have hfinH : Hid (∀ w2 e2, _) := hfin
    have hps : ps.length = T.length := by rw [hO.sound.ps, List.length_map]
    have hwh : Hid (Calls _ _ _ _ _) := whole_any hO.gm (by rw [hps]; exact hO.syms) (by have := hO.tlen; omega) hO.nlen
    have hwx : wholeR ps top = piOf X := by
      rw [hO.text, hO.sound.ps]
      unfold wholeR
      exact whole_tx top hO.syms []
    rw [hwx] at hwh
    have hlong : (piOf X).long = X.length := capL_of (by have := hO.xlen; omega)
    have hxl := hO.xlen
    have hOH : Hid (ROpen _ _ _ _ _ _ _ _ _ _ _ _ _ _) := hO
    have hbad : Hid (∀ w2, Below w.heap.size w w2 → ¬ RangeOk x y X.length → CutR f x y w w2 (.returned (.tuple #[.string ⟨#[]⟩, .int .i64 6]))) := fun w2 b h => hfinH.out _ _ b (Or.inl ⟨h, rfl⟩)
    have hgood : Hid (∀ (w2 : World) (fr dst : Nat), Kept [] w1 w2 → x = (fr : Int) → y = (dst : Int) → RangeOk x y X.length → Calls Try.prog 53 #[.pointer (some ⟨b, 0, none⟩), .int .i64 x, .int .i64 y] w2 fun e w' => ∃ s, e = .returned (.string s) ∧ CutR f x y w w' (.returned (.tuple #[.string s, .int .i64 0]))) := fun w2 fr dst k e1 e2 h => by
      have h' := h
      unfold RangeOk at h'
      have hct : cutX X x.toNat y.toNat 0 = cutI X (fr : Int) (dst : Int) := by rw [cutX_whole, e1, e2]; rfl
      rw [e1, e2] at h'
      have hcall := rbytes_any hOH.out.sound hOH.out.tlen hOH.out.syms (by rw [← hOH.out.text]; exact hOH.out.xlen) hOH.out.nlen (by rw [← hOH.out.text]; exact hOH.out.byte) (fr := fr) (dst := dst) (by omega) (by omega) w2 (hOH.out.gm.rg.kept k)
      rw [← hOH.out.text] at hcall
      rw [show (Value.int .i64 x) = .int .i64 (fr : Int) by rw [e1], show (Value.int .i64 y) = .int .i64 (dst : Int) by rw [e2]]
      refine hcall.mono ?_
      rintro e w' ⟨rfl, b2⟩
      refine ⟨_, rfl, hfinH.out _ _ (((hk1.out.trans k).below (Nat.le_refl _) (by simp)).trans (b2.mono (hk1.out.trans k).size)) (Or.inr ⟨h, ?_⟩)⟩
      rw [hct]
    have hR : Hid (RangeOk x y X.length ↔ 0 ≤ x ∧ x ≤ y ∧ y ≤ (X.length : Int) ∧ y - x ≤ 2000) := Iff.rfl
    clear hfin hout hc hO hps hwx
    generalize piOf X = D at *
    obtain ⟨D1, D2, D3⟩ := D
    simp only [] at hlong
    rw [← hlong] at hR hxl hbad hgood
    unfold PI.val PI.arr at hwh
    simp only [] at hwh
    clear hlong
    have hwH : Hid (∀ w9 o, Kept [] w1 w9 → Kept [] w1 (w9.alloc o) ∧ Below w.heap.size w (w9.alloc o)) := fun w9 o k => ⟨k.alloc o, (hk1.out.trans (k.alloc o)).below (Nat.le_refl _) (by simp)⟩
    by_cases h1 : x < 0
    · go_wp2_with (go_at_call 51; refine hwh.out.mono ?_; rintro _ w9 ⟨rfl, k9⟩; have hf9 := hbad.out _ (hwH.out w9 (.cells #[.int .i64 (D1 : Int), .int .i64 (D2 : Int), .int .i64 (D3 : Int), .slice none 0 0, .slice none 0 0, .int .i64 0] 91) k9).2 (fun h => by have := hR.out.1 h; omega); have hf9 : Hid (CutR _ _ _ _ _ _) := hf9)
      go_ret2
      exact hf9.out
    · by_cases h2 : y < x
      · go_wp2_with (go_at_call 51; refine hwh.out.mono ?_; rintro _ w9 ⟨rfl, k9⟩; have hf9 := hbad.out _ (hwH.out w9 (.cells #[.int .i64 (D1 : Int), .int .i64 (D2 : Int), .int .i64 (D3 : Int), .slice none 0 0, .slice none 0 0, .int .i64 0] 91) k9).2 (fun h => by have := hR.out.1 h; omega); have hf9 : Hid (CutR _ _ _ _ _ _) := hf9)
        go_ret2
        exact hf9.out
      · by_cases h3 : (D1 : Int) < y
        · go_wp2_with (go_at_call 51; refine hwh.out.mono ?_; rintro _ w9 ⟨rfl, k9⟩; have hf9 := hbad.out _ (hwH.out w9 (.cells #[.int .i64 (D1 : Int), .int .i64 (D2 : Int), .int .i64 (D3 : Int), .slice none 0 0, .slice none 0 0, .int .i64 0] 91) k9).2 (fun h => by have := hR.out.1 h; omega); have hf9 : Hid (CutR _ _ _ _ _ _) := hf9)
          go_ret2
          exact hf9.out
        · have hs1 : -9223372036854775808 ≤ y - x := by omega
          have hs2 : y - x ≤ 9223372036854775807 := by omega
          by_cases h4 : 2000 < y - x
          · go_wp2_with (go_at_call 51; refine hwh.out.mono ?_; rintro _ w9 ⟨rfl, k9⟩; have hf9 := hbad.out _ (hwH.out w9 (.cells #[.int .i64 (D1 : Int), .int .i64 (D2 : Int), .int .i64 (D3 : Int), .slice none 0 0, .slice none 0 0, .int .i64 0] 91) k9).2 (fun h => by have := hR.out.1 h; omega); have hf9 : Hid (CutR _ _ _ _ _ _) := hf9)
            go_ret2
            exact hf9.out
          · go_wp2_with (first
              | (go_at_call 51; refine hwh.out.mono ?_; rintro _ w9 ⟨rfl, k9⟩; have hg9 := hgood.out _ x.toNat y.toNat (hwH.out w9 (.cells #[.int .i64 (D1 : Int), .int .i64 (D2 : Int), .int .i64 (D3 : Int), .slice none 0 0, .slice none 0 0, .int .i64 0] 91) k9).1 (by omega) (by omega) (hR.out.2 (by omega)); have hg9 : Hid (Calls _ _ _ _ _) := hg9)
              | (go_at_call 53; refine hg9.out.mono ?_; rintro _ w5 ⟨s, rfl, o5⟩))
            go_ret2
            exact o5

end Go.Proofs.Ytgifhgnccmnbiaa

set_option linter.unusedVariables false
set_option linter.unusedSimpArgs false
namespace Go.Proofs.Ytgifhgnccmnbiaa
open Go.RowKit Go.IntWalk

theorem CutOut.file {f : ByteArray} {x y : Int} {w w' : World} {e : Ending} (h : CutOut f x y w w' e) {t : TT} (ht : SFile f t) {T : List (List Nat)} (hT : Sound t.rules T) (hs : ∀ s, s ∈ t.start → s < 256 + t.rules.length) (hw : t.whole = ptOf (t.start.flatMap (symT T))) (hl : t.whole.len ≤ 1099511627776) :
    RangeCase (t.start.flatMap (symT T)) x y e := by
  have hlen : (t.start.flatMap (symT T)).length = t.whole.len := by
    rw [hw, ptOf_len] at hl ⊢
    exact (capL_small hl).symm
  rcases h.out with ⟨hn, _⟩ | ⟨t', ht', h2⟩
  · exact absurd ht (hn _)
  · have := ht'.one ht
    subst this
    rcases h2 with ⟨h3, _⟩ | ⟨_, h3, he⟩ | ⟨_, h3, U, hU, he⟩
    · omega
    · rw [← hlen] at h3; exact Or.inl ⟨h3, he⟩
    · rw [← hlen] at h3
      have hT2 : SText t' T := ⟨hT, hs, hw, hU.rlen, hU.slen⟩
      rw [hU.one hT2] at he
      exact Or.inr ⟨h3, he⟩
theorem RangeCase.one {X : List Nat} {x y : Int} {e e' : Ending} (h : RangeCase X x y e) (h' : RangeCase X x y e') : e = e' := by
  rcases h with ⟨a, rfl⟩ | ⟨a, rfl⟩ <;> rcases h' with ⟨b, rfl⟩ | ⟨b, rfl⟩
  · rfl
  · exact absurd b a
  · exact absurd a b
  · rfl
theorem cut_same {f : ByteArray} {x y : Int} {w0 w1 w2 w3 : World} {e e' : Ending} (hS : CutOut f x y w0 w1 e) (hR : CutR f x y w2 w3 e') : e = e' := by
  rcases hR.out with ⟨n, r, hz, he'⟩ | ⟨hno, hg, he'⟩ | ⟨hno, hg, hb, he'⟩ | ⟨hno, hg, hb, he'⟩
  · obtain ⟨hf, hk, hsy, hw⟩ := hz.file'
    obtain ⟨T, hT⟩ := zz_run n r hz.it hz.on
    have hsz := hz.size
    have hlen : (zit (z0 f) n).2.whole.len ≤ 1099511627776 := by
      rw [hw, ptOf_len, bytesN_len, capL_of (by omega)]; omega
    have h := hS.file hf hT.sound (fun s hs => by rw [hT.sound.len]; exact hT.start s hs) (by rw [hT.whole, hT.out]) hlen
    rw [← hT.out] at h
    exact h.one he'
  · rcases hS.out with ⟨hn, he⟩ | ⟨t, ht, h2⟩
    · rw [he, he']
    · exfalso
      cases ht with
      | rules a b c d => exact hg (ok_GOk c b d)
      | codes a b c d x y => exact hno.none b c d x y
  · have hf : SFile f (sgT f) := SFile.rules (by have := hg.five; omega) hg.most hg.sg hg.ok
    obtain ⟨t0, q1, q2⟩ := hg.whole
    rcases hS.out with ⟨hn, _⟩ | ⟨t, ht, h2⟩
    · exact absurd hf (hn _)
    · have := ht.one hf
      subst this
      rcases h2 with ⟨_, he⟩ | ⟨h3, _⟩ | ⟨h3, _⟩
      · rw [he, he']
      · rw [q1, long_len, ← q2] at h3; omega
      · rw [q1, long_len, ← q2] at h3; omega
  · have hf : SFile f (sgT f) := SFile.rules (by have := hg.five; omega) hg.most hg.sg hg.ok
    obtain ⟨e1, e2, e3, e4, e5⟩ := hg.read
    have hR : (sgT f).rules = gRu f (bt f 2) := by show (sgG f).1 = _; rw [e2]
    have hSt : (sgT f).start = gTop f (gN f) := e5
    have hW : (sgT f).whole = ptOf ((gTop f (gN f)).flatMap (symT (gTx f (bt f 2)))) := by
      show wholeP (sgG f).1 (sgS f).1 = _
      rw [e2, e5]
      exact whole_pt (hg.sound _ (Nat.le_refl _)) _ (fun s hs => by rw [gTx_len]; exact hg.top _ (Nat.le_refl _) s hs) []
    have hl : (sgT f).whole.len ≤ 1099511627776 := by rw [hW, long_len, ← gAll_tx hg]; exact hb
    have h := hS.file hf (T := gTx f (bt f 2)) (by rw [hR]; exact hg.sound _ (Nat.le_refl _)) (by rw [hR, hSt, gRu_len]; exact fun s hs => hg.top _ (Nat.le_refl _) s hs) (by rw [hSt]; exact hW) hl
    rw [hSt] at h
    exact h.one he'
theorem CutOut.form {f : ByteArray} {x y : Int} {w w' : World} {e : Ending} (h : CutOut f x y w w' e) : ∃ (s : ByteArray) (c : Int), e = .returned (.tuple #[.string s, .int .i64 c]) := by
  rcases h.out with ⟨_, he⟩ | ⟨t, _, ⟨_, he⟩ | ⟨_, _, he⟩ | ⟨_, _, T, _, he⟩⟩ <;> exact ⟨_, _, he⟩

set_option maxHeartbeats 4000000 in
set_option maxRecDepth 100000 in
theorem cuts_any (f : ByteArray) (x y : Int) (w : World) (hf : f.size ≤ maxLen) (hx1 : -9223372036854775808 ≤ x) (hx2 : x ≤ 9223372036854775807) (hy1 : -9223372036854775808 ≤ y) (hy2 : y ≤ 9223372036854775807) :
    Calls Try.prog 10 #[.string f, .int .i64 x, .int .i64 y] w fun e w' => e = .returned (.bool true) ∧ Below w.heap.size w w' := by
  have h1 : Hid (Calls _ _ _ w _) := cut_any f hf x y hx1 hx2 hy1 hy2 w
  have h2 : Hid (∀ w, Calls _ _ _ w _) := fun w => rcutW_any f hf x y hx1 hx2 hy1 hy2 w
  go_enter Try.func10, Try.ntmps10
  go_wp2_with fail
  refine h1.out.mono ?_
  rintro e w1 ho
  obtain ⟨s, c, rfl⟩ := ho.form
  have hoH : Hid (CutOut _ _ _ _ _ _) := ho
  have hB1 : Hid (Below w.heap.size w w1) := ho.below
  clear ho h1
  go_wp2_with fail
  refine (h2.out _).mono ?_
  rintro e w2 hr
  have he := cut_same hoH.out hr
  subst he
  have hB2 : Hid (Below w.heap.size w w2) := hB1.out.trans (hr.below.mono hB1.out.size)
  clear hr hoH h2 hB1
  go_wp2
  go_ret
  exact ⟨rfl, hB2.out⟩

end Go.Proofs.Ytgifhgnccmnbiaa

set_option linter.unusedVariables false
set_option linter.unusedSimpArgs false
namespace Go.Proofs.Ytgifhgnccmnbiaa
open Go.RowKit Go.IntWalk

def twoL (v : Nat) : List Nat := [v % 256, v / 256]
def symOf (tx : List Nat) (n : Nat) : Nat := if n = 0 then tx.getD 0 0 else 255 + n
def secOf (tx : List Nat) (n : Nat) : Nat := if n + 1 < tx.length then tx.getD (n + 1) 0 else symOf tx n
def rulesL (tx : List Nat) (n : Nat) : List Nat := (List.range n).flatMap fun i => twoL (symOf tx i) ++ twoL (secOf tx i)
def fileL (tx : List Nat) (k : Nat) (more : List Nat) : List Nat :=
  [83, 71, tx.length - 1 + k] ++ rulesL tx (tx.length - 1 + k) ++ twoL (1 + more.length) ++ twoL (symOf tx (tx.length - 1 + k)) ++ more.flatMap twoL
theorem rulesL_succ (tx : List Nat) (n : Nat) : rulesL tx (n + 1) = rulesL tx n ++ (twoL (symOf tx n) ++ twoL (secOf tx n)) := by
  unfold rulesL; rw [List.range_succ, List.flatMap_append]; simp
theorem rulesL_len (tx : List Nat) : ∀ n, (rulesL tx n).length = 4 * n
  | 0 => rfl
  | n + 1 => by rw [rulesL_succ, List.length_append, rulesL_len tx n]; rfl
theorem rulesL_get (tx : List Nat) : ∀ n i j, i < n → j < 4 → (rulesL tx n).getD (4 * i + j) 0 = (twoL (symOf tx i) ++ twoL (secOf tx i)).getD j 0
  | 0, i, j, hi, _ => by omega
  | n + 1, i, j, hi, hj => by
    rw [rulesL_succ]
    have hl := rulesL_len tx n
    simp only [List.getD]
    by_cases h : i < n
    · rw [List.getElem?_append_left (by omega)]
      exact rulesL_get tx n i j h hj
    · have : i = n := by omega
      subst this
      rw [List.getElem?_append_right (by omega), hl, Nat.add_sub_cancel_left]
theorem more_len : ∀ l : List Nat, (l.flatMap twoL).length = 2 * l.length
  | [] => rfl
  | x :: l => by rw [List.flatMap_cons, List.length_append, more_len l]; simp [twoL]; omega
theorem more_get : ∀ (l : List Nat) (i j : Nat), i < l.length → j < 2 → (l.flatMap twoL).getD (2 * i + j) 0 = (twoL (l.getD i 0)).getD j 0
  | [], i, j, h, _ => by simp at h
  | x :: l, 0, j, _, hj => by
    rw [List.flatMap_cons]
    simp only [List.getD]
    rw [List.getElem?_append_left (by simp [twoL]; omega)]
    simp
  | x :: l, i + 1, j, h, hj => by
    rw [List.flatMap_cons]
    have := more_get l i j (by simpa using h) hj
    simp only [List.getD] at this ⊢
    rw [List.getElem?_append_right (by simp [twoL]; omega), show 2 * (i + 1) + j - (twoL x).length = 2 * i + j by simp [twoL]; omega, this]
    rfl
theorem bt_list {f : ByteArray} (i : Nat) : bt f i = (bytesN f).getD i 0 := by
  unfold bt bytesN
  split
  · rename_i h
    have h2 : i < f.data.toList.length := h
    simp only [List.getD]
    rw [List.getElem?_map, List.getElem?_eq_getElem h2]
    rfl
  · rename_i h
    have h2 : ¬ i < f.data.toList.length := h
    simp only [List.getD]
    rw [List.getElem?_map, List.getElem?_eq_none (by omega)]
    rfl

/-- A file with these bytes. -/
structure Dbl (f : ByteArray) (tx : List Nat) (k : Nat) (more : List Nat) : Prop where
  file : bytesN f = fileL tx k more
  pos : 1 ≤ tx.length
  len : tx.length ≤ 40
  k : k ≤ 40
  mlen : more.length ≤ 600
  byte : ∀ c, c ∈ tx → c < 256
  mbyte : ∀ c, c ∈ more → c < 256
section
variable {f : ByteArray} {tx more : List Nat} {k : Nat} (h : Dbl f tx k more)
include h
theorem Dbl.size : f.size = 7 + 4 * (tx.length - 1 + k) + 2 * more.length := by
  rw [← bytesN_len, h.file]
  unfold fileL
  simp only [List.length_append, rulesL_len, more_len]
  simp [twoL]
  omega
theorem Dbl.get (i : Nat) : bt f i = (fileL tx k more).getD i 0 := by rw [bt_list, h.file]
theorem Dbl.b0 : bt f 0 = 83 := by rw [h.get]; rfl
theorem Dbl.b1 : bt f 1 = 71 := by rw [h.get]; rfl
theorem Dbl.b2 : bt f 2 = tx.length - 1 + k := by rw [h.get]; rfl
theorem Dbl.rule (i j : Nat) (hi : i < tx.length - 1 + k) (hj : j < 4) : bt f (3 + 4 * i + j) = (twoL (symOf tx i) ++ twoL (secOf tx i)).getD j 0 := by
  rw [h.get, ← rulesL_get tx _ i j hi hj]
  have hl := rulesL_len tx (tx.length - 1 + k)
  unfold fileL
  simp only [List.getD, List.append_assoc]
  rw [List.getElem?_append_right (by simp; omega)]
  rw [List.getElem?_append_left (by rw [hl]; simp; omega)]
  congr 2
  simp; omega
theorem Dbl.top0 (j : Nat) (hj : j < 2) : bt f (3 + 4 * (tx.length - 1 + k) + j) = (twoL (1 + more.length)).getD j 0 := by
  rw [h.get]
  have hl := rulesL_len tx (tx.length - 1 + k)
  unfold fileL
  simp only [List.getD, List.append_assoc]
  rw [List.getElem?_append_right (by simp; omega), List.getElem?_append_right (by rw [hl]; simp; omega), List.getElem?_append_left (by rw [hl]; simp [twoL]; omega)]
  congr 2
  rw [hl]; simp; omega
theorem Dbl.sym0 (j : Nat) (hj : j < 2) : bt f (5 + 4 * (tx.length - 1 + k) + j) = (twoL (symOf tx (tx.length - 1 + k))).getD j 0 := by
  rw [h.get]
  have hl := rulesL_len tx (tx.length - 1 + k)
  unfold fileL
  simp only [List.getD, List.append_assoc]
  rw [List.getElem?_append_right (by simp; omega), List.getElem?_append_right (by rw [hl]; simp; omega), List.getElem?_append_right (by rw [hl]; simp [twoL]; omega), List.getElem?_append_left (by rw [hl]; simp [twoL]; omega)]
  congr 2
  rw [hl]; simp [twoL]; omega
theorem Dbl.symN (i j : Nat) (hi : i < more.length) (hj : j < 2) : bt f (7 + 4 * (tx.length - 1 + k) + 2 * i + j) = (twoL (more.getD i 0)).getD j 0 := by
  rw [h.get, ← more_get more i j hi hj]
  have hl := rulesL_len tx (tx.length - 1 + k)
  unfold fileL
  simp only [List.getD, List.append_assoc]
  rw [List.getElem?_append_right (by simp; omega), List.getElem?_append_right (by rw [hl]; simp; omega), List.getElem?_append_right (by rw [hl]; simp [twoL]; omega), List.getElem?_append_right (by rw [hl]; simp [twoL]; omega)]
  congr 2
  rw [hl]; simp [twoL]; omega
end
theorem two_nat (v : Nat) : (twoL v).getD 0 0 + 256 * (twoL v).getD 1 0 = v := by
  show v % 256 + 256 * (v / 256) = v
  omega
section
variable {f : ByteArray} {tx more : List Nat} {k : Nat} (h : Dbl f tx k more)
include h
theorem Dbl.pa (i : Nat) (hi : i < tx.length - 1 + k) : prI f (3 + 4 * i) = (symOf tx i : Int) := by
  have hs := h.size
  rw [prI_of (by omega)]
  have e0 := h.rule i 0 hi (by omega)
  have e1 := h.rule i 1 hi (by omega)
  rw [show 3 + 4 * i + 0 = 3 + 4 * i by omega] at e0
  rw [e0, e1]
  exact congrArg _ (two_nat (symOf tx i))
theorem Dbl.pb (i : Nat) (hi : i < tx.length - 1 + k) : prI f (5 + 4 * i) = (secOf tx i : Int) := by
  have hs := h.size
  rw [prI_of (by omega)]
  have e0 := h.rule i 2 hi (by omega)
  have e1 := h.rule i 3 hi (by omega)
  rw [show 3 + 4 * i + 2 = 5 + 4 * i by omega] at e0
  rw [show 3 + 4 * i + 3 = 5 + 4 * i + 1 by omega] at e1
  rw [e0, e1]
  exact congrArg _ (two_nat (secOf tx i))
theorem Dbl.pn : prI f (3 + 4 * (tx.length - 1 + k)) = ((1 + more.length : Nat) : Int) := by
  have hs := h.size
  rw [prI_of (by omega)]
  have e0 := h.top0 0 (by omega)
  have e1 := h.top0 1 (by omega)
  rw [show 3 + 4 * (tx.length - 1 + k) + 0 = 3 + 4 * (tx.length - 1 + k) by omega] at e0
  rw [e0, e1]
  exact congrArg _ (two_nat (1 + more.length))
theorem Dbl.ps0 : prI f (5 + 4 * (tx.length - 1 + k)) = (symOf tx (tx.length - 1 + k) : Int) := by
  have hs := h.size
  rw [prI_of (by omega)]
  have e0 := h.sym0 0 (by omega)
  have e1 := h.sym0 1 (by omega)
  rw [show 5 + 4 * (tx.length - 1 + k) + 0 = 5 + 4 * (tx.length - 1 + k) by omega] at e0
  rw [e0, e1]
  exact congrArg _ (two_nat _)
theorem Dbl.psN (i : Nat) (hi : i < more.length) : prI f (7 + 4 * (tx.length - 1 + k) + 2 * i) = (more.getD i 0 : Int) := by
  have hs := h.size
  rw [prI_of (by omega)]
  have e0 := h.symN i 0 hi (by omega)
  have e1 := h.symN i 1 hi (by omega)
  rw [show 7 + 4 * (tx.length - 1 + k) + 2 * i + 0 = 7 + 4 * (tx.length - 1 + k) + 2 * i by omega] at e0
  rw [e0, e1]
  exact congrArg _ (two_nat _)
theorem Dbl.get_lt (i : Nat) : tx.getD i 0 < 256 := by
  by_cases hi : i < tx.length
  · have : tx.getD i 0 = tx[i] := by simp [List.getD, hi]
    rw [this]; exact h.byte _ (List.getElem_mem hi)
  · have : tx.getD i 0 = 0 := by simp [List.getD, List.getElem?_eq_none (by omega : tx.length ≤ i)]
    omega
theorem Dbl.sym_lt (n : Nat) : symOf tx n < 256 + n := by
  unfold symOf
  split
  · have := h.get_lt 0; omega
  · omega
theorem Dbl.sec_lt (n : Nat) : secOf tx n < 256 + n := by
  unfold secOf
  split
  · have := h.get_lt (n + 1); omega
  · exact h.sym_lt n
theorem Dbl.ok : GOk f := by
  have hs := h.size
  have hl := h.len
  have hk := h.k
  have hp := h.pos
  have hm := h.mlen
  have e2 := h.b2
  refine ⟨by omega, by omega, ⟨h.b0, h.b1⟩, by omega, fun i hi => ?_, ?_, ?_, ?_, fun i hi => ?_⟩
  · rw [e2] at hi
    obtain ⟨j, hj | hj⟩ : ∃ j, i = 2 * j ∨ i = 2 * j + 1 := ⟨i / 2, by omega⟩
    · subst hj
      rw [show 3 + 2 * (2 * j) = 3 + 4 * j by omega, show 2 * j / 2 = j by omega, h.pa j (by omega)]
      have := h.sym_lt j; omega
    · subst hj
      rw [show 3 + 2 * (2 * j + 1) = 5 + 4 * j by omega, show (2 * j + 1) / 2 = j by omega, h.pb j (by omega)]
      have := h.sec_lt j; omega
  · rw [e2, h.pn]; omega
  · rw [e2, h.pn]; omega
  · rw [e2, h.pn, hs]; omega
  · rw [e2, h.pn] at hi
    rw [e2]
    by_cases h0 : i = 0
    · subst h0
      rw [Nat.mul_zero, Nat.add_zero, h.ps0]
      have := h.sym_lt (tx.length - 1 + k); omega
    · obtain ⟨j, rfl⟩ : ∃ j, i = j + 1 := ⟨i - 1, by omega⟩
      rw [show 5 + 4 * (tx.length - 1 + k) + 2 * (j + 1) = 7 + 4 * (tx.length - 1 + k) + 2 * j by omega, h.psN j (by omega)]
      have : more.getD j 0 < 256 := by
        have hj : j < more.length := by omega
        have e : more.getD j 0 = more[j] := by simp [List.getD, hj]
        rw [e]; exact h.mbyte _ (List.getElem_mem hj)
      omega
end

/-- So many times over. -/
def repL (tx : List Nat) : Nat → List Nat
  | 0 => []
  | n + 1 => repL tx n ++ tx
theorem repL_len (tx : List Nat) : ∀ n, (repL tx n).length = n * tx.length
  | 0 => by simp [repL]
  | n + 1 => by rw [repL, List.length_append, repL_len tx n, Nat.succ_mul]
theorem repL_add (tx : List Nat) (a : Nat) : ∀ b, repL tx (a + b) = repL tx a ++ repL tx b
  | 0 => by simp [repL]
  | b + 1 => by rw [← Nat.add_assoc, repL, repL_add tx a b, repL, List.append_assoc]
theorem repL_get (tx : List Nat) : ∀ (n i : Nat), i < n * tx.length → (repL tx n).getD i 0 = tx.getD (i % tx.length) 0
  | 0, i, h => by simp at h
  | n + 1, i, h => by
    have hl := repL_len tx n
    rw [Nat.succ_mul] at h
    simp only [repL, List.getD]
    by_cases hi : i < n * tx.length
    · rw [List.getElem?_append_left (by omega)]
      exact repL_get tx n i hi
    · rw [List.getElem?_append_right (by omega), hl]
      congr 2
      have e : i = tx.length * n + (i - n * tx.length) := by rw [Nat.mul_comm]; omega
      conv => rhs; rw [e]
      rw [Nat.mul_add_mod]
      exact (Nat.mod_eq_of_lt (by omega)).symm
/-- The text of the symbol behind n rules. -/
def dW (tx : List Nat) (n : Nat) : List Nat := if n < tx.length then tx.take (n + 1) else repL tx (2 ^ (n + 1 - tx.length))
theorem dW_succ {tx : List Nat} (hp : 1 ≤ tx.length) (n : Nat) : dW tx (n + 1) = dW tx n ++ (if n + 1 < tx.length then [tx.getD (n + 1) 0] else dW tx n) := by
  unfold dW
  by_cases h1 : n + 1 < tx.length
  · rw [if_pos h1, if_pos (by omega), if_pos h1, List.take_add_one (i := n + 1), List.getElem?_eq_getElem h1]
    simp [List.getD, h1]
  · rw [if_neg h1, if_neg h1]
    by_cases h2 : n < tx.length
    · have e : tx.take (n + 1) = tx := List.take_of_length_le (by omega)
      rw [if_pos h2, e, show n + 1 + 1 - tx.length = 1 by omega]
      simp [repL]
    · rw [if_neg h2, ← repL_add, show n + 1 + 1 - tx.length = n + 1 - tx.length + 1 by omega, Nat.pow_succ]
      congr 1; omega
section
variable {f : ByteArray} {tx more : List Nat} {k : Nat} (h : Dbl f tx k more)
include h
theorem Dbl.ga (i : Nat) (hi : i < tx.length - 1 + k) : gA f i = symOf tx i := by unfold gA; rw [h.pa i hi]; rfl
theorem Dbl.gb (i : Nat) (hi : i < tx.length - 1 + k) : gB f i = secOf tx i := by unfold gB; rw [h.pb i hi]; rfl
theorem Dbl.txs : ∀ n, n ≤ tx.length - 1 + k → gTx f n = (List.range n).map (fun i => dW tx (i + 1))
  | 0, _ => rfl
  | n + 1, hn => by
    have ih := Dbl.txs n (by omega)
    have hsym : symT (gTx f n) (symOf tx n) = dW tx n := by
      unfold symOf
      by_cases h0 : n = 0
      · subst h0
        rw [if_pos rfl]
        have hb := h.get_lt 0
        have hp := h.pos
        unfold symT dW
        rw [if_pos hb, if_pos (by omega), List.take_add_one, List.take_zero, List.getElem?_eq_getElem (by omega)]
        simp [List.getD, List.getElem?_eq_getElem (by omega : 0 < tx.length)]
      · rw [if_neg h0, ih]
        unfold symT
        rw [if_neg (by omega), show 255 + n - 256 = n - 1 by omega]
        simp only [List.getD]
        rw [List.getElem?_map, List.getElem?_range (by omega)]
        simp
        congr 1; omega
    have hsec : symT (gTx f n) (secOf tx n) = if n + 1 < tx.length then [tx.getD (n + 1) 0] else dW tx n := by
      unfold secOf
      by_cases h1 : n + 1 < tx.length
      · rw [if_pos h1, if_pos h1]
        unfold symT
        rw [if_pos (h.get_lt _)]
      · rw [if_neg h1, if_neg h1]; exact hsym
    show gTx f n ++ [symT (gTx f n) (Go.Proofs.Ytgifhgnccmnbiaa.gA f n) ++ symT (gTx f n) (Go.Proofs.Ytgifhgnccmnbiaa.gB f n)] = _
    rw [h.ga n (by omega), h.gb n (by omega), hsym, hsec, ← dW_succ h.pos, ih, List.range_succ, List.map_append]
    rfl
theorem Dbl.gn : gN f = 1 + more.length := by unfold gN; rw [h.b2, h.pn]; rfl
theorem Dbl.tops : ∀ j, j ≤ more.length → gTop f (j + 1) = symOf tx (tx.length - 1 + k) :: more.take j
  | 0, _ => by
    show [] ++ [gS f 0] = _
    have e : gS f 0 = symOf tx (tx.length - 1 + k) := by unfold gS; rw [h.b2, Nat.mul_zero, Nat.add_zero, h.ps0]; rfl
    rw [e]; rfl
  | j + 1, hj => by
    have ih := Dbl.tops j (by omega)
    show gTop f (j + 1) ++ [gS f (j + 1)] = _
    have e : gS f (j + 1) = more.getD j 0 := by
      unfold gS
      rw [h.b2, show 5 + 4 * (tx.length - 1 + k) + 2 * (j + 1) = 7 + 4 * (tx.length - 1 + k) + 2 * j by omega, h.psN j (by omega)]; rfl
    rw [ih, e, List.take_add_one, List.getElem?_eq_getElem (by omega)]
    simp [List.getD, List.getElem?_eq_getElem (by omega : j < more.length)]
theorem Dbl.flat : (gTop f (gN f)).flatMap (symT (gTx f (bt f 2))) = repL tx (2 ^ k) ++ more := by
  have hp := h.pos
  rw [h.gn, Nat.add_comm, h.tops _ (Nat.le_refl _), List.take_length, List.flatMap_cons, h.b2]
  congr 1
  · have h1 := h.txs (tx.length - 1 + k) (Nat.le_refl _)
    have hd : dW tx (tx.length - 1 + k) = repL tx (2 ^ k) := by
      unfold dW
      by_cases hk : k = 0
      · subst hk
        rw [if_pos (by omega), List.take_of_length_le (by omega)]
        simp [repL]
      · rw [if_neg (by omega), show tx.length - 1 + k + 1 - tx.length = k by omega]
    rw [← hd]
    unfold symOf
    by_cases h0 : tx.length - 1 + k = 0
    · rw [if_pos h0, h0]
      unfold symT dW
      rw [if_pos (h.get_lt 0), if_pos (by omega), List.take_add_one, List.take_zero, List.getElem?_eq_getElem (by omega)]
      simp [List.getD, List.getElem?_eq_getElem (by omega : 0 < tx.length)]
    · rw [if_neg h0, h1]
      unfold symT
      rw [if_neg (by omega), show 255 + (tx.length - 1 + k) - 256 = tx.length - 1 + k - 1 by omega]
      simp only [List.getD]
      rw [List.getElem?_map, List.getElem?_range (by omega)]
      simp
      congr 1; omega
  · have : ∀ l : List Nat, (∀ c, c ∈ l → c < 256) → ∀ T, l.flatMap (symT T) = l := by
      intro l
      induction l with
      | nil => intro _ _; rfl
      | cons x l ih =>
        intro hl T
        have e : symT T x = [x] := if_pos (hl x (by simp))
        rw [List.flatMap_cons, e, ih (fun y hy => hl y (by simp [hy])) T]; rfl
    exact this more h.mbyte _
/-- What the code's reader makes of it. -/
theorem Dbl.stext : SFile f (sgT f) ∧ SText (sgT f) (gTx f (bt f 2)) ∧ (sgT f).start.flatMap (symT (gTx f (bt f 2))) = repL tx (2 ^ k) ++ more := by
  have hg := h.ok
  have hf : SFile f (sgT f) := SFile.rules (by have := hg.five; omega) hg.most hg.sg hg.ok
  obtain ⟨e1, e2, e3, e4, e5⟩ := hg.read
  have hR : (sgT f).rules = gRu f (bt f 2) := by show (sgG f).1 = _; rw [e2]
  have hSt : (sgT f).start = gTop f (gN f) := e5
  have hW : (sgT f).whole = ptOf ((gTop f (gN f)).flatMap (symT (gTx f (bt f 2)))) := by
    show wholeP (sgG f).1 (sgS f).1 = _
    rw [e2, e5]
    exact whole_pt (hg.sound _ (Nat.le_refl _)) _ (fun s hs => by rw [gTx_len]; exact hg.top _ (Nat.le_refl _) s hs) []
  refine ⟨hf, ⟨by rw [hR]; exact hg.sound _ (Nat.le_refl _), by rw [hR, hSt, gRu_len]; exact fun s hs => hg.top _ (Nat.le_refl _) s hs, by rw [hSt]; exact hW, by rw [hR, gRu_len]; have := hg.r; omega, by rw [hSt, gTop_len]; have := hg.n; omega⟩, by rw [hSt]; exact h.flat⟩
end

end Go.Proofs.Ytgifhgnccmnbiaa
