/- Both sides answer Cut alike; the law Cuts, walked. -/
import Derived.Test.YtgifhgnccmnbiaaRCutW
set_option linter.unusedVariables false
set_option linter.unusedSimpArgs false
namespace Go.Proofs.Ytgifhgnccmnbiaa
open Go.RowKit Go.IntWalk

theorem CutOut.file {f : ByteArray} {x y : Int} {w w' : World} {e : Ending} (h : CutOut f x y w w' e) {t : TT} (ht : SFile f t) {T : List (List Nat)} (hT : Sound t.rules T) (hs : ∀ s, s ∈ t.start → s < 256 + t.rules.length) (hw : t.whole = ptOf (t.start.flatMap (symT T))) (hl : t.whole.len ≤ 1099511627776) :
    RangeCase (t.start.flatMap (symT T)) x y e := by
  have hlen : (t.start.flatMap (symT T)).length = t.whole.len := by
    rw [hw, ptOf_len] at hl ⊢
    exact (capL_small hl).symm
  rcases h.out with ⟨hn, _⟩ | ⟨t', ht', h2⟩
  · exact absurd ht (hn _)
  · have := ht'.one ht
    subst this
    rcases h2 with ⟨h3, _⟩ | ⟨_, h3, he⟩ | ⟨_, h3, U, hU, he⟩
    · omega
    · rw [← hlen] at h3; exact Or.inl ⟨h3, he⟩
    · rw [← hlen] at h3
      have hT2 : SText t' T := ⟨hT, hs, hw, hU.rlen, hU.slen⟩
      rw [hU.one hT2] at he
      exact Or.inr ⟨h3, he⟩
theorem RangeCase.one {X : List Nat} {x y : Int} {e e' : Ending} (h : RangeCase X x y e) (h' : RangeCase X x y e') : e = e' := by
  rcases h with ⟨a, rfl⟩ | ⟨a, rfl⟩ <;> rcases h' with ⟨b, rfl⟩ | ⟨b, rfl⟩
  · rfl
  · exact absurd b a
  · exact absurd a b
  · rfl
theorem cut_same {f : ByteArray} {x y : Int} {w0 w1 w2 w3 : World} {e e' : Ending} (hS : CutOut f x y w0 w1 e) (hR : CutR f x y w2 w3 e') : e = e' := by
  rcases hR.out with ⟨n, r, hz, he'⟩ | ⟨hno, hg, he'⟩ | ⟨hno, hg, hb, he'⟩ | ⟨hno, hg, hb, he'⟩
  · obtain ⟨hf, hk, hsy, hw⟩ := hz.file'
    obtain ⟨T, hT⟩ := zz_run n r hz.it hz.on
    have hsz := hz.size
    have hlen : (zit (z0 f) n).2.whole.len ≤ 1099511627776 := by
      rw [hw, ptOf_len, bytesN_len, capL_of (by omega)]; omega
    have h := hS.file hf hT.sound (fun s hs => by rw [hT.sound.len]; exact hT.start s hs) (by rw [hT.whole, hT.out]) hlen
    rw [← hT.out] at h
    exact h.one he'
  · rcases hS.out with ⟨hn, he⟩ | ⟨t, ht, h2⟩
    · rw [he, he']
    · exfalso
      cases ht with
      | rules a b c d => exact hg (ok_GOk c b d)
      | codes a b c d x y => exact hno.none b c d x y
  · have hf : SFile f (sgT f) := SFile.rules (by have := hg.five; omega) hg.most hg.sg hg.ok
    obtain ⟨t0, q1, q2⟩ := hg.whole
    rcases hS.out with ⟨hn, _⟩ | ⟨t, ht, h2⟩
    · exact absurd hf (hn _)
    · have := ht.one hf
      subst this
      rcases h2 with ⟨_, he⟩ | ⟨h3, _⟩ | ⟨h3, _⟩
      · rw [he, he']
      · rw [q1, long_len, ← q2] at h3; omega
      · rw [q1, long_len, ← q2] at h3; omega
  · have hf : SFile f (sgT f) := SFile.rules (by have := hg.five; omega) hg.most hg.sg hg.ok
    obtain ⟨e1, e2, e3, e4, e5⟩ := hg.read
    have hR : (sgT f).rules = gRu f (bt f 2) := by show (sgG f).1 = _; rw [e2]
    have hSt : (sgT f).start = gTop f (gN f) := e5
    have hW : (sgT f).whole = ptOf ((gTop f (gN f)).flatMap (symT (gTx f (bt f 2)))) := by
      show wholeP (sgG f).1 (sgS f).1 = _
      rw [e2, e5]
      exact whole_pt (hg.sound _ (Nat.le_refl _)) _ (fun s hs => by rw [gTx_len]; exact hg.top _ (Nat.le_refl _) s hs) []
    have hl : (sgT f).whole.len ≤ 1099511627776 := by rw [hW, long_len, ← gAll_tx hg]; exact hb
    have h := hS.file hf (T := gTx f (bt f 2)) (by rw [hR]; exact hg.sound _ (Nat.le_refl _)) (by rw [hR, hSt, gRu_len]; exact fun s hs => hg.top _ (Nat.le_refl _) s hs) (by rw [hSt]; exact hW) hl
    rw [hSt] at h
    exact h.one he'
theorem CutOut.form {f : ByteArray} {x y : Int} {w w' : World} {e : Ending} (h : CutOut f x y w w' e) : ∃ (s : ByteArray) (c : Int), e = .returned (.tuple #[.string s, .int .i64 c]) := by
  rcases h.out with ⟨_, he⟩ | ⟨t, _, ⟨_, he⟩ | ⟨_, _, he⟩ | ⟨_, _, T, _, he⟩⟩ <;> exact ⟨_, _, he⟩

set_option maxHeartbeats 4000000 in
set_option maxRecDepth 100000 in
theorem cuts_any (f : ByteArray) (x y : Int) (w : World) (hf : f.size ≤ maxLen) (hx1 : -9223372036854775808 ≤ x) (hx2 : x ≤ 9223372036854775807) (hy1 : -9223372036854775808 ≤ y) (hy2 : y ≤ 9223372036854775807) :
    Calls Try.prog 10 #[.string f, .int .i64 x, .int .i64 y] w fun e w' => e = .returned (.bool true) ∧ Below w.heap.size w w' := by
  have h1 : Hid (Calls _ _ _ w _) := cut_any f hf x y hx1 hx2 hy1 hy2 w
  have h2 : Hid (∀ w, Calls _ _ _ w _) := fun w => rcutW_any f hf x y hx1 hx2 hy1 hy2 w
  go_enter Try.func10, Try.ntmps10
  go_wp2_with fail
  refine h1.out.mono ?_
  rintro e w1 ho
  obtain ⟨s, c, rfl⟩ := ho.form
  have hoH : Hid (CutOut _ _ _ _ _ _) := ho
  have hB1 : Hid (Below w.heap.size w w1) := ho.below
  clear ho h1
  go_wp2_with fail
  refine (h2.out _).mono ?_
  rintro e w2 hr
  have he := cut_same hoH.out hr
  subst he
  have hB2 : Hid (Below w.heap.size w w2) := hB1.out.trans (hr.below.mono hB1.out.size)
  clear hr hoH h2 hB1
  go_wp2
  go_ret
  exact ⟨rfl, hB2.out⟩

end Go.Proofs.Ytgifhgnccmnbiaa
