/- Both sides answer Shape alike. No Go in it. -/
import Derived.Test.YtgifhgnccmnbiaaShSameZ
import Derived.Test.YtgifhgnccmnbiaaShapesWalk
set_option linter.unusedVariables false
set_option linter.unusedSimpArgs false
namespace Go.Proofs.Ytgifhgnccmnbiaa
open Go.RowKit Go.IntWalk

theorem zz0 (f : ByteArray) : ZZ (f.extract 3 f.size) (bt f 2) (z0 f) {} [] :=
  ⟨rfl, rfl, rfl, rfl, Sound.nil, rfl, (fun i hi => absurd hi (Nat.not_lt_zero _)), Or.inl ⟨rfl, rfl, rfl⟩, (fun x hx => nomatch hx), rfl, rfl, rfl, rfl⟩
def OnB (f : ByteArray) (n : Nat) : Prop := ∀ i, i < n → ∃ q, zitB (f.extract 3 f.size) (bt f 2) i = some q ∧ zgoB (f.extract 3 f.size) (bt f 2) q = true
theorem zz_run {f : ByteArray} : ∀ n r, zitB (f.extract 3 f.size) (bt f 2) n = some r → OnB f n → ∃ T, ZZ (f.extract 3 f.size) (bt f 2) (zit (z0 f) n) r T
  | 0, r, h, _ => by
    simp only [zitB, Option.some.injEq] at h
    subst h
    exact ⟨[], zz0 f⟩
  | n + 1, r, h, hon => by
    obtain ⟨q, hq, hg⟩ := hon n (by omega)
    obtain ⟨T, hT⟩ := zz_run n q hq (fun i hi => hon i (by omega))
    have h2 : (zitB (f.extract 3 f.size) (bt f 2) n).bind (zsB (f.extract 3 f.size) (bt f 2)) = some r := h
    rw [hq] at h2
    exact (hT.step hg).2 r h2
theorem zz_on {f : ByteArray} {n : Nat} (hon : OnB f n) : ∀ i, i < n → zgo (zit (z0 f) i) = true := fun i hi => by
  obtain ⟨q, hq, hg⟩ := hon i hi
  obtain ⟨T, hT⟩ := zz_run i q hq (fun j hj => hon j (by omega))
  rw [hT.go]; exact hg
theorem ZGood.file' {f : ByteArray} {n : Nat} {r : ZB} (h : ZGood f n r) : SFile f (zit (z0 f) n).2 ∧ (zit (z0 f) n).2.kind = 90 ∧ (zit (z0 f) n).2.syms = n ∧ (zit (z0 f) n).2.whole = ptOf (bytesN r.out) := by
  obtain ⟨T, hT⟩ := zz_run n r h.it h.on
  obtain ⟨z1, z2, z3, z4, z5⟩ := h.file
  refine ⟨SFile.codes (by omega) z2 z3 ?_ ⟨zz_on h.on, by rw [hT.go]; exact h.stop⟩ (by rw [hT.ok]; exact h.fin), hT.kind, by rw [hT.syms, h.num], hT.whole⟩
  unfold zMost
  rw [decide_eq_true z1, decide_eq_true z4, decide_eq_true z5]; rfl
theorem ZNo.none {f : ByteArray} (h : ZNo f) (h4 : f.size ≤ 4000) (hz : isSZ f) (hm : zMost f = true) {n : Nat} (hr : ZRun f n) (hk : zOk (zit (z0 f) n) = true) : False := by
  rcases h with h | ⟨h, n0, r, hit, hon, ⟨a, b⟩ | ⟨a, b⟩⟩
  · unfold zMost at hm
    simp only [Bool.and_eq_true, decide_eq_true_eq] at hm
    exact h ⟨hm.1.1, h4, hz, hm.1.2, hm.2⟩
  · obtain ⟨T, hT⟩ := zz_run n0 r hit hon
    have hb := (hT.step a).1 b
    have hrun : ZRun f (n0 + 1) := by
      refine ⟨fun i hi => ?_, ?_⟩
      · by_cases hin : i = n0
        · subst hin; rw [hT.go]; exact a
        · exact zz_on hon i (by omega)
      · show zgo (zstep (zit (z0 f) n0)) = false
        unfold zgo; rw [hb]; rfl
    have := hr.one hrun
    subst this
    have hk2 : zOk (zstep (zit (z0 f) n0)) = true := hk
    unfold zOk at hk2
    rw [hb] at hk2
    cases hk2
  · obtain ⟨T, hT⟩ := zz_run n0 r hit hon
    have hrun : ZRun f n0 := ⟨zz_on hon, by rw [hT.go]; exact a⟩
    have := hr.one hrun
    subst this
    rw [hT.ok, b] at hk
    cases hk
theorem flat_self : ∀ l : List Nat, (∀ x, x ∈ l → x < 256) → l.flatMap (symT []) = l
  | [], _ => rfl
  | x :: l, h => by
    have e : symT [] x = [x] := if_pos (h x (by simp))
    rw [List.flatMap_cons, e, flat_self l (fun y hy => h y (by simp [hy]))]; rfl
theorem whole_bytes (s : ByteArray) : wholeR [] (bytesN s) = piOf (bytesN s) := by
  have h := whole_tx (T := []) (bytesN s) (fun x hx => by have := bytesN_lt s x hx; simp; omega) []
  rw [flat_self _ (bytesN_lt s)] at h
  exact h

theorem shape_same : ShapeSame := by
  intro f w0 w1 w2 w3 e e' hS hR
  have four : ∀ t, SFile f t → f.size ≤ 4000 := fun t ht => by cases ht <;> assumption
  rcases hR.out with ⟨n, r, hz, he'⟩ | ⟨hno, hg, he'⟩ | ⟨hno, hg, hb, he'⟩ | ⟨hno, hg, hb, he'⟩
  · obtain ⟨hf, hk, hsy, hw⟩ := hz.file'
    have hsz := hz.size
    rcases hS.out with ⟨hn, _⟩ | ⟨t, ht, h2⟩
    · exact absurd hf (hn _)
    · have := ht.one hf
      subst this
      have hlen : (zit (z0 f) n).2.whole.len ≤ 1099511627776 := by
        rw [hw, ptOf_len, bytesN_len, capL_of (by omega)]; omega
      rcases h2 with ⟨h3, _⟩ | ⟨_, he⟩
      · omega
      · rw [he, he', hk, hsy, hw, whole_bytes, lines_same, long_len]
  · rcases hS.out with ⟨hn, he⟩ | ⟨t, ht, h2⟩
    · rw [he, he']
    · exfalso
      cases ht with
      | rules a b c d => exact hg (ok_GOk c b d)
      | codes a b c d x y => exact hno.none b c d x y
  · have hf : SFile f (sgT f) := SFile.rules (by have := hg.five; omega) hg.most hg.sg hg.ok
    obtain ⟨t0, q1, q2⟩ := hg.whole
    rcases hS.out with ⟨hn, _⟩ | ⟨t, ht, h2⟩
    · exact absurd hf (hn _)
    · have := ht.one hf
      subst this
      rcases h2 with ⟨_, he⟩ | ⟨h3, _⟩
      · rw [he, he']
      · rw [q1, long_len, ← q2] at h3; omega
  · have hf : SFile f (sgT f) := SFile.rules (by have := hg.five; omega) hg.most hg.sg hg.ok
    obtain ⟨t0, q1, q2⟩ := hg.whole
    obtain ⟨_, _, e3, _, _⟩ := hg.read
    rcases hS.out with ⟨hn, _⟩ | ⟨t, ht, h2⟩
    · exact absurd hf (hn _)
    · have := ht.one hf
      subst this
      rcases h2 with ⟨h3, _⟩ | ⟨_, he⟩
      · rw [q1, long_len, ← q2] at h3; omega
      · have hsy : (sgT f).syms = gN f := by show (sgN f).1 = gN f; rw [e3]
        rw [he, he', hsy, q1, q2, lines_same, long_len]
        rfl

theorem shapes_any (f : ByteArray) (hf : f.size ≤ maxLen) (w : World) :
    Calls Try.prog 9 #[.string f] w fun e w' => e = .returned (.bool true) ∧ Below w.heap.size w w' := shapes_law shape_same f hf w

end Go.Proofs.Ytgifhgnccmnbiaa
