/- Both sides of PackG answer alike; the law PacksG, walked. -/
import Derived.Test.YtgifhgnccmnbiaaRgPack
set_option linter.unusedVariables false
set_option linter.unusedSimpArgs false
namespace Go.Proofs.Ytgifhgnccmnbiaa
open Go.RowKit Go.IntWalk

set_option maxHeartbeats 1000000 in
set_option maxRecDepth 100000 in
theorem rpackG_all (t : ByteArray) (ht : t.size ≤ maxLen) (w : World) :
    Calls Try.prog 32 #[.string t] w fun e w' => PackGOut t e ∧ Below w.heap.size w w' := by
  unfold maxLen at ht
  have hb : Hid (Below w.heap.size w w) := Below.refl _ _
  by_cases h1 : (600 : Int) < (t.size : Int)
  · go_enter Try.func32, Try.ntmps32
    go_wp2
    go_ret2
    exact ⟨Or.inl ⟨by omega, rfl⟩, hb.out⟩
  · have hs : t.size ≤ 600 := by omega
    refine (rpackG_any t hs w).mono ?_
    rintro e w' ⟨h, b⟩
    exact ⟨Or.inr ⟨hs, h⟩, b⟩
theorem PackGOut.one {t : ByteArray} {e e' : Ending} (h : PackGOut t e) (h' : PackGOut t e') : e = e' := by
  rcases h with ⟨a, rfl⟩ | ⟨a, q, hq, rfl⟩ <;> rcases h' with ⟨a', rfl⟩ | ⟨a', q', hq', rfl⟩
  · rfl
  · omega
  · omega
  · rw [hq.one hq']
theorem PackGOut.form {t : ByteArray} {e : Ending} (h : PackGOut t e) : ∃ (s : ByteArray) (c : Int), e = .returned (.tuple #[.string s, .int .i64 c]) := by
  rcases h with ⟨a, rfl⟩ | ⟨a, q, hq, rfl⟩ <;> exact ⟨_, _, rfl⟩

set_option maxHeartbeats 4000000 in
set_option maxRecDepth 100000 in
theorem packsG_any (t : ByteArray) (w : World) (ht : t.size ≤ maxLen) :
    Calls Try.prog 12 #[.string t] w fun e w' => e = .returned (.bool true) ∧ Below w.heap.size w w' := by
  have h1 : Hid (Calls _ _ _ w _) := packG_any t ht w
  have h2 : Hid (∀ w, Calls _ _ _ w _) := fun w => rpackG_all t ht w
  go_enter Try.func12, Try.ntmps12
  go_wp2_with fail
  refine h1.out.mono ?_
  rintro e w1 ⟨ho, b1⟩
  obtain ⟨s, c, rfl⟩ := ho.form
  have hoH : Hid (PackGOut _ _) := ho
  have hB1 : Hid (Below w.heap.size w w1) := b1
  clear ho h1 b1
  go_wp2_with fail
  refine (h2.out _).mono ?_
  rintro e w2 ⟨hr, b2⟩
  have he := hoH.out.one hr
  subst he
  have hB2 : Hid (Below w.heap.size w w2) := hB1.out.trans (b2.mono hB1.out.size)
  clear hr hoH h2 hB1 b2
  go_wp2
  go_ret
  exact ⟨rfl, hB2.out⟩

end Go.Proofs.Ytgifhgnccmnbiaa
