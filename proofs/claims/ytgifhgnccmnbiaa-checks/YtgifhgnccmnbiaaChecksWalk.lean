/- The law Checks: both calls, side by side. -/
import Derived.Test.YtgifhgnccmnbiaaSyncTop
set_option linter.unusedVariables false
set_option linter.unusedSimpArgs false
namespace Go.Proofs.Ytgifhgnccmnbiaa
open Go.RowKit Go.IntWalk

set_option maxHeartbeats 2000000 in
theorem checks_any (t : ByteArray) (w : World) (hs : t.size ≤ maxLen) :
    Calls Try.prog 3 #[.string t] w fun e w' => e = .returned (.bool true) ∧ Below w.heap.size w w' := by
  by_cases h : t.size ≤ 40
  · go_enter Try.func3, Try.ntmps3
    go_wp2_with fail
    refine (check_any t _ h).mono ?_
    rintro e w1 ⟨b1, r, hr, _, hcase⟩
    have key : ∀ q, EvR t 0 [] rp0 q → (BadR t r ↔ BadT t q) ∧ (¬ BadT t q → sizeAt r.2.2 r.1 = cap61 (szT q)) := fun q hq => check_same h hr hq
    have keyH : Hid (∀ q, _) := key
    clear key hr
    rcases hcase with ⟨hb, rfl⟩ | ⟨hb, hz, rfl⟩ | ⟨hb, hz, rfl⟩
    · have hbH : Hid (BadR t r) := hb
      clear hb
      go_wp2_with fail
      refine (rcheck_any t _ h).mono ?_
      rintro e w2 ⟨b2, q, hq, _, hc2⟩
      have hbt : BadT t q := (keyH.out q hq).1.1 hbH.out
      have hbel : Below w.heap.size w w2 := b1.trans (b2.mono b1.size)
      rcases hc2 with ⟨_, rfl⟩ | ⟨hn, _⟩ | ⟨hn, _⟩
      · clear hq hbt b2
        go_wp2
        go_ret
        exact ⟨rfl, hbel⟩
      · exact absurd hbt hn
      · exact absurd hbt hn
    · have hbH : Hid (¬ BadR t r) := hb
      clear hb
      go_wp2_with fail
      refine (rcheck_any t _ h).mono ?_
      rintro e w2 ⟨b2, q, hq, _, hc2⟩
      have hbt : ¬ BadT t q := fun hc => hbH.out ((keyH.out q hq).1.2 hc)
      have hsz := (keyH.out q hq).2 hbt
      have hbel : Below w.heap.size w w2 := b1.trans (b2.mono b1.size)
      rcases hc2 with ⟨hn, _⟩ | ⟨_, _, rfl⟩ | ⟨_, hle, rfl⟩
      · exact absurd hn hbt
      · clear hq hbt b2 hsz hz
        go_wp2
        go_ret
        exact ⟨rfl, hbel⟩
      · rw [hsz] at hz
        unfold cap61 at hz
        split at hz <;> omega
    · have hbH : Hid (¬ BadR t r) := hb
      clear hb
      go_wp2_with fail
      refine (rcheck_any t _ h).mono ?_
      rintro e w2 ⟨b2, q, hq, _, hc2⟩
      have hbt : ¬ BadT t q := fun hc => hbH.out ((keyH.out q hq).1.2 hc)
      have hsz := (keyH.out q hq).2 hbt
      have hbel : Below w.heap.size w w2 := b1.trans (b2.mono b1.size)
      rcases hc2 with ⟨hn, _⟩ | ⟨_, hgt, rfl⟩ | ⟨_, hle, rfl⟩
      · exact absurd hn hbt
      · rw [hsz] at hz
        unfold cap61 at hz
        split at hz <;> omega
      · have e : sizeAt r.2.2 r.1 = szT q := by rw [hsz]; exact if_neg (by omega)
        clear hq hbt b2 hsz hz hle keyH
        rw [e]
        generalize szT q = z at *
        go_wp2
        go_ret
        exact ⟨rfl, hbel⟩
  · go_enter Try.func3, Try.ntmps3
    go_wp2_with fail
    refine (check_long t _ (by omega) hs).mono ?_
    rintro e w1 ⟨rfl, b1⟩
    go_wp2_with fail
    refine (rcheck_long t _ (by omega) hs).mono ?_
    rintro e w2 ⟨rfl, rfl⟩
    go_wp2
    go_ret
    exact ⟨rfl, b1⟩

end Go.Proofs.Ytgifhgnccmnbiaa
