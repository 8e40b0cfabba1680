/- The machine: linked: new ways in a part. -/
import Derived.Test.YtjhmkkhnnijigaaBig
set_option linter.unusedVariables false
set_option linter.unusedSimpArgs false
namespace Go.Proofs.Ytjhmkkhnnijigaa
open Go.RowKit Go.IntWalk

/-- A call that hands back a part, and leaves all old memory as it was. -/
def PartCall (f : Nat) (args : Array Value) (w : World) (p : GP) : Prop :=
  Calls Try.prog f args w fun e w' => e = .returned (.agg (gpCells p)) ∧ Kept [] w w'

/-- Linked, so far as the steps below q. -/
def linkedQ (a : GP) (fr to : B64) (q : Nat) : GP := { a with next := fun s => if s < q ∧ fr.getLsbD s = true then a.next s ||| to else a.next s }
theorem linkedQ_off {a : GP} {fr to : B64} {q : Nat} (h : fr.getLsbD q = false) : linkedQ a fr to (q + 1) = linkedQ a fr to q := by
  unfold linkedQ
  congr 1
  funext s
  by_cases hs : s = q
  · subst hs; rw [if_neg (by simp [h]), if_neg (by simp [h])]
  · by_cases h1 : s < q ∧ fr.getLsbD s = true
    · rw [if_pos ⟨by omega, h1.2⟩, if_pos h1]
    · rw [if_neg (fun hc => h1 ⟨by omega, hc.2⟩), if_neg h1]
theorem linkedQ_on {a : GP} {fr to : B64} {q : Nat} (h : fr.getLsbD q = true) : (linkedQ a fr to (q + 1)).Same { linkedQ a fr to q with next := fun j => if j = q then a.next q ||| to else (linkedQ a fr to q).next j } := by
  refine ⟨rfl, rfl, rfl, rfl, fun s _ => ?_, fun _ _ => rfl⟩
  simp only [linkedQ]
  by_cases hs : s = q
  · subst hs; rw [if_pos ⟨by omega, h⟩, if_pos rfl]
  · rw [if_neg hs]
    by_cases h1 : s < q ∧ fr.getLsbD s = true
    · rw [if_pos ⟨by omega, h1.2⟩, if_pos h1]
    · rw [if_neg (fun hc => h1 ⟨by omega, hc.2⟩), if_neg h1]

set_option maxHeartbeats 2000000 in
set_option maxRecDepth 100000 in
theorem linked_any (a : GP) (fr to : B64) (w : World) :
    PartCall 124 #[.agg (gpCells a), UV fr, UV to] w (linkedP a fr to) := by
  unfold PartCall
  have hz := zeroV_part
  go_enter Try.func124, Try.ntmps124
  go_wp2_with fail
  go_loopw [7] (fun iv wr => ∃ q : Nat, iv = .int .i64 (q : Int) ∧ q ≤ 60 ∧ Blk wr w.heap.size (gpCells (linkedQ a fr to q)) 102 ∧ Blk wr (w.heap.size + 1) (gpCells {}) 102 ∧ Kept [] w wr) (fun iv _ => (60 - intOf iv).toNat)
  case atStart =>
    have e0 : gpCells (linkedQ a fr to 0) = gpCells a := gpCells_same ⟨rfl, rfl, rfl, rfl, fun i _ => by simp [linkedQ], fun _ _ => rfl⟩
    exact ⟨0, rfl, by omega, by rw [e0]; exact (Blk.new _ _ _).alloc _, by have := Blk.new (w.alloc (.cells (gpCells a) 102)) (gpCells {}) 102; simpa using this, ((Kept.refl _ _).alloc _).alloc _⟩
  case round =>
    obtain ⟨q, rfl, hq, hb, hz2, hk⟩ := hrel
    have hsz := hb.lt
    by_cases hlt : (q : Int) < 60
    · have hqn : q < 60 := by omega
      have hhas : Hid (∀ w, Calls _ _ _ _ _) := fun w => has_any fr q (by omega) w
      have hon := linkedQ_on (a := a) (fr := fr) (to := to) (q := q)
      have hoff := linkedQ_off (a := a) (fr := fr) (to := to) (q := q)
      have hOn : Hid (_ → _) := hon
      have hOff : Hid (_ → _) := hoff
      clear hon hoff
      have hor := or_u (a.next q) to
      have hnx : (linkedQ a fr to q).next q = a.next q := by simp [linkedQ]
      have hc := hb.cell (4 + q)
      rw [part_next _ _ hqn, hnx] at hc
      have hf := hb.frozen (4 + q)
      have hbH : Hid (Blk _ _ _ _) := hb
      have hzH : Hid (Blk _ _ _ _) := hz2
      have hkH : Hid (Kept _ _ _) := hk
      clear hb hz2 hk hnx
      cases hbit : fr.getLsbD q with
      | true =>
        have hbitH : Hid (_ = _) := hbit
        rw [hbit] at hhas
        clear hbit
        go_wp2_with (go_at_call 109; refine (hhas.out _).mono ?_; rintro _ _ ⟨rfl, rfl⟩)
        refine ⟨⟨q + 1, by go_num, by omega, ?_, hzH.out.other _ _ (by omega), hkH.out.setCell (Or.inr (by simp)) _⟩, ?_⟩
        · have := hbH.out.set (4 + q) (UV (a.next q ||| to))
          rw [part_set_next _ _ _ _ hqn (hOn.out hbitH.out)] at this
          exact this
        · simp only [intOf]; omega
      | false =>
        have hbitH : Hid (_ = _) := hbit
        rw [hbit] at hhas
        clear hbit
        go_wp2_with (go_at_call 109; refine (hhas.out _).mono ?_; rintro _ _ ⟨rfl, rfl⟩)
        refine ⟨⟨q + 1, by go_num, by omega, ?_, hzH.out, hkH.out⟩, ?_⟩
        · rw [hOff.out hbitH.out]; exact hbH.out
        · simp only [intOf]; omega
    · have hqe : q = 60 := by omega
      subst hqe
      have e1 : gpCells (linkedQ a fr to 60) = gpCells (linkedP a fr to) := gpCells_same ⟨rfl, rfl, rfl, rfl, fun i _ => rfl, fun _ _ => rfl⟩
      rw [e1] at hb
      have hbH : Hid (Blk _ _ _ _) := hb
      have hzH : Hid (Blk _ _ _ _) := hz2
      have hkH : Hid (Kept _ _ _) := hk
      clear hb hz2 hk e1
      go_wp2_with (first | (refine wpList_load_part rfl (.tmp 3) rfl w.heap.size rfl _ hbH.out ?_) | (refine wpList_store_part rfl (.tmp 6) (.tmp 23) rfl (w.heap.size + 1) rfl {} _ rfl hzH.out ?_; intro w5 hb5 hk5 hs5))
      exact bodyPost_ret (v := .agg (gpCells (linkedP a fr to))) (results_part Try.results124 _ _ _ _ rfl hb5) rfl ⟨rfl, hkH.out.into hk5 (by omega)⟩

end Go.Proofs.Ytjhmkkhnnijigaa
