/- The machine: learn: what a step can be, by its node; a machine as a whole in a block. -/
import Derived.Test.YtjhmkkhnnijigaaLearn
set_option linter.unusedVariables false
set_option linter.unusedSimpArgs false
namespace Go.Proofs.Ytjhmkkhnnijigaa
open Go.RowKit Go.IntWalk

set_option maxHeartbeats 2000000 in
set_option maxRecDepth 100000 in
theorem learn_any (m : MP) (g : Nat) (step : B64) (n : AN) (x : IV) (fold : Bool) (B : Nat) (w : World) (h : MIn w g m) (hx : ItemsOk w B x n.its) (hl : n.its.length ≤ 1000) (hne : (ivV x).ownBlock ≠ some g) :
    Calls Try.prog 51 #[.pointer (some ⟨g, 0, none⟩), .int .u64 (step.toNat : Int), .agg #[.int .i64 n.kind, .slice x.1 x.2.1 x.2.2, .bool n.neg, .int .i64 n.left, .int .i64 n.right, .int .i64 n.least, .int .i64 n.most, .int .i64 n.size], .bool fold] w
      fun e w' => e = .returned (.tuple #[]) ∧ MIn w' g (learnP m step n fold) ∧ Kept [g] w w' := by
  have hg : g < w.heap.size := Blk.lt h
  have hA : MIn (w.alloc (.cells #[.int .i64 n.kind, .slice x.1 x.2.1 x.2.2, .bool n.neg, .int .i64 n.left, .int .i64 n.right, .int .i64 n.least, .int .i64 n.most, .int .i64 n.size] 109)) g m := Blk.alloc h _
  have k0 : Kept [g] w (w.alloc (.cells #[.int .i64 n.kind, .slice x.1 x.2.1 x.2.2, .bool n.neg, .int .i64 n.left, .int .i64 n.right, .int .i64 n.least, .int .i64 n.most, .int .i64 n.size] 109)) := (Kept.refl _ _).alloc _
  by_cases e2 : n.kind = 2
  · have hP : Hid (learnP m step n fold = { m with begins := m.begins ||| step }) := by show learnP m step n fold = _; unfold learnP; rw [if_pos e2]
    have hor := or_u m.begins step
    have c1 := h.begins
    have f1 := h.frozen 318
    have hI := (Blk.set h 318 (UV (m.begins ||| step)))
    rw [m_set_begins] at hI
    have hIH : Hid (Blk _ _ _ _) := hI.alloc (.cells #[.int .i64 n.kind, .slice x.1 x.2.1 x.2.2, .bool n.neg, .int .i64 n.left, .int .i64 n.right, .int .i64 n.least, .int .i64 n.most, .int .i64 n.size] 109)
    have hKH : Hid (Kept _ _ _) := ((Kept.refl [g] w).setCell (p := ⟨g, 318, none⟩) (Or.inl (by simp)) (UV (m.begins ||| step))).alloc (.cells #[.int .i64 n.kind, .slice x.1 x.2.1 x.2.2, .bool n.neg, .int .i64 n.left, .int .i64 n.right, .int .i64 n.least, .int .i64 n.most, .int .i64 n.size] 109)
    have b2 : (n.kind == 2) = true := by rw [e2]; rfl
    clear hI hA h hx k0 e2
    generalize m.begins ||| step = Z at *
    go_enter Try.func51, Try.ntmps51
    go_wp2
    go_end0
    exact ⟨rfl, by rw [hP.out]; exact hIH.out, hKH.out⟩
  by_cases e3 : n.kind = 3
  · have hP : Hid (learnP m step n fold = { m with ends := m.ends ||| step }) := by show learnP m step n fold = _; unfold learnP; rw [if_neg e2, if_pos e3]
    have hor := or_u m.ends step
    have c1 := h.ends
    have f1 := h.frozen 319
    have hI := (Blk.set h 319 (UV (m.ends ||| step)))
    rw [m_set_ends] at hI
    have hIH : Hid (Blk _ _ _ _) := hI.alloc (.cells #[.int .i64 n.kind, .slice x.1 x.2.1 x.2.2, .bool n.neg, .int .i64 n.left, .int .i64 n.right, .int .i64 n.least, .int .i64 n.most, .int .i64 n.size] 109)
    have hKH : Hid (Kept _ _ _) := ((Kept.refl [g] w).setCell (p := ⟨g, 319, none⟩) (Or.inl (by simp)) (UV (m.ends ||| step))).alloc (.cells #[.int .i64 n.kind, .slice x.1 x.2.1 x.2.2, .bool n.neg, .int .i64 n.left, .int .i64 n.right, .int .i64 n.least, .int .i64 n.most, .int .i64 n.size] 109)
    have b2 : (n.kind == 2) = false := by rw [e3]; rfl
    have b3 : (n.kind == 3) = true := by rw [e3]; rfl
    clear hI hA h hx k0 e2 e3
    generalize m.ends ||| step = Z at *
    go_enter Try.func51, Try.ntmps51
    go_wp2
    go_end0
    exact ⟨rfl, by rw [hP.out]; exact hIH.out, hKH.out⟩
  by_cases e1 : n.kind = 1
  · have hP : Hid (learnP m step n fold = learnQ m step n fold 256) := by show learnP m step n fold = _; unfold learnP; rw [if_neg e2, if_neg e3, if_pos e1]
    have hc : Hid (Calls _ _ _ _ _) := learnBytes_any m g step n x fold B _ hA (hx.keep k0 (by simpa using hne)) hl hne
    have hrg : World.rangeAt (w.alloc (.cells #[.int .i64 n.kind, .slice x.1 x.2.1 x.2.2, .bool n.neg, .int .i64 n.left, .int .i64 n.right, .int .i64 n.least, .int .i64 n.most, .int .i64 n.size] 109)) w.heap.size 0 (n.cells x) := fun j v hv => by
      rw [Nat.zero_add, (Blk.new w _ _).cell, ← hv]
      show (n.cells x).toArray[j]? = _
      simp
    have hkH : Hid (Kept _ _ _) := k0
    have hK : Hid (n.kind = 1) := e1
    have ek : (w.alloc (.cells #[.int .i64 n.kind, .slice x.1 x.2.1 x.2.2, .bool n.neg, .int .i64 n.left, .int .i64 n.right, .int .i64 n.least, .int .i64 n.most, .int .i64 n.size] 109)).cell? ⟨w.heap.size, 0, none⟩ = some (.int .i64 1) := by
      rw [(Blk.new w _ _).cell, ← e1]; rfl
    have hk1 : ∀ kd, kd = n.kind → n.kind = 1 := fun _ _ => e1
    clear hA h hx k0 e2 e3 e1 ek hk1
    go_enter Try.func51, Try.ntmps51
    have e1 := hK.out
    have e1' : (n.kind == 2) = false := by rw [e1]; rfl
    have e1'' : (n.kind == 3) = false := by rw [e1]; rfl
    have e1''' : (n.kind == 1) = true := by rw [e1]; rfl
    clear e1
    go_wp2_with (first
      | (with_reducible refine wpList_load_node ?_ (.tmp 6) ?_ w.heap.size 0 ?_ n x ?_ ?_
         · rfl
         · rfl
         · rfl
         · exact hrg)
      | (go_at_call 72
         refine hc.out.mono ?_
         rintro e w5 ⟨rfl, h5, k5⟩))
    go_end0
    exact ⟨rfl, by rw [hP.out]; exact h5, hkH.out.trans k5⟩
  · have hP : Hid (learnP m step n fold = m) := by show learnP m step n fold = _; unfold learnP; rw [if_neg e2, if_neg e3, if_neg e1]
    have hIH : Hid (MIn _ _ _) := hA
    have hkH : Hid (Kept _ _ _) := k0
    clear hA h hx k0
    go_enter Try.func51, Try.ntmps51
    go_wp2
    go_end0
    exact ⟨rfl, by rw [hP.out]; exact hIH.out, hkH.out⟩

end Go.Proofs.Ytjhmkkhnnijigaa
