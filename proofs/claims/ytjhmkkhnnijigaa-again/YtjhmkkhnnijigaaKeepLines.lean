/- Package siftkeep: the lines of a text; a short line. -/
import Derived.Test.YtjhmkkhnnijigaaSem
import Derived.Test.YtjhmkkhnnijigaaRefMem
set_option linter.unusedVariables false
set_option linter.unusedSimpArgs false
namespace Go.Proofs.Ytjhmkkhnnijigaa
open Go.RowKit Go.IntWalk

def NoNl (s : ByteArray) : Prop := noNl s s.size
theorem infoString : (Try.prog.info? 9).map (fun i => (i.zero, i.size, i.bytes)) = some (some (.string ByteArray.empty), 1, 16) := by kernel_rfl
theorem noNl_empty : NoNl ByteArray.empty := fun i hi h => by have : ByteArray.empty.size = 0 := rfl; omega
theorem noNl_more {s t : ByteArray} {q : Nat} (hs : NoNl s) (hq : q < t.size) (hc : t[q].toNat ≠ 10) : NoNl (s ++ t.extract q (q + 1)) := fun i hi h => by
  by_cases h1 : i < s.size
  · rw [ByteArray.getElem_append_left h1]; exact hs i h1 h1
  · rw [ByteArray.getElem_append_right (by omega), ByteArray.getElem_extract]
    have : i - s.size = 0 := by
      rw [ByteArray.size_append, ByteArray.size_extract] at h
      omega
    simp only [this, Nat.add_zero]
    exact hc
theorem size_more {s t : ByteArray} {q : Nat} (hq : q < t.size) : (s ++ t.extract q (q + 1)).size = s.size + 1 := by
  rw [ByteArray.size_append, ByteArray.size_extract]; omega

/-- Lines: none has a newline, none is longer than so many bytes. -/
def LinesOk (n : Nat) (ls : List ByteArray) : Prop := ∀ s, s ∈ ls → NoNl s ∧ s.size ≤ n
structure LsIn (w0 w : World) (v : Value) (n : Nat) (ls : List ByteArray) : Prop where
  own : w.ownsRow w0.heap.size 9 1 v ls.length (ls.map Value.string)
  ok : LinesOk n ls
  k : Kept [] w0 w

theorem LsIn.push {w0 w w' : World} {v v' : Value} {n : Nat} {ls : List ByteArray} {s : ByteArray} {o : Obj} (h : LsIn w0 w v n ls) (hs : NoNl s) (hn : s.size ≤ n)
    (hown : w'.ownsRow w0.heap.size 9 1 v' (ls.length + 1) (ls.map Value.string ++ [.string s])) (hgrow : (w.alloc o).grownBy w' v.ownBlock) : LsIn w0 w' v' n (ls ++ [s]) := by
  refine ⟨by rw [List.map_append, List.length_append]; exact hown, fun x hx => ?_, ?_⟩
  · rcases List.mem_append.1 hx with hx | hx
    · exact h.ok x hx
    · simp at hx; subst hx; exact ⟨hs, hn⟩
  · have bl : ∀ k, k < w.heap.size → v.ownBlock ≠ some k → w'.heap[k]? = w.heap[k]? := fun k hk hne => by
      rw [hgrow.block k (by simp; omega) (fun hc => hne hc.symm), Below.heap_alloc _ _ _ hk]
    have hs2 : w.heap.size ≤ w'.heap.size := by have := hgrow.size; simp at this; omega
    have hk := h.k
    exact ⟨hgrow.os.trans hk.os, hgrow.tape.trans hk.tape, hgrow.output.trans hk.output, Nat.le_trans hk.size hs2, fun i hi hn => by
      have := hk.size
      rw [bl i (by omega) (fun hc => by have := (h.own.lt i hc).1; omega)]; exact hk.block i hi hn⟩

set_option maxHeartbeats 2000000 in
set_option maxRecDepth 100000 in
theorem lines_any (t : ByteArray) (ht : t.size ≤ 1000) (w : World) :
    Calls Try.prog 37 #[.string t] w fun e w' => ∃ v, e = .returned v ∧ ∃ ls, LsIn w w' v t.size ls := by
  obtain ⟨i0, hi0, hz0, hz1, hz2⟩ := info_parts infoString
  go_enter Try.func37, Try.ntmps37
  go_wp2_with fail
  go_loopw [3, 4, 5] (fun lv av iv wr => ∃ (q : Nat) (v : Value) (s : ByteArray) (ls : List ByteArray), lv = v ∧ av = .string s ∧ iv = .int .i64 (q : Int) ∧ q ≤ t.size ∧ NoNl s ∧ s.size ≤ q ∧ ls.length ≤ q ∧ LsIn w wr v t.size ls) (fun _ _ iv _ => ((t.size : Int) - intOf iv).toNat)
  case atStart => exact ⟨0, _, ByteArray.empty, [], rfl, rfl, rfl, Nat.zero_le _, noNl_empty, Nat.zero_le _, Nat.zero_le _, ⟨World.ownsRow_nil _ _ _ _, fun s hs => by simp at hs, Kept.refl _ _⟩⟩
  case round =>
    obtain ⟨q, v, s, ls, hv, rfl, rfl, hq, hs, hsq, hlq, hI⟩ := hrel
    obtain rfl := hv.symm
    have hsz := hI.k.size
    by_cases hlt : (q : Int) < (t.size : Int)
    · have hqn : q < t.size := by omega
      by_cases hc : (t[q].toNat : Int) = 10
      · go_wp2_with (at_builtin; (refine wpList_append_placed rfl (.tmp 16) (.tmp 18) 66 rfl w.heap.size 9 i0 _ 1 16 Try.underlying66 hi0 hz0 hz1 hz2 rfl (by decide) v ls.length (ls.map Value.string) rfl ?own ⟨wr.heap.size, 0, none⟩ 1 1 [.string s] rfl rfl ?n1 ?n2 ?b1 ?b2 ?b3 ?kk))
        case own => exact hI.own.alloc _
        case n2 => first | (simp [Value.oneCell']; done) | exact cells_new _ _ _ _ rfl | (intro u hu; simp at hu; subst hu; rfl)
        case b1 => unfold maxLen; omega
        case b2 => omega
        case b3 => first | omega | (simp; omega)
        case kk =>
          intro v' w5 hown hgrow _
          have h5 : Hid (LsIn _ _ _ _ _) := hI.push hs (by omega) hown hgrow
          clear hown hgrow hI
          go_wp2
          refine ⟨⟨q + 1, v', ByteArray.empty, ls ++ [s], rfl, rfl, by go_num, by omega, noNl_empty, Nat.zero_le _, by simp; omega, h5.out⟩, ?_⟩
          simp only [intOf]; omega
      · have hn : Hid (NoNl (s ++ t.extract q (q + 1))) := noNl_more hs hqn (by omega)
        have hz : Hid ((s ++ t.extract q (q + 1)).size = s.size + 1) := size_more hqn
        have hIH : Hid (LsIn _ _ _ _ _) := hI
        have e1 : ((t[q].toNat : Int) == 10) = false := beq_eq_false_iff_ne.2 hc
        have n1 : (t[q].toNat : Int) ≠ 10 := hc
        clear hI hc
        go_wp2
        refine ⟨⟨q + 1, v, s ++ t.extract q (q + 1), ls, rfl, rfl, by go_num, by omega, hn.out, by rw [hz.out]; omega, by omega, hIH.out⟩, ?_⟩
        simp only [intOf]; omega
    · by_cases he : s.toList.isEmpty = true
      · have hIH : Hid (LsIn _ _ _ _ _) := hI
        clear hI hs
        go_wp2
        go_ret
        exact ⟨_, rfl, ls, hIH.out⟩
      · have he : s.toList.isEmpty = false := by simpa using he
        go_wp2_with (at_builtin; (refine wpList_append_placed rfl (.tmp 29) (.tmp 31) 66 rfl w.heap.size 9 i0 _ 1 16 Try.underlying66 hi0 hz0 hz1 hz2 rfl (by decide) v ls.length (ls.map Value.string) rfl ?own ⟨wr.heap.size, 0, none⟩ 1 1 [.string s] rfl rfl ?n1 ?n2 ?b1 ?b2 ?b3 ?kk))
        case own => exact hI.own.alloc _
        case n2 => first | (simp [Value.oneCell']; done) | exact cells_new _ _ _ _ rfl | (intro u hu; simp at hu; subst hu; rfl)
        case b1 => unfold maxLen; omega
        case b2 => omega
        case b3 => first | omega | (simp; omega)
        case kk =>
          intro v' w5 hown hgrow _
          have h5 : Hid (LsIn _ _ _ _ _) := hI.push hs (by omega) hown hgrow
          clear hown hgrow hI
          go_wp2
          go_ret
          exact ⟨_, rfl, _, h5.out⟩

end Go.Proofs.Ytjhmkkhnnijigaa
