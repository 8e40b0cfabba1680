/- Package siftkeep: the lines of a text, one by one. -/
import Derived.Test.YtgifhgnccmnbiabGreatDoorG07
import Derived.Test.YtgifhgnccmnbiabGreatDoorG06
import Derived.Test.YtgifhgnccmnbiabGreatDoorG15
import Derived.Test.YtgifhgnccmnbiabGreatDoorG25
set_option linter.unusedVariables false
set_option linter.unusedSimpArgs false
namespace Go.Proofs.YtgifhgnccmnbiabGreatDoor
open Go.RowKit Go.IntWalk

theorem infoStringK : (Tryz.prog.info? 9).map (fun i => (i.zero, i.size, i.bytes)) = some (some (.string ByteArray.empty), 1, 16) := by kernel_rfl
structure LinesIn (w0 w : World) (v : Value) (ls : List ByteArray) : Prop where
  own : w.ownsRow w0.heap.size 9 1 v ls.length (ls.map Value.string)
  k : Kept [] w0 w
theorem LinesIn.push {w0 w w' : World} {v v' : Value} {ls : List ByteArray} {s : ByteArray} {o : Obj} (h : LinesIn w0 w v ls)
    (hown : w'.ownsRow w0.heap.size 9 1 v' (ls.length + 1) (ls.map Value.string ++ [.string s])) (hgrow : (w.alloc o).grownBy w' v.ownBlock) : LinesIn w0 w' v' (ls ++ [s]) := by
  refine ⟨by rw [List.map_append, List.length_append]; exact hown, ?_⟩
  have bl : ∀ k, k < w.heap.size → v.ownBlock ≠ some k → w'.heap[k]? = w.heap[k]? := fun k hk hne => by
    rw [hgrow.block k (by simp; omega) (fun hc => hne hc.symm), Below.heap_alloc _ _ _ hk]
  have hs2 : w.heap.size ≤ w'.heap.size := by have := hgrow.size; simp at this; omega
  have hk := h.k
  exact ⟨hgrow.os.trans hk.os, hgrow.tape.trans hk.tape, hgrow.output.trans hk.output, Nat.le_trans hk.size hs2, fun i hi hn => by
    have := hk.size
    rw [bl i (by omega) (fun hc => by have := (h.own.lt i hc).1; omega)]; exact hk.block i hi hn⟩
theorem loopK_len (bs : ByteArray) : ∀ (k i : Nat) (r : List UInt8), bs.size - i = k → (ByteArray.toList.loop bs i r).length = r.length + (bs.size - i)
  | 0, i, r, h => by
    rw [ByteArray.toList.loop]
    rw [if_neg (by omega)]
    simp; omega
  | k + 1, i, r, h => by
    rw [ByteArray.toList.loop]
    rw [if_pos (by omega)]
    rw [loopK_len bs k (i + 1) _ (by omega)]
    simp; omega
theorem emptyK_iff (s : ByteArray) : s.toList.isEmpty = true ↔ bytesN s = [] := by
  rw [List.isEmpty_iff, ← List.length_eq_zero_iff, ← List.length_eq_zero_iff, bytesN_len]
  unfold ByteArray.toList
  rw [loopK_len s s.size 0 [] (by omega)]
  simp
theorem mapN_inj : ∀ {a b : List UInt8}, a.map UInt8.toNat = b.map UInt8.toNat → a = b
  | [], [], _ => rfl
  | [], y :: b, h => by simp at h
  | x :: a, [], h => by simp at h
  | x :: a, y :: b, h => by
    simp only [List.map_cons, List.cons.injEq] at h
    rw [UInt8.toNat_inj.1 h.1, mapN_inj h.2]
theorem bytesN_inj {a b : ByteArray} (h : bytesN a = bytesN b) : a = b := by
  apply ByteArray.ext
  apply Array.ext'
  exact mapN_inj h
theorem bytesN_appK (a b : ByteArray) : bytesN (a ++ b) = bytesN a ++ bytesN b := by
  unfold bytesN; rw [ByteArray.data_append, Array.toList_append, List.map_append]
theorem bytesN_at1 {t : ByteArray} {q : Nat} (h : q < t.size) : bytesN (t.extract q (q + 1)) = [t[q].toNat] ∧ (bytesN t).drop q = t[q].toNat :: (bytesN t).drop (q + 1) := by
  have hl : q < t.data.toList.length := h
  have hl2 : q < (bytesN t).length := by rw [bytesN_len]; exact h
  have e : (bytesN t)[q] = t[q].toNat := by
    show (t.data.toList.map UInt8.toNat)[q]'(by simpa using h) = _
    rw [List.getElem_map, Array.getElem_toList]; rfl
  refine ⟨?_, by rw [List.drop_eq_getElem_cons hl2, e]⟩
  have h2 : bytesN (t.extract q (q + 1)) = ((bytesN t).drop q).take 1 := by
    unfold bytesN
    rw [ByteArray.data_extract]
    simp [List.map_drop, List.map_take, List.take_drop]
  rw [h2, List.drop_eq_getElem_cons hl2, e]; rfl

set_option maxHeartbeats 2000000 in
set_option maxRecDepth 100000 in
theorem linesOf_any (t : ByteArray) (ht : t.size ≤ 1000) (w : World) :
    Calls Tryz.prog 19 #[.string t] w fun e w' => ∃ v, e = .returned v ∧ ∃ ls, LinesIn w w' v ls ∧ ls.map bytesN = linesL (bytesN t) := by
  obtain ⟨i0, hi0, hz0, hz1, hz2⟩ := info_parts infoStringK
  have h0 : Hid (linesL (bytesN t) = ([] : List ByteArray).map bytesN ++ linesA (bytesN ByteArray.empty) ((bytesN t).drop 0)) := by show _ = _; rfl
  have hend : Hid ((bytesN t).drop t.size = []) := by show _ = _; rw [← bytesN_len]; exact List.drop_length
  obtain ⟨X, hX⟩ : ∃ X, linesL (bytesN t) = X := ⟨_, rfl⟩
  rw [hX] at h0 ⊢
  clear hX
  go_enter Tryz.func19, Tryz.ntmps19
  go_wp2_with fail
  go_loopw [3, 4, 5] (fun lv av iv wr => ∃ (q : Nat) (v : Value) (s : ByteArray) (ls : List ByteArray), lv = v ∧ av = .string s ∧ iv = .int .i64 (q : Int) ∧ q ≤ t.size ∧ s.size ≤ q ∧ ls.length ≤ q ∧ LinesIn w wr v ls ∧ Hid (X = ls.map bytesN ++ linesA (bytesN s) ((bytesN t).drop q))) (fun _ _ iv _ => ((t.size : Int) - intOf iv).toNat)
  case atStart => exact ⟨0, _, ByteArray.empty, [], rfl, rfl, rfl, Nat.zero_le _, Nat.zero_le _, Nat.zero_le _, ⟨World.ownsRow_nil _ _ _ _, Kept.refl _ _⟩, h0⟩
  case round =>
    clear h0
    obtain ⟨q, v, s, ls, hv, rfl, rfl, hq, hsq, hlq, hI, hXq⟩ := hrel
    obtain rfl := hv.symm
    have hsz := hI.k.size
    by_cases hlt : (q : Int) < (t.size : Int)
    · have hqn : q < t.size := by omega
      obtain ⟨p1, p2⟩ := bytesN_at1 hqn
      by_cases hc : (t[q].toNat : Int) = 10
      · have hX2 : Hid (X = (ls ++ [s]).map bytesN ++ linesA (bytesN ByteArray.empty) ((bytesN t).drop (q + 1))) := by
          show _ = _
          rw [hXq.out, p2, show t[q].toNat = 10 by omega, linesA_nl, List.map_append, List.append_assoc]; rfl
        clear p1 p2 hXq
        go_wp2_with (at_builtin; (refine wpList_append_placed rfl (.tmp 16) (.tmp 18) 38 rfl w.heap.size 9 i0 _ 1 16 Tryz.underlying38 hi0 hz0 hz1 hz2 rfl (by decide) v ls.length (ls.map Value.string) rfl ?own ⟨wr.heap.size, 0, none⟩ 1 1 [.string s] rfl rfl ?n1 ?n2 ?b1 ?b2 ?b3 ?kk))
        case own => exact hI.own.alloc _
        case n2 => first | (simp [Value.oneCell']; done) | exact cells_new _ _ _ _ rfl | (intro u hu; simp at hu; subst hu; rfl)
        case b1 => unfold maxLen; omega
        case b2 => omega
        case b3 => first | omega | (simp; omega)
        case kk =>
          intro v' w5 hown hgrow _
          have h5 : Hid (LinesIn _ _ _ _) := hI.push hown hgrow
          clear hown hgrow hI
          go_wp2
          refine ⟨⟨q + 1, v', ByteArray.empty, ls ++ [s], rfl, rfl, by go_num, by omega, Nat.zero_le _, by simp; omega, h5.out, hX2⟩, ?_⟩
          simp only [intOf]; omega
      · have hz : Hid ((s ++ t.extract q (q + 1)).size = s.size + 1) := by show _ = _; rw [ByteArray.size_append, ByteArray.size_extract]; omega
        have hX2 : Hid (X = ls.map bytesN ++ linesA (bytesN (s ++ t.extract q (q + 1))) ((bytesN t).drop (q + 1))) := by
          show _ = _
          rw [hXq.out, p2, linesA_c (by omega), bytesN_appK, p1]
        have hIH : Hid (LinesIn _ _ _ _) := hI
        have e1 : ((t[q].toNat : Int) == 10) = false := beq_eq_false_iff_ne.2 hc
        have n1 : (t[q].toNat : Int) ≠ 10 := hc
        clear hI hc p1 p2 hXq
        go_wp2
        refine ⟨⟨q + 1, v, s ++ t.extract q (q + 1), ls, rfl, rfl, by go_num, by omega, by rw [hz.out]; omega, by omega, hIH.out, hX2⟩, ?_⟩
        simp only [intOf]; omega
    · have hqe : q = t.size := by omega
      subst hqe
      by_cases he : s.toList.isEmpty = true
      · have hIH : Hid (LinesIn _ _ _ _) := hI
        have hs : bytesN s = [] := (emptyK_iff s).1 he
        have hfin : Hid (ls.map bytesN = X) := by
          show _ = _
          rw [hXq.out, hend.out, hs]; simp [linesA]
        clear hI hs hXq hend
        go_wp2
        go_ret
        exact ⟨_, rfl, ls, hIH.out, hfin.out⟩
      · have hs : bytesN s ≠ [] := fun hx => he ((emptyK_iff s).2 hx)
        have hfin : Hid ((ls ++ [s]).map bytesN = X) := by
          show _ = _
          rw [hXq.out, hend.out, List.map_append, linesA, if_neg hs]; rfl
        have he : s.toList.isEmpty = false := by simpa using he
        clear hs hXq hend
        go_wp2_with (at_builtin; (refine wpList_append_placed rfl (.tmp 29) (.tmp 31) 38 rfl w.heap.size 9 i0 _ 1 16 Tryz.underlying38 hi0 hz0 hz1 hz2 rfl (by decide) v ls.length (ls.map Value.string) rfl ?own ⟨wr.heap.size, 0, none⟩ 1 1 [.string s] rfl rfl ?n1 ?n2 ?b1 ?b2 ?b3 ?kk))
        case own => exact hI.own.alloc _
        case n2 => first | (simp [Value.oneCell']; done) | exact cells_new _ _ _ _ rfl | (intro u hu; simp at hu; subst hu; rfl)
        case b1 => unfold maxLen; omega
        case b2 => omega
        case b3 => first | omega | (simp; omega)
        case kk =>
          intro v' w5 hown hgrow _
          have h5 : Hid (LinesIn _ _ _ _) := hI.push hown hgrow
          clear hown hgrow hI
          go_wp2
          go_ret
          exact ⟨_, rfl, _, h5.out, hfin.out⟩

end Go.Proofs.YtgifhgnccmnbiabGreatDoor

set_option linter.unusedVariables false
set_option linter.unusedSimpArgs false
namespace Go.Proofs.YtgifhgnccmnbiabGreatDoor
open Go.RowKit Go.IntWalk

end Go.Proofs.YtgifhgnccmnbiabGreatDoor

set_option linter.unusedVariables false
set_option linter.unusedSimpArgs false
namespace Go.Proofs.YtgifhgnccmnbiabGreatDoor
open Go.RowKit Go.IntWalk

theorem match_optM {mx x : Int} {t : ByteArray} (h : OptBad mx t x) (hm1 : -9223372036854775808 ≤ mx) (hm2 : mx ≤ 9223372036854775807) (inv fold whole num : Bool) (l : ByteArray) (w : World) (ht : t.size ≤ maxLen) (hl : l.size ≤ maxLen) :
    Calls Tryz.prog 42 #[.agg #[.bool inv, .bool fold, .bool whole, .bool num, .int .i64 mx], .string t, .string l] w fun e w' => e = .returned (.tuple #[.bool false, .int .i64 x]) ∧ Below w.heap.size w w' := by
  refine (match_any all_ready all_same inv fold whole num mx t l w hm1 hm2 ht hl).mono ?_
  rintro e w' ⟨h1, h2⟩
  refine ⟨?_, h2⟩
  rcases h with ⟨hn, rfl⟩ | ⟨h0, h⟩
  · rcases h1 with ⟨_, h3⟩ | ⟨h0, _⟩ | ⟨h0, _⟩
    · exact h3
    · omega
    · omega
  · rcases h1 with ⟨h3, _⟩ | ⟨_, h3, rfl⟩ | ⟨_, h3, r, ev, hidx, hc⟩
    · omega
    · rw [h.one (Or.inl ⟨h3, rfl⟩)]
    · rcases hc with ⟨h4, rfl⟩ | ⟨h4, h5, rfl⟩ | ⟨h4, h5, _⟩ | ⟨h4, h5, _⟩
      · rw [h.one (Or.inr ⟨h3, r, ev, Or.inl ⟨h4, rfl⟩⟩)]
      · rw [h.one (Or.inr ⟨h3, r, ev, Or.inr ⟨h4, h5, rfl⟩⟩)]
      · exact absurd h (fun hE => PatOk.not ⟨h3, ev, h4, h5⟩ hE)
      · exact absurd h (fun hE => PatOk.not ⟨h3, ev, h4, h5⟩ hE)
theorem match_okM {mx : Int} {t : ByteArray} {r : Nat × PS} (h : PatOk t r) (hm0 : 0 ≤ mx) (hm2 : mx ≤ 9223372036854775807) (inv fold whole num : Bool) (l : ByteArray) (w : World) (hl : IsLine l) :
    Calls Tryz.prog 42 #[.agg #[.bool inv, .bool fold, .bool whole, .bool num, .int .i64 mx], .string t, .string l] w fun e w' => e = .returned (.tuple #[.bool (selB r fold whole l != inv), .int .i64 0]) ∧ Below w.heap.size w w' := by
  have hs := h.small
  have hls := hl.1
  refine (match_any all_ready all_same inv fold whole num mx t l w (by omega) (by omega) (by unfold maxLen; omega) (by unfold maxLen; omega)).mono ?_
  rintro e w' ⟨h1, h2⟩
  refine ⟨?_, h2⟩
  rcases h1 with ⟨h3, _⟩ | ⟨_, h3, rfl⟩ | ⟨_, h3, r', ev, hidx, hc⟩
  · omega
  · omega
  · have he := h.ev.one ev
    subst he
    rcases hc with ⟨h4, rfl⟩ | ⟨h4, h5, rfl⟩ | ⟨h4, h5, h6, _⟩ | ⟨h4, h5, h6, rfl⟩
    · exact absurd h4 h.good
    · have := h.size; omega
    · exact absurd hl h6
    · rfl

theorem infoFlag : (Tryz.prog.info? 4).map (fun i => (i.zero, i.size, i.bytes)) = some (some (.bool false), 1, 1) := by kernel_rfl
theorem row_low {w : World} {B B' z n : Nat} {e : TypeId} {v : Value} {xs : List Value} (h : w.ownsRow B e z v n xs) (hb : B' ≤ B) : w.ownsRow B' e z v n xs := by
  refine ⟨h.1, h.2.imp id ?_⟩
  rintro ⟨g, cap, cur, h1, h2, h3⟩
  exact ⟨g, cap, cur, h1, Nat.le_trans hb h2, h3⟩
/-- A row of flags, new since a world. -/
structure FlagsIn (w0 w : World) (v : Value) (bs : List Bool) : Prop where
  own : w.ownsRow w0.heap.size 4 1 v bs.length (bs.map Value.bool)
  k : Kept [] w0 w
theorem FlagsIn.push {w0 w x w' : World} {v v' : Value} {bs : List Bool} {b : Bool} (h : FlagsIn w0 w v bs) (kx : Kept [] w x)
    (hown : w'.ownsRow w0.heap.size 4 1 v' (bs.length + 1) (bs.map Value.bool ++ [.bool b])) (hgrow : x.grownBy w' v.ownBlock) : FlagsIn w0 w' v' (bs ++ [b]) :=
  ⟨by rw [List.map_append, List.length_append]; exact hown, kept_growP (h.k.trans kx) (row_stay h.own kx (fun _ _ => by simp)) hgrow⟩
theorem FlagsIn.kept {w0 w w' : World} {v : Value} {bs : List Bool} (h : FlagsIn w0 w v bs) (k : Kept [] w w') : FlagsIn w0 w' v bs := ⟨row_stay h.own k (fun _ _ => by simp), h.k.trans k⟩
/-- A row of strings in memory. -/
theorem str_cell {w : World} {B : Nat} {v : Value} {ls : List ByteArray} (h : w.ownsRow B 9 1 v ls.length (ls.map Value.string)) {g : Nat} (hg : v.ownBlock = some g) {q : Nat} {l : ByteArray} (hl : ls[q]? = some l) :
    w.cell? ⟨g, q, none⟩ = some (.string l) ∧ g < w.heap.size := by
  have := h.cells hg q (.string l) (by rw [List.getElem?_map, hl]; rfl)
  rw [ptr_add] at this
  exact ⟨this, (h.lt g hg).2⟩

set_option maxHeartbeats 1000000 in
set_option maxRecDepth 100000 in
theorem selected_bad {inv fold whole num : Bool} {mx x : Int} {p : ByteArray} (h : OptBad mx p x) (hp : p.size ≤ maxLen) (hm1 : -9223372036854775808 ≤ mx) (hm2 : mx ≤ 9223372036854775807) (v : Value) (w : World) :
    Calls Tryz.prog 20 #[.agg #[.bool inv, .bool fold, .bool whole, .bool num, .int .i64 mx], .string p, v] w fun e w' => e = .returned (.tuple #[.slice none 0 0, .int .i64 x]) ∧ Kept [] w w' := by
  have hm : Hid (∀ w, Calls _ _ _ w _) := fun w => match_optM h hm1 hm2 inv fold whole num ⟨#[]⟩ w hp (by unfold maxLen; decide)
  have hxb : (x != 0) = true := by simp [h.nz]
  have hx := h.nz
  have h0 : Hid (∀ o, Kept [] w (w.alloc o)) := fun o => (Kept.refl [] w).alloc o
  clear h
  go_enter Tryz.func20, Tryz.ntmps20
  go_wp2_with (go_at_call 42; refine (hm.out _).mono ?_; rintro e w1 ⟨rfl, b1⟩)
  go_ret2
  exact ⟨rfl, (h0.out _).trans (below_kept b1)⟩

set_option maxHeartbeats 2000000 in
set_option maxRecDepth 100000 in
theorem selected_any {inv fold whole num : Bool} {mx : Int} {p : ByteArray} {r : Nat × PS} (h : PatOk p r) (hm0 : 0 ≤ mx) (hm2 : mx ≤ 9223372036854775807) {B : Nat} {v : Value} {ls : List ByteArray} (hls : ∀ l, l ∈ ls → IsLine l) (hn : ls.length ≤ 2000) (w : World) (hv : w.ownsRow B 9 1 v ls.length (ls.map Value.string)) :
    Calls Tryz.prog 20 #[.agg #[.bool inv, .bool fold, .bool whole, .bool num, .int .i64 mx], .string p, v] w fun e w' => ∃ v', e = .returned (.tuple #[v', .int .i64 0]) ∧ FlagsIn w w' v' (ls.map fun l => selB r fold whole l != inv) := by
  have hm : Hid (∀ l, IsLine l → ∀ w, Calls _ _ _ w _) := fun l hl w => match_okM h hm0 hm2 inv fold whole num l w hl
  have hm0l : Hid (∀ w, Calls _ _ _ w _) := fun w => hm.out ⟨#[]⟩ ⟨by decide, fun i hi => absurd hi (Nat.not_lt_zero i)⟩ w
  have h0 : Hid (∀ o, Kept [] w (w.alloc o)) := fun o => (Kept.refl [] w).alloc o
  obtain ⟨va, vn, vc, rfl⟩ := own_shape hv
  have hvn : vn = ls.length := by
    rcases hv.2 with ⟨h1, h2⟩ | ⟨g, cap, _, h1, _⟩
    · simp at h1; omega
    · simp at h1; omega
  subst hvn
  have hvH : Hid (World.ownsRow _ _ _ _ _ _ _) := hv
  obtain ⟨i0, hi0, hz0, hz1, hz2⟩ := info_parts infoFlag
  have hlsH : Hid (∀ l, l ∈ ls → IsLine l) := hls
  clear h hv hls
  obtain ⟨bs, hbs⟩ : ∃ bs, bs = ls.map fun l => selB r fold whole l != inv := ⟨_, rfl⟩
  have hbq : Hid (∀ q l, ls[q]? = some l → bs.take (q + 1) = bs.take q ++ [selB r fold whole l != inv]) := fun q l hl => by
    rw [List.take_add_one, hbs, List.getElem?_map, hl]; rfl
  have hbl : Hid (bs.take ls.length = bs) := by
    show _ = _
    rw [List.take_of_length_le (by rw [hbs, List.length_map]; exact Nat.le_refl _)]
  have hbn : bs.length = ls.length := by rw [hbs, List.length_map]
  rw [← hbs]
  clear hbs
  generalize (selB r fold whole ⟨#[]⟩ != inv) = y0 at *
  go_enter Tryz.func20, Tryz.ntmps20
  go_wp2_with fail
  refine (hm0l.out _).mono ?_
  rintro e w1 ⟨rfl, b1⟩
  have K1 : Hid (Kept [] w w1) := (h0.out _).trans (below_kept b1)
  have B1 : Hid (Blk w1 w.heap.size #[.bool inv, .bool fold, .bool whole, .bool num, .int .i64 mx] 23) := Blk.kept (Blk.new w _ _) (below_kept b1) (by simp)
  clear b1 hm0l h0
  go_wp2_with fail
  go_loopw [10, 11] (fun ov iv wr => ∃ (q : Nat) (u : Value), ov = u ∧ iv = .int .i64 (q : Int) ∧ q ≤ ls.length ∧ FlagsIn w1 wr u (bs.take q)) (fun _ iv _ => ((ls.length : Int) - intOf iv).toNat)
  case atStart => exact ⟨0, _, rfl, rfl, Nat.zero_le _, ⟨World.ownsRow_nil _ _ _ _, Kept.refl _ _⟩⟩
  case round =>
    obtain ⟨q, u, hu, rfl, hq, hF⟩ := hrel
    obtain rfl := hu.symm
    have hFH : Hid (FlagsIn _ _ _ _) := hF
    have hbl2 : (bs.take q).length = q := by rw [List.length_take]; omega
    have BW : Hid (Blk _ _ _ _) := Blk.kept B1.out hF.k (by simp)
    obtain ⟨o0, o1, o2, o3, o4, ol⟩ := all5 BW.out
    have KW : Hid (Kept [] w wr) := K1.out.trans hF.k
    by_cases hlt : (q : Int) < (ls.length : Int)
    · obtain ⟨l, hl⟩ : ∃ l, ls[q]? = some l := ⟨_, List.getElem?_eq_getElem (by omega)⟩
      obtain ⟨g, cap, hv⟩ := own_form hvH.out (by omega)
      simp only [Value.slice.injEq] at hv
      obtain ⟨rfl, _, rfl⟩ := hv
      obtain ⟨f0, fl⟩ := str_cell hvH.out rfl hl
      have f1 := (KW.out.cell fl q).trans f0
      have fl1 : g < wr.heap.size := Nat.lt_of_lt_of_le fl KW.out.size
      have hc : Hid (∀ w, Calls _ _ _ w _) := hm.out l (hlsH.out l (List.mem_of_getElem? hl))
      have hnx : Hid (_ = _) := hbq.out q l hl
      clear hF hl hvH hlsH hm f0 fl
      generalize (selB r fold whole l != inv) = y at *
      go_wp2_with fail
      go_region_law (go_simp; go_at_call 42; refine (hc.out _).mono ?_; rintro _ w5 ⟨rfl, b5⟩; have K5 : Hid (Kept [] wr w5) := Kept.trans (by first | exact (((Kept.refl [] wr).drew).drew).drew | exact ((Kept.refl [] wr).drew).drew | exact (Kept.refl [] wr).drew | exact (Kept.refl [] wr).drewN _) (below_kept b5); clear b5)
      all_goals
        have hF5 : Hid (∀ o, FlagsIn w1 (w5.alloc o) u (bs.take q)) := fun o => (hFH.out.kept K5.out).kept ((Kept.refl [] w5).alloc o)
        go_wp2_with (at_builtin; refine wpList_append_own _ rfl (.tmp 42) (.tmp 44) 40 rfl w1.heap.size 4 i0 _ 1 1 Tryz.underlying40 hi0 hz0 hz1 hz2 rfl (by decide) u (bs.take q).length ((bs.take q).map Value.bool) rfl (by exact (hF5.out _).own) ⟨w5.heap.size, 0, none⟩ 1 1 [.bool y] rfl rfl (by exact cells_new _ _ _ _ rfl) (by simp [Value.oneCell']) (by unfold maxLen; omega) (by omega) (by exact (hF5.out _).k.size) ?kk)
        case kk =>
          intro v9 w9 ho9 hg9 _
          have hF9 : Hid (FlagsIn w1 w9 v9 (bs.take (q + 1))) := by
            show FlagsIn _ _ _ _
            rw [hnx.out]
            exact (hF5.out _).push (Kept.refl _ _) (by rw [hbl2, List.map_take]; exact ho9) hg9
          clear ho9 hg9
          go_wp2
          exact ⟨⟨q + 1, v9, rfl, by go_num, by omega, hF9.out⟩, by simp only [intOf]; omega⟩
    · have hqe : q = ls.length := by omega
      subst hqe
      have hF2 := hFH.out
      rw [hbl.out] at hF2
      have hF2H : Hid (FlagsIn w wr u bs) := ⟨row_low hF2.own K1.out.size, KW.out⟩
      clear hF hF2
      go_wp2
      go_ret2
      exact ⟨_, rfl, hF2H.out⟩

end Go.Proofs.YtgifhgnccmnbiabGreatDoor

set_option linter.unusedVariables false
set_option linter.unusedSimpArgs false
namespace Go.Proofs.YtgifhgnccmnbiabGreatDoor
open Go.RowKit Go.IntWalk

/-- A line more, or none. -/
def stepPr (num : Bool) (mx : Int) (s : ByteArray × Nat) (k : Nat) (l : ByteArray) (b : Bool) : ByteArray × Nat :=
  if b = true ∧ (mx = 0 ∨ (s.2 : Int) < mx) then ((if num = true then s.1 ++ itoaB k ++ ⟨#[58]⟩ ++ l ++ ⟨#[10]⟩ else s.1 ++ l ++ ⟨#[10]⟩), s.2 + 1) else s
def stP (num : Bool) (mx : Int) (first : Nat) (ls : List ByteArray) (bs : List Bool) : Nat → ByteArray × Nat
  | 0 => (⟨#[]⟩, 0)
  | q + 1 => stepPr num mx (stP num mx first ls bs q) (first + q + 1) (ls.getD q ⟨#[]⟩) (bs.getD q false)
theorem stP_bd {num : Bool} {mx : Int} {first : Nat} {ls : List ByteArray} {bs : List Bool} (hl : ∀ l, l ∈ ls → l.size ≤ 600) : ∀ q, first + q ≤ 1099511627777 → (stP num mx first ls bs q).1.size ≤ q * 700 ∧ (stP num mx first ls bs q).2 ≤ q
  | 0, _ => ⟨Nat.zero_le _, Nat.le_refl _⟩
  | q + 1, hq => by
    obtain ⟨h1, h2⟩ := stP_bd (num := num) (mx := mx) (first := first) (bs := bs) hl q (by omega)
    have hg : (ls.getD q ⟨#[]⟩).size ≤ 600 := by
      simp only [List.getD]
      cases hx : ls[q]? with
      | none => show 0 ≤ 600; omega
      | some l => exact hl l (List.mem_of_getElem? hx)
    have hi : (itoaB (first + q + 1)).size ≤ 21 := itoaB_size (by omega)
    have h10 : (⟨#[10]⟩ : ByteArray).size = 1 := rfl
    have h58 : (⟨#[58]⟩ : ByteArray).size = 1 := rfl
    show (stepPr _ _ _ _ _ _).1.size ≤ _ ∧ (stepPr _ _ _ _ _ _).2 ≤ _
    unfold stepPr
    split
    · cases num
      · simp only [Bool.false_eq_true, if_false, ByteArray.size_append]; omega
      · simp only [if_true, ByteArray.size_append]; omega
    · omega
theorem flag_cell {w : World} {B : Nat} {v : Value} {bs : List Bool} (h : w.ownsRow B 4 1 v bs.length (bs.map Value.bool)) {g : Nat} (hg : v.ownBlock = some g) {q : Nat} {b : Bool} (hb : bs[q]? = some b) :
    w.cell? ⟨g, q, none⟩ = some (.bool b) ∧ g < w.heap.size := by
  have := h.cells hg q (.bool b) (by rw [List.getElem?_map, hb]; rfl)
  rw [ptr_add] at this
  exact ⟨this, (h.lt g hg).2⟩

set_option maxHeartbeats 2000000 in
set_option maxRecDepth 100000 in
theorem printed_any {inv fold whole num : Bool} {mx : Int} (hm0 : 0 ≤ mx) (hm2 : mx ≤ 9223372036854775807) {B B' first : Nat} {vl vb : Value} {ls : List ByteArray} {bs : List Bool} (hls : ∀ l, l ∈ ls → l.size ≤ 600) (hn : ls.length ≤ 2000) (hbn : bs.length = ls.length) (hfi : first + ls.length ≤ 1099511627777) (w : World) (htab : TabP w) (hl : w.ownsRow B 9 1 vl ls.length (ls.map Value.string)) (hb : w.ownsRow B' 4 1 vb bs.length (bs.map Value.bool)) :
    Calls Tryz.prog 21 #[.agg #[.bool inv, .bool fold, .bool whole, .bool num, .int .i64 mx], vl, vb, .int .i64 (first : Int)] w fun e w' => e = .returned (.tuple #[.string (stP num mx first ls bs ls.length).1, .int .i64 ((stP num mx first ls bs ls.length).2 : Int)]) ∧ Kept [] w w' := by
  obtain ⟨va, vn, vc, rfl⟩ := own_shape hl
  have hvn : vn = ls.length := by
    rcases hl.2 with ⟨h1, h2⟩ | ⟨g, cap, _, h1, _⟩
    · simp at h1; omega
    · simp at h1; omega
  subst hvn
  obtain ⟨ba, bn, bc, rfl⟩ := own_shape hb
  have hbn2 : bn = ls.length := by
    rcases hb.2 with ⟨h1, h2⟩ | ⟨g, cap, _, h1, _⟩
    · simp at h1; omega
    · simp at h1; omega
  subst hbn2
  have hlH : Hid (World.ownsRow _ _ _ _ _ _ _) := hl
  have hbH : Hid (World.ownsRow _ _ _ _ _ _ _) := hb
  have htH : Hid (TabP w) := htab
  have hst : Hid (∀ q, first + q ≤ 1099511627777 → _) := stP_bd (num := num) (mx := mx) (first := first) (bs := bs) hls
  have hsu : Hid (∀ q l b, ls[q]? = some l → bs[q]? = some b → stP num mx first ls bs (q + 1) = stepPr num mx (stP num mx first ls bs q) (first + q + 1) l b) := fun q l b h1 h2 => by
    show stepPr _ _ _ _ (ls.getD q ⟨#[]⟩) (bs.getD q false) = _
    simp only [List.getD, h1, h2, Option.getD_some]
  have hlsH : Hid (∀ l, l ∈ ls → l.size ≤ 600) := hls
  have hsz : Hid (Blk (w.alloc (.cells #[.bool inv, .bool fold, .bool whole, .bool num, .int .i64 mx] 23)) w.heap.size #[.bool inv, .bool fold, .bool whole, .bool num, .int .i64 mx] 23 ∧ Kept [] w (w.alloc (.cells #[.bool inv, .bool fold, .bool whole, .bool num, .int .i64 mx] 23))) := ⟨Blk.new w #[.bool inv, .bool fold, .bool whole, .bool num, .int .i64 mx] 23, (Kept.refl [] w).alloc _⟩
  have hfH : Hid (first + ls.length ≤ 1099511627777) := hfi
  clear hl hb htab hls hfi hm0 hm2
  go_enter Tryz.func21, Tryz.ntmps21
  go_wp2_with fail
  go_loopw [10, 11, 12] (fun ov nv iv wr => ∃ (q : Nat) (R : ByteArray) (m : Nat), ov = .string R ∧ nv = .int .i64 (m : Int) ∧ iv = .int .i64 (q : Int) ∧ q ≤ ls.length ∧ Hid (stP num mx first ls bs q = (R, m)) ∧ Blk wr w.heap.size #[.bool inv, .bool fold, .bool whole, .bool num, .int .i64 mx] 23 ∧ Kept [] w wr) (fun _ _ iv _ => ((ls.length : Int) - intOf iv).toNat)
  case atStart => exact ⟨0, _, 0, rfl, rfl, rfl, Nat.zero_le _, rfl, hsz.out.1, hsz.out.2⟩
  case round =>
    clear hsz
    obtain ⟨q, R, m, rfl, rfl, rfl, hq, hR, hB, hK⟩ := hrel
    obtain ⟨z1, z2⟩ := hst.out q (by have := hfH.out; omega)
    rw [hR.out] at z1 z2
    simp only [] at z1 z2
    obtain ⟨o0, o1, o2, o3, o4, ol⟩ := all5 hB
    have hBH : Hid (Blk _ _ _ _) := hB
    have hKH : Hid (Kept _ _ _) := hK
    by_cases hlt : (q : Int) < (ls.length : Int)
    · obtain ⟨l, hl⟩ : ∃ l, ls[q]? = some l := ⟨_, List.getElem?_eq_getElem (by omega)⟩
      obtain ⟨b, hb⟩ : ∃ b, bs[q]? = some b := ⟨_, List.getElem?_eq_getElem (by omega)⟩
      obtain ⟨g, cap, hv⟩ := own_form hlH.out (by omega)
      simp only [Value.slice.injEq] at hv
      obtain ⟨rfl, hx, rfl⟩ := hv
      clear hx
      obtain ⟨g2, cap2, hv⟩ := own_form hbH.out (by omega)
      simp only [Value.slice.injEq] at hv
      obtain ⟨rfl, hx, rfl⟩ := hv
      clear hx
      obtain ⟨f0, fl⟩ := str_cell hlH.out rfl hl
      obtain ⟨y0, yl⟩ := flag_cell hbH.out rfl hb
      have f0H : Hid (∀ w', Kept [] w w' → w'.cell? ⟨g, q, none⟩ = some (.string l) ∧ g < w'.heap.size) := fun w' k => ⟨(k.cell fl q).trans f0, Nat.lt_of_lt_of_le fl k.size⟩
      obtain ⟨f1, fl1⟩ := f0H.out wr hK
      have y1 := (hK.cell yl q).trans y0
      have yl1 : g2 < wr.heap.size := Nat.lt_of_lt_of_le yl hK.size
      have hl6 := hlsH.out l (List.mem_of_getElem? hl)
      have hs2 : Hid (_ = stepPr num mx (R, m) (first + q + 1) l b) := (hsu.out q l b hl hb).trans (by rw [hR.out])
      have hit : Hid (∀ w', Kept [] w w' → Calls _ _ _ w' _) := fun w' k => itoa_any (first + q + 1) (by have := hfH.out; omega) (htH.out.kept k)
      have his : (itoaB (first + q + 1)).size ≤ 21 := itoaB_size (by have := hfH.out; omega)
      have hqi : (first : Int) + (q : Int) + 1 = ((first + q + 1 : Nat) : Int) := by omega
      have hqH : Hid (_ = _) := hqi
      rw [← hqi] at hit
      have hq2 : q ≤ 2000 := by omega
      have hfb : first ≤ 1099511627777 := by have := hfH.out; omega
      clear f0 fl y0 yl hl hb hR hsu hbn hlH hbH hst hlsH hB hK hqi htH
      by_cases hgo : b = true ∧ (mx = 0 ∨ (m : Int) < mx)
      · have e2 : stepPr num mx (R, m) (first + q + 1) l b = ((if num = true then R ++ itoaB (first + q + 1) ++ ⟨#[58]⟩ ++ l ++ ⟨#[10]⟩ else R ++ l ++ ⟨#[10]⟩), m + 1) := if_pos hgo
        have e2H : Hid (_ = _) := hs2.out.trans e2
        obtain ⟨rfl, hor⟩ := hgo
        clear e2 hs2
        have q700 : q * 700 ≤ 1400000 := by omega
        have hRb : R.size ≤ 1400000 := by omega
        clear z1 q700
        generalize first + q + 1 = FQ at *
        have e5 : (if num = true then R ++ itoaB FQ ++ ⟨#[58]⟩ ++ l ++ ⟨#[10]⟩ else R ++ l ++ ⟨#[10]⟩) = (if num = true then R ++ itoaB FQ ++ ⟨#[58]⟩ else R) ++ l ++ ⟨#[10]⟩ := by cases num <;> rfl
        rw [e5] at e2H
        have hRD : (if num = true then R ++ itoaB FQ ++ ⟨#[58]⟩ else R).size ≤ 1500000 := by
          cases num with
          | false => exact Nat.le_trans hRb (by omega)
          | true =>
            show (R ++ itoaB FQ ++ ⟨#[58]⟩).size ≤ _
            rw [ByteArray.size_append, ByteArray.size_append]
            show R.size + _ + 1 ≤ _
            omega
        clear e5
        rcases hor with h3 | h3
        · subst h3
          go_upto_if 37 with fail
          go_cut [10] (fun s10 wx => s10 = .string (if num = true then R ++ itoaB FQ ++ ⟨#[58]⟩ else R) ∧ ∃ y, y = wx ∧ Kept [] wr y)
          case first =>
            cases num with
            | false =>
              go_wp2_with fail
              go_meet
              exact ⟨rfl, _, rfl, Kept.refl _ _⟩
            | true =>
              go_wp2_with fail
              refine (hit.out _ hKH.out).mono ?_
              rintro _ w5 ⟨rfl, k5⟩
              have K5 : Hid (Kept [] wr w5) := k5
              clear k5
              go_wp2_with fail
              go_meet
              exact ⟨rfl, _, rfl, K5.out⟩
          case rest =>
            obtain ⟨rfl, w5, hw5, k5⟩ := hcut
            subst hw5
            have K5 : Hid (Kept [] w w5) := hKH.out.trans k5
            have B5 : Hid (Blk _ _ _ _) := Blk.kept hBH.out k5 (by simp)
            obtain ⟨u1, ul⟩ := f0H.out w5 K5.out
            clear k5 hit hqH
            generalize (if num = true then R ++ itoaB FQ ++ ⟨#[58]⟩ else R) = RD at *
            go_wp2
            exact ⟨⟨q + 1, _, m + 1, rfl, by go_num, by go_num, by omega, by show _ = _; rw [e2H.out], B5.out, K5.out⟩, by simp only [intOf]; omega⟩
        · have e3 : (mx == 0) = false := beq_eq_false_iff_ne.2 (by omega)
          have e4 : mx ≠ 0 := by omega
          go_upto_if 37 with fail
          go_cut [10] (fun s10 wx => s10 = .string (if num = true then R ++ itoaB FQ ++ ⟨#[58]⟩ else R) ∧ ∃ y, y = wx ∧ Kept [] wr y)
          case first =>
            cases num with
            | false =>
              go_wp2_with fail
              go_meet
              exact ⟨rfl, _, rfl, Kept.refl _ _⟩
            | true =>
              go_wp2_with fail
              refine (hit.out _ hKH.out).mono ?_
              rintro _ w5 ⟨rfl, k5⟩
              have K5 : Hid (Kept [] wr w5) := k5
              clear k5
              go_wp2_with fail
              go_meet
              exact ⟨rfl, _, rfl, K5.out⟩
          case rest =>
            obtain ⟨rfl, w5, hw5, k5⟩ := hcut
            subst hw5
            have K5 : Hid (Kept [] w w5) := hKH.out.trans k5
            have B5 : Hid (Blk _ _ _ _) := Blk.kept hBH.out k5 (by simp)
            obtain ⟨u1, ul⟩ := f0H.out w5 K5.out
            clear k5 hit hqH
            generalize (if num = true then R ++ itoaB FQ ++ ⟨#[58]⟩ else R) = RD at *
            go_wp2
            exact ⟨⟨q + 1, _, m + 1, rfl, by go_num, by go_num, by omega, by show _ = _; rw [e2H.out], B5.out, K5.out⟩, by simp only [intOf]; omega⟩
      · have e2H : Hid (_ = (R, m)) := hs2.out.trans (if_neg hgo)
        clear hs2 hit hqH z1 his
        cases b with
        | false =>
          clear hgo
          go_wp2
          exact ⟨⟨q + 1, R, m, rfl, rfl, by go_num, by omega, e2H.out, hBH.out, hKH.out⟩, by simp only [intOf]; omega⟩
        | true =>
          have e4 : mx ≠ 0 := fun h => hgo ⟨rfl, Or.inl h⟩
          have e3 : (mx == 0) = false := beq_eq_false_iff_ne.2 e4
          have e5 : ¬ (m : Int) < mx := fun h => hgo ⟨rfl, Or.inr h⟩
          clear hgo
          go_wp2
          exact ⟨⟨q + 1, R, m, rfl, rfl, by go_num, by omega, e2H.out, hBH.out, hKH.out⟩, by simp only [intOf]; omega⟩
    · have hqe : q = ls.length := by omega
      subst hqe
      clear hst hsu hlH hbH hlsH htH z1 z2 o0 o1 o2 o3 o4 ol hbn
      go_wp2
      go_ret2
      exact ⟨by rw [hR.out]; rfl, hKH.out⟩

end Go.Proofs.YtgifhgnccmnbiabGreatDoor

set_option linter.unusedVariables false
set_option linter.unusedSimpArgs false
namespace Go.Proofs.YtgifhgnccmnbiabGreatDoor

theorem bytesB_N2 (t : ByteArray) : bytesB (bytesN t) = t := bytesN_inj (bytesN_B (bytesN_lt t))
def joinN (L : List (List Nat)) : List Nat := L.flatMap fun l => l ++ [10]
theorem joinN_app (a b : List (List Nat)) : joinN (a ++ b) = joinN a ++ joinN b := by unfold joinN; rw [List.flatMap_append]
theorem joinN_off (L : List (List Nat)) : (joinN L).length = offL L := by
  induction L with
  | nil => rfl
  | cons l L ih =>
    show (l ++ [10] ++ joinN L).length = _
    rw [List.length_append, List.length_append, ih, offL]; rfl
theorem joinN_cr : ∀ (X u : List Nat), joinN (crA u X).1 ++ (crA u X).2 = u ++ X
  | [], u => by rw [crA_nil]; simp [joinN]
  | c :: X, u => by
    by_cases h : c = 10
    · subst h
      rw [crA_nl]
      have := joinN_cr X []
      show joinN (u :: (crA [] X).1) ++ (crA [] X).2 = _
      rw [show joinN (u :: (crA [] X).1) = (u ++ [10]) ++ joinN (crA [] X).1 from rfl, List.append_assoc, this]
      simp
    · rw [crA_c h, joinN_cr X (u ++ [c])]; simp
theorem joinN_lines (X : List Nat) : joinN (linesL X) = if restL X = [] then X else X ++ [10] := by
  have h := joinN_cr X []
  rw [List.nil_append] at h
  rw [linesL_cr]
  by_cases hr : restL X = []
  · rw [if_pos hr, if_pos hr, List.append_nil]
    have hr2 : (crA [] X).2 = [] := hr
    rw [hr2, List.append_nil] at h
    exact h
  · rw [if_neg hr, if_neg hr, joinN_app]
    show joinN (crA [] X).1 ++ ((crA [] X).2 ++ [10] ++ []) = _
    rw [List.append_nil, ← List.append_assoc, h]
theorem cut_line {X : List Nat} {q : Nat} {l : List Nat} (h : (linesL X)[q]? = some l) : cutX X (offL ((linesL X).take q)) (offL ((linesL X).take q) + l.length) 0 = l := by
  have hd : linesL X = (linesL X).take q ++ l :: (linesL X).drop (q + 1) := by
    have hlt := (List.getElem?_eq_some_iff.1 h).1
    have he := (List.getElem?_eq_some_iff.1 h).2
    rw [← he, List.getElem_cons_drop, List.take_append_drop]
  have hj : joinN (linesL X) = joinN ((linesL X).take q) ++ (l ++ ([10] ++ joinN ((linesL X).drop (q + 1)))) := by
    conv => lhs; rw [hd]
    rw [joinN_app]
    show _ ++ (l ++ [10] ++ joinN ((linesL X).drop (q + 1))) = _
    rw [List.append_assoc]
  have ho := joinN_off ((linesL X).take q)
  have hlen := congrArg List.length hj
  rw [List.length_append, List.length_append, List.length_append, ho] at hlen
  have hX := joinN_lines X
  have hb : offL ((linesL X).take q) + l.length ≤ X.length := by
    rw [hX] at hlen
    split at hlen
    · simp at hlen; omega
    · simp at hlen; omega
  have ht : X.take (offL ((linesL X).take q) + l.length) = (joinN (linesL X)).take (offL ((linesL X).take q) + l.length) := by
    rw [hX]
    split
    · rfl
    · rw [List.take_append_of_le_length hb]
  have key : ∀ A l r : List Nat, ((A ++ (l ++ r)).take (A.length + l.length)).drop A.length = l := fun A l r => by
    rw [← List.append_assoc, show A.length + l.length = (A ++ l).length by rw [List.length_append], List.take_left, List.drop_left]
  rw [cutX_whole, ht, hj, ← ho]
  exact key _ _ _

/-- At most so many. -/
def takeM (mx : Int) (l : List FL) : List FL := if mx = 0 then l else l.take mx.toNat
theorem takeM_len (mx : Int) (h0 : 0 ≤ mx) (l : List FL) : ((takeM mx l).length : Int) = if 0 < mx ∧ mx < (l.length : Int) then mx else (l.length : Int) := by
  unfold takeM
  by_cases h : mx = 0
  · rw [if_pos h, if_neg (by omega)]
  · rw [if_neg h, List.length_take]
    split <;> omega
/-- What printed makes of a text's lines: the lines that Grep prints, and how many. -/
theorem stP_lines {num inv : Bool} {mx : Int} (h0 : 0 ≤ mx) {M : MP} {X : List Nat} {ls : List ByteArray} {bs : List Bool} (hl : ls.map bytesN = linesL X) (hb : ∀ (q : Nat) (l : ByteArray), ls[q]? = some l → bs[q]? = some (selL M inv (bytesN l))) :
    ∀ q, q ≤ ls.length → stP num mx 0 ls bs q = (prS num X (takeM mx (selE (selL M inv) 0 0 ((linesL X).take q))), (takeM mx (selE (selL M inv) 0 0 ((linesL X).take q))).length)
  | 0, _ => by
    have e : takeM mx (selE (selL M inv) 0 0 ((linesL X).take 0)) = [] := by
      rw [List.take_zero]
      unfold takeM selE
      split
      · rfl
      · rw [List.take_nil]
    rw [e]; rfl
  | q + 1, hq => by
    have ih := stP_lines h0 (num := num) (M := M) hl hb q (by omega)
    obtain ⟨l, hx⟩ : ∃ l, ls[q]? = some l := ⟨_, List.getElem?_eq_getElem (by omega)⟩
    have hy := hb q l hx
    have hX : (linesL X)[q]? = some (bytesN l) := by rw [← hl, List.getElem?_map, hx]; rfl
    have hcut := cut_line hX
    have hlt : ((linesL X).take q).length = q := by
      rw [List.length_take, ← hl, List.length_map]; omega
    have hsel : selE (selL M inv) 0 0 ((linesL X).take (q + 1)) = selE (selL M inv) 0 0 ((linesL X).take q) ++ (if selL M inv (bytesN l) = true then [⟨q + 1, offL ((linesL X).take q), offL ((linesL X).take q) + (bytesN l).length⟩] else []) := by
      rw [List.take_add_one, hX, selE_app]
      simp only [Option.toList_some, selE, Nat.zero_add, hlt]
    have hst : stP num mx 0 ls bs (q + 1) = stepPr num mx (stP num mx 0 ls bs q) (0 + q + 1) l (selL M inv (bytesN l)) := by
      show stepPr _ _ _ _ (ls.getD q ⟨#[]⟩) (bs.getD q false) = _
      simp only [List.getD, hx, hy, Option.getD_some]
    rw [hst, ih, hsel]
    clear hst ih hsel hlt hX hy hx
    generalize selE (selL M inv) 0 0 ((linesL X).take q) = E at *
    generalize offL ((linesL X).take q) = o at *
    unfold stepPr
    by_cases hs : selL M inv (bytesN l) = true
    · rw [if_pos hs]
      have hln : lnB num X ⟨q + 1, o, o + (bytesN l).length⟩ = hdB num (q + 1) ++ l ++ ⟨#[10]⟩ := by
        unfold lnB
        simp only []
        rw [hcut]
        congr 2
        exact bytesB_N2 l
      by_cases hm : mx = 0
      · have e1 : ∀ E', takeM mx E' = E' := fun E' => if_pos hm
        rw [if_pos ⟨hs, Or.inl hm⟩, e1, e1, prS_snoc, hln, List.length_append]
        unfold hdB
        rw [Nat.zero_add]
        cases num
        · simp only [Bool.false_eq_true, if_false, ByteArray.append_assoc]
          rw [show (⟨#[]⟩ : ByteArray) = ByteArray.empty from rfl, ByteArray.empty_append]; rfl
        · simp only [if_true, ByteArray.append_assoc]; rfl
      · have e1 : ∀ E', takeM mx E' = E'.take mx.toNat := fun E' => if_neg hm
        by_cases hlt : E.length < mx.toNat
        · have e2 : E.take mx.toNat = E := List.take_of_length_le (by omega)
          have e3 : (E ++ [(⟨q + 1, o, o + (bytesN l).length⟩ : FL)]).take mx.toNat = E ++ [⟨q + 1, o, o + (bytesN l).length⟩] := List.take_of_length_le (by rw [List.length_append]; simp; omega)
          rw [e1, e1, e2, e3, if_pos ⟨hs, Or.inr (by show (E.length : Int) < mx; omega)⟩, prS_snoc, hln, List.length_append]
          unfold hdB
          rw [Nat.zero_add]
          cases num
          · simp only [Bool.false_eq_true, if_false, ByteArray.append_assoc]
            rw [show (⟨#[]⟩ : ByteArray) = ByteArray.empty from rfl, ByteArray.empty_append]; rfl
          · simp only [if_true, ByteArray.append_assoc]; rfl
        · rw [e1, e1, List.take_append_of_le_length (by omega)]
          exact if_neg (fun hc => by
            rcases hc.2 with h | h
            · exact hm h
            · have h' : ((E.take mx.toNat).length : Int) < mx := h
              rw [List.length_take] at h'
              omega)
    · rw [if_neg hs, List.append_nil, if_neg (fun hc => hs hc.1)]

end Go.Proofs.YtgifhgnccmnbiabGreatDoor

set_option linter.unusedVariables false
set_option linter.unusedSimpArgs false
namespace Go.Proofs.YtgifhgnccmnbiabGreatDoor
open Go.RowKit Go.IntWalk

theorem packG_text {t : ByteArray} (ht : t.size ≤ 600) (w : World) : Calls Tryz.prog 16 #[.string t] w fun e w' => (∃ f : ByteArray, e = .returned (.tuple #[.string f, .int .i64 0]) ∧ HasText f 71 (bytesN t) ∧ f.size ≤ maxLen) ∧ Below w.heap.size w w' := by
  refine (packG_any t (by unfold maxLen; omega) w).mono ?_
  rintro e w' ⟨ho, b⟩
  refine ⟨?_, b⟩
  rcases ho with ⟨h1, h2⟩ | ⟨h1, q, hq, h4⟩
  · omega
  · refine ⟨_, h4, gfile_text h1 hq.le, ?_⟩
    have := (gfile_ok h1 hq.le).most
    unfold maxLen; omega

end Go.Proofs.YtgifhgnccmnbiabGreatDoor

set_option linter.unusedVariables false
set_option linter.unusedSimpArgs false
namespace Go.Proofs.YtgifhgnccmnbiabGreatDoor
open Go.RowKit Go.IntWalk

theorem takeM_flC {M : MP} {inv : Bool} {mx : Int} (h0 : 0 ≤ mx) (X : List Nat) : takeM mx (flX M inv X) = flC M inv mx X ∧ ((takeM mx (flX M inv X)).length : Int) = capI mx (cnt M inv (linesL X)) := by
  have hn := flX_len M inv X
  refine ⟨?_, by rw [takeM_len mx h0, hn]; rfl⟩
  unfold flC takeM capI
  rw [← hn]
  by_cases h : mx = 0
  · rw [if_pos h, if_neg (by omega)]
    rw [show ((flX M inv X).length : Int).toNat = (flX M inv X).length from rfl, List.take_length]
  · rw [if_neg h]
    by_cases h2 : mx < ((flX M inv X).length : Int)
    · rw [if_pos ⟨by omega, h2⟩]
    · rw [if_neg (fun hc => h2 hc.2), show ((flX M inv X).length : Int).toNat = (flX M inv X).length from rfl, List.take_length, List.take_of_length_le (by omega)]
theorem cr_nonl : ∀ (X u : List Nat), 10 ∉ u → (∀ l, l ∈ (crA u X).1 → 10 ∉ l) ∧ 10 ∉ (crA u X).2
  | [], u, h => by rw [crA_nil]; exact ⟨fun l hl => by simp at hl, h⟩
  | c :: X, u, h => by
    by_cases hc : c = 10
    · subst hc
      rw [crA_nl]
      obtain ⟨h1, h2⟩ := cr_nonl X [] (by simp)
      exact ⟨fun l hl => by
        rcases List.mem_cons.1 hl with rfl | hl
        · exact h
        · exact h1 l hl, h2⟩
    · rw [crA_c hc]
      exact cr_nonl X (u ++ [c]) (fun hm => by
        rcases List.mem_append.1 hm with hm | hm
        · exact h hm
        · simp at hm; exact hc hm.symm)
theorem lines_nonl {X l : List Nat} (h : l ∈ linesL X) : 10 ∉ l := by
  obtain ⟨h1, h2⟩ := cr_nonl X [] (by simp)
  rw [linesL_cr] at h
  rcases List.mem_append.1 h with h | h
  · exact h1 l h
  · split at h
    · simp at h
    · simp at h; subst h; exact h2
theorem lines_len {X l : List Nat} (h : l ∈ linesL X) : l.length ≤ X.length := by
  have ho := lines_off X
  have : ∀ L : List (List Nat), l ∈ L → l.length + 1 ≤ offL L := by
    intro L
    induction L with
    | nil => intro h; simp at h
    | cons a L ih =>
      intro h
      rw [offL]
      rcases List.mem_cons.1 h with rfl | h
      · omega
      · have := ih h; omega
  have := this _ h
  omega
theorem lines_count (X : List Nat) : (linesL X).length ≤ X.length + 1 := by
  rw [linesL_cr]
  have := comp_le X
  split
  · rw [List.append_nil]; unfold compL at this ⊢; omega
  · rw [List.length_append]; simp only [List.length_cons, List.length_nil]; omega
theorem line_ok {s l : ByteArray} {ls : List ByteArray} (hs : s.size ≤ 600) (h : ls.map bytesN = linesL (bytesN s)) (hl : l ∈ ls) : IsLine l := by
  have hm : bytesN l ∈ linesL (bytesN s) := by rw [← h]; exact List.mem_map_of_mem hl
  have h1 := lines_len hm
  have h2 := lines_nonl hm
  rw [bytesN_len, bytesN_len] at h1
  refine ⟨by omega, fun i hi hx => ?_⟩
  intro hc
  apply h2
  rw [← hc]
  unfold bytesN
  exact List.mem_map_of_mem (by rw [Array.mem_toList_iff]; exact Array.getElem_mem (show i < l.data.size from hx))

set_option maxHeartbeats 4000000 in
set_option maxRecDepth 100000 in
theorem summed_law (inv fold whole num : Bool) (mx : Int) (p t : ByteArray) (w : World) (htab : TabP w) (hm1 : -9223372036854775808 ≤ mx) (hm2 : mx ≤ 9223372036854775807) (hp : p.size ≤ maxLen) (ht : t.size ≤ maxLen) :
    Calls Tryz.prog 5 #[.agg #[.bool inv, .bool fold, .bool whole, .bool num, .int .i64 mx], .string p, .string t] w fun e w' => e = .returned (.bool true) ∧ Below w.heap.size w w' := by
  have htb : Hid (∀ w', Below w.heap.size w w' → TabP w') := fun w' b => htab.kept (below_kept b)
  have h0 : Hid (∀ o, Below w.heap.size w (w.alloc o)) := fun o => (Below.refl _ _).alloc (Nat.le_refl _) o
  clear htab
  go_enter Tryz.func5, Tryz.ntmps5
  go_wp2_with fail
  refine (awake_any _ (htb.out _ (h0.out _))).mono ?_
  rintro e w1 ⟨rfl, b1⟩
  have B1 : Hid (Blk w1 w.heap.size #[.bool inv, .bool fold, .bool whole, .bool num, .int .i64 mx] 23) := Blk.kept (Blk.new w _ _) (below_kept b1) (by simp)
  have b1 : Hid (Below w.heap.size w w1) := (h0.out _).trans (b1.mono (by simp))
  clear h0
  go_wp2_with fail
  refine (some2_any t 600 ht (by omega) _).mono ?_
  rintro e w2 ⟨⟨s, rfl, hs, _⟩, hw2⟩
  subst hw2
  go_wp2_with fail
  refine (packG_text hs _).mono ?_
  rintro e w5 ⟨⟨fg, rfl, hz1, hg2⟩, b5⟩
  have B5 : Hid (Blk _ _ _ _) := Blk.kept B1.out (below_kept b5) (by simp)
  have b5 : Hid (Below w.heap.size w w5) := b1.out.trans (b5.mono b1.out.size)
  have hgt : Hid (HasText _ _ _) := hz1
  clear b1 B1 hz1
  obtain ⟨o0, o1, o2, o3, o4, ol⟩ := all5 B5.out
  have hXs : (bytesN s).length ≤ 1099511627776 := by rw [bytesN_len]; omega
  rcases opt_cases mx p with ⟨x, hbad⟩ | ⟨hm0, r, hr⟩
  · have hc : Hid (∀ w, Calls _ _ _ w _) := fun w => count_opt (inv := inv) (fold := fold) (whole := whole) (num := num) hbad hp fg w
    have hg : Hid (∀ w, Calls _ _ _ w _) := fun w => grep_opt (inv := inv) (fold := fold) (whole := whole) (num := num) hbad hp fg w
    have hse : Hid (∀ v w, Calls _ _ _ w _) := fun v w => selected_bad (inv := inv) (fold := fold) (whole := whole) (num := num) hbad hp hm1 hm2 v w
    have hxb : (x != 0) = true := by simp [hbad.nz]
    have hx0 := hbad.nz
    clear hbad
    go_wp2_with fail
    refine (hc.out _).mono ?_
    rintro e w6 ⟨rfl, b6⟩
    have B6 : Hid (Blk _ _ _ _) := Blk.kept B5.out (below_kept b6) (by simp)
    have b6 : Hid (Below w.heap.size w w6) := b5.out.trans (b6.mono b5.out.size)
    clear b5 B5 o0 o1 o2 o3 o4 ol hc
    obtain ⟨o0, o1, o2, o3, o4, ol⟩ := all5 B6.out
    go_wp2_with fail
    refine (hg.out _).mono ?_
    rintro e w7 ⟨rfl, b7⟩
    have B7 : Hid (Blk _ _ _ _) := Blk.kept B6.out (below_kept b7) (by simp)
    have b7 : Hid (Below w.heap.size w w7) := b6.out.trans (b7.mono b6.out.size)
    clear b6 B6 o0 o1 o2 o3 o4 ol hg
    go_wp2_with fail
    refine (linesOf_any s (by omega) _).mono ?_
    rintro e w8 ⟨v, rfl, ls, hL, _⟩
    have B8 : Hid (Blk _ _ _ _) := Blk.kept B7.out hL.k (by simp)
    have b8 : Hid (Below w.heap.size w w8) := b7.out.trans (hL.k.below b7.out.size (by simp))
    clear b7 B7 hL
    obtain ⟨o0, o1, o2, o3, o4, ol⟩ := all5 B8.out
    go_wp2_with fail
    refine (hse.out _ _).mono ?_
    rintro e w9 ⟨rfl, k9⟩
    have b9 : Hid (Below w.heap.size w w9) := b8.out.trans (k9.below b8.out.size (by simp))
    clear b8 B8 o0 o1 o2 o3 o4 ol hse k9
    go_wp2
    go_ret
    exact ⟨rfl, b9.out⟩
  · have hc : Hid (∀ w, Calls _ _ _ w _) := fun w => hgt.out.count (inv := inv) (fold := fold) (whole := whole) (num := num) hXs hg2 hr hm0 hm2 w
    have hg : Hid (∀ w, TabP w → Calls _ _ _ w _) := fun w ht => hgt.out.grep (inv := inv) (fold := fold) (whole := whole) (num := num) hXs hg2 hr hm0 hm2 w ht
    obtain ⟨q1, q2⟩ := takeM_flC (M := machOf r fold whole) (inv := inv) hm0 (bytesN s)
    rw [← q2] at hc
    rw [← q1] at hg
    have hlines : Hid (∀ ls : List ByteArray, ls.map bytesN = linesL (bytesN s) → (∀ l, l ∈ ls → IsLine l) ∧ ls.length ≤ 2000 ∧ stP num mx 0 ls (ls.map fun l => selB r fold whole l != inv) ls.length = (prS num (bytesN s) (takeM mx (flX (machOf r fold whole) inv (bytesN s))), (takeM mx (flX (machOf r fold whole) inv (bytesN s))).length)) := fun ls hls => by
      refine ⟨fun l hl => line_ok hs hls hl, ?_, ?_⟩
      · have e := congrArg List.length hls
        rw [List.length_map] at e
        have := lines_count (bytesN s)
        rw [bytesN_len] at this
        omega
      · have := stP_lines (num := num) (M := machOf r fold whole) (inv := inv) hm0 hls (bs := ls.map fun l => selB r fold whole l != inv) (fun q l hq => by rw [List.getElem?_map, hq, selSame hr]; rfl) ls.length (Nat.le_refl _)
        rw [List.take_of_length_le (by rw [← hls, List.length_map]; exact Nat.le_refl _)] at this
        exact this
    have hse : Hid (∀ (B : Nat) (v : Value) (ls : List ByteArray), (∀ l, l ∈ ls → IsLine l) → ls.length ≤ 2000 → ∀ w, w.ownsRow B 9 1 v ls.length (ls.map Value.string) → Calls _ _ _ w _) := fun B v ls h1 h2 w h3 => selected_any (inv := inv) (fold := fold) (whole := whole) (num := num) hr hm0 hm2 h1 h2 w h3
    have hpr : Hid (∀ (B B' : Nat) (vl vb : Value) (ls : List ByteArray) (bs : List Bool), (∀ l, l ∈ ls → l.size ≤ 600) → ls.length ≤ 2000 → bs.length = ls.length → ∀ w, TabP w → w.ownsRow B 9 1 vl ls.length (ls.map Value.string) → w.ownsRow B' 4 1 vb bs.length (bs.map Value.bool) → Calls Tryz.prog 21 #[.agg #[.bool inv, .bool fold, .bool whole, .bool num, .int .i64 mx], vl, vb, .int .i64 0] w _) := fun B B' vl vb ls bs h1 h2 h3 w h4 h5 h6 => printed_any (first := 0) (inv := inv) (fold := fold) (whole := whole) hm0 hm2 h1 h2 h3 (by omega) w h4 h5 h6
    clear hXs q1 q2 hm1 hm2 hm0 hr
    obtain ⟨FL, hFL⟩ : ∃ FL, takeM mx (flX (machOf r fold whole) inv (bytesN s)) = FL := ⟨_, rfl⟩
    rw [hFL] at hc hg hlines
    clear hFL
    obtain ⟨R, hR⟩ : ∃ R, prS num (bytesN s) FL = R := ⟨_, rfl⟩
    have hG : Hid ((R.size ≤ 2000 → grepR (outP num (bytesN s) FL) = (R, 0)) ∧ (2000 < R.size → grepR (outP num (bytesN s) FL) = (⟨#[]⟩, 7))) := ⟨fun h => by rw [outP_ok (by rw [hR]; exact h), hR]; rfl, fun h => by rw [outP_no (by rw [hR]; exact h)]; rfl⟩
    rw [hR] at hlines
    clear hR
    obtain ⟨G, hGG⟩ : ∃ G, grepR (outP num (bytesN s) FL) = G := ⟨_, rfl⟩
    rw [hGG] at hG hg
    clear hGG
    obtain ⟨gs, gx⟩ := G
    simp only [] at hg
    generalize FL.length = K at *
    go_wp2_with fail
    refine (hc.out _).mono ?_
    rintro e w6 ⟨rfl, b6⟩
    have B6 : Hid (Blk _ _ _ _) := Blk.kept B5.out (below_kept b6) (by simp)
    have b6 : Hid (Below w.heap.size w w6) := b5.out.trans (b6.mono b5.out.size)
    clear b5 B5 o0 o1 o2 o3 o4 ol hc
    obtain ⟨o0, o1, o2, o3, o4, ol⟩ := all5 B6.out
    go_wp2_with fail
    refine (hg.out _ (htb.out _ b6.out)).mono ?_
    rintro e w7 ⟨rfl, b7⟩
    have B7 : Hid (Blk _ _ _ _) := Blk.kept B6.out (below_kept b7) (by simp)
    have b7 : Hid (Below w.heap.size w w7) := b6.out.trans (b7.mono b6.out.size)
    clear b6 B6 o0 o1 o2 o3 o4 ol hg
    go_wp2_with fail
    refine (linesOf_any s (by omega) _).mono ?_
    rintro e w8 ⟨v, rfl, ls, hL, hls⟩
    obtain ⟨l1, l2, l3⟩ := hlines.out ls hls
    have l3H : Hid (_ = _) := l3
    have l1H : Hid (∀ l, l ∈ ls → IsLine l) := l1
    have B8 : Hid (Blk _ _ _ _) := Blk.kept B7.out hL.k (by simp)
    have b8 : Hid (Below w.heap.size w w8) := b7.out.trans (hL.k.below b7.out.size (by simp))
    have hLH : Hid (LinesIn _ _ _ _) := hL
    clear b7 B7 hL hls hlines l1 l3
    obtain ⟨o0, o1, o2, o3, o4, ol⟩ := all5 B8.out
    go_wp2_with fail
    refine (hse.out _ v ls l1H.out l2 _ hLH.out.own).mono ?_
    rintro e w9 ⟨v9, rfl, hF⟩
    have B9 : Hid (Blk _ _ _ _) := Blk.kept B8.out hF.k (by simp)
    have b9 : Hid (Below w.heap.size w w9) := b8.out.trans (hF.k.below b8.out.size (by simp))
    have hL9 : Hid (LinesIn w7 w9 v ls) := ⟨row_stay hLH.out.own hF.k (fun _ _ => by simp), hLH.out.k.trans hF.k⟩
    have hFH : Hid (FlagsIn _ _ _ _) := hF
    clear b8 B8 o0 o1 o2 o3 o4 ol hse hF hLH
    obtain ⟨o0, o1, o2, o3, o4, ol⟩ := all5 B9.out
    have hpc : Hid (Calls _ _ _ w9 _) := hpr.out _ _ v v9 ls _ (fun l hl => (l1H.out l hl).1) l2 (by rw [List.length_map]) w9 (htb.out _ b9.out) hL9.out.own hFH.out.own
    rw [l3H.out] at hpc
    clear hpr l3H hL9 hFH
    go_wp2_with fail
    refine hpc.out.mono ?_
    rintro e w10 ⟨rfl, k10⟩
    have b10 : Hid (Below w.heap.size w w10) := b9.out.trans (k10.below b9.out.size (by simp))
    clear b9 B9 o0 o1 o2 o3 o4 ol hpc k10 hgt
    by_cases hR : 2000 < R.size
    · have e := hG.out.2 hR
      simp only [Prod.mk.injEq] at e
      obtain ⟨rfl, rfl⟩ := e
      have hRi : (2000 : Int) < (R.size : Int) := by omega
      clear hG
      go_wp2
      go_ret
      exact ⟨rfl, b10.out⟩
    · have e := hG.out.1 (by omega)
      simp only [Prod.mk.injEq] at e
      obtain ⟨rfl, rfl⟩ := e
      have hRi : ¬ (2000 : Int) < (gs.size : Int) := by omega
      clear hG
      go_wp2
      go_ret
      exact ⟨rfl, b10.out⟩

end Go.Proofs.YtgifhgnccmnbiabGreatDoor
