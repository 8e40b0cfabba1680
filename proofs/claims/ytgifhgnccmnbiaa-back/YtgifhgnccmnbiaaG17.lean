/- Package siftkeep: the lines of a text, one by one. -/
import Derived.Test.YtgifhgnccmnbiaaG16
import Derived.Test.YtgifhgnccmnbiaaG09
import Derived.Test.YtgifhgnccmnbiaaG15
set_option linter.unusedVariables false
set_option linter.unusedSimpArgs false
namespace Go.Proofs.Ytgifhgnccmnbiaa
open Go.RowKit Go.IntWalk

theorem infoStringK : (Try.prog.info? 9).map (fun i => (i.zero, i.size, i.bytes)) = some (some (.string ByteArray.empty), 1, 16) := by kernel_rfl
structure LinesIn (w0 w : World) (v : Value) (ls : List ByteArray) : Prop where
  own : w.ownsRow w0.heap.size 9 1 v ls.length (ls.map Value.string)
  k : Kept [] w0 w
theorem LinesIn.push {w0 w w' : World} {v v' : Value} {ls : List ByteArray} {s : ByteArray} {o : Obj} (h : LinesIn w0 w v ls)
    (hown : w'.ownsRow w0.heap.size 9 1 v' (ls.length + 1) (ls.map Value.string ++ [.string s])) (hgrow : (w.alloc o).grownBy w' v.ownBlock) : LinesIn w0 w' v' (ls ++ [s]) := by
  refine ⟨by rw [List.map_append, List.length_append]; exact hown, ?_⟩
  have bl : ∀ k, k < w.heap.size → v.ownBlock ≠ some k → w'.heap[k]? = w.heap[k]? := fun k hk hne => by
    rw [hgrow.block k (by simp; omega) (fun hc => hne hc.symm), Below.heap_alloc _ _ _ hk]
  have hs2 : w.heap.size ≤ w'.heap.size := by have := hgrow.size; simp at this; omega
  have hk := h.k
  exact ⟨hgrow.os.trans hk.os, hgrow.tape.trans hk.tape, hgrow.output.trans hk.output, Nat.le_trans hk.size hs2, fun i hi hn => by
    have := hk.size
    rw [bl i (by omega) (fun hc => by have := (h.own.lt i hc).1; omega)]; exact hk.block i hi hn⟩
theorem loopK_len (bs : ByteArray) : ∀ (k i : Nat) (r : List UInt8), bs.size - i = k → (ByteArray.toList.loop bs i r).length = r.length + (bs.size - i)
  | 0, i, r, h => by
    rw [ByteArray.toList.loop]
    rw [if_neg (by omega)]
    simp; omega
  | k + 1, i, r, h => by
    rw [ByteArray.toList.loop]
    rw [if_pos (by omega)]
    rw [loopK_len bs k (i + 1) _ (by omega)]
    simp; omega
theorem emptyK_iff (s : ByteArray) : s.toList.isEmpty = true ↔ bytesN s = [] := by
  rw [List.isEmpty_iff, ← List.length_eq_zero_iff, ← List.length_eq_zero_iff, bytesN_len]
  unfold ByteArray.toList
  rw [loopK_len s s.size 0 [] (by omega)]
  simp
theorem mapN_inj : ∀ {a b : List UInt8}, a.map UInt8.toNat = b.map UInt8.toNat → a = b
  | [], [], _ => rfl
  | [], y :: b, h => by simp at h
  | x :: a, [], h => by simp at h
  | x :: a, y :: b, h => by
    simp only [List.map_cons, List.cons.injEq] at h
    rw [UInt8.toNat_inj.1 h.1, mapN_inj h.2]
theorem bytesN_inj {a b : ByteArray} (h : bytesN a = bytesN b) : a = b := by
  apply ByteArray.ext
  apply Array.ext'
  exact mapN_inj h
theorem bytesN_appK (a b : ByteArray) : bytesN (a ++ b) = bytesN a ++ bytesN b := by
  unfold bytesN; rw [ByteArray.data_append, Array.toList_append, List.map_append]
theorem bytesN_at1 {t : ByteArray} {q : Nat} (h : q < t.size) : bytesN (t.extract q (q + 1)) = [t[q].toNat] ∧ (bytesN t).drop q = t[q].toNat :: (bytesN t).drop (q + 1) := by
  have hl : q < t.data.toList.length := h
  have hl2 : q < (bytesN t).length := by rw [bytesN_len]; exact h
  have e : (bytesN t)[q] = t[q].toNat := by
    show (t.data.toList.map UInt8.toNat)[q]'(by simpa using h) = _
    rw [List.getElem_map, Array.getElem_toList]; rfl
  refine ⟨?_, by rw [List.drop_eq_getElem_cons hl2, e]⟩
  have h2 : bytesN (t.extract q (q + 1)) = ((bytesN t).drop q).take 1 := by
    unfold bytesN
    rw [ByteArray.data_extract]
    simp [List.map_drop, List.map_take, List.take_drop]
  rw [h2, List.drop_eq_getElem_cons hl2, e]; rfl

set_option maxHeartbeats 2000000 in
set_option maxRecDepth 100000 in
theorem linesOf_any (t : ByteArray) (ht : t.size ≤ 1000) (w : World) :
    Calls Try.prog 47 #[.string t] w fun e w' => ∃ v, e = .returned v ∧ ∃ ls, LinesIn w w' v ls ∧ ls.map bytesN = linesL (bytesN t) := by
  obtain ⟨i0, hi0, hz0, hz1, hz2⟩ := info_parts infoStringK
  have h0 : Hid (linesL (bytesN t) = ([] : List ByteArray).map bytesN ++ linesA (bytesN ByteArray.empty) ((bytesN t).drop 0)) := by show _ = _; rfl
  have hend : Hid ((bytesN t).drop t.size = []) := by show _ = _; rw [← bytesN_len]; exact List.drop_length
  obtain ⟨X, hX⟩ : ∃ X, linesL (bytesN t) = X := ⟨_, rfl⟩
  rw [hX] at h0 ⊢
  clear hX
  go_enter Try.func47, Try.ntmps47
  go_wp2_with fail
  go_loopw [3, 4, 5] (fun lv av iv wr => ∃ (q : Nat) (v : Value) (s : ByteArray) (ls : List ByteArray), lv = v ∧ av = .string s ∧ iv = .int .i64 (q : Int) ∧ q ≤ t.size ∧ s.size ≤ q ∧ ls.length ≤ q ∧ LinesIn w wr v ls ∧ Hid (X = ls.map bytesN ++ linesA (bytesN s) ((bytesN t).drop q))) (fun _ _ iv _ => ((t.size : Int) - intOf iv).toNat)
  case atStart => exact ⟨0, _, ByteArray.empty, [], rfl, rfl, rfl, Nat.zero_le _, Nat.zero_le _, Nat.zero_le _, ⟨World.ownsRow_nil _ _ _ _, Kept.refl _ _⟩, h0⟩
  case round =>
    clear h0
    obtain ⟨q, v, s, ls, hv, rfl, rfl, hq, hsq, hlq, hI, hXq⟩ := hrel
    obtain rfl := hv.symm
    have hsz := hI.k.size
    by_cases hlt : (q : Int) < (t.size : Int)
    · have hqn : q < t.size := by omega
      obtain ⟨p1, p2⟩ := bytesN_at1 hqn
      by_cases hc : (t[q].toNat : Int) = 10
      · have hX2 : Hid (X = (ls ++ [s]).map bytesN ++ linesA (bytesN ByteArray.empty) ((bytesN t).drop (q + 1))) := by
          show _ = _
          rw [hXq.out, p2, show t[q].toNat = 10 by omega, linesA_nl, List.map_append, List.append_assoc]; rfl
        clear p1 p2 hXq
        go_wp2_with (at_builtin; (refine wpList_append_placed rfl (.tmp 16) (.tmp 18) 74 rfl w.heap.size 9 i0 _ 1 16 Try.underlying74 hi0 hz0 hz1 hz2 rfl (by decide) v ls.length (ls.map Value.string) rfl ?own ⟨wr.heap.size, 0, none⟩ 1 1 [.string s] rfl rfl ?n1 ?n2 ?b1 ?b2 ?b3 ?kk))
        case own => exact hI.own.alloc _
        case n2 => first | (simp [Value.oneCell']; done) | exact cells_new _ _ _ _ rfl | (intro u hu; simp at hu; subst hu; rfl)
        case b1 => unfold maxLen; omega
        case b2 => omega
        case b3 => first | omega | (simp; omega)
        case kk =>
          intro v' w5 hown hgrow _
          have h5 : Hid (LinesIn _ _ _ _) := hI.push hown hgrow
          clear hown hgrow hI
          go_wp2
          refine ⟨⟨q + 1, v', ByteArray.empty, ls ++ [s], rfl, rfl, by go_num, by omega, Nat.zero_le _, by simp; omega, h5.out, hX2⟩, ?_⟩
          simp only [intOf]; omega
      · have hz : Hid ((s ++ t.extract q (q + 1)).size = s.size + 1) := by show _ = _; rw [ByteArray.size_append, ByteArray.size_extract]; omega
        have hX2 : Hid (X = ls.map bytesN ++ linesA (bytesN (s ++ t.extract q (q + 1))) ((bytesN t).drop (q + 1))) := by
          show _ = _
          rw [hXq.out, p2, linesA_c (by omega), bytesN_appK, p1]
        have hIH : Hid (LinesIn _ _ _ _) := hI
        have e1 : ((t[q].toNat : Int) == 10) = false := beq_eq_false_iff_ne.2 hc
        have n1 : (t[q].toNat : Int) ≠ 10 := hc
        clear hI hc p1 p2 hXq
        go_wp2
        refine ⟨⟨q + 1, v, s ++ t.extract q (q + 1), ls, rfl, rfl, by go_num, by omega, by rw [hz.out]; omega, by omega, hIH.out, hX2⟩, ?_⟩
        simp only [intOf]; omega
    · have hqe : q = t.size := by omega
      subst hqe
      by_cases he : s.toList.isEmpty = true
      · have hIH : Hid (LinesIn _ _ _ _) := hI
        have hs : bytesN s = [] := (emptyK_iff s).1 he
        have hfin : Hid (ls.map bytesN = X) := by
          show _ = _
          rw [hXq.out, hend.out, hs]; simp [linesA]
        clear hI hs hXq hend
        go_wp2
        go_ret
        exact ⟨_, rfl, ls, hIH.out, hfin.out⟩
      · have hs : bytesN s ≠ [] := fun hx => he ((emptyK_iff s).2 hx)
        have hfin : Hid ((ls ++ [s]).map bytesN = X) := by
          show _ = _
          rw [hXq.out, hend.out, List.map_append, linesA, if_neg hs]; rfl
        have he : s.toList.isEmpty = false := by simpa using he
        clear hs hXq hend
        go_wp2_with (at_builtin; (refine wpList_append_placed rfl (.tmp 29) (.tmp 31) 74 rfl w.heap.size 9 i0 _ 1 16 Try.underlying74 hi0 hz0 hz1 hz2 rfl (by decide) v ls.length (ls.map Value.string) rfl ?own ⟨wr.heap.size, 0, none⟩ 1 1 [.string s] rfl rfl ?n1 ?n2 ?b1 ?b2 ?b3 ?kk))
        case own => exact hI.own.alloc _
        case n2 => first | (simp [Value.oneCell']; done) | exact cells_new _ _ _ _ rfl | (intro u hu; simp at hu; subst hu; rfl)
        case b1 => unfold maxLen; omega
        case b2 => omega
        case b3 => first | omega | (simp; omega)
        case kk =>
          intro v' w5 hown hgrow _
          have h5 : Hid (LinesIn _ _ _ _) := hI.push hown hgrow
          clear hown hgrow hI
          go_wp2
          go_ret
          exact ⟨_, rfl, _, h5.out, hfin.out⟩

end Go.Proofs.Ytgifhgnccmnbiaa

set_option linter.unusedVariables false
set_option linter.unusedSimpArgs false
namespace Go.Proofs.Ytgifhgnccmnbiaa
open Go.RowKit Go.IntWalk

theorem cut_pair (X : List Nat) {m : Nat} (h : m ≤ X.length) : cutX X 0 m 0 ++ cutX X m X.length 0 = X := by
  rw [cutX_whole, cutX_whole, List.take_length]
  exact List.take_append_drop m X
theorem cut_all (X : List Nat) : cutX X 0 X.length 0 = X := by rw [cutX_whole, List.take_length]; rfl
theorem bytesB_N (t : ByteArray) : bytesB (bytesN t) = t := bytesN_inj (bytesN_B (bytesN_lt t))

set_option maxHeartbeats 2000000 in
set_option maxRecDepth 100000 in
theorem back_any (f t : ByteArray) (kind : Int) (h : HasText f kind (bytesN t)) (hf : f.size ≤ maxLen) (ht : t.size ≤ 600) (w : World) :
    Calls Try.prog 36 #[.string f, .int .i64 kind, .string t] w fun e w' => e = .returned (.bool true) ∧ Below w.heap.size w w' := by
  have h1 : Hid (Calls _ _ _ w _) := shape_any f hf w
  have hlen : (bytesN t).length = t.size := bytesN_len t
  have hcut : Hid (∀ (x y : Nat), x ≤ y → y ≤ t.size → ∀ w, Calls Try.prog 27 #[.string f, .int .i64 (x : Int), .int .i64 (y : Int)] w fun e w' => e = .returned (.tuple #[.string (bytesB (cutX (bytesN t) x y 0)), .int .i64 0]) ∧ Below w.heap.size w w') := fun x y a1 a2 w =>
    (cut_any f hf x y (by omega) (by omega) (by omega) (by omega) w).mono fun e w' ho => ⟨by
      rcases h.cut ho (by omega) with ⟨hc, _⟩ | ⟨_, hc⟩
      · exact absurd (by unfold RangeOk; rw [hlen]; omega) hc
      · rw [hc]; rfl, ho.below⟩
  have hl : Hid (∀ w, Calls _ _ _ w _) := fun w => linesOf_any t (by omega) w
  have hsh : Hid (∀ w w' e, ShapeOut f w w' e → _) := fun w w' e ho => h.shape (w := w) (w' := w') (e := e) ho (by omega)
  have hll := linesL_len (X := bytesN t) (by omega)
  rw [hlen] at hsh
  have hllH : Hid (_ = _) := hll
  clear hll h
  obtain ⟨m, hm⟩ : ∃ m, m = t.size / 2 := ⟨_, rfl⟩
  have hmi : (t.size : Int) / 2 = (m : Int) := by omega
  have hc1 := hcut.out 0 t.size (by omega) (by omega)
  have hc2 := hcut.out 0 m (by omega) (by omega)
  have hc3 := hcut.out m t.size (by omega) (by omega)
  have e1 : bytesB (cutX (bytesN t) 0 t.size 0) = t := by rw [← hlen, cut_all, bytesB_N]
  have e2 : bytesB (cutX (bytesN t) 0 m 0) ++ bytesB (cutX (bytesN t) m t.size 0) = t := by
    rw [← bytesB_appF, ← hlen, cut_pair _ (by omega), bytesB_N]
  rw [e1] at hc1
  have hsA : (bytesB (cutX (bytesN t) 0 m 0)).size + (bytesB (cutX (bytesN t) m t.size 0)).size = t.size := by
    have := congrArg ByteArray.size e2
    rwa [ba_size_app] at this
  have hc1H : Hid (∀ w, Calls _ _ _ w _) := hc1
  have hc2H : Hid (∀ w, Calls _ _ _ w _) := hc2
  have hc3H : Hid (∀ w, Calls _ _ _ w _) := hc3
  clear hcut hc1 hc2 hc3 e1 hm
  generalize bytesB (cutX (bytesN t) 0 m 0) = A at *
  generalize bytesB (cutX (bytesN t) m t.size 0) = B at *
  have e2H : Hid (A ++ B = t) := e2
  clear e2
  have hx1 : ¬ 9223372036854775807 < A.size + B.size := by omega
  go_enter Try.func36, Try.ntmps36
  go_wp2_with fail
  refine h1.out.mono ?_
  rintro e w1 ho
  obtain ⟨n0, e1⟩ := hsh.out _ _ _ ho
  obtain ⟨L, hL⟩ : ∃ L, linesS (ptOf (bytesN t)) = L := ⟨_, rfl⟩
  rw [hL] at e1 hllH
  unfold infoV at e1
  subst e1
  have hb1 : Hid (Below w.heap.size w w1) := ho.below
  clear ho h1 hsh hL
  go_wp2_with fail
  refine (hl.out _).mono ?_
  rintro e w2 ⟨v, rfl, ls, hLn, hls⟩
  have hln : ls.length = L := by rw [← hllH.out, ← hls, List.length_map]
  obtain ⟨xa, xk, xc, rfl⟩ := own_shape hLn.own
  have hxk : xk = ls.length := by
    rcases hLn.own.2 with ⟨h1, h2⟩ | ⟨g, cap, _, h1, _⟩
    · simp at h1; omega
    · simp at h1; omega
  rw [hln] at hxk
  subst hxk
  have hA : Blk w2 w1.heap.size #[.int .i64 kind, .int .i64 (n0 : Int), .int .i64 (t.size : Int), .int .i64 (xk : Int)] 41 := (Blk.new w1 _ _).kept hLn.k (by simp)
  have hsz := hb1.out.size
  have hb2 : Hid (Below w.heap.size w w2) := (hb1.out.alloc hsz (.cells #[.int .i64 kind, .int .i64 (n0 : Int), .int .i64 (t.size : Int), .int .i64 (xk : Int)] 41)).trans (hLn.k.below (by simp; omega) (by simp))
  have d0 : w2.cell? ⟨w1.heap.size, 0, none⟩ = some (.int .i64 kind) := hA.cell 0
  have d2 : w2.cell? ⟨w1.heap.size, 2, none⟩ = some (.int .i64 (t.size : Int)) := hA.cell 2
  have d3 : w2.cell? ⟨w1.heap.size, 3, none⟩ = some (.int .i64 (xk : Int)) := hA.cell 3
  clear hA hLn hls hln hllH hl hb1
  go_wp2_with fail
  refine (hc1H.out _).mono ?_
  rintro e w3 ⟨rfl, b3⟩
  have hb3 : Hid (Below w.heap.size w w3) := hb2.out.trans (b3.mono hb2.out.size)
  clear hb2 b3 d0 d2 d3
  go_wp2_with fail
  refine (hc2H.out _).mono ?_
  rintro e w4 ⟨rfl, b4⟩
  have hb4 : Hid (Below w.heap.size w w4) := hb3.out.trans (b4.mono hb3.out.size)
  clear hb3 b4
  go_wp2_with fail
  refine (hc3H.out _).mono ?_
  rintro e w5 ⟨rfl, b5⟩
  have hb5 : Hid (Below w.heap.size w w5) := hb4.out.trans (b5.mono hb4.out.size)
  have e2 : A ++ B = t := e2H.out
  clear hb4 b5
  go_wp2
  go_ret
  exact ⟨rfl, hb5.out⟩

set_option maxHeartbeats 2000000 in
set_option maxRecDepth 100000 in
theorem back_law (t : ByteArray) (c : Int) (w : World) (ht : t.size ≤ maxLen) (hc1 : -9223372036854775808 ≤ c) (hc2 : c ≤ 9223372036854775807) :
    Calls Try.prog 13 #[.string t, .int .i64 c] w fun e w' => e = .returned (.bool true) ∧ Below w.heap.size w w' := by
  have htm : t.size ≤ 9223372036854775807 := by unfold maxLen at ht; exact ht
  have hz : Hid (∀ (k : Nat), k < 4 → ∀ w, Calls Try.prog 29 #[.string t, .int .i64 (9 + (k : Int))] w fun e w' => ((600 < t.size ∧ e = .returned (.tuple #[.string ⟨#[]⟩, .int .i64 8])) ∨ (t.size ≤ 600 ∧ ∃ f : ByteArray, HasText f 90 (bytesN t) ∧ f.size ≤ maxLen ∧ e = .returned (.tuple #[.string f, .int .i64 0]))) ∧ Below w.heap.size w w') := fun k hk w => by
    refine (packZ_any t ht (9 + (k : Int)) w).mono ?_
    rintro e w' ⟨ho, b⟩
    refine ⟨?_, b⟩
    rcases ho with ⟨h1, h2⟩ | ⟨_, h1, _⟩ | ⟨h1, h2, h3, h4⟩
    · exact Or.inl ⟨h1, h2⟩
    · omega
    · refine Or.inr ⟨h1, _, zfile_text h1 (by omega), ?_, h4⟩
      have := zfile_isZ (t := t) (wd := (9 + (k : Int)).toNat) h1 (by omega)
      have := this.1.2.1
      unfold maxLen; omega
  have hg : Hid (∀ w, Calls Try.prog 31 #[.string t] w fun e w' => ((600 < t.size ∧ e = .returned (.tuple #[.string ⟨#[]⟩, .int .i64 8])) ∨ (t.size ≤ 600 ∧ ∃ f : ByteArray, HasText f 71 (bytesN t) ∧ f.size ≤ maxLen ∧ e = .returned (.tuple #[.string f, .int .i64 0]))) ∧ Below w.heap.size w w') := fun w => by
    refine (packG_any t ht w).mono ?_
    rintro e w' ⟨ho, b⟩
    refine ⟨?_, b⟩
    rcases ho with ⟨h1, h2⟩ | ⟨h1, q, hq, h4⟩
    · exact Or.inl ⟨h1, h2⟩
    · refine Or.inr ⟨h1, _, gfile_text h1 hq.le, ?_, h4⟩
      have := (gfile_ok h1 hq.le).most
      unfold maxLen; omega
  go_enter Try.func13, Try.ntmps13
  go_wp2_with fail
  refine (opening_any _).mono ?_
  rintro e w1 ⟨rfl, b1⟩
  have b1 : Hid (Below w.heap.size w w1) := b1
  go_wp2_with fail
  refine (packing_any _).mono ?_
  rintro e w2 ⟨rfl, b2⟩
  have b2 : Hid (Below w.heap.size w w2) := b1.out.trans (b2.mono b1.out.size)
  clear b1
  go_wp2_with fail
  refine (pick_any c 4 hc1 hc2 (by omega) (by omega) _).mono ?_
  rintro e w3 ⟨⟨k, rfl, hk⟩, hw3⟩
  subst hw3
  clear hc1 hc2
  go_wp2_with fail
  refine (hz.out k hk _).mono ?_
  rintro e w4 ⟨ho4, b4⟩
  have b4 : Hid (Below w.heap.size w w4) := b2.out.trans (b4.mono b2.out.size)
  clear b2 hz
  rcases ho4 with ⟨h600, rfl⟩ | ⟨h600, fz, hzt, hzs, rfl⟩
  · have h6 : (600 : Int) < (t.size : Int) := by omega
    go_wp2_with fail
    refine (hg.out _).mono ?_
    rintro e w5 ⟨ho5, b5⟩
    have b5 : Hid (Below w.heap.size w w5) := b4.out.trans (b5.mono b4.out.size)
    clear b4 hg
    rcases ho5 with ⟨_, rfl⟩ | ⟨h601, _⟩
    · go_wp2
      go_ret
      exact ⟨rfl, b5.out⟩
    · omega
  · have h6 : ¬ (600 : Int) < (t.size : Int) := by omega
    have hztH : Hid (HasText _ _ _) := hzt
    clear hzt
    go_wp2_with fail
    refine (hg.out _).mono ?_
    rintro e w5 ⟨ho5, b5⟩
    have b5 : Hid (Below w.heap.size w w5) := b4.out.trans (b5.mono b4.out.size)
    clear b4 hg
    rcases ho5 with ⟨h601, _⟩ | ⟨_, fg, hgt, hgs, rfl⟩
    · omega
    · have hgtH : Hid (HasText _ _ _) := hgt
      clear hgt
      go_wp2_with fail
      refine (back_any fz t 90 hztH.out hzs h600 _).mono ?_
      rintro e w6 ⟨rfl, b6⟩
      have b6 : Hid (Below w.heap.size w w6) := b5.out.trans (b6.mono b5.out.size)
      clear b5
      go_wp2_with fail
      refine (back_any fg t 71 hgtH.out hgs h600 _).mono ?_
      rintro e w7 ⟨rfl, b7⟩
      have b7 : Hid (Below w.heap.size w w7) := b6.out.trans (b7.mono b6.out.size)
      clear b6
      go_wp2
      go_ret
      exact ⟨rfl, b7.out⟩

end Go.Proofs.Ytgifhgnccmnbiaa
