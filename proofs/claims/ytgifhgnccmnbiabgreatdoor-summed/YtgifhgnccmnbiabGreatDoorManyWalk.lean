/- The law Many, walked. -/
import Derived.Test.YtgifhgnccmnbiabGreatDoorG27
import Derived.BigQuiet
set_option linter.unusedVariables false
set_option linter.unusedSimpArgs false
namespace Go.Proofs.YtgifhgnccmnbiabGreatDoor
open Go.RowKit Go.IntWalk

theorem linesL_app {A : List Nat} (hr : restL A = []) (B : List Nat) : linesL (A ++ B) = linesL A ++ linesL B := by
  rw [linesL_cr, linesL_cr A, linesL_cr B, restL_app, compL_app, hr, if_pos rfl, List.append_nil, List.append_assoc]
  rfl
theorem restL_end (Y : List Nat) : restL (Y ++ [10]) = [] := by rw [restL_app, crA_nl, crA_nil]
theorem restL_rep {tx : List Nat} (h : restL tx = []) : ∀ n, restL (repL tx n) = []
  | 0 => rfl
  | n + 1 => by
    show restL (repL tx n ++ tx) = []
    rw [restL_app, restL_rep h n]; exact h
theorem lines_rep {tx : List Nat} (h : restL tx = []) : ∀ n, (linesL (repL tx n)).length = n * (linesL tx).length
  | 0 => by show (linesL []).length = _; rw [Nat.zero_mul]; rfl
  | n + 1 => by
    show (linesL (repL tx n ++ tx)).length = _
    rw [linesL_app (restL_rep h n), List.length_append, lines_rep h n, Nat.succ_mul]
theorem cnt_rep (M : MP) (inv : Bool) {tx : List Nat} (h : restL tx = []) : ∀ n, cnt M inv (linesL (repL tx n)) = n * cnt M inv (linesL tx)
  | 0 => by show cnt M inv (linesL []) = _; rw [Nat.zero_mul]; rfl
  | n + 1 => by
    show cnt M inv (linesL (repL tx n ++ tx)) = _
    rw [linesL_app (restL_rep h n), cnt_app, cnt_rep M inv h n, Nat.succ_mul]
theorem times_to {n k r : Nat} (hr : r = n * 2 ^ k) (hk : k ≤ 60) (h : r ≤ 9223372036854775807) (w : World) : Calls Tryz.prog 24 #[.int .i64 (n : Int), .int .i64 (k : Int)] w fun e w' => e = .returned (.int .i64 (r : Int)) ∧ w' = w := by
  refine (times_any n k hk (by rw [← hr]; exact h) w).mono ?_
  rintro e w' ⟨⟨r', rfl, h1⟩, h2⟩
  exact ⟨by rw [hr, h1.out], h2⟩
/-- What printed counts of a text's lines, with no most. -/
theorem stP_count {num inv : Bool} {M : MP} {X : List Nat} {ls : List ByteArray} {bs : List Bool} (hl : ls.map bytesN = linesL X) (hb : ∀ (q : Nat) (l : ByteArray), ls[q]? = some l → bs[q]? = some (selL M inv (bytesN l))) :
    (stP num 0 0 ls bs ls.length).2 = cnt M inv (linesL X) := by
  have := stP_lines (num := num) (mx := 0) (Int.le_refl 0) hl hb ls.length (Nat.le_refl _)
  rw [this, List.take_of_length_le (by rw [← hl, List.length_map]; exact Nat.le_refl _)]
  show (takeM 0 (selE (selL M inv) 0 0 (linesL X))).length = _
  unfold takeM
  rw [if_pos rfl, selE_len]; rfl

set_option maxHeartbeats 4000000 in
set_option maxRecDepth 100000 in
theorem many_law (inv fold whole num : Bool) (mx : Int) (p t u : ByteArray) (c : Int) (w : World) (htab : TabP w) (hm1 : -9223372036854775808 ≤ mx) (hm2 : mx ≤ 9223372036854775807) (hp : p.size ≤ maxLen) (ht : t.size ≤ maxLen) (hu : u.size ≤ maxLen) (hc1 : -9223372036854775808 ≤ c) (hc2 : c ≤ 9223372036854775807) :
    Calls Tryz.prog 6 #[.agg #[.bool inv, .bool fold, .bool whole, .bool num, .int .i64 mx], .string p, .string t, .string u, .int .i64 c] w fun e w' => e = .returned (.bool true) ∧ Below w.heap.size w w' := by
  have htb : Hid (∀ w', Below w.heap.size w w' → TabP w') := fun w' b => htab.kept (below_kept b)
  have h0 : Hid (∀ o, Below w.heap.size w (w.alloc o)) := fun o => (Below.refl _ _).alloc (Nat.le_refl _) o
  clear htab
  go_enter Tryz.func6, Tryz.ntmps6
  go_wp2_with fail
  refine (awake_any _ (htb.out _ (h0.out _))).mono ?_
  rintro e w1 ⟨rfl, b1⟩
  have B1 : Hid (Blk w1 w.heap.size #[.bool inv, .bool fold, .bool whole, .bool num, .int .i64 mx] 23) := Blk.kept (Blk.new w _ _) (below_kept b1) (by simp)
  have b1 : Hid (Below w.heap.size w w1) := (h0.out _).trans (b1.mono (by simp))
  clear h0
  go_wp2_with fail
  refine (some2_any t 39 ht (by omega) _).mono ?_
  rintro e w2 ⟨⟨s, rfl, hs, hsx⟩, hw2⟩
  subst hw2
  clear hsx
  have hx1 : ¬ 9223372036854775807 < s.size + 1 := by omega
  obtain ⟨T, hT⟩ : ∃ T : ByteArray, Hid (s ++ ⟨#[10]⟩ = T) := ⟨_, rfl⟩
  have hTs : T.size = s.size + 1 := by rw [← hT.out, ba_size_app]; rfl
  have hTm : T.size ≤ 40 := by omega
  have hTp : 1 ≤ T.size := by omega
  have hTr : Hid (restL (bytesN T) = []) := by
    show _ = _
    rw [← hT.out, bytesN_appK]
    exact restL_end _
  go_wp2_with fail
  rw [hT.out]
  refine (some2_any u 200 hu (by omega) _).mono ?_
  rintro e w2 ⟨⟨m, rfl, hms, hsx⟩, hw2⟩
  subst hw2
  clear hsx
  go_wp2_with fail
  refine (pick_any c 34 hc1 hc2 (by omega) (by omega) _).mono ?_
  rintro e w3 ⟨⟨k, rfl, hk⟩, hw3⟩
  subst hw3
  clear hx1 hT hTs hs hc1 hc2 ht hu
  go_wp2_with fail
  refine (doubled_any T m k hTp hTm (by omega) (by omega) _).mono ?_
  rintro e w4 ⟨f, rfl, hf, k4⟩
  have hD : Hid (Dbl f (bytesN T) k (bytesN m)) := ⟨hf, by rw [bytesN_len]; exact hTp, by rw [bytesN_len]; exact hTm, by omega, by rw [bytesN_len]; omega, bytesN_lt T, bytesN_lt m⟩
  have hfs : f.size ≤ 2000 := by
    have h1 := hD.out.size
    rw [bytesN_len, bytesN_len] at h1
    omega
  have B4 : Hid (Blk _ _ _ _) := Blk.kept B1.out k4 (by simp)
  have b4 : Hid (Below w.heap.size w w4) := b1.out.trans (k4.below b1.out.size (by simp))
  clear hf k4 b1 B1
  have hpw : 2 ^ k ≤ 8589934592 := by show 2 ^ k ≤ 2 ^ 33; exact Nat.pow_le_pow_right (by decide) (by omega)
  obtain ⟨r1, hr1⟩ : ∃ r1, r1 = T.size * 2 ^ k := ⟨_, rfl⟩
  have hr1b : r1 ≤ 343597383680 := by rw [hr1]; exact Nat.mul_le_mul hTm hpw
  have hXl : Hid ((repL (bytesN T) (2 ^ k) ++ bytesN m).length = r1 + m.size) := by
    show _ = _
    rw [List.length_append, repL_len, bytesN_len, bytesN_len, hr1, Nat.mul_comm]
  have hXb : (repL (bytesN T) (2 ^ k) ++ bytesN m).length ≤ 1099511627776 := by rw [hXl.out]; omega
  have hXt : Hid (HasText f 71 (repL (bytesN T) (2 ^ k) ++ bytesN m)) := hD.out.text
  obtain ⟨r2, hr2⟩ : ∃ r2, r2 = (linesL (bytesN T)).length * 2 ^ k := ⟨_, rfl⟩
  have hlc := lines_count (bytesN T)
  have hlc2 := lines_count (bytesN m)
  rw [bytesN_len] at hlc hlc2
  have hr2b : r2 ≤ 41 * 8589934592 := by rw [hr2]; exact Nat.mul_le_mul (by omega) hpw
  have hXn : Hid (linesS (ptOf (repL (bytesN T) (2 ^ k) ++ bytesN m)) = r2 + (linesL (bytesN m)).length) := by
    show _ = _
    rw [← linesL_len hXb, linesL_app (restL_rep hTr.out _), List.length_append, lines_rep hTr.out, hr2, Nat.mul_comm]
  have hXc : Hid (∀ M : MP, cnt M inv (linesL (repL (bytesN T) (2 ^ k) ++ bytesN m)) = cnt M inv (linesL (bytesN T)) * 2 ^ k + cnt M inv (linesL (bytesN m))) := fun M => by
    rw [linesL_app (restL_rep hTr.out _), cnt_app, cnt_rep M inv hTr.out, Nat.mul_comm]
  have hsh : Hid (∀ w, Calls Tryz.prog 23 #[.string f] w fun e w' => e = .returned (.tuple #[.agg #[.int .i64 71, .int .i64 ((1 + m.size : Nat) : Int), .int .i64 ((r1 + m.size : Nat) : Int), .int .i64 ((r2 + (linesL (bytesN m)).length : Nat) : Int)], .int .i64 0]) ∧ Below w.heap.size w w') := fun w => by
    refine (shape_any f (by unfold maxLen; omega) w).mono ?_
    rintro e w' ho
    have := hD.out.shape ho hXb
    rw [hXl.out, hXn.out, bytesN_len] at this
    exact ⟨this, ho.below⟩
  have ht1 : Hid (∀ w, Calls _ _ _ w _) := fun w => times_to hr1 (by omega) (by omega) w
  have ht2 : Hid (∀ w, Calls _ _ _ w _) := fun w => times_to hr2 (by omega) (by omega) w
  have ht3 : Hid (∀ x : Nat, x ≤ 41 → ∀ w, Calls Tryz.prog 24 #[.int .i64 (x : Int), .int .i64 (k : Int)] w fun e w' => e = .returned (.int .i64 ((x * 2 ^ k : Nat) : Int)) ∧ w' = w) := fun x hx w => times_to rfl (by omega) (Nat.le_trans (Nat.mul_le_mul hx hpw) (by omega)) w
  have hx3 : Hid (∀ x : Nat, x ≤ 41 → x * 2 ^ k ≤ 41 * 8589934592) := fun x hx => Nat.mul_le_mul hx hpw
  clear hD hr1 hr2 hXl hXn hTr hpw
  go_wp2_with fail
  refine (linesOf_any T (by omega) _).mono ?_
  rintro e w5 ⟨v1, rfl, ls1, hL1, hls1⟩
  have hLH1 : Hid (LinesIn _ _ _ _) := hL1
  have B5 : Hid (Blk _ _ _ _) := Blk.kept B4.out hL1.k (by simp)
  have b5 : Hid (Below w.heap.size w w5) := b4.out.trans (hL1.k.below b4.out.size (by simp))
  clear b4 B4 hL1
  go_wp2_with fail
  refine (linesOf_any m (by omega) _).mono ?_
  rintro e w6 ⟨v2, rfl, ls2, hL2, hls2⟩
  have hLH2 : Hid (LinesIn _ _ _ _) := hL2
  have hLH1' : Hid (LinesIn w4 w6 v1 ls1) := ⟨row_stay hLH1.out.own hL2.k (fun _ _ => by simp), hLH1.out.k.trans hL2.k⟩
  have B6 : Hid (Blk _ _ _ _) := Blk.kept B5.out hL2.k (by simp)
  have b6 : Hid (Below w.heap.size w w6) := b5.out.trans (hL2.k.below b5.out.size (by simp))
  clear b5 B5 hL2 hLH1
  have hn1 : ls1.length = (linesL (bytesN T)).length := by rw [← hls1, List.length_map]
  have hn2 : ls2.length = (linesL (bytesN m)).length := by rw [← hls2, List.length_map]
  have hls1H : Hid (_ = _) := hls1
  have hls2H : Hid (_ = _) := hls2
  have n1b : ls1.length ≤ 41 := by omega
  have n2b : ls2.length ≤ 201 := by omega
  rw [← hn1] at ht2
  rw [← hn2] at hsh
  have hn1H : Hid (_ = _) := hn1
  have hn2H : Hid (_ = _) := hn2
  clear hn1 hn2 hls1 hls2 hlc hlc2
  obtain ⟨a1, c1, rfl⟩ : ∃ a1 c1, v1 = .slice a1 ls1.length c1 := by
    obtain ⟨xa, xk, xc, rfl⟩ := own_shape hLH1'.out.own
    rcases hLH1'.out.own.2 with ⟨h1, h2⟩ | ⟨g, cap, _, h1, _⟩
    · simp at h1; exact ⟨xa, xc, by rw [h2]; simp; omega⟩
    · simp at h1; exact ⟨xa, xc, by simp; omega⟩
  obtain ⟨a2, c2, rfl⟩ : ∃ a2 c2, v2 = .slice a2 ls2.length c2 := by
    obtain ⟨xa, xk, xc, rfl⟩ := own_shape hLH2.out.own
    rcases hLH2.out.own.2 with ⟨h1, h2⟩ | ⟨g, cap, _, h1, _⟩
    · simp at h1; exact ⟨xa, xc, by rw [h2]; simp; omega⟩
    · simp at h1; exact ⟨xa, xc, by simp; omega⟩
  go_wp2_with fail
  refine (hsh.out _).mono ?_
  rintro e w7 ⟨rfl, b7⟩
  have k7 := below_kept b7
  have B7 : Hid (∀ o, Blk (w7.alloc o) w.heap.size _ _) := fun o => Blk.kept (Blk.kept B6.out k7 (by simp)) ((Kept.refl [] w7).alloc o) (by simp)
  have b7 : Hid (∀ o, Below w.heap.size w (w7.alloc o)) := fun o => (b6.out.trans (b7.mono b6.out.size)).alloc (b6.out.trans (b7.mono b6.out.size)).size o
  have hM1 : Hid (∀ o, LinesIn w4 (w7.alloc o) (.slice a1 ls1.length c1) ls1) := fun o => ⟨row_stay hLH1'.out.own (k7.alloc o) (fun _ _ => by simp), hLH1'.out.k.trans (k7.alloc o)⟩
  have hM2 : Hid (∀ o, LinesIn w5 (w7.alloc o) (.slice a2 ls2.length c2) ls2) := fun o => ⟨row_stay hLH2.out.own (k7.alloc o) (fun _ _ => by simp), hLH2.out.k.trans (k7.alloc o)⟩
  clear hLH1' hLH2 k7 B6 b6 hsh b1
  go_wp2_with fail
  go_quiet (first
    | (go_at_call_of 24 (Value.int IntKind.i64 (T.size : Int)); exact Calls.quiet_of_same (ht1.out _))
    | (go_at_call 24; exact Calls.quiet_of_same (ht2.out _)))
  obtain ⟨W, hW⟩ : ∃ W, W = (w7.alloc (.cells #[.int .i64 71, .int .i64 (1 + (m.size : Int)), .int .i64 ((r1 : Int) + (m.size : Int)), .int .i64 ((r2 : Int) + (ls2.length : Int))] 47)).drewN nq := ⟨_, rfl⟩
  have B8 : Hid (Blk W w.heap.size #[.bool inv, .bool fold, .bool whole, .bool num, .int .i64 mx] 23) := by
    show Blk _ _ _ _; rw [hW]; exact Blk.kept (B7.out _) ((Kept.refl [] _).drewN _) (by simp)
  have b8 : Hid (Below w.heap.size w W) := by
    show Below _ _ _; rw [hW]; exact (b7.out _).trans (((Kept.refl [] _).drewN _).below (b7.out _).size (by simp))
  have M1 : Hid (LinesIn w4 W (.slice a1 ls1.length c1) ls1) := by
    show LinesIn _ _ _ _; rw [hW]; exact ⟨row_stay (hM1.out _).own ((Kept.refl [] _).drewN _) (fun _ _ => by simp), (hM1.out _).k.trans ((Kept.refl [] _).drewN _)⟩
  have M2 : Hid (LinesIn w5 W (.slice a2 ls2.length c2) ls2) := by
    show LinesIn _ _ _ _; rw [hW]; exact ⟨row_stay (hM2.out _).own ((Kept.refl [] _).drewN _) (fun _ _ => by simp), (hM2.out _).k.trans ((Kept.refl [] _).drewN _)⟩
  rw [← hW]
  clear hW hM1 hM2 B7 b7 ht1 ht2 hr1b hr2b
  obtain ⟨o0, o1, o2, o3, o4, ol⟩ := all5 B8.out
  rcases opt_cases mx p with ⟨x, hbad⟩ | ⟨hm0, r, hr⟩
  · have hc : Hid (∀ w, Calls _ _ _ w _) := fun w => count_opt (inv := inv) (fold := fold) (whole := whole) (num := num) hbad hp f w
    have hse : Hid (∀ v w, Calls _ _ _ w _) := fun v w => selected_bad (inv := inv) (fold := fold) (whole := whole) (num := num) hbad hp hm1 hm2 v w
    have hxb : (x != 0) = true := by simp [hbad.nz]
    have hx0 := hbad.nz
    clear hbad ht3 hx3 hXc hXt hXb hls1H hls2H hn1H hn2H M1 M2
    go_wp2_with fail
    refine (hc.out _).mono ?_
    rintro e w9 ⟨rfl, b9⟩
    have B9 : Hid (Blk _ _ _ _) := Blk.kept B8.out (below_kept b9) (by simp)
    have b9 : Hid (Below w.heap.size w w9) := b8.out.trans (b9.mono b8.out.size)
    clear b8 B8 o0 o1 o2 o3 o4 ol hc
    obtain ⟨o0, o1, o2, o3, o4, ol⟩ := all5 B9.out
    go_wp2_with fail
    refine (hse.out _ _).mono ?_
    rintro e w10 ⟨rfl, k10⟩
    have B10 : Hid (Blk _ _ _ _) := Blk.kept B9.out k10 (by simp)
    have b10 : Hid (Below w.heap.size w w10) := b9.out.trans (k10.below b9.out.size (by simp))
    clear b9 B9 o0 o1 o2 o3 o4 ol k10
    obtain ⟨o0, o1, o2, o3, o4, ol⟩ := all5 B10.out
    go_wp2_with fail
    refine (hse.out _ _).mono ?_
    rintro e w11 ⟨rfl, k11⟩
    have b11 : Hid (Below w.heap.size w w11) := b10.out.trans (k11.below b10.out.size (by simp))
    clear b10 B10 o0 o1 o2 o3 o4 ol k11 hse
    go_wp2
    go_ret
    exact ⟨rfl, b11.out⟩
  · have hc : Hid (∀ w, Calls _ _ _ w _) := fun w => hXt.out.count (inv := inv) (fold := fold) (whole := whole) (num := num) hXb (by unfold maxLen; omega) hr hm0 hm2 w
    rw [hXc.out] at hc
    have hy1 : cnt (machOf r fold whole) inv (linesL (bytesN T)) ≤ 41 := Nat.le_trans (cnt_le _ _ _) (by rw [← hn1H.out]; exact n1b)
    have hy2 : cnt (machOf r fold whole) inv (linesL (bytesN m)) ≤ 201 := Nat.le_trans (cnt_le _ _ _) (by rw [← hn2H.out]; exact n2b)
    have hs1 : Hid (∀ w, w.ownsRow w4.heap.size 9 1 (.slice a1 ls1.length c1) ls1.length (ls1.map Value.string) → Calls _ _ _ w _) := fun w h => selected_any (inv := inv) (fold := fold) (whole := whole) (num := num) hr hm0 hm2 (fun l hl => line_ok (by omega) hls1H.out hl) (by omega) w h
    have hs2 : Hid (∀ w, w.ownsRow w5.heap.size 9 1 (.slice a2 ls2.length c2) ls2.length (ls2.map Value.string) → Calls _ _ _ w _) := fun w h => selected_any (inv := inv) (fold := fold) (whole := whole) (num := num) hr hm0 hm2 (fun l hl => line_ok (by omega) hls2H.out hl) (by omega) w h
    have hp1 : Hid (∀ (B' : Nat) (vb : Value) (w : World), TabP w → w.ownsRow w4.heap.size 9 1 (.slice a1 ls1.length c1) ls1.length (ls1.map Value.string) → w.ownsRow B' 4 1 vb (ls1.map fun l => selB r fold whole l != inv).length ((ls1.map fun l => selB r fold whole l != inv).map Value.bool) → Calls Tryz.prog 21 #[.agg #[.bool inv, .bool fold, .bool whole, .bool num, .int .i64 0], .slice a1 ls1.length c1, vb, .int .i64 0] w fun e w' => (∃ S, e = .returned (.tuple #[.string S, .int .i64 ((cnt (machOf r fold whole) inv (linesL (bytesN T)) : Nat) : Int)])) ∧ Kept [] w w') := fun B' vb w h1 h2 h3 => by
      refine (printed_any (first := 0) (inv := inv) (fold := fold) (whole := whole) (num := num) (mx := 0) (Int.le_refl 0) (by omega) (fun l hl => (line_ok (by omega) hls1H.out hl).1) (by omega) (by rw [List.length_map]) (by omega) w h1 h2 h3).mono ?_
      rintro e w' ⟨rfl, k⟩
      refine ⟨⟨(stP num 0 0 ls1 (ls1.map fun l => selB r fold whole l != inv) ls1.length).1, ?_⟩, k⟩
      rw [stP_count (M := machOf r fold whole) (inv := inv) hls1H.out (fun q l hq => by rw [List.getElem?_map, hq, selSame hr]; rfl)]
    have hp2 : Hid (∀ (B' : Nat) (vb : Value) (w : World), TabP w → w.ownsRow w5.heap.size 9 1 (.slice a2 ls2.length c2) ls2.length (ls2.map Value.string) → w.ownsRow B' 4 1 vb (ls2.map fun l => selB r fold whole l != inv).length ((ls2.map fun l => selB r fold whole l != inv).map Value.bool) → Calls Tryz.prog 21 #[.agg #[.bool inv, .bool fold, .bool whole, .bool num, .int .i64 0], .slice a2 ls2.length c2, vb, .int .i64 0] w fun e w' => (∃ S, e = .returned (.tuple #[.string S, .int .i64 ((cnt (machOf r fold whole) inv (linesL (bytesN m)) : Nat) : Int)])) ∧ Kept [] w w') := fun B' vb w h1 h2 h3 => by
      refine (printed_any (first := 0) (inv := inv) (fold := fold) (whole := whole) (num := num) (mx := 0) (Int.le_refl 0) (by omega) (fun l hl => (line_ok (by omega) hls2H.out hl).1) (by omega) (by rw [List.length_map]) (by omega) w h1 h2 h3).mono ?_
      rintro e w' ⟨rfl, k⟩
      refine ⟨⟨(stP num 0 0 ls2 (ls2.map fun l => selB r fold whole l != inv) ls2.length).1, ?_⟩, k⟩
      rw [stP_count (M := machOf r fold whole) (inv := inv) hls2H.out (fun q l hq => by rw [List.getElem?_map, hq, selSame hr]; rfl)]
    have ht4 : Hid (∀ w, Calls _ _ _ w _) := ht3.out _ hy1
    have hyb := hx3.out _ hy1
    clear hr hls1H hls2H hn1H hn2H hXc hXt hXb ht3 hx3 hy1 hm1 hp
    generalize cnt (machOf r fold whole) inv (linesL (bytesN T)) = y1 at *
    generalize cnt (machOf r fold whole) inv (linesL (bytesN m)) = y2 at *
    generalize y1 * 2 ^ k = y3 at *
    have hcap : Hid ((0 < mx ∧ mx < (y3 : Int) + (y2 : Int) → capI mx (y3 + y2) = mx) ∧ (¬ (0 < mx ∧ mx < (y3 : Int) + (y2 : Int)) → capI mx (y3 + y2) = (y3 : Int) + (y2 : Int))) := ⟨fun h => if_pos (by rw [Int.natCast_add]; exact h), fun h => (if_neg (by rw [Int.natCast_add]; exact h)).trans (Int.natCast_add _ _)⟩
    generalize capI mx (y3 + y2) = CC at *
    go_wp2_with fail
    refine (hc.out _).mono ?_
    rintro e w9 ⟨rfl, b9⟩
    have k9 := below_kept b9
    have B9 : Hid (Blk _ _ _ _) := Blk.kept B8.out k9 (by simp)
    have b9 : Hid (Below w.heap.size w w9) := b8.out.trans (b9.mono b8.out.size)
    have M1' : Hid (LinesIn w4 w9 (.slice a1 ls1.length c1) ls1) := ⟨row_stay M1.out.own k9 (fun _ _ => by simp), M1.out.k.trans k9⟩
    have M2' : Hid (LinesIn w5 w9 (.slice a2 ls2.length c2) ls2) := ⟨row_stay M2.out.own k9 (fun _ _ => by simp), M2.out.k.trans k9⟩
    clear b8 B8 o0 o1 o2 o3 o4 ol hc M1 M2 k9
    obtain ⟨o0, o1, o2, o3, o4, ol⟩ := all5 B9.out
    go_wp2_with fail
    refine (hs1.out _ M1'.out.own).mono ?_
    rintro e w10 ⟨v10, rfl, hF⟩
    have F1 : Hid (FlagsIn _ _ _ _) := hF
    have B10 : Hid (Blk _ _ _ _) := Blk.kept B9.out hF.k (by simp)
    have b10 : Hid (Below w.heap.size w w10) := b9.out.trans (hF.k.below b9.out.size (by simp))
    have M1'' : Hid (LinesIn w4 w10 (.slice a1 ls1.length c1) ls1) := ⟨row_stay M1'.out.own hF.k (fun _ _ => by simp), M1'.out.k.trans hF.k⟩
    have M2'' : Hid (LinesIn w5 w10 (.slice a2 ls2.length c2) ls2) := ⟨row_stay M2'.out.own hF.k (fun _ _ => by simp), M2'.out.k.trans hF.k⟩
    clear b9 B9 o0 o1 o2 o3 o4 ol hs1 M1' M2' hF
    obtain ⟨o0, o1, o2, o3, o4, ol⟩ := all5 B10.out
    go_wp2_with fail
    refine (hs2.out _ M2''.out.own).mono ?_
    rintro e w11 ⟨v11, rfl, hF⟩
    have K11 : Hid (∀ o, Kept [] w10 (w11.alloc o)) := fun o => hF.k.alloc o
    have F2 : Hid (∀ o, FlagsIn w10 (w11.alloc o) v11 _) := fun o => hF.kept ((Kept.refl [] w11).alloc o)
    have F1' : Hid (∀ o, FlagsIn w9 (w11.alloc o) v10 _) := fun o => F1.out.kept (K11.out o)
    have B11 : Hid (∀ o, Blk (w11.alloc o) _ _ _) := fun o => Blk.kept B10.out (K11.out o) (by simp)
    have b11 : Hid (∀ o, Below w.heap.size w (w11.alloc o)) := fun o => b10.out.trans ((K11.out o).below b10.out.size (by simp))
    have N1 : Hid (∀ o, LinesIn w4 (w11.alloc o) (.slice a1 ls1.length c1) ls1) := fun o => ⟨row_stay M1''.out.own (K11.out o) (fun _ _ => by simp), M1''.out.k.trans (K11.out o)⟩
    have N2 : Hid (∀ o, LinesIn w5 (w11.alloc o) (.slice a2 ls2.length c2) ls2) := fun o => ⟨row_stay M2''.out.own (K11.out o) (fun _ _ => by simp), M2''.out.k.trans (K11.out o)⟩
    have B11' : Hid (Blk w11 _ _ _) := Blk.kept B10.out hF.k (by simp)
    clear b10 B10 o0 o1 o2 o3 o4 ol hs2 M1'' M2'' hF F1 K11
    obtain ⟨o0, o1, o2, o3, o4, ol⟩ := all5 B11'.out
    go_wp2_with fail
    refine (hp1.out _ v10 _ (htb.out _ (b11.out _)) (N1.out _).own (F1'.out _).own).mono ?_
    rintro e w12 ⟨⟨S1, rfl⟩, k12⟩
    have Q12 : Hid (Blk w12 w11.heap.size #[.bool inv, .bool fold, .bool whole, .bool num, .int .i64 0] 23) := Blk.kept (Blk.new w11 _ _) k12 (by simp)
    have B12 : Hid (Blk w12 _ _ _) := Blk.kept (B11.out _) k12 (by simp)
    have b12 : Hid (Below w.heap.size w w12) := (b11.out _).trans (k12.below (b11.out _).size (by simp))
    have N2' : Hid (LinesIn w5 w12 (.slice a2 ls2.length c2) ls2) := ⟨row_stay (N2.out _).own k12 (fun _ _ => by simp), (N2.out _).k.trans k12⟩
    have F2' : Hid (FlagsIn w10 w12 v11 _) := (F2.out _).kept k12
    clear B11 B11' b11 N1 N2 F1' F2 k12 o0 o1 o2 o3 o4 ol hp1
    obtain ⟨o0, o1, o2, o3, o4, ol⟩ := all5 Q12.out
    go_wp2_with fail
    refine (hp2.out _ v11 _ (htb.out _ b12.out) N2'.out.own F2'.out.own).mono ?_
    rintro e w13 ⟨⟨S2, rfl⟩, k13⟩
    have B13 : Hid (Blk w13 w.heap.size #[.bool inv, .bool fold, .bool whole, .bool num, .int .i64 mx] 23) := Blk.kept B12.out k13 (by simp)
    have b13 : Hid (Below w.heap.size w w13) := b12.out.trans (k13.below b12.out.size (by simp))
    clear Q12 B12 b12 N2' F2' k13 o0 o1 o2 o3 o4 ol hp2
    go_wp2_with fail
    refine (ht4.out _).mono ?_
    rintro e w14 ⟨rfl, h14⟩
    have h14' := h14.symm
    subst h14'
    obtain ⟨o0, o1, o2, o3, o4, ol⟩ := all5 B13.out
    clear ht4 hTm hTp
    by_cases h1 : 0 < mx
    · by_cases h2 : mx < (y3 : Int) + (y2 : Int)
      · obtain rfl : CC = mx := hcap.out.1 ⟨h1, h2⟩
        clear hcap
        go_wp2
        go_ret
        exact ⟨rfl, b13.out⟩
      · obtain rfl : CC = (y3 : Int) + (y2 : Int) := hcap.out.2 (fun h => h2 h.2)
        clear hcap
        go_wp2
        go_ret
        exact ⟨rfl, b13.out⟩
    · obtain rfl : CC = (y3 : Int) + (y2 : Int) := hcap.out.2 (fun h => h1 h.1)
      clear hcap
      go_wp2
      go_ret
      exact ⟨rfl, b13.out⟩

end Go.Proofs.YtgifhgnccmnbiabGreatDoor
