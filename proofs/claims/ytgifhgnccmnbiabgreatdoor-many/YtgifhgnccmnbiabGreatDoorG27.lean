/- The law Many, walked. -/
import Derived.Test.YtgifhgnccmnbiabGreatDoorG26
import Derived.BigQuiet
import Derived.Test.YtgifhgnccmnbiabGreatDoorG01
import Derived.ProofKit
import Derived.OpenShut
import Derived.ShutString
import Derived.ChangeSame
set_option linter.unusedVariables false
set_option linter.unusedSimpArgs false
namespace Go.Proofs.YtgifhgnccmnbiabGreatDoor
open Go.RowKit Go.IntWalk

theorem linesL_app {A : List Nat} (hr : restL A = []) (B : List Nat) : linesL (A ++ B) = linesL A ++ linesL B := by
  rw [linesL_cr, linesL_cr A, linesL_cr B, restL_app, compL_app, hr, if_pos rfl, List.append_nil, List.append_assoc]
  rfl
theorem restL_end (Y : List Nat) : restL (Y ++ [10]) = [] := by rw [restL_app, crA_nl, crA_nil]
theorem restL_rep {tx : List Nat} (h : restL tx = []) : ∀ n, restL (repL tx n) = []
  | 0 => rfl
  | n + 1 => by
    show restL (repL tx n ++ tx) = []
    rw [restL_app, restL_rep h n]; exact h
theorem lines_rep {tx : List Nat} (h : restL tx = []) : ∀ n, (linesL (repL tx n)).length = n * (linesL tx).length
  | 0 => by show (linesL []).length = _; rw [Nat.zero_mul]; rfl
  | n + 1 => by
    show (linesL (repL tx n ++ tx)).length = _
    rw [linesL_app (restL_rep h n), List.length_append, lines_rep h n, Nat.succ_mul]
theorem cnt_rep (M : MP) (inv : Bool) {tx : List Nat} (h : restL tx = []) : ∀ n, cnt M inv (linesL (repL tx n)) = n * cnt M inv (linesL tx)
  | 0 => by show cnt M inv (linesL []) = _; rw [Nat.zero_mul]; rfl
  | n + 1 => by
    show cnt M inv (linesL (repL tx n ++ tx)) = _
    rw [linesL_app (restL_rep h n), cnt_app, cnt_rep M inv h n, Nat.succ_mul]
theorem times_to {n k r : Nat} (hr : r = n * 2 ^ k) (hk : k ≤ 60) (h : r ≤ 9223372036854775807) (w : World) : Calls Tryz.prog 24 #[.int .i64 (n : Int), .int .i64 (k : Int)] w fun e w' => e = .returned (.int .i64 (r : Int)) ∧ w' = w := by
  refine (times_any n k hk (by rw [← hr]; exact h) w).mono ?_
  rintro e w' ⟨⟨r', rfl, h1⟩, h2⟩
  exact ⟨by rw [hr, h1.out], h2⟩
/-- What printed counts of a text's lines, with no most. -/
theorem stP_count {num inv : Bool} {M : MP} {X : List Nat} {ls : List ByteArray} {bs : List Bool} (hl : ls.map bytesN = linesL X) (hb : ∀ (q : Nat) (l : ByteArray), ls[q]? = some l → bs[q]? = some (selL M inv (bytesN l))) :
    (stP num 0 0 ls bs ls.length).2 = cnt M inv (linesL X) := by
  have := stP_lines (num := num) (mx := 0) (Int.le_refl 0) hl hb ls.length (Nat.le_refl _)
  rw [this, List.take_of_length_le (by rw [← hl, List.length_map]; exact Nat.le_refl _)]
  show (takeM 0 (selE (selL M inv) 0 0 (linesL X))).length = _
  unfold takeM
  rw [if_pos rfl, selE_len]; rfl

set_option maxHeartbeats 4000000 in
set_option maxRecDepth 100000 in
theorem many_law (inv fold whole num : Bool) (mx : Int) (p t u : ByteArray) (c : Int) (w : World) (htab : TabP w) (hm1 : -9223372036854775808 ≤ mx) (hm2 : mx ≤ 9223372036854775807) (hp : p.size ≤ maxLen) (ht : t.size ≤ maxLen) (hu : u.size ≤ maxLen) (hc1 : -9223372036854775808 ≤ c) (hc2 : c ≤ 9223372036854775807) :
    Calls Tryz.prog 6 #[.agg #[.bool inv, .bool fold, .bool whole, .bool num, .int .i64 mx], .string p, .string t, .string u, .int .i64 c] w fun e w' => e = .returned (.bool true) ∧ Below w.heap.size w w' := by
  have htb : Hid (∀ w', Below w.heap.size w w' → TabP w') := fun w' b => htab.kept (below_kept b)
  have h0 : Hid (∀ o, Below w.heap.size w (w.alloc o)) := fun o => (Below.refl _ _).alloc (Nat.le_refl _) o
  clear htab
  go_enter Tryz.func6, Tryz.ntmps6
  go_wp2_with fail
  refine (awake_any _ (htb.out _ (h0.out _))).mono ?_
  rintro e w1 ⟨rfl, b1⟩
  have B1 : Hid (Blk w1 w.heap.size #[.bool inv, .bool fold, .bool whole, .bool num, .int .i64 mx] 23) := Blk.kept (Blk.new w _ _) (below_kept b1) (by simp)
  have b1 : Hid (Below w.heap.size w w1) := (h0.out _).trans (b1.mono (by simp))
  clear h0
  go_wp2_with fail
  refine (some2_any t 39 ht (by omega) _).mono ?_
  rintro e w2 ⟨⟨s, rfl, hs, hsx⟩, hw2⟩
  subst hw2
  clear hsx
  have hx1 : ¬ 9223372036854775807 < s.size + 1 := by omega
  obtain ⟨T, hT⟩ : ∃ T : ByteArray, Hid (s ++ ⟨#[10]⟩ = T) := ⟨_, rfl⟩
  have hTs : T.size = s.size + 1 := by rw [← hT.out, ba_size_app]; rfl
  have hTm : T.size ≤ 40 := by omega
  have hTp : 1 ≤ T.size := by omega
  have hTr : Hid (restL (bytesN T) = []) := by
    show _ = _
    rw [← hT.out, bytesN_appK]
    exact restL_end _
  go_wp2_with fail
  rw [hT.out]
  refine (some2_any u 200 hu (by omega) _).mono ?_
  rintro e w2 ⟨⟨m, rfl, hms, hsx⟩, hw2⟩
  subst hw2
  clear hsx
  go_wp2_with fail
  refine (pick_any c 34 hc1 hc2 (by omega) (by omega) _).mono ?_
  rintro e w3 ⟨⟨k, rfl, hk⟩, hw3⟩
  subst hw3
  clear hx1 hT hTs hs hc1 hc2 ht hu
  go_wp2_with fail
  refine (doubled_any T m k hTp hTm (by omega) (by omega) _).mono ?_
  rintro e w4 ⟨f, rfl, hf, k4⟩
  have hD : Hid (Dbl f (bytesN T) k (bytesN m)) := ⟨hf, by rw [bytesN_len]; exact hTp, by rw [bytesN_len]; exact hTm, by omega, by rw [bytesN_len]; omega, bytesN_lt T, bytesN_lt m⟩
  have hfs : f.size ≤ 2000 := by
    have h1 := hD.out.size
    rw [bytesN_len, bytesN_len] at h1
    omega
  have B4 : Hid (Blk _ _ _ _) := Blk.kept B1.out k4 (by simp)
  have b4 : Hid (Below w.heap.size w w4) := b1.out.trans (k4.below b1.out.size (by simp))
  clear hf k4 b1 B1
  have hpw : 2 ^ k ≤ 8589934592 := by show 2 ^ k ≤ 2 ^ 33; exact Nat.pow_le_pow_right (by decide) (by omega)
  obtain ⟨r1, hr1⟩ : ∃ r1, r1 = T.size * 2 ^ k := ⟨_, rfl⟩
  have hr1b : r1 ≤ 343597383680 := by rw [hr1]; exact Nat.mul_le_mul hTm hpw
  have hXl : Hid ((repL (bytesN T) (2 ^ k) ++ bytesN m).length = r1 + m.size) := by
    show _ = _
    rw [List.length_append, repL_len, bytesN_len, bytesN_len, hr1, Nat.mul_comm]
  have hXb : (repL (bytesN T) (2 ^ k) ++ bytesN m).length ≤ 1099511627776 := by rw [hXl.out]; omega
  have hXt : Hid (HasText f 71 (repL (bytesN T) (2 ^ k) ++ bytesN m)) := hD.out.text
  obtain ⟨r2, hr2⟩ : ∃ r2, r2 = (linesL (bytesN T)).length * 2 ^ k := ⟨_, rfl⟩
  have hlc := lines_count (bytesN T)
  have hlc2 := lines_count (bytesN m)
  rw [bytesN_len] at hlc hlc2
  have hr2b : r2 ≤ 41 * 8589934592 := by rw [hr2]; exact Nat.mul_le_mul (by omega) hpw
  have hXn : Hid (linesS (ptOf (repL (bytesN T) (2 ^ k) ++ bytesN m)) = r2 + (linesL (bytesN m)).length) := by
    show _ = _
    rw [← linesL_len hXb, linesL_app (restL_rep hTr.out _), List.length_append, lines_rep hTr.out, hr2, Nat.mul_comm]
  have hXc : Hid (∀ M : MP, cnt M inv (linesL (repL (bytesN T) (2 ^ k) ++ bytesN m)) = cnt M inv (linesL (bytesN T)) * 2 ^ k + cnt M inv (linesL (bytesN m))) := fun M => by
    rw [linesL_app (restL_rep hTr.out _), cnt_app, cnt_rep M inv hTr.out, Nat.mul_comm]
  have hsh : Hid (∀ w, Calls Tryz.prog 23 #[.string f] w fun e w' => e = .returned (.tuple #[.agg #[.int .i64 71, .int .i64 ((1 + m.size : Nat) : Int), .int .i64 ((r1 + m.size : Nat) : Int), .int .i64 ((r2 + (linesL (bytesN m)).length : Nat) : Int)], .int .i64 0]) ∧ Below w.heap.size w w') := fun w => by
    refine (shape_any f (by unfold maxLen; omega) w).mono ?_
    rintro e w' ho
    have := hD.out.shape ho hXb
    rw [hXl.out, hXn.out, bytesN_len] at this
    exact ⟨this, ho.below⟩
  have ht1 : Hid (∀ w, Calls _ _ _ w _) := fun w => times_to hr1 (by omega) (by omega) w
  have ht2 : Hid (∀ w, Calls _ _ _ w _) := fun w => times_to hr2 (by omega) (by omega) w
  have ht3 : Hid (∀ x : Nat, x ≤ 41 → ∀ w, Calls Tryz.prog 24 #[.int .i64 (x : Int), .int .i64 (k : Int)] w fun e w' => e = .returned (.int .i64 ((x * 2 ^ k : Nat) : Int)) ∧ w' = w) := fun x hx w => times_to rfl (by omega) (Nat.le_trans (Nat.mul_le_mul hx hpw) (by omega)) w
  have hx3 : Hid (∀ x : Nat, x ≤ 41 → x * 2 ^ k ≤ 41 * 8589934592) := fun x hx => Nat.mul_le_mul hx hpw
  clear hD hr1 hr2 hXl hXn hTr hpw
  go_wp2_with fail
  refine (linesOf_any T (by omega) _).mono ?_
  rintro e w5 ⟨v1, rfl, ls1, hL1, hls1⟩
  have hLH1 : Hid (LinesIn _ _ _ _) := hL1
  have B5 : Hid (Blk _ _ _ _) := Blk.kept B4.out hL1.k (by simp)
  have b5 : Hid (Below w.heap.size w w5) := b4.out.trans (hL1.k.below b4.out.size (by simp))
  clear b4 B4 hL1
  go_wp2_with fail
  refine (linesOf_any m (by omega) _).mono ?_
  rintro e w6 ⟨v2, rfl, ls2, hL2, hls2⟩
  have hLH2 : Hid (LinesIn _ _ _ _) := hL2
  have hLH1' : Hid (LinesIn w4 w6 v1 ls1) := ⟨row_stay hLH1.out.own hL2.k (fun _ _ => by simp), hLH1.out.k.trans hL2.k⟩
  have B6 : Hid (Blk _ _ _ _) := Blk.kept B5.out hL2.k (by simp)
  have b6 : Hid (Below w.heap.size w w6) := b5.out.trans (hL2.k.below b5.out.size (by simp))
  clear b5 B5 hL2 hLH1
  have hn1 : ls1.length = (linesL (bytesN T)).length := by rw [← hls1, List.length_map]
  have hn2 : ls2.length = (linesL (bytesN m)).length := by rw [← hls2, List.length_map]
  have hls1H : Hid (_ = _) := hls1
  have hls2H : Hid (_ = _) := hls2
  have n1b : ls1.length ≤ 41 := by omega
  have n2b : ls2.length ≤ 201 := by omega
  rw [← hn1] at ht2
  rw [← hn2] at hsh
  have hn1H : Hid (_ = _) := hn1
  have hn2H : Hid (_ = _) := hn2
  clear hn1 hn2 hls1 hls2 hlc hlc2
  obtain ⟨a1, c1, rfl⟩ : ∃ a1 c1, v1 = .slice a1 ls1.length c1 := by
    obtain ⟨xa, xk, xc, rfl⟩ := own_shape hLH1'.out.own
    rcases hLH1'.out.own.2 with ⟨h1, h2⟩ | ⟨g, cap, _, h1, _⟩
    · simp at h1; exact ⟨xa, xc, by rw [h2]; simp; omega⟩
    · simp at h1; exact ⟨xa, xc, by simp; omega⟩
  obtain ⟨a2, c2, rfl⟩ : ∃ a2 c2, v2 = .slice a2 ls2.length c2 := by
    obtain ⟨xa, xk, xc, rfl⟩ := own_shape hLH2.out.own
    rcases hLH2.out.own.2 with ⟨h1, h2⟩ | ⟨g, cap, _, h1, _⟩
    · simp at h1; exact ⟨xa, xc, by rw [h2]; simp; omega⟩
    · simp at h1; exact ⟨xa, xc, by simp; omega⟩
  go_wp2_with fail
  refine (hsh.out _).mono ?_
  rintro e w7 ⟨rfl, b7⟩
  have k7 := below_kept b7
  have B7 : Hid (∀ o, Blk (w7.alloc o) w.heap.size _ _) := fun o => Blk.kept (Blk.kept B6.out k7 (by simp)) ((Kept.refl [] w7).alloc o) (by simp)
  have b7 : Hid (∀ o, Below w.heap.size w (w7.alloc o)) := fun o => (b6.out.trans (b7.mono b6.out.size)).alloc (b6.out.trans (b7.mono b6.out.size)).size o
  have hM1 : Hid (∀ o, LinesIn w4 (w7.alloc o) (.slice a1 ls1.length c1) ls1) := fun o => ⟨row_stay hLH1'.out.own (k7.alloc o) (fun _ _ => by simp), hLH1'.out.k.trans (k7.alloc o)⟩
  have hM2 : Hid (∀ o, LinesIn w5 (w7.alloc o) (.slice a2 ls2.length c2) ls2) := fun o => ⟨row_stay hLH2.out.own (k7.alloc o) (fun _ _ => by simp), hLH2.out.k.trans (k7.alloc o)⟩
  clear hLH1' hLH2 k7 B6 b6 hsh b1
  go_wp2_with fail
  go_quiet (first
    | (go_at_call_of 24 (Value.int IntKind.i64 (T.size : Int)); exact Calls.quiet_of_same (ht1.out _))
    | (go_at_call 24; exact Calls.quiet_of_same (ht2.out _)))
  obtain ⟨W, hW⟩ : ∃ W, W = (w7.alloc (.cells #[.int .i64 71, .int .i64 (1 + (m.size : Int)), .int .i64 ((r1 : Int) + (m.size : Int)), .int .i64 ((r2 : Int) + (ls2.length : Int))] 47)).drewN nq := ⟨_, rfl⟩
  have B8 : Hid (Blk W w.heap.size #[.bool inv, .bool fold, .bool whole, .bool num, .int .i64 mx] 23) := by
    show Blk _ _ _ _; rw [hW]; exact Blk.kept (B7.out _) ((Kept.refl [] _).drewN _) (by simp)
  have b8 : Hid (Below w.heap.size w W) := by
    show Below _ _ _; rw [hW]; exact (b7.out _).trans (((Kept.refl [] _).drewN _).below (b7.out _).size (by simp))
  have M1 : Hid (LinesIn w4 W (.slice a1 ls1.length c1) ls1) := by
    show LinesIn _ _ _ _; rw [hW]; exact ⟨row_stay (hM1.out _).own ((Kept.refl [] _).drewN _) (fun _ _ => by simp), (hM1.out _).k.trans ((Kept.refl [] _).drewN _)⟩
  have M2 : Hid (LinesIn w5 W (.slice a2 ls2.length c2) ls2) := by
    show LinesIn _ _ _ _; rw [hW]; exact ⟨row_stay (hM2.out _).own ((Kept.refl [] _).drewN _) (fun _ _ => by simp), (hM2.out _).k.trans ((Kept.refl [] _).drewN _)⟩
  rw [← hW]
  clear hW hM1 hM2 B7 b7 ht1 ht2 hr1b hr2b
  obtain ⟨o0, o1, o2, o3, o4, ol⟩ := all5 B8.out
  rcases opt_cases mx p with ⟨x, hbad⟩ | ⟨hm0, r, hr⟩
  · have hc : Hid (∀ w, Calls _ _ _ w _) := fun w => count_opt (inv := inv) (fold := fold) (whole := whole) (num := num) hbad hp f w
    have hse : Hid (∀ v w, Calls _ _ _ w _) := fun v w => selected_bad (inv := inv) (fold := fold) (whole := whole) (num := num) hbad hp hm1 hm2 v w
    have hxb : (x != 0) = true := by simp [hbad.nz]
    have hx0 := hbad.nz
    clear hbad ht3 hx3 hXc hXt hXb hls1H hls2H hn1H hn2H M1 M2
    go_wp2_with fail
    refine (hc.out _).mono ?_
    rintro e w9 ⟨rfl, b9⟩
    have B9 : Hid (Blk _ _ _ _) := Blk.kept B8.out (below_kept b9) (by simp)
    have b9 : Hid (Below w.heap.size w w9) := b8.out.trans (b9.mono b8.out.size)
    clear b8 B8 o0 o1 o2 o3 o4 ol hc
    obtain ⟨o0, o1, o2, o3, o4, ol⟩ := all5 B9.out
    go_wp2_with fail
    refine (hse.out _ _).mono ?_
    rintro e w10 ⟨rfl, k10⟩
    have B10 : Hid (Blk _ _ _ _) := Blk.kept B9.out k10 (by simp)
    have b10 : Hid (Below w.heap.size w w10) := b9.out.trans (k10.below b9.out.size (by simp))
    clear b9 B9 o0 o1 o2 o3 o4 ol k10
    obtain ⟨o0, o1, o2, o3, o4, ol⟩ := all5 B10.out
    go_wp2_with fail
    refine (hse.out _ _).mono ?_
    rintro e w11 ⟨rfl, k11⟩
    have b11 : Hid (Below w.heap.size w w11) := b10.out.trans (k11.below b10.out.size (by simp))
    clear b10 B10 o0 o1 o2 o3 o4 ol k11 hse
    go_wp2
    go_ret
    exact ⟨rfl, b11.out⟩
  · have hc : Hid (∀ w, Calls _ _ _ w _) := fun w => hXt.out.count (inv := inv) (fold := fold) (whole := whole) (num := num) hXb (by unfold maxLen; omega) hr hm0 hm2 w
    rw [hXc.out] at hc
    have hy1 : cnt (machOf r fold whole) inv (linesL (bytesN T)) ≤ 41 := Nat.le_trans (cnt_le _ _ _) (by rw [← hn1H.out]; exact n1b)
    have hy2 : cnt (machOf r fold whole) inv (linesL (bytesN m)) ≤ 201 := Nat.le_trans (cnt_le _ _ _) (by rw [← hn2H.out]; exact n2b)
    have hs1 : Hid (∀ w, w.ownsRow w4.heap.size 9 1 (.slice a1 ls1.length c1) ls1.length (ls1.map Value.string) → Calls _ _ _ w _) := fun w h => selected_any (inv := inv) (fold := fold) (whole := whole) (num := num) hr hm0 hm2 (fun l hl => line_ok (by omega) hls1H.out hl) (by omega) w h
    have hs2 : Hid (∀ w, w.ownsRow w5.heap.size 9 1 (.slice a2 ls2.length c2) ls2.length (ls2.map Value.string) → Calls _ _ _ w _) := fun w h => selected_any (inv := inv) (fold := fold) (whole := whole) (num := num) hr hm0 hm2 (fun l hl => line_ok (by omega) hls2H.out hl) (by omega) w h
    have hp1 : Hid (∀ (B' : Nat) (vb : Value) (w : World), TabP w → w.ownsRow w4.heap.size 9 1 (.slice a1 ls1.length c1) ls1.length (ls1.map Value.string) → w.ownsRow B' 4 1 vb (ls1.map fun l => selB r fold whole l != inv).length ((ls1.map fun l => selB r fold whole l != inv).map Value.bool) → Calls Tryz.prog 21 #[.agg #[.bool inv, .bool fold, .bool whole, .bool num, .int .i64 0], .slice a1 ls1.length c1, vb, .int .i64 0] w fun e w' => (∃ S, e = .returned (.tuple #[.string S, .int .i64 ((cnt (machOf r fold whole) inv (linesL (bytesN T)) : Nat) : Int)])) ∧ Kept [] w w') := fun B' vb w h1 h2 h3 => by
      refine (printed_any (first := 0) (inv := inv) (fold := fold) (whole := whole) (num := num) (mx := 0) (Int.le_refl 0) (by omega) (fun l hl => (line_ok (by omega) hls1H.out hl).1) (by omega) (by rw [List.length_map]) (by omega) w h1 h2 h3).mono ?_
      rintro e w' ⟨rfl, k⟩
      refine ⟨⟨(stP num 0 0 ls1 (ls1.map fun l => selB r fold whole l != inv) ls1.length).1, ?_⟩, k⟩
      rw [stP_count (M := machOf r fold whole) (inv := inv) hls1H.out (fun q l hq => by rw [List.getElem?_map, hq, selSame hr]; rfl)]
    have hp2 : Hid (∀ (B' : Nat) (vb : Value) (w : World), TabP w → w.ownsRow w5.heap.size 9 1 (.slice a2 ls2.length c2) ls2.length (ls2.map Value.string) → w.ownsRow B' 4 1 vb (ls2.map fun l => selB r fold whole l != inv).length ((ls2.map fun l => selB r fold whole l != inv).map Value.bool) → Calls Tryz.prog 21 #[.agg #[.bool inv, .bool fold, .bool whole, .bool num, .int .i64 0], .slice a2 ls2.length c2, vb, .int .i64 0] w fun e w' => (∃ S, e = .returned (.tuple #[.string S, .int .i64 ((cnt (machOf r fold whole) inv (linesL (bytesN m)) : Nat) : Int)])) ∧ Kept [] w w') := fun B' vb w h1 h2 h3 => by
      refine (printed_any (first := 0) (inv := inv) (fold := fold) (whole := whole) (num := num) (mx := 0) (Int.le_refl 0) (by omega) (fun l hl => (line_ok (by omega) hls2H.out hl).1) (by omega) (by rw [List.length_map]) (by omega) w h1 h2 h3).mono ?_
      rintro e w' ⟨rfl, k⟩
      refine ⟨⟨(stP num 0 0 ls2 (ls2.map fun l => selB r fold whole l != inv) ls2.length).1, ?_⟩, k⟩
      rw [stP_count (M := machOf r fold whole) (inv := inv) hls2H.out (fun q l hq => by rw [List.getElem?_map, hq, selSame hr]; rfl)]
    have ht4 : Hid (∀ w, Calls _ _ _ w _) := ht3.out _ hy1
    have hyb := hx3.out _ hy1
    clear hr hls1H hls2H hn1H hn2H hXc hXt hXb ht3 hx3 hy1 hm1 hp
    generalize cnt (machOf r fold whole) inv (linesL (bytesN T)) = y1 at *
    generalize cnt (machOf r fold whole) inv (linesL (bytesN m)) = y2 at *
    generalize y1 * 2 ^ k = y3 at *
    have hcap : Hid ((0 < mx ∧ mx < (y3 : Int) + (y2 : Int) → capI mx (y3 + y2) = mx) ∧ (¬ (0 < mx ∧ mx < (y3 : Int) + (y2 : Int)) → capI mx (y3 + y2) = (y3 : Int) + (y2 : Int))) := ⟨fun h => if_pos (by rw [Int.natCast_add]; exact h), fun h => (if_neg (by rw [Int.natCast_add]; exact h)).trans (Int.natCast_add _ _)⟩
    generalize capI mx (y3 + y2) = CC at *
    go_wp2_with fail
    refine (hc.out _).mono ?_
    rintro e w9 ⟨rfl, b9⟩
    have k9 := below_kept b9
    have B9 : Hid (Blk _ _ _ _) := Blk.kept B8.out k9 (by simp)
    have b9 : Hid (Below w.heap.size w w9) := b8.out.trans (b9.mono b8.out.size)
    have M1' : Hid (LinesIn w4 w9 (.slice a1 ls1.length c1) ls1) := ⟨row_stay M1.out.own k9 (fun _ _ => by simp), M1.out.k.trans k9⟩
    have M2' : Hid (LinesIn w5 w9 (.slice a2 ls2.length c2) ls2) := ⟨row_stay M2.out.own k9 (fun _ _ => by simp), M2.out.k.trans k9⟩
    clear b8 B8 o0 o1 o2 o3 o4 ol hc M1 M2 k9
    obtain ⟨o0, o1, o2, o3, o4, ol⟩ := all5 B9.out
    go_wp2_with fail
    refine (hs1.out _ M1'.out.own).mono ?_
    rintro e w10 ⟨v10, rfl, hF⟩
    have F1 : Hid (FlagsIn _ _ _ _) := hF
    have B10 : Hid (Blk _ _ _ _) := Blk.kept B9.out hF.k (by simp)
    have b10 : Hid (Below w.heap.size w w10) := b9.out.trans (hF.k.below b9.out.size (by simp))
    have M1'' : Hid (LinesIn w4 w10 (.slice a1 ls1.length c1) ls1) := ⟨row_stay M1'.out.own hF.k (fun _ _ => by simp), M1'.out.k.trans hF.k⟩
    have M2'' : Hid (LinesIn w5 w10 (.slice a2 ls2.length c2) ls2) := ⟨row_stay M2'.out.own hF.k (fun _ _ => by simp), M2'.out.k.trans hF.k⟩
    clear b9 B9 o0 o1 o2 o3 o4 ol hs1 M1' M2' hF
    obtain ⟨o0, o1, o2, o3, o4, ol⟩ := all5 B10.out
    go_wp2_with fail
    refine (hs2.out _ M2''.out.own).mono ?_
    rintro e w11 ⟨v11, rfl, hF⟩
    have K11 : Hid (∀ o, Kept [] w10 (w11.alloc o)) := fun o => hF.k.alloc o
    have F2 : Hid (∀ o, FlagsIn w10 (w11.alloc o) v11 _) := fun o => hF.kept ((Kept.refl [] w11).alloc o)
    have F1' : Hid (∀ o, FlagsIn w9 (w11.alloc o) v10 _) := fun o => F1.out.kept (K11.out o)
    have B11 : Hid (∀ o, Blk (w11.alloc o) _ _ _) := fun o => Blk.kept B10.out (K11.out o) (by simp)
    have b11 : Hid (∀ o, Below w.heap.size w (w11.alloc o)) := fun o => b10.out.trans ((K11.out o).below b10.out.size (by simp))
    have N1 : Hid (∀ o, LinesIn w4 (w11.alloc o) (.slice a1 ls1.length c1) ls1) := fun o => ⟨row_stay M1''.out.own (K11.out o) (fun _ _ => by simp), M1''.out.k.trans (K11.out o)⟩
    have N2 : Hid (∀ o, LinesIn w5 (w11.alloc o) (.slice a2 ls2.length c2) ls2) := fun o => ⟨row_stay M2''.out.own (K11.out o) (fun _ _ => by simp), M2''.out.k.trans (K11.out o)⟩
    have B11' : Hid (Blk w11 _ _ _) := Blk.kept B10.out hF.k (by simp)
    clear b10 B10 o0 o1 o2 o3 o4 ol hs2 M1'' M2'' hF F1 K11
    obtain ⟨o0, o1, o2, o3, o4, ol⟩ := all5 B11'.out
    go_wp2_with fail
    refine (hp1.out _ v10 _ (htb.out _ (b11.out _)) (N1.out _).own (F1'.out _).own).mono ?_
    rintro e w12 ⟨⟨S1, rfl⟩, k12⟩
    have Q12 : Hid (Blk w12 w11.heap.size #[.bool inv, .bool fold, .bool whole, .bool num, .int .i64 0] 23) := Blk.kept (Blk.new w11 _ _) k12 (by simp)
    have B12 : Hid (Blk w12 _ _ _) := Blk.kept (B11.out _) k12 (by simp)
    have b12 : Hid (Below w.heap.size w w12) := (b11.out _).trans (k12.below (b11.out _).size (by simp))
    have N2' : Hid (LinesIn w5 w12 (.slice a2 ls2.length c2) ls2) := ⟨row_stay (N2.out _).own k12 (fun _ _ => by simp), (N2.out _).k.trans k12⟩
    have F2' : Hid (FlagsIn w10 w12 v11 _) := (F2.out _).kept k12
    clear B11 B11' b11 N1 N2 F1' F2 k12 o0 o1 o2 o3 o4 ol hp1
    obtain ⟨o0, o1, o2, o3, o4, ol⟩ := all5 Q12.out
    go_wp2_with fail
    refine (hp2.out _ v11 _ (htb.out _ b12.out) N2'.out.own F2'.out.own).mono ?_
    rintro e w13 ⟨⟨S2, rfl⟩, k13⟩
    have B13 : Hid (Blk w13 w.heap.size #[.bool inv, .bool fold, .bool whole, .bool num, .int .i64 mx] 23) := Blk.kept B12.out k13 (by simp)
    have b13 : Hid (Below w.heap.size w w13) := b12.out.trans (k13.below b12.out.size (by simp))
    clear Q12 B12 b12 N2' F2' k13 o0 o1 o2 o3 o4 ol hp2
    go_wp2_with fail
    refine (ht4.out _).mono ?_
    rintro e w14 ⟨rfl, h14⟩
    have h14' := h14.symm
    subst h14'
    obtain ⟨o0, o1, o2, o3, o4, ol⟩ := all5 B13.out
    clear ht4 hTm hTp
    by_cases h1 : 0 < mx
    · by_cases h2 : mx < (y3 : Int) + (y2 : Int)
      · obtain rfl : CC = mx := hcap.out.1 ⟨h1, h2⟩
        clear hcap
        go_wp2
        go_ret
        exact ⟨rfl, b13.out⟩
      · obtain rfl : CC = (y3 : Int) + (y2 : Int) := hcap.out.2 (fun h => h2 h.2)
        clear hcap
        go_wp2
        go_ret
        exact ⟨rfl, b13.out⟩
    · obtain rfl : CC = (y3 : Int) + (y2 : Int) := hcap.out.2 (fun h => h1 h.1)
      clear hcap
      go_wp2
      go_ret
      exact ⟨rfl, b13.out⟩

end Go.Proofs.YtgifhgnccmnbiabGreatDoor

set_option linter.unusedVariables false
set_option linter.unusedSimpArgs false
namespace Go.Proofs.YtgifhgnccmnbiabGreatDoor

theorem cutX_shift (A B : List Nat) (o n : Nat) : cutX (A ++ B) (A.length + o) (A.length + o + n) 0 = cutX B o (o + n) 0 := by
  rw [cutX_whole, cutX_whole, show A.length + o + n = A.length + (o + n) by omega, List.take_length_add_append, List.drop_append, List.drop_of_length_le (by omega), List.nil_append, Nat.add_sub_cancel_left]
/-- What printed makes of a text's lines, the first of which has the number first + 1. -/
theorem stP_behind {num inv : Bool} {mx : Int} (h0 : 0 ≤ mx) {M : MP} {A B : List Nat} {first : Nat} {ls : List ByteArray} {bs : List Bool} (hl : ls.map bytesN = linesL B) (hb : ∀ (q : Nat) (l : ByteArray), ls[q]? = some l → bs[q]? = some (selL M inv (bytesN l))) :
    ∀ q, q ≤ ls.length → stP num mx first ls bs q = (prS num (A ++ B) (takeM mx (selE (selL M inv) A.length first ((linesL B).take q))), (takeM mx (selE (selL M inv) A.length first ((linesL B).take q))).length)
  | 0, _ => by
    have e : takeM mx (selE (selL M inv) A.length first ((linesL B).take 0)) = [] := by
      rw [List.take_zero]
      unfold takeM selE
      split
      · rfl
      · rw [List.take_nil]
    rw [e]; rfl
  | q + 1, hq => by
    have ih := stP_behind h0 (num := num) (M := M) (A := A) (first := first) hl hb q (by omega)
    obtain ⟨l, hx⟩ : ∃ l, ls[q]? = some l := ⟨_, List.getElem?_eq_getElem (by omega)⟩
    have hy := hb q l hx
    have hX : (linesL B)[q]? = some (bytesN l) := by rw [← hl, List.getElem?_map, hx]; rfl
    have hcut := cut_line hX
    rw [← cutX_shift A] at hcut
    have hlt : ((linesL B).take q).length = q := by
      rw [List.length_take, ← hl, List.length_map]; omega
    have hsel : selE (selL M inv) A.length first ((linesL B).take (q + 1)) = selE (selL M inv) A.length first ((linesL B).take q) ++ (if selL M inv (bytesN l) = true then [⟨first + q + 1, A.length + offL ((linesL B).take q), A.length + offL ((linesL B).take q) + (bytesN l).length⟩] else []) := by
      rw [List.take_add_one, hX, selE_app]
      simp only [Option.toList_some, selE, hlt]
    have hst : stP num mx first ls bs (q + 1) = stepPr num mx (stP num mx first ls bs q) (first + q + 1) l (selL M inv (bytesN l)) := by
      show stepPr _ _ _ _ (ls.getD q ⟨#[]⟩) (bs.getD q false) = _
      simp only [List.getD, hx, hy, Option.getD_some]
    rw [hst, ih, hsel]
    clear hst ih hsel hlt hX hy hx
    generalize selE (selL M inv) A.length first ((linesL B).take q) = E at *
    generalize A.length + offL ((linesL B).take q) = o at *
    generalize A ++ B = X at *
    unfold stepPr
    by_cases hs : selL M inv (bytesN l) = true
    · rw [if_pos hs]
      have hln : lnB num X ⟨first + q + 1, o, o + (bytesN l).length⟩ = hdB num (first + q + 1) ++ l ++ ⟨#[10]⟩ := by
        unfold lnB
        simp only []
        rw [hcut]
        congr 2
        exact bytesB_N2 l
      by_cases hm : mx = 0
      · have e1 : ∀ E', takeM mx E' = E' := fun E' => if_pos hm
        rw [if_pos ⟨hs, Or.inl hm⟩, e1, e1, prS_snoc, hln, List.length_append]
        unfold hdB
        cases num
        · simp only [Bool.false_eq_true, if_false, ByteArray.append_assoc]
          rw [show (⟨#[]⟩ : ByteArray) = ByteArray.empty from rfl, ByteArray.empty_append]; rfl
        · simp only [if_true, ByteArray.append_assoc]; rfl
      · have e1 : ∀ E', takeM mx E' = E'.take mx.toNat := fun E' => if_neg hm
        by_cases hlt : E.length < mx.toNat
        · have e2 : E.take mx.toNat = E := List.take_of_length_le (by omega)
          have e3 : (E ++ [(⟨first + q + 1, o, o + (bytesN l).length⟩ : FL)]).take mx.toNat = E ++ [⟨first + q + 1, o, o + (bytesN l).length⟩] := List.take_of_length_le (by rw [List.length_append]; simp; omega)
          rw [e1, e1, e2, e3, if_pos ⟨hs, Or.inr (by show (E.length : Int) < mx; omega)⟩, prS_snoc, hln, List.length_append]
          unfold hdB
          cases num
          · simp only [Bool.false_eq_true, if_false, ByteArray.append_assoc]
            rw [show (⟨#[]⟩ : ByteArray) = ByteArray.empty from rfl, ByteArray.empty_append]; rfl
          · simp only [if_true, ByteArray.append_assoc]; rfl
        · rw [e1, e1, List.take_append_of_le_length (by omega)]
          exact if_neg (fun hc => by
            rcases hc.2 with h | h
            · exact hm h
            · have h' : ((E.take mx.toNat).length : Int) < mx := h
              rw [List.length_take] at h'
              omega)
    · rw [if_neg hs, List.append_nil, if_neg (fun hc => hs hc.1)]
/-- Behind a text whose lines all end, and of which none is selected. -/
theorem flX_behind {M : MP} {inv : Bool} {A : List Nat} (hr : restL A = []) (h0 : cnt M inv (linesL A) = 0) (B : List Nat) : flX M inv (A ++ B) = selE (selL M inv) A.length (linesL A).length (linesL B) := by
  have ho : offL (linesL A) = A.length := by rw [← joinN_off, joinN_lines, if_pos hr]
  unfold flX
  rw [linesL_app hr, selE_app, Nat.zero_add, Nat.zero_add, ho, List.eq_nil_of_length_eq_zero (show (selE (selL M inv) 0 0 (linesL A)).length = 0 by rw [selE_len]; exact h0), List.nil_append]
/-- The first line of a text that begins with another one, all of whose lines end. -/
theorem flX_front {M : MP} {inv : Bool} {A : List Nat} (hr : restL A = []) (h0 : 0 < cnt M inv (linesL A)) (B : List Nat) : (flX M inv (A ++ B)).take 1 = (flX M inv A).take 1 := by
  unfold flX
  rw [linesL_app hr, selE_app, List.take_append_of_le_length (by rw [selE_len]; exact h0)]
theorem prS_front {num : Bool} {A B : List Nat} {M : MP} {inv : Bool} {n : Nat} : prS num (A ++ B) ((flX M inv A).take n) = prS num A ((flX M inv A).take n) := by
  have key : ∀ l : List FL, (∀ x, x ∈ l → x.til ≤ A.length) → ∀ a, l.foldl (fun a x => a ++ lnB num (A ++ B) x) a = l.foldl (fun a x => a ++ lnB num A x) a := by
    intro l
    induction l with
    | nil => intro _ a; rfl
    | cons x l ih =>
      intro h a
      have e : lnB num (A ++ B) x = lnB num A x := by
        unfold lnB
        rw [cutX_whole, cutX_whole, List.take_append_of_le_length (h x (List.mem_cons_self ..))]
      rw [List.foldl_cons, List.foldl_cons, e]
      exact ih (fun y hy => h y (List.mem_cons_of_mem _ hy)) _
  exact key _ (fun x hx => (flX_mem (List.mem_of_mem_take hx)).2.2.2) _

end Go.Proofs.YtgifhgnccmnbiabGreatDoor

set_option linter.unusedVariables false
set_option linter.unusedSimpArgs false
namespace Go.Proofs.YtgifhgnccmnbiabGreatDoor
open Go.RowKit Go.IntWalk

theorem rep_front (tx : List Nat) {n : Nat} (h : 1 ≤ n) : repL tx n = tx ++ repL tx (n - 1) := by
  have := repL_add tx 1 (n - 1)
  rw [show 1 + (n - 1) = n by omega] at this
  rw [this]
  show ([] ++ tx) ++ _ = _
  rw [List.nil_append]
theorem one_small {num : Bool} {tx : List Nat} {M : MP} {inv : Bool} (h : tx.length ≤ 40) : (prS num tx (takeM 1 (flX M inv tx))).size ≤ 2000 := by
  have e : takeM 1 (flX M inv tx) = (flX M inv tx).take 1 := if_neg (by decide)
  rw [e]
  cases hx : flX M inv tx with
  | nil => rw [List.take_nil]; show 0 ≤ 2000; omega
  | cons x l =>
    have hm := flX_mem (M := M) (inv := inv) (X := tx) (x := x) (by rw [hx]; exact List.mem_cons_self ..)
    have hz := (lnB_size (num := num) hm.2.2.1 hm.2.2.2).1
    have hi : (itoaB x.num).size ≤ 21 := itoaB_size (by omega)
    have hh : (hdB num x.num).size ≤ 30 := by
      unfold hdB
      split
      · rw [ByteArray.size_append]; show _ + 1 ≤ 30; omega
      · show 0 ≤ 30; omega
    rw [prS_sum]
    show (([x] : List FL).map fun x => (lnB num tx x).size).sum ≤ 2000
    simp only [List.map_cons, List.map_nil, List.sum_cons, List.sum_nil]
    omega

set_option maxHeartbeats 4000000 in
set_option maxRecDepth 100000 in
theorem far_law (inv fold whole num : Bool) (mx : Int) (p t u : ByteArray) (c : Int) (w : World) (htab : TabP w) (hm1 : -9223372036854775808 ≤ mx) (hm2 : mx ≤ 9223372036854775807) (hp : p.size ≤ maxLen) (ht : t.size ≤ maxLen) (hu : u.size ≤ maxLen) (hc1 : -9223372036854775808 ≤ c) (hc2 : c ≤ 9223372036854775807) :
    Calls Tryz.prog 7 #[.agg #[.bool inv, .bool fold, .bool whole, .bool num, .int .i64 mx], .string p, .string t, .string u, .int .i64 c] w fun e w' => e = .returned (.bool true) ∧ Below w.heap.size w w' := by
  have htb : Hid (∀ w', Below w.heap.size w w' → TabP w') := fun w' b => htab.kept (below_kept b)
  have h0 : Hid (∀ o, Below w.heap.size w (w.alloc o)) := fun o => (Below.refl _ _).alloc (Nat.le_refl _) o
  clear htab
  go_enter Tryz.func7, Tryz.ntmps7
  go_wp2_with fail
  refine (awake_any _ (htb.out _ (h0.out _))).mono ?_
  rintro e w1 ⟨rfl, b1⟩
  have B1 : Hid (Blk w1 w.heap.size #[.bool inv, .bool fold, .bool whole, .bool num, .int .i64 mx] 23) := Blk.kept (Blk.new w _ _) (below_kept b1) (by simp)
  have b1 : Hid (Below w.heap.size w w1) := (h0.out _).trans (b1.mono (by simp))
  clear h0
  go_wp2_with fail
  refine (some2_any t 39 ht (by omega) _).mono ?_
  rintro e w2 ⟨⟨s, rfl, hs, hsx⟩, hw2⟩
  subst hw2
  clear hsx
  have hx1 : ¬ 9223372036854775807 < s.size + 1 := by omega
  obtain ⟨T, hT⟩ : ∃ T : ByteArray, Hid (s ++ ⟨#[10]⟩ = T) := ⟨_, rfl⟩
  have hTs : T.size = s.size + 1 := by rw [← hT.out, ba_size_app]; rfl
  have hTm : T.size ≤ 40 := by omega
  have hTp : 1 ≤ T.size := by omega
  have hTr : Hid (restL (bytesN T) = []) := by
    show _ = _
    rw [← hT.out, bytesN_appK]
    exact restL_end _
  go_wp2_with fail
  rw [hT.out]
  refine (some2_any u 200 hu (by omega) _).mono ?_
  rintro e w2 ⟨⟨m, rfl, hms, hsx⟩, hw2⟩
  subst hw2
  clear hsx
  go_wp2_with fail
  refine (pick_any c 34 hc1 hc2 (by omega) (by omega) _).mono ?_
  rintro e w3 ⟨⟨k, rfl, hk⟩, hw3⟩
  subst hw3
  clear hx1 hT hTs hs hc1 hc2 ht hu
  go_wp2_with fail
  refine (doubled_any T m k hTp hTm (by omega) (by omega) _).mono ?_
  rintro e w4 ⟨f, rfl, hf, k4⟩
  have hD : Hid (Dbl f (bytesN T) k (bytesN m)) := ⟨hf, by rw [bytesN_len]; exact hTp, by rw [bytesN_len]; exact hTm, by omega, by rw [bytesN_len]; omega, bytesN_lt T, bytesN_lt m⟩
  have hfs : f.size ≤ 2000 := by
    have h1 := hD.out.size
    rw [bytesN_len, bytesN_len] at h1
    omega
  have B4 : Hid (Blk _ _ _ _) := Blk.kept B1.out k4 (by simp)
  have b4 : Hid (Below w.heap.size w w4) := b1.out.trans (k4.below b1.out.size (by simp))
  clear hf k4 b1 B1
  have hpw : 2 ^ k ≤ 8589934592 := by show 2 ^ k ≤ 2 ^ 33; exact Nat.pow_le_pow_right (by decide) (by omega)
  obtain ⟨r1, hr1⟩ : ∃ r1, r1 = T.size * 2 ^ k := ⟨_, rfl⟩
  have hr1b : r1 ≤ 343597383680 := by rw [hr1]; exact Nat.mul_le_mul hTm hpw
  have hXl : Hid ((repL (bytesN T) (2 ^ k) ++ bytesN m).length = r1 + m.size) := by
    show _ = _
    rw [List.length_append, repL_len, bytesN_len, bytesN_len, hr1, Nat.mul_comm]
  have hXb : (repL (bytesN T) (2 ^ k) ++ bytesN m).length ≤ 1099511627776 := by rw [hXl.out]; omega
  have hXt : Hid (HasText f 71 (repL (bytesN T) (2 ^ k) ++ bytesN m)) := hD.out.text
  obtain ⟨r2, hr2⟩ : ∃ r2, r2 = (linesL (bytesN T)).length * 2 ^ k := ⟨_, rfl⟩
  have hlc := lines_count (bytesN T)
  have hlc2 := lines_count (bytesN m)
  rw [bytesN_len] at hlc hlc2
  have hr2b : r2 ≤ 41 * 8589934592 := by rw [hr2]; exact Nat.mul_le_mul (by omega) hpw
  have hXn : Hid (linesS (ptOf (repL (bytesN T) (2 ^ k) ++ bytesN m)) = r2 + (linesL (bytesN m)).length) := by
    show _ = _
    rw [← linesL_len hXb, linesL_app (restL_rep hTr.out _), List.length_append, lines_rep hTr.out, hr2, Nat.mul_comm]
  have hXc : Hid (∀ M : MP, cnt M inv (linesL (repL (bytesN T) (2 ^ k) ++ bytesN m)) = cnt M inv (linesL (bytesN T)) * 2 ^ k + cnt M inv (linesL (bytesN m))) := fun M => by
    rw [linesL_app (restL_rep hTr.out _), cnt_app, cnt_rep M inv hTr.out, Nat.mul_comm]
  have hTrH : Hid (restL (bytesN T) = []) := hTr.out
  have hk1 : Hid (1 ≤ 2 ^ k) := Nat.one_le_two_pow
  have ht2 : Hid (∀ w, Calls _ _ _ w _) := fun w => times_to hr2 (by omega) (by omega) w
  have hr2H : Hid (_ = _) := hr2
  clear hD hr1 hr2 hXl hXn hTr hpw hr1b
  go_wp2_with fail
  refine (linesOf_any T (by omega) _).mono ?_
  rintro e w5 ⟨v1, rfl, ls1, hL1, hls1⟩
  have hLH1 : Hid (LinesIn _ _ _ _) := hL1
  have B5 : Hid (Blk _ _ _ _) := Blk.kept B4.out hL1.k (by simp)
  have b5 : Hid (Below w.heap.size w w5) := b4.out.trans (hL1.k.below b4.out.size (by simp))
  clear b4 B4 hL1
  go_wp2_with fail
  refine (linesOf_any m (by omega) _).mono ?_
  rintro e w6 ⟨v2, rfl, ls2, hL2, hls2⟩
  have hLH2 : Hid (LinesIn _ _ _ _) := hL2
  have hLH1' : Hid (LinesIn w4 w6 v1 ls1) := ⟨row_stay hLH1.out.own hL2.k (fun _ _ => by simp), hLH1.out.k.trans hL2.k⟩
  have B6 : Hid (Blk _ _ _ _) := Blk.kept B5.out hL2.k (by simp)
  have b6 : Hid (Below w.heap.size w w6) := b5.out.trans (hL2.k.below b5.out.size (by simp))
  clear b5 B5 hL2 hLH1
  have hn1 : ls1.length = (linesL (bytesN T)).length := by rw [← hls1, List.length_map]
  have hn2 : ls2.length = (linesL (bytesN m)).length := by rw [← hls2, List.length_map]
  have hls1H : Hid (_ = _) := hls1
  have hls2H : Hid (_ = _) := hls2
  have n1b : ls1.length ≤ 41 := by omega
  have n2b : ls2.length ≤ 201 := by omega
  rw [← hn1] at ht2
  have hn1H : Hid (_ = _) := hn1
  have hn2H : Hid (_ = _) := hn2
  clear hn1 hn2 hls1 hls2 hlc hlc2
  obtain ⟨a1, c1, rfl⟩ : ∃ a1 c1, v1 = .slice a1 ls1.length c1 := by
    obtain ⟨xa, xk, xc, rfl⟩ := own_shape hLH1'.out.own
    rcases hLH1'.out.own.2 with ⟨h1, h2⟩ | ⟨g, cap, _, h1, _⟩
    · simp at h1; exact ⟨xa, xc, by rw [h2]; simp; omega⟩
    · simp at h1; exact ⟨xa, xc, by simp; omega⟩
  obtain ⟨a2, c2, rfl⟩ : ∃ a2 c2, v2 = .slice a2 ls2.length c2 := by
    obtain ⟨xa, xk, xc, rfl⟩ := own_shape hLH2.out.own
    rcases hLH2.out.own.2 with ⟨h1, h2⟩ | ⟨g, cap, _, h1, _⟩
    · simp at h1; exact ⟨xa, xc, by rw [h2]; simp; omega⟩
    · simp at h1; exact ⟨xa, xc, by simp; omega⟩
  obtain ⟨o0, o1, o2, o3, o4, ol⟩ := all5 B6.out
  rcases opt_cases mx p with ⟨x, hbad⟩ | ⟨hm0, r, hr⟩
  · have hc : Hid (∀ w, Calls _ _ _ w _) := fun w => grep_opt (inv := inv) (fold := fold) (whole := whole) (num := num) hbad hp f w
    have hse : Hid (∀ v w, Calls _ _ _ w _) := fun v w => selected_bad (inv := inv) (fold := fold) (whole := whole) (num := num) hbad hp hm1 hm2 v w
    have hxb : (x != 0) = true := by simp [hbad.nz]
    have hx0 := hbad.nz
    clear hbad hXc hXt hXb hls1H hls2H hn1H hn2H hLH1' hLH2 hr2H hk1 hTrH ht2
    go_wp2_with fail
    refine (hc.out _).mono ?_
    rintro e w9 ⟨rfl, b9⟩
    have B9 : Hid (Blk _ _ _ _) := Blk.kept B6.out (below_kept b9) (by simp)
    have b9 : Hid (Below w.heap.size w w9) := b6.out.trans (b9.mono b6.out.size)
    clear b6 B6 o0 o1 o2 o3 o4 ol hc
    obtain ⟨o0, o1, o2, o3, o4, ol⟩ := all5 B9.out
    go_wp2_with fail
    refine (hse.out _ _).mono ?_
    rintro e w10 ⟨rfl, k10⟩
    have B10 : Hid (Blk _ _ _ _) := Blk.kept B9.out k10 (by simp)
    have b10 : Hid (Below w.heap.size w w10) := b9.out.trans (k10.below b9.out.size (by simp))
    clear b9 B9 o0 o1 o2 o3 o4 ol k10
    obtain ⟨o0, o1, o2, o3, o4, ol⟩ := all5 B10.out
    go_wp2_with fail
    refine (hse.out _ _).mono ?_
    rintro e w11 ⟨rfl, k11⟩
    have b11 : Hid (Below w.heap.size w w11) := b10.out.trans (k11.below b10.out.size (by simp))
    clear b10 B10 o0 o1 o2 o3 o4 ol k11 hse
    go_wp2
    go_ret
    exact ⟨rfl, b11.out⟩
  · have hA : restL (repL (bytesN T) (2 ^ k)) = [] := restL_rep hTrH.out _
    have hAl : (linesL (repL (bytesN T) (2 ^ k))).length = r2 := by rw [lines_rep hTrH.out, hr2H.out, Nat.mul_comm]
    have hg : Hid (∀ w, TabP w → Calls _ _ _ w _) := fun w ht => hXt.out.grep (inv := inv) (fold := fold) (whole := whole) (num := num) hXb (by unfold maxLen; omega) hr hm0 hm2 w ht
    have hg1 : Hid (∀ w, TabP w → Calls _ _ _ w _) := fun w ht => hXt.out.grep (inv := inv) (fold := fold) (whole := whole) (num := num) (mx := 1) hXb (by unfold maxLen; omega) hr (by omega) (by omega) w ht
    rw [← (takeM_flC hm0 _).1] at hg
    rw [← (takeM_flC (by omega : (0 : Int) ≤ 1) _).1] at hg1
    obtain ⟨bs1, hbs1⟩ : ∃ bs1, bs1 = ls1.map fun l => selB r fold whole l != inv := ⟨_, rfl⟩
    obtain ⟨bs2, hbs2⟩ : ∃ bs2, bs2 = ls2.map fun l => selB r fold whole l != inv := ⟨_, rfl⟩
    have hbl1 : bs1.length = ls1.length := by rw [hbs1, List.length_map]
    have hbl2 : bs2.length = ls2.length := by rw [hbs2, List.length_map]
    have hbq1 : ∀ (q : Nat) (l : ByteArray), ls1[q]? = some l → bs1[q]? = some (selL (machOf r fold whole) inv (bytesN l)) := fun q l hq => by rw [hbs1, List.getElem?_map, hq, selSame hr]; rfl
    have hbq2 : ∀ (q : Nat) (l : ByteArray), ls2[q]? = some l → bs2[q]? = some (selL (machOf r fold whole) inv (bytesN l)) := fun q l hq => by rw [hbs2, List.getElem?_map, hq, selSame hr]; rfl
    have hs1 : Hid (∀ w, w.ownsRow w4.heap.size 9 1 (.slice a1 ls1.length c1) ls1.length (ls1.map Value.string) → Calls _ _ _ w _) := fun w h => selected_any (inv := inv) (fold := fold) (whole := whole) (num := num) hr hm0 hm2 (fun l hl => line_ok (by omega) hls1H.out hl) (by omega) w h
    have hs2 : Hid (∀ w, w.ownsRow w5.heap.size 9 1 (.slice a2 ls2.length c2) ls2.length (ls2.map Value.string) → Calls _ _ _ w _) := fun w h => selected_any (inv := inv) (fold := fold) (whole := whole) (num := num) hr hm0 hm2 (fun l hl => line_ok (by omega) hls2H.out hl) (by omega) w h
    rw [← hbs1] at hs1
    rw [← hbs2] at hs2
    have hi1 : ∀ l, l ∈ ls1 → l.size ≤ 600 := fun l hl => (line_ok (by omega) hls1H.out hl).1
    have hi2 : ∀ l, l ∈ ls2 → l.size ≤ 600 := fun l hl => (line_ok (by omega) hls2H.out hl).1
    have hp0 : Hid (∀ (B' : Nat) (vb : Value) (w : World), TabP w → w.ownsRow w4.heap.size 9 1 (.slice a1 ls1.length c1) ls1.length (ls1.map Value.string) → w.ownsRow B' 4 1 vb bs1.length (bs1.map Value.bool) → Calls Tryz.prog 21 #[.agg #[.bool inv, .bool fold, .bool whole, .bool num, .int .i64 0], .slice a1 ls1.length c1, vb, .int .i64 0] w _) := fun B' vb w h1 h2 h3 => printed_any (first := 0) (mx := 0) (Int.le_refl 0) (by omega) hi1 (by omega) hbl1 (by omega) w h1 h2 h3
    have hp1 : Hid (∀ (B' : Nat) (vb : Value) (w : World), TabP w → w.ownsRow w4.heap.size 9 1 (.slice a1 ls1.length c1) ls1.length (ls1.map Value.string) → w.ownsRow B' 4 1 vb bs1.length (bs1.map Value.bool) → Calls Tryz.prog 21 #[.agg #[.bool inv, .bool fold, .bool whole, .bool num, .int .i64 1], .slice a1 ls1.length c1, vb, .int .i64 0] w _) := fun B' vb w h1 h2 h3 => printed_any (first := 0) (mx := 1) (by omega) (by omega) hi1 (by omega) hbl1 (by omega) w h1 h2 h3
    have hp2 : Hid (∀ (B' : Nat) (vb : Value) (w : World), TabP w → w.ownsRow w5.heap.size 9 1 (.slice a2 ls2.length c2) ls2.length (ls2.map Value.string) → w.ownsRow B' 4 1 vb bs2.length (bs2.map Value.bool) → Calls Tryz.prog 21 #[.agg #[.bool inv, .bool fold, .bool whole, .bool num, .int .i64 mx], .slice a2 ls2.length c2, vb, .int .i64 (r2 : Int)] w _) := fun B' vb w h1 h2 h3 => printed_any (first := r2) hm0 hm2 hi2 (by omega) hbl2 (by omega) w h1 h2 h3
    have q0 := stP_count (num := num) (M := machOf r fold whole) (inv := inv) hls1H.out hbq1
    rw [q0] at hp0
    have q1 : stP num 1 0 ls1 bs1 ls1.length = (prS num (bytesN T) (takeM 1 (flX (machOf r fold whole) inv (bytesN T))), (takeM 1 (flX (machOf r fold whole) inv (bytesN T))).length) := by
      have := stP_lines (num := num) (M := machOf r fold whole) (inv := inv) (mx := 1) (by omega) hls1H.out hbq1 ls1.length (Nat.le_refl _)
      rw [List.take_of_length_le (by rw [← hls1H.out, List.length_map]; exact Nat.le_refl _)] at this
      exact this
    have q2 := stP_behind (num := num) (M := machOf r fold whole) (inv := inv) (mx := mx) hm0 (A := repL (bytesN T) (2 ^ k)) (first := r2) hls2H.out hbq2 ls2.length (Nat.le_refl _)
    rw [List.take_of_length_le (by rw [← hls2H.out, List.length_map]; exact Nat.le_refl _)] at q2
    have hz0 : Hid (cnt (machOf r fold whole) inv (linesL (bytesN T)) = 0 → flX (machOf r fold whole) inv (repL (bytesN T) (2 ^ k) ++ bytesN m) = selE (selL (machOf r fold whole) inv) (repL (bytesN T) (2 ^ k)).length r2 (linesL (bytesN m))) := fun h => by
      rw [flX_behind hA (by rw [cnt_rep _ _ hTrH.out, h, Nat.mul_zero]), hAl]
    have hz1 : Hid (0 < cnt (machOf r fold whole) inv (linesL (bytesN T)) → grepR (outP num (repL (bytesN T) (2 ^ k) ++ bytesN m) (takeM 1 (flX (machOf r fold whole) inv (repL (bytesN T) (2 ^ k) ++ bytesN m)))) = (prS num (bytesN T) (takeM 1 (flX (machOf r fold whole) inv (bytesN T))), 0)) := fun h => by
      have e1 : ∀ E, takeM 1 E = E.take 1 := fun E => if_neg (by decide)
      have hsm := one_small (num := num) (M := machOf r fold whole) (inv := inv) (tx := bytesN T) (by rw [bytesN_len]; exact hTm)
      rw [e1] at hsm ⊢
      rw [e1, rep_front _ hk1.out, List.append_assoc, flX_front hTrH.out h]
      rw [← prS_front (B := repL (bytesN T) (2 ^ k - 1) ++ bytesN m)] at hsm ⊢
      rw [outP_ok hsm]
      rfl
    have hz2 : Hid (cnt (machOf r fold whole) inv (linesL (bytesN T)) = 0 → (2000 < (stP num mx r2 ls2 bs2 ls2.length).1.size → grepR (outP num (repL (bytesN T) (2 ^ k) ++ bytesN m) (takeM mx (flX (machOf r fold whole) inv (repL (bytesN T) (2 ^ k) ++ bytesN m)))) = (⟨#[]⟩, 7)) ∧ ((stP num mx r2 ls2 bs2 ls2.length).1.size ≤ 2000 → grepR (outP num (repL (bytesN T) (2 ^ k) ++ bytesN m) (takeM mx (flX (machOf r fold whole) inv (repL (bytesN T) (2 ^ k) ++ bytesN m)))) = ((stP num mx r2 ls2 bs2 ls2.length).1, 0))) := fun h => by
      rw [q2, hz0.out h]
      exact ⟨fun h => by rw [outP_no h]; rfl, fun h => by rw [outP_ok h]; rfl⟩
    rw [q1] at hp1
    simp only [] at hp1
    clear q0 q1 q2 hz0 hbs1 hbs2 hbq1 hbq2 hi1 hi2 hA hAl hr hr2H hXc hXt hXb hls1H hls2H hn1H hn2H hTrH hk1 hm1 hp
    obtain ⟨G1, hG1⟩ : ∃ G, grepR (outP num (repL (bytesN T) (2 ^ k) ++ bytesN m) (takeM 1 (flX (machOf r fold whole) inv (repL (bytesN T) (2 ^ k) ++ bytesN m)))) = G := ⟨_, rfl⟩
    rw [hG1] at hg1 hz1
    clear hG1
    obtain ⟨G0, hG0⟩ : ∃ G, grepR (outP num (repL (bytesN T) (2 ^ k) ++ bytesN m) (takeM mx (flX (machOf r fold whole) inv (repL (bytesN T) (2 ^ k) ++ bytesN m)))) = G := ⟨_, rfl⟩
    rw [hG0] at hg hz2
    clear hG0
    obtain ⟨R1, hR1⟩ : ∃ G, prS num (bytesN T) (takeM 1 (flX (machOf r fold whole) inv (bytesN T))) = G := ⟨_, rfl⟩
    rw [hR1] at hz1 hp1
    clear hR1
    obtain ⟨n1, hn1⟩ : ∃ G, (takeM 1 (flX (machOf r fold whole) inv (bytesN T))).length = G := ⟨_, rfl⟩
    rw [hn1] at hp1
    clear hn1
    obtain ⟨y1, hy1⟩ : ∃ G, cnt (machOf r fold whole) inv (linesL (bytesN T)) = G := ⟨_, rfl⟩
    rw [hy1] at hp0 hz1 hz2
    clear hy1
    obtain ⟨R2, hR2⟩ : ∃ G, (stP num mx r2 ls2 bs2 ls2.length).1 = G := ⟨_, rfl⟩
    rw [hR2] at hp2 hz2
    clear hR2
    obtain ⟨n2, hn2⟩ : ∃ G, (stP num mx r2 ls2 bs2 ls2.length).2 = G := ⟨_, rfl⟩
    rw [hn2] at hp2
    clear hn2
    obtain ⟨R0, hR0⟩ : ∃ G, (stP num 0 0 ls1 bs1 ls1.length).1 = G := ⟨_, rfl⟩
    rw [hR0] at hp0
    clear hR0
    obtain ⟨s1, x1⟩ := G1
    obtain ⟨s0, x0⟩ := G0
    simp only [] at hg hg1 hp1
    clear hbl1 hbl2
    go_wp2_with fail
    refine (hg.out _ (htb.out _ b6.out)).mono ?_
    rintro e w9 ⟨rfl, b9⟩
    have k9 := below_kept b9
    have B9 : Hid (Blk _ _ _ _) := Blk.kept B6.out k9 (by simp)
    have b9 : Hid (Below w.heap.size w w9) := b6.out.trans (b9.mono b6.out.size)
    have M1' : Hid (LinesIn w4 w9 (.slice a1 ls1.length c1) ls1) := ⟨row_stay hLH1'.out.own k9 (fun _ _ => by simp), hLH1'.out.k.trans k9⟩
    have M2' : Hid (LinesIn w5 w9 (.slice a2 ls2.length c2) ls2) := ⟨row_stay hLH2.out.own k9 (fun _ _ => by simp), hLH2.out.k.trans k9⟩
    clear b6 B6 o0 o1 o2 o3 o4 ol hg hLH1' hLH2 k9
    obtain ⟨o0, o1, o2, o3, o4, ol⟩ := all5 B9.out
    go_wp2_with fail
    refine (hs1.out _ M1'.out.own).mono ?_
    rintro e w10 ⟨v10, rfl, hF⟩
    have F1 : Hid (FlagsIn _ _ _ _) := hF
    have B10 : Hid (Blk _ _ _ _) := Blk.kept B9.out hF.k (by simp)
    have b10 : Hid (Below w.heap.size w w10) := b9.out.trans (hF.k.below b9.out.size (by simp))
    have M1'' : Hid (LinesIn w4 w10 (.slice a1 ls1.length c1) ls1) := ⟨row_stay M1'.out.own hF.k (fun _ _ => by simp), M1'.out.k.trans hF.k⟩
    have M2'' : Hid (LinesIn w5 w10 (.slice a2 ls2.length c2) ls2) := ⟨row_stay M2'.out.own hF.k (fun _ _ => by simp), M2'.out.k.trans hF.k⟩
    clear b9 B9 o0 o1 o2 o3 o4 ol hs1 M1' M2' hF
    obtain ⟨o0, o1, o2, o3, o4, ol⟩ := all5 B10.out
    go_wp2_with fail
    refine (hs2.out _ M2''.out.own).mono ?_
    rintro e w11 ⟨v11, rfl, hF⟩
    have K11 : Hid (∀ o, Kept [] w10 (w11.alloc o)) := fun o => hF.k.alloc o
    have F2 : Hid (∀ o, FlagsIn w10 (w11.alloc o) v11 _) := fun o => hF.kept ((Kept.refl [] w11).alloc o)
    have F1' : Hid (∀ o, FlagsIn w9 (w11.alloc o) v10 _) := fun o => F1.out.kept (K11.out o)
    have B11 : Hid (∀ o, Blk (w11.alloc o) _ _ _) := fun o => Blk.kept B10.out (K11.out o) (by simp)
    have b11 : Hid (∀ o, Below w.heap.size w (w11.alloc o)) := fun o => b10.out.trans ((K11.out o).below b10.out.size (by simp))
    have N1 : Hid (∀ o, LinesIn w4 (w11.alloc o) (.slice a1 ls1.length c1) ls1) := fun o => ⟨row_stay M1''.out.own (K11.out o) (fun _ _ => by simp), M1''.out.k.trans (K11.out o)⟩
    have N2 : Hid (∀ o, LinesIn w5 (w11.alloc o) (.slice a2 ls2.length c2) ls2) := fun o => ⟨row_stay M2''.out.own (K11.out o) (fun _ _ => by simp), M2''.out.k.trans (K11.out o)⟩
    have B11' : Hid (Blk w11 _ _ _) := Blk.kept B10.out hF.k (by simp)
    have lq : Hid (w.heap.size < w11.heap.size ∧ (∀ g, a1 = some ⟨g, 0, none⟩ → g < w11.heap.size) ∧ ∀ g, v10.ownBlock = some g → g < w11.heap.size) := by
      have hs10 := hF.k.size
      refine ⟨B11'.out.lt, fun g hg => ?_, fun g hg => ?_⟩
      · have := (M1''.out.own.lt g (by rw [hg]; rfl)).2; omega
      · have := (F1.out.own.lt g hg).2; omega
    clear b10 B10 o0 o1 o2 o3 o4 ol hs2 M1'' M2'' hF F1 K11
    obtain ⟨o0, o1, o2, o3, o4, ol⟩ := all5 B11'.out
    go_wp2_with fail
    refine (hp0.out _ v10 _ (htb.out _ (b11.out _)) (N1.out _).own (F1'.out _).own).mono ?_
    rintro e w12 ⟨rfl, k12⟩
    have Q12 : Hid (Blk w12 w11.heap.size #[.bool inv, .bool fold, .bool whole, .bool num, .int .i64 0] 23) := Blk.kept (Blk.new w11 _ _) k12 (by simp)
    have B12 : Hid (Blk w12 _ _ _) := Blk.kept (B11.out _) k12 (by simp)
    have b12 : Hid (Below w.heap.size w w12) := (b11.out _).trans (k12.below (b11.out _).size (by simp))
    have N1' : Hid (LinesIn w4 w12 (.slice a1 ls1.length c1) ls1) := ⟨row_stay (N1.out _).own k12 (fun _ _ => by simp), (N1.out _).k.trans k12⟩
    have N2' : Hid (LinesIn w5 w12 (.slice a2 ls2.length c2) ls2) := ⟨row_stay (N2.out _).own k12 (fun _ _ => by simp), (N2.out _).k.trans k12⟩
    have F1'' : Hid (FlagsIn w9 w12 v10 _) := (F1'.out _).kept k12
    have F2' : Hid (FlagsIn w10 w12 v11 _) := (F2.out _).kept k12
    clear B11 B11' b11 N1 N2 F1' F2 k12 o0 o1 o2 o3 o4 ol hp0
    obtain ⟨o0, o1, o2, o3, o4, ol⟩ := all5 B12.out
    obtain ⟨d0, d1, d2, d3, d4, dl⟩ := all5 Q12.out
    obtain ⟨z0, z1, z2, z3, z4⟩ := froz5 Q12.out
    have hqb := lq.out.1
    have hne : w.heap.size ≠ w11.heap.size := by omega
    by_cases hy : 0 < y1
    · have e1 := hz1.out hy
      simp only [Prod.mk.injEq] at e1
      obtain ⟨rfl, rfl⟩ := e1
      have hyi : (0 : Int) < (y1 : Int) := by omega
      clear hz1 hz2 hp2 ht2
      go_upto_region 20 with fail
      obtain ⟨W5, hW5⟩ : ∃ W, W = (((((w12.setCell ⟨w11.heap.size, 0, none⟩ (.bool inv)).setCell ⟨w11.heap.size, 1, none⟩ (.bool fold)).setCell ⟨w11.heap.size, 2, none⟩ (.bool whole)).setCell ⟨w11.heap.size, 3, none⟩ (.bool num)).setCell ⟨w11.heap.size, 4, none⟩ (.int .i64 mx)) := ⟨_, rfl⟩
      rw [← hW5]
      have Q5 : Hid (Blk W5 w11.heap.size #[.bool inv, .bool fold, .bool whole, .bool num, .int .i64 mx] 23) := by
        show Blk _ _ _ _; rw [hW5]; exact res5 Q12.out _ _ _ _ _
      have K5 : Hid (Kept [w11.heap.size] w12 W5) := by
        show Kept _ _ _; rw [hW5]
        exact (((((Kept.refl _ _).setCell (Or.inl (by simp)) _).setCell (Or.inl (by simp)) _).setCell (Or.inl (by simp)) _).setCell (Or.inl (by simp)) _).setCell (Or.inl (by simp)) _
      have hQt : Hid (Blk w12 w11.heap.size _ _) := Q12.out
      clear hW5 Q12 d0 d1 d2 d3 d4 dl z0 z1 z2 z3 z4 o0 o1 o2 o3 o4 ol
      obtain ⟨d0, d1, d2, d3, d4, dl⟩ := all5 Q5.out
      obtain ⟨z0, z1, z2, z3, z4⟩ := froz5 Q5.out
      go_upto_region 21 with fail
      obtain ⟨W6, hW6⟩ : ∃ W, W = W5.setCell ⟨w11.heap.size, 4, none⟩ (.int .i64 1) := ⟨_, rfl⟩
      rw [← hW6]
      have Q6 : Hid (Blk W6 w11.heap.size #[.bool inv, .bool fold, .bool whole, .bool num, .int .i64 1] 23) := by
        show Blk _ _ _ _; rw [hW6]; exact Q5.out.set 4 _
      have K6 : Hid (Kept [w11.heap.size] w12 W6) := by
        show Kept _ _ _; rw [hW6]
        exact K5.out.setCell (Or.inl (by simp)) _
      clear hW6 Q5 K5 d0 d1 d2 d3 d4 dl z0 z1 z2 z3 z4
      have b6' : Hid (Below w.heap.size w W6) := b12.out.trans (K6.out.below b12.out.size (by simp; omega))
      have R6 : Hid (W6.ownsRow w4.heap.size 9 1 (.slice a1 ls1.length c1) ls1.length (ls1.map Value.string)) := row_stay N1'.out.own K6.out (fun g hg hc => by
        simp only [List.mem_singleton] at hc
        subst hc
        exact absurd (own_type N1'.out.own hQt.out hg) (by decide))
      have S6 : Hid (W6.ownsRow w9.heap.size 4 1 v10 bs1.length (bs1.map Value.bool)) := row_stay F1''.out.own K6.out (fun g hg hc => by
        simp only [List.mem_singleton] at hc
        subst hc
        exact absurd (own_type F1''.out.own hQt.out hg) (by decide))
      clear N1' N2' F1'' F2' B12 b12 K6 hQt lq
      obtain ⟨d0, d1, d2, d3, d4, dl⟩ := all5 Q6.out
      go_wp2_with fail
      refine (hg1.out _ (htb.out _ b6'.out)).mono ?_
      rintro e w13 ⟨rfl, b13⟩
      have k13 := below_kept b13
      have Q13 : Hid (Blk _ _ _ _) := Blk.kept Q6.out k13 (by simp)
      have B13 : Hid (Below w.heap.size w w13) := b6'.out.trans (b13.mono b6'.out.size)
      have R13 : Hid (World.ownsRow _ _ _ _ _ _ _) := row_stay (S := []) R6.out k13 (fun _ _ => by simp)
      have S13 : Hid (World.ownsRow _ _ _ _ _ _ _) := row_stay (S := []) S6.out k13 (fun _ _ => by simp)
      clear b6' R6 S6 Q6 b13 k13 d0 d1 d2 d3 d4 dl hg1
      obtain ⟨d0, d1, d2, d3, d4, dl⟩ := all5 Q13.out
      go_wp2_with fail
      refine (hp1.out _ v10 _ (htb.out _ B13.out) R13.out S13.out).mono ?_
      rintro e w14 ⟨rfl, k14⟩
      have B14 : Hid (Below w.heap.size w w14) := B13.out.trans (k14.below B13.out.size (by simp))
      clear Q13 R13 S13 B13 k14 hp1 d0 d1 d2 d3 d4 dl
      go_wp2
      go_ret
      exact ⟨rfl, B14.out⟩
    · obtain ⟨e1, e2⟩ := hz2.out (by omega)
      have e1H : Hid (_ → _) := e1
      have e2H : Hid (_ → _) := e2
      have hy0 : y1 = 0 := by omega
      subst hy0
      clear hz1 hz2 hp1 hg1 e1 e2 hy d0 d1 d2 d3 d4 dl z0 z1 z2 z3 z4 Q12
      have hX : Hid (∀ w', Kept [] w12 w' → Calls _ _ _ w' _) := fun w' k => hp2.out _ v11 w' (htb.out _ (b12.out.trans (k.below b12.out.size (by simp)))) (row_stay N2'.out.own k (fun _ _ => by simp)) (F2'.out.kept k).own
      have hend : Hid (∀ w', Kept [] w12 w' → Below w.heap.size w w') := fun w' k => b12.out.trans (k.below b12.out.size (by simp))
      have ht3 : Hid (∀ w, Calls _ _ _ w _) := ht2.out
      clear hp2 ht2 B12 N1' N2' F1'' F2' htb lq b12 hqb hne
      by_cases hR : (2000 : Int) < (R2.size : Int)
      · have e1 := e1H.out (by omega)
        simp only [Prod.mk.injEq] at e1
        obtain ⟨rfl, rfl⟩ := e1
        clear e1H e2H
        go_wp2_with fail
        go_region_law (go_simp; first | (go_at_call 24; refine (ht3.out _).mono ?_; rintro _ _ ⟨rfl, rfl⟩) | (go_at_call 21; refine (hX.out _ (by repeat (first | exact Kept.refl _ _ | apply Kept.drew | apply Kept.drewN))).mono ?_; rintro _ w13 ⟨rfl, k13⟩; have K13 : Hid (Kept [] w12 w13) := Kept.trans (by repeat (first | exact Kept.refl _ _ | apply Kept.drew | apply Kept.drewN)) k13))
        all_goals
          go_wp2
          go_ret
          exact ⟨rfl, hend.out _ (by repeat (first | exact K13.out | apply Kept.drew | apply Kept.drewN))⟩
      · have e2 := e2H.out (by omega)
        simp only [Prod.mk.injEq] at e2
        obtain ⟨rfl, rfl⟩ := e2
        clear e1H e2H
        go_wp2_with fail
        go_region_law (go_simp; first | (go_at_call 24; refine (ht3.out _).mono ?_; rintro _ _ ⟨rfl, rfl⟩) | (go_at_call 21; refine (hX.out _ (by repeat (first | exact Kept.refl _ _ | apply Kept.drew | apply Kept.drewN))).mono ?_; rintro _ w13 ⟨rfl, k13⟩; have K13 : Hid (Kept [] w12 w13) := Kept.trans (by repeat (first | exact Kept.refl _ _ | apply Kept.drew | apply Kept.drewN)) k13))
        all_goals
          go_wp2
          go_ret
          exact ⟨rfl, hend.out _ (by repeat (first | exact K13.out | apply Kept.drew | apply Kept.drewN))⟩

end Go.Proofs.YtgifhgnccmnbiabGreatDoor

set_option linter.unusedVariables false
set_option linter.unusedSimpArgs false
namespace Go.Proofs.YtgifhgnccmnbiabGreatDoor
open Go.ChangeShapes Go.WideShapes Go.ChangeAt Go.RowKit

theorem optCells : Tryz.prog.cellsOf 23 = 5 := by kernel_rfl
theorem boolCell : Tryz.prog.cellsOf 4 = 1 := by kernel_rfl
theorem intCell : Tryz.prog.cellsOf 3 = 1 := by kernel_rfl

section
variable {H : Type} {enc : TypeId × Value → H} {w : World} {base : Nat} {spare : Nat → Bool} {held : Bool}
set_option maxRecDepth 100000 in
theorem open_options {r : Reach} {b0 : Nat} {v : Value} {d : DataW H} {ps : List MemPlace} (hval : Value.okWide Tryz.prog w r b0 23 v) (hd : DataW.Trod enc Tryz.prog w base spare held 23 v d ps) :
    ∃ (i f wh nu : Bool) (mx : Int), v = .agg #[.bool i, .bool f, .bool wh, .bool nu, .int .i64 mx] ∧ d = .agg [.lit (.bool i), .lit (.bool f), .lit (.bool wh), .lit (.bool nu), .lit (.int .i64 mx)] ∧ ps = [] ∧ (Lit.int .i64 mx).wf = true := by
  obtain ⟨cs, rfl, hsz⟩ := okWide_struct Tryz.underlying23 hval
  rw [optCells] at hsz
  obtain ⟨l⟩ := cs
  match l, hsz with
  | [c0, c1, c2, c3, c4], _ =>
  obtain ⟨fuel, hf⟩ := hd
  obtain ⟨xs, n, _, hx, _, hlen, hall⟩ := DataW.trod_struct Tryz.underlying23 hf
  match xs, hlen with
  | [y0, y1, y2, y3, y4], _ =>
  have g0 : DataW.trod enc Tryz.prog w base spare held n 4 [c0] = some y0 := by
    have h : DataW.trod enc Tryz.prog w base spare held n 4 (([c0, c1, c2, c3, c4].drop 0).take (Tryz.prog.cellsOf 4)) = some y0 := hall 0 _ rfl
    rw [boolCell] at h
    exact h
  have g1 : DataW.trod enc Tryz.prog w base spare held n 4 [c1] = some y1 := by
    have h : DataW.trod enc Tryz.prog w base spare held n 4 (([c0, c1, c2, c3, c4].drop 1).take (Tryz.prog.cellsOf 4)) = some y1 := hall 1 _ rfl
    rw [boolCell] at h
    exact h
  have g2 : DataW.trod enc Tryz.prog w base spare held n 4 [c2] = some y2 := by
    have h : DataW.trod enc Tryz.prog w base spare held n 4 (([c0, c1, c2, c3, c4].drop 2).take (Tryz.prog.cellsOf 4)) = some y2 := hall 2 _ rfl
    rw [boolCell] at h
    exact h
  have g3 : DataW.trod enc Tryz.prog w base spare held n 4 [c3] = some y3 := by
    have h : DataW.trod enc Tryz.prog w base spare held n 4 (([c0, c1, c2, c3, c4].drop 3).take (Tryz.prog.cellsOf 4)) = some y3 := hall 3 _ rfl
    rw [boolCell] at h
    exact h
  have g4 : DataW.trod enc Tryz.prog w base spare held n 3 [c4] = some y4 := by
    have h : DataW.trod enc Tryz.prog w base spare held n 3 (([c0, c1, c2, c3, c4].drop 4).take (Tryz.prog.cellsOf 3)) = some y4 := hall 4 _ rfl
    rw [intCell] at h
    exact h
  obtain ⟨b0', e0, rfl⟩ := DataW.trod_bool Tryz.underlying4 g0
  obtain ⟨b1', e1, rfl⟩ := DataW.trod_bool Tryz.underlying4 g1
  obtain ⟨b2', e2, rfl⟩ := DataW.trod_bool Tryz.underlying4 g2
  obtain ⟨b3', e3, rfl⟩ := DataW.trod_bool Tryz.underlying4 g3
  obtain ⟨m, e4, rfl, wm⟩ := DataW.trod_int Tryz.underlying3 g4
  simp only [List.cons.injEq, and_true] at e0 e1 e2 e3 e4
  subst e0 e1 e2 e3 e4
  simp only [Prod.mk.injEq] at hx
  obtain ⟨rfl, rfl⟩ := hx
  exact ⟨_, _, _, _, _, rfl, rfl, rfl, wm⟩
set_option maxRecDepth 100000 in
theorem shut_options (i f wh nu : Bool) {mx : Int} (hm : (Lit.int .i64 mx).wf = true) :
    DataW.Trod enc Tryz.prog w base spare held 23 (.agg #[.bool i, .bool f, .bool wh, .bool nu, .int .i64 mx]) (.agg [.lit (.bool i), .lit (.bool f), .lit (.bool wh), .lit (.bool nu), .lit (.int .i64 mx)]) [] := ⟨2, by
  have fb : ∀ b : Bool, DataW.trod enc Tryz.prog w base spare held 1 4 [.bool b] = some (.lit (.bool b), []) := fun b => by simp [DataW.trod, Tryz.underlying4]
  have fi : DataW.trod enc Tryz.prog w base spare held 1 3 [.int .i64 mx] = some (.lit (.int .i64 mx), []) := by simp [DataW.trod, Tryz.underlying3, hm]
  have := trod_struct_mk (enc := enc) (w := w) (base := base) (spare := spare) (held := held) (n := 1) (cs := [.bool i, .bool f, .bool wh, .bool nu, .int .i64 mx])
    (xs := [(.lit (.bool i), []), (.lit (.bool f), []), (.lit (.bool wh), []), (.lit (.bool nu), []), (.lit (.int .i64 mx), [])]) Tryz.underlying23 (by simp [optCells]) (by simp [boolCell, intCell, fb, fi])
  simpa [Value.cells] using this⟩
end
end Go.Proofs.YtgifhgnccmnbiabGreatDoor
