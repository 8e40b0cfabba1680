/- Package packed: cutting: what stands in one symbol. -/
import Derived.Test.YtgifhgnccmnbiaaCutRead
set_option linter.unusedVariables false
set_option linter.unusedSimpArgs false
namespace Go.Proofs.Ytgifhgnccmnbiaa
open Go.RowKit Go.IntWalk

theorem Kept.cell' {w w' : World} (k : Kept [] w w') {g : Nat} (hg : g < w.heap.size) (j : Nat) : w'.cell? ⟨g, j, none⟩ = w.cell? ⟨g, j, none⟩ := by
  unfold World.cell?
  simp only []
  rw [k.block g hg (by simp)]

def byteCells (l : List Nat) : List Value := l.map fun (x : Nat) => Value.int .u8 (x : Int)
theorem byteCells_app (l m : List Nat) : byteCells (l ++ m) = byteCells l ++ byteCells m := by simp [byteCells]
theorem infoU8 : (Try.prog.info? 5).map (fun i => (i.zero, i.size, i.bytes)) = some (some (.int .u8 0), 1, 1) := by kernel_rfl

theorem field_len (p1 p2 p3 p4 : Value) (w : World) : (Instr.field 79 (.agg #[p1, p2, p3, p4]) 0).run Try.prog w = .ok p1 w := by kernel_rfl

theorem own_type {w : World} {base e z k g : Nat} {v : Value} {xs : List Value} {cs : Array Value} {e' : TypeId} (h : w.ownsRow base e z v k xs) (hb : Blk w g cs e') (hg : v.ownBlock = some g) : e' = e := by
  rcases h.2 with ⟨h1, _⟩ | ⟨g', cap, cur, h1, h2, h3, h4⟩
  · rw [h1] at hg; simp [Value.ownBlock] at hg
  · rw [h1] at hg
    have : g' = g := by simpa [Value.ownBlock] using hg
    subst this
    have hb' : w.heap[g']? = some (.cells cs e') := hb
    rw [h3] at hb'
    simp at hb'
    exact hb'.2.symm
/-- The cutter in block c: the text, from where, to where, how far it has come, what it has cut out. -/
structure CutM (w : World) (c b fr dst p : Nat) (ov : Value) (out : List Nat) : Prop where
  blk : Blk w c #[.pointer (some ⟨b, 0, none⟩), .int .i64 (fr : Int), .int .i64 (dst : Int), .int .i64 (p : Int), ov] 139
  row : w.ownsRow (c + 1) 5 1 ov out.length (byteCells out)
  len : out.length ≤ p
section
variable {w w' : World} {c b fr dst p : Nat} {ov : Value} {out : List Nat}
theorem CutM.kept (h : CutM w c b fr dst p ov out) (k : Kept [] w w') : CutM w' c b fr dst p ov out :=
  ⟨h.blk.kept k (by simp), row_stay (S := []) h.row k (fun _ _ => by simp), h.len⟩
theorem CutM.drew (h : CutM w c b fr dst p ov out) : CutM w.drew c b fr dst p ov out := h.kept ((Kept.refl [] _).drew)
theorem CutM.go (h : CutM w c b fr dst p ov out) {q : Nat} (hq : p ≤ q) : CutM (w.setCell ⟨c, 3, none⟩ (.int .i64 (q : Int))) c b fr dst q ov out :=
  ⟨h.blk.set 3 _, row_set h.row (Nat.lt_succ_self c) _ _, Nat.le_trans h.len hq⟩
theorem CutM.lt (h : CutM w c b fr dst p ov out) : c < w.heap.size := h.blk.lt
/-- Behind an append to what was cut out. -/
theorem CutM.grow (h : CutM w c b fr dst p ov out) (g : w.grownBy w' ov.ownBlock) {v' : Value} {x : Nat} (hown : w'.ownsRow (c + 1) 5 1 v' (out.length + 1) (byteCells out ++ [.int .u8 (x : Int)])) :
    Blk w' c #[.pointer (some ⟨b, 0, none⟩), .int .i64 (fr : Int), .int .i64 (dst : Int), .int .i64 (p : Int), ov] 139 ∧ Below c w w' ∧ (∀ k cs e, e ≠ 5 → Blk w k cs e → Blk w' k cs e) ∧
    CutM ((w'.setCell ⟨c, 4, none⟩ v').setCell ⟨c, 3, none⟩ (.int .i64 ((p + 1 : Nat) : Int))) c b fr dst (p + 1) v' (out ++ [x]) := by
  have hne : ∀ k, k ≤ c → some k ≠ ov.ownBlock := fun k hk hc => by have := (h.row.lt k hc.symm).1; omega
  have hb := (g.block c h.lt (hne c (Nat.le_refl _))).trans h.blk
  refine ⟨hb, ⟨g.os, g.tape, g.output, g.size, fun k hk => g.block k (by have := h.lt; omega) (hne k (by omega))⟩, fun k cs e he hk => (g.block k hk.lt (fun hc => ?_)).trans hk, ⟨(Blk.set (Blk.set hb 4 v') 3 _), ?_, ?_⟩⟩
  · exact he (own_type h.row hk hc.symm)
  · rw [byteCells_app, List.length_append]
    exact row_set (row_set hown (Nat.lt_succ_self c) _ _) (Nat.lt_succ_self c) _ _
  · have := h.len; simp; omega
end

/-- What cutting out of one symbol leaves. -/
structure SymOut (w w' : World) (c b fr dst p : Nat) (x out : List Nat) : Prop where
  below : Below c w w'
  stay : ∀ k cs e, k ≠ c → e ≠ 5 → Blk w k cs e → Blk w' k cs e
  ex : ∃ ov, CutM w' c b fr dst (min (p + x.length) dst) ov (out ++ cutX x fr dst p)

theorem below_set {c : Nat} {w w' : World} (h : Below c w w') (j : Nat) (u : Value) : Below c w (w'.setCell ⟨c, j, none⟩ u) := h.setCell (Nat.le_refl _) _

set_option maxHeartbeats 4000000 in
set_option maxRecDepth 100000 in
theorem symbol_any {T : List (List Nat)} {t : TT} (hS : Sound t.rules T) (hrl : t.rules.length ≤ 90000) {n b : Nat} {rv sv : Value} {fr dst : Nat} (hfd : fr ≤ dst) (hd : dst ≤ 1099511627776) (c : Nat) (hn : n ≤ c) :
    ∀ (k s : Nat), s < k → s < 256 + t.rules.length → (symT T s).length ≤ 1099511627776 → ∀ (p : Nat) (ov : Value) (out : List Nat) (w : World), TR w n b t rv sv → CutM w c b fr dst p ov out → p ≤ dst →
      Calls Try.prog 79 #[.pointer (some ⟨c, 0, none⟩), .int .i64 (s : Int)] w fun e w' => e = .returned (.tuple #[]) ∧ SymOut w w' c b fr dst p (symT T s) out := by
  intro k
  induction k with
  | zero => intro s hs; omega
  | succ k ih =>
    intro s hs hs2 hL p ov out w hT hC hp
    have c3 : w.cell? ⟨c, 3, none⟩ = some (.int .i64 (p : Int)) := hC.blk.cell 3
    have c2 : w.cell? ⟨c, 2, none⟩ = some (.int .i64 (dst : Int)) := hC.blk.cell 2
    have hcw : c < w.heap.size := hC.lt
    by_cases h1 : (dst : Int) ≤ (p : Int)
    · have hfin : Hid (∀ m, SymOut w (w.drewN m) c b fr dst p (symT T s) out) := fun m => ⟨((Kept.refl [] w).drewN m).below (Nat.le_of_lt hcw) (by simp), fun k cs e _ _ hk => hk.kept ((Kept.refl [] w).drewN m) (by simp), ov, by
        rw [cutX_late (by omega), List.append_nil, show min (p + (symT T s).length) dst = p by omega]
        exact hC.kept ((Kept.refl [] w).drewN m)⟩
      clear ih hT hC hL hS
      go_enter Try.func79, Try.ntmps79
      go_wp2_with fail
      go_quiet (fail)
      go_wp2
      exact bodyPost_ret (v := .tuple #[]) (by simp [results, Try.results79, go_sem]) rfl ⟨rfl, hfin.out _⟩
    have h1' : (p : Int) < (dst : Int) := by omega
    have hpart : partAt t.rules s = ptOf (symT T s) := hS.part hs2
    have hlen : (ptOf (symT T s)).len = (symT T s).length := by rw [ptOf_len, capL_small (by rw [capL_of (by omega)]; exact hL)]
    have hc1 : Hid (∀ w', Kept [] w w' → Calls Try.prog 116 #[.pointer (some ⟨b, 0, none⟩), .int .i64 (s : Int)] w' fun e w2 => e = .returned (partAt t.rules s).val ∧ Kept [] w' w2) := fun w' k => partT_any (hT.kept k) s (by omega) (by omega)
    rw [hpart] at hc1
    have c1 : w.cell? ⟨c, 1, none⟩ = some (.int .i64 (fr : Int)) := hC.blk.cell 1
    have c4 : w.cell? ⟨c, 4, none⟩ = some ov := hC.blk.cell 4
    have c0 : w.cell? ⟨c, 0, none⟩ = some (.pointer (some ⟨b, 0, none⟩)) := hC.blk.cell 0
    have hlen1 : (symT T s).length ≤ 1099511627776 := hL
    have hLne : 1 ≤ (symT T s).length := by
      cases hx : symT T s with
      | nil => exact absurd hx (hS.ne hs2)
      | cons _ _ => simp
    have hTH : Hid (TR _ _ _ _ _ _) := hT
    have hCH : Hid (CutM _ _ _ _ _ _ _ _) := hC
    obtain ⟨L, hLL⟩ : ∃ L, L = (symT T s).length := ⟨_, rfl⟩
    rw [← hLL] at hlen hlen1 hLne
    have hLH : Hid (L = (symT T s).length) := hLL
    clear hLL hL hT hC hpart
    generalize ptOf (symT T s) = pt at *
    obtain ⟨p1, p2, p3, p4⟩ := pt
    simp only [] at hlen
    subst hlen
    unfold PT.val PT.arr at hc1
    simp only [] at hc1
    have hfp := field_len
    by_cases h2 : ((p + p1 : Nat) : Int) ≤ (fr : Int)
    · have hfin : Hid (∀ w1, Kept [] w w1 → SymOut w (w1.setCell ⟨c, 3, none⟩ (.int .i64 ((p + p1 : Nat) : Int))) c b fr dst p (symT T s) out) := fun w1 k1 => ⟨below_set (k1.below (Nat.le_of_lt hcw) (by simp)) _ _, fun k cs e hk _ hb => (hb.kept k1 (by simp)).other _ _ (fun hc => hk hc), ov, by
        have := hLH.out
        rw [cutX_early (by omega), List.append_nil, show min (p + (symT T s).length) dst = p + p1 by omega]
        exact (hCH.out.kept k1).go (by omega)⟩
      have h2' : (p : Int) + (p1 : Int) ≤ (fr : Int) := by omega
      rw [show ((p + p1 : Nat) : Int) = (p : Int) + (p1 : Int) by omega] at hfin
      clear ih hS h2
      go_enter Try.func79, Try.ntmps79
      go_wp2_with fail
      go_quiet (fail)
      go_wp2_with fail
      go_region_law (go_simp; go_at_call 116; refine (hc1.out _ (((Kept.refl [] w).drewN _).drew)).mono ?_; rintro _ w5 ⟨rfl, k5⟩; have K5 := (((Kept.refl [] w).drewN _).drew).trans k5; have r3 : w5.cell? ⟨c, 3, none⟩ = some (.int .i64 (p : Int)) := (K5.cell' hcw 3).trans c3; have r1 : w5.cell? ⟨c, 1, none⟩ = some (.int .i64 (fr : Int)) := (K5.cell' hcw 1).trans c1; have r0 : w5.cell? ⟨c, 0, none⟩ = some (.pointer (some ⟨b, 0, none⟩)) := (K5.cell' hcw 0).trans c0; have q3 : w5.frozen? ⟨c, 3, none⟩ = false := (hCH.out.kept K5).blk.frozen 3)
      all_goals
        go_wp2
        exact bodyPost_ret (v := .tuple #[]) (by simp [results, Try.results79, go_sem]) rfl ⟨rfl, hfin.out _ K5⟩
    · have h2' : (fr : Int) < (p : Int) + (p1 : Int) := by omega
      clear h2
      by_cases h3 : (s : Int) < 256
      · have hx : symT T s = [s] := by unfold symT; rw [if_pos (by omega)]
        have hp1 : p1 = 1 := by rw [hLH.out, hx]; rfl
        subst hp1
        rw [hx]
        obtain ⟨i0, hi0, hz0, hz1, hz2⟩ := info_parts infoU8
        have hfin : Hid (∀ w1 w3 v', Kept [] w w1 → w1.grownBy w3 ov.ownBlock → w3.ownsRow (c + 1) 5 1 v' (out.length + 1) (byteCells out ++ [.int .u8 (s : Int)]) → SymOut w ((w3.setCell ⟨c, 4, none⟩ v').setCell ⟨c, 3, none⟩ (.int .i64 ((p + 1 : Nat) : Int))) c b fr dst p [s] out ∧ Blk w3 c #[.pointer (some ⟨b, 0, none⟩), .int .i64 (fr : Int), .int .i64 (dst : Int), .int .i64 (p : Int), ov] 139) := fun w1 w3 v' k1 g hown => by
          obtain ⟨x1, x2, x4, x3⟩ := (hCH.out.kept k1).grow g hown
          refine ⟨⟨below_set (below_set ((k1.below (Nat.le_of_lt hcw) (by simp)).trans x2) _ _) _ _, fun k cs e hk he hb => ((x4 k cs e he (hb.kept k1 (by simp))).other _ _ (fun hc => hk hc)).other _ _ (fun hc => hk hc), v', ?_⟩, x1⟩
          rw [cutX_one (by omega) (by omega), show min (p + [s].length) dst = p + 1 by simp; omega]
          exact x3
        have own : ∀ w1, Kept [] w w1 → w1.ownsRow (c + 1) 5 1 ov out.length (byteCells out) := fun w1 k1 => (hCH.out.kept k1).row
        have mb : out.length + 1 ≤ maxLen := by have := hCH.out.len; unfold maxLen; omega
        have mc : (out.length + 1) * 1 ≤ 140737488355328 := by have := hCH.out.len; omega
        clear ih hS hx
        go_enter Try.func79, Try.ntmps79
        go_wp2_with fail
        go_quiet (fail)
        go_wp2_with fail
        go_region_law (go_simp; go_at_call 116; refine (hc1.out _ (((Kept.refl [] w).drewN _).drew)).mono ?_; rintro _ w5 ⟨rfl, k5⟩; have K5 := (((Kept.refl [] w).drewN _).drew).trans k5; have r3 : w5.cell? ⟨c, 3, none⟩ = some (.int .i64 (p : Int)) := (K5.cell' hcw 3).trans c3; have r1 : w5.cell? ⟨c, 1, none⟩ = some (.int .i64 (fr : Int)) := (K5.cell' hcw 1).trans c1; have r4 : w5.cell? ⟨c, 4, none⟩ = some ov := (K5.cell' hcw 4).trans c4; have r0 : w5.cell? ⟨c, 0, none⟩ = some (.pointer (some ⟨b, 0, none⟩)) := (K5.cell' hcw 0).trans c0; have q3 : w5.frozen? ⟨c, 3, none⟩ = false := (hCH.out.kept K5).blk.frozen 3)
        all_goals
          go_wp2_with (at_builtin; refine wpList_append_own _ rfl (.tmp 43) (.tmp 46) 98 rfl (c + 1) 5 i0 _ 1 1 Try.underlying98 hi0 hz0 hz1 hz2 rfl (by decide) ov out.length (byteCells out) rfl ?own ⟨w5.heap.size, 0, none⟩ 1 1 [.int .u8 (s : Int)] rfl rfl ?c1 ?c2 ?b1 ?b2 ?b3 ?kk)
          case own => exact own _ (K5.alloc _)
          case c1 => exact cells_new _ _ _ _ rfl
          case c2 => simp [Value.oneCell']
          case b1 => exact mb
          case b2 => exact mc
          case b3 => have := K5.size; simp; omega
          case kk =>
            intro v' w3 hown hgrow _
            obtain ⟨gv, cap, rfl⟩ := own_form hown (by omega)
            obtain ⟨f1, f2⟩ := hfin.out _ _ _ (K5.alloc _) hgrow hown
            have f1 : Hid (SymOut _ _ _ _ _ _ _ _ _) := f1
            have e4 : w3.cell? ⟨c, 4, none⟩ = some ov := f2.cell 4
            have e3 : w3.cell? ⟨c, 3, none⟩ = some (.int .i64 (p : Int)) := f2.cell 3
            have f4 : w3.frozen? ⟨c, 4, none⟩ = false := f2.frozen 4
            have f3 : w3.frozen? ⟨c, 3, none⟩ = false := f2.frozen 3
            have hc3 : c < w3.heap.size := f2.lt
            clear f2 hown hgrow
            go_wp2
            exact bodyPost_ret (v := .tuple #[]) (by simp [results, Try.results79, go_sem]) rfl ⟨rfl, f1.out⟩
      · obtain ⟨x, hx⟩ : ∃ x, t.rules[s - 256]? = some x := ⟨_, List.getElem?_eq_getElem (by omega)⟩
        obtain ⟨u1, u2, u3, _⟩ := hS.rule _ _ hx
        have hxx : symT T s = symT T x.l ++ symT T x.r := by
          rw [← u3]
          unfold symT
          rw [if_neg (by omega)]
        have hrule : ruleAt t.rules (s : Int) = x := by
          unfold ruleAt
          rw [if_pos (by omega), show ((s : Int) - 256).toNat = s - 256 by omega, hx]
          rfl
        have hle : (symT T x.l).length + (symT T x.r).length = (symT T s).length := by rw [hxx, List.length_append]
        have hcr : Hid (∀ w', Kept [] w w' → Calls Try.prog 117 #[.pointer (some ⟨b, 0, none⟩), .int .i64 (s : Int)] w' fun e w2 => e = .returned (ruleAt t.rules s).val ∧ Kept [] w' w2) := fun w' k => ruleT_any (hTH.out.kept k) s (by omega) (by omega)
        rw [hrule] at hcr
        have hl := hLH.out
        have hA : Hid (∀ w', Kept [] w w' → Calls _ _ _ w' _) := fun w' k => ih x.l (by omega) (by omega) (by omega) p ov out w' (hTH.out.kept k) (hCH.out.kept k) hp
        have hB : Hid (∀ w1 w2, Kept [] w w1 → SymOut w1 w2 c b fr dst p (symT T x.l) out → Calls Try.prog 79 #[.pointer (some ⟨c, 0, none⟩), .int .i64 (x.r : Int)] w2 fun e w' => e = .returned (.tuple #[]) ∧ SymOut w w' c b fr dst p (symT T s) out) := fun w1 w2 k1 o => by
          obtain ⟨ov2, hC2⟩ := o.ex
          have hT2 : TR w2 n b t rv sv := (hTH.out.kept k1).under o.below hn
          refine (ih x.r (by omega) (by omega) (by omega) _ ov2 _ w2 hT2 hC2 (Nat.min_le_right _ _)).mono ?_
          rintro e w' ⟨he, o2⟩
          obtain ⟨ov3, hC3⟩ := o2.ex
          refine ⟨he, ((k1.below (Nat.le_of_lt hcw) (by simp)).trans o.below).trans o2.below, fun k cs e hk he hb => o2.stay k cs e hk he (o.stay k cs e hk he (hb.kept k1 (by simp))), ov3, ?_⟩
          rw [hxx, cutX_app, ← List.append_assoc, List.length_append]
          rw [cutX_min] at hC3
          rw [show min (p + ((symT T x.l).length + (symT T x.r).length)) dst = min (min (p + (symT T x.l).length) dst + (symT T x.r).length) dst by omega]
          exact hC3
        clear ih hS hx u1 u2 u3 hxx hrule hle hl
        obtain ⟨rl, rr, ⟨y1, y2, y3, y4⟩⟩ := x
        unfold RU.val RU.cells at hcr
        simp only [] at hcr hA hB
        have h3' : (256 : Int) ≤ (s : Int) := by omega
        clear h3
        generalize symT T rl = XL at *
        generalize symT T rr = XR at *
        generalize symT T s = XS at *
        go_enter Try.func79, Try.ntmps79
        go_wp2_with fail
        go_quiet (fail)
        go_wp2_with fail
        go_region_law (go_simp; go_at_call 116; refine (hc1.out _ (((Kept.refl [] w).drewN _).drew)).mono ?_; rintro _ w5 ⟨rfl, k5⟩; have K5 := (((Kept.refl [] w).drewN _).drew).trans k5; have r3 : w5.cell? ⟨c, 3, none⟩ = some (.int .i64 (p : Int)) := (K5.cell' hcw 3).trans c3; have r1 : w5.cell? ⟨c, 1, none⟩ = some (.int .i64 (fr : Int)) := (K5.cell' hcw 1).trans c1; have r0 : w5.cell? ⟨c, 0, none⟩ = some (.pointer (some ⟨b, 0, none⟩)) := (K5.cell' hcw 0).trans c0; have q3 : w5.frozen? ⟨c, 3, none⟩ = false := (hCH.out.kept K5).blk.frozen 3)
        all_goals
          go_wp2_with (first
            | (go_at_call 117
               refine (hcr.out _ K5).mono ?_
               rintro _ w6 ⟨rfl, k6⟩
               have K6 := (K5.trans k6).alloc (.cells #[.int .i64 rl, .int .i64 rr, .int .i64 y1, .int .i64 y2, .int .i64 y3, .int .i64 y4] 178)
               have L6 := (K5.trans k6).size)
            | (go_at_call_of 79 (Value.int IntKind.i64 (rl : Int))
               refine (hA.out _ K6).mono ?_
               rintro _ w7 ⟨rfl, o7⟩
               have o7H : Hid (SymOut _ _ _ _ _ _ _ _ _) := o7
               have e1 : w7.cell? ⟨w6.heap.size, 1, none⟩ = some (.int .i64 rr) := (o7.stay _ _ _ (by omega) (by decide) (Blk.new w6 _ _)).cell 1)
            | (go_at_call_of 79 (Value.int IntKind.i64 (rr : Int))
               refine (hB.out _ _ K6 o7H.out).mono ?_
               rintro _ w8 ⟨rfl, o8⟩))
          go_end0
          exact ⟨rfl, o8⟩

end Go.Proofs.Ytgifhgnccmnbiaa
