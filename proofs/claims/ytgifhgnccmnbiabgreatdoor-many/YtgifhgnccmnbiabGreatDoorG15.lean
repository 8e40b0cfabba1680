/- Package packed: cutting: what stands in one symbol. -/
import Derived.Test.YtgifhgnccmnbiabGreatDoorG13
import Derived.Deep.RegionHeld3
import Derived.Laws.IdiomStrings
import Derived.Lib.AppendStr
import Derived.Test.YtgifhgnccmnbiabGreatDoorG10
set_option linter.unusedVariables false
set_option linter.unusedSimpArgs false
namespace Go.Proofs.YtgifhgnccmnbiabGreatDoor
open Go.RowKit Go.IntWalk

theorem Kept.cell' {w w' : World} (k : Kept [] w w') {g : Nat} (hg : g < w.heap.size) (j : Nat) : w'.cell? ⟨g, j, none⟩ = w.cell? ⟨g, j, none⟩ := by
  unfold World.cell?
  simp only []
  rw [k.block g hg (by simp)]

def byteCells (l : List Nat) : List Value := l.map fun (x : Nat) => Value.int .u8 (x : Int)
theorem byteCells_app (l m : List Nat) : byteCells (l ++ m) = byteCells l ++ byteCells m := by simp [byteCells]
theorem infoU8 : (Tryz.prog.info? 5).map (fun i => (i.zero, i.size, i.bytes)) = some (some (.int .u8 0), 1, 1) := by kernel_rfl

theorem field_len (p1 p2 p3 p4 : Value) (w : World) : (Instr.field 84 (.agg #[p1, p2, p3, p4]) 0).run Tryz.prog w = .ok p1 w := by kernel_rfl

theorem own_type {w : World} {base e z k g : Nat} {v : Value} {xs : List Value} {cs : Array Value} {e' : TypeId} (h : w.ownsRow base e z v k xs) (hb : Blk w g cs e') (hg : v.ownBlock = some g) : e' = e := by
  rcases h.2 with ⟨h1, _⟩ | ⟨g', cap, cur, h1, h2, h3, h4⟩
  · rw [h1] at hg; simp [Value.ownBlock] at hg
  · rw [h1] at hg
    have : g' = g := by simpa [Value.ownBlock] using hg
    subst this
    have hb' : w.heap[g']? = some (.cells cs e') := hb
    rw [h3] at hb'
    simp at hb'
    exact hb'.2.symm
/-- The cutter in block c: the text, from where, to where, how far it has come, what it has cut out. -/
structure CutM (w : World) (c b fr dst p : Nat) (ov : Value) (out : List Nat) : Prop where
  blk : Blk w c #[.pointer (some ⟨b, 0, none⟩), .int .i64 (fr : Int), .int .i64 (dst : Int), .int .i64 (p : Int), ov] 175
  row : w.ownsRow (c + 1) 5 1 ov out.length (byteCells out)
  len : out.length ≤ p
section
variable {w w' : World} {c b fr dst p : Nat} {ov : Value} {out : List Nat}
theorem CutM.kept (h : CutM w c b fr dst p ov out) (k : Kept [] w w') : CutM w' c b fr dst p ov out :=
  ⟨h.blk.kept k (by simp), row_stay (S := []) h.row k (fun _ _ => by simp), h.len⟩
theorem CutM.drew (h : CutM w c b fr dst p ov out) : CutM w.drew c b fr dst p ov out := h.kept ((Kept.refl [] _).drew)
theorem CutM.go (h : CutM w c b fr dst p ov out) {q : Nat} (hq : p ≤ q) : CutM (w.setCell ⟨c, 3, none⟩ (.int .i64 (q : Int))) c b fr dst q ov out :=
  ⟨h.blk.set 3 _, row_set h.row (Nat.lt_succ_self c) _ _, Nat.le_trans h.len hq⟩
theorem CutM.lt (h : CutM w c b fr dst p ov out) : c < w.heap.size := h.blk.lt
/-- Behind an append to what was cut out. -/
theorem CutM.grow (h : CutM w c b fr dst p ov out) (g : w.grownBy w' ov.ownBlock) {v' : Value} {x : Nat} (hown : w'.ownsRow (c + 1) 5 1 v' (out.length + 1) (byteCells out ++ [.int .u8 (x : Int)])) :
    Blk w' c #[.pointer (some ⟨b, 0, none⟩), .int .i64 (fr : Int), .int .i64 (dst : Int), .int .i64 (p : Int), ov] 175 ∧ Below c w w' ∧ (∀ k cs e, e ≠ 5 → Blk w k cs e → Blk w' k cs e) ∧
    CutM ((w'.setCell ⟨c, 4, none⟩ v').setCell ⟨c, 3, none⟩ (.int .i64 ((p + 1 : Nat) : Int))) c b fr dst (p + 1) v' (out ++ [x]) := by
  have hne : ∀ k, k ≤ c → some k ≠ ov.ownBlock := fun k hk hc => by have := (h.row.lt k hc.symm).1; omega
  have hb := (g.block c h.lt (hne c (Nat.le_refl _))).trans h.blk
  refine ⟨hb, ⟨g.os, g.tape, g.output, g.size, fun k hk => g.block k (by have := h.lt; omega) (hne k (by omega))⟩, fun k cs e he hk => (g.block k hk.lt (fun hc => ?_)).trans hk, ⟨(Blk.set (Blk.set hb 4 v') 3 _), ?_, ?_⟩⟩
  · exact he (own_type h.row hk hc.symm)
  · rw [byteCells_app, List.length_append]
    exact row_set (row_set hown (Nat.lt_succ_self c) _ _) (Nat.lt_succ_self c) _ _
  · have := h.len; simp; omega
end

/-- What cutting out of one symbol leaves. -/
structure SymOut (w w' : World) (c b fr dst p : Nat) (x out : List Nat) : Prop where
  below : Below c w w'
  stay : ∀ k cs e, k ≠ c → e ≠ 5 → Blk w k cs e → Blk w' k cs e
  ex : ∃ ov, CutM w' c b fr dst (min (p + x.length) dst) ov (out ++ cutX x fr dst p)

theorem below_set {c : Nat} {w w' : World} (h : Below c w w') (j : Nat) (u : Value) : Below c w (w'.setCell ⟨c, j, none⟩ u) := h.setCell (Nat.le_refl _) _

set_option maxHeartbeats 4000000 in
set_option maxRecDepth 100000 in
theorem symbol_any {T : List (List Nat)} {t : TT} (hS : Sound t.rules T) (hrl : t.rules.length ≤ 90000) {n b : Nat} {rv sv : Value} {fr dst : Nat} (hfd : fr ≤ dst) (hd : dst ≤ 1099511627776) (c : Nat) (hn : n ≤ c) :
    ∀ (k s : Nat), s < k → s < 256 + t.rules.length → (symT T s).length ≤ 1099511627776 → ∀ (p : Nat) (ov : Value) (out : List Nat) (w : World), TR w n b t rv sv → CutM w c b fr dst p ov out → p ≤ dst →
      Calls Tryz.prog 101 #[.pointer (some ⟨c, 0, none⟩), .int .i64 (s : Int)] w fun e w' => e = .returned (.tuple #[]) ∧ SymOut w w' c b fr dst p (symT T s) out := by
  intro k
  induction k with
  | zero => intro s hs; omega
  | succ k ih =>
    intro s hs hs2 hL p ov out w hT hC hp
    have c3 : w.cell? ⟨c, 3, none⟩ = some (.int .i64 (p : Int)) := hC.blk.cell 3
    have c2 : w.cell? ⟨c, 2, none⟩ = some (.int .i64 (dst : Int)) := hC.blk.cell 2
    have hcw : c < w.heap.size := hC.lt
    by_cases h1 : (dst : Int) ≤ (p : Int)
    · have hfin : Hid (∀ m, SymOut w (w.drewN m) c b fr dst p (symT T s) out) := fun m => ⟨((Kept.refl [] w).drewN m).below (Nat.le_of_lt hcw) (by simp), fun k cs e _ _ hk => hk.kept ((Kept.refl [] w).drewN m) (by simp), ov, by
        rw [cutX_late (by omega), List.append_nil, show min (p + (symT T s).length) dst = p by omega]
        exact hC.kept ((Kept.refl [] w).drewN m)⟩
      clear ih hT hC hL hS
      go_enter Tryz.func101, Tryz.ntmps101
      go_wp2_with fail
      go_quiet (fail)
      go_wp2
      exact bodyPost_ret (v := .tuple #[]) (by simp [results, Tryz.results101, go_sem]) rfl ⟨rfl, hfin.out _⟩
    have h1' : (p : Int) < (dst : Int) := by omega
    have hpart : partAt t.rules s = ptOf (symT T s) := hS.part hs2
    have hlen : (ptOf (symT T s)).len = (symT T s).length := by rw [ptOf_len, capL_small (by rw [capL_of (by omega)]; exact hL)]
    have hc1 : Hid (∀ w', Kept [] w w' → Calls Tryz.prog 147 #[.pointer (some ⟨b, 0, none⟩), .int .i64 (s : Int)] w' fun e w2 => e = .returned (partAt t.rules s).val ∧ Kept [] w' w2) := fun w' k => partT_any (hT.kept k) s (by omega) (by omega)
    rw [hpart] at hc1
    have c1 : w.cell? ⟨c, 1, none⟩ = some (.int .i64 (fr : Int)) := hC.blk.cell 1
    have c4 : w.cell? ⟨c, 4, none⟩ = some ov := hC.blk.cell 4
    have c0 : w.cell? ⟨c, 0, none⟩ = some (.pointer (some ⟨b, 0, none⟩)) := hC.blk.cell 0
    have hlen1 : (symT T s).length ≤ 1099511627776 := hL
    have hLne : 1 ≤ (symT T s).length := by
      cases hx : symT T s with
      | nil => exact absurd hx (hS.ne hs2)
      | cons _ _ => simp
    have hTH : Hid (TR _ _ _ _ _ _) := hT
    have hCH : Hid (CutM _ _ _ _ _ _ _ _) := hC
    obtain ⟨L, hLL⟩ : ∃ L, L = (symT T s).length := ⟨_, rfl⟩
    rw [← hLL] at hlen hlen1 hLne
    have hLH : Hid (L = (symT T s).length) := hLL
    clear hLL hL hT hC hpart
    generalize ptOf (symT T s) = pt at *
    obtain ⟨p1, p2, p3, p4⟩ := pt
    simp only [] at hlen
    subst hlen
    unfold PT.val PT.arr at hc1
    simp only [] at hc1
    have hfp := field_len
    by_cases h2 : ((p + p1 : Nat) : Int) ≤ (fr : Int)
    · have hfin : Hid (∀ w1, Kept [] w w1 → SymOut w (w1.setCell ⟨c, 3, none⟩ (.int .i64 ((p + p1 : Nat) : Int))) c b fr dst p (symT T s) out) := fun w1 k1 => ⟨below_set (k1.below (Nat.le_of_lt hcw) (by simp)) _ _, fun k cs e hk _ hb => (hb.kept k1 (by simp)).other _ _ (fun hc => hk hc), ov, by
        have := hLH.out
        rw [cutX_early (by omega), List.append_nil, show min (p + (symT T s).length) dst = p + p1 by omega]
        exact (hCH.out.kept k1).go (by omega)⟩
      have h2' : (p : Int) + (p1 : Int) ≤ (fr : Int) := by omega
      rw [show ((p + p1 : Nat) : Int) = (p : Int) + (p1 : Int) by omega] at hfin
      clear ih hS h2
      go_enter Tryz.func101, Tryz.ntmps101
      go_wp2_with fail
      go_quiet (fail)
      go_wp2_with fail
      go_region_law (go_simp; go_at_call 147; refine (hc1.out _ (((Kept.refl [] w).drewN _).drew)).mono ?_; rintro _ w5 ⟨rfl, k5⟩; have K5 := (((Kept.refl [] w).drewN _).drew).trans k5; have r3 : w5.cell? ⟨c, 3, none⟩ = some (.int .i64 (p : Int)) := (K5.cell' hcw 3).trans c3; have r1 : w5.cell? ⟨c, 1, none⟩ = some (.int .i64 (fr : Int)) := (K5.cell' hcw 1).trans c1; have r0 : w5.cell? ⟨c, 0, none⟩ = some (.pointer (some ⟨b, 0, none⟩)) := (K5.cell' hcw 0).trans c0; have q3 : w5.frozen? ⟨c, 3, none⟩ = false := (hCH.out.kept K5).blk.frozen 3)
      all_goals
        go_wp2
        exact bodyPost_ret (v := .tuple #[]) (by simp [results, Tryz.results101, go_sem]) rfl ⟨rfl, hfin.out _ K5⟩
    · have h2' : (fr : Int) < (p : Int) + (p1 : Int) := by omega
      clear h2
      by_cases h3 : (s : Int) < 256
      · have hx : symT T s = [s] := by unfold symT; rw [if_pos (by omega)]
        have hp1 : p1 = 1 := by rw [hLH.out, hx]; rfl
        subst hp1
        rw [hx]
        obtain ⟨i0, hi0, hz0, hz1, hz2⟩ := info_parts infoU8
        have hfin : Hid (∀ w1 w3 v', Kept [] w w1 → w1.grownBy w3 ov.ownBlock → w3.ownsRow (c + 1) 5 1 v' (out.length + 1) (byteCells out ++ [.int .u8 (s : Int)]) → SymOut w ((w3.setCell ⟨c, 4, none⟩ v').setCell ⟨c, 3, none⟩ (.int .i64 ((p + 1 : Nat) : Int))) c b fr dst p [s] out ∧ Blk w3 c #[.pointer (some ⟨b, 0, none⟩), .int .i64 (fr : Int), .int .i64 (dst : Int), .int .i64 (p : Int), ov] 175) := fun w1 w3 v' k1 g hown => by
          obtain ⟨x1, x2, x4, x3⟩ := (hCH.out.kept k1).grow g hown
          refine ⟨⟨below_set (below_set ((k1.below (Nat.le_of_lt hcw) (by simp)).trans x2) _ _) _ _, fun k cs e hk he hb => ((x4 k cs e he (hb.kept k1 (by simp))).other _ _ (fun hc => hk hc)).other _ _ (fun hc => hk hc), v', ?_⟩, x1⟩
          rw [cutX_one (by omega) (by omega), show min (p + [s].length) dst = p + 1 by simp; omega]
          exact x3
        have own : ∀ w1, Kept [] w w1 → w1.ownsRow (c + 1) 5 1 ov out.length (byteCells out) := fun w1 k1 => (hCH.out.kept k1).row
        have mb : out.length + 1 ≤ maxLen := by have := hCH.out.len; unfold maxLen; omega
        have mc : (out.length + 1) * 1 ≤ 140737488355328 := by have := hCH.out.len; omega
        clear ih hS hx
        go_enter Tryz.func101, Tryz.ntmps101
        go_wp2_with fail
        go_quiet (fail)
        go_wp2_with fail
        go_region_law (go_simp; go_at_call 147; refine (hc1.out _ (((Kept.refl [] w).drewN _).drew)).mono ?_; rintro _ w5 ⟨rfl, k5⟩; have K5 := (((Kept.refl [] w).drewN _).drew).trans k5; have r3 : w5.cell? ⟨c, 3, none⟩ = some (.int .i64 (p : Int)) := (K5.cell' hcw 3).trans c3; have r1 : w5.cell? ⟨c, 1, none⟩ = some (.int .i64 (fr : Int)) := (K5.cell' hcw 1).trans c1; have r4 : w5.cell? ⟨c, 4, none⟩ = some ov := (K5.cell' hcw 4).trans c4; have r0 : w5.cell? ⟨c, 0, none⟩ = some (.pointer (some ⟨b, 0, none⟩)) := (K5.cell' hcw 0).trans c0; have q3 : w5.frozen? ⟨c, 3, none⟩ = false := (hCH.out.kept K5).blk.frozen 3)
        all_goals
          go_wp2_with (at_builtin; refine wpList_append_own _ rfl (.tmp 43) (.tmp 46) 77 rfl (c + 1) 5 i0 _ 1 1 Tryz.underlying77 hi0 hz0 hz1 hz2 rfl (by decide) ov out.length (byteCells out) rfl ?own ⟨w5.heap.size, 0, none⟩ 1 1 [.int .u8 (s : Int)] rfl rfl ?c1 ?c2 ?b1 ?b2 ?b3 ?kk)
          case own => exact own _ (K5.alloc _)
          case c1 => exact cells_new _ _ _ _ rfl
          case c2 => simp [Value.oneCell']
          case b1 => exact mb
          case b2 => exact mc
          case b3 => have := K5.size; simp; omega
          case kk =>
            intro v' w3 hown hgrow _
            obtain ⟨gv, cap, rfl⟩ := own_form hown (by omega)
            obtain ⟨f1, f2⟩ := hfin.out _ _ _ (K5.alloc _) hgrow hown
            have f1 : Hid (SymOut _ _ _ _ _ _ _ _ _) := f1
            have e4 : w3.cell? ⟨c, 4, none⟩ = some ov := f2.cell 4
            have e3 : w3.cell? ⟨c, 3, none⟩ = some (.int .i64 (p : Int)) := f2.cell 3
            have f4 : w3.frozen? ⟨c, 4, none⟩ = false := f2.frozen 4
            have f3 : w3.frozen? ⟨c, 3, none⟩ = false := f2.frozen 3
            have hc3 : c < w3.heap.size := f2.lt
            clear f2 hown hgrow
            go_wp2
            exact bodyPost_ret (v := .tuple #[]) (by simp [results, Tryz.results101, go_sem]) rfl ⟨rfl, f1.out⟩
      · obtain ⟨x, hx⟩ : ∃ x, t.rules[s - 256]? = some x := ⟨_, List.getElem?_eq_getElem (by omega)⟩
        obtain ⟨u1, u2, u3, _⟩ := hS.rule _ _ hx
        have hxx : symT T s = symT T x.l ++ symT T x.r := by
          rw [← u3]
          unfold symT
          rw [if_neg (by omega)]
        have hrule : ruleAt t.rules (s : Int) = x := by
          unfold ruleAt
          rw [if_pos (by omega), show ((s : Int) - 256).toNat = s - 256 by omega, hx]
          rfl
        have hle : (symT T x.l).length + (symT T x.r).length = (symT T s).length := by rw [hxx, List.length_append]
        have hcr : Hid (∀ w', Kept [] w w' → Calls Tryz.prog 144 #[.pointer (some ⟨b, 0, none⟩), .int .i64 (s : Int)] w' fun e w2 => e = .returned (ruleAt t.rules s).val ∧ Kept [] w' w2) := fun w' k => ruleT_any (hTH.out.kept k) s (by omega) (by omega)
        rw [hrule] at hcr
        have hl := hLH.out
        have hA : Hid (∀ w', Kept [] w w' → Calls _ _ _ w' _) := fun w' k => ih x.l (by omega) (by omega) (by omega) p ov out w' (hTH.out.kept k) (hCH.out.kept k) hp
        have hB : Hid (∀ w1 w2, Kept [] w w1 → SymOut w1 w2 c b fr dst p (symT T x.l) out → Calls Tryz.prog 101 #[.pointer (some ⟨c, 0, none⟩), .int .i64 (x.r : Int)] w2 fun e w' => e = .returned (.tuple #[]) ∧ SymOut w w' c b fr dst p (symT T s) out) := fun w1 w2 k1 o => by
          obtain ⟨ov2, hC2⟩ := o.ex
          have hT2 : TR w2 n b t rv sv := (hTH.out.kept k1).under o.below hn
          refine (ih x.r (by omega) (by omega) (by omega) _ ov2 _ w2 hT2 hC2 (Nat.min_le_right _ _)).mono ?_
          rintro e w' ⟨he, o2⟩
          obtain ⟨ov3, hC3⟩ := o2.ex
          refine ⟨he, ((k1.below (Nat.le_of_lt hcw) (by simp)).trans o.below).trans o2.below, fun k cs e hk he hb => o2.stay k cs e hk he (o.stay k cs e hk he (hb.kept k1 (by simp))), ov3, ?_⟩
          rw [hxx, cutX_app, ← List.append_assoc, List.length_append]
          rw [cutX_min] at hC3
          rw [show min (p + ((symT T x.l).length + (symT T x.r).length)) dst = min (min (p + (symT T x.l).length) dst + (symT T x.r).length) dst by omega]
          exact hC3
        clear ih hS hx u1 u2 u3 hxx hrule hle hl
        obtain ⟨rl, rr, ⟨y1, y2, y3, y4⟩⟩ := x
        unfold RU.val RU.cells at hcr
        simp only [] at hcr hA hB
        have h3' : (256 : Int) ≤ (s : Int) := by omega
        clear h3
        generalize symT T rl = XL at *
        generalize symT T rr = XR at *
        generalize symT T s = XS at *
        go_enter Tryz.func101, Tryz.ntmps101
        go_wp2_with fail
        go_quiet (fail)
        go_wp2_with fail
        go_region_law (go_simp; go_at_call 147; refine (hc1.out _ (((Kept.refl [] w).drewN _).drew)).mono ?_; rintro _ w5 ⟨rfl, k5⟩; have K5 := (((Kept.refl [] w).drewN _).drew).trans k5; have r3 : w5.cell? ⟨c, 3, none⟩ = some (.int .i64 (p : Int)) := (K5.cell' hcw 3).trans c3; have r1 : w5.cell? ⟨c, 1, none⟩ = some (.int .i64 (fr : Int)) := (K5.cell' hcw 1).trans c1; have r0 : w5.cell? ⟨c, 0, none⟩ = some (.pointer (some ⟨b, 0, none⟩)) := (K5.cell' hcw 0).trans c0; have q3 : w5.frozen? ⟨c, 3, none⟩ = false := (hCH.out.kept K5).blk.frozen 3)
        all_goals
          go_wp2_with (first
            | (go_at_call 144
               refine (hcr.out _ K5).mono ?_
               rintro _ w6 ⟨rfl, k6⟩
               have K6 := (K5.trans k6).alloc (.cells #[.int .i64 rl, .int .i64 rr, .int .i64 y1, .int .i64 y2, .int .i64 y3, .int .i64 y4] 221)
               have L6 := (K5.trans k6).size)
            | (go_at_call_of 101 (Value.int IntKind.i64 (rl : Int))
               refine (hA.out _ K6).mono ?_
               rintro _ w7 ⟨rfl, o7⟩
               have o7H : Hid (SymOut _ _ _ _ _ _ _ _ _) := o7
               have e1 : w7.cell? ⟨w6.heap.size, 1, none⟩ = some (.int .i64 rr) := (o7.stay _ _ _ (by omega) (by decide) (Blk.new w6 _ _)).cell 1)
            | (go_at_call_of 101 (Value.int IntKind.i64 (rr : Int))
               refine (hB.out _ _ K6 o7H.out).mono ?_
               rintro _ w8 ⟨rfl, o8⟩))
          go_end0
          exact ⟨rfl, o8⟩

end Go.Proofs.YtgifhgnccmnbiabGreatDoor

set_option linter.unusedVariables false
set_option linter.unusedSimpArgs false
namespace Go.Proofs.YtgifhgnccmnbiabGreatDoor
open Go.RowKit Go.IntWalk

/-- The number of the two bytes at a place; -1: they are not there. -/
def prI (f : ByteArray) (i : Nat) : Int := if i + 2 ≤ f.size then (bt f i : Int) + 256 * (bt f (i + 1) : Int) else -1
theorem prI_neg {f : ByteArray} {i : Nat} : prI f i < 0 ↔ ¬ i + 2 ≤ f.size := by
  unfold prI; split
  · constructor
    · intro h; omega
    · intro h; omega
  · constructor
    · intro h; assumption
    · intro h; omega

/-- A file of rules, by the document's words. -/
structure GOk (f : ByteArray) : Prop where
  five : 5 ≤ f.size
  most : f.size ≤ 4000
  sg : isSG f
  r : bt f 2 ≤ 100
  rules : ∀ k, k < 2 * bt f 2 → 0 ≤ prI f (3 + 2 * k) ∧ prI f (3 + 2 * k) < 256 + ((k / 2 : Nat) : Int)
  n0 : 0 ≤ prI f (3 + 4 * bt f 2)
  n1 : prI f (3 + 4 * bt f 2) ≤ 1000
  size : (f.size : Int) = 5 + 4 * (bt f 2 : Int) + 2 * prI f (3 + 4 * bt f 2)
  syms : ∀ k : Nat, (k : Int) < prI f (3 + 4 * bt f 2) → prI f (5 + 4 * bt f 2 + 2 * k) < 256 + (bt f 2 : Int)
end Go.Proofs.YtgifhgnccmnbiabGreatDoor

set_option linter.unusedVariables false
set_option linter.unusedSimpArgs false
namespace Go.Proofs.YtgifhgnccmnbiabGreatDoor
open Go.RowKit Go.IntWalk

def PI.arr (p : PI) : Array Value := #[.int .i64 (p.long : Int), .int .i64 (p.ends : Int), .int .i64 (p.tail : Int), .slice none 0 0, .slice none 0 0, .int .i64 0]
def PI.val (p : PI) : Value := .agg p.arr
def PI.cells (p : PI) : List Value := [.int .i64 (p.long : Int), .int .i64 (p.ends : Int), .int .i64 (p.tail : Int), .slice none 0 0, .slice none 0 0, .int .i64 0]
def piCells (l : List PI) : List Value := l.flatMap PI.cells
structure PIsmall (p : PI) : Prop where
  long : p.long ≤ 1099511627777
  ends : p.ends ≤ 1099511627777
  tail : p.tail ≤ 1099511627777
end Go.Proofs.YtgifhgnccmnbiabGreatDoor

set_option linter.unusedVariables false
set_option linter.unusedSimpArgs false
namespace Go.Proofs.YtgifhgnccmnbiabGreatDoor
open Go.RowKit Go.IntWalk

/-- A file in memory. -/
structure GM (w : World) (b B C : Nat) (kind : Int) (n : Nat) (rl top : List Nat) (ps : List PI) (rv tv pv : Value) : Prop where
  blk : Blk w b #[.int .i64 kind, .int .i64 (n : Int), rv, tv, pv] 71
  lt : b < B
  up : B ≤ C
  rules : w.ownsRow B 3 1 rv rl.length (symCells rl)
  low : ∀ g, rv.ownBlock = some g → g < C
  top : w.ownsRow C 3 1 tv top.length (symCells top)
  pieces : w.ownsRow B 122 6 pv ps.length (piCells ps)
  small : ∀ x, x ∈ ps → PIsmall x
theorem GM.kept {w w' : World} {b B C : Nat} {kind : Int} {n : Nat} {rl top : List Nat} {ps : List PI} {rv tv pv : Value} (h : GM w b B C kind n rl top ps rv tv pv) (k : Kept [] w w') : GM w' b B C kind n rl top ps rv tv pv :=
  ⟨h.blk.kept k (by simp), h.lt, h.up, row_stay (S := []) h.rules k (fun _ _ => by simp), h.low, row_stay (S := []) h.top k (fun _ _ => by simp), row_stay (S := []) h.pieces k (fun _ _ => by simp), h.small⟩
def wholeR (ps : List PI) (l : List Nat) : PI := l.foldl (fun p s => joinedP p (sizeP ps s)) {}
theorem symCells_get (l : List Nat) (i : Nat) (hi : i < l.length) : (symCells l)[i]? = some (.int .i64 ((l.getD i 0 : Nat) : Int)) := by simp [symCells, List.getD, hi]

end Go.Proofs.YtgifhgnccmnbiabGreatDoor

set_option linter.unusedVariables false
set_option linter.unusedSimpArgs false
namespace Go.Proofs.YtgifhgnccmnbiabGreatDoor
open Go.RowKit Go.IntWalk

/-- The entry of a number. -/
def entB (tab : List ByteArray) (c : Nat) : ByteArray := if c < 256 then ⟨#[c.toUInt8]⟩ else tab.getD (c - 257) ByteArray.empty
def strRow (l : List ByteArray) : List Value := l.map Value.string

end Go.Proofs.YtgifhgnccmnbiabGreatDoor

set_option linter.unusedVariables false
set_option linter.unusedSimpArgs false
namespace Go.Proofs.YtgifhgnccmnbiabGreatDoor
open Go.RowKit Go.IntWalk

structure ZB where
  p : Nat := 0
  n : Nat := 0
  out : ByteArray := ByteArray.empty
  tab : List ByteArray := []
  last : ByteArray := ByteArray.empty
def frB (r : ZB) : Nat := 257 + r.tab.length
def zwB (m : Nat) (r : ZB) : Nat := widP (frB r) m
def zgoB (B : ByteArray) (m : Nat) (r : ZB) : Bool := decide (r.p + zwB m r ≤ 8 * B.size)
def nowB (r : ZB) (c : Nat) : ByteArray := if c = frB r then r.last ++ r.last.extract 0 1 else entB r.tab c
/-- What a code comes to; none: the file is none. -/
def tkB (m : Nat) (r : ZB) (c : Nat) : Option ZB :=
  if c = 256 then some { r with p := r.p + zwB m r, n := r.n + 1, tab := [], last := ByteArray.empty }
  else if r.last.size = 0 ∧ 256 < c then none
  else if frB r < c ∨ (c = frB r ∧ ¬ frB r < 2 ^ m) then none
  else some { p := r.p + zwB m r, n := r.n + 1, out := r.out ++ nowB r c, tab := if r.last.size ≠ 0 ∧ frB r < 2 ^ m then r.tab ++ [r.last ++ (nowB r c).extract 0 1] else r.tab, last := nowB r c }
def zsB (B : ByteArray) (m : Nat) (r : ZB) : Option ZB := tkB m r (numB B r.p (zwB m r)).1
def zitB (B : ByteArray) (m : Nat) : Nat → Option ZB
  | 0 => some {}
  | n + 1 => (zitB B m n).bind (zsB B m)

/-- The bounds that stay. -/
structure ZBI (B : ByteArray) (r : ZB) : Prop where
  p : 9 * r.n ≤ r.p
  pb : r.p ≤ 8 * B.size
  tab : r.tab.length ≤ r.n
  ent : ∀ s, s ∈ r.tab → 1 ≤ s.size ∧ s.size ≤ r.n + 1
  last : r.last.size ≤ r.n
  out : r.out.size ≤ 5000 * r.n
theorem ba_size_app (a b : ByteArray) : (a ++ b).size = a.size + b.size := by simp
theorem entB_size {r : ZB} {B : ByteArray} (h : ZBI B r) {c : Nat} (hc : c < 256 ∨ (257 ≤ c ∧ c - 257 < r.tab.length)) : 1 ≤ (entB r.tab c).size ∧ (entB r.tab c).size ≤ r.n + 1 := by
  unfold entB
  split
  · exact ⟨Nat.le_refl 1, by show 1 ≤ _; omega⟩
  · have : r.tab.getD (c - 257) ByteArray.empty ∈ r.tab := by
      rw [List.getD, List.getElem?_eq_getElem (by omega)]; exact List.getElem_mem _
    exact h.ent _ this
theorem nowB_size {r : ZB} {B : ByteArray} (h : ZBI B r) {c : Nat} (h0 : c ≠ 256) (hl : ¬ (r.last.size = 0 ∧ 256 < c)) (hc : c ≤ frB r) : 1 ≤ (nowB r c).size ∧ (nowB r c).size ≤ r.n + 1 := by
  unfold nowB
  split
  · rename_i he
    have h1 : r.last.size ≠ 0 := fun hx => hl ⟨hx, by unfold frB at he; omega⟩
    have := h.last
    rw [ba_size_app, ByteArray.size_extract]
    omega
  · refine entB_size h ?_
    unfold frB at *
    omega
theorem ZBI.take {B : ByteArray} {m : Nat} {r r' : ZB} (h : ZBI B r) (hg : zgoB B m r = true) (hB : B.size ≤ 4000) {c : Nat} (ht : tkB m r c = some r') : ZBI B r' := by
  have hg' : r.p + zwB m r ≤ 8 * B.size := by unfold zgoB at hg; simpa using hg
  have hw := widP_bd (frB r) m
  have hwz : zwB m r = widP (frB r) m := rfl
  have h1 := h.p
  have hn : r.n ≤ 3600 := by have := h.pb; omega
  unfold tkB at ht
  split at ht
  · simp only [Option.some.injEq] at ht
    subst ht
    exact ⟨by simp only []; omega, hg', by simp, by simp, by show 0 ≤ _; omega, by have := h.out; simp only []; omega⟩
  · split at ht
    · cases ht
    · split at ht
      · cases ht
      · rename_i h0 hl hc
        simp only [Option.some.injEq] at ht
        subst ht
        have hs := nowB_size h h0 hl (by omega)
        have hla := h.last
        have hta := h.tab
        refine ⟨by simp only []; omega, hg', ?_, fun s hs2 => ?_, by simp only []; omega, by have := h.out; simp only []; rw [ba_size_app]; omega⟩
        · simp only []
          split
          · rw [List.length_append, List.length_singleton]; omega
          · omega
        · simp only [] at hs2 ⊢
          split at hs2
          · rename_i hj
            rcases List.mem_append.1 hs2 with hs2 | hs2
            · have := h.ent s hs2; omega
            · simp at hs2
              subst hs2
              rw [ba_size_app, ByteArray.size_extract]
              omega
          · have := h.ent s hs2; omega

structure ZBM (w0 w : World) (r : ZB) (ov tv : Value) : Prop where
  out : w.ownsRow w0.heap.size 5 1 ov r.out.size (Lib.strCells r.out)
  tab : w.ownsRow w0.heap.size 9 1 tv r.tab.length (strRow r.tab)
  kept : Kept [] w0 w
theorem ZBM.keep {w0 w w' : World} {r : ZB} {ov tv : Value} (h : ZBM w0 w r ov tv) (k : Kept [] w w') : ZBM w0 w' r ov tv :=
  ⟨row_stay h.out k (fun _ _ => by simp), row_stay h.tab k (fun _ _ => by simp), h.kept.trans k⟩
theorem grow_kept {w0 w w' : World} {v : Value} {e z n : Nat} {xs : List Value} (k : Kept [] w0 w) (h : w.ownsRow w0.heap.size e z v n xs) (g : w.grownBy w' v.ownBlock) : Kept [] w0 w' :=
  ⟨g.os.trans k.os, g.tape.trans k.tape, g.output.trans k.output, Nat.le_trans k.size g.size, fun i hi _ => (g.block i (Nat.lt_of_lt_of_le hi k.size) (fun hc => by have := (h.lt i hc.symm).1; omega)).trans (k.block i hi (by simp))⟩
end Go.Proofs.YtgifhgnccmnbiabGreatDoor

set_option linter.unusedVariables false
set_option linter.unusedSimpArgs false
namespace Go.Proofs.YtgifhgnccmnbiabGreatDoor
open Go.RowKit Go.IntWalk

def isZ (f : ByteArray) : Prop := 3 ≤ f.size ∧ f.size ≤ 4000 ∧ isSZ f ∧ 9 ≤ bt f 2 ∧ bt f 2 ≤ 12
def badR3 : Ending := .returned (.tuple #[.slice none 0 0, .int .i64 0, .bool false])
/-- What the document's reader comes to. -/
structure CodesR (f : ByteArray) (w w' : World) (e : Ending) : Prop where
  kept : Kept [] w w'
  out : (¬ isZ f ∧ e = badR3) ∨ (isZ f ∧ ∃ n r, zitB (f.extract 3 f.size) (bt f 2) n = some r ∧ ZBI (f.extract 3 f.size) r ∧ r.n = n ∧ (∀ i, i < n → ∃ q, zitB (f.extract 3 f.size) (bt f 2) i = some q ∧ zgoB (f.extract 3 f.size) (bt f 2) q = true) ∧
    ((zgoB (f.extract 3 f.size) (bt f 2) r = true ∧ zsB (f.extract 3 f.size) (bt f 2) r = none ∧ e = badR3) ∨
     (zgoB (f.extract 3 f.size) (bt f 2) r = false ∧ endB (f.extract 3 f.size) r.p = false ∧ e = badR3) ∨
     (zgoB (f.extract 3 f.size) (bt f 2) r = false ∧ endB (f.extract 3 f.size) r.p = true ∧ ∃ ov tv, ZBM w w' r ov tv ∧ e = .returned (.tuple #[ov, .int .i64 (n : Int), .bool true]))))

/-- The state of the loop. -/
structure ZBS (f : ByteArray) (n : Nat) (r : ZB) : Prop where
  it : zitB (f.extract 3 f.size) (bt f 2) n = some r
  inv : ZBI (f.extract 3 f.size) r
  num : r.n = n
  on : ∀ i, i < n → ∃ q, zitB (f.extract 3 f.size) (bt f 2) i = some q ∧ zgoB (f.extract 3 f.size) (bt f 2) q = true
theorem tkB_n {m : Nat} {r r' : ZB} {c : Nat} (h : tkB m r c = some r') : r'.n = r.n + 1 := by
  unfold tkB at h
  split at h
  · simp only [Option.some.injEq] at h; subst h; rfl
  · split at h
    · cases h
    · split at h
      · cases h
      · simp only [Option.some.injEq] at h; subst h; rfl
theorem ZBS.next {f : ByteArray} {n : Nat} {r r' : ZB} (h : ZBS f n r) (hf : f.size ≤ 4000) (hg : zgoB (f.extract 3 f.size) (bt f 2) r = true) (ht : tkB (bt f 2) r (numB (f.extract 3 f.size) r.p (zwB (bt f 2) r)).1 = some r') : ZBS f (n + 1) r' := by
  refine ⟨?_, h.inv.take hg (by simp; omega) ht, by rw [tkB_n ht, h.num], fun i hi => ?_⟩
  · show (zitB _ _ n).bind _ = _
    rw [h.it]
    exact ht
  · by_cases hin : i = n
    · subst hin; exact ⟨r, h.it, hg⟩
    · exact h.on i (by omega)
theorem ZBS.bad {f : ByteArray} {n : Nat} {r : ZB} {w w' : World} (h : ZBS f n r) (hz : isZ f) (hg : zgoB (f.extract 3 f.size) (bt f 2) r = true) (ht : tkB (bt f 2) r (numB (f.extract 3 f.size) r.p (zwB (bt f 2) r)).1 = none) (k : Kept [] w w') : CodesR f w w' badR3 :=
  ⟨k, Or.inr ⟨hz, n, r, h.it, h.inv, h.num, h.on, Or.inl ⟨hg, ht, rfl⟩⟩⟩

end Go.Proofs.YtgifhgnccmnbiabGreatDoor

set_option linter.unusedVariables false
set_option linter.unusedSimpArgs false
namespace Go.Proofs.YtgifhgnccmnbiabGreatDoor
open Go.RowKit Go.IntWalk

/-- The file is one of codes, n of them, and this is the state behind the last one. -/
structure ZGood (f : ByteArray) (n : Nat) (r : ZB) : Prop where
  file : isZ f
  it : zitB (f.extract 3 f.size) (bt f 2) n = some r
  inv : ZBI (f.extract 3 f.size) r
  num : r.n = n
  on : ∀ i, i < n → ∃ q, zitB (f.extract 3 f.size) (bt f 2) i = some q ∧ zgoB (f.extract 3 f.size) (bt f 2) q = true
  stop : zgoB (f.extract 3 f.size) (bt f 2) r = false
  fin : endB (f.extract 3 f.size) r.p = true
/-- It is none. -/
def ZNo (f : ByteArray) : Prop := ¬ isZ f ∨ (isZ f ∧ ∃ n r, zitB (f.extract 3 f.size) (bt f 2) n = some r ∧ (∀ i, i < n → ∃ q, zitB (f.extract 3 f.size) (bt f 2) i = some q ∧ zgoB (f.extract 3 f.size) (bt f 2) q = true) ∧
  ((zgoB (f.extract 3 f.size) (bt f 2) r = true ∧ zsB (f.extract 3 f.size) (bt f 2) r = none) ∨ (zgoB (f.extract 3 f.size) (bt f 2) r = false ∧ endB (f.extract 3 f.size) r.p = false)))
theorem CodesR.two {f : ByteArray} {w w' : World} {e : Ending} (h : CodesR f w w' e) : (ZNo f ∧ e = badR3) ∨ ∃ n r ov tv, ZGood f n r ∧ ZBM w w' r ov tv ∧ e = .returned (.tuple #[ov, .int .i64 (n : Int), .bool true]) := by
  rcases h.out with ⟨h1, h2⟩ | ⟨h1, n, r, hit, hinv, hnum, hon, ⟨a, b, c⟩ | ⟨a, b, c⟩ | ⟨a, b, ov, tv, hm, c⟩⟩
  · exact Or.inl ⟨Or.inl h1, h2⟩
  · exact Or.inl ⟨Or.inr ⟨h1, n, r, hit, hon, Or.inl ⟨a, b⟩⟩, c⟩
  · exact Or.inl ⟨Or.inr ⟨h1, n, r, hit, hon, Or.inr ⟨a, b⟩⟩, c⟩
  · exact Or.inr ⟨n, r, ov, tv, ⟨h1, hit, hinv, hnum, hon, a, b⟩, hm, c⟩

def bytesN (s : ByteArray) : List Nat := s.data.toList.map UInt8.toNat
theorem bytesN_len (s : ByteArray) : (bytesN s).length = s.size := by
  unfold bytesN
  rw [List.length_map, Array.length_toList]
  rfl
section
variable {w0 w1 : World} {b B C : Nat} {kind : Int} {n : Nat} {rl top : List Nat} {ps : List PI} {rv tv pv : Value}
end

end Go.Proofs.YtgifhgnccmnbiabGreatDoor

set_option linter.unusedVariables false
set_option linter.unusedSimpArgs false
namespace Go.Proofs.YtgifhgnccmnbiabGreatDoor
open Go.RowKit Go.IntWalk

def gN (f : ByteArray) : Nat := (prI f (3 + 4 * bt f 2)).toNat
def gA (f : ByteArray) (k : Nat) : Nat := (prI f (3 + 4 * k)).toNat
def gB (f : ByteArray) (k : Nat) : Nat := (prI f (5 + 4 * k)).toNat
def gRules (f : ByteArray) : Nat → List Nat
  | 0 => []
  | k + 1 => gRules f k ++ [gA f k, gB f k]
def gPs (f : ByteArray) : Nat → List PI
  | 0 => []
  | k + 1 => gPs f k ++ [joinedP (sizeP (gPs f k) (gA f k)) (sizeP (gPs f k) (gB f k))]
def gS (f : ByteArray) (j : Nat) : Nat := (prI f (5 + 4 * bt f 2 + 2 * j)).toNat
def gTop (f : ByteArray) : Nat → List Nat
  | 0 => []
  | j + 1 => gTop f j ++ [gS f j]
def gAll (f : ByteArray) : PI := wholeR (gPs f (bt f 2)) (gTop f (gN f))
theorem gPs_len (f : ByteArray) : ∀ k, (gPs f k).length = k
  | 0 => rfl
  | k + 1 => by show (gPs f k ++ _).length = _; rw [List.length_append, gPs_len f k]; rfl
theorem gTop_len (f : ByteArray) : ∀ k, (gTop f k).length = k
  | 0 => rfl
  | k + 1 => by show (gTop f k ++ _).length = _; rw [List.length_append, gTop_len f k]; rfl
theorem GOk.a {f : ByteArray} (h : GOk f) {k : Nat} (hk : k < bt f 2) : prI f (3 + 4 * k) = (gA f k : Int) ∧ gA f k < 256 + k := by
  have h1 := h.rules (2 * k) (by omega)
  have e : 3 + 2 * (2 * k) = 3 + 4 * k := by omega
  have e2 : 2 * k / 2 = k := by omega
  rw [e, e2] at h1
  unfold gA; omega
theorem GOk.b {f : ByteArray} (h : GOk f) {k : Nat} (hk : k < bt f 2) : prI f (5 + 4 * k) = (gB f k : Int) ∧ gB f k < 256 + k := by
  have h1 := h.rules (2 * k + 1) (by omega)
  have e : 3 + 2 * (2 * k + 1) = 5 + 4 * k := by omega
  have e2 : (2 * k + 1) / 2 = k := by omega
  rw [e, e2] at h1
  unfold gB; omega
theorem GOk.n {f : ByteArray} (h : GOk f) : prI f (3 + 4 * bt f 2) = (gN f : Int) ∧ gN f ≤ 1000 ∧ f.size = 5 + 4 * bt f 2 + 2 * gN f := by
  have h1 := h.n0
  have h2 := h.n1
  have h3 := h.size
  unfold gN; omega
theorem GOk.s {f : ByteArray} (h : GOk f) {j : Nat} (hj : j < gN f) : prI f (5 + 4 * bt f 2 + 2 * j) = (gS f j : Int) ∧ gS f j < 256 + bt f 2 := by
  obtain ⟨n1, n2, n3⟩ := h.n
  have h1 := h.syms j (by omega)
  have h2 : 0 ≤ prI f (5 + 4 * bt f 2 + 2 * j) := by
    unfold prI
    rw [if_pos (by omega)]
    omega
  unfold gS; omega
theorem GOk.top {f : ByteArray} (h : GOk f) : ∀ j, j ≤ gN f → ∀ s, s ∈ gTop f j → s < 256 + bt f 2
  | 0, _, s, hs => nomatch hs
  | j + 1, hj, s, hs => by
    rcases List.mem_append.1 hs with hs | hs
    · exact h.top j (by omega) s hs
    · simp at hs; subst hs; exact (h.s (by omega)).2

/-- A file of rules in memory while its rules are read. -/
structure G2 (w : World) (b B n : Nat) (rl : List Nat) (ps : List PI) (rv pv : Value) : Prop where
  blk : Blk w b #[.int .i64 71, .int .i64 (n : Int), rv, .slice none 0 0, pv] 71
  lt : b < B
  up : B ≤ w.heap.size
  rules : w.ownsRow B 3 1 rv rl.length (symCells rl)
  pieces : w.ownsRow B 122 6 pv ps.length (piCells ps)
theorem G2.kept {w w' : World} {b B n : Nat} {rl : List Nat} {ps : List PI} {rv pv : Value} (h : G2 w b B n rl ps rv pv) (k : Kept [] w w') : G2 w' b B n rl ps rv pv :=
  ⟨h.blk.kept k (by simp), h.lt, Nat.le_trans h.up k.size, row_stay (S := []) h.rules k (fun _ _ => by simp), row_stay (S := []) h.pieces k (fun _ _ => by simp)⟩
theorem G2.all {w : World} {b B n : Nat} {rl : List Nat} {ps : List PI} {rv pv : Value} (h : G2 w b B n rl ps rv pv) (hs : ∀ x, x ∈ ps → PIsmall x) : GM w b B w.heap.size 71 n rl [] ps rv (.slice none 0 0) pv :=
  ⟨h.blk, h.lt, h.up, h.rules, fun g hg => (h.rules.lt g hg).2, World.ownsRow_nil _ _ _ 1, h.pieces, hs⟩
section
variable {w0 w1 : World} {b B n : Nat} {rl : List Nat} {ps : List PI} {rv pv : Value}
end
end Go.Proofs.YtgifhgnccmnbiabGreatDoor

set_option linter.unusedVariables false
set_option linter.unusedSimpArgs false
namespace Go.Proofs.YtgifhgnccmnbiabGreatDoor
open Go.RowKit Go.IntWalk

/-- What opening comes to. -/
structure OpenedR (f : ByteArray) (w w' : World) (e : Ending) : Prop where
  kept : Kept [] w w'
  out : (∃ n r b B C tv, ZGood f n r ∧ GM w' b B C 90 n [] (bytesN r.out) [] (.slice none 0 0) tv (.slice none 0 0) ∧ e = .returned (.tuple #[.pointer (some ⟨b, 0, none⟩), .int .i64 0])) ∨
    (ZNo f ∧ ¬ GOk f ∧ e = .returned (.tuple #[.pointer none, .int .i64 4])) ∨
    (ZNo f ∧ GOk f ∧ 1099511627776 < (gAll f).long ∧ e = .returned (.tuple #[.pointer none, .int .i64 5])) ∨
    (ZNo f ∧ GOk f ∧ (gAll f).long ≤ 1099511627776 ∧ ∃ b B C rv tv pv, GM w' b B C 71 (gN f) (gRules f (bt f 2)) (gTop f (gN f)) (gPs f (bt f 2)) rv tv pv ∧ e = .returned (.tuple #[.pointer (some ⟨b, 0, none⟩), .int .i64 0]))
theorem ZGood.size {f : ByteArray} {n : Nat} {r : ZB} (h : ZGood f n r) : r.out.size ≤ 20000000 := by
  have h1 := h.inv.out
  have h2 := h.inv.p
  have h3 := h.inv.pb
  have h4 := h.file.2.1
  have h5 : (f.extract 3 f.size).size = f.size - 3 := by simp
  rw [h5] at h3
  omega

end Go.Proofs.YtgifhgnccmnbiabGreatDoor

set_option linter.unusedVariables false
set_option linter.unusedSimpArgs false
namespace Go.Proofs.YtgifhgnccmnbiabGreatDoor
open Go.RowKit Go.IntWalk

def infoV (kind : Int) (syms len lines : Nat) : Array Value := #[.int .i64 kind, .int .i64 (syms : Int), .int .i64 (len : Int), .int .i64 (lines : Int)]
structure ShapeOut (f : ByteArray) (w w' : World) (e : Ending) : Prop where
  below : Below w.heap.size w w'
  out : ((∀ t, ¬ SFile f t) ∧ e = .returned (.tuple #[.agg zero4, .int .i64 4])) ∨
    ∃ t, SFile f t ∧ ((1099511627776 < t.whole.len ∧ e = .returned (.tuple #[.agg zero4, .int .i64 5])) ∨
      (t.whole.len ≤ 1099511627776 ∧ e = .returned (.tuple #[.agg (infoV t.kind t.syms t.whole.len (linesS t.whole)), .int .i64 0])))
theorem size_info : (Tryz.prog.info? 47).map (·.size) = some 4 := by kernel_rfl
theorem results_info {fn : Func} {p u : Tmp} (h : fn.results = #[.cell p 47, .tmp u]) (tmps : Array Value) (w : World) (g : Nat) (cs : Array Value) (hs : cs.size = 4) (v : Value)
    (hp : tmps.getD p undef = .pointer (some ⟨g, 0, none⟩)) (hv : tmps.getD u undef = v) (hg : Blk w g cs 47) : (results fn tmps).run Tryz.prog w = .ok (.tuple #[.agg cs, v]) w := by
  rw [results_cell_tmp h, hp, hv]
  simp only [asAddr, Sem.run_pure, Result.andThen_ok]
  rw [run_loadVar_row w g _ 47 cs (0, 0) _ hg Tryz.underlying47 rfl (by rw [hs]; exact size_info)]
  rfl

set_option maxHeartbeats 4000000 in
set_option maxRecDepth 100000 in
theorem shape_any (f : ByteArray) (hf : f.size ≤ maxLen) (w : World) :
    Calls Tryz.prog 23 #[.string f] w fun e w' => ShapeOut f w w' e := by
  have hc : Hid (Calls _ _ _ (w.alloc (.cells zero4 47)) _) := read_file f hf _
  unfold zero4 at hc
  have hB : Hid (Below w.heap.size w (w.alloc (.cells zero4 47))) := (Below.refl w.heap.size w).alloc (Nat.le_refl _) _
  unfold zero4 at hB
  go_enter Tryz.func23, Tryz.ntmps23
  go_wp2_with fail
  refine hc.out.mono ?_
  rintro e w1 hout
  obtain ⟨hbl, ho⟩ := hout
  have hz1 : Blk w1 w.heap.size zero4 47 := (hbl.block _ (by simp)).trans (Blk.new w _ _)
  have hS : Hid (∀ o u0 u1 u2 u3, Blk (((((w1.setCell ⟨w.heap.size, 0, none⟩ u0).setCell ⟨w.heap.size, 1, none⟩ u1).setCell ⟨w.heap.size, 2, none⟩ u2).setCell ⟨w.heap.size, 3, none⟩ u3).alloc o) w.heap.size #[u0, u1, u2, u3] 47 ∧ Below w.heap.size w (((((w1.setCell ⟨w.heap.size, 0, none⟩ u0).setCell ⟨w.heap.size, 1, none⟩ u1).setCell ⟨w.heap.size, 2, none⟩ u2).setCell ⟨w.heap.size, 3, none⟩ u3).alloc o)) := fun o u0 u1 u2 u3 =>
    ⟨(set4 hz1 u0 u1 u2 u3).alloc o, (((((hB.out.trans (hbl.mono (by simp))).setCell (Nat.le_refl _) _).setCell (Nat.le_refl _) _).setCell (Nat.le_refl _) _).setCell (Nat.le_refl _) _).alloc (by have := hz1.lt; simp [World.setCell]; omega) o⟩
  have hlt1 : w.heap.size < w1.heap.size := hz1.lt
  have z0 : w1.cell? ⟨w.heap.size, 0, none⟩ = some (.int .i64 0) := hz1.cell 0
  have z1 : w1.cell? ⟨w.heap.size, 1, none⟩ = some (.int .i64 0) := hz1.cell 1
  have z2 : w1.cell? ⟨w.heap.size, 2, none⟩ = some (.int .i64 0) := hz1.cell 2
  have z3 : w1.cell? ⟨w.heap.size, 3, none⟩ = some (.int .i64 0) := hz1.cell 3
  have y0 : w1.frozen? ⟨w.heap.size, 0, none⟩ = false := hz1.frozen 0
  have y1 : w1.frozen? ⟨w.heap.size, 1, none⟩ = false := hz1.frozen 1
  have y2 : w1.frozen? ⟨w.heap.size, 2, none⟩ = false := hz1.frozen 2
  have y3 : w1.frozen? ⟨w.heap.size, 3, none⟩ = false := hz1.frozen 3
  clear hz1 hc
  rcases ho with ⟨hn, rfl⟩ | ⟨t, ht, ⟨hb, rfl⟩ | ⟨hb, rv, sv, htv, rfl⟩⟩
  · have hnH : Hid (∀ t, ¬ SFile f t) := hn
    clear hn hbl
    unfold ztext
    go_wp2
    refine bodyPost_ret (v := .tuple #[.agg zero4, .int .i64 4]) (results_info Tryz.results23 _ _ w.heap.size zero4 rfl _ rfl rfl (hS.out _ _ _ _ _).1) rfl ⟨(hS.out _ _ _ _ _).2, Or.inl ⟨hnH.out, rfl⟩⟩
  · have htH : Hid (SFile f t) := ht
    have hbH : Hid (1099511627776 < t.whole.len) := hb
    clear ht hb hbl
    unfold ztext
    go_wp2
    refine bodyPost_ret (v := .tuple #[.agg zero4, .int .i64 5]) (results_info Tryz.results23 _ _ w.heap.size zero4 rfl _ rfl rfl (hS.out _ _ _ _ _).1) rfl ⟨(hS.out _ _ _ _ _).2, Or.inr ⟨t, htH.out, Or.inl ⟨hbH.out, rfl⟩⟩⟩
  · obtain ⟨ra, rn, rc, rfl⟩ := own_shape htv.rules
    obtain ⟨sa, sn, sc, rfl⟩ := own_shape htv.start
    have htH : Hid (SFile f t) := ht
    have hnl := htv.whole.nl
    have hL : Hid (linesS t.whole = if 0 < t.whole.len ∧ t.whole.last ≠ 10 then t.whole.nl + 1 else t.whole.nl) := rfl
    clear ht htv hbl
    unfold TT.cells
    obtain ⟨kind, syms, rules, start, ⟨p1, p2, p3, p4⟩⟩ := t
    simp only [] at hb hnl hL
    by_cases h1 : (0 : Int) < (p1 : Int)
    · by_cases h2 : (p4 : Int) = 10
      · have e : Hid (linesS ⟨p1, p2, p3, p4⟩ = p2) := by rw [hL.out]; exact if_neg (fun hc => hc.2 (by omega))
        have h2' : p4 = 10 := by omega
        have h2b : ((p4 : Int) != 10) = false := by rw [h2]; rfl
        clear hL h2 h2'
        go_wp2
        refine bodyPost_ret (v := .tuple #[.agg (infoV kind syms p1 p2), .int .i64 0]) (results_info Tryz.results23 _ _ w.heap.size (infoV kind syms p1 p2) rfl _ rfl rfl (hS.out _ _ _ _ _).1) rfl ⟨(hS.out _ _ _ _ _).2, Or.inr ⟨_, htH.out, Or.inr ⟨hb, by simp only []; rw [e.out]⟩⟩⟩
      · have e : Hid (linesS ⟨p1, p2, p3, p4⟩ = p2 + 1) := by rw [hL.out]; exact if_pos ⟨by omega, by omega⟩
        have h2b : ((p4 : Int) != 10) = true := by simp; omega
        clear hL h2
        go_wp2
        refine bodyPost_ret (v := .tuple #[.agg (infoV kind syms p1 (p2 + 1)), .int .i64 0]) (results_info Tryz.results23 _ _ w.heap.size (infoV kind syms p1 (p2 + 1)) rfl _ rfl rfl (hS.out _ _ _ _ _).1) rfl ⟨(hS.out _ _ _ _ _).2, Or.inr ⟨_, htH.out, Or.inr ⟨hb, by simp only []; rw [e.out]⟩⟩⟩
    · have e : Hid (linesS ⟨p1, p2, p3, p4⟩ = p2) := by rw [hL.out]; exact if_neg (fun hc => by have := hc.1; omega)
      clear hL
      go_wp2
      refine bodyPost_ret (v := .tuple #[.agg (infoV kind syms p1 p2), .int .i64 0]) (results_info Tryz.results23 _ _ w.heap.size (infoV kind syms p1 p2) rfl _ rfl rfl (hS.out _ _ _ _ _).1) rfl ⟨(hS.out _ _ _ _ _).2, Or.inr ⟨_, htH.out, Or.inr ⟨hb, by simp only []; rw [e.out]⟩⟩⟩

end Go.Proofs.YtgifhgnccmnbiabGreatDoor

set_option linter.unusedVariables false
set_option linter.unusedSimpArgs false
namespace Go.Proofs.YtgifhgnccmnbiabGreatDoor
open Go.RowKit Go.IntWalk

structure ShapeR (f : ByteArray) (w w' : World) (e : Ending) : Prop where
  kept : Kept [] w w'
  out : (∃ n r, ZGood f n r ∧ e = .returned (.tuple #[.agg (infoV 90 n (wholeR [] (bytesN r.out)).long (linesR (wholeR [] (bytesN r.out)))), .int .i64 0])) ∨
    (ZNo f ∧ ¬ GOk f ∧ e = .returned (.tuple #[.agg zero4, .int .i64 4])) ∨
    (ZNo f ∧ GOk f ∧ 1099511627776 < (gAll f).long ∧ e = .returned (.tuple #[.agg zero4, .int .i64 5])) ∨
    (ZNo f ∧ GOk f ∧ (gAll f).long ≤ 1099511627776 ∧ e = .returned (.tuple #[.agg (infoV 71 (gN f) (gAll f).long (linesR (gAll f))), .int .i64 0]))
theorem bytesN_lt (s : ByteArray) : ∀ x, x ∈ bytesN s → x < 256 := fun x hx => by
  unfold bytesN at hx
  obtain ⟨z, _, rfl⟩ := List.mem_map.1 hx
  exact z.toNat_lt
/-- The two ways in which a file opens. -/
theorem OpenedR.two {f : ByteArray} {w w' : World} {e : Ending} (h : OpenedR f w w' e) :
    (∃ c : Int, c ≠ 0 ∧ 0 ≤ c ∧ c ≤ 5 ∧ e = .returned (.tuple #[.pointer none, .int .i64 c]) ∧ ∀ w2, Kept [] w w2 → ShapeR f w w2 (.returned (.tuple #[.agg zero4, .int .i64 c]))) ∨
    ∃ b B C kind n rl top ps rv tv pv, GM w' b B C kind n rl top ps rv tv pv ∧ ps.length ≤ 1000 ∧ top.length ≤ 100000000 ∧ (∀ s, s ∈ top → s < 256 + ps.length) ∧ e = .returned (.tuple #[.pointer (some ⟨b, 0, none⟩), .int .i64 0]) ∧
      ∀ w2, Kept [] w w2 → ShapeR f w w2 (.returned (.tuple #[.agg (infoV kind n (wholeR ps top).long (linesR (wholeR ps top))), .int .i64 0])) := by
  rcases h.out with ⟨n, r, b, B, C, tv, hz, hG, he⟩ | ⟨a, c, he⟩ | ⟨a, c, d, he⟩ | ⟨a, c, d, b, B, C, rv, tv, pv, hG, he⟩
  · refine Or.inr ⟨b, B, C, 90, n, [], _, [], _, _, _, hG, by simp, by rw [bytesN_len]; have := hz.size; omega, fun s hs => by have := bytesN_lt _ s hs; simp; omega, he, fun w2 k => ⟨k, Or.inl ⟨n, r, hz, rfl⟩⟩⟩
  · exact Or.inl ⟨4, by omega, by omega, by omega, he, fun w2 k => ⟨k, Or.inr (Or.inl ⟨a, c, rfl⟩)⟩⟩
  · exact Or.inl ⟨5, by omega, by omega, by omega, he, fun w2 k => ⟨k, Or.inr (Or.inr (Or.inl ⟨a, c, d, rfl⟩))⟩⟩
  · refine Or.inr ⟨b, B, C, 71, gN f, _, _, _, _, _, _, hG, by rw [gPs_len]; have := c.r; omega, by rw [gTop_len]; have := c.n; omega, fun s hs => by rw [gPs_len]; exact c.top _ (Nat.le_refl _) s hs, he, fun w2 k => ⟨k, Or.inr (Or.inr (Or.inr ⟨a, c, d, rfl⟩))⟩⟩

end Go.Proofs.YtgifhgnccmnbiabGreatDoor

set_option linter.unusedVariables false
set_option linter.unusedSimpArgs false
namespace Go.Proofs.YtgifhgnccmnbiabGreatDoor
open Go.RowKit Go.IntWalk

theorem prI_of {f : ByteArray} {q : Nat} (h : q + 2 ≤ f.size) : prI f q = ((bt f q + 256 * bt f (q + 1) : Nat) : Int) := by unfold prI; rw [if_pos h]; omega
theorem num2 {f : ByteArray} {q : Nat} (h : q + 2 ≤ f.size) : numG f (q, false) 2 = (bt f q + 256 * bt f (q + 1), (q + 2, false)) := by
  have e1 : nextG f (q, false) = (bt f q, (q + 1, false)) := by unfold nextG; rw [if_pos (by show q < _; omega)]
  have e2 : nextG f (q + 1, false) = (bt f (q + 1), (q + 2, false)) := by unfold nextG; rw [if_pos (by show q + 1 < _; omega)]
  simp only [numG, e1, e2, Nat.zero_add, Nat.pow_zero, Nat.mul_one, Nat.pow_one]
  rw [Nat.mul_comm 256]
theorem num2_bad {f : ByteArray} {q : Nat} (h : ¬ q + 2 ≤ f.size) : (numG f (q, false) 2).2.2 = true := by
  show (nextG f (nextG f (q, false)).2).2.2 = true
  by_cases h1 : q < f.size
  · have e1 : nextG f (q, false) = (bt f q, (q + 1, false)) := by unfold nextG; rw [if_pos h1]
    rw [e1]
    unfold nextG; rw [if_neg (by show ¬ q + 1 < _; omega)]
  · have e1 : nextG f (q, false) = (0, (q, true)) := by unfold nextG; rw [if_neg h1]
    rw [e1]
    exact nextG_bad rfl
/-- The number at a place is there, and no greater than so many. -/
def Ok2 (f : ByteArray) (m q : Nat) : Prop := q + 2 ≤ f.size ∧ prI f q ≤ (m : Int)
theorem count2_of {f : ByteArray} {m q : Nat} (h : Ok2 f m q) : countG f 2 m (q, false) = ((prI f q).toNat, (q + 2, false)) := by
  obtain ⟨h1, h2⟩ := h
  rw [prI_of h1] at h2 ⊢
  unfold countG
  rw [num2 h1, if_neg (by simp only []; omega)]
  rfl
theorem count2_good {f : ByteArray} {m q : Nat} (h : (countG f 2 m (q, false)).2.2 = false) : Ok2 f m q := by
  by_cases h1 : q + 2 ≤ f.size
  · refine ⟨h1, ?_⟩
    unfold countG at h
    rw [num2 h1] at h
    split at h
    · cases h
    · rename_i h2
      rw [prI_of h1]
      simp only [] at h2
      omega
  · unfold countG at h
    split at h
    · cases h
    · rw [num2_bad h1] at h; cases h
theorem count1_of {f : ByteArray} (h : 3 ≤ f.size) (h2 : bt f 2 ≤ 100) : sgR f = (bt f 2, (3, false)) := by
  have e1 : nextG f (2, false) = (bt f 2, (3, false)) := by unfold nextG; rw [if_pos (by show 2 < _; omega)]
  unfold sgR countG
  simp only [numG, e1, Nat.zero_add, Nat.pow_zero, Nat.mul_one]
  rw [if_neg (by omega)]
theorem count1_good {f : ByteArray} (h : (sgR f).2.2 = false) : 3 ≤ f.size ∧ bt f 2 ≤ 100 := by
  unfold sgR countG at h
  by_cases h1 : 3 ≤ f.size
  · have e1 : nextG f (2, false) = (bt f 2, (3, false)) := by unfold nextG; rw [if_pos (by show 2 < _; omega)]
    simp only [numG, e1, Nat.zero_add, Nat.pow_zero, Nat.mul_one] at h
    split at h
    · cases h
    · exact ⟨h1, by omega⟩
  · have e1 : nextG f (2, false) = (0, (2, true)) := by unfold nextG; rw [if_neg (by show ¬ 2 < _; omega)]
    simp only [numG, e1] at h
    split at h <;> cases h

def OkRule (f : ByteArray) (k : Nat) : Prop := Ok2 f (255 + k) (3 + 4 * k) ∧ Ok2 f (255 + k) (5 + 4 * k)
def gRu (f : ByteArray) : Nat → List RU
  | 0 => []
  | k + 1 => gRu f k ++ [ruleP (gRu f k) (gA f k) (gB f k)]
theorem gRu_len (f : ByteArray) : ∀ k, (gRu f k).length = k
  | 0 => rfl
  | k + 1 => by show (gRu f k ++ _).length = _; rw [List.length_append, gRu_len f k]; rfl
theorem ru_of {f : ByteArray} : ∀ i, (∀ k, k < i → OkRule f k) → ruG f (3, false) i = (gRu f i, (3 + 4 * i, false))
  | 0, _ => rfl
  | i + 1, h => by
    have ih := ru_of i (fun k hk => h k (by omega))
    obtain ⟨h1, h2⟩ := h i (by omega)
    have e1 := count2_of h1
    have e2 := count2_of h2
    have hq : 3 + 4 * i + 2 = 5 + 4 * i := by omega
    rw [hq] at e1
    simp only [ruG, ih, e1, e2]
    rw [show 5 + 4 * i + 2 = 3 + 4 * (i + 1) by omega]
    rfl
theorem ru_good {f : ByteArray} : ∀ i, (ruG f (3, false) i).2.2 = false → ∀ k, k < i → OkRule f k
  | 0, _, k, hk => by omega
  | i + 1, h, k, hk => by
    have hi : (ruG f (3, false) i).2.2 = false := by
      cases hx : (ruG f (3, false) i).2.2 with
      | false => rfl
      | true => have := ruG_bad hx 1; rw [this] at h; cases h
    have ih := ru_good i hi
    by_cases hki : k < i
    · exact ih k hki
    · have : k = i := by omega
      subst this
      have e := ru_of k ih
      simp only [ruG, e] at h
      have ha : (countG f 2 (255 + k) (3 + 4 * k, false)).2.2 = false := by
        cases hx : (countG f 2 (255 + k) (3 + 4 * k, false)).2.2 with
        | false => rfl
        | true => have := countG_bad (f := f) (n := 2) (m := 255 + k) hx; rw [this] at h; cases h
      have h1 := count2_good ha
      rw [count2_of h1] at h
      have hq : 3 + 4 * k + 2 = 5 + 4 * k := by omega
      simp only [hq] at h
      exact ⟨h1, count2_good h⟩
theorem sy_of {f : ByteArray} {m q : Nat} : ∀ i, (∀ k, k < i → Ok2 f m (q + 2 * k)) → (syG f m (q, false) i).2 = (q + 2 * i, false) ∧ (syG f m (q, false) i).1 = (List.range i).map (fun j => (prI f (q + 2 * j)).toNat)
  | 0, _ => ⟨rfl, rfl⟩
  | i + 1, h => by
    obtain ⟨ih1, ih2⟩ := sy_of i (fun k hk => h k (by omega))
    have e := count2_of (h i (by omega))
    constructor
    · simp only [syG, ih1, e]
      rfl
    · simp only [syG, ih1, ih2, e, List.range_succ, List.map_append]
      rfl
theorem sy_good {f : ByteArray} {m q : Nat} : ∀ i, (syG f m (q, false) i).2.2 = false → ∀ k, k < i → Ok2 f m (q + 2 * k)
  | 0, _, k, hk => by omega
  | i + 1, h, k, hk => by
    have hi : (syG f m (q, false) i).2.2 = false := by
      cases hx : (syG f m (q, false) i).2.2 with
      | false => rfl
      | true => have := syG_bad hx 1; rw [this] at h; cases h
    have ih := sy_good i hi
    by_cases hki : k < i
    · exact ih k hki
    · have : k = i := by omega
      subst this
      simp only [syG, (sy_of k ih).1] at h
      exact count2_good h

end Go.Proofs.YtgifhgnccmnbiabGreatDoor
