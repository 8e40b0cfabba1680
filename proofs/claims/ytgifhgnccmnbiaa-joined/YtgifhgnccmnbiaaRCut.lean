/- The document's answer: what is cut out of one symbol, walked. -/
import Derived.Test.YtgifhgnccmnbiaaCutText
set_option linter.unusedVariables false
set_option linter.unusedSimpArgs false
namespace Go.Proofs.Ytgifhgnccmnbiaa
open Go.RowKit Go.IntWalk

/-- Of x the bytes from one place to another; places outside of it are cut short. -/
def cutI (x : List Nat) (fr to_ : Int) : List Nat := (x.take to_.toNat).drop fr.toNat
theorem cutI_none {x : List Nat} {fr to_ : Int} (h : to_ ≤ fr ∨ to_ ≤ 0 ∨ (x.length : Int) ≤ fr) : cutI x fr to_ = [] := by
  unfold cutI
  apply List.drop_eq_nil_of_le
  rw [List.length_take]
  omega
theorem cutI_one {c : Nat} {fr to_ : Int} (h1 : fr ≤ 0) (h2 : 0 < to_) : cutI [c] fr to_ = [c] := by
  unfold cutI
  obtain ⟨k, hk⟩ : ∃ k, to_.toNat = k + 1 := ⟨to_.toNat - 1, by omega⟩
  rw [hk, show fr.toNat = 0 by omega]
  simp
theorem cutI_len (x : List Nat) (fr to_ : Int) : (cutI x fr to_).length ≤ x.length := by
  unfold cutI
  rw [List.length_drop, List.length_take]; omega
theorem cutI_app (x y : List Nat) (fr to_ : Int) : cutI (x ++ y) fr to_ = cutI x fr to_ ++ cutI y (fr - x.length) (to_ - x.length) := by
  unfold cutI
  rw [List.take_append, List.drop_append, List.length_take]
  congr 1
  by_cases h : x.length ≤ to_.toNat
  · rw [Nat.min_eq_right h, show (to_ - (x.length : Int)).toNat = to_.toNat - x.length by omega, show (fr - (x.length : Int)).toNat = fr.toNat - x.length by omega]
  · rw [show to_.toNat - x.length = 0 by omega, show (to_ - (x.length : Int)).toNat = 0 by omega]
    simp
theorem cutI_clamp {x : List Nat} {fr to_ F D : Int} (h1 : fr < 0 → F = 0) (h2 : 0 ≤ fr → F = fr) (h3 : (x.length : Int) < to_ → D = (x.length : Int)) (h4 : to_ ≤ (x.length : Int) → D = to_) : cutI x fr to_ = cutI x F D := by
  unfold cutI
  have e1 : fr.toNat = F.toNat := by
    by_cases h : fr < 0
    · have := h1 h; omega
    · have := h2 (by omega); omega
  rw [e1]
  by_cases h : (x.length : Int) < to_
  · have := h3 h
    rw [List.take_of_length_le (by omega), List.take_of_length_le (by omega)]
  · have := h4 (by omega)
    rw [this]

/-- The document's rules stand for these texts. -/
structure RSound (rl : List Nat) (ps : List PI) (T : List (List Nat)) : Prop where
  len : rl.length = 2 * T.length
  ps : ps = T.map piOf
  rule : ∀ i, i < T.length → rl.getD (2 * i) 0 < 256 + i ∧ rl.getD (2 * i + 1) 0 < 256 + i ∧ T.getD i [] = symT T (rl.getD (2 * i) 0) ++ symT T (rl.getD (2 * i + 1) 0)
/-- A file in memory, only read. -/
structure GRd (w : World) (b : Nat) (kv nv : Value) (rl top : List Nat) (ps : List PI) (rv tv pv : Value) : Prop where
  blk : Blk w b #[kv, nv, rv, tv, pv] 95
  rules : w.ownsRow 0 3 1 rv rl.length (symCells rl)
  top : w.ownsRow 0 3 1 tv top.length (symCells top)
  pieces : w.ownsRow 0 91 6 pv ps.length (piCells ps)
theorem row_same {w w' : World} {base e z k : Nat} {v : Value} {xs : List Value} (h : w.ownsRow base e z v k xs) (he : e ≠ 5) (hs : ∀ k cs e, e ≠ 5 → Blk w k cs e → Blk w' k cs e) : w'.ownsRow base e z v k xs := by
  refine ⟨h.1, ?_⟩
  rcases h.2 with h1 | ⟨g, cap, cur, h1, h2, h3, h4⟩
  · exact Or.inl h1
  · exact Or.inr ⟨g, cap, cur, h1, h2, hs g cur e he h3, h4⟩
section
variable {w w' : World} {b : Nat} {kv nv rv tv pv : Value} {rl top : List Nat} {ps : List PI}
theorem GRd.same (h : GRd w b kv nv rl top ps rv tv pv) (hs : ∀ k cs e, e ≠ 5 → Blk w k cs e → Blk w' k cs e) : GRd w' b kv nv rl top ps rv tv pv :=
  ⟨hs _ _ _ (by decide) h.blk, row_same h.rules (by decide) hs, row_same h.top (by decide) hs, row_same h.pieces (by decide) hs⟩
theorem GRd.kept (h : GRd w b kv nv rl top ps rv tv pv) (k : Kept [] w w') : GRd w' b kv nv rl top ps rv tv pv :=
  h.same fun _ _ _ _ hb => hb.kept k (by simp)
end

/-- What cutting leaves. -/
structure RcOut (w w' : World) (base : Nat) (v : Value) (out : List Nat) : Prop where
  below : Below base w w'
  stay : ∀ k cs e, e ≠ 5 → Blk w k cs e → Blk w' k cs e
  row : w'.ownsRow base 5 1 v out.length (byteCells out)

set_option maxHeartbeats 4000000 in
set_option maxRecDepth 100000 in
theorem rcut_any {T : List (List Nat)} {rl : List Nat} {ps : List PI} (hS : RSound rl ps T) (hT : T.length ≤ 1000) {b : Nat} {kv nv rv tv pv : Value} {top : List Nat} (base : Nat) :
    ∀ (k s : Nat), s < k → s < 256 + T.length → (symT T s).length ≤ 1099511627776 → ∀ (fr to_ : Int) (v : Value) (out : List Nat) (w : World), -1099511627776 ≤ fr → fr ≤ 1099511627776 → -1099511627776 ≤ to_ → to_ ≤ 1099511627776 →
      GRd w b kv nv rl top ps rv tv pv → w.ownsRow base 5 1 v out.length (byteCells out) → base ≤ w.heap.size → out.length + (symT T s).length ≤ 2199023255552 →
      Calls Try.prog 80 #[.pointer (some ⟨b, 0, none⟩), v, .int .i64 (s : Int), .int .i64 fr, .int .i64 to_] w fun e w' => ∃ v', e = .returned v' ∧ RcOut w w' base v' (out ++ cutI (symT T s) fr to_) := by
  intro k
  induction k with
  | zero => intro s hs; omega
  | succ k ih =>
    intro s hs hs2 hL fr to_ v out w hf1 hf2 ht1 ht2 hG hrow hbase hbig
    have hps : ps.length = T.length := by rw [hS.ps, List.length_map]
    have hsz : Hid (∀ w', Kept [] w w' → ∀ z : Nat, z < 256 + ps.length → Calls Try.prog 77 #[.pointer (some ⟨b, 0, none⟩), .int .i64 (z : Int)] w' fun e w2 => e = .returned (sizeP ps z).val ∧ Kept [] w' w2) := fun w' kk z hz => psize_any (hG.kept kk).blk (hG.kept kk).pieces z hz (by omega)
    have hsp : sizeP ps s = piOf (symT T s) := by rw [hS.ps]; exact size_tx hs2
    have hs1 : Hid (Calls _ _ _ w _) := hsz.out w (Kept.refl _ _) s (by omega)
    rw [hsp] at hs1
    have hlong : (piOf (symT T s)).long = (symT T s).length := capL_of (by omega)
    obtain ⟨L, hLH⟩ : ∃ L, Hid (L = (symT T s).length) := ⟨_, rfl⟩
    rw [← hLH.out] at hlong hL hbig
    generalize piOf (symT T s) = pi at *
    obtain ⟨p1, p2, p3⟩ := pi
    simp only [] at hlong
    subst hlong
    unfold PI.val PI.arr at hs1
    simp only [] at hs1
    obtain ⟨va, vk, vc, rfl⟩ := own_shape hrow
    obtain ⟨F, F0, hF1, hF2⟩ : ∃ F : Int, 0 ≤ F ∧ (fr < 0 → F = 0) ∧ (0 ≤ fr → F = fr) := by
      by_cases h : fr < 0
      · exact ⟨0, by omega, fun _ => rfl, fun h2 => by omega⟩
      · exact ⟨fr, by omega, fun h2 => by omega, fun _ => rfl⟩
    obtain ⟨D, D0, hD1, hD2⟩ : ∃ D : Int, D ≤ (p1 : Int) ∧ ((p1 : Int) < to_ → D = (p1 : Int)) ∧ (to_ ≤ (p1 : Int) → D = to_) := by
      by_cases h : (p1 : Int) < to_
      · exact ⟨p1, by omega, fun _ => rfl, fun h2 => by omega⟩
      · exact ⟨to_, by omega, fun h2 => by omega, fun _ => rfl⟩
    have hcl : Hid (cutI (symT T s) fr to_ = cutI (symT T s) F D) := cutI_clamp hF1 hF2 (by rw [← hLH.out]; exact hD1) (by rw [← hLH.out]; exact hD2)
    have hGH : Hid (GRd _ _ _ _ _ _ _ _ _ _) := hG
    have hrowH : Hid (World.ownsRow _ _ _ _ _ _ _) := hrow
    clear hG hrow hsp
    go_enter Try.func80, Try.ntmps80
    go_wp2_with fail
    refine hs1.out.mono ?_
    rintro _ w1 ⟨rfl, k1⟩
    have K1 : Hid (Kept [] w (w1.alloc (.cells #[.int .i64 (p1 : Int), .int .i64 (p2 : Int), .int .i64 (p3 : Int), .slice none 0 0, .slice none 0 0, .int .i64 0] 91))) := k1.alloc _
    have hP : Hid (Blk (w1.alloc (.cells #[.int .i64 (p1 : Int), .int .i64 (p2 : Int), .int .i64 (p3 : Int), .slice none 0 0, .slice none 0 0, .int .i64 0] 91)) w1.heap.size #[.int .i64 (p1 : Int), .int .i64 (p2 : Int), .int .i64 (p3 : Int), .slice none 0 0, .slice none 0 0, .int .i64 0] 91) := Blk.new w1 _ _
    clear k1 hs1
    go_upto_if 19 with fail
    go_cut [3] (fun s3 wx => s3 = .int .i64 F ∧ wx = (w1.alloc (.cells #[.int .i64 (p1 : Int), .int .i64 (p2 : Int), .int .i64 (p3 : Int), .slice none 0 0, .slice none 0 0, .int .i64 0] 91)))
    case first =>
      by_cases h : fr < 0
      · have e := hF1 h
        go_wp2
        go_meet
        exact ⟨by rw [e], rfl⟩
      · have e := hF2 (by omega)
        go_wp2
        go_meet
        exact ⟨by rw [e], rfl⟩
    case rest =>
      obtain ⟨rfl, rfl⟩ := hcut
      go_upto_if 23 with fail
      go_cut [4] (fun s4 wx => s4 = .int .i64 D ∧ wx = (w1.alloc (.cells #[.int .i64 (p1 : Int), .int .i64 (p2 : Int), .int .i64 (p3 : Int), .slice none 0 0, .slice none 0 0, .int .i64 0] 91)))
      case first =>
        by_cases h : (p1 : Int) < to_
        · have e := hD1 h
          go_wp2
          go_meet
          exact ⟨by rw [e], rfl⟩
        · have e := hD2 (by omega)
          go_wp2
          go_meet
          exact ⟨by rw [e], rfl⟩
      case rest =>
        obtain ⟨rfl, hwx⟩ := hcut
        have hDlow : -1099511627776 ≤ D := by
          by_cases h : (p1 : Int) < to_
          · have := hD1 h; omega
          · have := hD2 (by omega); omega
        clear hF1 hF2 hD1 hD2
        subst hwx
        by_cases hFD : D ≤ F
        · have hfin : Hid (RcOut w (w1.alloc (.cells #[.int .i64 (p1 : Int), .int .i64 (p2 : Int), .int .i64 (p3 : Int), .slice none 0 0, .slice none 0 0, .int .i64 0] 91)) base (.slice va vk vc) (out ++ cutI (symT T s) fr to_)) :=
            ⟨K1.out.below hbase (by simp), fun _ _ _ _ hb => hb.kept K1.out (by simp), by
              rw [hcl.out, cutI_none (Or.inl hFD), List.append_nil]
              exact row_stay (S := []) hrowH.out K1.out (fun _ _ => by simp)⟩
          clear ih
          go_wp2
          go_ret
          exact ⟨_, rfl, hfin.out⟩
        · have hFD' : F < D := by omega
          clear hFD
          by_cases h3 : (s : Int) < 256
          · have hx : symT T s = [s] := by unfold symT; rw [if_pos (by omega)]
            have hp1 : p1 = 1 := by rw [hLH.out, hx]; rfl
            subst hp1
            have eF : F = 0 := by omega
            have eD : D = 1 := by omega
            obtain ⟨i0, hi0, hz0, hz1, hz2⟩ := info_parts infoU8
            have hcc : Hid (cutI (symT T s) fr to_ = [s]) := by show cutI (symT T s) fr to_ = [s]; rw [hcl.out, hx, cutI_one (by omega) (by omega)]
            have own : (w1.alloc (.cells #[.int .i64 ((1 : Nat) : Int), .int .i64 (p2 : Int), .int .i64 (p3 : Int), .slice none 0 0, .slice none 0 0, .int .i64 0] 91)).ownsRow base 5 1 (.slice va vk vc) out.length (byteCells out) := row_stay (S := []) hrowH.out K1.out (fun _ _ => by simp)
            have hsz0 := K1.out.size
            have hKK : Hid (∀ o, Kept [] w ((w1.alloc (.cells #[.int .i64 ((1 : Nat) : Int), .int .i64 (p2 : Int), .int .i64 (p3 : Int), .slice none 0 0, .slice none 0 0, .int .i64 0] 91)).alloc o)) := fun o => K1.out.alloc o
            have hro : Hid (∀ o, ((w1.alloc (.cells #[.int .i64 ((1 : Nat) : Int), .int .i64 (p2 : Int), .int .i64 (p3 : Int), .slice none 0 0, .slice none 0 0, .int .i64 0] 91)).alloc o).ownsRow base 5 1 (.slice va vk vc) out.length (byteCells out)) := fun o => row_stay (S := []) hrowH.out (hKK.out o) (fun _ _ => by simp)
            have mb : out.length + 1 ≤ maxLen := by unfold maxLen; omega
            have mc : (out.length + 1) * 1 ≤ 140737488355328 := by omega
            clear ih hx hcl own
            go_wp2_with (at_builtin; refine wpList_append_own _ rfl (.tmp 32) (.tmp 35) 98 rfl base 5 i0 _ 1 1 Try.underlying98 hi0 hz0 hz1 hz2 rfl (by decide) (.slice va vk vc) out.length (byteCells out) rfl ?own ⟨w1.heap.size + 1, 0, none⟩ 1 1 [.int .u8 (s : Int)] rfl rfl ?c1 ?c2 ?b1 ?b2 ?b3 ?kk)
            case own => exact hro.out _
            case c1 => exact cells_new _ _ _ _ (by simp)
            case c2 => simp [Value.oneCell']
            case b1 => exact mb
            case b2 => exact mc
            case b3 => simp at hsz0 ⊢; omega
            case kk =>
              intro v' w3 hown hgrow _
              obtain ⟨gv, cap, rfl⟩ := own_form hown (by omega)
              have hfin : Hid (RcOut w w3 base (.slice (some ⟨gv, 0, none⟩) (out.length + 1) cap) (out ++ cutI (symT T s) fr to_)) := by
                have hb := hKK.out (.cells #[.int .u8 (s : Int)] 5)
                have hr := hro.out (.cells #[.int .u8 (s : Int)] 5)
                have hne : ∀ k, k < base → some k ≠ (Value.slice va vk vc).ownBlock := fun k hk hc => by have := (hr.lt k hc.symm).1; omega
                refine ⟨(hb.below hbase (by simp)).trans ⟨hgrow.os, hgrow.tape, hgrow.output, hgrow.size, fun k hk => hgrow.block k (Nat.lt_of_lt_of_le (Nat.lt_of_lt_of_le hk hbase) hb.size) (hne k hk)⟩, fun k cs e he hk => ?_, ?_⟩
                · have hk2 := hk.kept hb (by simp)
                  exact (hgrow.block k hk2.lt (fun hc => he (own_type hr hk2 hc.symm))).trans hk2
                · rw [hcc.out, byteCells_app, List.length_append]
                  exact hown
              clear hown hgrow
              go_wp2
              go_ret
              exact ⟨_, rfl, hfin.out⟩
          · obtain ⟨i, rfl⟩ : ∃ i, s = i + 256 := ⟨s - 256, by omega⟩
            clear h3
            obtain ⟨u1, u2, u3⟩ := hS.rule i (by omega)
            obtain ⟨ra, hra⟩ : ∃ ra, ra = rl.getD (2 * i) 0 := ⟨_, rfl⟩
            obtain ⟨rb, hrb⟩ : ∃ rb, rb = rl.getD (2 * i + 1) 0 := ⟨_, rfl⟩
            have hrl := hS.len
            have hxx : symT T (i + 256) = symT T ra ++ symT T rb := by
              rw [hra, hrb, ← u3]
              unfold symT
              rw [if_neg (by omega), Nat.add_sub_cancel]
            rw [← hra] at u1
            rw [← hrb] at u2
            have hG2 := hGH.out.kept K1.out
            obtain ⟨g, cap, hv⟩ := own_form hG2.rules (by omega)
            have r0 : (w1.alloc (.cells #[.int .i64 (p1 : Int), .int .i64 (p2 : Int), .int .i64 (p3 : Int), .slice none 0 0, .slice none 0 0, .int .i64 0] 91)).cell? ⟨g, 2 * i, none⟩ = some (.int .i64 (ra : Int)) := by
              have := hG2.rules.cells (g := g) (by rw [hv]; rfl) (2 * i) _ (symCells_get rl (2 * i) (by omega))
              rw [ptr_add] at this
              rw [this, hra]
            have r1 : (w1.alloc (.cells #[.int .i64 (p1 : Int), .int .i64 (p2 : Int), .int .i64 (p3 : Int), .slice none 0 0, .slice none 0 0, .int .i64 0] 91)).cell? ⟨g, 2 * i + 1, none⟩ = some (.int .i64 (rb : Int)) := by
              have := hG2.rules.cells (g := g) (by rw [hv]; rfl) (2 * i + 1) _ (symCells_get rl (2 * i + 1) (by omega))
              rw [ptr_add] at this
              rw [this, hrb]
            have cR : (w1.alloc (.cells #[.int .i64 (p1 : Int), .int .i64 (p2 : Int), .int .i64 (p3 : Int), .slice none 0 0, .slice none 0 0, .int .i64 0] 91)).cell? ⟨b, 2, none⟩ = some rv := hG2.blk.cell 2
            have hle : (symT T ra).length + (symT T rb).length = p1 := by rw [hLH.out, hxx, List.length_append]
            have hsa : Hid (∀ w', Kept [] w w' → Calls Try.prog 77 #[.pointer (some ⟨b, 0, none⟩), .int .i64 (ra : Int)] w' fun e w2 => e = .returned (sizeP ps ra).val ∧ Kept [] w' w2) := fun w' kk => hsz.out w' kk ra (by omega)
            have hspa : sizeP ps ra = piOf (symT T ra) := by rw [hS.ps]; exact size_tx (by omega)
            rw [hspa] at hsa
            have hq1 : (piOf (symT T ra)).long = (symT T ra).length := capL_of (by omega)
            have hA : Hid (∀ w', Kept [] w w' → Calls Try.prog 80 #[.pointer (some ⟨b, 0, none⟩), .slice va vk vc, .int .i64 (ra : Int), .int .i64 F, .int .i64 D] w' fun e w2 => ∃ v', e = .returned v' ∧ RcOut w' w2 base v' (out ++ cutI (symT T ra) F D)) := fun w' kk => ih ra (by omega) (by omega) (by omega) F D _ out w' (by omega) (by omega) (by omega) (by omega) (hGH.out.kept kk) (row_stay (S := []) hrowH.out kk (fun _ _ => by simp)) (Nat.le_trans hbase kk.size) (by omega)
            have hB : Hid (∀ w2 w3 v3, Kept [] w w2 → RcOut w2 w3 base v3 (out ++ cutI (symT T ra) F D) → Calls Try.prog 80 #[.pointer (some ⟨b, 0, none⟩), v3, .int .i64 (rb : Int), .int .i64 (F - ((symT T ra).length : Int)), .int .i64 (D - ((symT T ra).length : Int))] w3 fun e w' => ∃ v', e = .returned v' ∧ RcOut w w' base v' (out ++ cutI (symT T (i + 256)) fr to_)) := fun w2 w3 v3 kk o => by
              have hl := cutI_len (symT T ra) F D
              refine (ih rb (by omega) (by omega) (by omega) _ _ v3 _ w3 (by omega) (by omega) (by omega) (by omega) ((hGH.out.kept kk).same o.stay) o.row (Nat.le_trans hbase (Nat.le_trans kk.size o.below.size)) (by rw [List.length_append]; omega)).mono ?_
              rintro e w' ⟨v', he, o2⟩
              refine ⟨v', he, ((kk.below hbase (by simp)).trans o.below).trans o2.below, fun k cs e he hk => o2.stay k cs e he (o.stay k cs e he (hk.kept kk (by simp))), ?_⟩
              rw [hcl.out, hxx, cutI_app, ← List.append_assoc]
              exact o2.row
            clear ih hsz hspa hG2 u1 u2 u3 hra hrb hS hcl hps
            subst hv
            have hlA : (symT T ra).length ≤ p1 := by omega
            generalize symT T ra = A at *
            generalize symT T rb = Bx at *
            generalize piOf A = pj at *
            obtain ⟨q1, q2, q3⟩ := pj
            simp only [] at hq1
            unfold PI.val PI.arr at hsa
            simp only [] at hsa
            rw [← hq1] at hB hlA
            have hrl2 : (2 * i : Int) + 1 < (rl.length : Int) := by omega
            generalize rl.length = RL at *
            clear hle hxx hLH hq1 hrl
            go_wp2_with (first
              | (go_at_call 77
                 refine (hsa.out _ K1.out).mono ?_
                 rintro _ w2 ⟨rfl, k2⟩
                 have K2 := (K1.out.trans k2).alloc (.cells #[.int .i64 (q1 : Int), .int .i64 (q2 : Int), .int .i64 (q3 : Int), .slice none 0 0, .slice none 0 0, .int .i64 0] 91))
              | (go_at_call_of 80 (Value.int IntKind.i64 (ra : Int))
                 refine (hA.out _ K2).mono ?_
                 rintro _ w3 ⟨v3, rfl, o3⟩
                 obtain ⟨oa, ok, oc, rfl⟩ := own_shape o3.row
                 have o3H : Hid (RcOut _ _ _ _ _) := o3
                 have e1 : w3.cell? ⟨w2.heap.size, 0, none⟩ = some (.int .i64 (q1 : Int)) := (o3.stay _ _ _ (by decide) (Blk.new w2 _ _)).cell 0)
              | (go_at_call_of 80 (Value.int IntKind.i64 (rb : Int))
                 refine (hB.out _ _ _ K2 o3H.out).mono ?_
                 rintro _ w4 ⟨v4, rfl, o4⟩
                 obtain ⟨pa, pk, pc, rfl⟩ := own_shape o4.row))
            go_ret
            exact ⟨_, rfl, o4⟩

end Go.Proofs.Ytgifhgnccmnbiaa
