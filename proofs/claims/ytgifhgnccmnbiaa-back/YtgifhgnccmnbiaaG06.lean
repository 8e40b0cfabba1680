/- Package packed: a text that is only read: its rules, what a symbol stands for. -/
import Derived.Test.YtgifhgnccmnbiaaG05
import Derived.Deep.RegionHeld3
set_option linter.unusedVariables false
set_option linter.unusedSimpArgs false
namespace Go.Proofs.Ytgifhgnccmnbiaa
open Go.RowKit Go.IntWalk

/-- A text in block b, its lists somewhere: all below n. -/
structure TR (w : World) (n b : Nat) (t : TT) (rv sv : Value) : Prop where
  blk : Blk w b (t.cells rv sv) 81
  rules : w.ownsRow 0 178 6 rv t.rules.length (ruCells t.rules)
  start : w.ownsRow 0 3 1 sv t.start.length (symCells t.start)
  low : b < n
  rlow : ∀ g, rv.ownBlock = some g → g < n
  slow : ∀ g, sv.ownBlock = some g → g < n

theorem row_under {w w' : World} {n m base e z k : Nat} {v : Value} {xs : List Value} (h : w.ownsRow base e z v k xs) (hl : ∀ g, v.ownBlock = some g → g < n) (b : Below m w w') (hn : n ≤ m) : w'.ownsRow base e z v k xs := by
  refine ⟨h.1, ?_⟩
  rcases h.2 with h1 | ⟨g, cap, cur, h1, h2, h3, h4⟩
  · exact Or.inl h1
  · exact Or.inr ⟨g, cap, cur, h1, h2, (b.block g (by have := hl g (by rw [h1]; rfl); omega)).trans h3, h4⟩
section
variable {w w' : World} {n b : Nat} {t : TT} {rv sv : Value}
theorem TR.cell (h : TR w n b t rv sv) (j : Nat) : w.cell? ⟨b, j, none⟩ = (t.cells rv sv)[j]? := h.blk.cell j
theorem TR.under (h : TR w n b t rv sv) {m : Nat} (k : Below m w w') (hn : n ≤ m) : TR w' n b t rv sv :=
  ⟨(k.block b (by have := h.low; omega)).trans h.blk, row_under h.rules h.rlow k hn, row_under h.start h.slow k hn, h.low, h.rlow, h.slow⟩
theorem TR.kept (h : TR w n b t rv sv) (k : Kept [] w w') : TR w' n b t rv sv :=
  ⟨h.blk.kept k (by simp), row_stay (S := []) h.rules k (fun _ _ => by simp), row_stay (S := []) h.start k (fun _ _ => by simp), h.low, h.rlow, h.slow⟩
end

set_option maxHeartbeats 1000000 in
set_option maxRecDepth 100000 in
theorem ruleT_any {w : World} {n b : Nat} {t : TT} {rv sv : Value} (h : TR w n b t rv sv) (s : Nat) (hs : s ≤ 100000) (hl : t.rules.length ≤ 100000) :
    Calls Try.prog 117 #[.pointer (some ⟨b, 0, none⟩), .int .i64 (s : Int)] w fun e w' => e = .returned (ruleAt t.rules s).val ∧ Kept [] w w' := by
  have hk : Hid (∀ o1, Kept [] w (w.alloc o1)) := fun o1 => (Kept.refl [] w).alloc _
  have c2 : w.cell? ⟨b, 2, none⟩ = some rv := h.cell 2
  have hbw : b < w.heap.size := h.blk.lt
  by_cases h1 : (s : Int) - 256 < 0
  · have e : ruleAt t.rules s = ⟨0, 0, {}⟩ := by unfold ruleAt; rw [if_neg (by omega)]
    rw [e]
    unfold RU.val RU.cells
    clear h e c2
    go_enter Try.func117, Try.ntmps117
    go_wp2
    refine bodyPost_ret (v := .agg #[.int .i64 0, .int .i64 0, .int .i64 0, .int .i64 0, .int .i64 0, .int .i64 0]) (by simp [results, Try.results117, go_sem]) rfl ⟨rfl, hk.out _⟩
  · obtain ⟨k, rfl⟩ : ∃ k : Nat, s = k + 256 := ⟨s - 256, by omega⟩
    have hn : Hid (∀ x, t.rules[k]? = x → ruleAt t.rules ((k + 256 : Nat) : Int) = x.getD ⟨0, 0, {}⟩) := fun x hx => by
      unfold ruleAt; rw [if_pos (by omega), show (((k + 256 : Nat) : Int) - 256).toNat = k by omega, hx]
    clear h1
    by_cases h2 : k < t.rules.length
    · obtain ⟨x, hx⟩ : ∃ x, t.rules[k]? = some x := ⟨_, List.getElem?_eq_getElem h2⟩
      rw [hn.out _ hx]
      obtain ⟨g, cap, rfl⟩ := own_form h.rules (by omega)
      have hgw : g < w.heap.size := (h.rules.lt g rfl).2
      have hc : ∀ j, j < 6 → w.cell? ⟨g, k * 6 + j, none⟩ = x.cells[j]? := fun j hj => by
        obtain ⟨u, hu⟩ : ∃ u, x.cells[j]? = some u := ⟨_, List.getElem?_eq_getElem (by simp [RU.cells]; omega)⟩
        have := h.rules.cells (g := g) rfl (k * 6 + j) u (by rw [ruCells_get _ _ _ _ hx hj]; exact hu)
        rw [ptr_add] at this
        rw [this, hu]
      obtain ⟨l, r, ⟨p1, p2, p3, p4⟩⟩ := x
      have d0 : w.cell? ⟨g, k * 6, none⟩ = some (.int .i64 l) := hc 0 (by omega)
      have d1 : w.cell? ⟨g, k * 6 + 1, none⟩ = some (.int .i64 r) := hc 1 (by omega)
      have d2 : w.cell? ⟨g, k * 6 + 2, none⟩ = some (.int .i64 p1) := hc 2 (by omega)
      have d3 : w.cell? ⟨g, k * 6 + 3, none⟩ = some (.int .i64 p2) := hc 3 (by omega)
      have d4 : w.cell? ⟨g, k * 6 + 4, none⟩ = some (.int .i64 p3) := hc 4 (by omega)
      have d5 : w.cell? ⟨g, k * 6 + 5, none⟩ = some (.int .i64 p4) := hc 5 (by omega)
      show Calls _ _ _ _ (fun e w' => e = .returned (.agg #[.int .i64 l, .int .i64 r, .int .i64 p1, .int .i64 p2, .int .i64 p3, .int .i64 p4]) ∧ Kept [] w w')
      generalize t.rules.length = n0 at *
      have lt : (k : Int) < (n0 : Int) := by omega
      clear h hc hx hn
      go_enter Try.func117, Try.ntmps117
      go_wp2
      refine bodyPost_ret (v := .agg #[.int .i64 l, .int .i64 r, .int .i64 p1, .int .i64 p2, .int .i64 p3, .int .i64 p4]) (by simp [results, Try.results117, go_sem]) rfl ⟨rfl, hk.out _⟩
    · rw [hn.out none (List.getElem?_eq_none (by omega))]
      show Calls _ _ _ _ (fun e w' => e = .returned (.agg #[.int .i64 0, .int .i64 0, .int .i64 0, .int .i64 0, .int .i64 0, .int .i64 0]) ∧ Kept [] w w')
      have hv : ∃ a cap, rv = .slice a t.rules.length cap := by
        rcases h.rules.2 with ⟨h3, h4⟩ | ⟨g, cap, _, h3, _⟩
        · exact ⟨none, 0, by rw [h3, h4]⟩
        · exact ⟨_, cap, h3⟩
      obtain ⟨a, cap, rfl⟩ := hv
      generalize t.rules.length = n0 at *
      have lt : ¬ (k : Int) < (n0 : Int) := by omega
      clear h hn h2
      go_enter Try.func117, Try.ntmps117
      go_wp2
      refine bodyPost_ret (v := .agg #[.int .i64 0, .int .i64 0, .int .i64 0, .int .i64 0, .int .i64 0, .int .i64 0]) (by simp [results, Try.results117, go_sem]) rfl ⟨rfl, hk.out _⟩

set_option maxHeartbeats 1000000 in
set_option maxRecDepth 100000 in
theorem partT_any {w : World} {n b : Nat} {t : TT} {rv sv : Value} (h : TR w n b t rv sv) (s : Nat) (hs : s ≤ 100000) (hl : t.rules.length ≤ 100000) :
    Calls Try.prog 116 #[.pointer (some ⟨b, 0, none⟩), .int .i64 (s : Int)] w fun e w' => e = .returned (partAt t.rules s).val ∧ Kept [] w w' := by
  have hk : Kept [] w (w.alloc (.cells zero4 79)) := (Kept.refl [] w).alloc _
  have hfin : Hid (∀ w1, Kept [] (w.alloc (.cells zero4 79)) w1 → Blk w1 w.heap.size zero4 79 ∧ (∀ u0 u1 u2 u3, Blk ((((w1.setCell ⟨w.heap.size, 0, none⟩ u0).setCell ⟨w.heap.size, 1, none⟩ u1).setCell ⟨w.heap.size, 2, none⟩ u2).setCell ⟨w.heap.size, 3, none⟩ u3) w.heap.size #[u0, u1, u2, u3] 79) ∧ ∀ u0 u1 u2 u3, Kept [] w ((((w1.setCell ⟨w.heap.size, 0, none⟩ u0).setCell ⟨w.heap.size, 1, none⟩ u1).setCell ⟨w.heap.size, 2, none⟩ u2).setCell ⟨w.heap.size, 3, none⟩ u3)) := fun w1 k1 =>
    ⟨(Blk.new w _ _).kept k1 (by simp), fun u0 u1 u2 u3 => set4 ((Blk.new w _ _).kept k1 (by simp)) u0 u1 u2 u3, fun u0 u1 u2 u3 => kept4 (hk.trans k1) (Nat.le_refl _) u0 u1 u2 u3⟩
  by_cases h1 : (s : Int) < 256
  · have e : partAt t.rules s = byteP s := by unfold partAt; rw [if_pos (by omega)]
    rw [e]
    have hb : Hid (∀ w, Calls _ _ _ w _) := fun w => partOfByte_any s w
    clear e h hk
    generalize byteP s = p at *
    obtain ⟨p1, p2, p3, p4⟩ := p
    unfold PT.val PT.arr at hb ⊢
    unfold zero4 at hfin
    simp only [] at hb ⊢
    go_enter Try.func116, Try.ntmps116
    go_wp2_with fail
    refine (hb.out _).mono ?_
    rintro e w1 ⟨rfl, k1⟩
    obtain ⟨hb1, hS, hK⟩ := hfin.out _ k1
    have hS : Hid (∀ u0 u1 u2 u3, _) := hS
    have hK : Hid (∀ u0 u1 u2 u3, _) := hK
    have c0 : w1.cell? ⟨w.heap.size, 0, none⟩ = some (.int .i64 0) := hb1.cell 0
    have c1 : w1.cell? ⟨w.heap.size, 1, none⟩ = some (.int .i64 0) := hb1.cell 1
    have c2 : w1.cell? ⟨w.heap.size, 2, none⟩ = some (.int .i64 0) := hb1.cell 2
    have c3 : w1.cell? ⟨w.heap.size, 3, none⟩ = some (.int .i64 0) := hb1.cell 3
    have f0 : w1.frozen? ⟨w.heap.size, 0, none⟩ = false := hb1.frozen 0
    have f1 : w1.frozen? ⟨w.heap.size, 1, none⟩ = false := hb1.frozen 1
    have f2 : w1.frozen? ⟨w.heap.size, 2, none⟩ = false := hb1.frozen 2
    have f3 : w1.frozen? ⟨w.heap.size, 3, none⟩ = false := hb1.frozen 3
    clear hb1 k1 hb hfin
    go_wp2
    exact bodyPost_ret (v := .agg #[.int .i64 p1, .int .i64 p2, .int .i64 p3, .int .i64 p4]) (results_ppart Try.results116 _ _ w.heap.size ⟨p1, p2, p3, p4⟩ rfl (hS.out _ _ _ _)) rfl ⟨rfl, hK.out _ _ _ _⟩
  · have e : (ruleAt t.rules s).pt = partAt t.rules s := by
      unfold ruleAt partAt
      rw [if_pos (by omega), if_neg (by omega), show ((s : Int) - 256).toNat = s - 256 by omega]
      cases t.rules[s - 256]? <;> rfl
    have hr : Hid (Calls _ _ _ (w.alloc (.cells zero4 79)) _) := ruleT_any (h.kept hk) s hs hl
    rw [← e]
    clear e h hk
    generalize ruleAt t.rules (s : Int) = x at *
    obtain ⟨l, r, ⟨p1, p2, p3, p4⟩⟩ := x
    unfold RU.val RU.cells at hr
    unfold PT.val PT.arr
    unfold zero4 at hfin hr
    simp only [] at hr ⊢
    have hfp := field_part
    go_enter Try.func116, Try.ntmps116
    go_wp2_with fail
    refine hr.out.mono ?_
    rintro e w1 ⟨rfl, k1⟩
    obtain ⟨hb1, hS, hK⟩ := hfin.out _ k1
    have hS : Hid (∀ u0 u1 u2 u3, _) := hS
    have hK : Hid (∀ u0 u1 u2 u3, _) := hK
    have c0 : w1.cell? ⟨w.heap.size, 0, none⟩ = some (.int .i64 0) := hb1.cell 0
    have c1 : w1.cell? ⟨w.heap.size, 1, none⟩ = some (.int .i64 0) := hb1.cell 1
    have c2 : w1.cell? ⟨w.heap.size, 2, none⟩ = some (.int .i64 0) := hb1.cell 2
    have c3 : w1.cell? ⟨w.heap.size, 3, none⟩ = some (.int .i64 0) := hb1.cell 3
    have f0 : w1.frozen? ⟨w.heap.size, 0, none⟩ = false := hb1.frozen 0
    have f1 : w1.frozen? ⟨w.heap.size, 1, none⟩ = false := hb1.frozen 1
    have f2 : w1.frozen? ⟨w.heap.size, 2, none⟩ = false := hb1.frozen 2
    have f3 : w1.frozen? ⟨w.heap.size, 3, none⟩ = false := hb1.frozen 3
    clear hb1 k1 hr hfin
    go_wp2
    exact bodyPost_ret (v := .agg #[.int .i64 p1, .int .i64 p2, .int .i64 p3, .int .i64 p4]) (results_ppart Try.results116 _ _ w.heap.size ⟨p1, p2, p3, p4⟩ rfl (hS.out _ _ _ _)) rfl ⟨rfl, hK.out _ _ _ _⟩

end Go.Proofs.Ytgifhgnccmnbiaa

set_option linter.unusedVariables false
set_option linter.unusedSimpArgs false
namespace Go.Proofs.Ytgifhgnccmnbiaa
open Go.RowKit Go.IntWalk

theorem Kept.cell' {w w' : World} (k : Kept [] w w') {g : Nat} (hg : g < w.heap.size) (j : Nat) : w'.cell? ⟨g, j, none⟩ = w.cell? ⟨g, j, none⟩ := by
  unfold World.cell?
  simp only []
  rw [k.block g hg (by simp)]

def byteCells (l : List Nat) : List Value := l.map fun (x : Nat) => Value.int .u8 (x : Int)
theorem byteCells_app (l m : List Nat) : byteCells (l ++ m) = byteCells l ++ byteCells m := by simp [byteCells]
theorem infoU8 : (Try.prog.info? 5).map (fun i => (i.zero, i.size, i.bytes)) = some (some (.int .u8 0), 1, 1) := by kernel_rfl

theorem field_len (p1 p2 p3 p4 : Value) (w : World) : (Instr.field 79 (.agg #[p1, p2, p3, p4]) 0).run Try.prog w = .ok p1 w := by kernel_rfl

theorem own_type {w : World} {base e z k g : Nat} {v : Value} {xs : List Value} {cs : Array Value} {e' : TypeId} (h : w.ownsRow base e z v k xs) (hb : Blk w g cs e') (hg : v.ownBlock = some g) : e' = e := by
  rcases h.2 with ⟨h1, _⟩ | ⟨g', cap, cur, h1, h2, h3, h4⟩
  · rw [h1] at hg; simp [Value.ownBlock] at hg
  · rw [h1] at hg
    have : g' = g := by simpa [Value.ownBlock] using hg
    subst this
    have hb' : w.heap[g']? = some (.cells cs e') := hb
    rw [h3] at hb'
    simp at hb'
    exact hb'.2.symm
/-- The cutter in block c: the text, from where, to where, how far it has come, what it has cut out. -/
structure CutM (w : World) (c b fr dst p : Nat) (ov : Value) (out : List Nat) : Prop where
  blk : Blk w c #[.pointer (some ⟨b, 0, none⟩), .int .i64 (fr : Int), .int .i64 (dst : Int), .int .i64 (p : Int), ov] 139
  row : w.ownsRow (c + 1) 5 1 ov out.length (byteCells out)
  len : out.length ≤ p
section
variable {w w' : World} {c b fr dst p : Nat} {ov : Value} {out : List Nat}
theorem CutM.kept (h : CutM w c b fr dst p ov out) (k : Kept [] w w') : CutM w' c b fr dst p ov out :=
  ⟨h.blk.kept k (by simp), row_stay (S := []) h.row k (fun _ _ => by simp), h.len⟩
theorem CutM.drew (h : CutM w c b fr dst p ov out) : CutM w.drew c b fr dst p ov out := h.kept ((Kept.refl [] _).drew)
theorem CutM.go (h : CutM w c b fr dst p ov out) {q : Nat} (hq : p ≤ q) : CutM (w.setCell ⟨c, 3, none⟩ (.int .i64 (q : Int))) c b fr dst q ov out :=
  ⟨h.blk.set 3 _, row_set h.row (Nat.lt_succ_self c) _ _, Nat.le_trans h.len hq⟩
theorem CutM.lt (h : CutM w c b fr dst p ov out) : c < w.heap.size := h.blk.lt
/-- Behind an append to what was cut out. -/
theorem CutM.grow (h : CutM w c b fr dst p ov out) (g : w.grownBy w' ov.ownBlock) {v' : Value} {x : Nat} (hown : w'.ownsRow (c + 1) 5 1 v' (out.length + 1) (byteCells out ++ [.int .u8 (x : Int)])) :
    Blk w' c #[.pointer (some ⟨b, 0, none⟩), .int .i64 (fr : Int), .int .i64 (dst : Int), .int .i64 (p : Int), ov] 139 ∧ Below c w w' ∧ (∀ k cs e, e ≠ 5 → Blk w k cs e → Blk w' k cs e) ∧
    CutM ((w'.setCell ⟨c, 4, none⟩ v').setCell ⟨c, 3, none⟩ (.int .i64 ((p + 1 : Nat) : Int))) c b fr dst (p + 1) v' (out ++ [x]) := by
  have hne : ∀ k, k ≤ c → some k ≠ ov.ownBlock := fun k hk hc => by have := (h.row.lt k hc.symm).1; omega
  have hb := (g.block c h.lt (hne c (Nat.le_refl _))).trans h.blk
  refine ⟨hb, ⟨g.os, g.tape, g.output, g.size, fun k hk => g.block k (by have := h.lt; omega) (hne k (by omega))⟩, fun k cs e he hk => (g.block k hk.lt (fun hc => ?_)).trans hk, ⟨(Blk.set (Blk.set hb 4 v') 3 _), ?_, ?_⟩⟩
  · exact he (own_type h.row hk hc.symm)
  · rw [byteCells_app, List.length_append]
    exact row_set (row_set hown (Nat.lt_succ_self c) _ _) (Nat.lt_succ_self c) _ _
  · have := h.len; simp; omega
end

/-- What cutting out of one symbol leaves. -/
structure SymOut (w w' : World) (c b fr dst p : Nat) (x out : List Nat) : Prop where
  below : Below c w w'
  stay : ∀ k cs e, k ≠ c → e ≠ 5 → Blk w k cs e → Blk w' k cs e
  ex : ∃ ov, CutM w' c b fr dst (min (p + x.length) dst) ov (out ++ cutX x fr dst p)

theorem below_set {c : Nat} {w w' : World} (h : Below c w w') (j : Nat) (u : Value) : Below c w (w'.setCell ⟨c, j, none⟩ u) := h.setCell (Nat.le_refl _) _

set_option maxHeartbeats 4000000 in
set_option maxRecDepth 100000 in
theorem symbol_any {T : List (List Nat)} {t : TT} (hS : Sound t.rules T) (hrl : t.rules.length ≤ 90000) {n b : Nat} {rv sv : Value} {fr dst : Nat} (hfd : fr ≤ dst) (hd : dst ≤ 1099511627776) (c : Nat) (hn : n ≤ c) :
    ∀ (k s : Nat), s < k → s < 256 + t.rules.length → (symT T s).length ≤ 1099511627776 → ∀ (p : Nat) (ov : Value) (out : List Nat) (w : World), TR w n b t rv sv → CutM w c b fr dst p ov out → p ≤ dst →
      Calls Try.prog 79 #[.pointer (some ⟨c, 0, none⟩), .int .i64 (s : Int)] w fun e w' => e = .returned (.tuple #[]) ∧ SymOut w w' c b fr dst p (symT T s) out := by
  intro k
  induction k with
  | zero => intro s hs; omega
  | succ k ih =>
    intro s hs hs2 hL p ov out w hT hC hp
    have c3 : w.cell? ⟨c, 3, none⟩ = some (.int .i64 (p : Int)) := hC.blk.cell 3
    have c2 : w.cell? ⟨c, 2, none⟩ = some (.int .i64 (dst : Int)) := hC.blk.cell 2
    have hcw : c < w.heap.size := hC.lt
    by_cases h1 : (dst : Int) ≤ (p : Int)
    · have hfin : Hid (∀ m, SymOut w (w.drewN m) c b fr dst p (symT T s) out) := fun m => ⟨((Kept.refl [] w).drewN m).below (Nat.le_of_lt hcw) (by simp), fun k cs e _ _ hk => hk.kept ((Kept.refl [] w).drewN m) (by simp), ov, by
        rw [cutX_late (by omega), List.append_nil, show min (p + (symT T s).length) dst = p by omega]
        exact hC.kept ((Kept.refl [] w).drewN m)⟩
      clear ih hT hC hL hS
      go_enter Try.func79, Try.ntmps79
      go_wp2_with fail
      go_quiet (fail)
      go_wp2
      exact bodyPost_ret (v := .tuple #[]) (by simp [results, Try.results79, go_sem]) rfl ⟨rfl, hfin.out _⟩
    have h1' : (p : Int) < (dst : Int) := by omega
    have hpart : partAt t.rules s = ptOf (symT T s) := hS.part hs2
    have hlen : (ptOf (symT T s)).len = (symT T s).length := by rw [ptOf_len, capL_small (by rw [capL_of (by omega)]; exact hL)]
    have hc1 : Hid (∀ w', Kept [] w w' → Calls Try.prog 116 #[.pointer (some ⟨b, 0, none⟩), .int .i64 (s : Int)] w' fun e w2 => e = .returned (partAt t.rules s).val ∧ Kept [] w' w2) := fun w' k => partT_any (hT.kept k) s (by omega) (by omega)
    rw [hpart] at hc1
    have c1 : w.cell? ⟨c, 1, none⟩ = some (.int .i64 (fr : Int)) := hC.blk.cell 1
    have c4 : w.cell? ⟨c, 4, none⟩ = some ov := hC.blk.cell 4
    have c0 : w.cell? ⟨c, 0, none⟩ = some (.pointer (some ⟨b, 0, none⟩)) := hC.blk.cell 0
    have hlen1 : (symT T s).length ≤ 1099511627776 := hL
    have hLne : 1 ≤ (symT T s).length := by
      cases hx : symT T s with
      | nil => exact absurd hx (hS.ne hs2)
      | cons _ _ => simp
    have hTH : Hid (TR _ _ _ _ _ _) := hT
    have hCH : Hid (CutM _ _ _ _ _ _ _ _) := hC
    obtain ⟨L, hLL⟩ : ∃ L, L = (symT T s).length := ⟨_, rfl⟩
    rw [← hLL] at hlen hlen1 hLne
    have hLH : Hid (L = (symT T s).length) := hLL
    clear hLL hL hT hC hpart
    generalize ptOf (symT T s) = pt at *
    obtain ⟨p1, p2, p3, p4⟩ := pt
    simp only [] at hlen
    subst hlen
    unfold PT.val PT.arr at hc1
    simp only [] at hc1
    have hfp := field_len
    by_cases h2 : ((p + p1 : Nat) : Int) ≤ (fr : Int)
    · have hfin : Hid (∀ w1, Kept [] w w1 → SymOut w (w1.setCell ⟨c, 3, none⟩ (.int .i64 ((p + p1 : Nat) : Int))) c b fr dst p (symT T s) out) := fun w1 k1 => ⟨below_set (k1.below (Nat.le_of_lt hcw) (by simp)) _ _, fun k cs e hk _ hb => (hb.kept k1 (by simp)).other _ _ (fun hc => hk hc), ov, by
        have := hLH.out
        rw [cutX_early (by omega), List.append_nil, show min (p + (symT T s).length) dst = p + p1 by omega]
        exact (hCH.out.kept k1).go (by omega)⟩
      have h2' : (p : Int) + (p1 : Int) ≤ (fr : Int) := by omega
      rw [show ((p + p1 : Nat) : Int) = (p : Int) + (p1 : Int) by omega] at hfin
      clear ih hS h2
      go_enter Try.func79, Try.ntmps79
      go_wp2_with fail
      go_quiet (fail)
      go_wp2_with fail
      go_region_law (go_simp; go_at_call 116; refine (hc1.out _ (((Kept.refl [] w).drewN _).drew)).mono ?_; rintro _ w5 ⟨rfl, k5⟩; have K5 := (((Kept.refl [] w).drewN _).drew).trans k5; have r3 : w5.cell? ⟨c, 3, none⟩ = some (.int .i64 (p : Int)) := (K5.cell' hcw 3).trans c3; have r1 : w5.cell? ⟨c, 1, none⟩ = some (.int .i64 (fr : Int)) := (K5.cell' hcw 1).trans c1; have r0 : w5.cell? ⟨c, 0, none⟩ = some (.pointer (some ⟨b, 0, none⟩)) := (K5.cell' hcw 0).trans c0; have q3 : w5.frozen? ⟨c, 3, none⟩ = false := (hCH.out.kept K5).blk.frozen 3)
      all_goals
        go_wp2
        exact bodyPost_ret (v := .tuple #[]) (by simp [results, Try.results79, go_sem]) rfl ⟨rfl, hfin.out _ K5⟩
    · have h2' : (fr : Int) < (p : Int) + (p1 : Int) := by omega
      clear h2
      by_cases h3 : (s : Int) < 256
      · have hx : symT T s = [s] := by unfold symT; rw [if_pos (by omega)]
        have hp1 : p1 = 1 := by rw [hLH.out, hx]; rfl
        subst hp1
        rw [hx]
        obtain ⟨i0, hi0, hz0, hz1, hz2⟩ := info_parts infoU8
        have hfin : Hid (∀ w1 w3 v', Kept [] w w1 → w1.grownBy w3 ov.ownBlock → w3.ownsRow (c + 1) 5 1 v' (out.length + 1) (byteCells out ++ [.int .u8 (s : Int)]) → SymOut w ((w3.setCell ⟨c, 4, none⟩ v').setCell ⟨c, 3, none⟩ (.int .i64 ((p + 1 : Nat) : Int))) c b fr dst p [s] out ∧ Blk w3 c #[.pointer (some ⟨b, 0, none⟩), .int .i64 (fr : Int), .int .i64 (dst : Int), .int .i64 (p : Int), ov] 139) := fun w1 w3 v' k1 g hown => by
          obtain ⟨x1, x2, x4, x3⟩ := (hCH.out.kept k1).grow g hown
          refine ⟨⟨below_set (below_set ((k1.below (Nat.le_of_lt hcw) (by simp)).trans x2) _ _) _ _, fun k cs e hk he hb => ((x4 k cs e he (hb.kept k1 (by simp))).other _ _ (fun hc => hk hc)).other _ _ (fun hc => hk hc), v', ?_⟩, x1⟩
          rw [cutX_one (by omega) (by omega), show min (p + [s].length) dst = p + 1 by simp; omega]
          exact x3
        have own : ∀ w1, Kept [] w w1 → w1.ownsRow (c + 1) 5 1 ov out.length (byteCells out) := fun w1 k1 => (hCH.out.kept k1).row
        have mb : out.length + 1 ≤ maxLen := by have := hCH.out.len; unfold maxLen; omega
        have mc : (out.length + 1) * 1 ≤ 140737488355328 := by have := hCH.out.len; omega
        clear ih hS hx
        go_enter Try.func79, Try.ntmps79
        go_wp2_with fail
        go_quiet (fail)
        go_wp2_with fail
        go_region_law (go_simp; go_at_call 116; refine (hc1.out _ (((Kept.refl [] w).drewN _).drew)).mono ?_; rintro _ w5 ⟨rfl, k5⟩; have K5 := (((Kept.refl [] w).drewN _).drew).trans k5; have r3 : w5.cell? ⟨c, 3, none⟩ = some (.int .i64 (p : Int)) := (K5.cell' hcw 3).trans c3; have r1 : w5.cell? ⟨c, 1, none⟩ = some (.int .i64 (fr : Int)) := (K5.cell' hcw 1).trans c1; have r4 : w5.cell? ⟨c, 4, none⟩ = some ov := (K5.cell' hcw 4).trans c4; have r0 : w5.cell? ⟨c, 0, none⟩ = some (.pointer (some ⟨b, 0, none⟩)) := (K5.cell' hcw 0).trans c0; have q3 : w5.frozen? ⟨c, 3, none⟩ = false := (hCH.out.kept K5).blk.frozen 3)
        all_goals
          go_wp2_with (at_builtin; refine wpList_append_own _ rfl (.tmp 43) (.tmp 46) 98 rfl (c + 1) 5 i0 _ 1 1 Try.underlying98 hi0 hz0 hz1 hz2 rfl (by decide) ov out.length (byteCells out) rfl ?own ⟨w5.heap.size, 0, none⟩ 1 1 [.int .u8 (s : Int)] rfl rfl ?c1 ?c2 ?b1 ?b2 ?b3 ?kk)
          case own => exact own _ (K5.alloc _)
          case c1 => exact cells_new _ _ _ _ rfl
          case c2 => simp [Value.oneCell']
          case b1 => exact mb
          case b2 => exact mc
          case b3 => have := K5.size; simp; omega
          case kk =>
            intro v' w3 hown hgrow _
            obtain ⟨gv, cap, rfl⟩ := own_form hown (by omega)
            obtain ⟨f1, f2⟩ := hfin.out _ _ _ (K5.alloc _) hgrow hown
            have f1 : Hid (SymOut _ _ _ _ _ _ _ _ _) := f1
            have e4 : w3.cell? ⟨c, 4, none⟩ = some ov := f2.cell 4
            have e3 : w3.cell? ⟨c, 3, none⟩ = some (.int .i64 (p : Int)) := f2.cell 3
            have f4 : w3.frozen? ⟨c, 4, none⟩ = false := f2.frozen 4
            have f3 : w3.frozen? ⟨c, 3, none⟩ = false := f2.frozen 3
            have hc3 : c < w3.heap.size := f2.lt
            clear f2 hown hgrow
            go_wp2
            exact bodyPost_ret (v := .tuple #[]) (by simp [results, Try.results79, go_sem]) rfl ⟨rfl, f1.out⟩
      · obtain ⟨x, hx⟩ : ∃ x, t.rules[s - 256]? = some x := ⟨_, List.getElem?_eq_getElem (by omega)⟩
        obtain ⟨u1, u2, u3, _⟩ := hS.rule _ _ hx
        have hxx : symT T s = symT T x.l ++ symT T x.r := by
          rw [← u3]
          unfold symT
          rw [if_neg (by omega)]
        have hrule : ruleAt t.rules (s : Int) = x := by
          unfold ruleAt
          rw [if_pos (by omega), show ((s : Int) - 256).toNat = s - 256 by omega, hx]
          rfl
        have hle : (symT T x.l).length + (symT T x.r).length = (symT T s).length := by rw [hxx, List.length_append]
        have hcr : Hid (∀ w', Kept [] w w' → Calls Try.prog 117 #[.pointer (some ⟨b, 0, none⟩), .int .i64 (s : Int)] w' fun e w2 => e = .returned (ruleAt t.rules s).val ∧ Kept [] w' w2) := fun w' k => ruleT_any (hTH.out.kept k) s (by omega) (by omega)
        rw [hrule] at hcr
        have hl := hLH.out
        have hA : Hid (∀ w', Kept [] w w' → Calls _ _ _ w' _) := fun w' k => ih x.l (by omega) (by omega) (by omega) p ov out w' (hTH.out.kept k) (hCH.out.kept k) hp
        have hB : Hid (∀ w1 w2, Kept [] w w1 → SymOut w1 w2 c b fr dst p (symT T x.l) out → Calls Try.prog 79 #[.pointer (some ⟨c, 0, none⟩), .int .i64 (x.r : Int)] w2 fun e w' => e = .returned (.tuple #[]) ∧ SymOut w w' c b fr dst p (symT T s) out) := fun w1 w2 k1 o => by
          obtain ⟨ov2, hC2⟩ := o.ex
          have hT2 : TR w2 n b t rv sv := (hTH.out.kept k1).under o.below hn
          refine (ih x.r (by omega) (by omega) (by omega) _ ov2 _ w2 hT2 hC2 (Nat.min_le_right _ _)).mono ?_
          rintro e w' ⟨he, o2⟩
          obtain ⟨ov3, hC3⟩ := o2.ex
          refine ⟨he, ((k1.below (Nat.le_of_lt hcw) (by simp)).trans o.below).trans o2.below, fun k cs e hk he hb => o2.stay k cs e hk he (o.stay k cs e hk he (hb.kept k1 (by simp))), ov3, ?_⟩
          rw [hxx, cutX_app, ← List.append_assoc, List.length_append]
          rw [cutX_min] at hC3
          rw [show min (p + ((symT T x.l).length + (symT T x.r).length)) dst = min (min (p + (symT T x.l).length) dst + (symT T x.r).length) dst by omega]
          exact hC3
        clear ih hS hx u1 u2 u3 hxx hrule hle hl
        obtain ⟨rl, rr, ⟨y1, y2, y3, y4⟩⟩ := x
        unfold RU.val RU.cells at hcr
        simp only [] at hcr hA hB
        have h3' : (256 : Int) ≤ (s : Int) := by omega
        clear h3
        generalize symT T rl = XL at *
        generalize symT T rr = XR at *
        generalize symT T s = XS at *
        go_enter Try.func79, Try.ntmps79
        go_wp2_with fail
        go_quiet (fail)
        go_wp2_with fail
        go_region_law (go_simp; go_at_call 116; refine (hc1.out _ (((Kept.refl [] w).drewN _).drew)).mono ?_; rintro _ w5 ⟨rfl, k5⟩; have K5 := (((Kept.refl [] w).drewN _).drew).trans k5; have r3 : w5.cell? ⟨c, 3, none⟩ = some (.int .i64 (p : Int)) := (K5.cell' hcw 3).trans c3; have r1 : w5.cell? ⟨c, 1, none⟩ = some (.int .i64 (fr : Int)) := (K5.cell' hcw 1).trans c1; have r0 : w5.cell? ⟨c, 0, none⟩ = some (.pointer (some ⟨b, 0, none⟩)) := (K5.cell' hcw 0).trans c0; have q3 : w5.frozen? ⟨c, 3, none⟩ = false := (hCH.out.kept K5).blk.frozen 3)
        all_goals
          go_wp2_with (first
            | (go_at_call 117
               refine (hcr.out _ K5).mono ?_
               rintro _ w6 ⟨rfl, k6⟩
               have K6 := (K5.trans k6).alloc (.cells #[.int .i64 rl, .int .i64 rr, .int .i64 y1, .int .i64 y2, .int .i64 y3, .int .i64 y4] 178)
               have L6 := (K5.trans k6).size)
            | (go_at_call_of 79 (Value.int IntKind.i64 (rl : Int))
               refine (hA.out _ K6).mono ?_
               rintro _ w7 ⟨rfl, o7⟩
               have o7H : Hid (SymOut _ _ _ _ _ _ _ _ _) := o7
               have e1 : w7.cell? ⟨w6.heap.size, 1, none⟩ = some (.int .i64 rr) := (o7.stay _ _ _ (by omega) (by decide) (Blk.new w6 _ _)).cell 1)
            | (go_at_call_of 79 (Value.int IntKind.i64 (rr : Int))
               refine (hB.out _ _ K6 o7H.out).mono ?_
               rintro _ w8 ⟨rfl, o8⟩))
          go_end0
          exact ⟨rfl, o8⟩

end Go.Proofs.Ytgifhgnccmnbiaa

set_option linter.unusedVariables false
set_option linter.unusedSimpArgs false
namespace Go.Proofs.Ytgifhgnccmnbiaa
open Go.RowKit Go.IntWalk

/-- The number of the two bytes at a place; -1: they are not there. -/
def prI (f : ByteArray) (i : Nat) : Int := if i + 2 ≤ f.size then (bt f i : Int) + 256 * (bt f (i + 1) : Int) else -1
theorem prI_bd (f : ByteArray) (i : Nat) : -1 ≤ prI f i ∧ prI f i ≤ 65535 := by
  have h1 := bt_bd f i
  have h2 := bt_bd f (i + 1)
  unfold prI; split <;> omega
theorem prI_neg {f : ByteArray} {i : Nat} : prI f i < 0 ↔ ¬ i + 2 ≤ f.size := by
  unfold prI; split
  · constructor
    · intro h; omega
    · intro h; omega
  · constructor
    · intro h; assumption
    · intro h; omega

set_option maxHeartbeats 1000000 in
set_option maxRecDepth 100000 in
theorem pairAt_any (f : ByteArray) (hf : f.size ≤ 100000) (i : Nat) (hi : i ≤ 100000) (w : World) :
    Calls Try.prog 76 #[.string f, .int .i64 (i : Int)] w fun e w' => e = .returned (.int .i64 (prI f i)) ∧ Kept [] w w' := by
  have g0 : ¬ (i : Int) < 0 := by omega
  by_cases h : i + 2 ≤ f.size
  · have e : Hid (prI f i = (f[i].toNat : Int) + 256 * (f[i + 1].toNat : Int)) := by
      show prI f i = _
      unfold prI; rw [if_pos h, bt_lt (by omega), bt_lt (by omega)]
    have g1 : ¬ (f.size : Int) < (i : Int) + 2 := by omega
    have g2 : (i : Int) < (f.size : Int) := by omega
    have g3 : (i : Int) + 1 < (f.size : Int) := by omega
    have g4 : (0 : Int) ≤ (i : Int) + 1 := by omega
    have b1 := f[i].toNat_lt
    have b2 := f[i + 1].toNat_lt
    have e1 : IntKind.i64.wrap (f[i].toNat : Int) = (f[i].toNat : Int) := by rw [IntKind.wrap_i64]; omega
    have e2 : IntKind.i64.wrap (f[i + 1].toNat : Int) = (f[i + 1].toNat : Int) := by rw [IntKind.wrap_i64]; omega
    go_enter Try.func76, Try.ntmps76
    go_wp2_with fail
    go_quiet (fail)
    go_wp2
    go_ret
    exact ⟨ret_int (by rw [e.out]), (Kept.refl [] w).drewN _⟩
  · have e : Hid (prI f i = -1) := if_neg h
    have g1 : (f.size : Int) < (i : Int) + 2 := by omega
    go_enter Try.func76, Try.ntmps76
    go_wp2
    go_ret
    exact ⟨ret_int (by rw [e.out]), Kept.refl _ _⟩

/-- A file of rules, by the document's words. -/
structure GOk (f : ByteArray) : Prop where
  five : 5 ≤ f.size
  most : f.size ≤ 4000
  sg : isSG f
  r : bt f 2 ≤ 100
  rules : ∀ k, k < 2 * bt f 2 → 0 ≤ prI f (3 + 2 * k) ∧ prI f (3 + 2 * k) < 256 + ((k / 2 : Nat) : Int)
  n0 : 0 ≤ prI f (3 + 4 * bt f 2)
  n1 : prI f (3 + 4 * bt f 2) ≤ 1000
  size : (f.size : Int) = 5 + 4 * (bt f 2 : Int) + 2 * prI f (3 + 4 * bt f 2)
  syms : ∀ k : Nat, (k : Int) < prI f (3 + 4 * bt f 2) → prI f (5 + 4 * bt f 2 + 2 * k) < 256 + (bt f 2 : Int)
structure RulesR (f : ByteArray) (w w' : World) (e : Ending) : Prop where
  kept : Kept [] w w'
  out : (GOk f ∧ e = .returned (.tuple #[.int .i64 (prI f (3 + 4 * bt f 2)), .bool true])) ∨ (¬ GOk f ∧ e = .returned (.tuple #[.int .i64 0, .bool false]))

set_option maxHeartbeats 4000000 in
set_option maxRecDepth 100000 in
theorem rrules_any (f : ByteArray) (hf : f.size ≤ maxLen) (w : World) :
    Calls Try.prog 75 #[.string f] w fun e w' => RulesR f w w' e := by
  unfold maxLen at hf
  have hk0 : Hid (Kept [] w w) := Kept.refl _ _
  by_cases h5 : (f.size : Int) < 5
  · have hn : Hid (¬ GOk f) := fun h => by have := h.five; omega
    go_enter Try.func75, Try.ntmps75
    go_wp2
    go_ret2
    exact ⟨hk0.out, Or.inr ⟨hn.out, rfl⟩⟩
  by_cases h4 : (4000 : Int) < (f.size : Int)
  · have hn : Hid (¬ GOk f) := fun h => by have := h.most; omega
    have h5' : (5 : Int) ≤ (f.size : Int) := by omega
    clear h5
    go_enter Try.func75, Try.ntmps75
    go_wp2
    go_ret2
    exact ⟨hk0.out, Or.inr ⟨hn.out, rfl⟩⟩
  have h4' : (f.size : Int) ≤ 4000 := by omega
  have h5' : (5 : Int) ≤ (f.size : Int) := by omega
  have h2' : (2 : Int) ≤ (f.size : Int) := by omega
  have h2i : (2 : Int) < (f.size : Int) := by omega
  clear h4 h5
  by_cases hG : isSG f
  · have eG : f.extract 0 2 = ⟨#[83, 71]⟩ := (head_bytes (by omega) 83 71).2 hG
    have hGH : Hid (isSG f) := hG
    clear hG
    obtain ⟨r, hr⟩ : ∃ r, r = bt f 2 := ⟨_, rfl⟩
    have hr2 : f[2].toNat = r := by rw [hr, bt_lt (by omega)]
    have hr255 : r < 256 := by rw [← hr2]; exact f[2].toNat_lt
    have hrH : Hid (r = bt f 2) := hr
    clear hr
    by_cases hrb : (100 : Int) < (r : Int)
    · have hn : Hid (¬ GOk f) := fun h => by have := h.r; rw [← hrH.out] at this; omega
      go_enter Try.func75, Try.ntmps75
      go_wp2
      go_ret2
      exact ⟨hk0.out, Or.inr ⟨hn.out, rfl⟩⟩
    · have hrb' : (r : Int) ≤ 100 := by omega
      clear hrb
      have hpa : Hid (∀ i, i ≤ 100000 → ∀ w, Calls _ _ _ w _) := fun i hi w => pairAt_any f (by omega) i hi w
      go_enter Try.func75, Try.ntmps75
      go_wp2_with fail
      go_loopw [5] (fun iv wr => ∃ k : Nat, iv = .int .i64 (k : Int) ∧ k ≤ 2 * r ∧ (∀ j, j < k → 0 ≤ prI f (3 + 2 * j) ∧ prI f (3 + 2 * j) < 256 + ((j / 2 : Nat) : Int)) ∧ Kept [] w wr) (fun iv _ => (2 * (r : Int) - intOf iv).toNat)
      case atStart => exact ⟨0, rfl, Nat.zero_le _, fun j hj => by omega, hk0.out⟩
      case round =>
        obtain ⟨k, rfl, hk, hall, hkw⟩ := hrel
        have hallH : Hid (∀ j, _) := hall
        have hkwH : Hid (Kept _ _ _) := hkw
        clear hall hkw
        by_cases hlt : (k : Int) < 2 * (r : Int)
        · have hc := hpa.out (3 + 2 * k) (by omega) wr
          have ecast : ((3 + 2 * k : Nat) : Int) = 3 + 2 * (k : Int) := by omega
          rw [ecast] at hc
          have hc : Hid (Calls _ _ _ _ _) := hc
          have hb := prI_bd f (3 + 2 * k)
          have hrule : Hid (GOk f → 0 ≤ prI f (3 + 2 * k) ∧ prI f (3 + 2 * k) < 256 + ((k / 2 : Nat) : Int)) := fun h => h.rules k (by rw [← hrH.out]; omega)
          have hnext : Hid (0 ≤ prI f (3 + 2 * k) ∧ prI f (3 + 2 * k) < 256 + ((k / 2 : Nat) : Int) → ∀ j, j < k + 1 → 0 ≤ prI f (3 + 2 * j) ∧ prI f (3 + 2 * j) < 256 + ((j / 2 : Nat) : Int)) := fun h j hj => by
            by_cases hjk : j = k
            · subst hjk; exact h
            · exact hallH.out j (by omega)
          have ediv : (k : Int).tdiv 2 = ((k / 2 : Nat) : Int) := (Int.ofNat_tdiv k 2).symm
          have hq2 : k / 2 ≤ 200 := by omega
          clear ecast hpa
          generalize prI f (3 + 2 * k) = v at *
          generalize k / 2 = q at *
          go_wp2_with fail
          refine hc.out.mono ?_
          rintro e w2 ⟨rfl, k2⟩
          have hk2 : Hid (Kept _ _ _) := hkwH.out.trans k2
          clear hc k2 hkwH
          by_cases hv0 : v < 0
          · have hn : Hid (¬ GOk f) := fun h => by have := (hrule.out h).1; omega
            clear hrule hnext hallH
            go_wp2
            go_ret2
            exact ⟨hk2.out, Or.inr ⟨hn.out, rfl⟩⟩
          · by_cases hv1 : 256 + (q : Int) ≤ v
            · have hn : Hid (¬ GOk f) := fun h => by have := (hrule.out h).2; omega
              have hv0' : 0 ≤ v := by omega
              clear hrule hnext hallH hv0
              go_wp2
              go_ret2
              exact ⟨hk2.out, Or.inr ⟨hn.out, rfl⟩⟩
            · have hnx : Hid (∀ j, j < k + 1 → _) := hnext.out ⟨by omega, by omega⟩
              have hv0' : 0 ≤ v := by omega
              have hv1' : v < 256 + (q : Int) := by omega
              clear hrule hnext hallH hv0 hv1
              go_wp2
              refine ⟨⟨k + 1, by go_num, by omega, hnx.out, hk2.out⟩, ?_⟩
              simp only [intOf]; omega
        · have hke : k = 2 * r := by omega
          have hall2 : Hid (∀ j, j < 2 * r → 0 ≤ prI f (3 + 2 * j) ∧ prI f (3 + 2 * j) < 256 + ((j / 2 : Nat) : Int)) := fun j hj => hallH.out j (by omega)
          have hc := hpa.out (3 + 4 * r) (by omega) wr
          have ecast : ((3 + 4 * r : Nat) : Int) = 3 + 4 * (r : Int) := by omega
          rw [ecast] at hc
          have hc : Hid (Calls _ _ _ _ _) := hc
          have hb := prI_bd f (3 + 4 * r)
          have hGk : Hid (GOk f → 0 ≤ prI f (3 + 4 * r) ∧ prI f (3 + 4 * r) ≤ 1000 ∧ (f.size : Int) = 5 + 4 * (r : Int) + 2 * prI f (3 + 4 * r) ∧ ∀ j : Nat, (j : Int) < prI f (3 + 4 * r) → prI f (5 + 4 * r + 2 * j) < 256 + (r : Int)) := fun h => by
            rw [hrH.out]; exact ⟨h.n0, h.n1, h.size, h.syms⟩
          have hmk : Hid (0 ≤ prI f (3 + 4 * r) → prI f (3 + 4 * r) ≤ 1000 → (f.size : Int) = 5 + 4 * (r : Int) + 2 * prI f (3 + 4 * r) → (∀ j : Nat, (j : Int) < prI f (3 + 4 * r) → prI f (5 + 4 * r + 2 * j) < 256 + (r : Int)) → GOk f) := fun a b c d => by
            rw [hrH.out] at a b c d hrb' hall2
            exact ⟨by omega, by omega, hGH.out, by omega, hall2.out, a, b, c, d⟩
          have hret : Hid (∀ e w', RulesR f w w' e ↔ (Kept [] w w' ∧ ((GOk f ∧ e = .returned (.tuple #[.int .i64 (prI f (3 + 4 * r)), .bool true])) ∨ (¬ GOk f ∧ e = .returned (.tuple #[.int .i64 0, .bool false]))))) := fun e w' => by
            rw [hrH.out]
            exact ⟨fun h => ⟨h.kept, h.out⟩, fun h => ⟨h.1, h.2⟩⟩
          clear ecast hallH hke hk
          obtain ⟨n, hn⟩ : ∃ n, n = prI f (3 + 4 * r) := ⟨_, rfl⟩
          rw [← hn] at hc hb hGk hmk
          have hnH : Hid (n = _) := hn
          clear hn
          have hlt' : ¬ (k : Int) < 2 * (r : Int) := hlt
          go_wp2_with fail
          refine hc.out.mono ?_
          rintro e w2 ⟨rfl, k2⟩
          have hk2 : Hid (Kept _ _ _) := hkwH.out.trans k2
          clear hc k2 hkwH
          by_cases hn0 : n < 0
          · have hno : Hid (¬ GOk f) := fun h => by have := (hGk.out h).1; omega
            clear hGk hmk hpa
            go_wp2
            go_ret2
            exact (hret.out _ _).2 ⟨hk2.out, Or.inr ⟨hno.out, rfl⟩⟩
          by_cases hn1 : 1000 < n
          · have hno : Hid (¬ GOk f) := fun h => by have := (hGk.out h).2.1; omega
            have hn0' : 0 ≤ n := by omega
            clear hGk hmk hpa hn0
            go_wp2
            go_ret2
            exact (hret.out _ _).2 ⟨hk2.out, Or.inr ⟨hno.out, rfl⟩⟩
          have hn0' : 0 ≤ n := by omega
          have hn1' : n ≤ 1000 := by omega
          clear hn0 hn1
          by_cases hsz : (f.size : Int) = 5 + 4 * (r : Int) + 2 * n
          · have hszb : ((f.size : Int) != 5 + 4 * (r : Int) + 2 * n) = false := by rw [hsz]; simp
            have hszH : Hid (_ = _) := hsz
            clear hsz
            go_wp2_with fail
            go_loopw [8] (fun iv wr => ∃ j : Nat, iv = .int .i64 (j : Int) ∧ (j : Int) ≤ n ∧ (∀ i : Nat, i < j → prI f (5 + 4 * r + 2 * i) < 256 + (r : Int)) ∧ Kept [] w wr) (fun iv _ => (n - intOf iv).toNat)
            case atStart => exact ⟨0, rfl, hn0', fun i hi => by omega, hk2.out⟩
            case round =>
              obtain ⟨j, rfl, hj, hall, hkw⟩ := hrel
              have hallH : Hid (∀ i : Nat, _) := hall
              have hkwH : Hid (Kept _ _ _) := hkw
              clear hall hkw hk2
              by_cases hjn : (j : Int) < n
              · have hc := fun w => hpa.out (5 + 4 * r + 2 * j) (by omega) w
                have ecast : ((5 + 4 * r + 2 * j : Nat) : Int) = 5 + 4 * (r : Int) + 2 * (j : Int) := by omega
                rw [ecast] at hc
                have hc : Hid (∀ w, Calls _ _ _ w _) := hc
                have hb2 := prI_bd f (5 + 4 * r + 2 * j)
                have hrule : Hid (GOk f → prI f (5 + 4 * r + 2 * j) < 256 + (r : Int)) := fun h => (hGk.out h).2.2.2 j hjn
                have hnext : Hid (prI f (5 + 4 * r + 2 * j) < 256 + (r : Int) → ∀ i : Nat, i < j + 1 → prI f (5 + 4 * r + 2 * i) < 256 + (r : Int)) := fun h i hi => by
                  by_cases hij : i = j
                  · subst hij; exact h
                  · exact hallH.out i (by omega)
                clear ecast hpa hallH
                generalize prI f (5 + 4 * r + 2 * j) = v at *
                go_wp2_with fail
                refine (hc.out _).mono ?_
                rintro e w3 ⟨rfl, k3⟩
                have hk3 : Hid (Kept _ _ _) := hkwH.out.trans k3
                clear hc k3 hkwH
                by_cases hv1 : 256 + (r : Int) ≤ v
                · have hno : Hid (¬ GOk f) := fun h => by have := hrule.out h; omega
                  clear hrule hnext hmk hGk
                  go_wp2
                  go_ret2
                  exact (hret.out _ _).2 ⟨hk3.out, Or.inr ⟨hno.out, rfl⟩⟩
                · have hnx : Hid (∀ i : Nat, i < j + 1 → _) := hnext.out (by omega)
                  have hv1' : v < 256 + (r : Int) := by omega
                  clear hrule hnext hmk hGk hv1
                  go_wp2
                  refine ⟨⟨j + 1, by go_num, by omega, hnx.out, hk3.out⟩, ?_⟩
                  simp only [intOf]; omega
              · have hyes : Hid (GOk f) := hmk.out hn0' hn1' hszH.out (fun i hi => hallH.out i (by omega))
                clear hmk hGk hallH hpa
                go_wp2
                go_ret2
                exact (hret.out _ _).2 ⟨hkwH.out, Or.inl ⟨hyes.out, by rw [hnH.out]; rfl⟩⟩
          · have hno : Hid (¬ GOk f) := fun h => hsz (hGk.out h).2.2.1
            have hszb : ((f.size : Int) != 5 + 4 * (r : Int) + 2 * n) = true := by simp [hsz]
            clear hGk hmk hpa hsz
            go_wp2
            go_ret2
            exact (hret.out _ _).2 ⟨hk2.out, Or.inr ⟨hno.out, rfl⟩⟩
  · have hn : Hid (¬ GOk f) := fun h => hG h.sg
    have d1 : ((f.extract 0 2).toList == [83, 71]) = false := head_ne (by omega) 83 71 (fun h => hG h)
    have d2 : ((f.extract 0 2).toList != [83, 71]) = true := by simp [bne, d1]
    clear hG
    go_enter Try.func75, Try.ntmps75
    go_wp2
    go_ret2
    exact ⟨hk0.out, Or.inr ⟨hn.out, rfl⟩⟩

end Go.Proofs.Ytgifhgnccmnbiaa

set_option linter.unusedVariables false
set_option linter.unusedSimpArgs false
namespace Go.Proofs.Ytgifhgnccmnbiaa
open Go.RowKit Go.IntWalk

def PI.arr (p : PI) : Array Value := #[.int .i64 (p.long : Int), .int .i64 (p.ends : Int), .int .i64 (p.tail : Int), .slice none 0 0, .slice none 0 0, .int .i64 0]
def PI.val (p : PI) : Value := .agg p.arr
def PI.cells (p : PI) : List Value := [.int .i64 (p.long : Int), .int .i64 (p.ends : Int), .int .i64 (p.tail : Int), .slice none 0 0, .slice none 0 0, .int .i64 0]
def piCells (l : List PI) : List Value := l.flatMap PI.cells
structure PIsmall (p : PI) : Prop where
  long : p.long ≤ 1099511627777
  ends : p.ends ≤ 1099511627777
  tail : p.tail ≤ 1099511627777
theorem piOf_small (t : List Nat) : PIsmall (piOf t) := ⟨capL_le _, capL_le _, capL_le _⟩
theorem capS_le (a b : Nat) : capS a b ≤ 1099511627777 := by rw [capS_eq]; exact capL_le _
theorem joinedP_small {a b : PI} (hb : PIsmall b) : PIsmall (joinedP a b) := ⟨capS_le _ _, capS_le _ _, by unfold joinedP; simp only []; split; exact capS_le _ _; exact hb.tail⟩
theorem piCells_length : ∀ l : List PI, (piCells l).length = l.length * 6
  | [] => rfl
  | x :: l => by
    have := piCells_length l
    simp only [piCells, List.flatMap_cons, List.length_append, List.length_cons, PI.cells, List.length_nil] at this ⊢
    omega
theorem piCells_get : ∀ (l : List PI) (i j : Nat) (x : PI), l[i]? = some x → j < 6 → (piCells l)[i * 6 + j]? = x.cells[j]?
  | [], i, j, x, h, _ => by simp at h
  | y :: l, 0, j, x, h, hj => by
    simp only [List.getElem?_cons_zero, Option.some.injEq] at h
    subst h
    show (y.cells ++ piCells l)[0 * 6 + j]? = _
    rw [List.getElem?_append_left (by simp [PI.cells]; omega)]
    congr 1; omega
  | y :: l, i + 1, j, x, h, hj => by
    rw [List.getElem?_cons_succ] at h
    show (y.cells ++ piCells l)[(i + 1) * 6 + j]? = _
    rw [List.getElem?_append_right (by simp [PI.cells]; omega), show (i + 1) * 6 + j - y.cells.length = i * 6 + j by simp [PI.cells]; omega]
    exact piCells_get l i j x h hj
theorem piCells_snoc (l : List PI) (x : PI) : piCells (l ++ [x]) = piCells l ++ x.cells := by simp [piCells]

set_option maxHeartbeats 400000 in
theorem pboth_any (a b : Nat) (ha : a ≤ 1099511627777) (hb : b ≤ 1099511627777) (w : World) : Calls Try.prog 115 #[.int .i64 (a : Int), .int .i64 (b : Int)] w fun e w' => e = .returned (.int .i64 (capS a b : Int)) ∧ w' = w := by
  unfold capS
  by_cases h : (1099511627776 : Int) < (a : Int) + (b : Int)
  · rw [if_pos (by omega)]
    go_enter Try.func115, Try.ntmps115
    go_wp2
    go_ret
    exact ⟨rfl, rfl⟩
  · rw [if_neg (by omega)]
    go_enter Try.func115, Try.ntmps115
    go_wp2
    go_ret
    exact ⟨ret_int (by omega), rfl⟩

theorem size_piece : (Try.prog.info? 91).map (·.size) = some 6 := by kernel_rfl
theorem results_piece {fn : Func} {r : Tmp} (h : fn.results = #[.cell r 91]) (tmps : Array Value) (w : World) (g : Nat) (p : PI)
    (hp : tmps.getD r undef = .pointer (some ⟨g, 0, none⟩)) (hg : Blk w g p.arr 91) : (results fn tmps).run Try.prog w = .ok p.val w :=
  results_cell_row h tmps w g _ _ _ _ hp hg Try.underlying91 rfl size_piece

set_option maxHeartbeats 1000000 in
set_option maxRecDepth 100000 in
theorem psize_any {w : World} {b B : Nat} {kv nv rv tv pv : Value} {ps : List PI} (hb : Blk w b #[kv, nv, rv, tv, pv] 95) (hp : w.ownsRow B 91 6 pv ps.length (piCells ps)) (s : Nat) (hs : s < 256 + ps.length) (hl : ps.length ≤ 1000) :
    Calls Try.prog 77 #[.pointer (some ⟨b, 0, none⟩), .int .i64 (s : Int)] w fun e w' => e = .returned (sizeP ps s).val ∧ Kept [] w w' := by
  have hk : Hid (∀ o1, Kept [] w (w.alloc o1)) := fun o1 => (Kept.refl [] w).alloc _
  unfold sizeP
  by_cases h1 : s = 10
  · subst h1
    rw [if_pos rfl]
    unfold PI.val PI.arr
    clear hb hp
    go_enter Try.func77, Try.ntmps77
    go_wp2
    refine bodyPost_ret (v := .agg #[.int .i64 1, .int .i64 1, .int .i64 0, .slice none 0 0, .slice none 0 0, .int .i64 0]) (by simp [results, Try.results77, go_sem]) rfl ⟨rfl, hk.out _⟩
  · rw [if_neg h1]
    have e1 : ((s : Int) == 10) = false := beq_eq_false_iff_ne.2 (by omega)
    clear h1
    by_cases h2 : (s : Int) < 256
    · rw [if_pos (by omega)]
      unfold PI.val PI.arr
      clear hb hp
      go_enter Try.func77, Try.ntmps77
      go_wp2
      refine bodyPost_ret (v := .agg #[.int .i64 1, .int .i64 0, .int .i64 1, .slice none 0 0, .slice none 0 0, .int .i64 0]) (by simp [results, Try.results77, go_sem]) rfl ⟨rfl, hk.out _⟩
    · rw [if_neg (by omega)]
      obtain ⟨k, rfl⟩ : ∃ k : Nat, s = k + 256 := ⟨s - 256, by omega⟩
      rw [Nat.add_sub_cancel]
      have hkl : k < ps.length := by omega
      have c4 : w.cell? ⟨b, 4, none⟩ = some pv := hb.cell 4
      have hbw : b < w.heap.size := hb.lt
      obtain ⟨x, hx⟩ : ∃ x, ps[k]? = some x := ⟨_, List.getElem?_eq_getElem hkl⟩
      rw [show ps.getD k {} = x by rw [List.getD, hx]; rfl]
      obtain ⟨g, cap, rfl⟩ := own_form hp (by omega)
      have hgw : g < w.heap.size := (hp.lt g rfl).2
      have hc : ∀ j, j < 6 → w.cell? ⟨g, k * 6 + j, none⟩ = x.cells[j]? := fun j hj => by
        obtain ⟨u, hu⟩ : ∃ u, x.cells[j]? = some u := ⟨_, List.getElem?_eq_getElem (by simp [PI.cells]; omega)⟩
        have := hp.cells (g := g) rfl (k * 6 + j) u (by rw [piCells_get _ _ _ _ hx hj]; exact hu)
        rw [ptr_add] at this
        rw [this, hu]
      obtain ⟨p1, p2, p3⟩ := x
      have d0 : w.cell? ⟨g, k * 6, none⟩ = some (.int .i64 (p1 : Int)) := hc 0 (by omega)
      have d1 : w.cell? ⟨g, k * 6 + 1, none⟩ = some (.int .i64 (p2 : Int)) := hc 1 (by omega)
      have d2 : w.cell? ⟨g, k * 6 + 2, none⟩ = some (.int .i64 (p3 : Int)) := hc 2 (by omega)
      have d3 : w.cell? ⟨g, k * 6 + 3, none⟩ = some (.slice none 0 0) := hc 3 (by omega)
      have d4 : w.cell? ⟨g, k * 6 + 4, none⟩ = some (.slice none 0 0) := hc 4 (by omega)
      have d5 : w.cell? ⟨g, k * 6 + 5, none⟩ = some (.int .i64 0) := hc 5 (by omega)
      unfold PI.val PI.arr
      simp only []
      generalize ps.length = n at *
      have lt : (k : Int) < (n : Int) := by omega
      clear hp hb hc hx hkl
      go_enter Try.func77, Try.ntmps77
      go_wp2
      refine bodyPost_ret (v := .agg #[.int .i64 p1, .int .i64 p2, .int .i64 p3, .slice none 0 0, .slice none 0 0, .int .i64 0]) (by simp [results, Try.results77, go_sem]) rfl ⟨rfl, hk.out _⟩

def set6W (w : World) (g : Nat) (u0 u1 u2 u3 u4 u5 : Value) : World := ((((((w.setCell ⟨g, 0, none⟩ u0).setCell ⟨g, 1, none⟩ u1).setCell ⟨g, 2, none⟩ u2).setCell ⟨g, 3, none⟩ u3).setCell ⟨g, 4, none⟩ u4).setCell ⟨g, 5, none⟩ u5)
theorem set6 {w : World} {g : Nat} {E : TypeId} {a0 a1 a2 a3 a4 a5 : Value} (h : Blk w g #[a0, a1, a2, a3, a4, a5] E) (u0 u1 u2 u3 u4 u5 : Value) : Blk (set6W w g u0 u1 u2 u3 u4 u5) g #[u0, u1, u2, u3, u4, u5] E :=
  (((((h.set 0 u0).set 1 u1).set 2 u2).set 3 u3).set 4 u4).set 5 u5
theorem kept6 {w w1 : World} (k : Kept [] w w1) {g : Nat} (hg : w.heap.size ≤ g) (u0 u1 u2 u3 u4 u5 : Value) : Kept [] w (set6W w1 g u0 u1 u2 u3 u4 u5) :=
  (((((k.setCell (Or.inr hg) _).setCell (Or.inr hg) _).setCell (Or.inr hg) _).setCell (Or.inr hg) _).setCell (Or.inr hg) _).setCell (Or.inr hg) _

set_option maxHeartbeats 4000000 in
set_option maxRecDepth 100000 in
theorem joined_any (a b : PI) (ha : PIsmall a) (hb : PIsmall b) (w : World) : Calls Try.prog 78 #[a.val, b.val] w fun e w' => e = .returned (joinedP a b).val ∧ Kept [] w w' := by
  obtain ⟨a1, a2, a3⟩ := a
  obtain ⟨b1, b2, b3⟩ := b
  obtain ⟨ha1, ha2, ha3⟩ := ha
  obtain ⟨hb1, hb2, hb3⟩ := hb
  simp only [] at ha1 ha2 ha3 hb1 hb2 hb3
  unfold joinedP PI.val PI.arr
  simp only []
  have g1 : Hid (∀ w, Calls _ _ _ w _) := fun w => pboth_any a1 b1 ha1 hb1 w
  have g2 : Hid (∀ w, Calls _ _ _ w _) := fun w => pboth_any a2 b2 ha2 hb2 w
  have g3 : Hid (∀ w, Calls _ _ _ w _) := fun w => pboth_any a3 b1 ha3 hb1 w
  generalize capS a1 b1 = L1 at *
  generalize capS a2 b2 = L2 at *
  generalize capS a3 b1 = L3 at *
  obtain ⟨T, hT⟩ : ∃ T, T = if b2 = 0 then L3 else b3 := ⟨_, rfl⟩
  rw [← hT]
  have hTH : Hid (T = _) := hT
  clear hT
  go_enter Try.func78, Try.ntmps78
  go_upto_region 1 with fail
  obtain ⟨W, hW⟩ : ∃ W, W = ((w.alloc (.cells #[.int .i64 (a1 : Int), .int .i64 (a2 : Int), .int .i64 (a3 : Int), .slice none 0 0, .slice none 0 0, .int .i64 0] 91)).alloc (.cells #[.int .i64 (b1 : Int), .int .i64 (b2 : Int), .int .i64 (b3 : Int), .slice none 0 0, .slice none 0 0, .int .i64 0] 91)).alloc (.cells #[.int .i64 0, .int .i64 0, .int .i64 0, .slice none 0 0, .slice none 0 0, .int .i64 0] 91) := ⟨_, rfl⟩
  rw [← hW]
  have hB0 : Blk W w.heap.size #[.int .i64 (a1 : Int), .int .i64 (a2 : Int), .int .i64 (a3 : Int), .slice none 0 0, .slice none 0 0, .int .i64 0] 91 := by rw [hW]; exact ((Blk.new w _ _).alloc _).alloc _
  have hB1 : Blk W (w.heap.size + 1) #[.int .i64 (b1 : Int), .int .i64 (b2 : Int), .int .i64 (b3 : Int), .slice none 0 0, .slice none 0 0, .int .i64 0] 91 := by
    rw [hW]
    have e : (w.alloc (.cells #[.int .i64 (a1 : Int), .int .i64 (a2 : Int), .int .i64 (a3 : Int), .slice none 0 0, .slice none 0 0, .int .i64 0] 91)).heap.size = w.heap.size + 1 := by simp
    rw [← e]
    exact (Blk.new _ _ _).alloc _
  have hB2 : Blk W (w.heap.size + 2) #[.int .i64 0, .int .i64 0, .int .i64 0, .slice none 0 0, .slice none 0 0, .int .i64 0] 91 := by
    rw [hW]
    have e : ((w.alloc (.cells #[.int .i64 (a1 : Int), .int .i64 (a2 : Int), .int .i64 (a3 : Int), .slice none 0 0, .slice none 0 0, .int .i64 0] 91)).alloc (.cells #[.int .i64 (b1 : Int), .int .i64 (b2 : Int), .int .i64 (b3 : Int), .slice none 0 0, .slice none 0 0, .int .i64 0] 91)).heap.size = w.heap.size + 2 := by simp
    rw [← e]
    exact Blk.new _ _ _
  have hWk : Hid (Kept [] w W) := by show Kept [] w W; rw [hW]; exact (((Kept.refl [] w).alloc _).alloc _).alloc _
  have hB0H : Hid (Blk _ _ _ _) := hB0
  have hB1H : Hid (Blk _ _ _ _) := hB1
  have hB2H : Hid (Blk _ _ _ _) := hB2
  have c1 : W.cell? ⟨w.heap.size, 0, none⟩ = some (.int .i64 (a1 : Int)) := hB0.cell 0
  have c2 : W.cell? ⟨w.heap.size, 1, none⟩ = some (.int .i64 (a2 : Int)) := hB0.cell 1
  have c3 : W.cell? ⟨w.heap.size + 1, 0, none⟩ = some (.int .i64 (b1 : Int)) := hB1.cell 0
  have c4 : W.cell? ⟨w.heap.size + 1, 1, none⟩ = some (.int .i64 (b2 : Int)) := hB1.cell 1
  have c5 : W.cell? ⟨w.heap.size + 1, 2, none⟩ = some (.int .i64 (b3 : Int)) := hB1.cell 2
  clear hB0 hB1 hB2 hW
  have n1 := World.new_ne W _ c1
  have n3 := World.new_ne W _ c3
  go_cut [5] (fun s5 wx => s5 = .pointer (some ⟨W.heap.size, 0, none⟩) ∧ ∃ y, y = wx ∧ Blk y W.heap.size #[.int .i64 (L1 : Int), .int .i64 (L2 : Int), .int .i64 (b3 : Int), .slice none 0 0, .slice none 0 0, .int .i64 0] 91 ∧ Kept [] W y)
  case first =>
    go_region_held3 (fun w' => w'.cell? ⟨w.heap.size, 0, none⟩ = some (.int .i64 (a1 : Int)) ∧ w'.cell? ⟨w.heap.size, 1, none⟩ = some (.int .i64 (a2 : Int)) ∧ w'.cell? ⟨w.heap.size + 1, 0, none⟩ = some (.int .i64 (b1 : Int)) ∧ w'.cell? ⟨w.heap.size + 1, 1, none⟩ = some (.int .i64 (b2 : Int)) ∧ w'.cell? ⟨w.heap.size + 1, 2, none⟩ = some (.int .i64 (b3 : Int))) (go_keep)
        (first | (go_at_call_of 115 (Value.int IntKind.i64 (a1 : Int)); refine (g1.out _).mono ?_; rintro _ _ ⟨rfl, rfl⟩) | (go_at_call_of 115 (Value.int IntKind.i64 (a2 : Int)); refine (g2.out _).mono ?_; rintro _ _ ⟨rfl, rfl⟩))
    all_goals
      go_wp2_with fail
      go_meet
      exact ⟨rfl, _, rfl, Blk.new _ _ _, (Kept.refl _ _).drew.alloc _⟩
  case rest =>
    obtain ⟨rfl, wx, hwx, hBx, hkx⟩ := hcut
    subst hwx
    have hB0 := hB0H.out.kept hkx (by simp)
    have hB1 := hB1H.out.kept hkx (by simp)
    have hB2 := hB2H.out.kept hkx (by simp)
    obtain ⟨N, hN⟩ : ∃ N, N = W.heap.size := ⟨_, rfl⟩
    rw [← hN] at hBx ⊢
    have hNl : w.heap.size + 2 < N := by rw [hN]; exact hB2H.out.lt
    have hNx : N < wx.heap.size := hBx.lt
    have m1 : N ≠ w.heap.size + 2 := by omega
    have m2 : w.heap.size + 2 ≠ N := by omega
    have hkw : Kept [] w wx := hWk.out.trans hkx
    have x2 : wx.cell? ⟨w.heap.size, 2, none⟩ = some (.int .i64 (a3 : Int)) := hB0.cell 2
    have y0 : wx.cell? ⟨w.heap.size + 1, 0, none⟩ = some (.int .i64 (b1 : Int)) := hB1.cell 0
    have y1 : wx.cell? ⟨w.heap.size + 1, 1, none⟩ = some (.int .i64 (b2 : Int)) := hB1.cell 1
    have z0 : wx.cell? ⟨w.heap.size + 2, 0, none⟩ = some (.int .i64 0) := hB2.cell 0
    have z1 : wx.cell? ⟨w.heap.size + 2, 1, none⟩ = some (.int .i64 0) := hB2.cell 1
    have z2 : wx.cell? ⟨w.heap.size + 2, 2, none⟩ = some (.int .i64 0) := hB2.cell 2
    have z3 : wx.cell? ⟨w.heap.size + 2, 3, none⟩ = some (.slice none 0 0) := hB2.cell 3
    have z4 : wx.cell? ⟨w.heap.size + 2, 4, none⟩ = some (.slice none 0 0) := hB2.cell 4
    have z5 : wx.cell? ⟨w.heap.size + 2, 5, none⟩ = some (.int .i64 0) := hB2.cell 5
    have f0 : wx.frozen? ⟨w.heap.size + 2, 0, none⟩ = false := hB2.frozen 0
    have f1 : wx.frozen? ⟨w.heap.size + 2, 1, none⟩ = false := hB2.frozen 1
    have f2 : wx.frozen? ⟨w.heap.size + 2, 2, none⟩ = false := hB2.frozen 2
    have f3 : wx.frozen? ⟨w.heap.size + 2, 3, none⟩ = false := hB2.frozen 3
    have f4 : wx.frozen? ⟨w.heap.size + 2, 4, none⟩ = false := hB2.frozen 4
    have f5 : wx.frozen? ⟨w.heap.size + 2, 5, none⟩ = false := hB2.frozen 5
    have x0 : wx.cell? ⟨N, 0, none⟩ = some (.int .i64 (L1 : Int)) := hBx.cell 0
    have x1 : wx.cell? ⟨N, 1, none⟩ = some (.int .i64 (L2 : Int)) := hBx.cell 1
    have xx2 : wx.cell? ⟨N, 2, none⟩ = some (.int .i64 (b3 : Int)) := hBx.cell 2
    have x3 : wx.cell? ⟨N, 3, none⟩ = some (.slice none 0 0) := hBx.cell 3
    have x4 : wx.cell? ⟨N, 4, none⟩ = some (.slice none 0 0) := hBx.cell 4
    have x5 : wx.cell? ⟨N, 5, none⟩ = some (.int .i64 0) := hBx.cell 5
    have xf : wx.frozen? ⟨N, 2, none⟩ = false := hBx.frozen 2
    have hw2 : w.heap.size + 2 < wx.heap.size := hB2.lt
    have hfin : Hid (∀ v u0 u1 u2 u3 u4 u5, Blk (set6W (wx.setCell ⟨N, 2, none⟩ v) (w.heap.size + 2) u0 u1 u2 u3 u4 u5) (w.heap.size + 2) #[u0, u1, u2, u3, u4, u5] 91 ∧ Kept [] w (set6W (wx.setCell ⟨N, 2, none⟩ v) (w.heap.size + 2) u0 u1 u2 u3 u4 u5)) := fun v u0 u1 u2 u3 u4 u5 =>
      ⟨set6 (hB2.kept ((Kept.refl [N] wx).setCell (Or.inl (by simp)) v) (by simp; omega)) u0 u1 u2 u3 u4 u5, kept6 (hkw.setCell (Or.inr (by show w.heap.size ≤ N; omega)) v) (by omega) u0 u1 u2 u3 u4 u5⟩
    have hfin0 : Hid (∀ u0 u1 u2 u3 u4 u5, Blk (set6W wx (w.heap.size + 2) u0 u1 u2 u3 u4 u5) (w.heap.size + 2) #[u0, u1, u2, u3, u4, u5] 91 ∧ Kept [] w (set6W wx (w.heap.size + 2) u0 u1 u2 u3 u4 u5)) := fun u0 u1 u2 u3 u4 u5 =>
      ⟨set6 hB2 u0 u1 u2 u3 u4 u5, kept6 hkw (by omega) u0 u1 u2 u3 u4 u5⟩
    unfold set6W at hfin hfin0
    clear hB0 hB1 hB2 hBx hkx hkw hN hB0H hB1H hB2H hWk c1 c2 c3 c4 c5 n1 n3 g1 g2
    by_cases h : b2 = 0
    · have e1 : ((b2 : Int) == 0) = true := by rw [h]; rfl
      have hT1 : T = L3 := hTH.out.trans (if_pos h)
      clear h hTH
      subst hT1
      go_wp2_with fail
      refine (g3.out _).mono ?_
      rintro e w2 ⟨rfl, rfl⟩
      clear g3
      go_wp2
      exact bodyPost_ret (v := .agg #[(.int .i64 L1), (.int .i64 L2), (.int .i64 T), .slice none 0 0, .slice none 0 0, .int .i64 0]) (results_piece Try.results78 _ _ (w.heap.size + 2) ⟨L1, L2, T⟩ rfl (hfin.out _ _ _ _ _ _ _).1) rfl ⟨rfl, (hfin.out _ _ _ _ _ _ _).2⟩
    · have e1 : ((b2 : Int) == 0) = false := beq_eq_false_iff_ne.2 (by omega)
      have hT1 : T = b3 := hTH.out.trans (if_neg h)
      clear h g3 hTH
      subst hT1
      go_wp2
      exact bodyPost_ret (v := .agg #[.int .i64 L1, .int .i64 L2, .int .i64 T, .slice none 0 0, .slice none 0 0, .int .i64 0]) (results_piece Try.results78 _ _ (w.heap.size + 2) ⟨L1, L2, T⟩ rfl (hfin0.out _ _ _ _ _ _).1) rfl ⟨rfl, (hfin0.out _ _ _ _ _ _).2⟩

end Go.Proofs.Ytgifhgnccmnbiaa
