/- Package search: all pieces in memory; a rule's piece: walked. -/
import Derived.Test.YtgifhgnccmnbiabGreatDoorG09
import Derived.Test.YtgifhgnccmnbiabGreatDoorG13
set_option linter.unusedVariables false
set_option linter.unusedSimpArgs false
namespace Go.Proofs.YtgifhgnccmnbiabGreatDoor
open Go.RowKit Go.IntWalk

abbrev PcF := Nat → PCE × Option Addr
def rowP (ps : PcF) (k : Nat) : Value := ((pcCells (ps (k / 8)).1 (ps (k / 8)).2)[k % 8]?).getD undef
def rowPs (ps : PcF) (n : Nat) : Array Value := cellsF (8 * n) (rowP ps)
theorem rowPs_get (ps : PcF) {n i j : Nat} (hi : i < n) (hj : j < 8) : (rowPs ps n)[i * 8 + j]? = (pcCells (ps i).1 (ps i).2)[j]? := by
  unfold rowPs
  rw [cellsF_get _ (by omega)]
  unfold rowP
  rw [show (i * 8 + j) / 8 = i by omega, show (i * 8 + j) % 8 = j by omega]
  have : j < (pcCells (ps i).1 (ps i).2).size := hj
  rw [Array.getElem?_eq_getElem this]; rfl
def updP (ps : PcF) (i : Nat) (x : PCE × Option Addr) : PcF := fun j => if j = i then x else ps j
theorem rowPs_set (ps : PcF) (n i : Nat) (p : PCE) (a : Option Addr) :
    (((((((((rowPs ps n).setIfInBounds (i * 8) (.int .i64 (p.len : Int))).setIfInBounds (i * 8 + 1) (.int .i64 (p.nl : Int))).setIfInBounds (i * 8 + 2) (.pointer a)).setIfInBounds (i * 8 + 3) (UV p.tk)).setIfInBounds (i * 8 + 4) (.int .i64 (p.inside : Int))).setIfInBounds (i * 8 + 5) (UV p.en)).setIfInBounds (i * 8 + 6) (UV p.la)).setIfInBounds (i * 8 + 7) (.int .i64 (p.tail : Int))) = rowPs (updP ps i (p, a)) n := by
  unfold rowPs
  rw [cellsF_set _ (fun k => if k = i * 8 then (.int .i64 (p.len : Int)) else rowP ps k) _ _ (fun _ _ => rfl)]
  rw [cellsF_set _ (fun k => if k = i * 8 + 1 then (.int .i64 (p.nl : Int)) else if k = i * 8 then (.int .i64 (p.len : Int)) else rowP ps k) _ _ (fun _ _ => rfl)]
  rw [cellsF_set _ (fun k => if k = i * 8 + 2 then (.pointer a) else if k = i * 8 + 1 then (.int .i64 (p.nl : Int)) else if k = i * 8 then (.int .i64 (p.len : Int)) else rowP ps k) _ _ (fun _ _ => rfl)]
  rw [cellsF_set _ (fun k => if k = i * 8 + 3 then (UV p.tk) else if k = i * 8 + 2 then (.pointer a) else if k = i * 8 + 1 then (.int .i64 (p.nl : Int)) else if k = i * 8 then (.int .i64 (p.len : Int)) else rowP ps k) _ _ (fun _ _ => rfl)]
  rw [cellsF_set _ (fun k => if k = i * 8 + 4 then (.int .i64 (p.inside : Int)) else if k = i * 8 + 3 then (UV p.tk) else if k = i * 8 + 2 then (.pointer a) else if k = i * 8 + 1 then (.int .i64 (p.nl : Int)) else if k = i * 8 then (.int .i64 (p.len : Int)) else rowP ps k) _ _ (fun _ _ => rfl)]
  rw [cellsF_set _ (fun k => if k = i * 8 + 5 then (UV p.en) else if k = i * 8 + 4 then (.int .i64 (p.inside : Int)) else if k = i * 8 + 3 then (UV p.tk) else if k = i * 8 + 2 then (.pointer a) else if k = i * 8 + 1 then (.int .i64 (p.nl : Int)) else if k = i * 8 then (.int .i64 (p.len : Int)) else rowP ps k) _ _ (fun _ _ => rfl)]
  rw [cellsF_set _ (fun k => if k = i * 8 + 6 then (UV p.la) else if k = i * 8 + 5 then (UV p.en) else if k = i * 8 + 4 then (.int .i64 (p.inside : Int)) else if k = i * 8 + 3 then (UV p.tk) else if k = i * 8 + 2 then (.pointer a) else if k = i * 8 + 1 then (.int .i64 (p.nl : Int)) else if k = i * 8 then (.int .i64 (p.len : Int)) else rowP ps k) _ _ (fun _ _ => rfl)]
  rw [cellsF_set _ (fun k => if k = i * 8 + 7 then (.int .i64 (p.tail : Int)) else if k = i * 8 + 6 then (UV p.la) else if k = i * 8 + 5 then (UV p.en) else if k = i * 8 + 4 then (.int .i64 (p.inside : Int)) else if k = i * 8 + 3 then (UV p.tk) else if k = i * 8 + 2 then (.pointer a) else if k = i * 8 + 1 then (.int .i64 (p.nl : Int)) else if k = i * 8 then (.int .i64 (p.len : Int)) else rowP ps k) _ _ (fun _ _ => rfl)]
  refine cellsF_congr fun k hk => ?_
  have hu : rowP (updP ps i (p, a)) k = if k / 8 = i then ((pcCells p a)[k % 8]?).getD undef else rowP ps k := by
    unfold rowP updP
    by_cases h : k / 8 = i
    · simp only [if_pos h]
    · simp only [if_neg h]
  rw [hu]
  by_cases h : k / 8 = i
  · rw [if_pos h]
    have h8 : k % 8 = 0 ∨ k % 8 = 1 ∨ k % 8 = 2 ∨ k % 8 = 3 ∨ k % 8 = 4 ∨ k % 8 = 5 ∨ k % 8 = 6 ∨ k % 8 = 7 := by omega
    rcases h8 with h8 | h8 | h8 | h8 | h8 | h8 | h8 | h8 <;> rw [h8]
    · rw [if_neg (by omega), if_neg (by omega), if_neg (by omega), if_neg (by omega), if_neg (by omega), if_neg (by omega), if_neg (by omega), if_pos (by omega)]; rfl
    · rw [if_neg (by omega), if_neg (by omega), if_neg (by omega), if_neg (by omega), if_neg (by omega), if_neg (by omega), if_pos (by omega)]; rfl
    · rw [if_neg (by omega), if_neg (by omega), if_neg (by omega), if_neg (by omega), if_neg (by omega), if_pos (by omega)]; rfl
    · rw [if_neg (by omega), if_neg (by omega), if_neg (by omega), if_neg (by omega), if_pos (by omega)]; rfl
    · rw [if_neg (by omega), if_neg (by omega), if_neg (by omega), if_pos (by omega)]; rfl
    · rw [if_neg (by omega), if_neg (by omega), if_pos (by omega)]; rfl
    · rw [if_neg (by omega), if_pos (by omega)]; rfl
    · rw [if_pos (by omega)]; rfl
  · rw [if_neg h, if_neg (by omega), if_neg (by omega), if_neg (by omega), if_neg (by omega), if_neg (by omega), if_neg (by omega), if_neg (by omega), if_neg (by omega)]

/-- The symbol stands somewhere, as far as its length goes. -/
def Real (T : List (List Nat)) (j : Nat) : Prop := j < 256 + T.length ∧ (symT T j).length ≤ 1099511627776
theorem pbd_of {M : MP} {inv : Bool} {x : List Nat} {p : PCE} (h : PieceOk M inv x p) (hz : p.nl = 0 → p.inside = 0 ∧ p.tail = 0) (hl : x.length ≤ 1099511627776) : PBd p := by
  have h1 := h.nl
  have h2 := nls_le x
  rw [crA_count] at h1
  have h3 := h.len
  refine ⟨by omega, by omega, ?_, ?_⟩
  · by_cases hn : p.nl = 0
    · rw [(hz hn).1]; omega
    · rw [h.inside hn]
      have := cnt_le M inv (crA [] x).1.tail
      have h4 := h.nl
      rw [List.length_tail] at this
      omega
  · by_cases hn : p.nl = 0
    · rw [(hz hn).2]; omega
    · rw [h.tail hn]
      have := crA_rest_le x []
      simp at this; omega
/-- A good piece. -/
structure PGood (M : MP) (inv : Bool) (x : List Nat) (p : PCE) : Prop where
  ok : PieceOk M inv x p
  z : p.nl = 0 → p.inside = 0 ∧ p.tail = 0
theorem bytePC_good (M : MP) (inv : Bool) (c : Nat) : PGood M inv [c] (bytePC M c) := ⟨bytePC_ok M inv c, fun h => by
  unfold bytePC at h ⊢
  split
  · rename_i hc; rw [if_pos hc] at h; cases h
  · exact ⟨rfl, rfl⟩⟩
theorem join_good {M : MP} {inv : Bool} {x y : List Nat} {a b : PCE} (ha : PGood M inv x a) (hb : PGood M inv y b) : PGood M inv (x ++ y) (joinPC inv a b) := ⟨pjoin_ok ha.ok hb.ok, fun h => by
  unfold joinPC at h ⊢
  by_cases h0 : a.nl + b.nl = 0
  · rw [if_pos h0]; exact ⟨rfl, rfl⟩
  · rw [if_neg h0] at h; exact absurd h h0⟩

/-- A text's pieces in memory; those below k are found out. -/
structure SP (w : World) (bt gp n N L : Nat) (inv : Bool) (M : MP) (t : TT) (rv sv : Value) (T : List (List Nat)) (ps : PcF) (k : Nat) : Prop where
  p : Blk w gp (rowPs ps n) 169
  tr : TR w N bt t rv sv
  n : n = 256 + t.rules.length
  low : N ≤ L ∧ L ≤ gp
  good : ∀ j, j < k → Real T j → PGood M inv (symT T j) (ps j).1 ∧ PTab w (ps j).1 (ps j).2 ∧ ∀ A, (ps j).2 = some A → (N ≤ A.block ∧ A.block < L) ∨ gp < A.block
section
variable {w w' : World} {gs bt gp n N L : Nat} {beg : B64} {inv : Bool} {mx : Int} {M : MP} {t : TT} {rv sv : Value} {T : List (List Nat)} {ps : PcF} {k : Nat}
theorem SP.kept (h : SP w bt gp n N L inv M t rv sv T ps k) (q : Kept [] w w') : SP w' bt gp n N L inv M t rv sv T ps k :=
  ⟨h.p.kept q (by simp), h.tr.kept q, h.n, h.low, fun j hj hr => by
    obtain ⟨h1, h2, h3⟩ := h.good j hj hr
    exact ⟨h1, h2.kept q, h3⟩⟩
theorem ptab_keep {S : List Nat} {p : PCE} {a : Option Addr} (h : PTab w p a) (q : Kept S w w') (hs : ∀ A, a = some A → ¬ A.block ∈ S) : PTab w' p a := fun hn => by
  obtain ⟨G, O, e, h1, h2⟩ := h hn
  exact ⟨G, O, e, tabAt_keep h1 q h2 (hs _ e), Nat.lt_of_lt_of_le h2 q.size⟩
/-- Blocks between the old ones and the pieces may change. -/
theorem SP.keep (h : SP w bt gp n N L inv M t rv sv T ps k) {S : List Nat} (q : Kept S w w') (hS : ∀ x, x ∈ S → L ≤ x ∧ x < gp) : SP w' bt gp n N L inv M t rv sv T ps k := by
  have hgp : ¬ gp ∈ S := fun hc => by have := hS _ hc; omega
  have hlow := h.low
  refine ⟨h.p.kept q hgp, h.tr.under (m := L) (q.below (by have := h.p.lt; omega) (fun x hx => (hS x hx).1)) hlow.1, h.n, h.low, fun j hj hr => ?_⟩
  obtain ⟨h1, h2, h3⟩ := h.good j hj hr
  exact ⟨h1, ptab_keep h2 q (fun A hA hc => by
    have := h3 A hA
    have := hS _ hc
    omega), h3⟩
theorem SP.pat (h : SP w bt gp n N L inv M t rv sv T ps k) {j : Nat} (hj : j < k) (hn : j < n) (hr : Real T j) : PAt w gp (j * 8) (ps j).1 (ps j).2 := by
  obtain ⟨h1, h2, h3⟩ := h.good j hj hr
  exact ⟨fun i hi => by rw [h.p.cell, rowPs_get ps hn hi], h2, pbd_of h1.ok h1.z hr.2, h.p.lt⟩
/-- Blocks ahead of the text may change, too. -/
theorem SP.low_keep (h : SP w bt gp n N L inv M t rv sv T ps k) {S : List Nat} (q : Kept S w w') (hS : ∀ x, x ∈ S → x < N) (tr : TR w' N bt t rv sv) : SP w' bt gp n N L inv M t rv sv T ps k := by
  have hlow := h.low
  refine ⟨h.p.kept q (fun hc => by have := hS _ hc; omega), tr, h.n, h.low, fun j hj hr => ?_⟩
  obtain ⟨h1, h2, h3⟩ := h.good j hj hr
  exact ⟨h1, ptab_keep h2 q (fun A hA hc => by
    have := h3 A hA
    have := hS _ hc
    omega), h3⟩
/-- A piece laid into the row. -/
abbrev put8 (w : World) (g o : Nat) (p : PCE) (a : Option Addr) : World :=
  (((((((w.setCell ⟨g, o, none⟩ (.int .i64 (p.len : Int))).setCell ⟨g, o + 1, none⟩ (.int .i64 (p.nl : Int))).setCell ⟨g, o + 2, none⟩ (.pointer a)).setCell ⟨g, o + 3, none⟩ (UV p.tk)).setCell ⟨g, o + 4, none⟩ (.int .i64 (p.inside : Int))).setCell ⟨g, o + 5, none⟩ (UV p.en)).setCell ⟨g, o + 6, none⟩ (UV p.la)).setCell ⟨g, o + 7, none⟩ (.int .i64 (p.tail : Int))
theorem kept_put8 (w : World) (g o : Nat) (p : PCE) (a : Option Addr) : Kept [g] w (put8 w g o p a) :=
  ((((((((Kept.refl [g] w).setCell (Or.inl (by simp)) _).setCell (Or.inl (by simp)) _).setCell (Or.inl (by simp)) _).setCell (Or.inl (by simp)) _).setCell (Or.inl (by simp)) _).setCell (Or.inl (by simp)) _).setCell (Or.inl (by simp)) _).setCell (Or.inl (by simp)) _
theorem SP.put (h : SP w bt gp n N L inv M t rv sv T ps k) (p : PCE) (a : Option Addr) (hp : Real T k → PGood M inv (symT T k) p ∧ PTab w p a) (ha : ∀ A, a = some A → (N ≤ A.block ∧ A.block < L) ∨ gp < A.block) :
    SP (put8 w gp (k * 8) p a) bt gp n N L inv M t rv sv T (updP ps k (p, a)) (k + 1) := by
  have q := kept_put8 w gp (k * 8) p a
  have hlow := h.low
  have hb : Blk (put8 w gp (k * 8) p a) gp (rowPs (updP ps k (p, a)) n) 169 := by
    rw [← rowPs_set]
    exact (((((((h.p.set _ _).set _ _).set _ _).set _ _).set _ _).set _ _).set _ _).set _ _
  refine ⟨hb, h.tr.under (m := gp) (q.below (Nat.le_of_lt h.p.lt) (by simp)) (by omega), h.n, h.low, fun j hj hr => ?_⟩
  unfold updP
  by_cases hjk : j = k
  · subst hjk
    simp only [if_pos]
    obtain ⟨h1, h2⟩ := hp hr
    exact ⟨h1, ptab_keep h2 q (fun A hA hc => by have := ha A hA; simp at hc; omega), ha⟩
  · simp only [if_neg hjk]
    obtain ⟨h1, h2, h3⟩ := h.good j (by omega) hr
    exact ⟨h1, ptab_keep h2 q (fun A hA hc => by have := h3 A hA; simp at hc; omega), h3⟩
end

/-- A search in memory. -/
structure SI (w : World) (gs bt gp n N L : Nat) (beg : B64) (inv : Bool) (mx : Int) (M : MP) (t : TT) (rv sv : Value) (T : List (List Nat)) (ps : PcF) (k : Nat) : Prop where
  s : Blk w gs (seCells bt beg inv mx (.slice (some ⟨gp, 0, none⟩) n n)) 60
  sp : SP w bt gp n N L inv M t rv sv T ps k
section
variable {w w' : World} {gs bt gp n N L : Nat} {beg : B64} {inv : Bool} {mx : Int} {M : MP} {t : TT} {rv sv : Value} {T : List (List Nat)} {ps : PcF} {k : Nat}
theorem SI.kept (h : SI w gs bt gp n N L beg inv mx M t rv sv T ps k) (q : Kept [] w w') : SI w' gs bt gp n N L beg inv mx M t rv sv T ps k := ⟨h.s.kept q (by simp), h.sp.kept q⟩
theorem SI.cinv (h : SI w gs bt gp n N L beg inv mx M t rv sv T ps k) : w.cell? ⟨gs, 2, none⟩ = some (.bool inv) := h.s.cell 2

set_option maxHeartbeats 1000000 in
set_option maxRecDepth 100000 in
theorem piece_at (h : SI w gs bt gp n N L beg inv mx M t rv sv T ps k) {j : Nat} (hn : j < n) :
    Calls Tryz.prog 77 #[.pointer (some ⟨gs, 0, none⟩), .int .i64 (j : Int)] w fun e w' => e = .returned (.pointer (some ⟨gp, j * 8, none⟩)) ∧ w' = w := by
  have c4 : w.cell? ⟨gs, 4, none⟩ = some (.slice (some ⟨gp, 0, none⟩) n n) := h.s.cell 4
  have hj : (j : Int) < (n : Int) := by omega
  have hj0 : (0 : Int) ≤ (j : Int) := by omega
  clear h
  go_enter Tryz.func77, Tryz.ntmps77
  go_wp2
  go_ret
  exact ⟨rfl, rfl⟩

/-- What a rule's piece is. -/
structure ROut (w w' : World) (M : MP) (inv : Bool) (T : List (List Nat)) (i : Nat) (e : Ending) : Prop where
  k : Kept [] w w'
  ex : ∃ p a, e = .returned (.agg (pcCells p a)) ∧ (Real T i → PGood M inv (symT T i) p ∧ PTab w' p a) ∧ ∀ A, a = some A → w.heap.size ≤ A.block

set_option maxHeartbeats 4000000 in
set_option maxRecDepth 100000 in
theorem ruleP_any (h : SI w gs bt gp n N L beg inv mx M t rv sv T ps k) (hS : Sound t.rules T) (hR : t.rules.length ≤ 9000) (hk : 256 ≤ k) (hn : k < n) :
    Calls Tryz.prog 99 #[.pointer (some ⟨gs, 0, none⟩), .int .i64 (k : Int)] w fun e w' => ROut w w' M inv T k e := by
  have hnn := h.sp.n
  have hSl := hS.len
  obtain ⟨x, hx⟩ : ∃ x, t.rules[k - 256]? = some x := ⟨_, List.getElem?_eq_getElem (by omega)⟩
  obtain ⟨x1, x2, x3, x4⟩ := hS.rule _ _ hx
  have hsym : symT T k = T.getD (k - 256) [] := by unfold symT; rw [if_neg (by omega)]
  have hat : ruleAt t.rules (k : Int) = x := by
    unfold ruleAt
    rw [if_pos (by omega), show ((k : Int) - 256).toNat = k - 256 by omega, hx]; rfl
  have hlen : x.pt.len = capL (symT T k).length := by rw [x4, ptOf_len, hsym]
  have hru : Hid (∀ w', Kept [] w w' → Calls Tryz.prog 144 #[.pointer (some ⟨bt, 0, none⟩), .int .i64 (k : Int)] w' fun e w2 => e = .returned (.agg #[.int .i64 (x.l : Int), .int .i64 (x.r : Int), .int .i64 (x.pt.len : Int), .int .i64 (x.pt.nl : Int), .int .i64 (x.pt.first : Int), .int .i64 (x.pt.last : Int)]) ∧ Kept [] w' w2) := fun w' q => by
    have := ruleT_any (h.sp.tr.kept q) k (by omega) (by omega)
    rw [hat] at this
    exact this
  have c0 : w.cell? ⟨gs, 0, none⟩ = some (.pointer (some ⟨bt, 0, none⟩)) := h.s.cell 0
  have hgs := h.s.lt
  have hB : Hid (Blk (w.alloc (.cells z8 169)) w.heap.size z8 169) := Blk.new w _ _
  have hK : Hid (Kept [] w (w.alloc (.cells z8 169))) := (Kept.refl [] w).alloc _
  have hpc : Hid (∀ w' (j : Nat), Kept [] w w' → j < k → Calls _ _ _ w' _) := fun w' j q hj => piece_at (h.kept q) (j := j) (by omega)
  have hxl : x.l < k := by omega
  have hxr : x.r < k := by omega
  have hjn : Hid ((symT T k).length ≤ 1099511627776 → ∀ w', Kept [] w w' → Calls Tryz.prog 145 #[.pointer (some ⟨gs, 0, none⟩), .pointer (some ⟨gp, x.l * 8, none⟩), .pointer (some ⟨gp, x.r * 8, none⟩)] w' fun e w2 => Kept [] w' w2 ∧ ∃ p a, e = .returned (.agg (pcCells p a)) ∧ (PGood M inv (symT T k) p ∧ PTab w2 p a) ∧ ∀ A, a = some A → w'.heap.size ≤ A.block) := fun hl w' q => by
    have h' := h.kept q
    have e : symT T k = symT T x.l ++ symT T x.r := by rw [hsym, x3]
    have el : (symT T k).length = (symT T x.l).length + (symT T x.r).length := by rw [e, List.length_append]
    have rl : Real T x.l := ⟨by omega, by omega⟩
    have rr : Real T x.r := ⟨by omega, by omega⟩
    have pl := h'.sp.pat hxl (by omega) rl
    have pr := h'.sp.pat hxr (by omega) rr
    obtain ⟨gl, _, _⟩ := h'.sp.good x.l hxl rl
    obtain ⟨gr, _, _⟩ := h'.sp.good x.r hxr rr
    refine (sjoin_any pl pr h'.cinv h'.s.lt (by rw [gl.ok.len, gr.ok.len]; omega)).mono ?_
    rintro e' w2 ⟨k2, a, rfl, ht, hA⟩
    refine ⟨k2, _, a, rfl, ⟨?_, ht⟩, fun A hx => ?_⟩
    · rw [e]; exact join_good gl gr
    · rcases hA A hx with hx | hx
      · simp at hx
      · exact hx
  have hbig : Hid (¬ (symT T k).length ≤ 1099511627776 → ∀ w', Kept [] w w' → ROut w w' M inv T k (.returned (.agg (pcCells {} none)))) := fun hl w' q => ⟨q, {}, none, rfl, fun hr => absurd hr.2 hl, fun A hA => by cases hA⟩
  have hsmall : Hid (∀ w' p a, Kept [] w w' → (PGood M inv (symT T k) p ∧ PTab w' p a) → (∀ A, a = some A → w.heap.size ≤ A.block) → ROut w w' M inv T k (.returned (.agg (pcCells p a)))) := fun w' p a q h1 h2 => ⟨q, p, a, rfl, fun _ => h1, h2⟩
  have hcap : x.pt.len ≤ 1099511627777 := by rw [hlen]; exact capL_le _
  clear h hS hx x1 x2 x3 x4 hsym hat
  have hxlH : Hid (x.l < k) := hxl
  have hxrH : Hid (x.r < k) := hxr
  by_cases hl : (symT T k).length ≤ 1099511627776
  · have hle : ¬ (1099511627776 : Int) < (x.pt.len : Int) := by rw [hlen, capL_of (by omega)]; omega
    have hj : Hid (∀ w', _) := hjn.out hl
    clear hbig hjn hlen hl
    obtain ⟨xl, xr, ⟨p1, p2, p3, p4⟩⟩ := x
    simp only [] at *
    unfold z8 at hB hK
    go_enter Tryz.func99, Tryz.ntmps99
    go_wp2_with (first
      | (go_at_call 144; refine (hru.out _ hK.out).mono ?_; rintro _ w2 ⟨rfl, k2⟩; have B2 : Hid (Blk _ _ _ _) := hB.out.kept k2 (by simp); have K2 : Hid (Kept [] w w2) := hK.out.trans k2; have hl2 := B2.out.lt)
      | (go_at_call_of 77 (Value.int IntKind.i64 (xl : Int)); refine (hpc.out _ xl (K2.out.alloc _) hxlH.out).mono ?_; rintro _ _ ⟨rfl, rfl⟩)
      | (go_at_call_of 77 (Value.int IntKind.i64 (xr : Int)); refine (hpc.out _ xr (K2.out.alloc _) hxrH.out).mono ?_; rintro _ _ ⟨rfl, rfl⟩)
      | (go_at_call 145; refine (hj.out _ (K2.out.alloc _)).mono ?_; rintro _ w5 ⟨k5, p, a, rfl, hP, hA⟩; have K5 : Hid (Kept [] w w5) := (K2.out.alloc _).trans k5; have B5 : Hid (Blk w5 w.heap.size _ _) := (B2.out.alloc _).kept k5 (by simp); have hPH : Hid (_ ∧ _) := hP; have hAH : Hid (∀ A, _) := hA; clear hP hA k5; unfold pcCells; obtain ⟨g0, g1, g2, g3, g4, g5, g6, g7, gl⟩ := all8 B5.out; obtain ⟨f0, f1, f2, f3, f4, f5, f6, f7⟩ := froz8 B5.out))
    have B6 := res8 B5.out (.int .i64 (p.len : Int)) (.int .i64 (p.nl : Int)) (.pointer a) (UV p.tk) (.int .i64 (p.inside : Int)) (UV p.en) (UV p.la) (.int .i64 (p.tail : Int))
    obtain ⟨x0, x1, x2, x3, x4, x5, x6, x7, _⟩ := all8 B6
    have kS := kept_put8 w5 w.heap.size 0 p a
    refine bodyPost_ret (v := .agg (pcCells p a)) (by simp [results, Tryz.results99, go_sem, pcCells, x0, x1, x2, x3, x4, x5, x6, x7]) rfl (hsmall.out _ p a (keptP8 K5.out (Nat.le_refl _) _ _ _ _ _ _ _ _) ⟨hPH.out.1, ptab_keep hPH.out.2 kS (fun A hA hc => ?_)⟩ (fun A hA => ?_))
    · have := hAH.out A hA
      simp at hc this; omega
    · have := hAH.out A hA
      simp at this; omega
  · have hle : (1099511627776 : Int) < (x.pt.len : Int) := by
      rw [hlen]
      rcases capL_cases (symT T k).length with ⟨_, h⟩ | ⟨_, h⟩ <;> rw [h] <;> omega
    have hb : Hid (∀ w', _) := hbig.out hl
    clear hbig hjn hsmall hlen hl
    obtain ⟨xl, xr, ⟨p1, p2, p3, p4⟩⟩ := x
    simp only [] at *
    unfold z8 at hB hK
    go_enter Tryz.func99, Tryz.ntmps99
    go_wp2_with (go_at_call 144; refine (hru.out _ hK.out).mono ?_; rintro _ w2 ⟨rfl, k2⟩; have B2 : Hid (Blk _ _ _ _) := hB.out.kept k2 (by simp); have K2 : Hid (Kept [] w w2) := hK.out.trans k2; have hl2 := B2.out.lt; obtain ⟨g0, g1, g2, g3, g4, g5, g6, g7, gl⟩ := all8 B2.out; obtain ⟨f0, f1, f2, f3, f4, f5, f6, f7⟩ := froz8 B2.out)
    have B6 := (res8 B2.out (.int .i64 0) (.int .i64 0) (.pointer none) (.int .u64 0) (.int .i64 0) (.int .u64 0) (.int .u64 0) (.int .i64 0)).alloc (.cells #[.int .i64 (xl : Int), .int .i64 (xr : Int), .int .i64 (p1 : Int), .int .i64 (p2 : Int), .int .i64 (p3 : Int), .int .i64 (p4 : Int)] 221)
    obtain ⟨x0, x1, x2, x3, x4, x5, x6, x7, _⟩ := all8 B6
    refine bodyPost_ret (v := .agg (pcCells {} none)) (by simp [results, Tryz.results99, go_sem, pcCells, x0, x1, x2, x3, x4, x5, x6, x7]) rfl (hb.out _ ((keptP8 K2.out (Nat.le_refl _) _ _ _ _ _ _ _ _).alloc _))

end

end Go.Proofs.YtgifhgnccmnbiabGreatDoor

set_option linter.unusedVariables false
set_option linter.unusedSimpArgs false
namespace Go.Proofs.YtgifhgnccmnbiabGreatDoor
open Go.RowKit Go.IntWalk

theorem infoSPiece : (Tryz.prog.info? 169).map (fun i => (i.zero, i.size, i.bytes)) = some (some (.agg z8), 8, 64) := by kernel_rfl
theorem made_z8 (n : Nat) : madeCells z8 (n * 8) = rowPs (fun _ => ({}, none)) n := by
  unfold madeCells rowPs cellsF
  apply Array.ext
  · simp; omega
  · intro j h1 h2
    have hj : j % 8 = 0 ∨ j % 8 = 1 ∨ j % 8 = 2 ∨ j % 8 = 3 ∨ j % 8 = 4 ∨ j % 8 = 5 ∨ j % 8 = 6 ∨ j % 8 = 7 := by omega
    simp only [List.getElem_toArray, List.getElem_map, List.getElem_range, Array.getElem_map, Array.getElem_range]
    unfold rowP
    have e : z8.size = 8 := rfl
    rw [e]
    rcases hj with hj | hj | hj | hj | hj | hj | hj | hj <;> rw [hj] <;> rfl
theorem made_blk8 {w : World} {base g n : Nat} {e : TypeId} (h : w.ownsRow base e 8 (.slice (some ⟨g, 0, none⟩) n n) n (madeCells z8 (n * 8)).toList) : Blk w g (rowPs (fun _ => ({}, none)) n) e := by
  rcases h.2 with ⟨h1, _⟩ | ⟨g', cap, cur, h1, h2, h3, h4, h5, h6, h7⟩
  · simp at h1
  · simp only [Value.slice.injEq, Option.some.injEq, Addr.mk.injEq, and_true, true_and] at h1
    obtain ⟨rfl, rfl⟩ := h1
    have hc : cur = rowPs (fun _ => ({}, none)) n := by
      rw [← made_z8]
      apply Array.ext'
      rw [← h7, List.take_of_length_le]
      rw [Array.length_toList, h6]; exact Nat.le_refl _
    rw [← hc]
    exact h3

/-- While the pieces are found out. -/
structure NI (w wr : World) (bt n N : Nat) (inv : Bool) (mx : Int) (M : MP) (t : TT) (rv sv : Value) (T : List (List Nat)) (ps : PcF) (i : Nat) : Prop where
  k : Kept [] w wr
  r : Blk wr (w.heap.size + 1) #[.pointer none, .int .u64 0, .bool false, .int .i64 0, .slice none 0 0] 60
  si : SI wr (w.heap.size + 1 + 1) bt (w.heap.size + 1 + 1 + 1) n N w.heap.size M.beg inv mx M t rv sv T ps i
structure NewOut (w w' : World) (bt n N : Nat) (inv : Bool) (mx : Int) (M : MP) (t : TT) (rv sv : Value) (T : List (List Nat)) (e : Ending) : Prop where
  k : Kept [] w w'
  ex : ∃ gp ps, e = .returned (.agg (seCells bt M.beg inv mx (.slice (some ⟨gp, 0, none⟩) n n))) ∧ w.heap.size ≤ gp ∧ SP w' bt gp n N w.heap.size inv M t rv sv T ps n
theorem NI.kept {w wr wq : World} {bt n N : Nat} {inv : Bool} {mx : Int} {M : MP} {t : TT} {rv sv : Value} {T : List (List Nat)} {ps : PcF} {i : Nat} (h : NI w wr bt n N inv mx M t rv sv T ps i) (q : Kept [] wr wq) : NI w wq bt n N inv mx M t rv sv T ps i :=
  ⟨h.k.trans q, h.r.kept q (by simp), h.si.kept q⟩
theorem NI.put {w wr : World} {bt n N : Nat} {inv : Bool} {mx : Int} {M : MP} {t : TT} {rv sv : Value} {T : List (List Nat)} {ps : PcF} {i : Nat} (h : NI w wr bt n N inv mx M t rv sv T ps i) (p : PCE) (a : Option Addr) (hp : Real T i → PGood M inv (symT T i) p ∧ PTab wr p a) (ha : ∀ A, a = some A → (N ≤ A.block ∧ A.block < w.heap.size) ∨ w.heap.size + 1 + 1 + 1 < A.block) :
    NI w (put8 wr (w.heap.size + 1 + 1 + 1) (i * 8) p a) bt n N inv mx M t rv sv T (updP ps i (p, a)) (i + 1) := by
  have q := kept_put8 wr (w.heap.size + 1 + 1 + 1) (i * 8) p a
  exact ⟨h.k.into q (by omega), h.r.kept q (by simp), ⟨h.si.s.kept q (by simp), h.si.sp.put p a hp ha⟩⟩

set_option maxHeartbeats 4000000 in
set_option maxRecDepth 100000 in
theorem new_any {w : World} {bt gm N : Nat} {M : MP} {t : TT} {rv sv : Value} {T : List (List Nat)} (tr : TR w N bt t rv sv) (hN : N ≤ w.heap.size) (hS : Sound t.rules T) (hR : t.rules.length ≤ 9000) (hM : MIn w gm M) (hgN : N ≤ gm) (inv fold whole num : Bool) (mx : Int) :
    Calls Tryz.prog 57 #[.pointer (some ⟨bt, 0, none⟩), .pointer (some ⟨gm, 0, none⟩), .agg #[.bool inv, .bool fold, .bool whole, .bool num, .int .i64 mx]] w fun e w' => NewOut w w' bt (256 + t.rules.length) N inv mx M t rv sv T e := by
  obtain ⟨i0, hi0, hz0, hz1, hz2⟩ := info_parts infoSPiece
  have m0 := hM.beg
  have lm := Blk.lt hM
  have lb := tr.blk.lt
  obtain ⟨ra, rk, rc, rfl⟩ := own_shape tr.rules
  have hrk : rk = t.rules.length := by
    rcases tr.rules.2 with ⟨h1, h2⟩ | ⟨g, cap, _, h1, _⟩
    · simp at h1; omega
    · simp at h1; omega
  subst hrk
  have c2 : w.cell? ⟨bt, 2, none⟩ = some (.slice ra t.rules.length rc) := tr.cell 2
  have hby : Hid (∀ w' (c : Nat), Kept [] w w' → c < 256 → Calls _ _ _ w' _) := fun w' c k hc => byte_any (Blk.kept hM k (by simp)) c hc
  have hru : Hid (∀ wr ps i, NI w wr bt (256 + t.rules.length) N inv mx M t (.slice ra t.rules.length rc) sv T ps i → 256 ≤ i → i < 256 + t.rules.length → Calls _ _ _ wr _) := fun wr ps i h h1 h2 => ruleP_any h.si hS hR h1 h2
  have hst : Hid (∀ w1, w1.ownsRow (w.heap.size + 1 + 1 + 1) 169 8 (.slice (some ⟨w.heap.size + 1 + 1 + 1, 0, none⟩) (256 + t.rules.length) (256 + t.rules.length)) (256 + t.rules.length) (madeCells z8 ((256 + t.rules.length) * 8)).toList → ∀ W1, Kept [] w W1 → Kept [] W1 w1 → Blk W1 (w.heap.size + 1) #[.pointer none, .int .u64 0, .bool false, .int .i64 0, .slice none 0 0] 60 → Blk W1 (w.heap.size + 1 + 1) #[.pointer (some ⟨bt, 0, none⟩), UV M.beg, .bool inv, .int .i64 mx, .slice none 0 0] 60 →
      NI w (w1.setCell ⟨w.heap.size + 1 + 1, 4, none⟩ (.slice (some ⟨w.heap.size + 1 + 1 + 1, 0, none⟩) (256 + t.rules.length) (256 + t.rules.length))) bt (256 + t.rules.length) N inv mx M t (.slice ra t.rules.length rc) sv T (fun _ => ({}, none)) 0) := fun w1 hown W1 k1 k2 b1 b2 => by
    have hp := made_blk8 hown
    have k12 := k1.trans k2
    have b2' := (b2.kept k2 (by simp)).set 4 (.slice (some ⟨w.heap.size + 1 + 1 + 1, 0, none⟩) (256 + t.rules.length) (256 + t.rules.length))
    have q : Kept [w.heap.size + 1 + 1] w1 (w1.setCell ⟨w.heap.size + 1 + 1, 4, none⟩ (.slice (some ⟨w.heap.size + 1 + 1 + 1, 0, none⟩) (256 + t.rules.length) (256 + t.rules.length))) := (Kept.refl _ _).setCell (Or.inl (by simp)) _
    refine ⟨k12.into q (by omega), (b1.kept k2 (by simp)).kept q (by simp), b2', hp.kept q (by simp), ?_, rfl, ⟨hN, by omega⟩, fun j hj => by omega⟩
    exact (tr.kept k12).under (m := w.heap.size) (q.below k12.size (by simp; omega)) hN
  have mb : 256 + t.rules.length ≤ maxLen := by unfold maxLen; omega
  have mb2 : Hid ((256 : Int) + (t.rules.length : Int) = ((256 + t.rules.length : Nat) : Int)) := by show _ = _; omega
  obtain ⟨RN, hRN⟩ : ∃ RN, 256 + t.rules.length = RN := ⟨_, rfl⟩
  rw [hRN] at hru hst mb mb2 ⊢
  have hRNb : RN ≤ 9256 := by omega
  have hRNH : Hid (256 + t.rules.length = RN) := hRN
  clear hRN
  have hg3 : bt ≠ w.heap.size := by omega
  have hg4 : bt ≠ w.heap.size + 1 := by omega
  have hg5 : bt ≠ w.heap.size + 1 + 1 := by omega
  have hg6 : gm ≠ w.heap.size := by omega
  have hg7 : gm ≠ w.heap.size + 1 := by omega
  have hg8 : gm ≠ w.heap.size + 1 + 1 := by omega
  have hg9 : gm ≠ w.heap.size + 2 := by omega
  have hg10 : bt ≠ w.heap.size + 2 := by omega
  have hl1 : gm < w.heap.size + 1 := by omega
  have hl2 : gm < w.heap.size + 1 + 1 := by omega
  have hl3 : bt < w.heap.size + 1 := by omega
  have hl4 : bt < w.heap.size + 1 + 1 := by omega
  have hMH : Hid (MIn w gm M) := hM
  clear hM tr hS
  generalize hBG : M.beg = BG at *
  have hBGH : Hid (M.beg = BG) := hBG
  clear hBG
  go_enter Tryz.func57, Tryz.ntmps57
  go_wp2_with fail
  go_region
  all_goals
    obtain ⟨W1, hW1⟩ : ∃ W1, W1 = (((w.alloc (.cells #[.bool inv, .bool fold, .bool whole, .bool num, .int .i64 mx] 23)).alloc (.cells #[.pointer none, .int .u64 0, .bool false, .int .i64 0, .slice none 0 0] 60)).alloc (.cells #[.pointer (some ⟨bt, 0, none⟩), UV BG, .bool inv, .int .i64 mx, .slice none 0 0] 60)).drew := ⟨_, rfl⟩
    have K1 : Hid (Kept [] w W1) := by show Kept _ _ _; rw [hW1]; exact (((((Kept.refl [] w).alloc _).alloc _).alloc _).drew)
    have B1 : Hid (Blk W1 (w.heap.size + 1) #[.pointer none, .int .u64 0, .bool false, .int .i64 0, .slice none 0 0] 60) := by show Blk _ _ _ _; rw [hW1]; exact ((Blk.new1 w _ _ _).alloc _).drew
    have B2 : Hid (Blk W1 (w.heap.size + 1 + 1) #[.pointer (some ⟨bt, 0, none⟩), UV BG, .bool inv, .int .i64 mx, .slice none 0 0] 60) := by show Blk _ _ _ _; rw [hW1]; exact (Blk.new2 w _ _ _ _).drew
    have hsz : W1.heap.size = w.heap.size + 1 + 1 + 1 := by rw [hW1]; simp
    rw [← hW1]
    clear hW1
    have c2' := (K1.out.cell lb 2).trans c2
    have hszH : Hid (W1.heap.size = w.heap.size + 1 + 1 + 1) := hsz
    have hgsl : w.heap.size + 1 + 1 < W1.heap.size := B2.out.lt
    clear c2 m0 hsz
    go_wp2_with (rw [mb2.out]; refine wpList_make_full W1 rfl (.tmp 24) (.tmp 24) 58 rfl (w.heap.size + 1 + 1 + 1) 169 i0 _ 8 Tryz.underlying58 hi0 hz0 hz1 .i64 .i64 (RN : Int) (RN : Int) RN rfl rfl rfl rfl (by rw [hz2]; omega) mb (by rw [hszH.out]; exact Nat.le_refl _) ?_; intro w1 hown hg; rw [hszH.out] at hown ⊢; have kq : Hid (Kept [] W1 w1) := ⟨hg.os, hg.tape, hg.output, hg.size, fun k hk _ => hg.block k hk (by simp)⟩; have b2 := B2.out.kept kq.out (by simp); have q4 : w1.cell? ⟨w.heap.size + 1 + 1, 4, none⟩ = some (.slice none 0 0) := b2.cell 4; have z4 := b2.frozen 4; have lz := b2.lt; clear b2; have hownH : Hid (World.ownsRow _ _ _ _ _ _ _) := hown; clear hown hg)
    have h0 : Hid (NI w _ _ _ _ _ _ _ _ _ _ _ _ 0) := hst.out w1 hownH.out W1 K1.out kq.out B1.out B2.out
    clear hownH kq K1 B1 B2 hst c2' q4 z4 lz hgsl hszH mb mb2
    go_loopw [8] (fun iv wr => ∃ (i : Nat) (ps : PcF), iv = .int .i64 (i : Int) ∧ i ≤ RN ∧ NI w wr bt RN N inv mx M t (.slice ra t.rules.length rc) sv T ps i) (fun iv _ => ((RN : Int) - intOf iv).toNat)
    case atStart => exact ⟨0, _, rfl, Nat.zero_le _, h0.out⟩
    case round =>
      clear h0
      obtain ⟨i, ps, rfl, hi, hI⟩ := hrel
      have q4 : wr.cell? ⟨w.heap.size + 1 + 1, 4, none⟩ = some (.slice (some ⟨w.heap.size + 1 + 1 + 1, 0, none⟩) RN RN) := hI.si.s.cell 4
      have hIH : Hid (NI _ _ _ _ _ _ _ _ _ _ _ _ _ _) := hI
      have lr := hI.k.size
      have lgp := hI.si.sp.p.lt
      clear hI
      by_cases hlt : (i : Int) < (RN : Int)
      · have hin : i < RN := by omega
        have hmul : i * 8 + 7 < 8 * RN := by omega
        have hrow : Hid (∀ w5, Kept [] wr w5 → ∀ j, j < 8 → ∃ u, w5.cell? ⟨w.heap.size + 1 + 1 + 1, i * 8 + j, none⟩ = some u) := fun w5 k j hj => by
          have hb := hIH.out.si.sp.p.kept k (by simp)
          have h8 : j < (pcCells (ps i).1 (ps i).2).size := hj
          exact ⟨_, by rw [hb.cell, rowPs_get ps hin hj, Array.getElem?_eq_getElem h8]⟩
        have hfrz : Hid (∀ w5, Kept [] wr w5 → ∀ j, w5.frozen? ⟨w.heap.size + 1 + 1 + 1, j, none⟩ = false) := fun w5 k j => (hIH.out.si.sp.p.kept k (by simp)).frozen j
        have hsl : Hid (∀ w5, Kept [] wr w5 → w5.cell? ⟨w.heap.size + 1 + 1, 4, none⟩ = some (.slice (some ⟨w.heap.size + 1 + 1 + 1, 0, none⟩) RN RN)) := fun w5 k => (hIH.out.si.s.kept k (by simp)).cell 4
        by_cases hb : (i : Int) < 256
        · have hib : i < 256 := by omega
          have hput : Hid (∀ w5 p a, Kept [] wr w5 → p = bytePC M i → PTab w5 p a → (∀ A, a = some A → A.block ∈ [gm] ∨ wr.heap.size ≤ A.block) → NI w (put8 w5 (w.heap.size + 1 + 1 + 1) (i * 8) p a) bt RN N inv mx M t (.slice ra t.rules.length rc) sv T (updP ps i (p, a)) (i + 1)) := fun w5 p a k e hT hA => by
            refine (hIH.out.kept k).put p a (fun _ => ⟨?_, hT⟩) (fun A hx => ?_)
            · have : symT T i = [i] := if_pos hib
              rw [this, e]; exact bytePC_good M inv i
            · rcases hA A hx with h | h
              · simp at h; omega
              · omega
          have hcall : Hid (∀ w', Kept [] wr w' → Calls _ _ _ w' _) := fun w' k => hby.out w' i (hIH.out.k.trans k) hib
          clear hby hru
          go_wp2_with fail
          go_region_law (go_simp; go_at_call 98; refine (hcall.out _ (by first | exact (Kept.refl [] _).drew | exact Kept.refl _ _)).mono ?_; rintro _ w5 ⟨k5, a, rfl, hT, hA⟩; obtain ⟨p, hp⟩ : ∃ p, Hid (p = bytePC M i) := ⟨_, rfl⟩; rw [← hp.out] at hT ⊢; have K5 : Hid (Kept [] wr w5) := Kept.trans (by first | exact (Kept.refl [] _).drew | exact Kept.refl _ _) k5; have hTH : Hid (PTab _ _ _) := hT; have hAH : Hid (∀ A, a = some A → A.block ∈ [gm] ∨ wr.heap.size ≤ A.block) := hA; clear hT hA k5; unfold pcCells; have q5 := hsl.out _ K5.out; obtain ⟨u0, g0'⟩ := hrow.out _ K5.out 0 (by omega); have g0 : w5.cell? ⟨w.heap.size + 1 + 1 + 1, i * 8, none⟩ = some u0 := g0'; clear g0'; obtain ⟨u1, g1⟩ := hrow.out _ K5.out 1 (by omega); obtain ⟨u2, g2⟩ := hrow.out _ K5.out 2 (by omega); obtain ⟨u3, g3⟩ := hrow.out _ K5.out 3 (by omega); obtain ⟨u4, g4⟩ := hrow.out _ K5.out 4 (by omega); obtain ⟨u5, g5⟩ := hrow.out _ K5.out 5 (by omega); obtain ⟨u6, g6⟩ := hrow.out _ K5.out 6 (by omega); obtain ⟨u7, g7⟩ := hrow.out _ K5.out 7 (by omega); have f0 := hfrz.out _ K5.out (i * 8); have f1 := hfrz.out _ K5.out (i * 8 + 1); have f2 := hfrz.out _ K5.out (i * 8 + 2); have f3 := hfrz.out _ K5.out (i * 8 + 3); have f4 := hfrz.out _ K5.out (i * 8 + 4); have f5 := hfrz.out _ K5.out (i * 8 + 5); have f6 := hfrz.out _ K5.out (i * 8 + 6); have f7 := hfrz.out _ K5.out (i * 8 + 7))
          all_goals
            go_wp2
            refine ⟨⟨i + 1, _, by go_num, by omega, hput.out _ p a K5.out hp.out hTH.out hAH.out⟩, ?_⟩
            simp only [intOf]; omega
        · have hput : Hid (∀ w5 p a, Kept [] wr w5 → (Real T i → PGood M inv (symT T i) p ∧ PTab w5 p a) → (∀ A, a = some A → wr.heap.size ≤ A.block) → NI w (put8 w5 (w.heap.size + 1 + 1 + 1) (i * 8) p a) bt RN N inv mx M t (.slice ra t.rules.length rc) sv T (updP ps i (p, a)) (i + 1)) := fun w5 p a k hT hA => by
            refine (hIH.out.kept k).put p a hT (fun A hx => ?_)
            have := hA A hx
            omega
          have hcall : Hid (∀ w', Kept [] wr w' → Calls _ _ _ w' _) := fun w' k => hru.out w' ps i (hIH.out.kept k) (by omega) hin
          clear hby hru
          go_wp2_with fail
          go_region_law (go_simp; go_at_call 99; refine (hcall.out _ (by first | exact (Kept.refl [] _).drew | exact Kept.refl _ _)).mono ?_; rintro _ w5 ⟨k5, p, a, rfl, hT, hA⟩; have K5 : Hid (Kept [] wr w5) := Kept.trans (by first | exact (Kept.refl [] _).drew | exact Kept.refl _ _) k5; have hTH : Hid (Real T i → PGood M inv (symT T i) p ∧ PTab w5 p a) := hT; have hAH : Hid (∀ A, a = some A → _ ≤ A.block) := hA; clear hT hA k5; unfold pcCells; have q5 := hsl.out _ K5.out; obtain ⟨u0, g0'⟩ := hrow.out _ K5.out 0 (by omega); have g0 : w5.cell? ⟨w.heap.size + 1 + 1 + 1, i * 8, none⟩ = some u0 := g0'; clear g0'; obtain ⟨u1, g1⟩ := hrow.out _ K5.out 1 (by omega); obtain ⟨u2, g2⟩ := hrow.out _ K5.out 2 (by omega); obtain ⟨u3, g3⟩ := hrow.out _ K5.out 3 (by omega); obtain ⟨u4, g4⟩ := hrow.out _ K5.out 4 (by omega); obtain ⟨u5, g5⟩ := hrow.out _ K5.out 5 (by omega); obtain ⟨u6, g6⟩ := hrow.out _ K5.out 6 (by omega); obtain ⟨u7, g7⟩ := hrow.out _ K5.out 7 (by omega); have f0 := hfrz.out _ K5.out (i * 8); have f1 := hfrz.out _ K5.out (i * 8 + 1); have f2 := hfrz.out _ K5.out (i * 8 + 2); have f3 := hfrz.out _ K5.out (i * 8 + 3); have f4 := hfrz.out _ K5.out (i * 8 + 4); have f5 := hfrz.out _ K5.out (i * 8 + 5); have f6 := hfrz.out _ K5.out (i * 8 + 6); have f7 := hfrz.out _ K5.out (i * 8 + 7))
          all_goals
            go_wp2
            refine ⟨⟨i + 1, _, by go_num, by omega, hput.out _ p a K5.out hTH.out hAH.out⟩, ?_⟩
            simp only [intOf]; omega
      · have hie : i = RN := by omega
        subst hie
        have hfin : Hid (∀ v0 v1 v2 v3 v4, NewOut w (((((wr.setCell ⟨w.heap.size + 1, 0, none⟩ v0).setCell ⟨w.heap.size + 1, 1, none⟩ v1).setCell ⟨w.heap.size + 1, 2, none⟩ v2).setCell ⟨w.heap.size + 1, 3, none⟩ v3).setCell ⟨w.heap.size + 1, 4, none⟩ v4) bt i N inv mx M t (.slice ra t.rules.length rc) sv T (.returned (.agg (seCells bt M.beg inv mx (.slice (some ⟨w.heap.size + 1 + 1 + 1, 0, none⟩) i i))))) := fun v0 v1 v2 v3 v4 => by
          have q : Kept [w.heap.size + 1] wr (((((wr.setCell ⟨w.heap.size + 1, 0, none⟩ v0).setCell ⟨w.heap.size + 1, 1, none⟩ v1).setCell ⟨w.heap.size + 1, 2, none⟩ v2).setCell ⟨w.heap.size + 1, 3, none⟩ v3).setCell ⟨w.heap.size + 1, 4, none⟩ v4) :=
            (((((Kept.refl [w.heap.size + 1] wr).setCell (Or.inl (by simp)) _).setCell (Or.inl (by simp)) _).setCell (Or.inl (by simp)) _).setCell (Or.inl (by simp)) _).setCell (Or.inl (by simp)) _
          exact ⟨hIH.out.k.into q (by omega), _, ps, rfl, by omega, hIH.out.si.sp.keep q (fun x hx => by simp at hx; omega)⟩
        have hres : Hid (∀ v0 v1 v2 v3 v4, Blk (((((wr.setCell ⟨w.heap.size + 1, 0, none⟩ v0).setCell ⟨w.heap.size + 1, 1, none⟩ v1).setCell ⟨w.heap.size + 1, 2, none⟩ v2).setCell ⟨w.heap.size + 1, 3, none⟩ v3).setCell ⟨w.heap.size + 1, 4, none⟩ v4) (w.heap.size + 1) #[v0, v1, v2, v3, v4] 60) := fun v0 v1 v2 v3 v4 => by
          have h0 : Blk _ _ #[v0, .int .u64 0, .bool false, .int .i64 0, .slice none 0 0] _ := hIH.out.r.set 0 v0
          have h1 : Blk _ _ #[v0, v1, .bool false, .int .i64 0, .slice none 0 0] _ := h0.set 1 v1
          have h2 : Blk _ _ #[v0, v1, v2, .int .i64 0, .slice none 0 0] _ := h1.set 2 v2
          have h3 : Blk _ _ #[v0, v1, v2, v3, .slice none 0 0] _ := h2.set 3 v3
          have h4 : Blk _ _ #[v0, v1, v2, v3, v4] _ := h3.set 4 v4
          exact h4
        have hrb := hIH.out.r
        have hsb := hIH.out.si.s
        have y0 : wr.cell? ⟨w.heap.size + 1, 0, none⟩ = some (.pointer none) := hrb.cell 0
        have y1 : wr.cell? ⟨w.heap.size + 1, 1, none⟩ = some (.int .u64 0) := hrb.cell 1
        have y2 : wr.cell? ⟨w.heap.size + 1, 2, none⟩ = some (.bool false) := hrb.cell 2
        have y3 : wr.cell? ⟨w.heap.size + 1, 3, none⟩ = some (.int .i64 0) := hrb.cell 3
        have y4 : wr.cell? ⟨w.heap.size + 1, 4, none⟩ = some (.slice none 0 0) := hrb.cell 4
        have e0 := hrb.frozen 0
        have e1 := hrb.frozen 1
        have e2 := hrb.frozen 2
        have e3 := hrb.frozen 3
        have e4 := hrb.frozen 4
        have s0 : wr.cell? ⟨w.heap.size + 1 + 1, 0, none⟩ = some (.pointer (some ⟨bt, 0, none⟩)) := hsb.cell 0
        have s1 : wr.cell? ⟨w.heap.size + 1 + 1, 1, none⟩ = some (UV M.beg) := hsb.cell 1
        have s2 : wr.cell? ⟨w.heap.size + 1 + 1, 2, none⟩ = some (.bool inv) := hsb.cell 2
        have s3 : wr.cell? ⟨w.heap.size + 1 + 1, 3, none⟩ = some (.int .i64 mx) := hsb.cell 3
        have ly := hrb.lt
        clear hrb hsb hru hby
        go_wp2
        obtain ⟨x0, x1, x2, x3, x4⟩ : _ ∧ _ ∧ _ ∧ _ ∧ _ := (fun b => ⟨b.cell 0, b.cell 1, b.cell 2, b.cell 3, b.cell 4⟩) (hres.out (.pointer (some ⟨bt, 0, none⟩)) (UV M.beg) (.bool inv) (.int .i64 mx) (.slice (some ⟨w.heap.size + 1 + 1 + 1, 0, none⟩) i i))
        refine bodyPost_ret (v := .agg (seCells bt M.beg inv mx (.slice (some ⟨w.heap.size + 1 + 1 + 1, 0, none⟩) i i))) (by simp [results, Tryz.results57, go_sem, seCells, x0, x1, x2, x3, x4]) rfl (hfin.out _ _ _ _ _)

end Go.Proofs.YtgifhgnccmnbiabGreatDoor

set_option linter.unusedVariables false
set_option linter.unusedSimpArgs false
namespace Go.Proofs.YtgifhgnccmnbiabGreatDoor
open Go.RowKit Go.IntWalk

def plCells (h : PLC) : Array Value := #[.int .i64 (h.pos : Int), .int .i64 (h.beg : Int), .int .i64 (h.lines : Int), UV h.set]
structure LW (w x : World) (c : Array Value) : Prop where
  k : Kept [] w x
  r : Blk x (w.heap.size + 1) #[.int .i64 0, .int .i64 0, .int .i64 0, .int .u64 0] 143
  c : Blk x (w.heap.size + 1 + 1) c 143
theorem LW.kept {w x y : World} {c : Array Value} (h : LW w x c) (k : Kept [] x y) : LW w y c := ⟨h.k.trans k, h.r.kept k (by simp), h.c.kept k (by simp)⟩
theorem LW.set {w x : World} {c : Array Value} (h : LW w x c) (j : Nat) (v : Value) : LW w (x.setCell ⟨w.heap.size + 1 + 1, j, none⟩ v) (c.setIfInBounds j v) :=
  ⟨h.k.setCell (Or.inr (by simp; omega)) _, h.r.other _ _ (by omega), h.c.set j v⟩
theorem LW.drew {w x : World} {c : Array Value} (h : LW w x c) : LW w x.drew c := h.kept ((Kept.refl [] x).drew)
theorem all4 {w : World} {g : Nat} {c0 c1 c2 c3 : Value} {t : TypeId} (h : Blk w g #[c0, c1, c2, c3] t) :
    w.cell? ⟨g, 0, none⟩ = some c0 ∧ w.cell? ⟨g, 1, none⟩ = some c1 ∧ w.cell? ⟨g, 2, none⟩ = some c2 ∧ w.cell? ⟨g, 3, none⟩ = some c3 ∧ g < w.heap.size :=
  ⟨h.cell 0, h.cell 1, h.cell 2, h.cell 3, h.lt⟩
theorem froz4 {w : World} {g : Nat} {cs : Array Value} {t : TypeId} (h : Blk w g cs t) :
    w.frozen? ⟨g, 0, none⟩ = false ∧ w.frozen? ⟨g, 1, none⟩ = false ∧ w.frozen? ⟨g, 2, none⟩ = false ∧ w.frozen? ⟨g, 3, none⟩ = false :=
  ⟨h.frozen 0, h.frozen 1, h.frozen 2, h.frozen 3⟩
theorem res4 {w : World} {g : Nat} {c0 c1 c2 c3 : Value} {t : TypeId} (h : Blk w g #[c0, c1, c2, c3] t) (v0 v1 v2 v3 : Value) :
    Blk ((((w.setCell ⟨g, 0, none⟩ v0).setCell ⟨g, 1, none⟩ v1).setCell ⟨g, 2, none⟩ v2).setCell ⟨g, 3, none⟩ v3) g #[v0, v1, v2, v3] t := by
  have h0 : Blk _ g #[v0, c1, c2, c3] t := h.set 0 v0
  have h1 : Blk _ g #[v0, v1, c2, c3] t := h0.set 1 v1
  have h2 : Blk _ g #[v0, v1, v2, c3] t := h1.set 2 v2
  have h3 : Blk _ g #[v0, v1, v2, v3] t := h2.set 3 v3
  exact h3
theorem LW.done {w x : World} {v0 v1 v2 v3 : Value} (h : LW w x #[v0, v1, v2, v3]) :
    Kept [] w ((((x.setCell ⟨w.heap.size + 1, 0, none⟩ v0).setCell ⟨w.heap.size + 1, 1, none⟩ v1).setCell ⟨w.heap.size + 1, 2, none⟩ v2).setCell ⟨w.heap.size + 1, 3, none⟩ v3) ∧
    Blk ((((x.setCell ⟨w.heap.size + 1, 0, none⟩ v0).setCell ⟨w.heap.size + 1, 1, none⟩ v1).setCell ⟨w.heap.size + 1, 2, none⟩ v2).setCell ⟨w.heap.size + 1, 3, none⟩ v3) (w.heap.size + 1) #[v0, v1, v2, v3] 143 :=
  ⟨(((h.k.setCell (Or.inr (by simp)) _).setCell (Or.inr (by simp)) _).setCell (Or.inr (by simp)) _).setCell (Or.inr (by simp)) _, res4 h.r _ _ _ _⟩

set_option maxHeartbeats 2000000 in
set_option maxRecDepth 100000 in
theorem behindC_any {w : World} {g o : Nat} {p : PCE} {a : Option Addr} (hp : PAt w g o p a) (h : PLC) (htl : p.nl ≠ 0 → p.tail ≤ p.len) (h1 : h.pos ≤ 1099511627776) (h2 : h.beg ≤ 1099511627776) (h3 : h.lines ≤ 1099511627776) :
    Calls Tryz.prog 79 #[.agg #[.int .i64 (h.pos : Int), .int .i64 (h.beg : Int), .int .i64 (h.lines : Int), UV h.set], .pointer (some ⟨g, o, none⟩)] w fun e w' => e = .returned (.agg (plCells (behindC h p))) ∧ Kept [] w w' := by
  have p0 := hp.c0
  have p1 := hp.c1
  have b0 := hp.bd.len
  have b1 := hp.bd.nl
  have lg := hp.lt
  obtain ⟨HP, HB, HL, HS⟩ := h
  simp only [] at h1 h2 h3 ⊢
  by_cases hn : p.nl = 0
  · obtain ⟨G, O, rfl, tT, lT⟩ := hp.tab hn
    have p2 := hp.c2
    have p3 := hp.c3
    have e : Hid (behindC ⟨HP, HB, HL, HS⟩ p = ⟨HP + p.len, HB, HL, fromP (tabM p.nx) p.tk HS⟩) := by show behindC _ _ = _; unfold behindC; rw [if_pos hn, hn]; rfl
    have hfr : Hid (∀ w', Kept [] w w' → Calls _ _ _ w' _) := fun w' k => from_any (tabM p.nx) G O p.tk HS w' (tT.kept k lT)
    have q1 : w.cell? ⟨g, o + 1, none⟩ = some (.int .i64 0) := by rw [p1, hn]; rfl
    clear p1
    clear hn hp tT
    generalize fromP (tabM p.nx) p.tk HS = FS at *
    generalize p.len = PL at *
    generalize p.tk = TK at *
    have hg1 : g < w.heap.size + 1 := by omega
    have hg2 : g < w.heap.size + 1 + 1 := by omega
    have hg3 : g ≠ w.heap.size := by omega
    have hg4 : g ≠ w.heap.size + 1 := by omega
    have hg5 : g ≠ w.heap.size + 1 + 1 := by omega
    have hg6 : g ≠ w.heap.size + 2 := by omega
    go_enter Tryz.func79, Tryz.ntmps79
    go_wp2_with fail
    go_region
    all_goals
      obtain ⟨W1, hW1⟩ : ∃ W1, W1 = (((w.alloc (.cells #[.int .i64 (HP : Int), .int .i64 (HB : Int), .int .i64 (HL : Int), UV HS] 143)).alloc (.cells #[.int .i64 0, .int .i64 0, .int .i64 0, .int .u64 0] 143)).alloc (.cells #[.int .i64 ((HP : Int) + (PL : Int)), .int .i64 (HB : Int), .int .i64 (HL : Int), .int .u64 0] 143)).drew := ⟨_, rfl⟩
      have J1 : Hid (LW w W1 #[.int .i64 ((HP : Int) + (PL : Int)), .int .i64 (HB : Int), .int .i64 (HL : Int), .int .u64 0]) := by
        show LW _ _ _; rw [hW1]
        exact ⟨((((Kept.refl [] w).alloc _).alloc _).alloc _).drew, ((Blk.new1 w _ _ _).alloc _).drew, (Blk.new2 w _ _ _ _).drew⟩
      have D1 : Hid (Blk W1 w.heap.size #[.int .i64 (HP : Int), .int .i64 (HB : Int), .int .i64 (HL : Int), UV HS] 143) := by show Blk _ _ _ _; rw [hW1]; exact (((Blk.new w _ _).alloc _).alloc _).drew
      rw [← hW1]
      clear hW1
      have K1 := J1.out.k
      obtain ⟨d0, d1, d2, d3, dl⟩ := all4 D1.out
      obtain ⟨g0, g1, g2, g3, gl⟩ := all4 J1.out.c
      obtain ⟨f0, f1, f2, f3⟩ := froz4 J1.out.c
      obtain ⟨r0, r1, r2, r3, rl⟩ := all4 J1.out.r
      obtain ⟨s0, s1, s2, s3⟩ := froz4 J1.out.r
      have q1' := (K1.cell lg (o + 1)).trans q1
      have p2' := (K1.cell lg (o + 2)).trans p2
      have p3' := (K1.cell lg (o + 3)).trans p3
      have K1H : Hid (Kept [] w W1) := K1
      clear K1 p0 q1 p2 p3
      go_wp2_with fail
      go_region_law (go_simp; go_at_call 124; refine (hfr.out _ (K1H.out.trans (by first | exact (Kept.refl [] _).drew | exact Kept.refl _ _))).mono ?_; rintro _ w5 ⟨rfl, k5⟩; have J5 : Hid (LW _ w5 _) := J1.out.kept (Kept.trans (by first | exact (Kept.refl [] _).drew | exact Kept.refl _ _) k5); obtain ⟨g0, g1, g2, g3, gl⟩ := all4 J5.out.c; obtain ⟨f0, f1, f2, f3⟩ := froz4 J5.out.c; obtain ⟨r0, r1, r2, r3, rl⟩ := all4 J5.out.r; obtain ⟨s0, s1, s2, s3⟩ := froz4 J5.out.r)
      all_goals
        go_wp2
        have J6 : LW w _ #[.int .i64 ((HP : Int) + (PL : Int)), .int .i64 (HB : Int), .int .i64 (HL : Int), UV FS] := J5.out.set 3 (UV FS)
        obtain ⟨ky, by4⟩ := J6.done
        obtain ⟨x0, x1, x2, x3, _⟩ := all4 by4
        refine bodyPost_ret (v := .agg #[.int .i64 ((HP : Int) + (PL : Int)), .int .i64 (HB : Int), .int .i64 (HL : Int), UV FS]) (by simp [results, Tryz.results79, go_sem, x0, x1, x2, x3]) rfl ⟨?_, ky⟩
        rw [e.out]; unfold plCells; simp only [Int.natCast_add]
  · have p6 := hp.c6
    have p7 := hp.c7
    have ht := htl hn
    have e : Hid (behindC ⟨HP, HB, HL, HS⟩ p = ⟨HP + p.len, HP + p.len - p.tail, HL + p.nl, p.la⟩) := by show behindC _ _ = _; unfold behindC; rw [if_neg hn]
    have hni : ((p.nl : Nat) : Int) ≠ 0 := by omega
    clear hn hp htl
    generalize p.len = PL at *
    generalize p.nl = PN at *
    generalize p.tail = PT at *
    generalize p.la = LA at *
    have hsub : Hid (((HP + PL - PT : Nat) : Int) = (HP : Int) + (PL : Int) - (PT : Int)) := by show _ = _; omega
    have hg1 : g < w.heap.size + 1 := by omega
    have hg2 : g < w.heap.size + 1 + 1 := by omega
    have hg3 : g ≠ w.heap.size := by omega
    have hg4 : g ≠ w.heap.size + 1 := by omega
    have hg5 : g ≠ w.heap.size + 1 + 1 := by omega
    have hg6 : g ≠ w.heap.size + 2 := by omega
    go_enter Tryz.func79, Tryz.ntmps79
    go_wp2_with fail
    go_region
    all_goals
      obtain ⟨W1, hW1⟩ : ∃ W1, W1 = (((w.alloc (.cells #[.int .i64 (HP : Int), .int .i64 (HB : Int), .int .i64 (HL : Int), UV HS] 143)).alloc (.cells #[.int .i64 0, .int .i64 0, .int .i64 0, .int .u64 0] 143)).alloc (.cells #[.int .i64 ((HP : Int) + (PL : Int)), .int .i64 (HB : Int), .int .i64 ((HL : Int) + (PN : Int)), .int .u64 0] 143)).drew := ⟨_, rfl⟩
      have J1 : Hid (LW w W1 #[.int .i64 ((HP : Int) + (PL : Int)), .int .i64 (HB : Int), .int .i64 ((HL : Int) + (PN : Int)), .int .u64 0]) := by
        show LW _ _ _; rw [hW1]
        exact ⟨((((Kept.refl [] w).alloc _).alloc _).alloc _).drew, ((Blk.new1 w _ _ _).alloc _).drew, (Blk.new2 w _ _ _ _).drew⟩
      have D1 : Hid (Blk W1 w.heap.size #[.int .i64 (HP : Int), .int .i64 (HB : Int), .int .i64 (HL : Int), UV HS] 143) := by show Blk _ _ _ _; rw [hW1]; exact (((Blk.new w _ _).alloc _).alloc _).drew
      rw [← hW1]
      clear hW1
      have K1 := J1.out.k
      obtain ⟨d0, d1, d2, d3, dl⟩ := all4 D1.out
      obtain ⟨g0, g1, g2, g3, gl⟩ := all4 J1.out.c
      obtain ⟨f0, f1, f2, f3⟩ := froz4 J1.out.c
      obtain ⟨r0, r1, r2, r3, rl⟩ := all4 J1.out.r
      obtain ⟨s0, s1, s2, s3⟩ := froz4 J1.out.r
      have p1' := (K1.cell lg (o + 1)).trans p1
      have p6' := (K1.cell lg (o + 6)).trans p6
      have p7' := (K1.cell lg (o + 7)).trans p7
      clear K1 p0 p1 p6 p7
      go_wp2_with fail
      go_region
      all_goals
        go_wp2
        have J6 : LW w _ #[.int .i64 ((HP : Int) + (PL : Int)), .int .i64 ((HP : Int) + (PL : Int) - (PT : Int)), .int .i64 ((HL : Int) + (PN : Int)), .int .u64 0] := J1.out.set 1 (.int .i64 ((HP : Int) + (PL : Int) - (PT : Int)))
        have J7 : LW w _ #[.int .i64 ((HP : Int) + (PL : Int)), .int .i64 ((HP : Int) + (PL : Int) - (PT : Int)), .int .i64 ((HL : Int) + (PN : Int)), UV LA] := J6.set 3 (UV LA)
        obtain ⟨ky, by4⟩ := J7.done
        obtain ⟨x0, x1, x2, x3, _⟩ := all4 by4.drew
        refine bodyPost_ret (v := .agg #[.int .i64 ((HP : Int) + (PL : Int)), .int .i64 ((HP : Int) + (PL : Int) - (PT : Int)), .int .i64 ((HL : Int) + (PN : Int)), UV LA]) (by simp [results, Tryz.results79, go_sem, x0, x1, x2, x3]) rfl ⟨?_, ky.drew⟩
        rw [e.out]; unfold plCells; simp only [Int.natCast_add, hsub.out]

set_option maxHeartbeats 1000000 in
theorem isInLine_any (w : World) (h : PLC) : Calls Tryz.prog 80 #[.agg #[.int .i64 (h.pos : Int), .int .i64 (h.beg : Int), .int .i64 (h.lines : Int), UV h.set]] w fun e w' => e = .returned (.bool (decide (h.beg < h.pos))) ∧ Kept [] w w' := by
  have hk : Hid (∀ o, Kept [] w (w.alloc o)) := fun o => (Kept.refl [] w).alloc o
  obtain ⟨HP, HB, HL, HS⟩ := h
  simp only []
  by_cases hl : (HB : Int) < (HP : Int)
  · have e : decide (HB < HP) = true := decide_eq_true (by omega)
    rw [e]
    go_enter Tryz.func80, Tryz.ntmps80
    go_wp2
    go_ret
    exact ⟨rfl, hk.out _⟩
  · have e : decide (HB < HP) = false := decide_eq_false (by omega)
    rw [e]
    go_enter Tryz.func80, Tryz.ntmps80
    go_wp2
    go_ret
    exact ⟨rfl, hk.out _⟩

end Go.Proofs.YtgifhgnccmnbiabGreatDoor
