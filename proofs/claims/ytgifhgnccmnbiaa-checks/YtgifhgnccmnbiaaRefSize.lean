/- The document's answer: the size of a part; a pattern's tree. -/
import Derived.Test.YtgifhgnccmnbiaaRefChoice
set_option linter.unusedVariables false
set_option linter.unusedSimpArgs false
namespace Go.Proofs.Ytgifhgnccmnbiaa
open Go.RowKit Go.IntWalk

def sizeK (p : PN) (n : Int) : Int :=
  if p.kind = 1 ∨ p.kind = 2 ∨ p.kind = 3 then 1
  else if p.kind = 4 then (if n < 1 then 1 else n)
  else if p.kind = 6 then (if 1 < p.most then wrap64 (n * p.most) else if p.most < 0 ∧ 1 < p.least then wrap64 (n * p.least) else n)
  else n
def sizeG (ps : List PN) : Nat → Nat → Int
  | 0, _ => 0
  | f + 1, i => match ps[i]? with
    | none => 0
    | some p => sizeK p (p.kids.foldl (fun n k => wrap64 (n + sizeG ps f k)) 0)

/-- The parts, to be read alone. -/
def PM (w : World) (ps : List PN) (adrs : List Nat) : Prop :=
  ∀ (i : Nat) (p : PN), ps[i]? = some p → (∀ k, k ∈ p.kids → k < i) ∧ ∃ F iv kv, PartOk w F adrs p (adrs.getD i 0) iv kv

theorem sizeG_more (ps : List PN) (hk : ∀ (i : Nat) (p : PN), ps[i]? = some p → ∀ k, k ∈ p.kids → k < i) : ∀ (f g i : Nat), i < f → i < g → sizeG ps f i = sizeG ps g i
  | 0, _, _, h, _ => by omega
  | _ + 1, 0, _, _, h => by omega
  | f + 1, g + 1, i, h1, h2 => by
    rw [sizeG, sizeG]
    cases hp : ps[i]? with
    | none => rfl
    | some p =>
      simp only []
      congr 1
      have : ∀ (l : List Nat) (n : Int), (∀ k, k ∈ l → k < i) → l.foldl (fun n k => wrap64 (n + sizeG ps f k)) n = l.foldl (fun n k => wrap64 (n + sizeG ps g k)) n := by
        intro l
        induction l with
        | nil => intro n _; rfl
        | cons x r ih =>
          intro n hl
          rw [List.foldl_cons, List.foldl_cons, sizeG_more ps hk f g x (by have := hl x (by simp); omega) (by have := hl x (by simp); omega)]
          exact ih _ (fun k hk => hl k (by simp [hk]))
      exact this p.kids 0 (hk i p hp)

set_option maxHeartbeats 2000000 in
set_option maxRecDepth 100000 in
theorem rsize_step (ps : List PN) (adrs : List Nat) (w : World) (hm : PM w ps adrs) (i : Nat) (p : PN) (hp : ps[i]? = some p)
    (ih : ∀ k, k < i → Calls Try.prog 64 #[ptrTo adrs k] w fun e w' => e = .returned (.int .i64 (sizeG ps i k)) ∧ w' = w) :
    Calls Try.prog 64 #[ptrTo adrs i] w fun e w' => e = .returned (.int .i64 (sizeG ps (i + 1) i)) ∧ w' = w := by
  obtain ⟨hk, F, iv, kv, po⟩ := hm i p hp
  have hsz : Hid (sizeG ps (i + 1) i = sizeK p (p.kids.foldl (fun n k => wrap64 (n + sizeG ps i k)) 0)) := by
    show sizeG ps (i + 1) i = _
    rw [sizeG, hp]
  have hl : p.kids.length ≤ maxLen := by
    rcases po.kids.2 with ⟨_, h2⟩ | ⟨g, cap, cu, _, _, _, h4, h5, _⟩
    · omega
    · omega
  unfold maxLen at hl
  have ihH : Hid (∀ k, k < i → _) := ih
  clear ih hm hp
  obtain ⟨a, ha⟩ : ∃ a, a = adrs.getD i 0 := ⟨_, rfl⟩
  rw [← ha] at po
  have e : ptrTo adrs i = .pointer (some ⟨a, 0, none⟩) := by rw [ha]; rfl
  rw [e]
  clear e ha
  have c0 := po.blk.cell 0
  have c3 := po.blk.cell 3
  have c4 := po.blk.cell 4
  have c5 := po.blk.cell 5
  have hlen : kv.2.1 = p.kids.length := by
    rcases po.kids.2 with ⟨h1, h2⟩ | ⟨g, cap, cu, h1, _⟩
    · simp [ivV] at h1; rw [h1.2.1, h2]
    · simp [ivV] at h1; exact h1.2.1
  obtain ⟨ko, kl, kc⟩ := kv
  simp only [] at hlen c3
  subst hlen
  have hcell : ∀ j, j < p.kids.length → ∃ g, ko = some ⟨g, 0, none⟩ ∧ w.cell? ⟨g, j, none⟩ = some (ptrTo adrs (p.kids.getD j 0)) ∧ j < kc := by
    intro j hj
    rcases po.kids.2 with ⟨h1, h2⟩ | ⟨g, cap, cu, h1, h2, h3, h4, _⟩
    · omega
    · simp [ivV] at h1
      have hc := po.kids.cells (g := g) (by simp [ivV, h1.1, Value.ownBlock]) j (ptrTo adrs (p.kids.getD j 0)) (by simp [List.getD, hj])
      refine ⟨g, h1.1, ?_, by rw [h1.2]; omega⟩
      rwa [show (⟨g, 0, none⟩ : Addr).add j = ⟨g, j, none⟩ by unfold Addr.add; split <;> simp_all] at hc
  have hcellH : Hid (∀ j, j < p.kids.length → _) := hcell
  clear po hcell
  go_enter Try.func64, Try.ntmps64
  go_wp2_with fail
  go_loop [3, 4] (fun n j => ∃ c : Nat, c ≤ p.kids.length ∧ j = .int .i64 (c : Int) ∧ n = .int .i64 ((p.kids.take c).foldl (fun n k => wrap64 (n + sizeG ps i k)) 0)) (fun _ j => p.kids.length - (intOf j).toNat)
  case atStart => exact ⟨0, Nat.zero_le _, rfl, rfl⟩
  case round =>
    obtain ⟨c, hc, rfl, rfl⟩ := hrel
    by_cases hlt : c < p.kids.length
    · obtain ⟨g, rfl, hcj, hck⟩ := hcellH.out c hlt
      have hget : p.kids.getD c 0 = p.kids[c] := by simp [List.getD, hlt]
      have hki := hk (p.kids.getD c 0) (by rw [hget]; exact List.getElem_mem hlt)
      have hnext : Hid ((p.kids.take (c + 1)).foldl (fun n k => wrap64 (n + sizeG ps i k)) 0 = wrap64 ((p.kids.take c).foldl (fun n k => wrap64 (n + sizeG ps i k)) 0 + sizeG ps i (p.kids.getD c 0))) := by
        show _ = _
        rw [List.take_succ_eq_append_getElem hlt, List.foldl_append, hget]
        rfl
      clear hget
      generalize p.kids.getD c 0 = kk at *
      have ihc : Hid (Calls _ _ _ _ _) := ihH.out _ hki
      obtain ⟨y, hy⟩ : ∃ y, ptrTo adrs kk = .pointer (some ⟨y, 0, none⟩) := ⟨_, rfl⟩
      rw [hy] at hcj
      have hyH : Hid (_ = _) := hy
      clear hy
      generalize (p.kids.take c).foldl (fun n k => wrap64 (n + sizeG ps i k)) 0 = acc at *
      go_wp2_with fail
      rw [← hyH.out]
      refine ihc.out.mono ?_
      rintro e w2 ⟨rfl, rfl⟩
      go_wp2
      refine ⟨⟨c + 1, by omega, by go_num, by rw [hnext.out]⟩, by simp [intOf]; omega⟩
    · have hc2 : c = p.kids.length := by omega
      subst hc2
      rw [List.take_of_length_le (Nat.le_refl _)] at *
      generalize p.kids.foldl (fun n k => wrap64 (n + sizeG ps i k)) 0 = acc at *
      clear hk hcellH ihH
      by_cases k1 : p.kind = 1
      · have e : Hid (sizeK p acc = 1) := if_pos (Or.inl k1)
        go_wp2
        go_ret
        exact ⟨ret_int (by rw [hsz.out, e.out]), rfl⟩
      have b1 : (p.kind == 1) = false := by simpa using k1
      by_cases k2 : p.kind = 2
      · have e : Hid (sizeK p acc = 1) := if_pos (Or.inr (Or.inl k2))
        go_wp2
        go_ret
        exact ⟨ret_int (by rw [hsz.out, e.out]), rfl⟩
      have b2 : (p.kind == 2) = false := by simpa using k2
      by_cases k3 : p.kind = 3
      · have e : Hid (sizeK p acc = 1) := if_pos (Or.inr (Or.inr k3))
        go_wp2
        go_ret
        exact ⟨ret_int (by rw [hsz.out, e.out]), rfl⟩
      have b3 : (p.kind == 3) = false := by simpa using k3
      by_cases k4 : p.kind = 4
      · have e : Hid (sizeK p acc = if acc < 1 then 1 else acc) := by show sizeK p acc = _; unfold sizeK; rw [if_neg (by omega), if_pos k4]
        by_cases l : acc < 1
        · go_wp2
          go_ret
          exact ⟨ret_int (by rw [hsz.out, e.out, if_pos l]), rfl⟩
        · go_wp2
          go_ret
          exact ⟨ret_int (by rw [hsz.out, e.out, if_neg (by omega)]), rfl⟩
      have b4 : (p.kind == 4) = false := by simpa using k4
      by_cases k6 : p.kind = 6
      · have e : Hid (sizeK p acc = if 1 < p.most then wrap64 (acc * p.most) else if p.most < 0 ∧ 1 < p.least then wrap64 (acc * p.least) else acc) := by
          show sizeK p acc = _; unfold sizeK; rw [if_neg (by omega), if_neg k4, if_pos k6]
        clear k1 k2 k3 k4 b1 b2 b3 b4
        by_cases l : 1 < p.most
        · go_wp2
          go_ret
          exact ⟨ret_int (by rw [hsz.out, e.out, if_pos l]), rfl⟩
        by_cases l2 : p.most < 0
        · by_cases l3 : 1 < p.least
          · go_wp2
            go_ret
            exact ⟨ret_int (by rw [hsz.out, e.out, if_neg (by omega), if_pos ⟨l2, l3⟩]), rfl⟩
          · go_wp2
            go_ret
            exact ⟨ret_int (by rw [hsz.out, e.out, if_neg (by omega), if_neg (by omega)]), rfl⟩
        · go_wp2
          go_ret
          exact ⟨ret_int (by rw [hsz.out, e.out, if_neg (by omega), if_neg (by omega)]), rfl⟩
      · have e : Hid (sizeK p acc = acc) := by show sizeK p acc = _; unfold sizeK; rw [if_neg (by omega), if_neg k4, if_neg k6]
        have b6 : (p.kind == 6) = false := by simpa using k6
        clear k1 k2 k3 k4 k6
        go_wp2
        go_ret
        exact ⟨ret_int (by rw [hsz.out, e.out]), rfl⟩

theorem rsize_any (ps : List PN) (adrs : List Nat) (w : World) (hm : PM w ps adrs) :
    ∀ (n i : Nat), i < n → i < ps.length → Calls Try.prog 64 #[ptrTo adrs i] w fun e w' => e = .returned (.int .i64 (sizeG ps (i + 1) i)) ∧ w' = w
  | 0, _, h, _ => by omega
  | n + 1, i, h, hi => by
    have hp : ps[i]? = some ps[i] := List.getElem?_eq_getElem hi
    refine rsize_step ps adrs w hm i ps[i] hp (fun k hk => ?_)
    have h2 := rsize_any ps adrs w hm n k (by omega) (by omega)
    rwa [sizeG_more ps (fun i p hp => (hm i p hp).1) (k + 1) i k (by omega) hk] at h2

theorem RM.pm {w : World} {b : Nat} {t : ByteArray} {s : RS} {ps : List PN} {adrs : List Nat} {F : Nat → Prop} (h : RM w b t s ps adrs F) : PM w ps adrs := fun i p hp => by
  obtain ⟨h1, iv, kv, h2⟩ := h.part i p hp
  exact ⟨h1, F, iv, kv, h2⟩

def rp0 : RP := ((0, false), [])
def BadT (t : ByteArray) (r : Nat × RP) : Prop := r.2.1.2 = true ∨ r.2.1.1 < t.size
def szT (r : Nat × RP) : Int := sizeG r.2.2 (r.1 + 1) r.1

def TreeOut (t : ByteArray) (w w' : World) (e : Ending) : Prop :=
  Below w.heap.size w w' ∧ ∃ r : Nat × RP, EvR t 0 [] rp0 r ∧ r.1 < r.2.2.length ∧
    ((BadT t r ∧ e = .returned (.tuple #[.pointer none, .int .i64 0, .int .i64 2])) ∨
     (¬ BadT t r ∧ 60 < szT r ∧ e = .returned (.tuple #[.pointer none, .int .i64 0, .int .i64 3])) ∨
     (¬ BadT t r ∧ szT r ≤ 60 ∧ ∃ adrs F b, w.heap.size ≤ b ∧ RM w' b t r.2.1 r.2.2 adrs F ∧ e = .returned (.tuple #[ptrTo adrs r.1, .int .i64 (szT r), .int .i64 0])))

set_option maxHeartbeats 400000 in
theorem rtree_long (t : ByteArray) (w : World) (h : 40 < t.size) (hs : t.size ≤ maxLen) :
    Calls Try.prog 41 #[.string t] w fun e w' => e = .returned (.tuple #[.pointer none, .int .i64 0, .int .i64 3]) ∧ w' = w := by
  unfold maxLen at hs
  go_enter Try.func41, Try.ntmps41
  go_wp2
  go_ret3
  exact ⟨rfl, rfl⟩

theorem sfx_zero (t : ByteArray) : sfx t 0 = t := by simp [sfx]

set_option maxHeartbeats 2000000 in
theorem rtree_any (t : ByteArray) (w : World) (h : t.size ≤ 40) :
    Calls Try.prog 41 #[.string t] w fun e w' => TreeOut t w w' e := by
  have hr : RM (w.alloc (.cells #[.string t, .bool false] 107)) w.heap.size t (0, false) [] [] (fun _ => False) := by
    refine ⟨⟨?_, Nat.zero_le _, h⟩, rfl, fun i p hp => by simp at hp, fun k hk => hk.elim⟩
    simp only [sfx_zero]
    exact Blk.new _ _ _
  have hC : Hid (Calls _ _ _ _ _) := rchoice_any t (t.size + 1) w.heap.size (0, false) [] [] (fun _ => False) _ (by simp only []; omega) hr
  have bw : Below w.heap.size w (w.alloc (.cells #[.string t, .bool false] 107)) := (Below.refl _ _).alloc (Nat.le_refl _) _
  go_enter Try.func41, Try.ntmps41
  go_wp2_with fail
  refine hC.out.mono ?_
  clear hC hr
  rintro e w1 ⟨r, pv, rfl, ev, m, hge⟩
  obtain ⟨⟨adrs, F, hm, _, _, hpv⟩, k1, hidx⟩ := m
  simp only [List.nil_append] at hm hpv
  have b1 : Below w.heap.size w w1 := bw.trans (k1.below (by simp) (by simp))
  have c0 := hm.rr.c0
  have c1 := hm.rr.c1
  have hfit := hm.rr.fits
  simp only [Fits] at hfit
  obtain ⟨x, hx⟩ : ∃ x, pv = .pointer (some ⟨x, 0, none⟩) := ⟨_, hpv⟩
  subst hx
  have evH : Hid (EvR t 0 [] rp0 r) := ev
  have hpvH : Hid (_ = _) := hpv
  have hmH : Hid (RM _ _ _ _ _ _ _) := hm
  clear ev hpv bw k1
  cases hb : r.2.1.2 with
  | true =>
    rw [hb] at c1
    have hbH : Hid (BadT t r) := Or.inl hb
    go_wp2
    go_ret3
    exact ⟨b1, r, evH.out, hidx, Or.inl ⟨hbH.out, rfl⟩⟩
  | false =>
    rw [hb] at c1
    by_cases hlt : r.2.1.1 < t.size
    · have hl : (0 : Int) < ((sfx t r.2.1.1).size : Int) := by rw [sfx_size]; omega
      have hbH : Hid (BadT t r) := Or.inr hlt
      go_wp2
      go_ret3
      exact ⟨b1, r, evH.out, hidx, Or.inl ⟨hbH.out, rfl⟩⟩
    · have hl : ¬ (0 : Int) < ((sfx t r.2.1.1).size : Int) := by rw [sfx_size]; omega
      have hnb : Hid (¬ BadT t r) := fun hc => by rcases hc with hc | hc; rw [hb] at hc; cases hc; exact hlt hc
      have hS : Hid (Calls _ _ _ _ _) := rsize_any r.2.2 adrs w1 hm.pm (r.1 + 1) r.1 (Nat.lt_succ_self _) hidx
      clear hm hb
      go_wp2_with fail
      rw [hpvH.out]
      refine hS.out.mono ?_
      clear hS
      rw [← hpvH.out]
      obtain ⟨z, hz⟩ : ∃ z, z = sizeG r.2.2 (r.1 + 1) r.1 := ⟨_, rfl⟩
      rw [← hz]
      rintro e w2 ⟨rfl, rfl⟩
      have hzH : Hid (z = szT r) := hz
      clear hz
      by_cases hbig : 60 < z
      · go_wp2
        go_ret3
        exact ⟨b1, r, evH.out, hidx, Or.inr (Or.inl ⟨hnb.out, by rw [← hzH.out]; exact hbig, rfl⟩)⟩
      · go_wp2
        go_ret3
        exact ⟨b1, r, evH.out, hidx, Or.inr (Or.inr ⟨hnb.out, by rw [← hzH.out]; omega, adrs, F, w.heap.size, Nat.le_refl _, hmH.out, by rw [← hpvH.out, ← hzH.out]; rfl⟩)⟩

def RCheckOut (t : ByteArray) (w w' : World) (e : Ending) : Prop :=
  Below w.heap.size w w' ∧ ∃ r : Nat × RP, EvR t 0 [] rp0 r ∧ r.1 < r.2.2.length ∧
    ((BadT t r ∧ e = .returned (.tuple #[.int .i64 0, .int .i64 2])) ∨
     (¬ BadT t r ∧ 60 < szT r ∧ e = .returned (.tuple #[.int .i64 0, .int .i64 3])) ∨
     (¬ BadT t r ∧ szT r ≤ 60 ∧ e = .returned (.tuple #[.int .i64 (szT r), .int .i64 0])))

set_option maxHeartbeats 400000 in
theorem rcheck_long (t : ByteArray) (w : World) (h : 40 < t.size) (hs : t.size ≤ maxLen) :
    Calls Try.prog 16 #[.string t] w fun e w' => e = .returned (.tuple #[.int .i64 0, .int .i64 3]) ∧ w' = w := by
  go_enter Try.func16, Try.ntmps16
  go_wp2_with fail
  refine (rtree_long t _ h hs).mono ?_
  rintro e w1 ⟨rfl, rfl⟩
  go_wp2
  go_ret2
  exact ⟨rfl, rfl⟩

set_option maxHeartbeats 1000000 in
theorem rcheck_any (t : ByteArray) (w : World) (h : t.size ≤ 40) :
    Calls Try.prog 16 #[.string t] w fun e w' => RCheckOut t w w' e := by
  go_enter Try.func16, Try.ntmps16
  go_wp2_with fail
  refine (rtree_any t _ h).mono ?_
  rintro e w1 ⟨b1, r, hev, hidx, ⟨hb, rfl⟩ | ⟨hb, hz, rfl⟩ | ⟨hb, hz, adrs, F, b, hbb, hn, rfl⟩⟩
  · have hh : Hid (RCheckOut t w w1 (.returned (.tuple #[.int .i64 0, .int .i64 2]))) := ⟨b1, r, hev, hidx, Or.inl ⟨hb, rfl⟩⟩
    clear hev hidx hb
    go_wp2
    go_ret2
    exact hh.out
  · have hh : Hid (RCheckOut t w w1 (.returned (.tuple #[.int .i64 0, .int .i64 3]))) := ⟨b1, r, hev, hidx, Or.inr (Or.inl ⟨hb, hz, rfl⟩)⟩
    clear hev hidx hb
    go_wp2
    go_ret2
    exact hh.out
  · have hh : Hid (RCheckOut t w w1 (.returned (.tuple #[.int .i64 (szT r), .int .i64 0]))) := ⟨b1, r, hev, hidx, Or.inr (Or.inr ⟨hb, hz, rfl⟩)⟩
    clear hev hidx hb hn
    generalize szT r = z at *
    generalize ptrTo adrs r.1 = pp at *
    go_wp2
    go_ret2
    exact hh.out

end Go.Proofs.Ytgifhgnccmnbiaa
