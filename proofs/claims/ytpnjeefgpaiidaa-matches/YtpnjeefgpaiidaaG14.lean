/- The document's answer: the table of a part. -/
import Derived.Test.YtpnjeefgpaiidaaG13
import Derived.Deep.RegionLaw
import Derived.Test.YtpnjeefgpaiidaaG03
set_option linter.unusedVariables false
set_option linter.unusedSimpArgs false
namespace Go.Proofs.Ytpnjeefgpaiidaa
open Go.RowKit Go.IntWalk

/-- The parts in memory. -/
structure PMs (w : World) (ps : List PN) (adrs : List Nat) (F : Nat → Prop) : Prop where
  part : ∀ (i : Nat) (p : PN), ps[i]? = some p → (∀ k, k ∈ p.kids → k < i) ∧ ∃ iv kv, PartOk w F adrs p (adrs.getD i 0) iv kv
  old : ∀ k, F k → k < w.heap.size
theorem RM.pms {w : World} {b : Nat} {t : ByteArray} {s : RS} {ps : List PN} {adrs : List Nat} {F : Nat → Prop} (h : RM w b t s ps adrs F) : PMs w ps adrs F := ⟨h.part, fun k hk => (h.old k hk).1⟩
theorem PMs.kept {w w' : World} {ps : List PN} {adrs : List Nat} {F : Nat → Prop} (h : PMs w ps adrs F) (k : Kept [] w w') : PMs w' ps adrs F :=
  ⟨fun i p hp => ⟨(h.part i p hp).1, by obtain ⟨iv, kv, hk⟩ := (h.part i p hp).2; exact ⟨iv, kv, hk.frame (fun j hj => k.block j (h.old j hj) (by simp))⟩⟩, fun j hj => Nat.lt_of_lt_of_le (h.old j hj) k.size⟩
theorem PMs.wf {w : World} {ps : List PN} {adrs : List Nat} {F : Nat → Prop} (h : PMs w ps adrs F) : WfP ps := fun i p hp => (h.part i p hp).1

/-- The kids of a part, one by one. -/
theorem PartOk.kid {w : World} {F : Nat → Prop} {adrs : List Nat} {p : PN} {a : Nat} {iv kv : IV} (h : PartOk w F adrs p a iv kv) :
    kv.2.1 = p.kids.length ∧ ∀ j, j < p.kids.length → ∃ g, kv.1 = some ⟨g, 0, none⟩ ∧ w.cell? ⟨g, j, none⟩ = some (ptrTo adrs (p.kids.getD j 0)) ∧ j < kv.2.2 := by
  obtain ⟨ko, kl, kc⟩ := kv
  have hlen : kl = p.kids.length := by
    rcases h.kids.2 with ⟨h1, h2⟩ | ⟨g, cap, cu, h1, _⟩
    · simp [ivV] at h1; rw [h1.2.1, h2]
    · simp [ivV] at h1; exact h1.2.1
  refine ⟨hlen, fun j hj => ?_⟩
  rcases h.kids.2 with ⟨h1, h2⟩ | ⟨g, cap, cu, h1, h2, h3, h4, _⟩
  · omega
  · simp [ivV] at h1
    have hc := h.kids.cells (g := g) (by simp [ivV, h1.1, Value.ownBlock]) j (ptrTo adrs (p.kids.getD j 0)) (by simp [List.getD, hj])
    refine ⟨g, h1.1, ?_, by have := h1.2.2; show j < kc; omega⟩
    rwa [show (⟨g, 0, none⟩ : Addr).add j = ⟨g, j, none⟩ by unfold Addr.add; split <;> simp_all] at hc

def MatchC (ps : List PN) (adrs : List Nat) (F : Nat → Prop) (fold : Bool) (t : ByteArray) (i : Nat) : Prop :=
  ∀ w, PMs w ps adrs F → TabCall 69 #[ptrTo adrs i, .bool fold, .string t] t.size w (MatR ps fold t i)

theorem take_next {l : List Nat} {c : Nat} (h : c < l.length) : l.take (c + 1) = l.take c ++ [l.getD c 0] := by
  rw [List.take_succ_eq_append_getElem h]; simp [List.getD, h]

set_option maxHeartbeats 4000000 in
set_option maxRecDepth 100000 in
theorem matched_row (ps : List PN) (adrs : List Nat) (F : Nat → Prop) (fold : Bool) (t : ByteArray) (ht : t.size ≤ 1000) (i : Nat) (p : PN) (hp : ps[i]? = some p) (hk : p.kind = 4)
    (ih : ∀ k, k ∈ p.kids → MatchC ps adrs F fold t k) : MatchC ps adrs F fold t i := by
  intro w hm
  have hR : MatR ps fold t i = seqR t.size (MatR ps fold t) p.kids := by
    rw [MatR_eq hm.wf hp]; unfold bodyR; rw [if_neg (by omega), if_neg (by omega), if_neg (by omega), if_pos hk]
  rw [hR]
  clear hR
  obtain ⟨_, iv, kv, po⟩ := hm.part i p hp
  have hold := hm.old
  have hmH : Hid (PMs _ _ _ _) := hm
  have ihH : Hid (∀ k, _) := ih
  have hl : p.kids.length ≤ maxLen := by
    rcases po.kids.2 with ⟨_, h2⟩ | ⟨g, cap, cu, _, _, _, h4, h5, _⟩
    · omega
    · omega
  unfold maxLen at hl
  clear ih hm hp
  obtain ⟨a, ha⟩ : ∃ a, a = adrs.getD i 0 := ⟨_, rfl⟩
  rw [← ha] at po
  have e : ptrTo adrs i = .pointer (some ⟨a, 0, none⟩) := by rw [ha]; rfl
  rw [e]
  clear e ha
  have c0 : w.cell? ⟨a, 0, none⟩ = some (.int .i64 4) := by rw [← hk]; exact po.blk.cell 0
  have hsame := same_of t.size (by omega) w
  obtain ⟨hlen, hcell⟩ := po.kid
  have c3 : w.cell? ⟨a, 3, none⟩ = some (.slice kv.1 kv.2.1 kv.2.2) := po.blk.cell 3
  have hblk : Hid (∀ w', Kept [] w w' → w'.cell? ⟨a, 3, none⟩ = some (.slice kv.1 kv.2.1 kv.2.2) ∧ ∀ j, j < p.kids.length → ∃ g, kv.1 = some ⟨g, 0, none⟩ ∧ w'.cell? ⟨g, j, none⟩ = some (ptrTo adrs (p.kids.getD j 0)) ∧ j < kv.2.2) := fun w' k => by
    have po' := po.frame (w' := w') (fun j hj => k.block j (hold j hj) (by simp))
    exact ⟨po'.blk.cell 3, po'.kid.2⟩
  clear po hold hcell c3
  obtain ⟨ko, kl, kc⟩ := kv
  simp only [] at hlen hblk
  subst hlen
  unfold TabCall at hsame
  unfold TabCall
  go_enter Try.func69, Try.ntmps69
  go_wp2_with fail
  refine hsame.mono ?_
  rintro e w1 ⟨v, rfl, t1, k1⟩
  clear hsame c0
  go_wp2_with fail
  go_loopw [12, 13] (fun tv iv wr => ∃ c : Nat, c ≤ p.kids.length ∧ iv = .int .i64 (c : Int) ∧ TabOf wr w.heap.size tv t.size (seqR t.size (MatR ps fold t) (p.kids.take c)) ∧ Kept [] w wr) (fun _ iv _ => p.kids.length - (intOf iv).toNat)
  case atStart => exact ⟨0, Nat.zero_le _, rfl, t1, k1⟩
  case round =>
    obtain ⟨c, hc, rfl, ht1, hkw⟩ := hrel
    clear t1 k1
    obtain ⟨c3, hcells⟩ := hblk.out _ hkw
    by_cases hlt : c < p.kids.length
    · obtain ⟨g, rfl, hcj, hck⟩ := hcells c hlt
      have hmem : p.kids.getD c 0 ∈ p.kids := by simp [List.getD, hlt]
      have hnext : Hid (seqR t.size (MatR ps fold t) (p.kids.take (c + 1)) = thenR t.size (seqR t.size (MatR ps fold t) (p.kids.take c)) (MatR ps fold t (p.kids.getD c 0))) := by
        show _ = _
        rw [take_next hlt, seqR_snoc]
      generalize p.kids.getD c 0 = kk at *
      have ihc : Hid (TabCall _ _ _ _ _) := ihH.out kk hmem _ (hmH.out.kept hkw)
      obtain ⟨y, hy⟩ : ∃ y, ptrTo adrs kk = .pointer (some ⟨y, 0, none⟩) := ⟨_, rfl⟩
      rw [hy] at hcj ihc
      clear hy hcells hmem
      go_wp2_with fail
      refine Calls.mono ihc.out ?_
      rintro e w2 ⟨v2, rfl, t2, k2⟩
      have hth := then_of t.size (by omega) w2 (ht1.kept (S := []) k2) t2
      unfold TabCall at hth
      have k2 := hkw.trans k2
      clear ihc t2 ht1
      go_wp2_with fail
      refine hth.mono ?_
      rintro e w3 ⟨v3, rfl, t3, k3⟩
      have t3 : Hid (TabOf _ _ _ _ _) := t3.mono k2.size
      have k3 : Hid (Kept _ _ _) := k2.trans k3
      clear hth k2 hkw c3 hcj
      go_wp2
      refine ⟨⟨c + 1, by omega, by go_num, by rw [hnext.out]; exact t3.out, k3.out⟩, by simp [intOf]; omega⟩
    · have hc2 : c = p.kids.length := by omega
      subst hc2
      rw [List.take_of_length_le (Nat.le_refl _)] at ht1
      have t3 : Hid (TabOf _ _ _ _ _) := ht1
      have k3 : Hid (Kept _ _ _) := hkw
      clear ht1 hkw hcells
      go_wp2
      go_ret
      exact ⟨_, rfl, t3.out, k3.out⟩

set_option maxHeartbeats 4000000 in
set_option maxRecDepth 100000 in
theorem matched_choice (ps : List PN) (adrs : List Nat) (F : Nat → Prop) (fold : Bool) (t : ByteArray) (ht : t.size ≤ 1000) (i : Nat) (p : PN) (hp : ps[i]? = some p) (hk : p.kind = 5)
    (ih : ∀ k, k ∈ p.kids → MatchC ps adrs F fold t k) : MatchC ps adrs F fold t i := by
  intro w hm
  have hR : MatR ps fold t i = altR (MatR ps fold t) p.kids := by
    rw [MatR_eq hm.wf hp]; unfold bodyR; rw [if_neg (by omega), if_neg (by omega), if_neg (by omega), if_neg (by omega), if_pos hk]
  rw [hR]
  clear hR
  obtain ⟨_, iv, kv, po⟩ := hm.part i p hp
  have hold := hm.old
  have hmH : Hid (PMs _ _ _ _) := hm
  have ihH : Hid (∀ k, _) := ih
  have hl : p.kids.length ≤ maxLen := by
    rcases po.kids.2 with ⟨_, h2⟩ | ⟨g, cap, cu, _, _, _, h4, h5, _⟩
    · omega
    · omega
  unfold maxLen at hl
  clear ih hm hp
  obtain ⟨a, ha⟩ : ∃ a, a = adrs.getD i 0 := ⟨_, rfl⟩
  rw [← ha] at po
  have e : ptrTo adrs i = .pointer (some ⟨a, 0, none⟩) := by rw [ha]; rfl
  rw [e]
  clear e ha
  have c0 : w.cell? ⟨a, 0, none⟩ = some (.int .i64 5) := by rw [← hk]; exact po.blk.cell 0
  have hsame := none_of t.size (by omega) w
  obtain ⟨hlen, hcell⟩ := po.kid
  have c3 : w.cell? ⟨a, 3, none⟩ = some (.slice kv.1 kv.2.1 kv.2.2) := po.blk.cell 3
  have hblk : Hid (∀ w', Kept [] w w' → w'.cell? ⟨a, 3, none⟩ = some (.slice kv.1 kv.2.1 kv.2.2) ∧ ∀ j, j < p.kids.length → ∃ g, kv.1 = some ⟨g, 0, none⟩ ∧ w'.cell? ⟨g, j, none⟩ = some (ptrTo adrs (p.kids.getD j 0)) ∧ j < kv.2.2) := fun w' k => by
    have po' := po.frame (w' := w') (fun j hj => k.block j (hold j hj) (by simp))
    exact ⟨po'.blk.cell 3, po'.kid.2⟩
  clear po hold hcell c3
  obtain ⟨ko, kl, kc⟩ := kv
  simp only [] at hlen hblk
  subst hlen
  unfold TabCall at hsame
  unfold TabCall
  go_enter Try.func69, Try.ntmps69
  go_wp2_with fail
  refine hsame.mono ?_
  rintro e w1 ⟨v, rfl, t1, k1⟩
  clear hsame c0
  go_wp2_with fail
  go_loopw [15, 16] (fun tv iv wr => ∃ c : Nat, c ≤ p.kids.length ∧ iv = .int .i64 (c : Int) ∧ TabOf wr w.heap.size tv t.size (altR (MatR ps fold t) (p.kids.take c)) ∧ Kept [] w wr) (fun _ iv _ => p.kids.length - (intOf iv).toNat)
  case atStart => exact ⟨0, Nat.zero_le _, rfl, t1, k1⟩
  case round =>
    obtain ⟨c, hc, rfl, ht1, hkw⟩ := hrel
    clear t1 k1
    obtain ⟨c3, hcells⟩ := hblk.out _ hkw
    by_cases hlt : c < p.kids.length
    · obtain ⟨g, rfl, hcj, hck⟩ := hcells c hlt
      have hmem : p.kids.getD c 0 ∈ p.kids := by simp [List.getD, hlt]
      have hnext : Hid (altR (MatR ps fold t) (p.kids.take (c + 1)) = eithR (altR (MatR ps fold t) (p.kids.take c)) (MatR ps fold t (p.kids.getD c 0))) := by
        show _ = _
        rw [take_next hlt, altR_snoc]
      generalize p.kids.getD c 0 = kk at *
      have ihc : Hid (TabCall _ _ _ _ _) := ihH.out kk hmem _ (hmH.out.kept hkw)
      obtain ⟨y, hy⟩ : ∃ y, ptrTo adrs kk = .pointer (some ⟨y, 0, none⟩) := ⟨_, rfl⟩
      rw [hy] at hcj ihc
      clear hy hcells hmem
      go_wp2_with fail
      refine Calls.mono ihc.out ?_
      rintro e w2 ⟨v2, rfl, t2, k2⟩
      have hth := either_of t.size (by omega) w2 (ht1.kept (S := []) k2) t2
      unfold TabCall at hth
      have k2 := hkw.trans k2
      clear ihc t2 ht1
      go_wp2_with fail
      refine hth.mono ?_
      rintro e w3 ⟨v3, rfl, t3, k3⟩
      have t3 : Hid (TabOf _ _ _ _ _) := t3.mono k2.size
      have k3 : Hid (Kept _ _ _) := k2.trans k3
      clear hth k2 hkw c3 hcj
      go_wp2
      refine ⟨⟨c + 1, by omega, by go_num, by rw [hnext.out]; exact t3.out, k3.out⟩, by simp [intOf]; omega⟩
    · have hc2 : c = p.kids.length := by omega
      subst hc2
      rw [List.take_of_length_le (Nat.le_refl _)] at ht1
      have t3 : Hid (TabOf _ _ _ _ _) := ht1
      have k3 : Hid (Kept _ _ _) := hkw
      clear ht1 hkw hcells
      go_wp2
      go_ret
      exact ⟨_, rfl, t3.out, k3.out⟩

set_option maxHeartbeats 4000000 in
set_option maxRecDepth 100000 in
theorem matched_times (ps : List PN) (adrs : List Nat) (F : Nat → Prop) (fold : Bool) (t : ByteArray) (ht : t.size ≤ 1000) (i : Nat) (p : PN) (hp : ps[i]? = some p) (hk : p.kind = 6) (kk : Nat) (hkk : p.kids = [kk])
    (h0 : 0 ≤ p.least) (h9 : p.least ≤ 9) (m0 : -1 ≤ p.most) (m9 : p.most ≤ 9) (ih : MatchC ps adrs F fold t kk) : MatchC ps adrs F fold t i := by
  intro w hm
  obtain ⟨le, hle⟩ : ∃ le : Nat, p.least = (le : Int) := ⟨p.least.toNat, by omega⟩
  have hR : MatR ps fold t i = TimesR (MatR ps fold t kk) (t.size + 1) le p.most := by
    rw [MatR_eq hm.wf hp]; unfold bodyR; rw [if_neg (by omega), if_neg (by omega), if_neg (by omega), if_neg (by omega), if_neg (by omega)]
    unfold timesB; rw [hkk, hle]; rfl
  rw [hR]
  clear hR
  obtain ⟨_, iv, kv, po⟩ := hm.part i p hp
  have hold := hm.old
  have ihH : Hid (TabCall _ _ _ _ _) := ih w hm
  clear ih hm hp
  obtain ⟨a, ha⟩ : ∃ a, a = adrs.getD i 0 := ⟨_, rfl⟩
  rw [← ha] at po
  have e : ptrTo adrs i = .pointer (some ⟨a, 0, none⟩) := by rw [ha]; rfl
  rw [e]
  clear e ha
  have c0 : w.cell? ⟨a, 0, none⟩ = some (.int .i64 6) := by rw [← hk]; exact po.blk.cell 0
  have c3 : w.cell? ⟨a, 3, none⟩ = some (.slice kv.1 kv.2.1 kv.2.2) := po.blk.cell 3
  obtain ⟨hlen, hcell⟩ := po.kid
  rw [hkk] at hlen hcell
  obtain ⟨g, hg, hcj0, hck⟩ := hcell 0 (by simp)
  have hcj : w.cell? ⟨g, 0, none⟩ = some (ptrTo adrs kk) := hcj0
  clear hcj0
  have hblk : Hid (∀ w', Kept [] w w' → w'.cell? ⟨a, 4, none⟩ = some (.int .i64 (le : Int)) ∧ w'.cell? ⟨a, 5, none⟩ = some (.int .i64 p.most)) := fun w' k => by
    have po' := po.frame (w' := w') (fun j hj => k.block j (hold j hj) (by simp))
    have e4 := po'.blk.cell 4
    have e5 := po'.blk.cell 5
    refine ⟨?_, e5⟩
    rw [← hle]; exact e4
  clear po hold hcell
  obtain ⟨ko, kl, kc⟩ := kv
  simp only [] at hlen hg hck c3
  subst hg
  have hlen1 : kl = 1 := hlen
  clear hlen
  subst hlen1
  obtain ⟨y, hy⟩ : ∃ y, ptrTo adrs kk = .pointer (some ⟨y, 0, none⟩) := ⟨_, rfl⟩
  rw [hy] at hcj ihH
  have hml : le ≤ 9 := by omega
  clear hy hk hkk hle h0 h9 hck
  generalize p.most = mo at *
  unfold TabCall
  go_enter Try.func69, Try.ntmps69
  go_wp2_with fail
  refine Calls.mono ihH.out ?_
  rintro e w1 ⟨v, rfl, t1, k1⟩
  obtain ⟨c4, c5⟩ := hblk.out _ k1
  have hth := times_of t.size (by omega) w1.drew v _ _ (t1.kept (S := []) ((Kept.refl [] w1).drew)) le mo (by omega) ⟨m0, by omega⟩
  unfold TabCall at hth
  have hthH : Hid (Calls _ _ _ _ _) := hth
  have hk1 : Hid (Kept _ _ _) := k1
  clear ihH c0 c3 hcj hblk hth t1 k1
  go_wp2_with fail
  go_region_law (go_simp; go_at_call 101; refine hthH.out.mono ?_; rintro _ w2 ⟨v2, rfl, t2, k2⟩)
  all_goals
    have t3 : Hid (TabOf _ _ _ _ _) := t2.mono hk1.out.size
    have k3 : Hid (Kept _ _ _) := hk1.out.drew.trans k2
    clear t2 k2
    go_wp2
    go_ret
    exact ⟨_, rfl, t3.out, k3.out⟩

/-- A part in order: its table. -/
theorem matched_any (ps : List PN) (adrs : List Nat) (F : Nat → Prop) (fold : Bool) (t : ByteArray) (ht : t.size ≤ 1000) {i : Nat} (h : GoodT ps i) : MatchC ps adrs F fold t i := by
  induction h with
  | @leaf i p hp hk =>
    intro w hm
    obtain ⟨_, iv, kv, po⟩ := hm.part i p hp
    have hR := MatR_eq (fold := fold) (t := t) hm.wf hp
    unfold bodyR at hR
    rcases hk with hk | hk | hk
    · rw [if_pos hk] at hR
      rw [hR]
      exact matched_one w F adrs p _ iv kv po hm.old hk fold t ht
    · rw [if_neg (by omega), if_pos hk] at hR
      rw [hR]
      exact matched_begin w F adrs p _ iv kv po hk fold t ht
    · rw [if_neg (by omega), if_neg (by omega), if_pos hk] at hR
      rw [hR]
      exact matched_end w F adrs p _ iv kv po hk fold t ht
  | @many i p hp hk _ ih =>
    rcases hk with hk | hk
    · exact matched_row ps adrs F fold t ht i p hp hk ih
    · exact matched_choice ps adrs F fold t ht i p hp hk ih
  | @times i k p hp hk hkk _ h0 h9 m0 m9 ih => exact matched_times ps adrs F fold t ht i p hp hk k hkk h0 h9 m0 m9 ih

end Go.Proofs.Ytpnjeefgpaiidaa

set_option linter.unusedVariables false
set_option linter.unusedSimpArgs false
namespace Go.Proofs.Ytpnjeefgpaiidaa
open Go.RowKit Go.IntWalk

theorem takes_tie {n : AN} {x : PN} (hneg : n.neg = x.neg) (h : ∀ c : Nat, c < 256 → holdsP n.its (c : Int) = x.ins c) (fold : Bool) (c : Nat) (hc : c < 256) : takesP n fold c = inB x fold c := by
  unfold takesP inB otherC
  rw [h c hc, hneg]
  by_cases h1 : 65 ≤ c ∧ c ≤ 90
  · rw [if_pos h1, h (c + 32) (by omega)]
    simp [h1.1, h1.2, show ¬ 97 ≤ c by omega]
  · rw [if_neg h1]
    have a1 : (decide (65 ≤ c) && decide (c ≤ 90)) = false := by rw [← Bool.decide_and]; exact decide_eq_false h1
    rw [a1]
    by_cases h2 : 97 ≤ c ∧ c ≤ 122
    · rw [if_pos h2, h (c - 32) (by omega)]
      simp [h2.1, h2.2]
    · rw [if_neg h2, h c hc]
      have a2 : (decide (97 ≤ c) && decide (c ≤ 122)) = false := by rw [← Bool.decide_and]; exact decide_eq_false h2
      rw [a2]
      cases x.ins c <;> cases fold <;> rfl
theorem leaf_tie {n : AN} {x : PN} (hk : n.kind = 1) (hk2 : x.kind = 1) (hneg : n.neg = x.neg) (h : ∀ c : Nat, c < 256 → holdsP n.its (c : Int) = x.ins c) : LeafTie n x :=
  Or.inl ⟨hk, hk2, takes_tie hneg h⟩
theorem holds_one (c : Int) (i : Nat) : holdsP [(c, c)] (i : Int) = one c i := by
  simp only [holdsP, one, List.any_cons, List.any_nil, Bool.or_false]
  rw [← Bool.decide_and]
  exact decide_eq_decide.2 (by omega)
theorem dot_tie (n : AN) (x : PN) (hk : n.kind = 1) (hk2 : x.kind = 1) (h1 : n.its = [(0, 255)]) (h2 : n.neg = false) (h3 : x.ins = fun _ => false) (h4 : x.neg = true) : LeafTie n x := by
  refine Or.inl ⟨hk, hk2, fun fold c hc => ?_⟩
  unfold takesP inB
  rw [h1, h2, h3, h4]
  have : holdsP [(0, 255)] (c : Int) = true := by
    simp only [holdsP, List.any_cons, List.any_nil, Bool.or_false]
    rw [← Bool.decide_and]
    exact decide_eq_true (by omega)
  rw [this]
  cases fold <;> simp

theorem item_pair {t : ByteArray} {p : Nat} {f : Nat → Bool} (hp : p < t.size) (h93 : pk t p ≠ 93) (hb : (itemR t (p, false) f).1.2 = false) :
    (itemS t (p, false)).1 = ((memR t (p, false)).1, (toR t (p, false)).1) := by
  have hno : (toR t (p, false)).2.2 = true → False := fun h => by
    unfold itemR at hb
    simp only [] at hb
    split at hb
    · cases hb
    · rw [h] at hb; cases hb
  rcases sync_mem hp h93 with ⟨h1, h2, h3⟩ | ⟨h1, h2, h4⟩
  · obtain ⟨c, s1, hm⟩ : ∃ c s1, memS t (p, false) = (c, s1) := ⟨_, _, rfl⟩
    rw [hm] at h1 h2 h3
    obtain ⟨p1, b1⟩ := s1
    simp only [] at h2 h3
    subst h2
    by_cases hs : secS t (p1, false) = true
    · have hs2 := hs
      simp only [secS, Bool.and_eq_true, beq_iff_eq, bne_iff_ne] at hs2
      obtain ⟨⟨_, g1⟩, g2⟩ := hs2
      have hp1 : p1 + 1 < t.size := by rw [Ne, pk_none] at g1; omega
      have eH : highS t (p, false) = memS t (p1 + 1, false) := by unfold highS; rw [hm]; exact if_pos hs
      have eT : toR t (p, false) = memR t (p1 + 1, false) := by
        unfold toR; rw [← h1]; simp only []; rw [if_pos hs, tk_lt (s := (p1, false)) (by omega)]
      rcases sync_mem hp1 g2 with ⟨k1, k2, k3⟩ | ⟨k1, k2, k4⟩
      · unfold itemS
        rw [eH, eT, hm, ← h1, ← k1]
      · exact (hno (by rw [eT, k2])).elim
    · have eH : highS t (p, false) = memS t (p, false) := by unfold highS; rw [hm]; exact if_neg hs
      have eT : toR t (p, false) = memR t (p, false) := by unfold toR; rw [← h1]; simp only []; rw [if_neg hs]
      unfold itemS
      rw [eH, eT, hm, ← h1]
  · exact (hno (toR_bad (by rw [h2]))).elim

theorem holds_push (acc : List (Int × Int)) (lo hi : Int) (f : Nat → Bool) (h : ∀ c : Nat, c < 256 → holdsP acc (c : Int) = f c) : ∀ c : Nat, c < 256 → holdsP (acc ++ [(lo, hi)]) (c : Int) = fillB f lo hi c := fun c hc => by
  have := h c hc
  unfold holdsP at this ⊢
  rw [List.any_append, this]
  simp only [fillB, List.any_cons, List.any_nil, Bool.or_false]
  rw [← Bool.decide_and]

theorem items_tie {t : ByteArray} : ∀ (n p : Nat) (acc : List (Int × Int)) (f : Nat → Bool), t.size - p ≤ n → p ≤ t.size → (∀ c : Nat, c < 256 → holdsP acc (c : Int) = f c) → (itemsR t (p, false) f).1.2 = false →
    ∀ c : Nat, c < 256 → holdsP (itemsS t (p, false) acc).1 (c : Int) = (itemsR t (p, false) f).2 c
  | n, p, acc, f, hn, hf, hacc, hb => by
    by_cases hq : itemQ t (p, false) = true
    · obtain ⟨hp, h93⟩ := itemQ_iff.1 hq
      have hgt := item_gt (t := t) (s := (p, false)) hp
      have hbad : (itemR t (p, false) f).1.2 = true → False := fun h2 => by
        have : (itemsR t (p, false) f).1.2 = true := by
          cases hc : (takeS t 93 (itemR t (p, false) f).1).1 with
          | true => rw [itemsR_end rfl hc]; exact take_bad h2
          | false => rw [itemsR_on (s := (p, false)) hf rfl hc, itemsR_bad (take_bad h2)]; exact take_bad h2
        rw [this] at hb; cases hb
      rcases sync_item (f := f) hp h93 with ⟨h1, h2⟩ | ⟨h1, h2⟩
      · exact (hbad h2).elim
      · have hib : (itemR t (p, false) f).1.2 = false := by
          cases h : (itemR t (p, false) f).1.2 with
          | false => rfl
          | true => exact (hbad h).elim
        have hpair := item_pair hp h93 hib
        have e2 : (itemR t (p, false) f).2 = fillB f (memR t (p, false)).1 (toR t (p, false)).1 := rfl
        have hacc2 := holds_push acc (memR t (p, false)).1 (toR t (p, false)).1 f hacc
        rw [itemsS_on hq, hpair]
        rw [← e2] at hacc2
        obtain ⟨⟨p1, b1⟩, hs1⟩ : ∃ s1, (itemS t (p, false)).2 = s1 := ⟨_, rfl⟩
        rw [hs1] at h1 h2 hgt ⊢
        simp only [] at h2 hgt
        subst h2
        have hf1 := fits_item (t := t) (s := (p, false)) hf
        rw [hs1] at hf1
        simp only [Fits] at hf1
        by_cases h931 : pk t p1 = 93
        · have hc : takeS t 93 (itemR t (p, false) f).1 = (true, (p1 + 1, false)) := by rw [← h1]; exact take_hit (s := (p1, false)) h931
          rw [itemsR_end rfl (by rw [hc]), itemsS_off (by cases h : itemQ t (p1, false) with | false => rfl | true => exact absurd h931 (itemQ_iff.1 h).2)]
          exact hacc2
        · have hc : takeS t 93 (itemR t (p, false) f).1 = (false, (p1, false)) := by rw [← h1]; exact take_miss (s := (p1, false)) h931
          have e3 := itemsR_on (s := (p, false)) (f := f) hf rfl (by rw [hc])
          rw [e3, hc] at hb ⊢
          match n, hn with
          | 0, hn => omega
          | n + 1, hn => exact items_tie n p1 _ _ (by omega) hf1 hacc2 hb
    · have hno : ¬ p < t.size ∨ pk t p = 93 := by
        by_cases hp : p < t.size
        · right
          by_cases h93 : pk t p = 93
          · exact h93
          · exact absurd (itemQ_iff.2 ⟨hp, h93⟩) hq
        · exact Or.inl hp
      have := itemsR_noMem (f := f) hf hno
      rw [this] at hb; cases hb

theorem rep_order {t : ByteArray} {p : Nat} (hr : repS t (p, false) = true) (h : (repeatS t (p, false)).2.2 = false) : (repeatS t (p, false)).1.2 = -1 ∨ (repeatS t (p, false)).1.1 ≤ (repeatS t (p, false)).1.2 := by
  have e1 : ∃ c s, nextS t (p, false) = (c, s) := ⟨_, _, rfl⟩
  obtain ⟨c, s, e1⟩ := e1
  unfold repeatS at h ⊢
  rw [e1] at h ⊢
  simp only [] at h ⊢
  by_cases h1 : c = 42
  · rw [if_pos h1]; exact Or.inl rfl
  rw [if_neg h1] at h ⊢
  by_cases h2 : c = 43
  · rw [if_pos h2]; exact Or.inl rfl
  rw [if_neg h2] at h ⊢
  by_cases h3 : c = 63
  · rw [if_pos h3]; exact Or.inr (show (0 : Int) ≤ 1 by decide)
  rw [if_neg h3] at h ⊢
  unfold bracesS at h ⊢
  by_cases hc : (takeS t 125 (mostS t s).2).1 = false ∨ ((mostS t s).1 ≠ -1 ∧ (mostS t s).1 < (digS t s).1)
  · rw [if_pos hc] at h; cases h
  · rw [if_neg hc]
    simp only []
    omega

end Go.Proofs.Ytpnjeefgpaiidaa

set_option linter.unusedVariables false
set_option linter.unusedSimpArgs false
namespace Go.Proofs.Ytpnjeefgpaiidaa
open Go.RowKit Go.IntWalk

def Sz (ns : List AN) (i : Nat) (ps : List PN) (j d : Nat) : Prop := i < ns.length ∧ j < ps.length ∧ sizeAt ns i = cap61 (T ps j) ∧ Bd (T ps j) d ∧ Same ns i ps j

structure PO (t : ByteArray) (p : Nat) (ns : List AN) (ps : List PN) (r : Nat × PS) (q : Nat × RP) : Prop where
  sync : Sync t r.2.1 q.2.1
  en : ∃ more, r.2.2 = ns ++ more
  ep : ∃ more, q.2.2 = ps ++ more
  wf : WfP q.2.2
  ge : p ≤ q.2.1.1
  fit : q.2.1.1 ≤ t.size
  jdx : q.1 < q.2.2.length
  sz : q.2.1.2 = false → Sz r.2.2 r.1 q.2.2 q.1 (q.2.1.1 - p)

theorem leaf_po {t : ByteArray} {p : Nat} {ns : List AN} {ps : List PN} {n : AN} {x : PN} {a b : RS} (hw : WfP ps) (hs : Sync t a b) (hn : n.size = 1) (hk : x.kids = []) (hx : sizeK x 0 = 1) (h1 : p ≤ b.1) (h2 : b.1 ≤ t.size) (hx2 : b.2 = false → LeafTie n x) :
    PO t p ns ps (addS n (a, ns)) (pushP x (b, ps)) := by
  have hkk : ∀ k, k ∈ x.kids → k < ps.length := fun k hk' => by rw [hk] at hk'; cases hk'
  refine ⟨hs, ⟨_, rfl⟩, ⟨_, rfl⟩, hw.push hkk, h1, h2, by simp [pushP], fun hb2 => ⟨by simp [addS], by simp [pushP], ?_, ?_, Same.leaf (hx2 hb2)⟩⟩
  · show sizeAt (ns ++ [capN n]) ns.length = cap61 (T (ps ++ [x]) ps.length)
    rw [sizeAt_new, T_new hw hkk, hk, hn]
    show _ = cap61 (sizeK x 0)
    rw [hx]
  · show Bd (T (ps ++ [x]) ps.length) _
    rw [T_new hw hkk, hk]
    show Bd (sizeK x 0) _
    rw [hx]
    exact Bd.one _

theorem sync_good {t : ByteArray} {a b : RS} (h : Sync t a b) (hb : b.2 = false) : a = b := by
  rcases h with ⟨_, h⟩ | ⟨h, _⟩
  · rw [hb] at h; cases h
  · exact h
theorem sync_bad {t : ByteArray} {a b : RS} (h : Sync t a b) (hb : b.2 = true) : a = (t.size, true) := by
  rcases h with ⟨h, _⟩ | ⟨h, h2⟩
  · exact h
  · rw [h, hb] at h2; cases h2
theorem Sync.fail {t : ByteArray} {b : RS} (hb : b.2 = true) : Sync t (failS t) b := Or.inl ⟨rfl, hb⟩

theorem take_le {t : ByteArray} {c : Int} {s : RS} (hc : 0 ≤ c) (h : s.1 ≤ t.size) : (takeS t c s).2.1 ≤ t.size := fits_take (s := s) hc h

theorem close_po {t : ByteArray} {p : Nat} {ns : List AN} {ps : List PN} {r : Nat × PS} {q : Nat × RP} (h : PO t (p + 1) ns ps r q) (hp : p < t.size) :
    PO t p ns ps (closeS t r) (closeR t q) ∧ ((closeR t q).2.1.2 = false → p < (closeR t q).2.1.1) := by
  have hge := h.ge
  have hg2 := take_ge (t := t) (c := 41) (s := q.2.1)
  have hl2 := take_le (c := 41) (by omega) h.fit
  have hpos : (closeR t q).2.1.1 = (takeS t 41 q.2.1).2.1 := by unfold closeR; simp only []; split <;> rfl
  cases hb : q.2.1.2 with
  | true =>
    have e1 := sync_bad h.sync hb
    have hbad : (closeR t q).2.1.2 = true := by unfold closeR; simp only []; split; exact take_bad hb; rfl
    refine ⟨⟨Or.inl ⟨?_, hbad⟩, h.en, h.ep, h.wf, by rw [hpos]; omega, by rw [hpos]; exact hl2, h.jdx, fun hc => by rw [hbad] at hc; cases hc⟩, fun hc => by rw [hbad] at hc; cases hc⟩
    unfold closeS
    simp only []
    rw [e1, take_miss (s := (t.size, true)) (by rw [pk_ge (by omega)]; decide)]
    rfl
  | false =>
    have e1 := sync_good h.sync hb
    have hsz := h.sz hb
    by_cases hc : pk t q.2.1.1 = 41
    · have et := take_hit (t := t) (s := q.2.1) hc
      have eS : closeS t r = (r.1, ((q.2.1.1 + 1, q.2.1.2), r.2.2)) := by unfold closeS; rw [e1, et]; rfl
      have eR : closeR t q = (q.1, ((q.2.1.1 + 1, q.2.1.2), q.2.2)) := by unfold closeR; rw [et]; rfl
      rw [et] at hl2
      rw [eS, eR]
      refine ⟨⟨Or.inr ⟨rfl, hb⟩, h.en, h.ep, h.wf, by simp only []; omega, hl2, h.jdx, fun _ => ⟨hsz.1, hsz.2.1, hsz.2.2.1, ?_, hsz.2.2.2.2⟩⟩, fun _ => by simp only []; omega⟩
      have := hsz.2.2.2.1.more (c := 2)
      simp only []
      rwa [show q.2.1.1 - (p + 1) + 2 = q.2.1.1 + 1 - p by omega] at this
    · have et := take_miss (t := t) (s := q.2.1) hc
      have eS : closeS t r = (r.1, (failS t, r.2.2)) := by unfold closeS; rw [e1, et]; rfl
      have eR : closeR t q = (q.1, (markS q.2.1, q.2.2)) := by unfold closeR; rw [et]; rfl
      rw [eS, eR]
      exact ⟨⟨Sync.fail rfl, h.en, h.ep, h.wf, by simp only [markS]; omega, h.fit, h.jdx, fun hc => by cases hc⟩, fun hc => by cases hc⟩

/-- The claim for patterns, where fewer than m bytes are left. -/
def PatS (t : ByteArray) (m : Nat) : Prop :=
  ∀ (p : Nat) (ns : List AN) (ps : List PN), WfP ps → p ≤ t.size → t.size - p < m → ∃ r q, Ev t 0 0 ((p, false), ns) r ∧ EvR t 0 [] ((p, false), ps) q ∧ PO t p ns ps r q

theorem st4 {t : ByteArray} {s : RS} : stB t s [42, 43, 63, 123] = repS t s := by
  simp only [stB, repS, List.any_cons, List.any_nil, Bool.or_false, Bool.or_assoc]
  rfl
theorem kindOne {x : PN} (h : x.kind = 1 ∨ x.kind = 2 ∨ x.kind = 3) (n : Int) : sizeK x n = 1 := if_pos h

theorem atom_sync {t : ByteArray} {m p : Nat} {ns : List AN} {ps : List PN} (H : PatS t m) (hw : WfP ps) (hp : p < t.size) (h124 : pk t p ≠ 124) (h41 : pk t p ≠ 41) (hm : t.size - p ≤ m) :
    ∃ r q, Ev t 3 0 ((p, false), ns) r ∧ EvR t 3 [] ((p, false), ps) q ∧ PO t p ns ps r q ∧ (q.2.1.2 = false → p < q.2.1.1) := by
  have eN := next_lt (s := (p, false)) hp
  by_cases hr : repS t (p, false) = true
  · have hr2 := hr
    simp only [repS, Bool.or_eq_true, beq_iff_eq] at hr2
    have eO : openR t (p, false) = (p, true) := by unfold openR; rw [st4]; exact if_pos hr
    have eT : tkS t (openR t (p, false)) = (pk t p, (p + 1, true)) := by rw [eO]; exact tk_lt (s := (p, true)) hp
    have e1 := Ev.plain (t := t) (st := ((p, false), ns)) (by rw [eN]; simp only []; omega) (by rw [eN]; simp only []; omega)
    have e2 := EvR.plain (t := t) (st := ((p, false), ps)) (by rw [eT]; simp only []; omega)
    rw [eN] at e1
    rw [eT] at e2
    have p1 : plainS t (pk t p) ((p + 1, false), ns) = addS { kind := 1, its := [(pk t p, pk t p)], size := 1 } (failS t, ns) := by
      unfold plainS
      rw [if_neg (by omega), if_neg (by omega), if_neg (by omega), if_neg (by omega), if_pos (by omega)]
      rfl
    have p2 : plainR t (pk t p) ((p + 1, true), ps) = pushP { kind := 1, ins := one (pk t p) } ((p + 1, true), ps) := by
      unfold plainR
      rw [if_neg (by omega), if_neg (by omega), if_neg (by omega), if_neg (by omega), if_neg (by omega)]
    simp only [] at e1 e2
    rw [p1] at e1
    rw [p2] at e2
    exact ⟨_, _, e1, e2, leaf_po hw (Sync.fail rfl) rfl rfl (kindOne (Or.inl rfl) 0) (by simp only []; omega) hp (fun h => by cases h), fun hc => by cases hc⟩
  have eO : openR t (p, false) = (p, false) := by unfold openR; rw [st4]; exact if_neg hr
  have eT : tkS t (openR t (p, false)) = (pk t p, (p + 1, false)) := by rw [eO]; exact tk_lt (s := (p, false)) hp
  have hr3 : pk t p ≠ 42 ∧ pk t p ≠ 43 ∧ pk t p ≠ 63 ∧ pk t p ≠ 123 := by
    simp only [repS, Bool.or_eq_true, beq_iff_eq] at hr; omega
  by_cases c40 : pk t p = 40
  · obtain ⟨r, q, hr1, hq1, po⟩ := H (p + 1) ns ps hw hp (by omega)
    have e1 := Ev.group (t := t) (st := ((p, false), ns)) (r1 := r) (by rw [eN]; exact c40) (by rw [eN]; exact hr1)
    have e2 := EvR.group (t := t) (st := ((p, false), ps)) (r1 := q) (by rw [eT]; exact c40) (by rw [eT]; exact hq1)
    obtain ⟨h1, h2⟩ := close_po po hp
    exact ⟨_, _, e1, e2, h1, h2⟩
  have e2 := EvR.plain (t := t) (st := ((p, false), ps)) (by rw [eT]; exact c40)
  rw [eT] at e2
  simp only [] at e2
  by_cases c91 : pk t p = 91
  · have e1 := Ev.list (t := t) (st := ((p, false), ns)) (by rw [eN]; exact c91)
    rw [eN] at e1
    simp only [] at e1
    have p1 : listS t ((p + 1, false), ns) = addS { kind := 1, its := (itemsS t (takeS t 94 (p + 1, false)).2 []).1, neg := (takeS t 94 (p + 1, false)).1, size := 1 } (listOut t (itemsS t (takeS t 94 (p + 1, false)).2 []), ns) := rfl
    have p2 : plainR t (pk t p) ((p + 1, false), ps) = pushP { kind := 1, ins := (itemsR t (takeS t 94 (p + 1, false)).2 (fun _ => false)).2, neg := (takeS t 94 (p + 1, false)).1 } ((itemsR t (takeS t 94 (p + 1, false)).2 (fun _ => false)).1, ps) := by unfold plainR; rw [if_pos c91]
    rw [p1] at e1
    rw [p2] at e2
    have htk : ∃ p1, (takeS t 94 (p + 1, false)).2 = (p1, false) ∧ p + 1 ≤ p1 ∧ p1 ≤ t.size := by
      by_cases hc : pk t (p + 1) = 94
      · refine ⟨p + 2, by rw [take_hit (s := (p + 1, false)) hc], by omega, pk_some (by omega)⟩
      · exact ⟨p + 1, by rw [take_miss (s := (p + 1, false)) hc], Nat.le_refl _, hp⟩
    obtain ⟨p1', hp1, hp2, hp3⟩ := htk
    have hs := sync_items (t := t) (t.size - p1') p1' [] (fun _ => false) (Nat.le_refl _) hp3 (Or.inl rfl)
    rw [hp1] at e1 e2
    have hge := itemsR_ge (t := t) (s := (p1', false)) (f := fun _ => false)
    have hfit : (itemsR t (p1', false) (fun _ => false)).1.1 ≤ t.size := by
      have : ∀ (n : Nat) (s : RS) (f : Nat → Bool), Fits t s → Fits t (itemsG t n s f).1 := by
        intro n
        induction n with
        | zero => intro s f h; exact h
        | succ n ih =>
          intro s f h
          rw [itemsG]
          split
          · exact h
          · split
            · exact fits_take (by omega) (fits_itemR h)
            · exact ih _ _ (fits_take (by omega) (fits_itemR h))
      exact this _ _ _ hp3
    exact ⟨_, _, e1, e2, leaf_po hw hs rfl rfl (kindOne (Or.inl rfl) 0) (by simp only [] at hge; omega) hfit (fun hb => leaf_tie rfl rfl rfl (items_tie (t.size - p1') p1' [] (fun _ => false) (Nat.le_refl _) hp3 (fun c hc => rfl) hb)), fun _ => by simp only [pushP]; simp only [] at hge; omega⟩
  have e1 := Ev.plain (t := t) (st := ((p, false), ns)) (by rw [eN]; exact c40) (by rw [eN]; exact c91)
  rw [eN] at e1
  simp only [] at e1
  have good : Sync t (p + 1, false) (p + 1, false) := Or.inr ⟨rfl, rfl⟩
  by_cases c46 : pk t p = 46
  · have p1 : plainS t (pk t p) ((p + 1, false), ns) = addS { kind := 1, its := [(0, 255)], size := 1 } ((p + 1, false), ns) := by unfold plainS; rw [if_pos c46]; rfl
    have p2 : plainR t (pk t p) ((p + 1, false), ps) = pushP { kind := 1, neg := true } ((p + 1, false), ps) := by unfold plainR; rw [if_neg (by omega), if_neg (by omega), if_neg (by omega), if_pos c46]
    rw [p1] at e1
    rw [p2] at e2
    exact ⟨_, _, e1, e2, leaf_po hw good rfl rfl (kindOne (Or.inl rfl) 0) (by simp only []; omega) hp (fun _ => dot_tie _ _ rfl rfl rfl rfl rfl rfl), fun _ => by simp only [pushP]; omega⟩
  by_cases c94 : pk t p = 94
  · have p1 : plainS t (pk t p) ((p + 1, false), ns) = addS { kind := 2, size := 1 } ((p + 1, false), ns) := by unfold plainS; rw [if_neg c46, if_pos c94]
    have p2 : plainR t (pk t p) ((p + 1, false), ps) = pushP { kind := 2, ins := one 94 } ((p + 1, false), ps) := by unfold plainR; rw [if_neg c91, if_pos c94]
    rw [p1] at e1
    rw [p2] at e2
    exact ⟨_, _, e1, e2, leaf_po hw good rfl rfl (kindOne (Or.inr (Or.inl rfl)) 0) (by simp only []; omega) hp (fun _ => Or.inr (Or.inl ⟨rfl, rfl⟩)), fun _ => by simp only [pushP]; omega⟩
  by_cases c36 : pk t p = 36
  · have p1 : plainS t (pk t p) ((p + 1, false), ns) = addS { kind := 3, size := 1 } ((p + 1, false), ns) := by unfold plainS; rw [if_neg c46, if_neg c94, if_pos c36]
    have p2 : plainR t (pk t p) ((p + 1, false), ps) = pushP { kind := 3, ins := one 36 } ((p + 1, false), ps) := by unfold plainR; rw [if_neg c91, if_neg c94, if_pos c36]
    rw [p1] at e1
    rw [p2] at e2
    exact ⟨_, _, e1, e2, leaf_po hw good rfl rfl (kindOne (Or.inr (Or.inr rfl)) 0) (by simp only []; omega) hp (fun _ => Or.inr (Or.inr (Or.inl ⟨rfl, rfl⟩))), fun _ => by simp only [pushP]; omega⟩
  by_cases c92 : pk t p = 92
  · have p1 : plainS t (pk t p) ((p + 1, false), ns) = addS { kind := 1, its := [((nextS t (p + 1, false)).1, (nextS t (p + 1, false)).1)], size := 1 } ((nextS t (p + 1, false)).2, ns) := by
      unfold plainS; rw [if_neg c46, if_neg c94, if_neg c36, if_pos c92]; rfl
    have p2 : plainR t (pk t p) ((p + 1, false), ps) = pushP { kind := 1, ins := one (tkS t (p + 1, false)).1 } ((tkS t (p + 1, false)).2, ps) := by
      unfold plainR; rw [if_neg c91, if_neg c94, if_neg c36, if_neg c46, if_pos c92]
    rw [p1] at e1
    rw [p2] at e2
    have hs : Sync t (nextS t (p + 1, false)).2 (tkS t (p + 1, false)).2 := by
      by_cases hp2 : p + 1 < t.size
      · rw [next_lt (s := (p + 1, false)) hp2, tk_lt (s := (p + 1, false)) hp2]; exact Or.inr ⟨rfl, rfl⟩
      · rw [next_end (s := (p + 1, false)) hp2, tk_end (s := (p + 1, false)) hp2]; exact Sync.fail rfl
    have hsame : (tkS t (p + 1, false)).2.2 = false → (nextS t (p + 1, false)).1 = (tkS t (p + 1, false)).1 := fun hb => by
      by_cases hp2 : p + 1 < t.size
      · rw [next_lt (s := (p + 1, false)) hp2, tk_lt (s := (p + 1, false)) hp2]
      · rw [tk_end (s := (p + 1, false)) hp2] at hb; cases hb
    have hge := tk_ge (t := t) (s := (p + 1, false))
    have hft : (tkS t (p + 1, false)).2.1 ≤ t.size := fits_tk (s := (p + 1, false)) hp
    simp only [] at hge
    exact ⟨_, _, e1, e2, leaf_po hw hs rfl rfl (kindOne (Or.inl rfl) 0) (by omega) hft (fun hb => leaf_tie rfl rfl rfl (fun c hc => by rw [← hsame hb]; exact holds_one _ c)), fun _ => by simp only [pushP]; omega⟩
  · have p1 : plainS t (pk t p) ((p + 1, false), ns) = addS { kind := 1, its := [(pk t p, pk t p)], size := 1 } ((p + 1, false), ns) := by
      unfold plainS; rw [if_neg c46, if_neg c94, if_neg c36, if_neg c92, if_neg (by omega)]; rfl
    have p2 : plainR t (pk t p) ((p + 1, false), ps) = pushP { kind := 1, ins := one (pk t p) } ((p + 1, false), ps) := by
      unfold plainR; rw [if_neg c91, if_neg c94, if_neg c36, if_neg c46, if_neg c92]
    rw [p1] at e1
    rw [p2] at e2
    exact ⟨_, _, e1, e2, leaf_po hw good rfl rfl (kindOne (Or.inl rfl) 0) (by simp only []; omega) hp (fun _ => leaf_tie rfl rfl rfl (fun c hc => holds_one _ c)), fun _ => by simp only [pushP]; omega⟩

end Go.Proofs.Ytpnjeefgpaiidaa

set_option linter.unusedVariables false
set_option linter.unusedSimpArgs false
namespace Go.Proofs.Ytpnjeefgpaiidaa
open Go.RowKit Go.IntWalk

theorem repS_end {t : ByteArray} {b : Bool} : repS t (t.size, b) = false := by
  cases h : repS t (t.size, b) with
  | false => rfl
  | true => have := repS_lt h; simp at this
theorem endS_end {t : ByteArray} {b : Bool} : endS t (t.size, b) = true := by
  unfold endS; rw [pk_ge (p := t.size) (by omega)]; rfl
theorem end_more {t : ByteArray} {p : Nat} (hp : p ≤ t.size) : moreR t (p, false) = !endS t (p, false) := by
  unfold moreR endS
  simp only [stB, List.any_cons, List.any_nil, Bool.or_false]
  by_cases h : p < t.size
  · have e : (pk t p == -1) = false := by have := pk_lt h; simp; omega
    rw [e, decide_eq_true h]
    simp
  · rw [decide_eq_false h, pk_ge h]
    simp
theorem more_bad {t : ByteArray} {s : RS} (h : s.2 = true) : moreR t s = false := by unfold moreR; rw [h]; simp

theorem times_eq {x : PN} {n : Int} (hk : x.kind = 6) (hm : -1 ≤ x.most) : sizeK x n = if 1 < timesS x.least x.most then wrap64 (n * timesS x.least x.most) else n := by
  have e : sizeK x n = if 1 < x.most then wrap64 (n * x.most) else if x.most < 0 ∧ 1 < x.least then wrap64 (n * x.least) else n := by
    unfold sizeK; rw [if_neg (by omega), if_neg (by omega), if_pos hk]
  rw [e]
  by_cases h1 : x.most = -1
  · have ht : timesS x.least x.most = if x.least < 1 then 1 else x.least := by unfold timesS; rw [if_pos h1]
    rw [if_neg (by omega)]
    by_cases h2 : 1 < x.least
    · rw [if_neg (by omega)] at ht
      rw [if_pos ⟨by omega, h2⟩, ht, if_pos h2]
    · rw [if_neg (by omega), if_neg ?_]
      rw [ht]; split <;> omega
  · have ht : timesS x.least x.most = if x.most < 1 then 1 else x.most := by unfold timesS; rw [if_neg h1]
    by_cases h2 : 1 < x.most
    · rw [if_neg (by omega)] at ht
      rw [if_pos h2, ht, if_pos h2]
    · rw [if_neg h2, if_neg (by omega), if_neg ?_]
      rw [ht]; split <;> omega

theorem times_bd {a b : Int} (ha : a ≤ 9) (hb : b ≤ 9) : 1 ≤ timesS a b ∧ timesS a b ≤ 9 := by
  unfold timesS
  repeat' split
  all_goals omega

theorem braces_cost {t : ByteArray} {p : Nat} (h : (bracesS t (p, false)).2.2 = false) : p + 2 ≤ (bracesS t (p, false)).2.1 := by
  unfold bracesS at h ⊢
  by_cases hc : (takeS t 125 (mostS t (p, false)).2).1 = false ∨ ((mostS t (p, false)).1 ≠ -1 ∧ (mostS t (p, false)).1 < (digS t (p, false)).1)
  · rw [if_pos hc] at h; cases h
  · rw [if_neg hc] at h ⊢
    have hcl : (takeS t 125 (mostS t (p, false)).2).1 = true := by
      cases hx : (takeS t 125 (mostS t (p, false)).2).1 with
      | true => rfl
      | false => exact absurd (Or.inl hx) hc
    have h1 := take_gt hcl
    by_cases hd : p < t.size ∧ 48 ≤ pk t p ∧ pk t p ≤ 57
    · have eD := dig_good hd.1 hd.2.1 hd.2.2
      have hm : p + 1 ≤ (mostS t (p, false)).2.1 := by
        unfold mostS
        rw [eD]
        have h3 := take_ge (t := t) (c := 44) (s := (p + 1, false))
        have h4 := fits_take (t := t) (c := 44) (s := (p + 1, false)) (by omega) hd.1
        split
        · exact Nat.le_trans h3 (up_ge h4)
        · exact h3
      simp only []
      omega
    · have eD := dig_bad (t := t) (s := (p, false)) hd
      have eM : (mostS t (p, false)).2 = failS t := by
        unfold mostS; rw [eD]; simp only []; rw [take_fail (by omega)]; simp
      rw [eM, take_fail (by omega)] at hcl
      cases hcl
theorem rep_cost {t : ByteArray} {p : Nat} (hr : repS t (p, false) = true) (h : (repeatS t (p, false)).2.2 = false) :
    (timesS (repeatS t (p, false)).1.1 (repeatS t (p, false)).1.2 = 1 ∧ p + 1 ≤ (repeatS t (p, false)).2.1) ∨ p + 3 ≤ (repeatS t (p, false)).2.1 := by
  have hp := repS_lt hr
  have e1 := next_lt (s := (p, false)) hp
  unfold repeatS at h ⊢
  rw [e1] at h ⊢
  simp only [] at h ⊢
  by_cases h1 : pk t p = 42
  · rw [if_pos h1]; left; exact ⟨rfl, Nat.le_refl _⟩
  rw [if_neg h1] at h ⊢
  by_cases h2 : pk t p = 43
  · rw [if_pos h2]; left; exact ⟨rfl, Nat.le_refl _⟩
  rw [if_neg h2] at h ⊢
  by_cases h3 : pk t p = 63
  · rw [if_pos h3]; left; exact ⟨rfl, Nat.le_refl _⟩
  rw [if_neg h3] at h ⊢
  right
  have := braces_cost h
  omega

theorem Bd.nine {k : Int} (h1 : 1 ≤ k) (h9 : k ≤ 9) : Bd k 3 := by
  refine ⟨h1, ?_⟩
  have e2 : (2 : Int) ^ 3 = 8 := by decide
  have e5 : (5 : Int) ^ 3 = 125 := by decide
  rw [e2, e5]; omega

theorem bndR_fits {t : ByteArray} {s : RS} (h : s.1 ≤ t.size) : (bndR t s).2.1 ≤ t.size := by
  have f1 := fits_tk (t := t) (s := s) h
  have f2 := fits_take (t := t) (c := 44) (by omega) f1
  have f3 := fits_take (t := t) (c := 125) (by omega) f2
  have f4 := fits_tk f3
  have f5 := fits_take (t := t) (c := 125) (by omega) f4
  simp only [Fits] at f1 f2 f3 f4 f5
  have hm : (bndMost t s).2.2.1 ≤ t.size := by
    unfold bndMost
    simp only []
    split
    · exact f3
    · split
      · simp only []; split
        · exact f5
        · exact f5
      · exact f3
  unfold bndR
  simp only []
  split
  · exact hm
  · exact hm
theorem repR_fits {t : ByteArray} {s : RS} (h : s.1 ≤ t.size) : (repR t s).2.1 ≤ t.size := by
  have f1 := fits_tk (t := t) (s := s) h
  unfold repR
  repeat' split
  all_goals first | exact f1 | exact bndR_fits f1

/-- What may follow an atom. -/
theorem rep_sync {t : ByteArray} (hsm : t.size ≤ 40) {p : Nat} {ns : List AN} {ps : List PN} : ∀ (n : Nat) (r1 : Nat × PS) (q1 : Nat × RP), t.size - q1.2.1.1 ≤ n → PO t p ns ps r1 q1 → (q1.2.1.2 = false → p < q1.2.1.1) →
    ∃ r q, Ev t 6 r1.1 r1.2 r ∧ EvR t 4 [q1.1] q1.2 q ∧ PO t p ns ps r q ∧ (q.2.1.2 = false → p < q.2.1.1)
  | n, r1, q1, hn, h, hgt => by
    cases hb : q1.2.1.2 with
    | true =>
      have e1 := sync_bad h.sync hb
      exact ⟨r1, q1, Ev.repEnd (st := r1.2) (by rw [e1]; exact repS_end), EvR.repEnd (st := q1.2) (Or.inl hb), h, hgt⟩
    | false =>
      have e1 := sync_good h.sync hb
      have hsz := h.sz hb
      have hgt1 := hgt hb
      obtain ⟨i, ⟨sa, nsa⟩⟩ := r1
      obtain ⟨j, ⟨⟨pb, bb⟩, psb⟩⟩ := q1
      simp only [] at hb e1 hsz hgt1 hn
      subst hb e1
      cases hr : repS t (pb, false) with
      | false => exact ⟨_, _, Ev.repEnd (st := ((pb, false), nsa)) hr, EvR.repEnd (st := ((pb, false), psb)) (Or.inr (by rw [st4]; exact hr)), h, hgt⟩
      | true =>
        have hlt := repS_lt hr
        obtain ⟨more, hen⟩ := h.en
        obtain ⟨more2, hep⟩ := h.ep
        simp only [] at hen hep
        have hkk : ∀ k, k ∈ [j] → k < psb.length := fun k hk => by simp at hk; subst hk; exact hsz.2.1
        rcases sync_repeat hr with ⟨g1, g2⟩ | ⟨g1, g2⟩
        · have eA := Ev.rep (t := t) (cur := i) (st := ((pb, false), nsa)) hr (Ev.repEnd (st := (againS i (repeatS t (pb, false)).1 ((repeatS t (pb, false)).2, nsa)).2) (by show repS t (repeatS t (pb, false)).2 = false; rw [g1]; exact repS_end))
          have eB := EvR.rep (t := t) (x := j) (st := ((pb, false), psb)) rfl (by rw [st4]; exact hr) (EvR.repEnd (st := ((repR t (pb, false)).2, psb ++ [{ kind := 6, kids := [j], least := (repR t (pb, false)).1.1, most := (repR t (pb, false)).1.2 }])) (Or.inl g2))
          refine ⟨_, _, eA, eB, ⟨Or.inl ⟨g1, g2⟩, ⟨more ++ [_], by show nsa ++ [_] = _; rw [hen, List.append_assoc]⟩, ⟨more2 ++ [_], by show psb ++ [_] = _; rw [hep, List.append_assoc]⟩, WfP.push h.wf hkk, ?_, ?_, by simp [pushP], fun hc => ?_⟩, fun hc => ?_⟩
          · show p ≤ (repR t (pb, false)).2.1
            have h1 : pb ≤ (repR t (pb, false)).2.1 := by
              unfold repR
              have := tk_ge (t := t) (s := (pb, false))
              repeat' split
              all_goals first | exact this | exact Nat.le_trans this bndR_ge
            have := h.ge; simp only [] at this; omega
          · show (repR t (pb, false)).2.1 ≤ t.size
            exact repR_fits (Nat.le_of_lt hlt)
          · have hc : (repR t (pb, false)).2.2 = false := hc
            rw [g2] at hc; cases hc
          · have hc : (repR t (pb, false)).2.2 = false := hc
            rw [g2] at hc; cases hc
        · have hcost := rep_cost hr g2
          have hord := rep_order hr g2
          obtain ⟨l0, l9, m0, m9⟩ := repeat_bd t (pb, false)
          have hfit2 := fits_repeat (t := t) (s := (pb, false)) (Nat.le_of_lt hlt)
          generalize hR : repeatS t (pb, false) = R at *
          obtain ⟨⟨least, most⟩, ⟨p2, b2⟩⟩ := R
          simp only [Fits] at g2 hcost l0 l9 m0 m9 hfit2 hord
          subst g2
          obtain ⟨t1, t9⟩ := times_bd (a := least) (b := most) l9 m9
          have hTn : T (psb ++ [{ kind := 6, kids := [j], least := least, most := most }]) psb.length = T psb j * timesS least most := by
            rw [T_new h.wf hkk]
            have hs1 : sumT psb [j] = T psb j := by
              have hsmall := hsz.2.2.2.1.small (by have := h.fit; simp only [] at this; omega)
              have := hsz.2.2.2.1.1
              show wrap64 (0 + T psb j) = _
              rw [Int.zero_add]
              exact wrap64_in _ (by omega)
            rw [times_eq rfl m0, hs1]
            simp only []
            split
            · have hprod : Bd (T psb j * timesS least most) (pb - p + 3) := hsz.2.2.2.1.mul (Bd.nine t1 t9)
              have hb2 := hprod.1
              have h40 : T psb j * timesS least most ≤ 74446255130 * 1000000 := by
                have hsmall := hsz.2.2.2.1.small (by have := h.fit; simp only [] at this; omega)
                have h2 := Int.mul_le_mul hsmall t9 (by omega) (by omega)
                omega
              exact wrap64_in _ (by omega)
            · have : timesS least most = 1 := by omega
              rw [this, Int.mul_one]
          have hbd : Bd (T psb j * timesS least most) (p2 - p) := by
            rcases hcost with ⟨k1, k2⟩ | k2
            · rw [k1, Int.mul_one]
              have := hsz.2.2.2.1.more (c := p2 - pb)
              rwa [show pb - p + (p2 - pb) = p2 - p by omega] at this
            · have := (hsz.2.2.2.1.mul (Bd.nine t1 t9)).more (c := p2 - (pb + 3))
              rwa [show pb - p + 3 + (p2 - (pb + 3)) = p2 - p by omega] at this
          have po2 : PO t p ns ps (againS i (least, most) ((p2, false), nsa)) (pushP { kind := 6, kids := [j], least := least, most := most } ((p2, false), psb)) := by
            refine ⟨Or.inr ⟨rfl, rfl⟩, ⟨more ++ [_], by show nsa ++ [_] = _; rw [hen, List.append_assoc]⟩, ⟨more2 ++ [_], by show psb ++ [_] = _; rw [hep, List.append_assoc]⟩, WfP.push h.wf hkk, by show p ≤ p2; omega, hfit2, by simp [pushP], fun _ => ⟨by simp [againS, addS], by simp [pushP], ?_, ?_, Same.times hsz.2.2.2.2 rfl rfl rfl rfl rfl rfl l0 l9 m0 m9 hord⟩⟩
            · show sizeAt (nsa ++ [capN _]) nsa.length = cap61 (T (psb ++ [_]) psb.length)
              rw [sizeAt_new, hTn]
              show cap61 (sizeAt nsa i * timesS least most) = _
              rw [hsz.2.2.1, cap_mul _ _ hsz.2.2.2.1.1 t1]
            · show Bd (T (psb ++ [_]) psb.length) (p2 - p)
              rw [hTn]; exact hbd
          match n, hn with
          | 0, hn => omega
          | n + 1, hn =>
            obtain ⟨r, q, a1, a2, a3, a4⟩ := rep_sync hsm n _ _ (by show t.size - p2 ≤ n; omega) po2 (fun _ => by show p < p2; omega)
            refine ⟨r, q, Ev.rep (st := ((pb, false), nsa)) hr (by rw [hR]; exact a1), EvR.rep (st := ((pb, false), psb)) rfl (by rw [st4]; exact hr) ?_, a3, a4⟩
            rw [← g1]; exact a2

end Go.Proofs.Ytpnjeefgpaiidaa
