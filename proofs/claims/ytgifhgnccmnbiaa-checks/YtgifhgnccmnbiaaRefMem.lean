/- The document's answer: its parts in memory. -/
import Derived.Test.YtgifhgnccmnbiaaRefBounds
import Derived.Test.YtgifhgnccmnbiaaNodes
set_option linter.unusedVariables false
set_option linter.unusedSimpArgs false
namespace Go.Proofs.Ytgifhgnccmnbiaa
open Go.RowKit Go.IntWalk

theorem own_base {w : World} {base base' : Nat} {e : TypeId} {size : Nat} {v : Value} {n : Nat} {xs : List Value} (h : w.ownsRow base e size v n xs) (hb : base' ≤ base) : w.ownsRow base' e size v n xs := by
  refine ⟨h.1, ?_⟩
  rcases h.2 with h2 | ⟨g, c, u, h3, h4, r⟩
  · exact Or.inl h2
  · exact Or.inr ⟨g, c, u, h3, Nat.le_trans hb h4, r⟩

section
variable {P : Program} (w : World)
/-- append to a row of the call's own, AND WHERE THE RESULT LIES: in the old block, or in a new one. -/
theorem run_append_placed (base : Nat) (t ty e : TypeId) (i : TypeInfo) (z : Value) (size bytes : Nat) (ht : P.underlying t = some (.slice e)) (hi : P.info? e = some i) (hz : i.zero = some z)
    (hsize : i.size = size) (hby : i.bytes = bytes) (hzs : z.cells.size = size) (hsz : 0 < size)
    (v : Value) (n : Nat) (xs : List Value) (hown : w.ownsRow base e size v n xs)
    (a : Addr) (m c : Nat) (news : List Value) (hl : news.length = m * size) (hnews : ∀ j u, news[j]? = some u → w.cell? (a.add j) = some u) (h1 : ∀ u ∈ news, u.oneCell' = true)
    (h63 : n + m ≤ maxLen) (hbytes : (n + m) * bytes ≤ 140737488355328) (hbase : base ≤ w.heap.size) :
    ∃ v' w', (Builtin.append_ #[t, t] ty #[v, .slice (some a) m c]).run P w = .ok v' w' ∧ w'.ownsRow base e size v' (n + m) (xs ++ news) ∧ w.grownBy w' v.ownBlock ∧
      (v'.ownBlock = v.ownBlock ∨ ∀ g, v'.ownBlock = some g → w.heap.size ≤ g) := by
  rcases hown.2 with ⟨rfl, rfl⟩ | ⟨g, cap, cur, rfl, hbg, hg, hnc, hcm, hcs, htake⟩
  · have hx : xs = [] := List.eq_nil_of_length_eq_zero (by simpa using hown.1)
    subst hx
    obtain ⟨v', w', r, o, gr, _⟩ := run_append_own (P := P) w w.heap.size t ty e i z size bytes ht hi hz hsize hby hzs hsz (.slice none 0 0) 0 [] (World.ownsRow_nil w _ e size) a m c news hl hnews h1 h63 hbytes (Nat.le_refl _)
    exact ⟨v', w', r, own_base o hbase, gr, Or.inr (fun g hg => (o.lt g hg).1)⟩
  · by_cases hroom : n + m ≤ cap
    · obtain ⟨v', w', r, o, gr, _⟩ := run_append_own (P := P) w base t ty e i z size bytes ht hi hz hsize hby hzs hsz _ n xs hown a m c news hl hnews h1 h63 hbytes hbase
      subst hsize
      have hfit : n * i.size + news.length ≤ cur.size := by rw [hl, hcs, ← Nat.add_mul]; exact Nat.mul_le_mul_right _ hroom
      have hr := run_append_room (P := P) w t ty e i ht hi g n cap cur hg a m c news hl hnews h1 hroom hfit
      refine ⟨v', w', r, o, gr, Or.inl ?_⟩
      rw [hr] at r
      simp only [Result.ok.injEq] at r
      rw [← r.1]; rfl
    · have holds : ∀ j u, xs[j]? = some u → w.cell? ((⟨g, 0, none⟩ : Addr).add j) = some u := hown.cells (g := g) rfl
      obtain ⟨v', w', r, o, gr⟩ := run_append_arg_grows (P := P) w t ty e i z size bytes ht hi hz hsize hby hzs hsz ⟨g, 0, none⟩ n cap xs hown.1 holds a m c news hl hnews (by omega) h63 hbytes
      exact ⟨v', w', r, own_base o hbase, ⟨gr.os, gr.tape, gr.output, gr.size, fun k hk _ => gr.block k hk (by simp)⟩, Or.inr (fun g hg => (o.lt g hg).1)⟩
end

theorem wpList_append_placed {P : Program} {w : World} {ops : Array Oper} {rest : List Oper} {o : Oper} {a : Act} {Q : Exit → Act → World → Prop} (hgd : o.guard = none) (s x : Operand) (t : TypeId)
    (ho : o.op = .call { callee := .builtin .append, args := #[s, x], argTypes := #[t, t] })
    (base : Nat) (e : TypeId) (i : TypeInfo) (z : Value) (size bytes : Nat) (ht : P.underlying t = some (.slice e)) (hi : P.info? e = some i) (hz : i.zero = some z)
    (hsize : i.size = size) (hby : i.bytes = bytes) (hzs : z.cells.size = size) (hsz : 0 < size)
    (v : Value) (n : Nat) (xs : List Value) (hs : a.eval s = v) (hown : w.ownsRow base e size v n xs)
    (ad : Addr) (m c : Nat) (news : List Value) (hx : a.eval x = .slice (some ad) m c) (hl : news.length = m * size) (hnews : ∀ j u, news[j]? = some u → w.cell? (ad.add j) = some u) (h1 : ∀ u ∈ news, u.oneCell' = true)
    (h63 : n + m ≤ maxLen) (hbytes : (n + m) * bytes ≤ 140737488355328) (hbase : base ≤ w.heap.size)
    (h : ∀ v' w', w'.ownsRow base e size v' (n + m) (xs ++ news) → w.grownBy w' v.ownBlock → (v'.ownBlock = v.ownBlock ∨ ∀ g, v'.ownBlock = some g → w.heap.size ≤ g) → wpList P ops Q rest (a.put o.dst v') w') : wpList P ops Q (o :: rest) a w := by
  refine wpList_plain hgd fun K hK => ?_
  obtain ⟨v', w', hrun, r1, r2, r3⟩ := run_append_placed (P := P) w base t o.type e i z size bytes ht hi hz hsize hby hzs hsz v n xs hown ad m c news hl hnews h1 h63 hbytes hbase
  unfold Oper.wp
  simp [execOp, ho, resolve, invoke, builtin, hs, hx, hrun, Result.andThen]
  exact hK _ _ (h v' w' r1 r2 r3)

theorem getD_app {l more : List Nat} {k : Nat} (h : k < l.length) : (l ++ more).getD k 0 = l.getD k 0 := by
  simp [List.getD, List.getElem?_append_left h]
def ptrTo (adrs : List Nat) (k : Nat) : Value := .pointer (some ⟨adrs.getD k 0, 0, none⟩)

/-- A part, at block a; the blocks that it takes are among F. -/
structure PartOk (w : World) (F : Nat → Prop) (adrs : List Nat) (p : PN) (a : Nat) (iv kv : IV) : Prop where
  blk : Blk w a #[.int .i64 p.kind, .slice iv.1 iv.2.1 iv.2.2, .bool p.neg, .slice kv.1 kv.2.1 kv.2.2, .int .i64 p.least, .int .i64 p.most] 160
  mine : F a
  ins : (p.kind ≤ 3 ∧ ∃ g, iv = (some ⟨g, 0, none⟩, 256, 256) ∧ F g ∧ Blk w g (boolCells p.ins) 4) ∨ (3 < p.kind ∧ iv = (none, 0, 0))
  kids : w.ownsRow 0 60 1 (ivV kv) p.kids.length (p.kids.map (ptrTo adrs))
  kidsF : ∀ g, (ivV kv).ownBlock = some g → F g

/-- The reader and the parts. -/
structure RM (w : World) (b : Nat) (t : ByteArray) (s : RS) (ps : List PN) (adrs : List Nat) (F : Nat → Prop) : Prop where
  rr : RR w b t s
  len : adrs.length = ps.length
  part : ∀ (i : Nat) (p : PN), ps[i]? = some p → (∀ k, k ∈ p.kids → k < i) ∧ ∃ iv kv, PartOk w F adrs p (adrs.getD i 0) iv kv
  old : ∀ k, F k → k < w.heap.size ∧ k ≠ b

section
variable {w w' : World} {b a : Nat} {t : ByteArray} {s s' : RS} {ps : List PN} {adrs : List Nat} {F F' : Nat → Prop} {p : PN} {iv kv : IV}

theorem PartOk.frame (h : PartOk w F adrs p a iv kv) (hf : ∀ k, F k → w'.heap[k]? = w.heap[k]?) : PartOk w' F adrs p a iv kv := by
  refine ⟨(hf a h.mine).trans h.blk, h.mine, ?_, ?_, h.kidsF⟩
  · rcases h.ins with ⟨h1, g, h2, h3, h4⟩ | h5
    · exact Or.inl ⟨h1, g, h2, h3, (hf g h3).trans h4⟩
    · exact Or.inr h5
  · refine ⟨h.kids.1, ?_⟩
    rcases h.kids.2 with h1 | ⟨g, cap, cur, h1, h2, h3, r⟩
    · exact Or.inl h1
    · exact Or.inr ⟨g, cap, cur, h1, h2, (hf g (h.kidsF g (by rw [h1]; rfl))).trans h3, r⟩

theorem PartOk.wider (h : PartOk w F adrs p a iv kv) (hf : ∀ k, F k → F' k) {more : List Nat} (hk : ∀ k, k ∈ p.kids → k < adrs.length) : PartOk w F' (adrs ++ more) p a iv kv := by
  refine ⟨h.blk, hf a h.mine, ?_, ?_, fun g hg => hf g (h.kidsF g hg)⟩
  · rcases h.ins with ⟨h1, g, h2, h3, h4⟩ | h5
    · exact Or.inl ⟨h1, g, h2, hf g h3, h4⟩
    · exact Or.inr h5
  · have e : p.kids.map (ptrTo (adrs ++ more)) = p.kids.map (ptrTo adrs) := by
      apply List.map_congr_left
      intro k hk'
      unfold ptrTo
      rw [getD_app (hk k hk')]
    rw [e]
    exact h.kids

theorem RM.frame (h : RM w b t s ps adrs F) (hf : ∀ k, F k → w'.heap[k]? = w.heap[k]?) (r : RR w' b t s') (hs : w.heap.size ≤ w'.heap.size) : RM w' b t s' ps adrs F :=
  ⟨r, h.len, fun i p hp => ⟨(h.part i p hp).1, by obtain ⟨iv, kv, hk⟩ := (h.part i p hp).2; exact ⟨iv, kv, hk.frame hf⟩⟩, fun k hk => ⟨Nat.lt_of_lt_of_le (h.old k hk).1 hs, (h.old k hk).2⟩⟩

theorem RM.scan (h : RM w b t s ps adrs F) (r : RR w' b t s') (k : Kept [b] w w') : RM w' b t s' ps adrs F :=
  h.frame (fun i hi => k.block i (h.old i hi).1 (by simpa using (h.old i hi).2)) r k.size

/-- One part more. -/
theorem RM.push (h : RM w b t s ps adrs F) (hF : ∀ k, F k → F' k) (hold : ∀ k, F' k → k < w.heap.size ∧ k ≠ b) (hk : ∀ k, k ∈ p.kids → k < ps.length) (hp : PartOk w F' adrs p a iv kv) :
    RM w b t s (ps ++ [p]) (adrs ++ [a]) F' := by
  refine ⟨h.rr, by simp [h.len], fun i q hq => ?_, hold⟩
  by_cases hi : i < ps.length
  · rw [List.getElem?_append_left hi] at hq
    obtain ⟨h1, iv, kv, h2⟩ := h.part i q hq
    refine ⟨h1, iv, kv, ?_⟩
    rw [getD_app (by rw [h.len]; exact hi)]
    exact h2.wider hF (fun k hk => by have := h1 k hk; rw [h.len]; omega)
  · have hi2 : i = ps.length := by
      have := (List.getElem?_eq_some_iff.1 hq).1
      simp at this; omega
    subst hi2
    rw [List.getElem?_append_right (Nat.le_refl _), Nat.sub_self] at hq
    simp at hq
    subst hq
    refine ⟨hk, iv, kv, ?_⟩
    have e : (adrs ++ [a]).getD ps.length 0 = a := by rw [← h.len]; simp [List.getD]
    rw [e]
    exact hp.wider (fun k hk => hk) (fun k hk' => by rw [h.len]; exact hk k hk')
end

/-- What a call leaves in memory: the parts, some more than before, in new blocks. -/
structure RMem (w w' : World) (b : Nat) (t : ByteArray) (adrs : List Nat) (F : Nat → Prop) (r : Nat × RP) (pv : Value) : Prop where
  mem : ∃ (more : List Nat) (F' : Nat → Prop), RM w' b t r.2.1 r.2.2 (adrs ++ more) F' ∧ (∀ k, F k → F' k) ∧ (∀ k, F' k → F k ∨ w.heap.size ≤ k) ∧ pv = ptrTo (adrs ++ more) r.1
  kept : Kept [b] w w'
  idx : r.1 < r.2.2.length

end Go.Proofs.Ytgifhgnccmnbiaa
