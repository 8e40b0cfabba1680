/- The document's answer: a part whose kids are still being gathered. -/
import Derived.Test.YtgifhgnccmnbiaaRefPiece
import Derived.Test.YtgifhgnccmnbiaaAdd
set_option linter.unusedVariables false
set_option linter.unusedSimpArgs false
namespace Go.Proofs.Ytgifhgnccmnbiaa
open Go.RowKit Go.IntWalk

/-- A part at X, its kids 'cur' being gathered. -/
structure IP (w0 w : World) (b : Nat) (t : ByteArray) (F0 F : Nat → Prop) (st : RP) (adrs : List Nat) (cur : List Nat) (X : Nat) (kv : IV) (kind : Int) : Prop where
  rm : RM w b t st.1 st.2 adrs F
  sub : ∀ k, F0 k → F k
  new : ∀ k, F k → F0 k ∨ w0.heap.size ≤ k
  blk : Blk w X #[.int .i64 kind, .slice none 0 0, .bool false, .slice kv.1 kv.2.1 kv.2.2, .int .i64 0, .int .i64 0] 160
  row : w.ownsRow w0.heap.size 60 1 (ivV kv) cur.length (cur.map (ptrTo adrs))
  hX : w0.heap.size ≤ X ∧ ¬ F X
  hkv : ∀ g, (ivV kv).ownBlock = some g → ¬ F g
  kept : Kept [b] w0 w
  curOk : ∀ k, k ∈ cur → k < st.2.length

section
variable {w0 w w2 : World} {b X : Nat} {t : ByteArray} {F0 F : Nat → Prop} {st : RP} {adrs cur : List Nat} {kv : IV} {kind : Int} {s' : RS}

theorem IP.start {s : RS} {ps : List PN} (h : RM w b t s ps adrs F) (k : Nat) (hk : k = w.heap.size) (kind : Int) :
    IP w (w.alloc (.cells #[.int .i64 kind, .slice none 0 0, .bool false, .slice none 0 0, .int .i64 0, .int .i64 0] 160)) b t F F (s, ps) adrs [] k (none, 0, 0) kind := by
  subst hk
  have kk : Kept [b] w (w.alloc (.cells #[.int .i64 kind, .slice none 0 0, .bool false, .slice none 0 0, .int .i64 0, .int .i64 0] 160)) := (Kept.refl _ _).alloc _
  exact ⟨h.scan (h.rr.kept ((Kept.refl [] w).alloc _) (by simp)) kk, fun k hk => hk, fun k hk => Or.inl hk, Blk.new _ _ _, World.ownsRow_nil _ _ _ _, ⟨Nat.le_refl _, fun hf => by have := (h.old _ hf).1; omega⟩, fun g hg => (by cases hg), kk, fun k hk => (by cases hk)⟩

theorem IP.lt (h : IP w0 w b t F0 F st adrs cur X kv kind) : X < w.heap.size := h.blk.lt
theorem IP.ne (h : IP w0 w b t F0 F st adrs cur X kv kind) (hb : b < w0.heap.size) : X ≠ b := by have := h.hX.1; omega

theorem row_keep {S : List Nat} {base e z n : Nat} {v : Value} {xs : List Value} (h : w.ownsRow base e z v n xs) (k : Kept S w w2) (hg : ∀ g, v.ownBlock = some g → ¬ g ∈ S) : w2.ownsRow base e z v n xs := by
  refine ⟨h.1, ?_⟩
  rcases h.2 with h1 | ⟨g, cap, cur, h1, h2, h3, r⟩
  · exact Or.inl h1
  · exact Or.inr ⟨g, cap, cur, h1, h2, (k.block g (Array.getElem?_eq_some_iff.1 h3).1 (hg g (by rw [h1]; rfl))).trans h3, r⟩

theorem IP.scan (h : IP w0 w b t F0 F st adrs cur X kv kind) (hb : b < w0.heap.size) (r : RR w2 b t s') (k : Kept [b] w w2) : IP w0 w2 b t F0 F (s', st.2) adrs cur X kv kind :=
  ⟨h.rm.scan r k, h.sub, h.new, h.blk.kept k (by simpa using h.ne hb), row_keep h.row k (fun g hg => by have := (h.row.lt g hg).1; simp; omega), h.hX, h.hkv, h.kept.trans k, h.curOk⟩

/-- A callee has been at work. -/
theorem IP.call (h : IP w0 w b t F0 F st adrs cur X kv kind) (hb : b < w0.heap.size) {r : Nat × RP} {pv : Value} (m : RMem w w2 b t adrs F r pv) (hgrow : st.2.length ≤ r.2.2.length) :
    ∃ more F', IP w0 w2 b t F0 F' r.2 (adrs ++ more) cur X kv kind ∧ pv = ptrTo (adrs ++ more) r.1 ∧ r.1 < r.2.2.length := by
  obtain ⟨⟨more, F', h1, h2, h3, h4⟩, h5, h6⟩ := m
  refine ⟨more, F', ⟨h1, fun k hk => h2 k (h.sub k hk), fun k hk => ?_, h.blk.kept h5 (by simpa using h.ne hb), ?_, ⟨h.hX.1, fun hf => ?_⟩, fun g hg hf => ?_, h.kept.trans h5, fun k hk => Nat.lt_of_lt_of_le (h.curOk k hk) hgrow⟩, h4, h6⟩
  · rcases h3 k hk with h7 | h7
    · exact h.new k h7
    · exact Or.inr (Nat.le_trans h.kept.size h7)
  · have e : cur.map (ptrTo (adrs ++ more)) = cur.map (ptrTo adrs) := by
      apply List.map_congr_left
      intro k hk
      unfold ptrTo
      rw [getD_app (by rw [h.rm.len]; exact h.curOk k hk)]
    rw [e]
    exact row_keep h.row h5 (fun g hg => by have := (h.row.lt g hg).1; simp; omega)
  · rcases h3 X hf with h7 | h7
    · exact h.hX.2 h7
    · have := h.lt; omega
  · rcases h3 g hf with h7 | h7
    · exact h.hkv g hg h7
    · have := (h.row.lt g hg).2; omega

/-- One kid more has been appended. -/
theorem IP.app (h : IP w0 w b t F0 F st adrs cur X kv kind) (hb : b < w0.heap.size) (o : Obj) (k : Nat) (hk : k < st.2.length) (v' : Value) {w3 : World}
    (hown : w3.ownsRow w0.heap.size 60 1 v' (cur.length + 1) (cur.map (ptrTo adrs) ++ [ptrTo adrs k])) (hgrow : (w.alloc o).grownBy w3 (ivV kv).ownBlock)
    (hpl : v'.ownBlock = (ivV kv).ownBlock ∨ ∀ g, v'.ownBlock = some g → (w.alloc o).heap.size ≤ g) :
    ∃ kv' : IV, v' = .slice kv'.1 kv'.2.1 kv'.2.2 ∧ (∃ y, kv'.1 = some y) ∧ Blk w3 X #[.int .i64 kind, .slice none 0 0, .bool false, .slice kv.1 kv.2.1 kv.2.2, .int .i64 0, .int .i64 0] 160 ∧
      IP w0 (w3.setCell ⟨X, 3, none⟩ (.slice kv'.1 kv'.2.1 kv'.2.2)) b t F0 F st adrs (cur ++ [k]) X kv' kind := by
  obtain ⟨g, cap, rfl⟩ := own_form hown (by omega)
  have hbX := h.ne hb
  have hXlt := h.lt
  have hrow := h.row
  have hge : ∀ g, (ivV kv).ownBlock = some g → w0.heap.size ≤ g ∧ g < w.heap.size := fun g hg => hrow.lt g hg
  have hXne : ∀ g, (ivV kv).ownBlock = some g → g ≠ X := fun g hg hc => by
    subst hc
    rcases hrow.2 with ⟨h1, _⟩ | ⟨g', cap', cu, h1, _, h3, _⟩
    · rw [h1] at hg; cases hg
    · rw [h1] at hg
      simp only [Value.ownBlock, Option.some.injEq] at hg
      subst hg
      have h5 := h.blk
      unfold Blk at h5
      rw [h3] at h5
      simp at h5
  have bl : ∀ i, i < w.heap.size → some i ≠ (ivV kv).ownBlock → w3.heap[i]? = w.heap[i]? := fun i hi hne => by
    rw [hgrow.block i (by simp; omega) hne, Below.heap_alloc _ _ _ hi]
  have hs3 : w.heap.size ≤ w3.heap.size := by have := hgrow.size; simp at this; omega
  have blkX : Blk w3 X #[.int .i64 kind, .slice none 0 0, .bool false, .slice kv.1 kv.2.1 kv.2.2, .int .i64 0, .int .i64 0] 160 := (bl X hXlt (fun hc => hXne X hc.symm rfl)).trans h.blk
  have rr3 : RR w3 b t st.1 := ⟨(bl b h.rm.rr.blk.lt (fun hc => by have := (hge b hc.symm).1; omega)).trans h.rm.rr.blk, h.rm.rr.fits, h.rm.rr.small⟩
  have hgX : g ≠ X := fun hc => by
    subst hc
    rcases hown.2 with ⟨h1, _⟩ | ⟨g', cap', cu, h1, _, h3, _⟩
    · cases h1
    · simp only [Value.slice.injEq, Option.some.injEq, Addr.mk.injEq] at h1
      obtain ⟨⟨h1, _⟩, _⟩ := h1
      subst h1
      have h5 := blkX
      unfold Blk at h5
      rw [h3] at h5
      simp at h5
  have hgF : ¬ F g := fun hf => by
    rcases hpl with hpl | hpl
    · exact h.hkv g (by rw [← hpl]; rfl) hf
    · have := hpl g rfl
      have := (h.rm.old g hf).1
      simp at *
      omega
  refine ⟨(some ⟨g, 0, none⟩, cur.length + 1, cap), rfl, ⟨_, rfl⟩, blkX, ?_⟩
  refine ⟨?_, h.sub, h.new, blkX.set 3 _, ?_, h.hX, fun g' hg' hf => ?_, ?_, fun i hi => ?_⟩
  · refine h.rm.frame (fun i hi => ?_) ⟨Blk.other rr3.blk _ _ (Ne.symm hbX), rr3.fits, rr3.small⟩ (by simpa [World.setCell] using hs3)
    rw [Below.heap_setCell _ _ _ _ (by rintro rfl; exact h.hX.2 hi)]
    exact bl i (h.rm.old i hi).1 (fun hc => h.hkv i hc.symm hi)
  · have h1 : (w3.setCell ⟨X, 3, none⟩ (.slice (some ⟨g, 0, none⟩) (cur.length + 1) cap)).ownsRow w0.heap.size 60 1 (.slice (some ⟨g, 0, none⟩) (cur.length + 1) cap) (cur.length + 1) (cur.map (ptrTo adrs) ++ [ptrTo adrs k]) :=
      row_keep (S := [X]) hown ((Kept.refl _ _).setCell (by simp) _) (fun g' hg' => by simp [Value.ownBlock] at hg'; subst hg'; simpa using hgX)
    rw [List.map_append, List.length_append]
    exact h1
  · simp [ivV, Value.ownBlock] at hg'; subst hg'; exact hgF hf
  · refine Kept.setCell ?_ (Or.inr h.hX.1) _
    refine ⟨hgrow.os.trans h.kept.os, hgrow.tape.trans h.kept.tape, hgrow.output.trans h.kept.output, Nat.le_trans h.kept.size hs3, fun i hi hs => ?_⟩
    rw [bl i (Nat.lt_of_lt_of_le hi h.kept.size) (fun hc => by have := (hge i hc.symm).1; omega)]
    exact h.kept.block i hi hs
  · rcases List.mem_append.1 hi with hi | hi
    · exact h.curOk i hi
    · simp at hi; subst hi; exact hk

/-- The part is whole. -/
theorem IP.fin {adrs0 more : List Nat} (h : IP w0 w b t F0 F st (adrs0 ++ more) cur X kv kind) (hb : b < w0.heap.size) (hkind : 3 < kind) :
    RMem w0 w b t adrs0 F0 (pushP { kind := kind, kids := cur } st) (.pointer (some ⟨X, 0, none⟩)) := by
  have hX := h.hX.1
  refine ⟨⟨more ++ [X], fun x => F x ∨ x = X ∨ (ivV kv).ownBlock = some x, ?_, fun x hx => Or.inl (h.sub x hx), fun x hx => ?_, ?_⟩, h.kept, by simp [pushP]⟩
  · rw [← List.append_assoc]
    refine RM.push h.rm (fun x hx => Or.inl hx) (fun x hx => ?_) h.curOk (iv := (none, 0, 0)) (kv := kv) ⟨h.blk, Or.inr (Or.inl rfl), Or.inr ⟨hkind, rfl⟩, own_base h.row (Nat.zero_le _), fun g hg => Or.inr (Or.inr hg)⟩
    rcases hx with hx | rfl | hx
    · exact h.rm.old x hx
    · exact ⟨h.lt, by omega⟩
    · have := h.row.lt x hx; exact ⟨this.2, by omega⟩
  · rcases hx with hx | rfl | hx
    · exact h.new x hx
    · exact Or.inr hX
    · exact Or.inr (h.row.lt x hx).1
  · have e : ((adrs0 ++ (more ++ [X])).getD st.2.length 0) = X := by
      rw [← List.append_assoc, ← h.rm.len]; simp [List.getD]
    simp only [pushP, ptrTo, e]
end

end Go.Proofs.Ytgifhgnccmnbiaa
