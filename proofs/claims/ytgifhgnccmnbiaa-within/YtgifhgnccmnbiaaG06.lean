/- The machine: repeated: copies of a part, one behind the other. -/
import Derived.Test.YtgifhgnccmnbiaaG05
set_option linter.unusedVariables false
set_option linter.unusedSimpArgs false
namespace Go.Proofs.Ytgifhgnccmnbiaa
open Go.RowKit Go.IntWalk

/-- The part, room for the result, and the copies so far. -/
structure RepIn (w0 w : World) (a c : GP) : Prop where
  b0 : Blk w w0.heap.size (gpCells a) 113
  b1 : Blk w (w0.heap.size + 1) (gpCells {}) 113
  b2 : Blk w (w0.heap.size + 1 + 1) (gpCells c) 113
  k : Kept [] w0 w
section
variable {w0 w w' : World} {a c c' : GP}
theorem RepIn.kept (h : RepIn w0 w a c) (k : Kept [] w w') : RepIn w0 w' a c :=
  ⟨h.b0.kept k (by simp), h.b1.kept k (by simp), h.b2.kept k (by simp), h.k.trans k⟩
theorem RepIn.into {g : Nat} (h : RepIn w0 w a c) (k : Kept [g] w w') (hg : w0.heap.size + 1 + 1 < g) : RepIn w0 w' a c :=
  ⟨h.b0.kept k (by simp; omega), h.b1.kept k (by simp; omega), h.b2.kept k (by simp; omega), h.k.into k (by omega)⟩
theorem RepIn.other {g : Nat} (h : RepIn w0 w a c) (hg : w0.heap.size + 1 + 1 < g) (j : Nat) (u : Value) : RepIn w0 (w.setCell ⟨g, j, none⟩ u) a c :=
  ⟨h.b0.other _ _ (by omega), h.b1.other _ _ (by omega), h.b2.other _ _ (by omega), h.k.setCell (Or.inr (by simp; omega)) _⟩
theorem RepIn.next (h : RepIn w0 w a c) (k : Kept [w0.heap.size + 1 + 1] w w') (hb : Blk w' (w0.heap.size + 1 + 1) (gpCells c') 113) : RepIn w0 w' a c' :=
  ⟨h.b0.kept k (by simp; omega), h.b1.kept k (by simp), hb, h.k.into k (by omega)⟩
theorem RepIn.new (h : RepIn w0 w a c) (cs : Array Value) (t : TypeId) (h2 : Blk w' w.heap.size cs t) (k : Kept [w.heap.size] (w.alloc (.cells (gpCells {}) 113)) w') : RepIn w0 w' a c := by
  have := h.b2.lt
  exact (h.kept ((Kept.refl _ _).alloc _)).into k this
end

theorem one_plain (a : GP) {e : Bool} {l t k : Nat} (h1 : ¬ (e = true ∧ k = t)) (h2 : ¬ l < k) : oneP a e l t k = a := by
  unfold oneP; simp only []; rw [if_neg h2, if_neg h1]
theorem one_none (a : GP) {e : Bool} {l t k : Nat} (h1 : ¬ (e = true ∧ k = t)) (h2 : l < k) : oneP a e l t k = orNone a := by
  unfold oneP; simp only []; rw [if_pos h2, if_neg h1]
theorem one_plus (a : GP) {e : Bool} {l t k : Nat} (h1 : e = true ∧ k = t) (h2 : ¬ l < k) : oneP a e l t k = plusP a := by
  unfold oneP; simp only []; rw [if_neg h2, if_pos h1]
theorem one_both (a : GP) {e : Bool} {l t k : Nat} (h1 : e = true ∧ k = t) (h2 : l < k) : oneP a e l t k = orNone (plusP a) := by
  unfold oneP; simp only []; rw [if_pos h2, if_pos h1]
theorem both_call (a : GP) (ha : a.Fit) (e : Bool) (l t k : Nat) (hr : (k + 1) * a.count ≤ 60) (w : World) :
    PartCall 132 #[.agg (gpCells (copiesP a e l t k)), .agg (gpCells (oneP a e l t (k + 1)))] w (copiesP a e l t (k + 1)) := by
  rw [Nat.add_one_mul] at hr
  obtain ⟨_, h2⟩ := copiesP_fit ha e l t k (by omega)
  obtain ⟨_, h4⟩ := oneP_fit ha e l t (k + 1)
  exact both_any _ _ (by rw [h2, h4]; exact hr) w

set_option maxHeartbeats 4000000 in
set_option maxRecDepth 100000 in
theorem repeated_upto (a : GP) (ha : a.Fit) (l t : Nat) (hl : l ≤ 1000) (ht : t ≤ 1000) (hr : t * a.count ≤ 60) (w : World) :
    PartCall 134 #[.agg (gpCells a), .int .i64 (l : Int), .int .i64 (t : Int)] w (copiesP a false l t t) := by
  unfold PartCall
  have hz := zeroV_part
  have hlk : Hid (∀ w, PartCall 152 #[.agg (gpCells a), UV a.last, UV a.first] w (plusP a)) := fun w => linked_any a a.last a.first w
  have hstart : Hid (∀ w1, Blk w1 (w.heap.size + 1 + 1) (gpCells noneP) 113 → Kept [w.heap.size + 1 + 1] (((w.alloc (.cells (gpCells a) 113)).alloc (.cells (gpCells {}) 113)).alloc (.cells (gpCells {}) 113)) w1 → RepIn w w1 a noneP) := fun w1 hb hk =>
    ⟨(((Blk.new w _ _).alloc _).alloc _).kept hk (by simp; omega), ((Blk.new1 w _ _ _).alloc _).kept hk (by simp), hb, ((((Kept.refl _ _).alloc _).alloc _).alloc _).into hk (by omega)⟩
  go_enter Try.func134, Try.ntmps134
  go_wp2_with (first
    | (refine wpList_build_none rfl rfl ?_)
    | (with_reducible refine wpList_store_part ?_ (.tmp 8) (.tmp 17) ?_ (w.heap.size + 1 + 1) ?_ {} noneP ?_ ?_ ?_
       · rfl
       · rfl
       · rfl
       · rfl
       · exact Blk.new2 w (.cells (gpCells a) 113) (.cells (gpCells {}) 113) (gpCells {}) 113
       intro w1 hb1 hk1 hs1
       have hst := hstart.out w1 hb1 hk1
       clear hb1 hk1 hs1))
  go_loopw [9] (fun iv wr => ∃ k : Nat, iv = .int .i64 ((k : Int) + 1) ∧ k ≤ t ∧ RepIn w wr a (copiesP a false l t k)) (fun iv _ => ((t : Int) + 1 - intOf iv).toNat)
  case atStart => exact ⟨0, rfl, Nat.zero_le _, hst⟩
  case round =>
    obtain ⟨k, rfl, hkT, hIn⟩ := hrel
    clear hst hstart
    have hgt := hIn.b2.lt
    by_cases hlt : (k : Int) < (t : Int)
    · have hkn : k < t := by omega
      have hbo : Hid (∀ w, PartCall _ _ w _) := fun w => both_call a ha false l t k (Nat.le_trans (Nat.mul_le_mul_right _ hkn) hr) w
      by_cases hcc : (l : Int) < (k : Int) + 1
      · rw [one_none a (by first | exact (fun hc => absurd hc.1 (by decide)) | exact ⟨rfl, by omega⟩ | exact (fun hc => by have := hc.2; omega)) (by omega)] at hbo
        go_wp2_with (first
          | (with_reducible refine wpList_load_part ?_ (.tmp 3) ?_ w.heap.size ?_ a ?_ ?_
             · rfl
             · rfl
             · rfl
             · exact hIn.b0)
          | (with_reducible refine wpList_store_part ?_ (.tmp 10) (.tmp 23) ?_ wr.heap.size ?_ {} a ?_ ?_ ?_
             · rfl
             · rfl
             · rfl
             · rfl
             · exact Blk.new wr (gpCells {}) 113
             intro w1 hb1 hk1 hs1
             have h1 := hIn.new _ _ hb1 hk1
             have c02 := h1.b0.part2
             have c03 := h1.b0.part3
             have d1 := hb1.part1
             have f1 := hb1.frozen 1
             have hW : Hid (Blk _ _ _ _) := hb1.setE true
             have hR : Hid (RepIn _ _ _ _) := h1.other hgt 1 (.bool true)
             clear hk1)
          | (with_reducible refine wpList_load_part ?_ (.tmp 8) ?_ (w.heap.size + 1 + 1) ?_ (copiesP a false l t k) ?_ ?_
             · rfl
             · rfl
             · rfl
             · exact hR.out.b2)
          | (with_reducible refine wpList_load_part ?_ (.tmp 10) ?_ wr.heap.size ?_ (orNone a) ?_ ?_
             · rfl
             · rfl
             · rfl
             · exact hW.out)
          | (go_at_call 132
             refine (hbo.out _).mono ?_
             rintro e w6 ⟨rfl, k6⟩
             have h6 := hR.out.kept k6)
          | (with_reducible refine wpList_store_part ?_ (.tmp 8) (.tmp 43) ?_ (w.heap.size + 1 + 1) ?_ (copiesP a false l t k) (copiesP a false l t (k + 1)) ?_ ?_ ?_
             · rfl
             · rfl
             · rfl
             · rfl
             · exact h6.b2
             intro w7 hb7 hk7 hs7
             have h7 : Hid (RepIn _ _ _ _) := h6.next hk7 hb7))
        refine ⟨⟨k + 1, by go_num, by omega, h7.out⟩, ?_⟩
        simp only [intOf]; omega
      · rw [one_plain a (by first | exact (fun hc => absurd hc.1 (by decide)) | exact ⟨rfl, by omega⟩ | exact (fun hc => by have := hc.2; omega)) (by omega)] at hbo
        go_wp2_with (first
          | (with_reducible refine wpList_load_part ?_ (.tmp 3) ?_ w.heap.size ?_ a ?_ ?_
             · rfl
             · rfl
             · rfl
             · exact hIn.b0)
          | (with_reducible refine wpList_store_part ?_ (.tmp 10) (.tmp 23) ?_ wr.heap.size ?_ {} a ?_ ?_ ?_
             · rfl
             · rfl
             · rfl
             · rfl
             · exact Blk.new wr (gpCells {}) 113
             intro w1 hb1 hk1 hs1
             have h1 := hIn.new _ _ hb1 hk1
             have c02 := h1.b0.part2
             have c03 := h1.b0.part3
             have d1 := hb1.part1
             have f1 := hb1.frozen 1
             have hW : Hid (Blk _ _ _ _) := hb1
             have hR : Hid (RepIn _ _ _ _) := h1
             clear hk1)
          | (with_reducible refine wpList_load_part ?_ (.tmp 8) ?_ (w.heap.size + 1 + 1) ?_ (copiesP a false l t k) ?_ ?_
             · rfl
             · rfl
             · rfl
             · exact hR.out.b2)
          | (with_reducible refine wpList_load_part ?_ (.tmp 10) ?_ wr.heap.size ?_ a ?_ ?_
             · rfl
             · rfl
             · rfl
             · exact hW.out)
          | (go_at_call 132
             refine (hbo.out _).mono ?_
             rintro e w6 ⟨rfl, k6⟩
             have h6 := hR.out.kept k6)
          | (with_reducible refine wpList_store_part ?_ (.tmp 8) (.tmp 43) ?_ (w.heap.size + 1 + 1) ?_ (copiesP a false l t k) (copiesP a false l t (k + 1)) ?_ ?_ ?_
             · rfl
             · rfl
             · rfl
             · rfl
             · exact h6.b2
             intro w7 hb7 hk7 hs7
             have h7 : Hid (RepIn _ _ _ _) := h6.next hk7 hb7))
        refine ⟨⟨k + 1, by go_num, by omega, h7.out⟩, ?_⟩
        simp only [intOf]; omega
    · have hke : t = k := by omega
      subst hke
      go_wp2_with (first
        | (with_reducible refine wpList_load_part ?_ (.tmp 8) ?_ (w.heap.size + 1 + 1) ?_ (copiesP a false l t t) ?_ ?_
           · rfl
           · rfl
           · rfl
           · exact hIn.b2)
        | (with_reducible refine wpList_store_part ?_ (.tmp 6) (.tmp 44) ?_ (w.heap.size + 1) ?_ {} (copiesP a false l t t) ?_ ?_ ?_
           · rfl
           · rfl
           · rfl
           · rfl
           · exact hIn.b1
           intro w8 hb8 hk8 hs8))
      exact bodyPost_ret (v := .agg (gpCells (copiesP a false l t t))) (results_part Try.results134 _ _ _ (copiesP a false l t t) rfl hb8) rfl ⟨rfl, hIn.k.into hk8 (by omega)⟩

set_option maxHeartbeats 4000000 in
set_option maxRecDepth 100000 in
theorem repeated_from (a : GP) (ha : a.Fit) (l : Nat) (hl1 : 1 ≤ l) (hl : l ≤ 1000) (hr : l * a.count ≤ 60) (w : World) :
    PartCall 134 #[.agg (gpCells a), .int .i64 (l : Int), .int .i64 (-1)] w (copiesP a true l l l) := by
  unfold PartCall
  have hz := zeroV_part
  have hlk : Hid (∀ w, PartCall 152 #[.agg (gpCells a), UV a.last, UV a.first] w (plusP a)) := fun w => linked_any a a.last a.first w
  have hstart : Hid (∀ w1, Blk w1 (w.heap.size + 1 + 1) (gpCells noneP) 113 → Kept [w.heap.size + 1 + 1] (((w.alloc (.cells (gpCells a) 113)).alloc (.cells (gpCells {}) 113)).alloc (.cells (gpCells {}) 113)) w1 → RepIn w w1 a noneP) := fun w1 hb hk =>
    ⟨(((Blk.new w _ _).alloc _).alloc _).kept hk (by simp; omega), ((Blk.new1 w _ _ _).alloc _).kept hk (by simp), hb, ((((Kept.refl _ _).alloc _).alloc _).alloc _).into hk (by omega)⟩
  go_enter Try.func134, Try.ntmps134
  go_wp2_with (first
    | (refine wpList_build_none rfl rfl ?_)
    | (with_reducible refine wpList_store_part ?_ (.tmp 8) (.tmp 17) ?_ (w.heap.size + 1 + 1) ?_ {} noneP ?_ ?_ ?_
       · rfl
       · rfl
       · rfl
       · rfl
       · exact Blk.new2 w (.cells (gpCells a) 113) (.cells (gpCells {}) 113) (gpCells {}) 113
       intro w1 hb1 hk1 hs1
       have hst := hstart.out w1 hb1 hk1
       clear hb1 hk1 hs1))
  go_loopw [9] (fun iv wr => ∃ k : Nat, iv = .int .i64 ((k : Int) + 1) ∧ k ≤ l ∧ RepIn w wr a (copiesP a true l l k)) (fun iv _ => ((l : Int) + 1 - intOf iv).toNat)
  case atStart => exact ⟨0, rfl, Nat.zero_le _, hst⟩
  case round =>
    obtain ⟨k, rfl, hkT, hIn⟩ := hrel
    clear hst hstart
    have hgt := hIn.b2.lt
    by_cases hlt : (k : Int) < (l : Int)
    · have hkn : k < l := by omega
      have hbo : Hid (∀ w, PartCall _ _ w _) := fun w => both_call a ha true l l k (Nat.le_trans (Nat.mul_le_mul_right _ hkn) hr) w
      by_cases hcc : k + 1 = l
      · rw [one_plus a (by first | exact (fun hc => absurd hc.1 (by decide)) | exact ⟨rfl, by omega⟩ | exact (fun hc => by have := hc.2; omega)) (by omega)] at hbo
        have hcI : (k : Int) + 1 = (l : Int) := by omega
        clear hcc
        go_wp2_with (first
          | (with_reducible refine wpList_load_part ?_ (.tmp 3) ?_ w.heap.size ?_ a ?_ ?_
             · rfl
             · rfl
             · rfl
             · exact hIn.b0)
          | (with_reducible refine wpList_store_part ?_ (.tmp 10) (.tmp 23) ?_ wr.heap.size ?_ {} a ?_ ?_ ?_
             · rfl
             · rfl
             · rfl
             · rfl
             · exact Blk.new wr (gpCells {}) 113
             intro w1 hb1 hk1 hs1
             have h1 := hIn.new _ _ hb1 hk1
             have c02 := h1.b0.part2
             have c03 := h1.b0.part3
             have d1 := hb1.part1
             have f1 := hb1.frozen 1
             clear hk1)
          | (with_reducible refine wpList_load_part ?_ (.tmp 10) ?_ wr.heap.size ?_ a ?_ ?_
             · rfl
             · rfl
             · rfl
             · exact hb1)
          | (go_at_call 152
             refine (hlk.out _).mono ?_
             rintro e w2 ⟨rfl, k2⟩
             have h2 := h1.kept k2
             have hb2 := hb1.kept k2 (by simp))
          | (with_reducible refine wpList_store_part ?_ (.tmp 10) (.tmp 36) ?_ wr.heap.size ?_ a (plusP a) ?_ ?_ ?_
             · rfl
             · rfl
             · rfl
             · rfl
             · exact hb2
             intro w3 hb3 hk3 hs3
             have h3 := h2.into hk3 hgt
             have e1 := hb3.part1
             have g1 := hb3.frozen 1
             have hW : Hid (Blk _ _ _ _) := hb3
             have hR : Hid (RepIn _ _ _ _) := h3
             clear hk3)
          | (with_reducible refine wpList_load_part ?_ (.tmp 8) ?_ (w.heap.size + 1 + 1) ?_ (copiesP a true l l k) ?_ ?_
             · rfl
             · rfl
             · rfl
             · exact hR.out.b2)
          | (with_reducible refine wpList_load_part ?_ (.tmp 10) ?_ wr.heap.size ?_ (plusP a) ?_ ?_
             · rfl
             · rfl
             · rfl
             · exact hW.out)
          | (go_at_call 132
             refine (hbo.out _).mono ?_
             rintro e w6 ⟨rfl, k6⟩
             have h6 := hR.out.kept k6)
          | (with_reducible refine wpList_store_part ?_ (.tmp 8) (.tmp 43) ?_ (w.heap.size + 1 + 1) ?_ (copiesP a true l l k) (copiesP a true l l (k + 1)) ?_ ?_ ?_
             · rfl
             · rfl
             · rfl
             · rfl
             · exact h6.b2
             intro w7 hb7 hk7 hs7
             have h7 : Hid (RepIn _ _ _ _) := h6.next hk7 hb7))
        refine ⟨⟨k + 1, by go_num, by omega, h7.out⟩, ?_⟩
        simp only [intOf]; omega
      · rw [one_plain a (by first | exact (fun hc => absurd hc.1 (by decide)) | exact ⟨rfl, by omega⟩ | exact (fun hc => by have := hc.2; omega)) (by omega)] at hbo
        have hcI : (k : Int) + 1 ≠ (l : Int) := by omega
        clear hcc
        go_wp2_with (first
          | (with_reducible refine wpList_load_part ?_ (.tmp 3) ?_ w.heap.size ?_ a ?_ ?_
             · rfl
             · rfl
             · rfl
             · exact hIn.b0)
          | (with_reducible refine wpList_store_part ?_ (.tmp 10) (.tmp 23) ?_ wr.heap.size ?_ {} a ?_ ?_ ?_
             · rfl
             · rfl
             · rfl
             · rfl
             · exact Blk.new wr (gpCells {}) 113
             intro w1 hb1 hk1 hs1
             have h1 := hIn.new _ _ hb1 hk1
             have c02 := h1.b0.part2
             have c03 := h1.b0.part3
             have d1 := hb1.part1
             have f1 := hb1.frozen 1
             have hW : Hid (Blk _ _ _ _) := hb1
             have hR : Hid (RepIn _ _ _ _) := h1
             clear hk1)
          | (with_reducible refine wpList_load_part ?_ (.tmp 8) ?_ (w.heap.size + 1 + 1) ?_ (copiesP a true l l k) ?_ ?_
             · rfl
             · rfl
             · rfl
             · exact hR.out.b2)
          | (with_reducible refine wpList_load_part ?_ (.tmp 10) ?_ wr.heap.size ?_ a ?_ ?_
             · rfl
             · rfl
             · rfl
             · exact hW.out)
          | (go_at_call 132
             refine (hbo.out _).mono ?_
             rintro e w6 ⟨rfl, k6⟩
             have h6 := hR.out.kept k6)
          | (with_reducible refine wpList_store_part ?_ (.tmp 8) (.tmp 43) ?_ (w.heap.size + 1 + 1) ?_ (copiesP a true l l k) (copiesP a true l l (k + 1)) ?_ ?_ ?_
             · rfl
             · rfl
             · rfl
             · rfl
             · exact h6.b2
             intro w7 hb7 hk7 hs7
             have h7 : Hid (RepIn _ _ _ _) := h6.next hk7 hb7))
        refine ⟨⟨k + 1, by go_num, by omega, h7.out⟩, ?_⟩
        simp only [intOf]; omega
    · have hke : l = k := by omega
      subst hke
      go_wp2_with (first
        | (with_reducible refine wpList_load_part ?_ (.tmp 8) ?_ (w.heap.size + 1 + 1) ?_ (copiesP a true l l l) ?_ ?_
           · rfl
           · rfl
           · rfl
           · exact hIn.b2)
        | (with_reducible refine wpList_store_part ?_ (.tmp 6) (.tmp 44) ?_ (w.heap.size + 1) ?_ {} (copiesP a true l l l) ?_ ?_ ?_
           · rfl
           · rfl
           · rfl
           · rfl
           · exact hIn.b1
           intro w8 hb8 hk8 hs8))
      exact bodyPost_ret (v := .agg (gpCells (copiesP a true l l l))) (results_part Try.results134 _ _ _ (copiesP a true l l l) rfl hb8) rfl ⟨rfl, hIn.k.into hk8 (by omega)⟩

set_option maxHeartbeats 4000000 in
set_option maxRecDepth 100000 in
theorem repeated_star (a : GP) (ha : a.Fit) (hr : 1 * a.count ≤ 60) (w : World) :
    PartCall 134 #[.agg (gpCells a), .int .i64 0, .int .i64 (-1)] w (copiesP a true 0 1 1) := by
  unfold PartCall
  have hz := zeroV_part
  have hlk : Hid (∀ w, PartCall 152 #[.agg (gpCells a), UV a.last, UV a.first] w (plusP a)) := fun w => linked_any a a.last a.first w
  have hstart : Hid (∀ w1, Blk w1 (w.heap.size + 1 + 1) (gpCells noneP) 113 → Kept [w.heap.size + 1 + 1] (((w.alloc (.cells (gpCells a) 113)).alloc (.cells (gpCells {}) 113)).alloc (.cells (gpCells {}) 113)) w1 → RepIn w w1 a noneP) := fun w1 hb hk =>
    ⟨(((Blk.new w _ _).alloc _).alloc _).kept hk (by simp; omega), ((Blk.new1 w _ _ _).alloc _).kept hk (by simp), hb, ((((Kept.refl _ _).alloc _).alloc _).alloc _).into hk (by omega)⟩
  go_enter Try.func134, Try.ntmps134
  go_wp2_with (first
    | (refine wpList_build_none rfl rfl ?_)
    | (with_reducible refine wpList_store_part ?_ (.tmp 8) (.tmp 17) ?_ (w.heap.size + 1 + 1) ?_ {} noneP ?_ ?_ ?_
       · rfl
       · rfl
       · rfl
       · rfl
       · exact Blk.new2 w (.cells (gpCells a) 113) (.cells (gpCells {}) 113) (gpCells {}) 113
       intro w1 hb1 hk1 hs1
       have hst := hstart.out w1 hb1 hk1
       clear hb1 hk1 hs1))
  go_loopw [9] (fun iv wr => ∃ k : Nat, iv = .int .i64 ((k : Int) + 1) ∧ k ≤ 1 ∧ RepIn w wr a (copiesP a true 0 1 k)) (fun iv _ => ((1 : Int) + 1 - intOf iv).toNat)
  case atStart => exact ⟨0, rfl, Nat.zero_le _, hst⟩
  case round =>
    obtain ⟨k, rfl, hkT, hIn⟩ := hrel
    clear hst hstart
    have hgt := hIn.b2.lt
    by_cases hlt : (k : Int) < (1 : Int)
    · have hkn : k < 1 := by omega
      have hbo : Hid (∀ w, PartCall _ _ w _) := fun w => both_call a ha true 0 1 k (Nat.le_trans (Nat.mul_le_mul_right _ hkn) hr) w
      rw [one_both a (by first | exact (fun hc => absurd hc.1 (by decide)) | omega | exact ⟨rfl, by omega⟩ | exact (fun hc => by omega)) (by omega)] at hbo
      go_wp2_with (first
        | (with_reducible refine wpList_load_part ?_ (.tmp 3) ?_ w.heap.size ?_ a ?_ ?_
           · rfl
           · rfl
           · rfl
           · exact hIn.b0)
        | (with_reducible refine wpList_store_part ?_ (.tmp 10) (.tmp 23) ?_ wr.heap.size ?_ {} a ?_ ?_ ?_
           · rfl
           · rfl
           · rfl
           · rfl
           · exact Blk.new wr (gpCells {}) 113
           intro w1 hb1 hk1 hs1
           have h1 := hIn.new _ _ hb1 hk1
           have c02 := h1.b0.part2
           have c03 := h1.b0.part3
           have d1 := hb1.part1
           have f1 := hb1.frozen 1
           clear hk1)
        | (with_reducible refine wpList_load_part ?_ (.tmp 10) ?_ wr.heap.size ?_ a ?_ ?_
           · rfl
           · rfl
           · rfl
           · exact hb1)
        | (go_at_call 152
           refine (hlk.out _).mono ?_
           rintro e w2 ⟨rfl, k2⟩
           have h2 := h1.kept k2
           have hb2 := hb1.kept k2 (by simp))
        | (with_reducible refine wpList_store_part ?_ (.tmp 10) (.tmp 36) ?_ wr.heap.size ?_ a (plusP a) ?_ ?_ ?_
           · rfl
           · rfl
           · rfl
           · rfl
           · exact hb2
           intro w3 hb3 hk3 hs3
           have h3 := h2.into hk3 hgt
           have e1 := hb3.part1
           have g1 := hb3.frozen 1
           have hW : Hid (Blk _ _ _ _) := hb3.setE true
           have hR : Hid (RepIn _ _ _ _) := h3.other hgt 1 (.bool true)
           clear hk3)
        | (with_reducible refine wpList_load_part ?_ (.tmp 8) ?_ (w.heap.size + 1 + 1) ?_ (copiesP a true 0 1 k) ?_ ?_
           · rfl
           · rfl
           · rfl
           · exact hR.out.b2)
        | (with_reducible refine wpList_load_part ?_ (.tmp 10) ?_ wr.heap.size ?_ (orNone (plusP a)) ?_ ?_
           · rfl
           · rfl
           · rfl
           · exact hW.out)
        | (go_at_call 132
           refine (hbo.out _).mono ?_
           rintro e w6 ⟨rfl, k6⟩
           have h6 := hR.out.kept k6)
        | (with_reducible refine wpList_store_part ?_ (.tmp 8) (.tmp 43) ?_ (w.heap.size + 1 + 1) ?_ (copiesP a true 0 1 k) (copiesP a true 0 1 (k + 1)) ?_ ?_ ?_
           · rfl
           · rfl
           · rfl
           · rfl
           · exact h6.b2
           intro w7 hb7 hk7 hs7
           have h7 : Hid (RepIn _ _ _ _) := h6.next hk7 hb7))
      refine ⟨⟨k + 1, by go_num, by omega, h7.out⟩, ?_⟩
      simp only [intOf]; omega
    · have hke : 1 = k := by omega
      subst hke
      go_wp2_with (first
        | (with_reducible refine wpList_load_part ?_ (.tmp 8) ?_ (w.heap.size + 1 + 1) ?_ (copiesP a true 0 1 1) ?_ ?_
           · rfl
           · rfl
           · rfl
           · exact hIn.b2)
        | (with_reducible refine wpList_store_part ?_ (.tmp 6) (.tmp 44) ?_ (w.heap.size + 1) ?_ {} (copiesP a true 0 1 1) ?_ ?_ ?_
           · rfl
           · rfl
           · rfl
           · rfl
           · exact hIn.b1
           intro w8 hb8 hk8 hs8))
      exact bodyPost_ret (v := .agg (gpCells (copiesP a true 0 1 1))) (results_part Try.results134 _ _ _ (copiesP a true 0 1 1) rfl hb8) rfl ⟨rfl, hIn.k.into hk8 (by omega)⟩

end Go.Proofs.Ytgifhgnccmnbiaa

set_option linter.unusedVariables false
set_option linter.unusedSimpArgs false
namespace Go.Proofs.Ytgifhgnccmnbiaa
open Go.RowKit Go.IntWalk

def partsCells (ps : List GP) : List Value := (ps.map fun p => (gpCells p).toList).flatten
theorem partsCells_length (ps : List GP) : (partsCells ps).length = ps.length * 124 := by
  unfold partsCells
  induction ps with
  | nil => rfl
  | cons p ps ih => simp only [List.map_cons, List.flatten_cons, List.length_append, List.length_cons, ih, Array.length_toList, gpCells_size]; omega
theorem partsCells_snoc (ps : List GP) (p : GP) : partsCells (ps ++ [p]) = partsCells ps ++ (gpCells p).toList := by simp [partsCells]
theorem partsCells_get : ∀ (ps : List GP) (i j : Nat) (p : GP), ps[i]? = some p → j < 124 → (partsCells ps)[i * 124 + j]? = (gpCells p)[j]?
  | [], i, j, p, h, _ => by simp at h
  | q :: ps, 0, j, p, h, hj => by
    simp at h; subst h
    have e : partsCells (q :: ps) = (gpCells q).toList ++ partsCells ps := by simp [partsCells]
    rw [e, Nat.zero_mul, Nat.zero_add, List.getElem?_append_left (by simpa using hj)]
    simp
  | q :: ps, i + 1, j, p, h, hj => by
    simp at h
    have e : partsCells (q :: ps) = (gpCells q).toList ++ partsCells ps := by simp [partsCells]
    rw [e, List.getElem?_append_right (by simp; omega)]
    have e2 : (i + 1) * 124 + j - (gpCells q).toList.length = i * 124 + j := by simp; omega
    rw [e2]
    exact partsCells_get ps i j p h hj

/-- The parts so far. -/
def PartsIn (w : World) (B : Nat) (v : Value) (ps : List GP) : Prop := w.ownsRow B 113 124 v ps.length (partsCells ps)

theorem PartsIn.range {w : World} {B g cap : Nat} {ps : List GP} (h : PartsIn w B (.slice (some ⟨g, 0, none⟩) ps.length cap) ps) {i : Nat} {p : GP} (hp : ps[i]? = some p) : w.rangeAt g (i * 124) (gpCells p).toList := fun j v hv => by
  have hj : j < 124 := by have := (List.getElem?_eq_some_iff.1 hv).1; simpa using this
  have h1 := World.ownsRow.cells h (g := g) rfl (i * 124 + j) v (by rw [partsCells_get ps i j p hp hj, ← hv, Array.getElem?_toList])
  rwa [show (⟨g, 0, none⟩ : Addr).add (i * 124 + j) = ⟨g, i * 124 + j, none⟩ by simp [Addr.add]; omega] at h1

/-- A part read out of the middle of a block. -/
theorem wpList_load_part_mid {ops : Array Oper} {rest : List Oper} {o : Oper} {a : Act} {w : World} {Q : Exit → Act → World → Prop} (hgd : o.guard = none) (x : Operand) (ho : o.op = .load 113 x)
    (g off : Nat) (hx : a.eval x = .pointer (some ⟨g, off, none⟩)) (p : GP) (hg : w.rangeAt g off (gpCells p).toList)
    (h : wpList Try.prog ops Q rest (a.put o.dst (.agg (gpCells p))) w) : wpList Try.prog ops Q (o :: rest) a w :=
  wpList_load_mid hgd _ x ho g off hx (gpCells p).toList _ hg Try.underlying113 rfl (by simpa using size_part) (by simpa using h)

def partAtP (ps : List GP) (i : Int) : GP := if 0 ≤ i then (ps[i.toNat]?).getD noneP else noneP

set_option maxHeartbeats 2000000 in
set_option maxRecDepth 100000 in
theorem partAt_any (ps : List GP) (B : Nat) (v : Value) (i : Int) (w : World) (h : PartsIn w B v ps) (hl : ps.length ≤ 1000) (hi : -1000 ≤ i) (hi2 : i ≤ 1000) :
    PartCall 131 #[v, .int .i64 i] w (partAtP ps i) := by
  unfold PartCall
  have hz := zeroV_part
  by_cases hr : 0 ≤ i ∧ i < (ps.length : Int)
  · obtain ⟨hr1, hr2⟩ := hr
    obtain ⟨k, rfl⟩ : ∃ k : Nat, i = (k : Int) := ⟨i.toNat, by omega⟩
    have hk : k < ps.length := by omega
    obtain ⟨p, hp⟩ : ∃ p, ps[k]? = some p := ⟨_, List.getElem?_eq_getElem hk⟩
    obtain ⟨g, cap, rfl⟩ := own_form h (by omega)
    have e : partAtP ps (k : Int) = p := by unfold partAtP; rw [if_pos (by omega), Int.toNat_natCast, hp]; rfl
    rw [e]
    have hrg := h.range hp
    have hrg2 := World.rangeAt_alloc hrg (.cells (gpCells {}) 113)
    clear h e hp hrg hr1
    have hr2 : (k : Int) < (ps.length : Int) := hr2
    go_enter Try.func131, Try.ntmps131
    go_wp2_with (first
      | (with_reducible refine wpList_load_part_mid ?_ (.tmp 16) ?_ g (k * 124) ?_ p ?_ ?_
         · rfl
         · rfl
         · first | rfl | (simp [Act.eval])
         · exact hrg2)
      | (with_reducible refine wpList_store_part ?_ (.tmp 4) (.tmp 17) ?_ w.heap.size ?_ {} p ?_ ?_ ?_
         · rfl
         · rfl
         · rfl
         · rfl
         · exact Blk.new w (gpCells {}) 113
         intro w8 hb8 hk8 hs8))
    exact bodyPost_ret (v := .agg (gpCells p)) (results_part Try.results131 _ _ _ p rfl hb8) rfl ⟨rfl, ((Kept.refl [] w).alloc _).into hk8 (by omega)⟩
  · have e : partAtP ps i = noneP := by
      unfold partAtP
      split
      · rw [List.getElem?_eq_none (by omega)]; rfl
      · rfl
    rw [e]
    clear e
    obtain ⟨a, cap, rfl⟩ : ∃ a cap, v = .slice a ps.length cap := by
      rcases h.2 with ⟨h1, h2⟩ | ⟨g, cap, _, h1, _⟩
      · exact ⟨none, 0, by rw [h1, h2]⟩
      · exact ⟨_, cap, h1⟩
    by_cases hneg : i < 0
    · go_enter Try.func131, Try.ntmps131
      go_wp2_with (first
        | (refine wpList_build_none rfl rfl ?_)
        | (with_reducible refine wpList_store_part ?_ (.tmp 4) (.tmp 13) ?_ w.heap.size ?_ {} noneP ?_ ?_ ?_
           · rfl
           · rfl
           · rfl
           · rfl
           · exact Blk.new w (gpCells {}) 113
           intro w8 hb8 hk8 hs8))
      exact bodyPost_ret (v := .agg (gpCells noneP)) (results_part Try.results131 _ _ _ noneP rfl hb8) rfl ⟨rfl, ((Kept.refl [] w).alloc _).into hk8 (by omega)⟩
    · have hge : (ps.length : Int) ≤ i := by omega
      go_enter Try.func131, Try.ntmps131
      go_wp2_with (first
        | (refine wpList_build_none rfl rfl ?_)
        | (with_reducible refine wpList_store_part ?_ (.tmp 4) (.tmp 13) ?_ w.heap.size ?_ {} noneP ?_ ?_ ?_
           · rfl
           · rfl
           · rfl
           · rfl
           · exact Blk.new w (gpCells {}) 113
           intro w8 hb8 hk8 hs8))
      exact bodyPost_ret (v := .agg (gpCells noneP)) (results_part Try.results131 _ _ _ noneP rfl hb8) rfl ⟨rfl, ((Kept.refl [] w).alloc _).into hk8 (by omega)⟩

/-- Repeated, by the numbers of a node. -/
def repP (a : GP) (least most : Int) : GP :=
  if most = -1 then copiesP a true least.toNat (if least.toNat < 1 then 1 else least.toNat) (if least.toNat < 1 then 1 else least.toNat)
  else copiesP a false least.toNat most.toNat most.toNat
def repN (least most : Int) : Nat := if most = -1 then (if least.toNat < 1 then 1 else least.toNat) else most.toNat
theorem repeated_any (a : GP) (ha : a.Fit) (least most : Int) (h0 : 0 ≤ least) (h9 : least ≤ 9) (m0 : -1 ≤ most) (m9 : most ≤ 9) (hr : repN least most * a.count ≤ 60) (w : World) :
    PartCall 134 #[.agg (gpCells a), .int .i64 least, .int .i64 most] w (repP a least most) := by
  obtain ⟨l, rfl⟩ : ∃ l : Nat, least = (l : Int) := ⟨least.toNat, by omega⟩
  unfold repN at hr
  unfold repP
  rw [Int.toNat_natCast] at *
  by_cases hm : most = -1
  · subst hm
    rw [if_pos rfl] at *
    by_cases hl : l < 1
    · obtain rfl : l = 0 := by omega
      exact repeated_star a ha (by simpa using hr) w
    · rw [if_neg hl] at *
      exact repeated_from a ha l (by omega) (by omega) hr w
  · obtain ⟨t, rfl⟩ : ∃ t : Nat, most = (t : Int) := ⟨most.toNat, by omega⟩
    rw [if_neg hm] at *
    rw [Int.toNat_natCast] at *
    exact repeated_upto a ha l t (by omega) (by omega) hr w

end Go.Proofs.Ytgifhgnccmnbiaa

set_option linter.unusedVariables false
set_option linter.unusedSimpArgs false
namespace Go.Proofs.Ytgifhgnccmnbiaa
open Go.RowKit Go.IntWalk

theorem PartsIn.keep {w w' : World} {B : Nat} {v : Value} {ps : List GP} {S : List Nat} (h : PartsIn w B v ps) (k : Kept S w w') (hs : ∀ g, g ∈ S → g < B) : PartsIn w' B v ps := by
  refine ⟨h.1, ?_⟩
  rcases h.2 with h1 | ⟨g, cap, cur, h1, h2, h3, h4⟩
  · exact Or.inl h1
  · have hlt : g < w.heap.size := (Array.getElem?_eq_some_iff.1 h3).1
    exact Or.inr ⟨g, cap, cur, h1, h2, (k.block g hlt (fun hc => by have := hs g hc; omega)).trans h3, h4⟩
theorem PartsIn.fresh {w w' : World} {B : Nat} {v : Value} {ps : List GP} {o : Obj} (h : PartsIn w B v ps) (k : Kept [w.heap.size] (w.alloc o) w') : PartsIn w' B v ps := by
  refine ⟨h.1, ?_⟩
  rcases h.2 with h1 | ⟨g, cap, cur, h1, h2, h3, h4⟩
  · exact Or.inl h1
  · have hlt : g < w.heap.size := (Array.getElem?_eq_some_iff.1 h3).1
    exact Or.inr ⟨g, cap, cur, h1, h2, ((k.block g (by simp; omega) (by simp; omega)).trans (Below.heap_alloc _ _ _ hlt)).trans h3, h4⟩

def stepP (k : Nat) : GP := { count := 1, first := 1#64, last := 1#64, node := fun i => if i = 0 then k else 0 }
def partOfP (n : AN) (k : Nat) (ps : List GP) : GP :=
  if n.kind = 0 then noneP else if n.kind = 4 then bothP (partAtP ps n.left) (partAtP ps n.right) else if n.kind = 5 then eitherP (partAtP ps n.left) (partAtP ps n.right)
  else if n.kind = 6 then repP (partAtP ps n.left) n.least n.most else stepP k

/-- What a node asks, so that its part has room. -/
structure NodeFits (n : AN) (ps : List GP) : Prop where
  left : -1000 ≤ n.left ∧ n.left ≤ 1000
  right : -1000 ≤ n.right ∧ n.right ≤ 1000
  two : n.kind = 4 ∨ n.kind = 5 → (partAtP ps n.left).count + (partAtP ps n.right).count ≤ 60
  fit : n.kind = 6 → (partAtP ps n.left).Fit
  rep : n.kind = 6 → 0 ≤ n.least ∧ n.least ≤ 9 ∧ -1 ≤ n.most ∧ n.most ≤ 9 ∧ repN n.least n.most * (partAtP ps n.left).count ≤ 60

/-- The node and the result's room. -/
structure OfIn (w0 w : World) (n : AN) (x : IV) : Prop where
  b0 : Blk w w0.heap.size #[.int .i64 n.kind, .slice x.1 x.2.1 x.2.2, .bool n.neg, .int .i64 n.left, .int .i64 n.right, .int .i64 n.least, .int .i64 n.most, .int .i64 n.size] 119
  b1 : Blk w (w0.heap.size + 1) (gpCells {}) 113
  k : Kept [] w0 w
theorem OfIn.kept {w0 w w' : World} {n : AN} {x : IV} (h : OfIn w0 w n x) (k : Kept [] w w') : OfIn w0 w' n x := ⟨h.b0.kept k (by simp), h.b1.kept k (by simp), h.k.trans k⟩
theorem OfIn.fresh {w0 w w' : World} {n : AN} {x : IV} {o : Obj} (h : OfIn w0 w n x) (k : Kept [w.heap.size] (w.alloc o) w') : OfIn w0 w' n x := by
  have := h.b1.lt
  exact ⟨(h.b0.alloc o).kept k (by simp; omega), (h.b1.alloc o).kept k (by simp; omega), (h.k.alloc o).into k (by omega)⟩

set_option maxHeartbeats 2000000 in
set_option maxRecDepth 100000 in
theorem partOf_none (n : AN) (x : IV) (k : Nat) (ps : List GP) (B : Nat) (v : Value) (w : World) (h : PartsIn w B v ps) (hl : ps.length ≤ 1000) (hk : k ≤ 1000) (hn : NodeFits n ps) (hkd : n.kind = 0) :
    PartCall 94 #[.agg #[.int .i64 n.kind, .slice x.1 x.2.1 x.2.2, .bool n.neg, .int .i64 n.left, .int .i64 n.right, .int .i64 n.least, .int .i64 n.most, .int .i64 n.size], .int .i64 (k : Int), v] w (partOfP n k ps) := by
  have eP : partOfP n k ps = noneP := by unfold partOfP; rw [if_pos hkd]
  rw [eP]
  unfold PartCall
  have hz := zeroV_part
  have hB : OfIn w ((w.alloc (.cells #[.int .i64 n.kind, .slice x.1 x.2.1 x.2.2, .bool n.neg, .int .i64 n.left, .int .i64 n.right, .int .i64 n.least, .int .i64 n.most, .int .i64 n.size] 119)).alloc (.cells (gpCells {}) 113)) n x := ⟨(Blk.new _ _ _).alloc _, Blk.new1 _ _ _ _, ((Kept.refl _ _).alloc _).alloc _⟩
  have hPP : PartsIn ((w.alloc (.cells #[.int .i64 n.kind, .slice x.1 x.2.1 x.2.2, .bool n.neg, .int .i64 n.left, .int .i64 n.right, .int .i64 n.least, .int .i64 n.most, .int .i64 n.size] 119)).alloc (.cells (gpCells {}) 113)) B v ps := h.keep (((Kept.refl [] _).alloc _).alloc _) (by simp)
  have hPH : Hid (PartsIn _ _ _ _) := hPP
  have hlH : Hid (∀ w', PartsIn w' B v ps → PartCall 131 #[v, .int .i64 n.left] w' (partAtP ps n.left)) := fun w' h' => partAt_any ps B v n.left w' h' hl hn.left.1 hn.left.2
  have hrH : Hid (∀ w', PartsIn w' B v ps → PartCall 131 #[v, .int .i64 n.right] w' (partAtP ps n.right)) := fun w' h' => partAt_any ps B v n.right w' h' hl hn.right.1 hn.right.2
  have hkH : Hid (_ ) := hkd
  clear h hn hPP hkd
  generalize partAtP ps n.left = L at *
  generalize partAtP ps n.right = R at *
  go_enter Try.func94, Try.ntmps94
  go_wp2_with (first
    | (go_at_call 131
       refine (hlH.out _ hPH.out).mono ?_
       rintro e w1 ⟨rfl, k1⟩
       have hB1 := hB.kept k1
       have hP1 : Hid (PartsIn _ _ _ _) := hPH.out.keep k1 (by simp)
       clear hPH hB)
    | (with_reducible refine wpList_store_part ?_ (.tmp 7) (.tmp 13) ?_ w1.heap.size ?_ {} L ?_ ?_ ?_
       · rfl
       · rfl
       · rfl
       · rfl
       · exact Blk.new w1 (gpCells {}) 113
       intro w2 hb2 hk2 hs2
       have hB2 := hB1.fresh hk2
       have hP2 : Hid (PartsIn _ _ _ _) := hP1.out.fresh hk2
       have c4 : w2.cell? ⟨w.heap.size, 4, none⟩ = some (.int .i64 n.right) := by rw [hB2.b0.cell]; rfl
       clear hs2)
    | (go_at_call 131
       refine (hrH.out _ hP2.out).mono ?_
       rintro e w3 ⟨rfl, k3⟩
       have hB3 := hB2.kept k3
       have hb3 := hb2.kept k3 (by simp)
       clear c4)
    | (with_reducible refine wpList_store_part ?_ (.tmp 8) (.tmp 17) ?_ w3.heap.size ?_ {} R ?_ ?_ ?_
       · rfl
       · rfl
       · rfl
       · rfl
       · exact Blk.new w3 (gpCells {}) 113
       intro w4 hb4 hk4 hs4
       have hB4 := hB3.fresh hk4
       have hlt3 := hb3.lt
       have hlt1 := hB1.b1.lt
       have hL4 : Blk w4 w1.heap.size (gpCells L) 113 := (hb3.alloc _).kept hk4 (by simp; omega)
       have e0 : w4.cell? ⟨w.heap.size, 0, none⟩ = some (.int .i64 n.kind) := by rw [hB4.b0.cell]; rfl
       have e5 : w4.cell? ⟨w.heap.size, 5, none⟩ = some (.int .i64 n.least) := by rw [hB4.b0.cell]; rfl
       have e6 : w4.cell? ⟨w.heap.size, 6, none⟩ = some (.int .i64 n.most) := by rw [hB4.b0.cell]; rfl
       rw [hkH.out] at e0)
    | (refine wpList_build_none rfl rfl ?_)
    | (with_reducible refine wpList_store_part ?_ (.tmp 6) (.tmp 22) ?_ (w.heap.size + 1) ?_ {} noneP ?_ ?_ ?_
       · rfl
       · rfl
       · rfl
       · rfl
       · exact hB4.b1
       intro w8 hb8 hk8 hs8
       have hK8 := hB4.k.into hk8 (by omega)))
  exact bodyPost_ret (v := .agg (gpCells noneP)) (results_part Try.results94 _ _ _ noneP rfl hb8) rfl ⟨rfl, hK8⟩

set_option maxHeartbeats 2000000 in
set_option maxRecDepth 100000 in
theorem partOf_both (n : AN) (x : IV) (k : Nat) (ps : List GP) (B : Nat) (v : Value) (w : World) (h : PartsIn w B v ps) (hl : ps.length ≤ 1000) (hk : k ≤ 1000) (hn : NodeFits n ps) (hkd : n.kind = 4) :
    PartCall 94 #[.agg #[.int .i64 n.kind, .slice x.1 x.2.1 x.2.2, .bool n.neg, .int .i64 n.left, .int .i64 n.right, .int .i64 n.least, .int .i64 n.most, .int .i64 n.size], .int .i64 (k : Int), v] w (partOfP n k ps) := by
  have eP : partOfP n k ps = bothP (partAtP ps n.left) (partAtP ps n.right) := by unfold partOfP; rw [if_neg (by omega), if_pos hkd]
  rw [eP]
  have hcall : Hid (∀ w, PartCall 132 _ w _) := fun w => both_any (partAtP ps n.left) (partAtP ps n.right) (hn.two (Or.inl hkd)) w
  generalize bothP (partAtP ps n.left) (partAtP ps n.right) = P at *
  unfold PartCall
  have hz := zeroV_part
  have hB : OfIn w ((w.alloc (.cells #[.int .i64 n.kind, .slice x.1 x.2.1 x.2.2, .bool n.neg, .int .i64 n.left, .int .i64 n.right, .int .i64 n.least, .int .i64 n.most, .int .i64 n.size] 119)).alloc (.cells (gpCells {}) 113)) n x := ⟨(Blk.new _ _ _).alloc _, Blk.new1 _ _ _ _, ((Kept.refl _ _).alloc _).alloc _⟩
  have hPP : PartsIn ((w.alloc (.cells #[.int .i64 n.kind, .slice x.1 x.2.1 x.2.2, .bool n.neg, .int .i64 n.left, .int .i64 n.right, .int .i64 n.least, .int .i64 n.most, .int .i64 n.size] 119)).alloc (.cells (gpCells {}) 113)) B v ps := h.keep (((Kept.refl [] _).alloc _).alloc _) (by simp)
  have hPH : Hid (PartsIn _ _ _ _) := hPP
  have hlH : Hid (∀ w', PartsIn w' B v ps → PartCall 131 #[v, .int .i64 n.left] w' (partAtP ps n.left)) := fun w' h' => partAt_any ps B v n.left w' h' hl hn.left.1 hn.left.2
  have hrH : Hid (∀ w', PartsIn w' B v ps → PartCall 131 #[v, .int .i64 n.right] w' (partAtP ps n.right)) := fun w' h' => partAt_any ps B v n.right w' h' hl hn.right.1 hn.right.2
  have hkH : Hid (_ ) := hkd
  clear h hn hPP hkd
  generalize partAtP ps n.left = L at *
  generalize partAtP ps n.right = R at *
  go_enter Try.func94, Try.ntmps94
  go_wp2_with (first
    | (go_at_call 131
       refine (hlH.out _ hPH.out).mono ?_
       rintro e w1 ⟨rfl, k1⟩
       have hB1 := hB.kept k1
       have hP1 : Hid (PartsIn _ _ _ _) := hPH.out.keep k1 (by simp)
       clear hPH hB)
    | (with_reducible refine wpList_store_part ?_ (.tmp 7) (.tmp 13) ?_ w1.heap.size ?_ {} L ?_ ?_ ?_
       · rfl
       · rfl
       · rfl
       · rfl
       · exact Blk.new w1 (gpCells {}) 113
       intro w2 hb2 hk2 hs2
       have hB2 := hB1.fresh hk2
       have hP2 : Hid (PartsIn _ _ _ _) := hP1.out.fresh hk2
       have c4 : w2.cell? ⟨w.heap.size, 4, none⟩ = some (.int .i64 n.right) := by rw [hB2.b0.cell]; rfl
       clear hs2)
    | (go_at_call 131
       refine (hrH.out _ hP2.out).mono ?_
       rintro e w3 ⟨rfl, k3⟩
       have hB3 := hB2.kept k3
       have hb3 := hb2.kept k3 (by simp)
       clear c4)
    | (with_reducible refine wpList_store_part ?_ (.tmp 8) (.tmp 17) ?_ w3.heap.size ?_ {} R ?_ ?_ ?_
       · rfl
       · rfl
       · rfl
       · rfl
       · exact Blk.new w3 (gpCells {}) 113
       intro w4 hb4 hk4 hs4
       have hB4 := hB3.fresh hk4
       have hlt3 := hb3.lt
       have hlt1 := hB1.b1.lt
       have hL4 : Blk w4 w1.heap.size (gpCells L) 113 := (hb3.alloc _).kept hk4 (by simp; omega)
       have e0 : w4.cell? ⟨w.heap.size, 0, none⟩ = some (.int .i64 n.kind) := by rw [hB4.b0.cell]; rfl
       have e5 : w4.cell? ⟨w.heap.size, 5, none⟩ = some (.int .i64 n.least) := by rw [hB4.b0.cell]; rfl
       have e6 : w4.cell? ⟨w.heap.size, 6, none⟩ = some (.int .i64 n.most) := by rw [hB4.b0.cell]; rfl
       rw [hkH.out] at e0)
    | (with_reducible refine wpList_load_part ?_ (.tmp 7) ?_ w1.heap.size ?_ L ?_ ?_
       · rfl
       · rfl
       · rfl
       · exact hL4)
    | (with_reducible refine wpList_load_part ?_ (.tmp 8) ?_ w3.heap.size ?_ R ?_ ?_
       · rfl
       · rfl
       · rfl
       · exact hb4)
    | (go_at_call 132
       refine (hcall.out _).mono ?_
       rintro e w5 ⟨rfl, k5⟩
       have hB5 := hB4.kept k5)
    | (with_reducible refine wpList_store_part ?_ (.tmp 6) (.tmp 27) ?_ (w.heap.size + 1) ?_ {} P ?_ ?_ ?_
       · rfl
       · rfl
       · rfl
       · rfl
       · exact hB5.b1
       intro w8 hb8 hk8 hs8
       have hK8 := hB5.k.into hk8 (by omega)))
  exact bodyPost_ret (v := .agg (gpCells P)) (results_part Try.results94 _ _ _ P rfl hb8) rfl ⟨rfl, hK8⟩

set_option maxHeartbeats 2000000 in
set_option maxRecDepth 100000 in
theorem partOf_either (n : AN) (x : IV) (k : Nat) (ps : List GP) (B : Nat) (v : Value) (w : World) (h : PartsIn w B v ps) (hl : ps.length ≤ 1000) (hk : k ≤ 1000) (hn : NodeFits n ps) (hkd : n.kind = 5) :
    PartCall 94 #[.agg #[.int .i64 n.kind, .slice x.1 x.2.1 x.2.2, .bool n.neg, .int .i64 n.left, .int .i64 n.right, .int .i64 n.least, .int .i64 n.most, .int .i64 n.size], .int .i64 (k : Int), v] w (partOfP n k ps) := by
  have eP : partOfP n k ps = eitherP (partAtP ps n.left) (partAtP ps n.right) := by unfold partOfP; rw [if_neg (by omega), if_neg (by omega), if_pos hkd]
  rw [eP]
  have hcall : Hid (∀ w, PartCall 133 _ w _) := fun w => meither_any (partAtP ps n.left) (partAtP ps n.right) (hn.two (Or.inr hkd)) w
  generalize eitherP (partAtP ps n.left) (partAtP ps n.right) = P at *
  unfold PartCall
  have hz := zeroV_part
  have hB : OfIn w ((w.alloc (.cells #[.int .i64 n.kind, .slice x.1 x.2.1 x.2.2, .bool n.neg, .int .i64 n.left, .int .i64 n.right, .int .i64 n.least, .int .i64 n.most, .int .i64 n.size] 119)).alloc (.cells (gpCells {}) 113)) n x := ⟨(Blk.new _ _ _).alloc _, Blk.new1 _ _ _ _, ((Kept.refl _ _).alloc _).alloc _⟩
  have hPP : PartsIn ((w.alloc (.cells #[.int .i64 n.kind, .slice x.1 x.2.1 x.2.2, .bool n.neg, .int .i64 n.left, .int .i64 n.right, .int .i64 n.least, .int .i64 n.most, .int .i64 n.size] 119)).alloc (.cells (gpCells {}) 113)) B v ps := h.keep (((Kept.refl [] _).alloc _).alloc _) (by simp)
  have hPH : Hid (PartsIn _ _ _ _) := hPP
  have hlH : Hid (∀ w', PartsIn w' B v ps → PartCall 131 #[v, .int .i64 n.left] w' (partAtP ps n.left)) := fun w' h' => partAt_any ps B v n.left w' h' hl hn.left.1 hn.left.2
  have hrH : Hid (∀ w', PartsIn w' B v ps → PartCall 131 #[v, .int .i64 n.right] w' (partAtP ps n.right)) := fun w' h' => partAt_any ps B v n.right w' h' hl hn.right.1 hn.right.2
  have hkH : Hid (_ ) := hkd
  clear h hn hPP hkd
  generalize partAtP ps n.left = L at *
  generalize partAtP ps n.right = R at *
  go_enter Try.func94, Try.ntmps94
  go_wp2_with (first
    | (go_at_call 131
       refine (hlH.out _ hPH.out).mono ?_
       rintro e w1 ⟨rfl, k1⟩
       have hB1 := hB.kept k1
       have hP1 : Hid (PartsIn _ _ _ _) := hPH.out.keep k1 (by simp)
       clear hPH hB)
    | (with_reducible refine wpList_store_part ?_ (.tmp 7) (.tmp 13) ?_ w1.heap.size ?_ {} L ?_ ?_ ?_
       · rfl
       · rfl
       · rfl
       · rfl
       · exact Blk.new w1 (gpCells {}) 113
       intro w2 hb2 hk2 hs2
       have hB2 := hB1.fresh hk2
       have hP2 : Hid (PartsIn _ _ _ _) := hP1.out.fresh hk2
       have c4 : w2.cell? ⟨w.heap.size, 4, none⟩ = some (.int .i64 n.right) := by rw [hB2.b0.cell]; rfl
       clear hs2)
    | (go_at_call 131
       refine (hrH.out _ hP2.out).mono ?_
       rintro e w3 ⟨rfl, k3⟩
       have hB3 := hB2.kept k3
       have hb3 := hb2.kept k3 (by simp)
       clear c4)
    | (with_reducible refine wpList_store_part ?_ (.tmp 8) (.tmp 17) ?_ w3.heap.size ?_ {} R ?_ ?_ ?_
       · rfl
       · rfl
       · rfl
       · rfl
       · exact Blk.new w3 (gpCells {}) 113
       intro w4 hb4 hk4 hs4
       have hB4 := hB3.fresh hk4
       have hlt3 := hb3.lt
       have hlt1 := hB1.b1.lt
       have hL4 : Blk w4 w1.heap.size (gpCells L) 113 := (hb3.alloc _).kept hk4 (by simp; omega)
       have e0 : w4.cell? ⟨w.heap.size, 0, none⟩ = some (.int .i64 n.kind) := by rw [hB4.b0.cell]; rfl
       have e5 : w4.cell? ⟨w.heap.size, 5, none⟩ = some (.int .i64 n.least) := by rw [hB4.b0.cell]; rfl
       have e6 : w4.cell? ⟨w.heap.size, 6, none⟩ = some (.int .i64 n.most) := by rw [hB4.b0.cell]; rfl
       rw [hkH.out] at e0)
    | (with_reducible refine wpList_load_part ?_ (.tmp 7) ?_ w1.heap.size ?_ L ?_ ?_
       · rfl
       · rfl
       · rfl
       · exact hL4)
    | (with_reducible refine wpList_load_part ?_ (.tmp 8) ?_ w3.heap.size ?_ R ?_ ?_
       · rfl
       · rfl
       · rfl
       · exact hb4)
    | (go_at_call 133
       refine (hcall.out _).mono ?_
       rintro e w5 ⟨rfl, k5⟩
       have hB5 := hB4.kept k5)
    | (with_reducible refine wpList_store_part ?_ (.tmp 6) (.tmp 32) ?_ (w.heap.size + 1) ?_ {} P ?_ ?_ ?_
       · rfl
       · rfl
       · rfl
       · rfl
       · exact hB5.b1
       intro w8 hb8 hk8 hs8
       have hK8 := hB5.k.into hk8 (by omega)))
  exact bodyPost_ret (v := .agg (gpCells P)) (results_part Try.results94 _ _ _ P rfl hb8) rfl ⟨rfl, hK8⟩

set_option maxHeartbeats 2000000 in
set_option maxRecDepth 100000 in
theorem partOf_rep (n : AN) (x : IV) (k : Nat) (ps : List GP) (B : Nat) (v : Value) (w : World) (h : PartsIn w B v ps) (hl : ps.length ≤ 1000) (hk : k ≤ 1000) (hn : NodeFits n ps) (hkd : n.kind = 6) :
    PartCall 94 #[.agg #[.int .i64 n.kind, .slice x.1 x.2.1 x.2.2, .bool n.neg, .int .i64 n.left, .int .i64 n.right, .int .i64 n.least, .int .i64 n.most, .int .i64 n.size], .int .i64 (k : Int), v] w (partOfP n k ps) := by
  have eP : partOfP n k ps = repP (partAtP ps n.left) n.least n.most := by unfold partOfP; rw [if_neg (by omega), if_neg (by omega), if_neg (by omega), if_pos hkd]
  rw [eP]
  obtain ⟨q1, q2, q3, q4, q5⟩ := hn.rep hkd
  have hcall : Hid (∀ w, PartCall 134 _ w _) := fun w => repeated_any (partAtP ps n.left) (hn.fit hkd) n.least n.most q1 q2 q3 q4 q5 w
  clear q5
  generalize repP (partAtP ps n.left) n.least n.most = P at *
  unfold PartCall
  have hz := zeroV_part
  have hB : OfIn w ((w.alloc (.cells #[.int .i64 n.kind, .slice x.1 x.2.1 x.2.2, .bool n.neg, .int .i64 n.left, .int .i64 n.right, .int .i64 n.least, .int .i64 n.most, .int .i64 n.size] 119)).alloc (.cells (gpCells {}) 113)) n x := ⟨(Blk.new _ _ _).alloc _, Blk.new1 _ _ _ _, ((Kept.refl _ _).alloc _).alloc _⟩
  have hPP : PartsIn ((w.alloc (.cells #[.int .i64 n.kind, .slice x.1 x.2.1 x.2.2, .bool n.neg, .int .i64 n.left, .int .i64 n.right, .int .i64 n.least, .int .i64 n.most, .int .i64 n.size] 119)).alloc (.cells (gpCells {}) 113)) B v ps := h.keep (((Kept.refl [] _).alloc _).alloc _) (by simp)
  have hPH : Hid (PartsIn _ _ _ _) := hPP
  have hlH : Hid (∀ w', PartsIn w' B v ps → PartCall 131 #[v, .int .i64 n.left] w' (partAtP ps n.left)) := fun w' h' => partAt_any ps B v n.left w' h' hl hn.left.1 hn.left.2
  have hrH : Hid (∀ w', PartsIn w' B v ps → PartCall 131 #[v, .int .i64 n.right] w' (partAtP ps n.right)) := fun w' h' => partAt_any ps B v n.right w' h' hl hn.right.1 hn.right.2
  have hkH : Hid (_ ) := hkd
  clear h hn hPP hkd
  generalize partAtP ps n.left = L at *
  generalize partAtP ps n.right = R at *
  go_enter Try.func94, Try.ntmps94
  go_wp2_with (first
    | (go_at_call 131
       refine (hlH.out _ hPH.out).mono ?_
       rintro e w1 ⟨rfl, k1⟩
       have hB1 := hB.kept k1
       have hP1 : Hid (PartsIn _ _ _ _) := hPH.out.keep k1 (by simp)
       clear hPH hB)
    | (with_reducible refine wpList_store_part ?_ (.tmp 7) (.tmp 13) ?_ w1.heap.size ?_ {} L ?_ ?_ ?_
       · rfl
       · rfl
       · rfl
       · rfl
       · exact Blk.new w1 (gpCells {}) 113
       intro w2 hb2 hk2 hs2
       have hB2 := hB1.fresh hk2
       have hP2 : Hid (PartsIn _ _ _ _) := hP1.out.fresh hk2
       have c4 : w2.cell? ⟨w.heap.size, 4, none⟩ = some (.int .i64 n.right) := by rw [hB2.b0.cell]; rfl
       clear hs2)
    | (go_at_call 131
       refine (hrH.out _ hP2.out).mono ?_
       rintro e w3 ⟨rfl, k3⟩
       have hB3 := hB2.kept k3
       have hb3 := hb2.kept k3 (by simp)
       clear c4)
    | (with_reducible refine wpList_store_part ?_ (.tmp 8) (.tmp 17) ?_ w3.heap.size ?_ {} R ?_ ?_ ?_
       · rfl
       · rfl
       · rfl
       · rfl
       · exact Blk.new w3 (gpCells {}) 113
       intro w4 hb4 hk4 hs4
       have hB4 := hB3.fresh hk4
       have hlt3 := hb3.lt
       have hlt1 := hB1.b1.lt
       have hL4 : Blk w4 w1.heap.size (gpCells L) 113 := (hb3.alloc _).kept hk4 (by simp; omega)
       have e0 : w4.cell? ⟨w.heap.size, 0, none⟩ = some (.int .i64 n.kind) := by rw [hB4.b0.cell]; rfl
       have e5 : w4.cell? ⟨w.heap.size, 5, none⟩ = some (.int .i64 n.least) := by rw [hB4.b0.cell]; rfl
       have e6 : w4.cell? ⟨w.heap.size, 6, none⟩ = some (.int .i64 n.most) := by rw [hB4.b0.cell]; rfl
       rw [hkH.out] at e0)
    | (with_reducible refine wpList_load_part ?_ (.tmp 7) ?_ w1.heap.size ?_ L ?_ ?_
       · rfl
       · rfl
       · rfl
       · exact hL4)
    | (go_at_call 134
       refine (hcall.out _).mono ?_
       rintro e w5 ⟨rfl, k5⟩
       have hB5 := hB4.kept k5)
    | (with_reducible refine wpList_store_part ?_ (.tmp 6) (.tmp 40) ?_ (w.heap.size + 1) ?_ {} P ?_ ?_ ?_
       · rfl
       · rfl
       · rfl
       · rfl
       · exact hB5.b1
       intro w8 hb8 hk8 hs8
       have hK8 := hB5.k.into hk8 (by omega)))
  exact bodyPost_ret (v := .agg (gpCells P)) (results_part Try.results94 _ _ _ P rfl hb8) rfl ⟨rfl, hK8⟩

set_option maxHeartbeats 2000000 in
set_option maxRecDepth 100000 in
theorem partOf_step (n : AN) (x : IV) (k : Nat) (ps : List GP) (B : Nat) (v : Value) (w : World) (h : PartsIn w B v ps) (hl : ps.length ≤ 1000) (hk : k ≤ 1000) (hn : NodeFits n ps) (hkd : n.kind = 1 ∨ n.kind = 2 ∨ n.kind = 3) :
    PartCall 94 #[.agg #[.int .i64 n.kind, .slice x.1 x.2.1 x.2.2, .bool n.neg, .int .i64 n.left, .int .i64 n.right, .int .i64 n.least, .int .i64 n.most, .int .i64 n.size], .int .i64 (k : Int), v] w (partOfP n k ps) := by
  have eP : partOfP n k ps = stepP k := by unfold partOfP; rw [if_neg (by omega), if_neg (by omega), if_neg (by omega), if_neg (by omega)]
  rw [eP]
  rw [show n.kind = n.kind from rfl]
  have hk0 : n.kind ≠ 0 := by omega
  have hk4 : n.kind ≠ 4 := by omega
  have hk5' : n.kind ≠ 5 := by omega
  have hk6' : n.kind ≠ 6 := by omega
  unfold PartCall
  have hz := zeroV_part
  have hB : OfIn w ((w.alloc (.cells #[.int .i64 n.kind, .slice x.1 x.2.1 x.2.2, .bool n.neg, .int .i64 n.left, .int .i64 n.right, .int .i64 n.least, .int .i64 n.most, .int .i64 n.size] 119)).alloc (.cells (gpCells {}) 113)) n x := ⟨(Blk.new _ _ _).alloc _, Blk.new1 _ _ _ _, ((Kept.refl _ _).alloc _).alloc _⟩
  have hPP : PartsIn ((w.alloc (.cells #[.int .i64 n.kind, .slice x.1 x.2.1 x.2.2, .bool n.neg, .int .i64 n.left, .int .i64 n.right, .int .i64 n.least, .int .i64 n.most, .int .i64 n.size] 119)).alloc (.cells (gpCells {}) 113)) B v ps := h.keep (((Kept.refl [] _).alloc _).alloc _) (by simp)
  have hPH : Hid (PartsIn _ _ _ _) := hPP
  have hlH : Hid (∀ w', PartsIn w' B v ps → PartCall 131 #[v, .int .i64 n.left] w' (partAtP ps n.left)) := fun w' h' => partAt_any ps B v n.left w' h' hl hn.left.1 hn.left.2
  have hrH : Hid (∀ w', PartsIn w' B v ps → PartCall 131 #[v, .int .i64 n.right] w' (partAtP ps n.right)) := fun w' h' => partAt_any ps B v n.right w' h' hl hn.right.1 hn.right.2
  have hkH : Hid (_ ) := hkd
  clear h hn hPP hkd
  generalize partAtP ps n.left = L at *
  generalize partAtP ps n.right = R at *
  go_enter Try.func94, Try.ntmps94
  go_wp2_with (first
    | (go_at_call 131
       refine (hlH.out _ hPH.out).mono ?_
       rintro e w1 ⟨rfl, k1⟩
       have hB1 := hB.kept k1
       have hP1 : Hid (PartsIn _ _ _ _) := hPH.out.keep k1 (by simp)
       clear hPH hB)
    | (with_reducible refine wpList_store_part ?_ (.tmp 7) (.tmp 13) ?_ w1.heap.size ?_ {} L ?_ ?_ ?_
       · rfl
       · rfl
       · rfl
       · rfl
       · exact Blk.new w1 (gpCells {}) 113
       intro w2 hb2 hk2 hs2
       have hB2 := hB1.fresh hk2
       have hP2 : Hid (PartsIn _ _ _ _) := hP1.out.fresh hk2
       have c4 : w2.cell? ⟨w.heap.size, 4, none⟩ = some (.int .i64 n.right) := by rw [hB2.b0.cell]; rfl
       clear hs2)
    | (go_at_call 131
       refine (hrH.out _ hP2.out).mono ?_
       rintro e w3 ⟨rfl, k3⟩
       have hB3 := hB2.kept k3
       have hb3 := hb2.kept k3 (by simp)
       clear c4)
    | (with_reducible refine wpList_store_part ?_ (.tmp 8) (.tmp 17) ?_ w3.heap.size ?_ {} R ?_ ?_ ?_
       · rfl
       · rfl
       · rfl
       · rfl
       · exact Blk.new w3 (gpCells {}) 113
       intro w4 hb4 hk4 hs4
       have hB4 := hB3.fresh hk4
       have hlt3 := hb3.lt
       have hlt1 := hB1.b1.lt
       have hL4 : Blk w4 w1.heap.size (gpCells L) 113 := (hb3.alloc _).kept hk4 (by simp; omega)
       have e0 : w4.cell? ⟨w.heap.size, 0, none⟩ = some (.int .i64 n.kind) := by rw [hB4.b0.cell]; rfl
       have e5 : w4.cell? ⟨w.heap.size, 5, none⟩ = some (.int .i64 n.least) := by rw [hB4.b0.cell]; rfl
       have e6 : w4.cell? ⟨w.heap.size, 6, none⟩ = some (.int .i64 n.most) := by rw [hB4.b0.cell]; rfl
       clear hs4)
    | (refine wpList_build_step rfl rfl ?_)
    | (with_reducible refine wpList_store_part ?_ (.tmp 9) (.tmp 41) ?_ w4.heap.size ?_ {} { count := 1, first := 1#64, last := 1#64 } ?_ ?_ ?_
       · rfl
       · rfl
       · rfl
       · rfl
       · exact Blk.new w4 (gpCells {}) 113
       intro w5 hb5 hk5 hs5
       have hB5 := hB4.fresh hk5
       have hlt4 := hB4.b1.lt
       have f5 := hb5.frozen 64
       have d5 := hb5.cell 64
       rw [part_node _ 0 (by decide)] at d5
       have hb6 := hb5.set (64 + 0) (.int .i64 (k : Int))
       rw [part_set_node _ (stepP k) 0 k (by decide) ⟨rfl, rfl, rfl, rfl, fun _ _ => rfl, fun _ _ => rfl⟩] at hb6
       have hb6 : Hid (Blk _ _ _ _) := hb6
       have hB6 : Hid (OfIn _ _ _ _) := ⟨hB5.b0.other (b' := w4.heap.size) (64 + 0) (.int .i64 (k : Int)) (by omega), hB5.b1.other (b' := w4.heap.size) (64 + 0) (.int .i64 (k : Int)) (by omega), hB5.k.setCell (p := ⟨w4.heap.size, 64 + 0, none⟩) (Or.inr (by simp; omega)) (.int .i64 (k : Int))⟩
       clear hk5)
    | (with_reducible refine wpList_load_part ?_ (.tmp 9) ?_ w4.heap.size ?_ (stepP k) ?_ ?_
       · rfl
       · rfl
       · rfl
       · exact hb6.out)
    | (with_reducible refine wpList_store_part ?_ (.tmp 6) (.tmp 45) ?_ (w.heap.size + 1) ?_ {} (stepP k) ?_ ?_ ?_
       · rfl
       · rfl
       · rfl
       · rfl
       · exact hB6.out.b1
       intro w8 hb8 hk8 hs8
       have hK8 := hB6.out.k.into hk8 (by omega)))
  exact bodyPost_ret (v := .agg (gpCells (stepP k))) (results_part Try.results94 _ _ _ (stepP k) rfl hb8) rfl ⟨rfl, hK8⟩

theorem partOf_any (n : AN) (x : IV) (k : Nat) (ps : List GP) (B : Nat) (v : Value) (w : World) (h : PartsIn w B v ps) (hl : ps.length ≤ 1000) (hk : k ≤ 1000) (hn : NodeFits n ps) (h0 : 0 ≤ n.kind) (h6 : n.kind ≤ 6) :
    PartCall 94 #[.agg #[.int .i64 n.kind, .slice x.1 x.2.1 x.2.2, .bool n.neg, .int .i64 n.left, .int .i64 n.right, .int .i64 n.least, .int .i64 n.most, .int .i64 n.size], .int .i64 (k : Int), v] w (partOfP n k ps) := by
  by_cases e0 : n.kind = 0
  · exact partOf_none n x k ps B v w h hl hk hn e0
  by_cases e4 : n.kind = 4
  · exact partOf_both n x k ps B v w h hl hk hn e4
  by_cases e5 : n.kind = 5
  · exact partOf_either n x k ps B v w h hl hk hn e5
  by_cases e6 : n.kind = 6
  · exact partOf_rep n x k ps B v w h hl hk hn e6
  exact partOf_step n x k ps B v w h hl hk hn (by omega)

end Go.Proofs.Ytgifhgnccmnbiaa
