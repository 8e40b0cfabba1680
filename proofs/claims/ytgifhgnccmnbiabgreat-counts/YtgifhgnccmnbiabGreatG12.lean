/- The machine: repeated: copies of a part, one behind the other. -/
import Derived.Test.YtgifhgnccmnbiabGreatG11
set_option linter.unusedVariables false
set_option linter.unusedSimpArgs false
set_option maxHeartbeats 4000000
set_option maxRecDepth 100000
namespace Go.Proofs.YtgifhgnccmnbiabGreat
open Go.RowKit Go.IntWalk
structure RepIn (w0 w:World) (a c:GP):Prop where
 b0:Blk w w0.heap.size (gpCells a) 107
 b1:Blk w (w0.heap.size+1) (gpCells {}) 107
 b2:Blk w (w0.heap.size+1+1) (gpCells c) 107
 k:Kept [] w0 w
section
variable {w0 w w':World} {a c c':GP}
theorem RepIn.kept (h:RepIn w0 w a c) (k:Kept [] w w'):RepIn w0 w' a c:=
 ⟨h.b0.kept k (by simp),h.b1.kept k (by simp),h.b2.kept k (by simp),h.k.trans k⟩
theorem RepIn.into {g:Nat} (h:RepIn w0 w a c) (k:Kept [g] w w') (hg:w0.heap.size+1+1<g):RepIn w0 w' a c:=
 ⟨h.b0.kept k (by simp;omega),h.b1.kept k (by simp;omega),h.b2.kept k (by simp;omega),h.k.into k (by omega)⟩
theorem RepIn.other {g:Nat} (h:RepIn w0 w a c) (hg:w0.heap.size+1+1<g) (j:Nat) (u:Value):RepIn w0 (w.setCell ⟨g,j,none⟩ u) a c:=
 ⟨h.b0.other _ _ (by omega),h.b1.other _ _ (by omega),h.b2.other _ _ (by omega),h.k.setCell (Or.inr (by simp;omega)) _⟩
theorem RepIn.next (h:RepIn w0 w a c) (k:Kept [w0.heap.size+1+1] w w') (hb:Blk w' (w0.heap.size+1+1) (gpCells c') 107):RepIn w0 w' a c':=
 ⟨h.b0.kept k (by simp;omega),h.b1.kept k (by simp),hb,h.k.into k (by omega)⟩
theorem RepIn.new (h:RepIn w0 w a c) (cs:Array Value) (t:TypeId) (h2:Blk w' w.heap.size cs t) (k:Kept [w.heap.size] (w.alloc (.cells (gpCells {}) 107)) w'):RepIn w0 w' a c:=by
 have:=h.b2.lt
 exact (h.kept ((Kept.refl _ _).alloc _)).into k this
end
theorem one_plain (a:GP) {e:Bool} {l t k:Nat} (h1:¬(e=true∧k=t)) (h2:¬l<k):oneP a e l t k=a:=by
 unfold oneP;simp only [];rw [if_neg h2,if_neg h1]
theorem one_none (a:GP) {e:Bool} {l t k:Nat} (h1:¬(e=true∧k=t)) (h2:l<k):oneP a e l t k=orNone a:=by
 unfold oneP;simp only [];rw [if_pos h2,if_neg h1]
theorem one_plus (a:GP) {e:Bool} {l t k:Nat} (h1:e=true∧k=t) (h2:¬l<k):oneP a e l t k=plusP a:=by
 unfold oneP;simp only [];rw [if_neg h2,if_pos h1]
theorem one_both (a:GP) {e:Bool} {l t k:Nat} (h1:e=true∧k=t) (h2:l<k):oneP a e l t k=orNone (plusP a):=by
 unfold oneP;simp only [];rw [if_pos h2,if_pos h1]
theorem both_call (a:GP) (ha:a.Fit) (e:Bool) (l t k:Nat) (hr:(k+1)*a.count≤60) (w:World):
 PartCall 93 #[.agg (gpCells (copiesP a e l t k)),.agg (gpCells (oneP a e l t (k+1)))] w (copiesP a e l t (k+1)):=by
 rw [Nat.add_one_mul] at hr
 obtain ⟨_,h2⟩:=copiesP_fit ha e l t k (by omega)
 obtain ⟨_,h4⟩:=oneP_fit ha e l t (k+1)
 exact both_any _ _ (by rw [h2,h4];exact hr) w
theorem repeated_upto (a:GP) (ha:a.Fit) (l t:Nat) (hl:l≤1000) (ht:t≤1000) (hr:t*a.count≤60) (w:World):
 PartCall 95 #[.agg (gpCells a),.int .i64 (l:Int),.int .i64 (t:Int)] w (copiesP a false l t t):=by
 unfold PartCall
 have hz:=zeroV_part
 have hlk:Hid (∀w,PartCall 111 #[.agg (gpCells a),UV a.last,UV a.first] w (plusP a)):=fun w=>linked_any a a.last a.first w
 have hstart:Hid (∀w1,Blk w1 (w.heap.size+1+1) (gpCells noneP) 107→Kept [w.heap.size+1+1] (((w.alloc (.cells (gpCells a) 107)).alloc (.cells (gpCells {}) 107)).alloc (.cells (gpCells {}) 107)) w1→RepIn w w1 a noneP):=fun w1 hb hk=>
  ⟨(((Blk.new w _ _).alloc _).alloc _).kept hk (by simp;omega),((Blk.new1 w _ _ _).alloc _).kept hk (by simp),hb,((((Kept.refl _ _).alloc _).alloc _).alloc _).into hk (by omega)⟩
 go_enter Tryz.func95,Tryz.ntmps95
 go_wp2_with (first
  | (refine wpList_build_none rfl rfl ?_)
  | (with_reducible refine wpList_store_part ?_ (.tmp 8) (.tmp 17) ?_ (w.heap.size+1+1) ?_ {} noneP ?_ ?_ ?_
     · rfl
     · rfl
     · rfl
     · rfl
     · exact Blk.new2 w (.cells (gpCells a) 107) (.cells (gpCells {}) 107) (gpCells {}) 107
     intro w1 hb1 hk1 hs1
     have hst:=hstart.out w1 hb1 hk1
     clear hb1 hk1 hs1))
 go_loopw [9] (fun iv wr=>∃k:Nat,iv=.int .i64 ((k:Int)+1)∧k≤t∧RepIn w wr a (copiesP a false l t k)) (fun iv _=>((t:Int)+1-intOf iv).toNat)
 case atStart=>exact ⟨0,rfl,Nat.zero_le _,hst⟩
 case round=>
  obtain ⟨k,rfl,hkT,hIn⟩:=hrel
  clear hst hstart
  have hgt:=hIn.b2.lt
  by_cases hlt:(k:Int)<(t:Int)
  · have hkn:k<t:=by omega
    have hbo:Hid (∀w,PartCall _ _ w _):=fun w=>both_call a ha false l t k (Nat.le_trans (Nat.mul_le_mul_right _ hkn) hr) w
    by_cases hcc:(l:Int)<(k:Int)+1
    · rw [one_none a (by first | exact (fun hc=>absurd hc.1 (by decide)) | exact ⟨rfl,by omega⟩ | exact (fun hc=>by have:=hc.2;omega)) (by omega)] at hbo
      go_wp2_with (first
       | (with_reducible refine wpList_load_part ?_ (.tmp 3) ?_ w.heap.size ?_ a ?_ ?_
          · rfl
          · rfl
          · rfl
          · exact hIn.b0)
       | (with_reducible refine wpList_store_part ?_ (.tmp 10) (.tmp 23) ?_ wr.heap.size ?_ {} a ?_ ?_ ?_
          · rfl
          · rfl
          · rfl
          · rfl
          · exact Blk.new wr (gpCells {}) 107
          intro w1 hb1 hk1 hs1
          have h1:=hIn.new _ _ hb1 hk1
          have c02:=h1.b0.part2
          have c03:=h1.b0.part3
          have d1:=hb1.part1
          have f1:=hb1.frozen 1
          have hW:Hid (Blk _ _ _ _):=hb1.setE true
          have hR:Hid (RepIn _ _ _ _):=h1.other hgt 1 (.bool true)
          clear hk1)
       | (with_reducible refine wpList_load_part ?_ (.tmp 8) ?_ (w.heap.size+1+1) ?_ (copiesP a false l t k) ?_ ?_
          · rfl
          · rfl
          · rfl
          · exact hR.out.b2)
       | (with_reducible refine wpList_load_part ?_ (.tmp 10) ?_ wr.heap.size ?_ (orNone a) ?_ ?_
          · rfl
          · rfl
          · rfl
          · exact hW.out)
       | (go_at_call 93
          refine (hbo.out _).mono ?_
          rintro e w6 ⟨rfl,k6⟩
          have h6:=hR.out.kept k6)
       | (with_reducible refine wpList_store_part ?_ (.tmp 8) (.tmp 43) ?_ (w.heap.size+1+1) ?_ (copiesP a false l t k) (copiesP a false l t (k+1)) ?_ ?_ ?_
          · rfl
          · rfl
          · rfl
          · rfl
          · exact h6.b2
          intro w7 hb7 hk7 hs7
          have h7:Hid (RepIn _ _ _ _):=h6.next hk7 hb7))
      refine ⟨⟨k+1,by go_num,by omega,h7.out⟩,?_⟩
      simp only [intOf];omega
    · rw [one_plain a (by first | exact (fun hc=>absurd hc.1 (by decide)) | exact ⟨rfl,by omega⟩ | exact (fun hc=>by have:=hc.2;omega)) (by omega)] at hbo
      go_wp2_with (first
       | (with_reducible refine wpList_load_part ?_ (.tmp 3) ?_ w.heap.size ?_ a ?_ ?_
          · rfl
          · rfl
          · rfl
          · exact hIn.b0)
       | (with_reducible refine wpList_store_part ?_ (.tmp 10) (.tmp 23) ?_ wr.heap.size ?_ {} a ?_ ?_ ?_
          · rfl
          · rfl
          · rfl
          · rfl
          · exact Blk.new wr (gpCells {}) 107
          intro w1 hb1 hk1 hs1
          have h1:=hIn.new _ _ hb1 hk1
          have c02:=h1.b0.part2
          have c03:=h1.b0.part3
          have d1:=hb1.part1
          have f1:=hb1.frozen 1
          have hW:Hid (Blk _ _ _ _):=hb1
          have hR:Hid (RepIn _ _ _ _):=h1
          clear hk1)
       | (with_reducible refine wpList_load_part ?_ (.tmp 8) ?_ (w.heap.size+1+1) ?_ (copiesP a false l t k) ?_ ?_
          · rfl
          · rfl
          · rfl
          · exact hR.out.b2)
       | (with_reducible refine wpList_load_part ?_ (.tmp 10) ?_ wr.heap.size ?_ a ?_ ?_
          · rfl
          · rfl
          · rfl
          · exact hW.out)
       | (go_at_call 93
          refine (hbo.out _).mono ?_
          rintro e w6 ⟨rfl,k6⟩
          have h6:=hR.out.kept k6)
       | (with_reducible refine wpList_store_part ?_ (.tmp 8) (.tmp 43) ?_ (w.heap.size+1+1) ?_ (copiesP a false l t k) (copiesP a false l t (k+1)) ?_ ?_ ?_
          · rfl
          · rfl
          · rfl
          · rfl
          · exact h6.b2
          intro w7 hb7 hk7 hs7
          have h7:Hid (RepIn _ _ _ _):=h6.next hk7 hb7))
      refine ⟨⟨k+1,by go_num,by omega,h7.out⟩,?_⟩
      simp only [intOf];omega
  · have hke:t=k:=by omega
    subst hke
    go_wp2_with (first
     | (with_reducible refine wpList_load_part ?_ (.tmp 8) ?_ (w.heap.size+1+1) ?_ (copiesP a false l t t) ?_ ?_
        · rfl
        · rfl
        · rfl
        · exact hIn.b2)
     | (with_reducible refine wpList_store_part ?_ (.tmp 6) (.tmp 44) ?_ (w.heap.size+1) ?_ {} (copiesP a false l t t) ?_ ?_ ?_
        · rfl
        · rfl
        · rfl
        · rfl
        · exact hIn.b1
        intro w8 hb8 hk8 hs8))
    exact bodyPost_ret (v:=.agg (gpCells (copiesP a false l t t))) (results_part Tryz.results95 _ _ _ (copiesP a false l t t) rfl hb8) rfl ⟨rfl,hIn.k.into hk8 (by omega)⟩
theorem repeated_from (a:GP) (ha:a.Fit) (l:Nat) (hl1:1≤l) (hl:l≤1000) (hr:l*a.count≤60) (w:World):
 PartCall 95 #[.agg (gpCells a),.int .i64 (l:Int),.int .i64 (-1)] w (copiesP a true l l l):=by
 unfold PartCall
 have hz:=zeroV_part
 have hlk:Hid (∀w,PartCall 111 #[.agg (gpCells a),UV a.last,UV a.first] w (plusP a)):=fun w=>linked_any a a.last a.first w
 have hstart:Hid (∀w1,Blk w1 (w.heap.size+1+1) (gpCells noneP) 107→Kept [w.heap.size+1+1] (((w.alloc (.cells (gpCells a) 107)).alloc (.cells (gpCells {}) 107)).alloc (.cells (gpCells {}) 107)) w1→RepIn w w1 a noneP):=fun w1 hb hk=>
  ⟨(((Blk.new w _ _).alloc _).alloc _).kept hk (by simp;omega),((Blk.new1 w _ _ _).alloc _).kept hk (by simp),hb,((((Kept.refl _ _).alloc _).alloc _).alloc _).into hk (by omega)⟩
 go_enter Tryz.func95,Tryz.ntmps95
 go_wp2_with (first
  | (refine wpList_build_none rfl rfl ?_)
  | (with_reducible refine wpList_store_part ?_ (.tmp 8) (.tmp 17) ?_ (w.heap.size+1+1) ?_ {} noneP ?_ ?_ ?_
     · rfl
     · rfl
     · rfl
     · rfl
     · exact Blk.new2 w (.cells (gpCells a) 107) (.cells (gpCells {}) 107) (gpCells {}) 107
     intro w1 hb1 hk1 hs1
     have hst:=hstart.out w1 hb1 hk1
     clear hb1 hk1 hs1))
 go_loopw [9] (fun iv wr=>∃k:Nat,iv=.int .i64 ((k:Int)+1)∧k≤l∧RepIn w wr a (copiesP a true l l k)) (fun iv _=>((l:Int)+1-intOf iv).toNat)
 case atStart=>exact ⟨0,rfl,Nat.zero_le _,hst⟩
 case round=>
  obtain ⟨k,rfl,hkT,hIn⟩:=hrel
  clear hst hstart
  have hgt:=hIn.b2.lt
  by_cases hlt:(k:Int)<(l:Int)
  · have hkn:k<l:=by omega
    have hbo:Hid (∀w,PartCall _ _ w _):=fun w=>both_call a ha true l l k (Nat.le_trans (Nat.mul_le_mul_right _ hkn) hr) w
    by_cases hcc:k+1=l
    · rw [one_plus a (by first | exact (fun hc=>absurd hc.1 (by decide)) | exact ⟨rfl,by omega⟩ | exact (fun hc=>by have:=hc.2;omega)) (by omega)] at hbo
      have hcI:(k:Int)+1=(l:Int):=by omega
      clear hcc
      go_wp2_with (first
       | (with_reducible refine wpList_load_part ?_ (.tmp 3) ?_ w.heap.size ?_ a ?_ ?_
          · rfl
          · rfl
          · rfl
          · exact hIn.b0)
       | (with_reducible refine wpList_store_part ?_ (.tmp 10) (.tmp 23) ?_ wr.heap.size ?_ {} a ?_ ?_ ?_
          · rfl
          · rfl
          · rfl
          · rfl
          · exact Blk.new wr (gpCells {}) 107
          intro w1 hb1 hk1 hs1
          have h1:=hIn.new _ _ hb1 hk1
          have c02:=h1.b0.part2
          have c03:=h1.b0.part3
          have d1:=hb1.part1
          have f1:=hb1.frozen 1
          clear hk1)
       | (with_reducible refine wpList_load_part ?_ (.tmp 10) ?_ wr.heap.size ?_ a ?_ ?_
          · rfl
          · rfl
          · rfl
          · exact hb1)
       | (go_at_call 111
          refine (hlk.out _).mono ?_
          rintro e w2 ⟨rfl,k2⟩
          have h2:=h1.kept k2
          have hb2:=hb1.kept k2 (by simp))
       | (with_reducible refine wpList_store_part ?_ (.tmp 10) (.tmp 36) ?_ wr.heap.size ?_ a (plusP a) ?_ ?_ ?_
          · rfl
          · rfl
          · rfl
          · rfl
          · exact hb2
          intro w3 hb3 hk3 hs3
          have h3:=h2.into hk3 hgt
          have e1:=hb3.part1
          have g1:=hb3.frozen 1
          have hW:Hid (Blk _ _ _ _):=hb3
          have hR:Hid (RepIn _ _ _ _):=h3
          clear hk3)
       | (with_reducible refine wpList_load_part ?_ (.tmp 8) ?_ (w.heap.size+1+1) ?_ (copiesP a true l l k) ?_ ?_
          · rfl
          · rfl
          · rfl
          · exact hR.out.b2)
       | (with_reducible refine wpList_load_part ?_ (.tmp 10) ?_ wr.heap.size ?_ (plusP a) ?_ ?_
          · rfl
          · rfl
          · rfl
          · exact hW.out)
       | (go_at_call 93
          refine (hbo.out _).mono ?_
          rintro e w6 ⟨rfl,k6⟩
          have h6:=hR.out.kept k6)
       | (with_reducible refine wpList_store_part ?_ (.tmp 8) (.tmp 43) ?_ (w.heap.size+1+1) ?_ (copiesP a true l l k) (copiesP a true l l (k+1)) ?_ ?_ ?_
          · rfl
          · rfl
          · rfl
          · rfl
          · exact h6.b2
          intro w7 hb7 hk7 hs7
          have h7:Hid (RepIn _ _ _ _):=h6.next hk7 hb7))
      refine ⟨⟨k+1,by go_num,by omega,h7.out⟩,?_⟩
      simp only [intOf];omega
    · rw [one_plain a (by first | exact (fun hc=>absurd hc.1 (by decide)) | exact ⟨rfl,by omega⟩ | exact (fun hc=>by have:=hc.2;omega)) (by omega)] at hbo
      have hcI:(k:Int)+1≠(l:Int):=by omega
      clear hcc
      go_wp2_with (first
       | (with_reducible refine wpList_load_part ?_ (.tmp 3) ?_ w.heap.size ?_ a ?_ ?_
          · rfl
          · rfl
          · rfl
          · exact hIn.b0)
       | (with_reducible refine wpList_store_part ?_ (.tmp 10) (.tmp 23) ?_ wr.heap.size ?_ {} a ?_ ?_ ?_
          · rfl
          · rfl
          · rfl
          · rfl
          · exact Blk.new wr (gpCells {}) 107
          intro w1 hb1 hk1 hs1
          have h1:=hIn.new _ _ hb1 hk1
          have c02:=h1.b0.part2
          have c03:=h1.b0.part3
          have d1:=hb1.part1
          have f1:=hb1.frozen 1
          have hW:Hid (Blk _ _ _ _):=hb1
          have hR:Hid (RepIn _ _ _ _):=h1
          clear hk1)
       | (with_reducible refine wpList_load_part ?_ (.tmp 8) ?_ (w.heap.size+1+1) ?_ (copiesP a true l l k) ?_ ?_
          · rfl
          · rfl
          · rfl
          · exact hR.out.b2)
       | (with_reducible refine wpList_load_part ?_ (.tmp 10) ?_ wr.heap.size ?_ a ?_ ?_
          · rfl
          · rfl
          · rfl
          · exact hW.out)
       | (go_at_call 93
          refine (hbo.out _).mono ?_
          rintro e w6 ⟨rfl,k6⟩
          have h6:=hR.out.kept k6)
       | (with_reducible refine wpList_store_part ?_ (.tmp 8) (.tmp 43) ?_ (w.heap.size+1+1) ?_ (copiesP a true l l k) (copiesP a true l l (k+1)) ?_ ?_ ?_
          · rfl
          · rfl
          · rfl
          · rfl
          · exact h6.b2
          intro w7 hb7 hk7 hs7
          have h7:Hid (RepIn _ _ _ _):=h6.next hk7 hb7))
      refine ⟨⟨k+1,by go_num,by omega,h7.out⟩,?_⟩
      simp only [intOf];omega
  · have hke:l=k:=by omega
    subst hke
    go_wp2_with (first
     | (with_reducible refine wpList_load_part ?_ (.tmp 8) ?_ (w.heap.size+1+1) ?_ (copiesP a true l l l) ?_ ?_
        · rfl
        · rfl
        · rfl
        · exact hIn.b2)
     | (with_reducible refine wpList_store_part ?_ (.tmp 6) (.tmp 44) ?_ (w.heap.size+1) ?_ {} (copiesP a true l l l) ?_ ?_ ?_
        · rfl
        · rfl
        · rfl
        · rfl
        · exact hIn.b1
        intro w8 hb8 hk8 hs8))
    exact bodyPost_ret (v:=.agg (gpCells (copiesP a true l l l))) (results_part Tryz.results95 _ _ _ (copiesP a true l l l) rfl hb8) rfl ⟨rfl,hIn.k.into hk8 (by omega)⟩
theorem repeated_star (a:GP) (ha:a.Fit) (hr:1*a.count≤60) (w:World):
 PartCall 95 #[.agg (gpCells a),.int .i64 0,.int .i64 (-1)] w (copiesP a true 0 1 1):=by
 unfold PartCall
 have hz:=zeroV_part
 have hlk:Hid (∀w,PartCall 111 #[.agg (gpCells a),UV a.last,UV a.first] w (plusP a)):=fun w=>linked_any a a.last a.first w
 have hstart:Hid (∀w1,Blk w1 (w.heap.size+1+1) (gpCells noneP) 107→Kept [w.heap.size+1+1] (((w.alloc (.cells (gpCells a) 107)).alloc (.cells (gpCells {}) 107)).alloc (.cells (gpCells {}) 107)) w1→RepIn w w1 a noneP):=fun w1 hb hk=>
  ⟨(((Blk.new w _ _).alloc _).alloc _).kept hk (by simp;omega),((Blk.new1 w _ _ _).alloc _).kept hk (by simp),hb,((((Kept.refl _ _).alloc _).alloc _).alloc _).into hk (by omega)⟩
 go_enter Tryz.func95,Tryz.ntmps95
 go_wp2_with (first
  | (refine wpList_build_none rfl rfl ?_)
  | (with_reducible refine wpList_store_part ?_ (.tmp 8) (.tmp 17) ?_ (w.heap.size+1+1) ?_ {} noneP ?_ ?_ ?_
     · rfl
     · rfl
     · rfl
     · rfl
     · exact Blk.new2 w (.cells (gpCells a) 107) (.cells (gpCells {}) 107) (gpCells {}) 107
     intro w1 hb1 hk1 hs1
     have hst:=hstart.out w1 hb1 hk1
     clear hb1 hk1 hs1))
 go_loopw [9] (fun iv wr=>∃k:Nat,iv=.int .i64 ((k:Int)+1)∧k≤1∧RepIn w wr a (copiesP a true 0 1 k)) (fun iv _=>((1:Int)+1-intOf iv).toNat)
 case atStart=>exact ⟨0,rfl,Nat.zero_le _,hst⟩
 case round=>
  obtain ⟨k,rfl,hkT,hIn⟩:=hrel
  clear hst hstart
  have hgt:=hIn.b2.lt
  by_cases hlt:(k:Int)<(1:Int)
  · have hkn:k<1:=by omega
    have hbo:Hid (∀w,PartCall _ _ w _):=fun w=>both_call a ha true 0 1 k (Nat.le_trans (Nat.mul_le_mul_right _ hkn) hr) w
    rw [one_both a (by first | exact (fun hc=>absurd hc.1 (by decide)) | omega | exact ⟨rfl,by omega⟩ | exact (fun hc=>by omega)) (by omega)] at hbo
    go_wp2_with (first
     | (with_reducible refine wpList_load_part ?_ (.tmp 3) ?_ w.heap.size ?_ a ?_ ?_
        · rfl
        · rfl
        · rfl
        · exact hIn.b0)
     | (with_reducible refine wpList_store_part ?_ (.tmp 10) (.tmp 23) ?_ wr.heap.size ?_ {} a ?_ ?_ ?_
        · rfl
        · rfl
        · rfl
        · rfl
        · exact Blk.new wr (gpCells {}) 107
        intro w1 hb1 hk1 hs1
        have h1:=hIn.new _ _ hb1 hk1
        have c02:=h1.b0.part2
        have c03:=h1.b0.part3
        have d1:=hb1.part1
        have f1:=hb1.frozen 1
        clear hk1)
     | (with_reducible refine wpList_load_part ?_ (.tmp 10) ?_ wr.heap.size ?_ a ?_ ?_
        · rfl
        · rfl
        · rfl
        · exact hb1)
     | (go_at_call 111
        refine (hlk.out _).mono ?_
        rintro e w2 ⟨rfl,k2⟩
        have h2:=h1.kept k2
        have hb2:=hb1.kept k2 (by simp))
     | (with_reducible refine wpList_store_part ?_ (.tmp 10) (.tmp 36) ?_ wr.heap.size ?_ a (plusP a) ?_ ?_ ?_
        · rfl
        · rfl
        · rfl
        · rfl
        · exact hb2
        intro w3 hb3 hk3 hs3
        have h3:=h2.into hk3 hgt
        have e1:=hb3.part1
        have g1:=hb3.frozen 1
        have hW:Hid (Blk _ _ _ _):=hb3.setE true
        have hR:Hid (RepIn _ _ _ _):=h3.other hgt 1 (.bool true)
        clear hk3)
     | (with_reducible refine wpList_load_part ?_ (.tmp 8) ?_ (w.heap.size+1+1) ?_ (copiesP a true 0 1 k) ?_ ?_
        · rfl
        · rfl
        · rfl
        · exact hR.out.b2)
     | (with_reducible refine wpList_load_part ?_ (.tmp 10) ?_ wr.heap.size ?_ (orNone (plusP a)) ?_ ?_
        · rfl
        · rfl
        · rfl
        · exact hW.out)
     | (go_at_call 93
        refine (hbo.out _).mono ?_
        rintro e w6 ⟨rfl,k6⟩
        have h6:=hR.out.kept k6)
     | (with_reducible refine wpList_store_part ?_ (.tmp 8) (.tmp 43) ?_ (w.heap.size+1+1) ?_ (copiesP a true 0 1 k) (copiesP a true 0 1 (k+1)) ?_ ?_ ?_
        · rfl
        · rfl
        · rfl
        · rfl
        · exact h6.b2
        intro w7 hb7 hk7 hs7
        have h7:Hid (RepIn _ _ _ _):=h6.next hk7 hb7))
    refine ⟨⟨k+1,by go_num,by omega,h7.out⟩,?_⟩
    simp only [intOf];omega
  · have hke:1=k:=by omega
    subst hke
    go_wp2_with (first
     | (with_reducible refine wpList_load_part ?_ (.tmp 8) ?_ (w.heap.size+1+1) ?_ (copiesP a true 0 1 1) ?_ ?_
        · rfl
        · rfl
        · rfl
        · exact hIn.b2)
     | (with_reducible refine wpList_store_part ?_ (.tmp 6) (.tmp 44) ?_ (w.heap.size+1) ?_ {} (copiesP a true 0 1 1) ?_ ?_ ?_
        · rfl
        · rfl
        · rfl
        · rfl
        · exact hIn.b1
        intro w8 hb8 hk8 hs8))
    exact bodyPost_ret (v:=.agg (gpCells (copiesP a true 0 1 1))) (results_part Tryz.results95 _ _ _ (copiesP a true 0 1 1) rfl hb8) rfl ⟨rfl,hIn.k.into hk8 (by omega)⟩
def partsCells (ps:List GP):List Value:=(ps.map fun p=>(gpCells p).toList).flatten
theorem partsCells_snoc (ps:List GP) (p:GP):partsCells (ps++[p])=partsCells ps++(gpCells p).toList:=by simp [partsCells]
theorem partsCells_get:∀(ps:List GP) (i j:Nat) (p:GP),ps[i]?=some p→j<124→(partsCells ps)[i*124+j]?=(gpCells p)[j]?
 | [],i,j,p,h,_=>by simp at h
 | q :: ps,0,j,p,h,hj=>by
   simp at h;subst h
   have e:partsCells (q :: ps)=(gpCells q).toList++partsCells ps:=by simp [partsCells]
   rw [e,Nat.zero_mul,Nat.zero_add,List.getElem?_append_left (by simpa using hj)]
   simp
 | q :: ps,i+1,j,p,h,hj=>by
   simp at h
   have e:partsCells (q :: ps)=(gpCells q).toList++partsCells ps:=by simp [partsCells]
   rw [e,List.getElem?_append_right (by simp;omega)]
   have e2:(i+1)*124+j-(gpCells q).toList.length=i*124+j:=by simp;omega
   rw [e2]
   exact partsCells_get ps i j p h hj
def PartsIn (w:World) (B:Nat) (v:Value) (ps:List GP):Prop:=w.ownsRow B 107 124 v ps.length (partsCells ps)
theorem PartsIn.range {w:World} {B g cap:Nat} {ps:List GP} (h:PartsIn w B (.slice (some ⟨g,0,none⟩) ps.length cap) ps) {i:Nat} {p:GP} (hp:ps[i]?=some p):w.rangeAt g (i*124) (gpCells p).toList:=fun j v hv=>by
 have hj:j<124:=by have:=(List.getElem?_eq_some_iff.1 hv).1;simpa using this
 have h1:=World.ownsRow.cells h (g:=g) rfl (i*124+j) v (by rw [partsCells_get ps i j p hp hj,←hv,Array.getElem?_toList])
 rwa [show (⟨g,0,none⟩:Addr).add (i*124+j)=⟨g,i*124+j,none⟩ by simp [Addr.add];omega] at h1
theorem wpList_load_part_mid {ops:Array Oper} {rest:List Oper} {o:Oper} {a:Act} {w:World} {Q:Exit→Act→World→Prop} (hgd:o.guard=none) (x:Operand) (ho:o.op=.load 107 x)
 (g off:Nat) (hx:a.eval x=.pointer (some ⟨g,off,none⟩)) (p:GP) (hg:w.rangeAt g off (gpCells p).toList)
 (h:wpList Tryz.prog ops Q rest (a.put o.dst (.agg (gpCells p))) w):wpList Tryz.prog ops Q (o :: rest) a w:=
 wpList_load_mid hgd _ x ho g off hx (gpCells p).toList _ hg Tryz.underlying107 rfl (by simpa using size_part) (by simpa using h)
def partAtP (ps:List GP) (i:Int):GP:=if 0≤i then (ps[i.toNat]?).getD noneP else noneP
theorem partAt_any (ps:List GP) (B:Nat) (v:Value) (i:Int) (w:World) (h:PartsIn w B v ps) (hl:ps.length≤1000) (hi:-1000≤i) (hi2:i≤1000):
 PartCall 92 #[v,.int .i64 i] w (partAtP ps i):=by
 unfold PartCall
 have hz:=zeroV_part
 by_cases hr:0≤i∧i<(ps.length:Int)
 · obtain ⟨hr1,hr2⟩:=hr
   obtain ⟨k,rfl⟩:∃k:Nat,i=(k:Int):=⟨i.toNat,by omega⟩
   have hk:k<ps.length:=by omega
   obtain ⟨p,hp⟩:∃p,ps[k]?=some p:=⟨_,List.getElem?_eq_getElem hk⟩
   obtain ⟨g,cap,rfl⟩:=own_form h (by omega)
   have e:partAtP ps (k:Int)=p:=by unfold partAtP;rw [if_pos (by omega),Int.toNat_natCast,hp];rfl
   rw [e]
   have hrg:=h.range hp
   have hrg2:=World.rangeAt_alloc hrg (.cells (gpCells {}) 107)
   clear h e hp hrg hr1
   have hr2:(k:Int)<(ps.length:Int):=hr2
   go_enter Tryz.func92,Tryz.ntmps92
   go_wp2_with (first
    | (with_reducible refine wpList_load_part_mid ?_ (.tmp 16) ?_ g (k*124) ?_ p ?_ ?_
       · rfl
       · rfl
       · first | rfl | (simp [Act.eval])
       · exact hrg2)
    | (with_reducible refine wpList_store_part ?_ (.tmp 4) (.tmp 17) ?_ w.heap.size ?_ {} p ?_ ?_ ?_
       · rfl
       · rfl
       · rfl
       · rfl
       · exact Blk.new w (gpCells {}) 107
       intro w8 hb8 hk8 hs8))
   exact bodyPost_ret (v:=.agg (gpCells p)) (results_part Tryz.results92 _ _ _ p rfl hb8) rfl ⟨rfl,((Kept.refl [] w).alloc _).into hk8 (by omega)⟩
 · have e:partAtP ps i=noneP:=by
    unfold partAtP
    split
    · rw [List.getElem?_eq_none (by omega)];rfl
    · rfl
   rw [e]
   clear e
   obtain ⟨a,cap,rfl⟩:∃a cap,v=.slice a ps.length cap:=by
    rcases h.2 with ⟨h1,h2⟩ | ⟨g,cap,_,h1,_⟩
    · exact ⟨none,0,by rw [h1,h2]⟩
    · exact ⟨_,cap,h1⟩
   by_cases hneg:i<0
   · go_enter Tryz.func92,Tryz.ntmps92
     go_wp2_with (first
      | (refine wpList_build_none rfl rfl ?_)
      | (with_reducible refine wpList_store_part ?_ (.tmp 4) (.tmp 13) ?_ w.heap.size ?_ {} noneP ?_ ?_ ?_
         · rfl
         · rfl
         · rfl
         · rfl
         · exact Blk.new w (gpCells {}) 107
         intro w8 hb8 hk8 hs8))
     exact bodyPost_ret (v:=.agg (gpCells noneP)) (results_part Tryz.results92 _ _ _ noneP rfl hb8) rfl ⟨rfl,((Kept.refl [] w).alloc _).into hk8 (by omega)⟩
   · have hge:(ps.length:Int)≤i:=by omega
     go_enter Tryz.func92,Tryz.ntmps92
     go_wp2_with (first
      | (refine wpList_build_none rfl rfl ?_)
      | (with_reducible refine wpList_store_part ?_ (.tmp 4) (.tmp 13) ?_ w.heap.size ?_ {} noneP ?_ ?_ ?_
         · rfl
         · rfl
         · rfl
         · rfl
         · exact Blk.new w (gpCells {}) 107
         intro w8 hb8 hk8 hs8))
     exact bodyPost_ret (v:=.agg (gpCells noneP)) (results_part Tryz.results92 _ _ _ noneP rfl hb8) rfl ⟨rfl,((Kept.refl [] w).alloc _).into hk8 (by omega)⟩
def repP (a:GP) (least most:Int):GP:=
 if most = -1 then copiesP a true least.toNat (if least.toNat<1 then 1 else least.toNat) (if least.toNat<1 then 1 else least.toNat)
 else copiesP a false least.toNat most.toNat most.toNat
def repN (least most:Int):Nat:=if most = -1 then (if least.toNat<1 then 1 else least.toNat) else most.toNat
theorem repeated_any (a:GP) (ha:a.Fit) (least most:Int) (h0:0≤least) (h9:least≤9) (m0:-1≤most) (m9:most≤9) (hr:repN least most*a.count≤60) (w:World):
 PartCall 95 #[.agg (gpCells a),.int .i64 least,.int .i64 most] w (repP a least most):=by
 obtain ⟨l,rfl⟩:∃l:Nat,least=(l:Int):=⟨least.toNat,by omega⟩
 unfold repN at hr
 unfold repP
 rw [Int.toNat_natCast] at *
 by_cases hm:most = -1
 · subst hm
   rw [if_pos rfl] at *
   by_cases hl:l<1
   · obtain rfl:l=0:=by omega
     exact repeated_star a ha (by simpa using hr) w
   · rw [if_neg hl] at *
     exact repeated_from a ha l (by omega) (by omega) hr w
 · obtain ⟨t,rfl⟩:∃t:Nat,most=(t:Int):=⟨most.toNat,by omega⟩
   rw [if_neg hm] at *
   rw [Int.toNat_natCast] at *
   exact repeated_upto a ha l t (by omega) (by omega) hr w
end Go.Proofs.YtgifhgnccmnbiabGreat
