/- The machine: both, either: two parts in one. -/
import Derived.Test.YtgifhgnccmnbiabGreatG10
set_option linter.unusedVariables false
set_option linter.unusedSimpArgs false
set_option maxHeartbeats 4000000
set_option maxRecDepth 100000
namespace Go.Proofs.YtgifhgnccmnbiabGreat
open Go.RowKit Go.IntWalk
theorem both_case {a b:GP} {ea eb:Bool} (ha:a.empty=ea) (hb:b.empty=eb):
 bothP a b=linkedP { besideP a b with empty:=ea&&eb,first:=cond ea (a.first|||b.first <<< a.count) a.first,last:=cond eb (b.last <<< a.count|||a.last) (b.last <<< a.count) } a.last (b.first <<< a.count):=by
 unfold bothP
 rw [ha,hb]
 rcases ea with _ | _ <;> rcases eb with _ | _ <;> rfl
structure TwoIn (w0 w:World) (a b:GP):Prop where
 b0:Blk w w0.heap.size (gpCells a) 107
 b1:Blk w (w0.heap.size+1) (gpCells b) 107
 b2:Blk w (w0.heap.size+1+1) (gpCells {}) 107
 k:Kept [] w0 w
theorem TwoIn.start (w:World) (a b:GP):TwoIn w (((w.alloc (.cells (gpCells a) 107)).alloc (.cells (gpCells b) 107)).alloc (.cells (gpCells {}) 107)) a b:=
 ⟨((Blk.new w _ _).alloc _).alloc _,(Blk.new1 w _ _ _).alloc _,Blk.new2 w _ _ _ _,(((Kept.refl _ _).alloc _).alloc _).alloc _⟩
theorem TwoIn.kept {w0 w w':World} {a b:GP} (h:TwoIn w0 w a b) (k:Kept [] w w'):TwoIn w0 w' a b:=
 ⟨h.b0.kept k (by simp),h.b1.kept k (by simp),h.b2.kept k (by simp),h.k.trans k⟩
theorem TwoIn.into {w0 w w':World} {a b:GP} {g:Nat} (h:TwoIn w0 w a b) (k:Kept [g] w w') (hg:w0.heap.size+1+1<g):TwoIn w0 w' a b:=
 ⟨h.b0.kept k (by simp;omega),h.b1.kept k (by simp;omega),h.b2.kept k (by simp;omega),h.k.into k (by omega)⟩
section
variable {w:World} {g:Nat} {p:GP} {t:TypeId}
theorem Blk.setE (h:Blk w g (gpCells p) t) (e:Bool):Blk (w.setCell ⟨g,1,none⟩ (.bool e)) g (gpCells { p with empty:=e }) t:=by
 have:=h.set 1 (.bool e);rwa [part_set_empty] at this
theorem Blk.setF (h:Blk w g (gpCells p) t) (s:B64):Blk (w.setCell ⟨g,2,none⟩ (UV s)) g (gpCells { p with first:=s }) t:=by
 have:=h.set 2 (UV s);rwa [part_set_first] at this
theorem Blk.setL (h:Blk w g (gpCells p) t) (s:B64):Blk (w.setCell ⟨g,3,none⟩ (UV s)) g (gpCells { p with last:=s }) t:=by
 have:=h.set 3 (UV s);rwa [part_set_last] at this
theorem Blk.part0 (h:Blk w g (gpCells p) t):w.cell? ⟨g,0,none⟩=some (.int .i64 (p.count:Int)):=by rw [h.cell,part_c0]
theorem Blk.part1 (h:Blk w g (gpCells p) t):w.cell? ⟨g,1,none⟩=some (.bool p.empty):=by rw [h.cell,part_c1]
theorem Blk.part2 (h:Blk w g (gpCells p) t):w.cell? ⟨g,2,none⟩=some (UV p.first):=by rw [h.cell,part_c2]
theorem Blk.part3 (h:Blk w g (gpCells p) t):w.cell? ⟨g,3,none⟩=some (UV p.last):=by rw [h.cell,part_c3]
end
theorem both_any (a b:GP) (hr:a.count+b.count≤60) (w:World):
 PartCall 93 #[.agg (gpCells a),.agg (gpCells b)] w (bothP a b):=by
 unfold PartCall
 have hz:=zeroV_part
 have h0:=TwoIn.start w a b
 have hbes:Hid (∀w,PartCall 110 #[.agg (gpCells a),.agg (gpCells b)] w (besideP a b)):=fun w=>beside_any a b hr w
 obtain ⟨ea,ha⟩:∃e,a.empty=e:=⟨_,rfl⟩
 obtain ⟨eb,hb⟩:∃e,b.empty=e:=⟨_,rfl⟩
 rw [both_case ha hb]
 have hlk:Hid (∀w,PartCall 111 #[.agg (gpCells { besideP a b with empty:=ea&&eb,first:=cond ea (a.first|||b.first <<< a.count) a.first,last:=cond eb (b.last <<< a.count|||a.last) (b.last <<< a.count) }),UV a.last,UV (b.first <<< a.count)] w _):=fun w=>linked_any _ _ _ w
 have hsh:=shl_u b.first a.count
 have hsh2:=shl_u b.last a.count
 have hor1:=or_u a.first (b.first <<< a.count)
 have hor2:=or_u (b.last <<< a.count) a.last
 have hca:a.count≤60:=by omega
 generalize b.first <<< a.count=F at *
 generalize b.last <<< a.count=L at *
 cases ea <;> cases eb
 · simp only [cond_true,cond_false,Bool.and_true,Bool.and_false,Bool.true_and,Bool.false_and] at hlk ⊢
   generalize linkedP _ a.last F=P at hlk ⊢
   go_enter Tryz.func93,Tryz.ntmps93
   go_wp2_with (first
    | (with_reducible refine wpList_load_part ?_ (.tmp 2) ?_ w.heap.size ?_ a ?_ ?_
       · rfl
       · rfl
       · rfl
       · exact h0.b0)
    | (with_reducible refine wpList_load_part ?_ (.tmp 3) ?_ (w.heap.size+1) ?_ b ?_ ?_
       · rfl
       · rfl
       · rfl
       · exact h0.b1)
    | (go_at_call 110
       refine (hbes.out _).mono ?_
       rintro e w1 ⟨rfl,k1⟩
       have h1:=h0.kept k1)
    | (with_reducible refine wpList_store_part ?_ (.tmp 5) (.tmp 9) ?_ w1.heap.size ?_ {} (besideP a b) ?_ ?_ ?_
       · rfl
       · rfl
       · rfl
       · rfl
       · exact Blk.new w1 (gpCells {}) 107
       intro w5 hb5 hk5 hs5
       have hg1:=h1.b2.lt
       have h5:=(h1.kept ((Kept.refl [] w1).alloc (.cells (gpCells {}) 107))).into hk5 hg1
       have c00:=h5.b0.part0
       have c01:=h5.b0.part1
       have c02:=h5.b0.part2
       have c03:=h5.b0.part3
       have c11:=h5.b1.part1
       have c12:=h5.b1.part2
       have c13:=h5.b1.part3
       rw [ha] at c01
       rw [hb] at c11
       have d1:=hb5.part1
       have d2:=hb5.part2
       have d3:=hb5.part3
       have f1:=hb5.frozen 1
       have f2:=hb5.frozen 2
       have f3:=hb5.frozen 3
       have hW:Hid (Blk _ _ _ _):=(((hb5.setE false).setF a.first).setL L)
       have hO:Hid (Blk _ _ _ _):=(((h5.b2.other (b':=w1.heap.size) 1 (.bool false) (by omega)).other (b':=w1.heap.size) 2 (UV a.first) (by omega)).other (b':=w1.heap.size) 3 (UV L) (by omega))
       have hK:Hid (Kept _ _ _):=(((h5.k.setCell (p:=⟨w1.heap.size,1,none⟩) (Or.inr (by simp;omega)) (.bool false)).setCell (p:=⟨w1.heap.size,2,none⟩) (Or.inr (by simp;omega)) (UV a.first)).setCell (p:=⟨w1.heap.size,3,none⟩) (Or.inr (by simp;omega)) (UV L))
       clear hb5 hk5 h1 hz)
    | (with_reducible refine wpList_load_part ?_ (.tmp 5) ?_ w1.heap.size ?_ { besideP a b with empty:=false,first:=a.first,last:=L } ?_ ?_
       · rfl
       · rfl
       · rfl
       · exact hW.out)
    | (go_at_call 111
       refine (hlk.out _).mono ?_
       rintro e w7 ⟨rfl,k7⟩
       have hO7:=hO.out.kept k7 (by simp)
       have hK7:=hK.out.trans k7)
    | (with_reducible refine wpList_store_part ?_ (.tmp 4) (.tmp 52) ?_ (w.heap.size+1+1) ?_ {} P ?_ ?_ ?_
       · rfl
       · rfl
       · rfl
       · rfl
       · exact hO7
       intro w8 hb8 hk8 hs8))
   exact bodyPost_ret (v:=.agg (gpCells P)) (results_part Tryz.results93 _ _ _ P rfl hb8) rfl ⟨rfl,hK7.into hk8 (by omega)⟩
 · simp only [cond_true,cond_false,Bool.and_true,Bool.and_false,Bool.true_and,Bool.false_and] at hlk ⊢
   generalize linkedP _ a.last F=P at hlk ⊢
   go_enter Tryz.func93,Tryz.ntmps93
   go_wp2_with (first
    | (with_reducible refine wpList_load_part ?_ (.tmp 2) ?_ w.heap.size ?_ a ?_ ?_
       · rfl
       · rfl
       · rfl
       · exact h0.b0)
    | (with_reducible refine wpList_load_part ?_ (.tmp 3) ?_ (w.heap.size+1) ?_ b ?_ ?_
       · rfl
       · rfl
       · rfl
       · exact h0.b1)
    | (go_at_call 110
       refine (hbes.out _).mono ?_
       rintro e w1 ⟨rfl,k1⟩
       have h1:=h0.kept k1)
    | (with_reducible refine wpList_store_part ?_ (.tmp 5) (.tmp 9) ?_ w1.heap.size ?_ {} (besideP a b) ?_ ?_ ?_
       · rfl
       · rfl
       · rfl
       · rfl
       · exact Blk.new w1 (gpCells {}) 107
       intro w5 hb5 hk5 hs5
       have hg1:=h1.b2.lt
       have h5:=(h1.kept ((Kept.refl [] w1).alloc (.cells (gpCells {}) 107))).into hk5 hg1
       have c00:=h5.b0.part0
       have c01:=h5.b0.part1
       have c02:=h5.b0.part2
       have c03:=h5.b0.part3
       have c11:=h5.b1.part1
       have c12:=h5.b1.part2
       have c13:=h5.b1.part3
       rw [ha] at c01
       rw [hb] at c11
       have d1:=hb5.part1
       have d2:=hb5.part2
       have d3:=hb5.part3
       have f1:=hb5.frozen 1
       have f2:=hb5.frozen 2
       have f3:=hb5.frozen 3
       have hW:Hid (Blk _ _ _ _):=((((hb5.setE false).setF a.first).setL L).setL (L|||a.last))
       have hO:Hid (Blk _ _ _ _):=((((h5.b2.other (b':=w1.heap.size) 1 (.bool false) (by omega)).other (b':=w1.heap.size) 2 (UV a.first) (by omega)).other (b':=w1.heap.size) 3 (UV L) (by omega)).other (b':=w1.heap.size) 3 (UV (L|||a.last)) (by omega))
       have hK:Hid (Kept _ _ _):=((((h5.k.setCell (p:=⟨w1.heap.size,1,none⟩) (Or.inr (by simp;omega)) (.bool false)).setCell (p:=⟨w1.heap.size,2,none⟩) (Or.inr (by simp;omega)) (UV a.first)).setCell (p:=⟨w1.heap.size,3,none⟩) (Or.inr (by simp;omega)) (UV L)).setCell (p:=⟨w1.heap.size,3,none⟩) (Or.inr (by simp;omega)) (UV (L|||a.last)))
       clear hb5 hk5 h1 hz)
    | (with_reducible refine wpList_load_part ?_ (.tmp 5) ?_ w1.heap.size ?_ { besideP a b with empty:=false,first:=a.first,last:=(L|||a.last) } ?_ ?_
       · rfl
       · rfl
       · rfl
       · exact hW.out)
    | (go_at_call 111
       refine (hlk.out _).mono ?_
       rintro e w7 ⟨rfl,k7⟩
       have hO7:=hO.out.kept k7 (by simp)
       have hK7:=hK.out.trans k7)
    | (with_reducible refine wpList_store_part ?_ (.tmp 4) (.tmp 52) ?_ (w.heap.size+1+1) ?_ {} P ?_ ?_ ?_
       · rfl
       · rfl
       · rfl
       · rfl
       · exact hO7
       intro w8 hb8 hk8 hs8))
   exact bodyPost_ret (v:=.agg (gpCells P)) (results_part Tryz.results93 _ _ _ P rfl hb8) rfl ⟨rfl,hK7.into hk8 (by omega)⟩
 · simp only [cond_true,cond_false,Bool.and_true,Bool.and_false,Bool.true_and,Bool.false_and] at hlk ⊢
   generalize linkedP _ a.last F=P at hlk ⊢
   go_enter Tryz.func93,Tryz.ntmps93
   go_wp2_with (first
    | (with_reducible refine wpList_load_part ?_ (.tmp 2) ?_ w.heap.size ?_ a ?_ ?_
       · rfl
       · rfl
       · rfl
       · exact h0.b0)
    | (with_reducible refine wpList_load_part ?_ (.tmp 3) ?_ (w.heap.size+1) ?_ b ?_ ?_
       · rfl
       · rfl
       · rfl
       · exact h0.b1)
    | (go_at_call 110
       refine (hbes.out _).mono ?_
       rintro e w1 ⟨rfl,k1⟩
       have h1:=h0.kept k1)
    | (with_reducible refine wpList_store_part ?_ (.tmp 5) (.tmp 9) ?_ w1.heap.size ?_ {} (besideP a b) ?_ ?_ ?_
       · rfl
       · rfl
       · rfl
       · rfl
       · exact Blk.new w1 (gpCells {}) 107
       intro w5 hb5 hk5 hs5
       have hg1:=h1.b2.lt
       have h5:=(h1.kept ((Kept.refl [] w1).alloc (.cells (gpCells {}) 107))).into hk5 hg1
       have c00:=h5.b0.part0
       have c01:=h5.b0.part1
       have c02:=h5.b0.part2
       have c03:=h5.b0.part3
       have c11:=h5.b1.part1
       have c12:=h5.b1.part2
       have c13:=h5.b1.part3
       rw [ha] at c01
       rw [hb] at c11
       have d1:=hb5.part1
       have d2:=hb5.part2
       have d3:=hb5.part3
       have f1:=hb5.frozen 1
       have f2:=hb5.frozen 2
       have f3:=hb5.frozen 3
       have hW:Hid (Blk _ _ _ _):=((((hb5.setE false).setF a.first).setF (a.first|||F)).setL L)
       have hO:Hid (Blk _ _ _ _):=((((h5.b2.other (b':=w1.heap.size) 1 (.bool false) (by omega)).other (b':=w1.heap.size) 2 (UV a.first) (by omega)).other (b':=w1.heap.size) 2 (UV (a.first|||F)) (by omega)).other (b':=w1.heap.size) 3 (UV L) (by omega))
       have hK:Hid (Kept _ _ _):=((((h5.k.setCell (p:=⟨w1.heap.size,1,none⟩) (Or.inr (by simp;omega)) (.bool false)).setCell (p:=⟨w1.heap.size,2,none⟩) (Or.inr (by simp;omega)) (UV a.first)).setCell (p:=⟨w1.heap.size,2,none⟩) (Or.inr (by simp;omega)) (UV (a.first|||F))).setCell (p:=⟨w1.heap.size,3,none⟩) (Or.inr (by simp;omega)) (UV L))
       clear hb5 hk5 h1 hz)
    | (with_reducible refine wpList_load_part ?_ (.tmp 5) ?_ w1.heap.size ?_ { besideP a b with empty:=false,first:=(a.first|||F),last:=L } ?_ ?_
       · rfl
       · rfl
       · rfl
       · exact hW.out)
    | (go_at_call 111
       refine (hlk.out _).mono ?_
       rintro e w7 ⟨rfl,k7⟩
       have hO7:=hO.out.kept k7 (by simp)
       have hK7:=hK.out.trans k7)
    | (with_reducible refine wpList_store_part ?_ (.tmp 4) (.tmp 52) ?_ (w.heap.size+1+1) ?_ {} P ?_ ?_ ?_
       · rfl
       · rfl
       · rfl
       · rfl
       · exact hO7
       intro w8 hb8 hk8 hs8))
   exact bodyPost_ret (v:=.agg (gpCells P)) (results_part Tryz.results93 _ _ _ P rfl hb8) rfl ⟨rfl,hK7.into hk8 (by omega)⟩
 · simp only [cond_true,cond_false,Bool.and_true,Bool.and_false,Bool.true_and,Bool.false_and] at hlk ⊢
   generalize linkedP _ a.last F=P at hlk ⊢
   go_enter Tryz.func93,Tryz.ntmps93
   go_wp2_with (first
    | (with_reducible refine wpList_load_part ?_ (.tmp 2) ?_ w.heap.size ?_ a ?_ ?_
       · rfl
       · rfl
       · rfl
       · exact h0.b0)
    | (with_reducible refine wpList_load_part ?_ (.tmp 3) ?_ (w.heap.size+1) ?_ b ?_ ?_
       · rfl
       · rfl
       · rfl
       · exact h0.b1)
    | (go_at_call 110
       refine (hbes.out _).mono ?_
       rintro e w1 ⟨rfl,k1⟩
       have h1:=h0.kept k1)
    | (with_reducible refine wpList_store_part ?_ (.tmp 5) (.tmp 9) ?_ w1.heap.size ?_ {} (besideP a b) ?_ ?_ ?_
       · rfl
       · rfl
       · rfl
       · rfl
       · exact Blk.new w1 (gpCells {}) 107
       intro w5 hb5 hk5 hs5
       have hg1:=h1.b2.lt
       have h5:=(h1.kept ((Kept.refl [] w1).alloc (.cells (gpCells {}) 107))).into hk5 hg1
       have c00:=h5.b0.part0
       have c01:=h5.b0.part1
       have c02:=h5.b0.part2
       have c03:=h5.b0.part3
       have c11:=h5.b1.part1
       have c12:=h5.b1.part2
       have c13:=h5.b1.part3
       rw [ha] at c01
       rw [hb] at c11
       have d1:=hb5.part1
       have d2:=hb5.part2
       have d3:=hb5.part3
       have f1:=hb5.frozen 1
       have f2:=hb5.frozen 2
       have f3:=hb5.frozen 3
       have hW:Hid (Blk _ _ _ _):=(((((hb5.setE true).setF a.first).setF (a.first|||F)).setL L).setL (L|||a.last))
       have hO:Hid (Blk _ _ _ _):=(((((h5.b2.other (b':=w1.heap.size) 1 (.bool true) (by omega)).other (b':=w1.heap.size) 2 (UV a.first) (by omega)).other (b':=w1.heap.size) 2 (UV (a.first|||F)) (by omega)).other (b':=w1.heap.size) 3 (UV L) (by omega)).other (b':=w1.heap.size) 3 (UV (L|||a.last)) (by omega))
       have hK:Hid (Kept _ _ _):=(((((h5.k.setCell (p:=⟨w1.heap.size,1,none⟩) (Or.inr (by simp;omega)) (.bool true)).setCell (p:=⟨w1.heap.size,2,none⟩) (Or.inr (by simp;omega)) (UV a.first)).setCell (p:=⟨w1.heap.size,2,none⟩) (Or.inr (by simp;omega)) (UV (a.first|||F))).setCell (p:=⟨w1.heap.size,3,none⟩) (Or.inr (by simp;omega)) (UV L)).setCell (p:=⟨w1.heap.size,3,none⟩) (Or.inr (by simp;omega)) (UV (L|||a.last)))
       clear hb5 hk5 h1 hz)
    | (with_reducible refine wpList_load_part ?_ (.tmp 5) ?_ w1.heap.size ?_ { besideP a b with empty:=true,first:=(a.first|||F),last:=(L|||a.last) } ?_ ?_
       · rfl
       · rfl
       · rfl
       · exact hW.out)
    | (go_at_call 111
       refine (hlk.out _).mono ?_
       rintro e w7 ⟨rfl,k7⟩
       have hO7:=hO.out.kept k7 (by simp)
       have hK7:=hK.out.trans k7)
    | (with_reducible refine wpList_store_part ?_ (.tmp 4) (.tmp 52) ?_ (w.heap.size+1+1) ?_ {} P ?_ ?_ ?_
       · rfl
       · rfl
       · rfl
       · rfl
       · exact hO7
       intro w8 hb8 hk8 hs8))
   exact bodyPost_ret (v:=.agg (gpCells P)) (results_part Tryz.results93 _ _ _ P rfl hb8) rfl ⟨rfl,hK7.into hk8 (by omega)⟩
theorem either_case {a b:GP} {ea eb:Bool} (ha:a.empty=ea) (hb:b.empty=eb):
 eitherP a b={ besideP a b with empty:=ea || eb,first:=a.first|||b.first <<< a.count,last:=a.last|||b.last <<< a.count }:=by
 unfold eitherP
 rw [ha,hb]
theorem meither_any (a b:GP) (hr:a.count+b.count≤60) (w:World):
 PartCall 94 #[.agg (gpCells a),.agg (gpCells b)] w (eitherP a b):=by
 unfold PartCall
 have hz:=zeroV_part
 have h0:=TwoIn.start w a b
 have hbes:Hid (∀w,PartCall 110 #[.agg (gpCells a),.agg (gpCells b)] w (besideP a b)):=fun w=>beside_any a b hr w
 obtain ⟨ea,ha⟩:∃e,a.empty=e:=⟨_,rfl⟩
 obtain ⟨eb,hb⟩:∃e,b.empty=e:=⟨_,rfl⟩
 rw [either_case ha hb]
 have hsh:=shl_u b.first a.count
 have hsh2:=shl_u b.last a.count
 have hor1:=or_u a.first (b.first <<< a.count)
 have hor2:=or_u a.last (b.last <<< a.count)
 have hca:a.count≤60:=by omega
 generalize b.first <<< a.count=F at *
 generalize b.last <<< a.count=L at *
 cases ea <;> cases eb
 · simp only [Bool.or_true,Bool.or_false,Bool.true_or,Bool.false_or]
   go_enter Tryz.func94,Tryz.ntmps94
   go_wp2_with (first
    | (with_reducible refine wpList_load_part ?_ (.tmp 2) ?_ w.heap.size ?_ a ?_ ?_
       · rfl
       · rfl
       · rfl
       · exact h0.b0)
    | (with_reducible refine wpList_load_part ?_ (.tmp 3) ?_ (w.heap.size+1) ?_ b ?_ ?_
       · rfl
       · rfl
       · rfl
       · exact h0.b1)
    | (go_at_call 110
       refine (hbes.out _).mono ?_
       rintro e w1 ⟨rfl,k1⟩
       have h1:=h0.kept k1)
    | (with_reducible refine wpList_store_part ?_ (.tmp 5) (.tmp 8) ?_ w1.heap.size ?_ {} (besideP a b) ?_ ?_ ?_
       · rfl
       · rfl
       · rfl
       · rfl
       · exact Blk.new w1 (gpCells {}) 107
       intro w5 hb5 hk5 hs5
       have hg1:=h1.b2.lt
       have h5:=(h1.kept ((Kept.refl [] w1).alloc (.cells (gpCells {}) 107))).into hk5 hg1
       have c00:=h5.b0.part0
       have c01:=h5.b0.part1
       have c02:=h5.b0.part2
       have c03:=h5.b0.part3
       have c11:=h5.b1.part1
       have c12:=h5.b1.part2
       have c13:=h5.b1.part3
       rw [ha] at c01
       rw [hb] at c11
       have d1:=hb5.part1
       have d2:=hb5.part2
       have d3:=hb5.part3
       have f1:=hb5.frozen 1
       have f2:=hb5.frozen 2
       have f3:=hb5.frozen 3
       have hW:Hid (Blk _ _ _ _):=(((hb5.setE false).setF (a.first|||F)).setL (a.last|||L))
       have hO:Hid (Blk _ _ _ _):=(((h5.b2.other (b':=w1.heap.size) 1 (.bool false) (by omega)).other (b':=w1.heap.size) 2 (UV (a.first|||F)) (by omega)).other (b':=w1.heap.size) 3 (UV (a.last|||L)) (by omega))
       have hK:Hid (Kept _ _ _):=(((h5.k.setCell (p:=⟨w1.heap.size,1,none⟩) (Or.inr (by simp;omega)) (.bool false)).setCell (p:=⟨w1.heap.size,2,none⟩) (Or.inr (by simp;omega)) (UV (a.first|||F))).setCell (p:=⟨w1.heap.size,3,none⟩) (Or.inr (by simp;omega)) (UV (a.last|||L)))
       clear hb5 hk5 h1 hz)
    | (with_reducible refine wpList_load_part ?_ (.tmp 5) ?_ w1.heap.size ?_ { besideP a b with empty:=false,first:=(a.first|||F),last:=(a.last|||L) } ?_ ?_
       · rfl
       · rfl
       · rfl
       · exact hW.out)
    | (with_reducible refine wpList_store_part ?_ (.tmp 4) (.tmp 36) ?_ (w.heap.size+1+1) ?_ {} { besideP a b with empty:=false,first:=(a.first|||F),last:=(a.last|||L) } ?_ ?_ ?_
       · rfl
       · rfl
       · rfl
       · rfl
       · exact hO.out
       intro w8 hb8 hk8 hs8))
   exact bodyPost_ret (v:=.agg (gpCells { besideP a b with empty:=false,first:=(a.first|||F),last:=(a.last|||L) })) (results_part Tryz.results94 _ _ _ { besideP a b with empty:=false,first:=(a.first|||F),last:=(a.last|||L) } rfl hb8) rfl ⟨rfl,hK.out.into hk8 (by omega)⟩
 · simp only [Bool.or_true,Bool.or_false,Bool.true_or,Bool.false_or]
   go_enter Tryz.func94,Tryz.ntmps94
   go_wp2_with (first
    | (with_reducible refine wpList_load_part ?_ (.tmp 2) ?_ w.heap.size ?_ a ?_ ?_
       · rfl
       · rfl
       · rfl
       · exact h0.b0)
    | (with_reducible refine wpList_load_part ?_ (.tmp 3) ?_ (w.heap.size+1) ?_ b ?_ ?_
       · rfl
       · rfl
       · rfl
       · exact h0.b1)
    | (go_at_call 110
       refine (hbes.out _).mono ?_
       rintro e w1 ⟨rfl,k1⟩
       have h1:=h0.kept k1)
    | (with_reducible refine wpList_store_part ?_ (.tmp 5) (.tmp 8) ?_ w1.heap.size ?_ {} (besideP a b) ?_ ?_ ?_
       · rfl
       · rfl
       · rfl
       · rfl
       · exact Blk.new w1 (gpCells {}) 107
       intro w5 hb5 hk5 hs5
       have hg1:=h1.b2.lt
       have h5:=(h1.kept ((Kept.refl [] w1).alloc (.cells (gpCells {}) 107))).into hk5 hg1
       have c00:=h5.b0.part0
       have c01:=h5.b0.part1
       have c02:=h5.b0.part2
       have c03:=h5.b0.part3
       have c11:=h5.b1.part1
       have c12:=h5.b1.part2
       have c13:=h5.b1.part3
       rw [ha] at c01
       rw [hb] at c11
       have d1:=hb5.part1
       have d2:=hb5.part2
       have d3:=hb5.part3
       have f1:=hb5.frozen 1
       have f2:=hb5.frozen 2
       have f3:=hb5.frozen 3
       have hW:Hid (Blk _ _ _ _):=(((hb5.setE true).setF (a.first|||F)).setL (a.last|||L))
       have hO:Hid (Blk _ _ _ _):=(((h5.b2.other (b':=w1.heap.size) 1 (.bool true) (by omega)).other (b':=w1.heap.size) 2 (UV (a.first|||F)) (by omega)).other (b':=w1.heap.size) 3 (UV (a.last|||L)) (by omega))
       have hK:Hid (Kept _ _ _):=(((h5.k.setCell (p:=⟨w1.heap.size,1,none⟩) (Or.inr (by simp;omega)) (.bool true)).setCell (p:=⟨w1.heap.size,2,none⟩) (Or.inr (by simp;omega)) (UV (a.first|||F))).setCell (p:=⟨w1.heap.size,3,none⟩) (Or.inr (by simp;omega)) (UV (a.last|||L)))
       clear hb5 hk5 h1 hz)
    | (with_reducible refine wpList_load_part ?_ (.tmp 5) ?_ w1.heap.size ?_ { besideP a b with empty:=true,first:=(a.first|||F),last:=(a.last|||L) } ?_ ?_
       · rfl
       · rfl
       · rfl
       · exact hW.out)
    | (with_reducible refine wpList_store_part ?_ (.tmp 4) (.tmp 36) ?_ (w.heap.size+1+1) ?_ {} { besideP a b with empty:=true,first:=(a.first|||F),last:=(a.last|||L) } ?_ ?_ ?_
       · rfl
       · rfl
       · rfl
       · rfl
       · exact hO.out
       intro w8 hb8 hk8 hs8))
   exact bodyPost_ret (v:=.agg (gpCells { besideP a b with empty:=true,first:=(a.first|||F),last:=(a.last|||L) })) (results_part Tryz.results94 _ _ _ { besideP a b with empty:=true,first:=(a.first|||F),last:=(a.last|||L) } rfl hb8) rfl ⟨rfl,hK.out.into hk8 (by omega)⟩
 · simp only [Bool.or_true,Bool.or_false,Bool.true_or,Bool.false_or]
   go_enter Tryz.func94,Tryz.ntmps94
   go_wp2_with (first
    | (with_reducible refine wpList_load_part ?_ (.tmp 2) ?_ w.heap.size ?_ a ?_ ?_
       · rfl
       · rfl
       · rfl
       · exact h0.b0)
    | (with_reducible refine wpList_load_part ?_ (.tmp 3) ?_ (w.heap.size+1) ?_ b ?_ ?_
       · rfl
       · rfl
       · rfl
       · exact h0.b1)
    | (go_at_call 110
       refine (hbes.out _).mono ?_
       rintro e w1 ⟨rfl,k1⟩
       have h1:=h0.kept k1)
    | (with_reducible refine wpList_store_part ?_ (.tmp 5) (.tmp 8) ?_ w1.heap.size ?_ {} (besideP a b) ?_ ?_ ?_
       · rfl
       · rfl
       · rfl
       · rfl
       · exact Blk.new w1 (gpCells {}) 107
       intro w5 hb5 hk5 hs5
       have hg1:=h1.b2.lt
       have h5:=(h1.kept ((Kept.refl [] w1).alloc (.cells (gpCells {}) 107))).into hk5 hg1
       have c00:=h5.b0.part0
       have c01:=h5.b0.part1
       have c02:=h5.b0.part2
       have c03:=h5.b0.part3
       have c11:=h5.b1.part1
       have c12:=h5.b1.part2
       have c13:=h5.b1.part3
       rw [ha] at c01
       rw [hb] at c11
       have d1:=hb5.part1
       have d2:=hb5.part2
       have d3:=hb5.part3
       have f1:=hb5.frozen 1
       have f2:=hb5.frozen 2
       have f3:=hb5.frozen 3
       have hW:Hid (Blk _ _ _ _):=(((hb5.setE true).setF (a.first|||F)).setL (a.last|||L))
       have hO:Hid (Blk _ _ _ _):=(((h5.b2.other (b':=w1.heap.size) 1 (.bool true) (by omega)).other (b':=w1.heap.size) 2 (UV (a.first|||F)) (by omega)).other (b':=w1.heap.size) 3 (UV (a.last|||L)) (by omega))
       have hK:Hid (Kept _ _ _):=(((h5.k.setCell (p:=⟨w1.heap.size,1,none⟩) (Or.inr (by simp;omega)) (.bool true)).setCell (p:=⟨w1.heap.size,2,none⟩) (Or.inr (by simp;omega)) (UV (a.first|||F))).setCell (p:=⟨w1.heap.size,3,none⟩) (Or.inr (by simp;omega)) (UV (a.last|||L)))
       clear hb5 hk5 h1 hz)
    | (with_reducible refine wpList_load_part ?_ (.tmp 5) ?_ w1.heap.size ?_ { besideP a b with empty:=true,first:=(a.first|||F),last:=(a.last|||L) } ?_ ?_
       · rfl
       · rfl
       · rfl
       · exact hW.out)
    | (with_reducible refine wpList_store_part ?_ (.tmp 4) (.tmp 36) ?_ (w.heap.size+1+1) ?_ {} { besideP a b with empty:=true,first:=(a.first|||F),last:=(a.last|||L) } ?_ ?_ ?_
       · rfl
       · rfl
       · rfl
       · rfl
       · exact hO.out
       intro w8 hb8 hk8 hs8))
   exact bodyPost_ret (v:=.agg (gpCells { besideP a b with empty:=true,first:=(a.first|||F),last:=(a.last|||L) })) (results_part Tryz.results94 _ _ _ { besideP a b with empty:=true,first:=(a.first|||F),last:=(a.last|||L) } rfl hb8) rfl ⟨rfl,hK.out.into hk8 (by omega)⟩
 · simp only [Bool.or_true,Bool.or_false,Bool.true_or,Bool.false_or]
   go_enter Tryz.func94,Tryz.ntmps94
   go_wp2_with (first
    | (with_reducible refine wpList_load_part ?_ (.tmp 2) ?_ w.heap.size ?_ a ?_ ?_
       · rfl
       · rfl
       · rfl
       · exact h0.b0)
    | (with_reducible refine wpList_load_part ?_ (.tmp 3) ?_ (w.heap.size+1) ?_ b ?_ ?_
       · rfl
       · rfl
       · rfl
       · exact h0.b1)
    | (go_at_call 110
       refine (hbes.out _).mono ?_
       rintro e w1 ⟨rfl,k1⟩
       have h1:=h0.kept k1)
    | (with_reducible refine wpList_store_part ?_ (.tmp 5) (.tmp 8) ?_ w1.heap.size ?_ {} (besideP a b) ?_ ?_ ?_
       · rfl
       · rfl
       · rfl
       · rfl
       · exact Blk.new w1 (gpCells {}) 107
       intro w5 hb5 hk5 hs5
       have hg1:=h1.b2.lt
       have h5:=(h1.kept ((Kept.refl [] w1).alloc (.cells (gpCells {}) 107))).into hk5 hg1
       have c00:=h5.b0.part0
       have c01:=h5.b0.part1
       have c02:=h5.b0.part2
       have c03:=h5.b0.part3
       have c11:=h5.b1.part1
       have c12:=h5.b1.part2
       have c13:=h5.b1.part3
       rw [ha] at c01
       rw [hb] at c11
       have d1:=hb5.part1
       have d2:=hb5.part2
       have d3:=hb5.part3
       have f1:=hb5.frozen 1
       have f2:=hb5.frozen 2
       have f3:=hb5.frozen 3
       have hW:Hid (Blk _ _ _ _):=(((hb5.setE true).setF (a.first|||F)).setL (a.last|||L))
       have hO:Hid (Blk _ _ _ _):=(((h5.b2.other (b':=w1.heap.size) 1 (.bool true) (by omega)).other (b':=w1.heap.size) 2 (UV (a.first|||F)) (by omega)).other (b':=w1.heap.size) 3 (UV (a.last|||L)) (by omega))
       have hK:Hid (Kept _ _ _):=(((h5.k.setCell (p:=⟨w1.heap.size,1,none⟩) (Or.inr (by simp;omega)) (.bool true)).setCell (p:=⟨w1.heap.size,2,none⟩) (Or.inr (by simp;omega)) (UV (a.first|||F))).setCell (p:=⟨w1.heap.size,3,none⟩) (Or.inr (by simp;omega)) (UV (a.last|||L)))
       clear hb5 hk5 h1 hz)
    | (with_reducible refine wpList_load_part ?_ (.tmp 5) ?_ w1.heap.size ?_ { besideP a b with empty:=true,first:=(a.first|||F),last:=(a.last|||L) } ?_ ?_
       · rfl
       · rfl
       · rfl
       · exact hW.out)
    | (with_reducible refine wpList_store_part ?_ (.tmp 4) (.tmp 36) ?_ (w.heap.size+1+1) ?_ {} { besideP a b with empty:=true,first:=(a.first|||F),last:=(a.last|||L) } ?_ ?_ ?_
       · rfl
       · rfl
       · rfl
       · rfl
       · exact hO.out
       intro w8 hb8 hk8 hs8))
   exact bodyPost_ret (v:=.agg (gpCells { besideP a b with empty:=true,first:=(a.first|||F),last:=(a.last|||L) })) (results_part Tryz.results94 _ _ _ { besideP a b with empty:=true,first:=(a.first|||F),last:=(a.last|||L) } rfl hb8) rfl ⟨rfl,hK.out.into hk8 (by omega)⟩
end Go.Proofs.YtgifhgnccmnbiabGreat
