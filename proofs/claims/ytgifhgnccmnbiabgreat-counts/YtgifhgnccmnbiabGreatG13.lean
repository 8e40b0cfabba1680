/- The machine: partOf: the part of a node. -/
import Derived.Test.YtgifhgnccmnbiabGreatG12
import Derived.Test.YtgifhgnccmnbiabGreatG03
set_option linter.unusedVariables false
set_option linter.unusedSimpArgs false
set_option maxHeartbeats 4000000
set_option maxRecDepth 100000
namespace Go.Proofs.YtgifhgnccmnbiabGreat
open Go.RowKit Go.IntWalk
theorem PartsIn.keep {w w':World} {B:Nat} {v:Value} {ps:List GP} {S:List Nat} (h:PartsIn w B v ps) (k:Kept S w w') (hs:∀g,g∈S→g<B):PartsIn w' B v ps:=by
 refine ⟨h.1,?_⟩
 rcases h.2 with h1 | ⟨g,cap,cur,h1,h2,h3,h4⟩
 · exact Or.inl h1
 · have hlt:g<w.heap.size:=(Array.getElem?_eq_some_iff.1 h3).1
   exact Or.inr ⟨g,cap,cur,h1,h2,(k.block g hlt (fun hc=>by have:=hs g hc;omega)).trans h3,h4⟩
theorem PartsIn.fresh {w w':World} {B:Nat} {v:Value} {ps:List GP} {o:Obj} (h:PartsIn w B v ps) (k:Kept [w.heap.size] (w.alloc o) w'):PartsIn w' B v ps:=by
 refine ⟨h.1,?_⟩
 rcases h.2 with h1 | ⟨g,cap,cur,h1,h2,h3,h4⟩
 · exact Or.inl h1
 · have hlt:g<w.heap.size:=(Array.getElem?_eq_some_iff.1 h3).1
   exact Or.inr ⟨g,cap,cur,h1,h2,((k.block g (by simp;omega) (by simp;omega)).trans (Below.heap_alloc _ _ _ hlt)).trans h3,h4⟩
def stepP (k:Nat):GP:={ count:=1,first:=1#64,last:=1#64,node:=fun i=>if i=0 then k else 0 }
def partOfP (n:AN) (k:Nat) (ps:List GP):GP:=
 if n.kind=0 then noneP else if n.kind=4 then bothP (partAtP ps n.left) (partAtP ps n.right) else if n.kind=5 then eitherP (partAtP ps n.left) (partAtP ps n.right)
 else if n.kind=6 then repP (partAtP ps n.left) n.least n.most else stepP k
structure NodeFits (n:AN) (ps:List GP):Prop where
 left:-1000≤n.left∧n.left≤1000
 right:-1000≤n.right∧n.right≤1000
 two:n.kind=4∨n.kind=5→(partAtP ps n.left).count+(partAtP ps n.right).count≤60
 fit:n.kind=6→(partAtP ps n.left).Fit
 rep:n.kind=6→0≤n.least∧n.least≤9∧-1≤n.most∧n.most≤9∧repN n.least n.most*(partAtP ps n.left).count≤60
structure OfIn (w0 w:World) (n:AN) (x:IV):Prop where
 b0:Blk w w0.heap.size #[.int .i64 n.kind,.slice x.1 x.2.1 x.2.2,.bool n.neg,.int .i64 n.left,.int .i64 n.right,.int .i64 n.least,.int .i64 n.most,.int .i64 n.size] 114
 b1:Blk w (w0.heap.size+1) (gpCells {}) 107
 k:Kept [] w0 w
theorem OfIn.kept {w0 w w':World} {n:AN} {x:IV} (h:OfIn w0 w n x) (k:Kept [] w w'):OfIn w0 w' n x:=⟨h.b0.kept k (by simp),h.b1.kept k (by simp),h.k.trans k⟩
theorem OfIn.fresh {w0 w w':World} {n:AN} {x:IV} {o:Obj} (h:OfIn w0 w n x) (k:Kept [w.heap.size] (w.alloc o) w'):OfIn w0 w' n x:=by
 have:=h.b1.lt
 exact ⟨(h.b0.alloc o).kept k (by simp;omega),(h.b1.alloc o).kept k (by simp;omega),(h.k.alloc o).into k (by omega)⟩
theorem partOf_none (n:AN) (x:IV) (k:Nat) (ps:List GP) (B:Nat) (v:Value) (w:World) (h:PartsIn w B v ps) (hl:ps.length≤1000) (hk:k≤1000) (hn:NodeFits n ps) (hkd:n.kind=0):
 PartCall 66 #[.agg #[.int .i64 n.kind,.slice x.1 x.2.1 x.2.2,.bool n.neg,.int .i64 n.left,.int .i64 n.right,.int .i64 n.least,.int .i64 n.most,.int .i64 n.size],.int .i64 (k:Int),v] w (partOfP n k ps):=by
 have eP:partOfP n k ps=noneP:=by unfold partOfP;rw [if_pos hkd]
 rw [eP]
 unfold PartCall
 have hz:=zeroV_part
 have hB:OfIn w ((w.alloc (.cells #[.int .i64 n.kind,.slice x.1 x.2.1 x.2.2,.bool n.neg,.int .i64 n.left,.int .i64 n.right,.int .i64 n.least,.int .i64 n.most,.int .i64 n.size] 114)).alloc (.cells (gpCells {}) 107)) n x:=⟨(Blk.new _ _ _).alloc _,Blk.new1 _ _ _ _,((Kept.refl _ _).alloc _).alloc _⟩
 have hPP:PartsIn ((w.alloc (.cells #[.int .i64 n.kind,.slice x.1 x.2.1 x.2.2,.bool n.neg,.int .i64 n.left,.int .i64 n.right,.int .i64 n.least,.int .i64 n.most,.int .i64 n.size] 114)).alloc (.cells (gpCells {}) 107)) B v ps:=h.keep (((Kept.refl [] _).alloc _).alloc _) (by simp)
 have hPH:Hid (PartsIn _ _ _ _):=hPP
 have hlH:Hid (∀w',PartsIn w' B v ps→PartCall 92 #[v,.int .i64 n.left] w' (partAtP ps n.left)):=fun w' h'=>partAt_any ps B v n.left w' h' hl hn.left.1 hn.left.2
 have hrH:Hid (∀w',PartsIn w' B v ps→PartCall 92 #[v,.int .i64 n.right] w' (partAtP ps n.right)):=fun w' h'=>partAt_any ps B v n.right w' h' hl hn.right.1 hn.right.2
 have hkH:Hid (_ ):=hkd
 clear h hn hPP hkd
 generalize partAtP ps n.left=L at *
 generalize partAtP ps n.right=R at *
 go_enter Tryz.func66,Tryz.ntmps66
 go_wp2_with (first
  | (go_at_call 92
     refine (hlH.out _ hPH.out).mono ?_
     rintro e w1 ⟨rfl,k1⟩
     have hB1:=hB.kept k1
     have hP1:Hid (PartsIn _ _ _ _):=hPH.out.keep k1 (by simp)
     clear hPH hB)
  | (with_reducible refine wpList_store_part ?_ (.tmp 7) (.tmp 13) ?_ w1.heap.size ?_ {} L ?_ ?_ ?_
     · rfl
     · rfl
     · rfl
     · rfl
     · exact Blk.new w1 (gpCells {}) 107
     intro w2 hb2 hk2 hs2
     have hB2:=hB1.fresh hk2
     have hP2:Hid (PartsIn _ _ _ _):=hP1.out.fresh hk2
     have c4:w2.cell? ⟨w.heap.size,4,none⟩=some (.int .i64 n.right):=by rw [hB2.b0.cell];rfl
     clear hs2)
  | (go_at_call 92
     refine (hrH.out _ hP2.out).mono ?_
     rintro e w3 ⟨rfl,k3⟩
     have hB3:=hB2.kept k3
     have hb3:=hb2.kept k3 (by simp)
     clear c4)
  | (with_reducible refine wpList_store_part ?_ (.tmp 8) (.tmp 17) ?_ w3.heap.size ?_ {} R ?_ ?_ ?_
     · rfl
     · rfl
     · rfl
     · rfl
     · exact Blk.new w3 (gpCells {}) 107
     intro w4 hb4 hk4 hs4
     have hB4:=hB3.fresh hk4
     have hlt3:=hb3.lt
     have hlt1:=hB1.b1.lt
     have hL4:Blk w4 w1.heap.size (gpCells L) 107:=(hb3.alloc _).kept hk4 (by simp;omega)
     have e0:w4.cell? ⟨w.heap.size,0,none⟩=some (.int .i64 n.kind):=by rw [hB4.b0.cell];rfl
     have e5:w4.cell? ⟨w.heap.size,5,none⟩=some (.int .i64 n.least):=by rw [hB4.b0.cell];rfl
     have e6:w4.cell? ⟨w.heap.size,6,none⟩=some (.int .i64 n.most):=by rw [hB4.b0.cell];rfl
     rw [hkH.out] at e0)
  | (refine wpList_build_none rfl rfl ?_)
  | (with_reducible refine wpList_store_part ?_ (.tmp 6) (.tmp 22) ?_ (w.heap.size+1) ?_ {} noneP ?_ ?_ ?_
     · rfl
     · rfl
     · rfl
     · rfl
     · exact hB4.b1
     intro w8 hb8 hk8 hs8
     have hK8:=hB4.k.into hk8 (by omega)))
 exact bodyPost_ret (v:=.agg (gpCells noneP)) (results_part Tryz.results66 _ _ _ noneP rfl hb8) rfl ⟨rfl,hK8⟩
theorem partOf_both (n:AN) (x:IV) (k:Nat) (ps:List GP) (B:Nat) (v:Value) (w:World) (h:PartsIn w B v ps) (hl:ps.length≤1000) (hk:k≤1000) (hn:NodeFits n ps) (hkd:n.kind=4):
 PartCall 66 #[.agg #[.int .i64 n.kind,.slice x.1 x.2.1 x.2.2,.bool n.neg,.int .i64 n.left,.int .i64 n.right,.int .i64 n.least,.int .i64 n.most,.int .i64 n.size],.int .i64 (k:Int),v] w (partOfP n k ps):=by
 have eP:partOfP n k ps=bothP (partAtP ps n.left) (partAtP ps n.right):=by unfold partOfP;rw [if_neg (by omega),if_pos hkd]
 rw [eP]
 have hcall:Hid (∀w,PartCall 93 _ w _):=fun w=>both_any (partAtP ps n.left) (partAtP ps n.right) (hn.two (Or.inl hkd)) w
 generalize bothP (partAtP ps n.left) (partAtP ps n.right)=P at *
 unfold PartCall
 have hz:=zeroV_part
 have hB:OfIn w ((w.alloc (.cells #[.int .i64 n.kind,.slice x.1 x.2.1 x.2.2,.bool n.neg,.int .i64 n.left,.int .i64 n.right,.int .i64 n.least,.int .i64 n.most,.int .i64 n.size] 114)).alloc (.cells (gpCells {}) 107)) n x:=⟨(Blk.new _ _ _).alloc _,Blk.new1 _ _ _ _,((Kept.refl _ _).alloc _).alloc _⟩
 have hPP:PartsIn ((w.alloc (.cells #[.int .i64 n.kind,.slice x.1 x.2.1 x.2.2,.bool n.neg,.int .i64 n.left,.int .i64 n.right,.int .i64 n.least,.int .i64 n.most,.int .i64 n.size] 114)).alloc (.cells (gpCells {}) 107)) B v ps:=h.keep (((Kept.refl [] _).alloc _).alloc _) (by simp)
 have hPH:Hid (PartsIn _ _ _ _):=hPP
 have hlH:Hid (∀w',PartsIn w' B v ps→PartCall 92 #[v,.int .i64 n.left] w' (partAtP ps n.left)):=fun w' h'=>partAt_any ps B v n.left w' h' hl hn.left.1 hn.left.2
 have hrH:Hid (∀w',PartsIn w' B v ps→PartCall 92 #[v,.int .i64 n.right] w' (partAtP ps n.right)):=fun w' h'=>partAt_any ps B v n.right w' h' hl hn.right.1 hn.right.2
 have hkH:Hid (_ ):=hkd
 clear h hn hPP hkd
 generalize partAtP ps n.left=L at *
 generalize partAtP ps n.right=R at *
 go_enter Tryz.func66,Tryz.ntmps66
 go_wp2_with (first
  | (go_at_call 92
     refine (hlH.out _ hPH.out).mono ?_
     rintro e w1 ⟨rfl,k1⟩
     have hB1:=hB.kept k1
     have hP1:Hid (PartsIn _ _ _ _):=hPH.out.keep k1 (by simp)
     clear hPH hB)
  | (with_reducible refine wpList_store_part ?_ (.tmp 7) (.tmp 13) ?_ w1.heap.size ?_ {} L ?_ ?_ ?_
     · rfl
     · rfl
     · rfl
     · rfl
     · exact Blk.new w1 (gpCells {}) 107
     intro w2 hb2 hk2 hs2
     have hB2:=hB1.fresh hk2
     have hP2:Hid (PartsIn _ _ _ _):=hP1.out.fresh hk2
     have c4:w2.cell? ⟨w.heap.size,4,none⟩=some (.int .i64 n.right):=by rw [hB2.b0.cell];rfl
     clear hs2)
  | (go_at_call 92
     refine (hrH.out _ hP2.out).mono ?_
     rintro e w3 ⟨rfl,k3⟩
     have hB3:=hB2.kept k3
     have hb3:=hb2.kept k3 (by simp)
     clear c4)
  | (with_reducible refine wpList_store_part ?_ (.tmp 8) (.tmp 17) ?_ w3.heap.size ?_ {} R ?_ ?_ ?_
     · rfl
     · rfl
     · rfl
     · rfl
     · exact Blk.new w3 (gpCells {}) 107
     intro w4 hb4 hk4 hs4
     have hB4:=hB3.fresh hk4
     have hlt3:=hb3.lt
     have hlt1:=hB1.b1.lt
     have hL4:Blk w4 w1.heap.size (gpCells L) 107:=(hb3.alloc _).kept hk4 (by simp;omega)
     have e0:w4.cell? ⟨w.heap.size,0,none⟩=some (.int .i64 n.kind):=by rw [hB4.b0.cell];rfl
     have e5:w4.cell? ⟨w.heap.size,5,none⟩=some (.int .i64 n.least):=by rw [hB4.b0.cell];rfl
     have e6:w4.cell? ⟨w.heap.size,6,none⟩=some (.int .i64 n.most):=by rw [hB4.b0.cell];rfl
     rw [hkH.out] at e0)
  | (with_reducible refine wpList_load_part ?_ (.tmp 7) ?_ w1.heap.size ?_ L ?_ ?_
     · rfl
     · rfl
     · rfl
     · exact hL4)
  | (with_reducible refine wpList_load_part ?_ (.tmp 8) ?_ w3.heap.size ?_ R ?_ ?_
     · rfl
     · rfl
     · rfl
     · exact hb4)
  | (go_at_call 93
     refine (hcall.out _).mono ?_
     rintro e w5 ⟨rfl,k5⟩
     have hB5:=hB4.kept k5)
  | (with_reducible refine wpList_store_part ?_ (.tmp 6) (.tmp 27) ?_ (w.heap.size+1) ?_ {} P ?_ ?_ ?_
     · rfl
     · rfl
     · rfl
     · rfl
     · exact hB5.b1
     intro w8 hb8 hk8 hs8
     have hK8:=hB5.k.into hk8 (by omega)))
 exact bodyPost_ret (v:=.agg (gpCells P)) (results_part Tryz.results66 _ _ _ P rfl hb8) rfl ⟨rfl,hK8⟩
theorem partOf_either (n:AN) (x:IV) (k:Nat) (ps:List GP) (B:Nat) (v:Value) (w:World) (h:PartsIn w B v ps) (hl:ps.length≤1000) (hk:k≤1000) (hn:NodeFits n ps) (hkd:n.kind=5):
 PartCall 66 #[.agg #[.int .i64 n.kind,.slice x.1 x.2.1 x.2.2,.bool n.neg,.int .i64 n.left,.int .i64 n.right,.int .i64 n.least,.int .i64 n.most,.int .i64 n.size],.int .i64 (k:Int),v] w (partOfP n k ps):=by
 have eP:partOfP n k ps=eitherP (partAtP ps n.left) (partAtP ps n.right):=by unfold partOfP;rw [if_neg (by omega),if_neg (by omega),if_pos hkd]
 rw [eP]
 have hcall:Hid (∀w,PartCall 94 _ w _):=fun w=>meither_any (partAtP ps n.left) (partAtP ps n.right) (hn.two (Or.inr hkd)) w
 generalize eitherP (partAtP ps n.left) (partAtP ps n.right)=P at *
 unfold PartCall
 have hz:=zeroV_part
 have hB:OfIn w ((w.alloc (.cells #[.int .i64 n.kind,.slice x.1 x.2.1 x.2.2,.bool n.neg,.int .i64 n.left,.int .i64 n.right,.int .i64 n.least,.int .i64 n.most,.int .i64 n.size] 114)).alloc (.cells (gpCells {}) 107)) n x:=⟨(Blk.new _ _ _).alloc _,Blk.new1 _ _ _ _,((Kept.refl _ _).alloc _).alloc _⟩
 have hPP:PartsIn ((w.alloc (.cells #[.int .i64 n.kind,.slice x.1 x.2.1 x.2.2,.bool n.neg,.int .i64 n.left,.int .i64 n.right,.int .i64 n.least,.int .i64 n.most,.int .i64 n.size] 114)).alloc (.cells (gpCells {}) 107)) B v ps:=h.keep (((Kept.refl [] _).alloc _).alloc _) (by simp)
 have hPH:Hid (PartsIn _ _ _ _):=hPP
 have hlH:Hid (∀w',PartsIn w' B v ps→PartCall 92 #[v,.int .i64 n.left] w' (partAtP ps n.left)):=fun w' h'=>partAt_any ps B v n.left w' h' hl hn.left.1 hn.left.2
 have hrH:Hid (∀w',PartsIn w' B v ps→PartCall 92 #[v,.int .i64 n.right] w' (partAtP ps n.right)):=fun w' h'=>partAt_any ps B v n.right w' h' hl hn.right.1 hn.right.2
 have hkH:Hid (_ ):=hkd
 clear h hn hPP hkd
 generalize partAtP ps n.left=L at *
 generalize partAtP ps n.right=R at *
 go_enter Tryz.func66,Tryz.ntmps66
 go_wp2_with (first
  | (go_at_call 92
     refine (hlH.out _ hPH.out).mono ?_
     rintro e w1 ⟨rfl,k1⟩
     have hB1:=hB.kept k1
     have hP1:Hid (PartsIn _ _ _ _):=hPH.out.keep k1 (by simp)
     clear hPH hB)
  | (with_reducible refine wpList_store_part ?_ (.tmp 7) (.tmp 13) ?_ w1.heap.size ?_ {} L ?_ ?_ ?_
     · rfl
     · rfl
     · rfl
     · rfl
     · exact Blk.new w1 (gpCells {}) 107
     intro w2 hb2 hk2 hs2
     have hB2:=hB1.fresh hk2
     have hP2:Hid (PartsIn _ _ _ _):=hP1.out.fresh hk2
     have c4:w2.cell? ⟨w.heap.size,4,none⟩=some (.int .i64 n.right):=by rw [hB2.b0.cell];rfl
     clear hs2)
  | (go_at_call 92
     refine (hrH.out _ hP2.out).mono ?_
     rintro e w3 ⟨rfl,k3⟩
     have hB3:=hB2.kept k3
     have hb3:=hb2.kept k3 (by simp)
     clear c4)
  | (with_reducible refine wpList_store_part ?_ (.tmp 8) (.tmp 17) ?_ w3.heap.size ?_ {} R ?_ ?_ ?_
     · rfl
     · rfl
     · rfl
     · rfl
     · exact Blk.new w3 (gpCells {}) 107
     intro w4 hb4 hk4 hs4
     have hB4:=hB3.fresh hk4
     have hlt3:=hb3.lt
     have hlt1:=hB1.b1.lt
     have hL4:Blk w4 w1.heap.size (gpCells L) 107:=(hb3.alloc _).kept hk4 (by simp;omega)
     have e0:w4.cell? ⟨w.heap.size,0,none⟩=some (.int .i64 n.kind):=by rw [hB4.b0.cell];rfl
     have e5:w4.cell? ⟨w.heap.size,5,none⟩=some (.int .i64 n.least):=by rw [hB4.b0.cell];rfl
     have e6:w4.cell? ⟨w.heap.size,6,none⟩=some (.int .i64 n.most):=by rw [hB4.b0.cell];rfl
     rw [hkH.out] at e0)
  | (with_reducible refine wpList_load_part ?_ (.tmp 7) ?_ w1.heap.size ?_ L ?_ ?_
     · rfl
     · rfl
     · rfl
     · exact hL4)
  | (with_reducible refine wpList_load_part ?_ (.tmp 8) ?_ w3.heap.size ?_ R ?_ ?_
     · rfl
     · rfl
     · rfl
     · exact hb4)
  | (go_at_call 94
     refine (hcall.out _).mono ?_
     rintro e w5 ⟨rfl,k5⟩
     have hB5:=hB4.kept k5)
  | (with_reducible refine wpList_store_part ?_ (.tmp 6) (.tmp 32) ?_ (w.heap.size+1) ?_ {} P ?_ ?_ ?_
     · rfl
     · rfl
     · rfl
     · rfl
     · exact hB5.b1
     intro w8 hb8 hk8 hs8
     have hK8:=hB5.k.into hk8 (by omega)))
 exact bodyPost_ret (v:=.agg (gpCells P)) (results_part Tryz.results66 _ _ _ P rfl hb8) rfl ⟨rfl,hK8⟩
theorem partOf_rep (n:AN) (x:IV) (k:Nat) (ps:List GP) (B:Nat) (v:Value) (w:World) (h:PartsIn w B v ps) (hl:ps.length≤1000) (hk:k≤1000) (hn:NodeFits n ps) (hkd:n.kind=6):
 PartCall 66 #[.agg #[.int .i64 n.kind,.slice x.1 x.2.1 x.2.2,.bool n.neg,.int .i64 n.left,.int .i64 n.right,.int .i64 n.least,.int .i64 n.most,.int .i64 n.size],.int .i64 (k:Int),v] w (partOfP n k ps):=by
 have eP:partOfP n k ps=repP (partAtP ps n.left) n.least n.most:=by unfold partOfP;rw [if_neg (by omega),if_neg (by omega),if_neg (by omega),if_pos hkd]
 rw [eP]
 obtain ⟨q1,q2,q3,q4,q5⟩:=hn.rep hkd
 have hcall:Hid (∀w,PartCall 95 _ w _):=fun w=>repeated_any (partAtP ps n.left) (hn.fit hkd) n.least n.most q1 q2 q3 q4 q5 w
 clear q5
 generalize repP (partAtP ps n.left) n.least n.most=P at *
 unfold PartCall
 have hz:=zeroV_part
 have hB:OfIn w ((w.alloc (.cells #[.int .i64 n.kind,.slice x.1 x.2.1 x.2.2,.bool n.neg,.int .i64 n.left,.int .i64 n.right,.int .i64 n.least,.int .i64 n.most,.int .i64 n.size] 114)).alloc (.cells (gpCells {}) 107)) n x:=⟨(Blk.new _ _ _).alloc _,Blk.new1 _ _ _ _,((Kept.refl _ _).alloc _).alloc _⟩
 have hPP:PartsIn ((w.alloc (.cells #[.int .i64 n.kind,.slice x.1 x.2.1 x.2.2,.bool n.neg,.int .i64 n.left,.int .i64 n.right,.int .i64 n.least,.int .i64 n.most,.int .i64 n.size] 114)).alloc (.cells (gpCells {}) 107)) B v ps:=h.keep (((Kept.refl [] _).alloc _).alloc _) (by simp)
 have hPH:Hid (PartsIn _ _ _ _):=hPP
 have hlH:Hid (∀w',PartsIn w' B v ps→PartCall 92 #[v,.int .i64 n.left] w' (partAtP ps n.left)):=fun w' h'=>partAt_any ps B v n.left w' h' hl hn.left.1 hn.left.2
 have hrH:Hid (∀w',PartsIn w' B v ps→PartCall 92 #[v,.int .i64 n.right] w' (partAtP ps n.right)):=fun w' h'=>partAt_any ps B v n.right w' h' hl hn.right.1 hn.right.2
 have hkH:Hid (_ ):=hkd
 clear h hn hPP hkd
 generalize partAtP ps n.left=L at *
 generalize partAtP ps n.right=R at *
 go_enter Tryz.func66,Tryz.ntmps66
 go_wp2_with (first
  | (go_at_call 92
     refine (hlH.out _ hPH.out).mono ?_
     rintro e w1 ⟨rfl,k1⟩
     have hB1:=hB.kept k1
     have hP1:Hid (PartsIn _ _ _ _):=hPH.out.keep k1 (by simp)
     clear hPH hB)
  | (with_reducible refine wpList_store_part ?_ (.tmp 7) (.tmp 13) ?_ w1.heap.size ?_ {} L ?_ ?_ ?_
     · rfl
     · rfl
     · rfl
     · rfl
     · exact Blk.new w1 (gpCells {}) 107
     intro w2 hb2 hk2 hs2
     have hB2:=hB1.fresh hk2
     have hP2:Hid (PartsIn _ _ _ _):=hP1.out.fresh hk2
     have c4:w2.cell? ⟨w.heap.size,4,none⟩=some (.int .i64 n.right):=by rw [hB2.b0.cell];rfl
     clear hs2)
  | (go_at_call 92
     refine (hrH.out _ hP2.out).mono ?_
     rintro e w3 ⟨rfl,k3⟩
     have hB3:=hB2.kept k3
     have hb3:=hb2.kept k3 (by simp)
     clear c4)
  | (with_reducible refine wpList_store_part ?_ (.tmp 8) (.tmp 17) ?_ w3.heap.size ?_ {} R ?_ ?_ ?_
     · rfl
     · rfl
     · rfl
     · rfl
     · exact Blk.new w3 (gpCells {}) 107
     intro w4 hb4 hk4 hs4
     have hB4:=hB3.fresh hk4
     have hlt3:=hb3.lt
     have hlt1:=hB1.b1.lt
     have hL4:Blk w4 w1.heap.size (gpCells L) 107:=(hb3.alloc _).kept hk4 (by simp;omega)
     have e0:w4.cell? ⟨w.heap.size,0,none⟩=some (.int .i64 n.kind):=by rw [hB4.b0.cell];rfl
     have e5:w4.cell? ⟨w.heap.size,5,none⟩=some (.int .i64 n.least):=by rw [hB4.b0.cell];rfl
     have e6:w4.cell? ⟨w.heap.size,6,none⟩=some (.int .i64 n.most):=by rw [hB4.b0.cell];rfl
     rw [hkH.out] at e0)
  | (with_reducible refine wpList_load_part ?_ (.tmp 7) ?_ w1.heap.size ?_ L ?_ ?_
     · rfl
     · rfl
     · rfl
     · exact hL4)
  | (go_at_call 95
     refine (hcall.out _).mono ?_
     rintro e w5 ⟨rfl,k5⟩
     have hB5:=hB4.kept k5)
  | (with_reducible refine wpList_store_part ?_ (.tmp 6) (.tmp 40) ?_ (w.heap.size+1) ?_ {} P ?_ ?_ ?_
     · rfl
     · rfl
     · rfl
     · rfl
     · exact hB5.b1
     intro w8 hb8 hk8 hs8
     have hK8:=hB5.k.into hk8 (by omega)))
 exact bodyPost_ret (v:=.agg (gpCells P)) (results_part Tryz.results66 _ _ _ P rfl hb8) rfl ⟨rfl,hK8⟩
theorem partOf_step (n:AN) (x:IV) (k:Nat) (ps:List GP) (B:Nat) (v:Value) (w:World) (h:PartsIn w B v ps) (hl:ps.length≤1000) (hk:k≤1000) (hn:NodeFits n ps) (hkd:n.kind=1∨n.kind=2∨n.kind=3):
 PartCall 66 #[.agg #[.int .i64 n.kind,.slice x.1 x.2.1 x.2.2,.bool n.neg,.int .i64 n.left,.int .i64 n.right,.int .i64 n.least,.int .i64 n.most,.int .i64 n.size],.int .i64 (k:Int),v] w (partOfP n k ps):=by
 have eP:partOfP n k ps=stepP k:=by unfold partOfP;rw [if_neg (by omega),if_neg (by omega),if_neg (by omega),if_neg (by omega)]
 rw [eP]
 rw [show n.kind=n.kind from rfl]
 have hk0:n.kind≠0:=by omega
 have hk4:n.kind≠4:=by omega
 have hk5':n.kind≠5:=by omega
 have hk6':n.kind≠6:=by omega
 unfold PartCall
 have hz:=zeroV_part
 have hB:OfIn w ((w.alloc (.cells #[.int .i64 n.kind,.slice x.1 x.2.1 x.2.2,.bool n.neg,.int .i64 n.left,.int .i64 n.right,.int .i64 n.least,.int .i64 n.most,.int .i64 n.size] 114)).alloc (.cells (gpCells {}) 107)) n x:=⟨(Blk.new _ _ _).alloc _,Blk.new1 _ _ _ _,((Kept.refl _ _).alloc _).alloc _⟩
 have hPP:PartsIn ((w.alloc (.cells #[.int .i64 n.kind,.slice x.1 x.2.1 x.2.2,.bool n.neg,.int .i64 n.left,.int .i64 n.right,.int .i64 n.least,.int .i64 n.most,.int .i64 n.size] 114)).alloc (.cells (gpCells {}) 107)) B v ps:=h.keep (((Kept.refl [] _).alloc _).alloc _) (by simp)
 have hPH:Hid (PartsIn _ _ _ _):=hPP
 have hlH:Hid (∀w',PartsIn w' B v ps→PartCall 92 #[v,.int .i64 n.left] w' (partAtP ps n.left)):=fun w' h'=>partAt_any ps B v n.left w' h' hl hn.left.1 hn.left.2
 have hrH:Hid (∀w',PartsIn w' B v ps→PartCall 92 #[v,.int .i64 n.right] w' (partAtP ps n.right)):=fun w' h'=>partAt_any ps B v n.right w' h' hl hn.right.1 hn.right.2
 have hkH:Hid (_ ):=hkd
 clear h hn hPP hkd
 generalize partAtP ps n.left=L at *
 generalize partAtP ps n.right=R at *
 go_enter Tryz.func66,Tryz.ntmps66
 go_wp2_with (first
  | (go_at_call 92
     refine (hlH.out _ hPH.out).mono ?_
     rintro e w1 ⟨rfl,k1⟩
     have hB1:=hB.kept k1
     have hP1:Hid (PartsIn _ _ _ _):=hPH.out.keep k1 (by simp)
     clear hPH hB)
  | (with_reducible refine wpList_store_part ?_ (.tmp 7) (.tmp 13) ?_ w1.heap.size ?_ {} L ?_ ?_ ?_
     · rfl
     · rfl
     · rfl
     · rfl
     · exact Blk.new w1 (gpCells {}) 107
     intro w2 hb2 hk2 hs2
     have hB2:=hB1.fresh hk2
     have hP2:Hid (PartsIn _ _ _ _):=hP1.out.fresh hk2
     have c4:w2.cell? ⟨w.heap.size,4,none⟩=some (.int .i64 n.right):=by rw [hB2.b0.cell];rfl
     clear hs2)
  | (go_at_call 92
     refine (hrH.out _ hP2.out).mono ?_
     rintro e w3 ⟨rfl,k3⟩
     have hB3:=hB2.kept k3
     have hb3:=hb2.kept k3 (by simp)
     clear c4)
  | (with_reducible refine wpList_store_part ?_ (.tmp 8) (.tmp 17) ?_ w3.heap.size ?_ {} R ?_ ?_ ?_
     · rfl
     · rfl
     · rfl
     · rfl
     · exact Blk.new w3 (gpCells {}) 107
     intro w4 hb4 hk4 hs4
     have hB4:=hB3.fresh hk4
     have hlt3:=hb3.lt
     have hlt1:=hB1.b1.lt
     have hL4:Blk w4 w1.heap.size (gpCells L) 107:=(hb3.alloc _).kept hk4 (by simp;omega)
     have e0:w4.cell? ⟨w.heap.size,0,none⟩=some (.int .i64 n.kind):=by rw [hB4.b0.cell];rfl
     have e5:w4.cell? ⟨w.heap.size,5,none⟩=some (.int .i64 n.least):=by rw [hB4.b0.cell];rfl
     have e6:w4.cell? ⟨w.heap.size,6,none⟩=some (.int .i64 n.most):=by rw [hB4.b0.cell];rfl
     clear hs4)
  | (refine wpList_build_step rfl rfl ?_)
  | (with_reducible refine wpList_store_part ?_ (.tmp 9) (.tmp 41) ?_ w4.heap.size ?_ {} { count:=1,first:=1#64,last:=1#64 } ?_ ?_ ?_
     · rfl
     · rfl
     · rfl
     · rfl
     · exact Blk.new w4 (gpCells {}) 107
     intro w5 hb5 hk5 hs5
     have hB5:=hB4.fresh hk5
     have hlt4:=hB4.b1.lt
     have f5:=hb5.frozen 64
     have d5:=hb5.cell 64
     rw [part_node _ 0 (by decide)] at d5
     have hb6:=hb5.set (64+0) (.int .i64 (k:Int))
     rw [part_set_node _ (stepP k) 0 k (by decide) ⟨rfl,rfl,rfl,rfl,fun _ _=>rfl,fun _ _=>rfl⟩] at hb6
     have hb6:Hid (Blk _ _ _ _):=hb6
     have hB6:Hid (OfIn _ _ _ _):=⟨hB5.b0.other (b':=w4.heap.size) (64+0) (.int .i64 (k:Int)) (by omega),hB5.b1.other (b':=w4.heap.size) (64+0) (.int .i64 (k:Int)) (by omega),hB5.k.setCell (p:=⟨w4.heap.size,64+0,none⟩) (Or.inr (by simp;omega)) (.int .i64 (k:Int))⟩
     clear hk5)
  | (with_reducible refine wpList_load_part ?_ (.tmp 9) ?_ w4.heap.size ?_ (stepP k) ?_ ?_
     · rfl
     · rfl
     · rfl
     · exact hb6.out)
  | (with_reducible refine wpList_store_part ?_ (.tmp 6) (.tmp 45) ?_ (w.heap.size+1) ?_ {} (stepP k) ?_ ?_ ?_
     · rfl
     · rfl
     · rfl
     · rfl
     · exact hB6.out.b1
     intro w8 hb8 hk8 hs8
     have hK8:=hB6.out.k.into hk8 (by omega)))
 exact bodyPost_ret (v:=.agg (gpCells (stepP k))) (results_part Tryz.results66 _ _ _ (stepP k) rfl hb8) rfl ⟨rfl,hK8⟩
theorem partOf_any (n:AN) (x:IV) (k:Nat) (ps:List GP) (B:Nat) (v:Value) (w:World) (h:PartsIn w B v ps) (hl:ps.length≤1000) (hk:k≤1000) (hn:NodeFits n ps) (h0:0≤n.kind) (h6:n.kind≤6):
 PartCall 66 #[.agg #[.int .i64 n.kind,.slice x.1 x.2.1 x.2.2,.bool n.neg,.int .i64 n.left,.int .i64 n.right,.int .i64 n.least,.int .i64 n.most,.int .i64 n.size],.int .i64 (k:Int),v] w (partOfP n k ps):=by
 by_cases e0:n.kind=0
 · exact partOf_none n x k ps B v w h hl hk hn e0
 by_cases e4:n.kind=4
 · exact partOf_both n x k ps B v w h hl hk hn e4
 by_cases e5:n.kind=5
 · exact partOf_either n x k ps B v w h hl hk hn e5
 by_cases e6:n.kind=6
 · exact partOf_rep n x k ps B v w h hl hk hn e6
 exact partOf_step n x k ps B v w h hl hk hn (by omega)
theorem cellsF_of (z:Array Value):z=cellsF z.size (fun i=>z.getD i undef):=by
 apply Array.ext
 · simp
 · intro j h1 h2
   simp only [cellsF,List.getElem_toArray,List.getElem_map,List.getElem_range]
   simp [h1]
theorem overlay_whole (z:Array Value) (n:Nat) (hz:z.size=n) (g:Nat→Value):
 Array.foldl (fun cs (x:Value×Nat)=>cs.setIfInBounds (0+x.2) x.1) z (cellsF n g).zipIdx 0 n=cellsF n g:=by
 rw [cellsF_of z,hz,overlay_F]
 refine cellsF_congr fun j hj=>?_
 rw [if_pos (by omega),Nat.sub_zero]
theorem zeroPartInfo:(Tryz.prog.info? 107).map (fun i=>(i.zero,i.size,i.bytes))=some (some (.agg (gpCells {})),124,992):=by kernel_rfl
theorem buildSlice_part (w:World) (p:GP):
 (Instr.buildSlice 154 1 #[(0,.agg (gpCells p))]).run Tryz.prog w=.ok (.slice (some ⟨w.heap.size,0,none⟩) 1 1) (w.alloc (.cells (gpCells p) 107)):=by
 obtain ⟨i0,hi0,hz0,hz1,hz2⟩:=info_parts zeroPartInfo
 have hs:∀w,(sizeOf 107).run Tryz.prog w=.ok 124 w:=fun w=>by simp [sizeOf,typeInfo,hi0,hz1]
 unfold Instr.buildSlice
 rw [Sem.run_bind,run_underlying Tryz.underlying154]
 simp only [Result.andThen_ok]
 rw [Sem.run_bind,hs]
 simp only [Result.andThen_ok]
 rw [if_neg (by decide),if_neg (by decide)]
 simp [Sem.run_bind,zeroV_part,Instr.fill,newRow,go_sem]
 refine congrArg (fun c=>w.alloc (.cells c 107)) ?_
 have h:=fun z hz=>overlay_whole z 124 hz (pCell p)
 simp only [Nat.zero_add] at h
 exact h _ rfl
theorem wpList_row_part {ops:Array Oper} {rest:List Oper} {o:Oper} {a:Act} {w:World} {Q:Exit→Act→World→Prop} (hgd:o.guard=none) (x:Operand) (ho:o.op=.buildSlice 154 1 #[(0,x)])
 (p:GP) (hx:a.eval x=.agg (gpCells p))
 (h:wpList Tryz.prog ops Q rest (a.put o.dst (.slice (some ⟨w.heap.size,0,none⟩) 1 1)) (w.alloc (.cells (gpCells p) 107))):wpList Tryz.prog ops Q (o :: rest) a w:=by
 refine wpList_plain hgd fun K hK=>?_
 unfold Oper.wp execOp
 simp only [ho,List.map_toArray,List.map_cons,List.map_nil,hx,buildSlice_part,Result.andThen_ok,Sem.run_bind,Sem.run_pure]
 exact hK _ _ h
theorem wpList_append_part {ops:Array Oper} {rest:List Oper} {o:Oper} {a:Act} {w:World} {Q:Exit→Act→World→Prop} (hgd:o.guard=none) (s x:Operand)
 (ho:o.op=.call { callee:=.builtin .append,args:=#[s,x],argTypes:=#[154,154] })
 (B g:Nat) (v:Value) (ps:List GP) (p:GP) (hs:a.eval s=v) (hx:a.eval x=.slice (some ⟨g,0,none⟩) 1 1) (hl:ps.length≤1000) (hown:PartsIn w B v ps) (hg:Blk w g (gpCells p) 107) (hB:B≤w.heap.size)
 (h:∀v' w',PartsIn w' B v' (ps++[p])→w.grownBy w' v.ownBlock→wpList Tryz.prog ops Q rest (a.put o.dst v') w'):wpList Tryz.prog ops Q (o :: rest) a w:=by
 obtain ⟨i0,hi0,hz0,hz1,hz2⟩:=info_parts zeroPartInfo
 refine wpList_append_placed hgd s x _ ho B 107 i0 _ 124 992 Tryz.underlying154 hi0 hz0 hz1 hz2 (by simp [Value.cells]) (by decide) v ps.length (partsCells ps) hs hown ⟨g,0,none⟩ 1 1 (gpCells p).toList hx (by simp) (fun j u hu=>?_) (fun u hu=>?_) (by unfold maxLen;omega) (by omega) hB (fun v' w' h1 h2 _=>h v' w' ?_ h2)
 · rw [show (⟨g,0,none⟩:Addr).add j=⟨g,j,none⟩ by unfold Addr.add;split <;> simp_all,hg.cell]
   simpa using hu
 · exact (Array.all_eq_true_iff_forall_mem.1 (gpCells_one p)) u (by simpa using hu)
 · unfold PartsIn
   rw [partsCells_snoc,List.length_append]
   exact h1
def dummyN:AN:={ kind:=0,size:=0 }
def partsQ (ns:List AN):Nat→List GP
 | 0=>[]
 | q+1=>partsQ ns q++[partOfP (ns.getD q dummyN) q (partsQ ns q)]
theorem partsQ_length (ns:List AN):∀q,(partsQ ns q).length=q
 | 0=>rfl
 | q+1=>by simp [partsQ,partsQ_length ns q]
def lastQ (ns:List AN):Nat→GP
 | 0=>noneP
 | q+1=>partOfP (ns.getD q dummyN) q (partsQ ns q)
def NodesFit (ns:List AN):Prop:=∀q n,ns[q]?=some n→0≤n.kind∧n.kind≤6∧NodeFits n (partsQ ns q)
theorem infoNode2:(Tryz.prog.info? 114).map (·.size)=some 8:=by kernel_rfl
theorem wpList_load_node {ops:Array Oper} {rest:List Oper} {o:Oper} {a:Act} {w:World} {Q:Exit→Act→World→Prop} (hgd:o.guard=none) (y:Operand) (ho:o.op=.load 114 y)
 (g off:Nat) (hx:a.eval y=.pointer (some ⟨g,off,none⟩)) (n:AN) (x:IV) (hg:w.rangeAt g off (n.cells x))
 (h:wpList Tryz.prog ops Q rest (a.put o.dst (.agg #[.int .i64 n.kind,.slice x.1 x.2.1 x.2.2,.bool n.neg,.int .i64 n.left,.int .i64 n.right,.int .i64 n.least,.int .i64 n.most,.int .i64 n.size])) w):wpList Tryz.prog ops Q (o :: rest) a w:=
 wpList_load_mid hgd _ y ho g off hx (n.cells x) _ hg Tryz.underlying114 rfl (by simpa [AN.cells] using infoNode2) h
theorem node_range {w:World} {B g cap:Nat} {ns:List AN} {xs:List IV} (h:w.ownsRow B 114 8 (.slice (some ⟨g,0,none⟩) ns.length cap) ns.length (nodesCells ns xs)) {q:Nat} {n:AN} {x:IV} (hn:ns[q]?=some n) (hx:xs[q]?=some x):
 w.rangeAt g (q*8) (n.cells x):=fun j v hv=>by
 have hj:j<8:=by have:=(List.getElem?_eq_some_iff.1 hv).1;simpa [AN.cells] using this
 have h1:=h.cells (g:=g) rfl (q*8+j) v (by rw [nodesCells_get ns xs q j n x hn hx hj,←hv])
 rwa [show (⟨g,0,none⟩:Addr).add (q*8+j)=⟨g,q*8+j,none⟩ by simp [Addr.add];omega] at h1
theorem range_kept {w w':World} {g off:Nat} {cs:List Value} {S:List Nat} (h:w.rangeAt g off cs) (k:Kept S w w') (hs:¬g∈S) (hc:0<cs.length):w'.rangeAt g off cs:=fun j v hv=>by
 have h1:=h j v hv
 have hlt:g<w.heap.size:=by
  obtain ⟨u,hu⟩:∃u,cs[0]?=some u:=⟨_,List.getElem?_eq_getElem hc⟩
  exact block_lt_of_cell (h 0 u hu)
 unfold World.cell? at *
 simp only [] at *
 rw [k.block g hlt hs]
 exact h1
structure WrIn (w0 w:World) (ns:List AN) (q:Nat) (v:Value):Prop where
 b0:Blk w w0.heap.size (gpCells {}) 107
 b1:Blk w (w0.heap.size+1) (gpCells (lastQ ns q)) 107
 ps:PartsIn w (w0.heap.size+1+1) v (partsQ ns q)
 k:Kept [] w0 w
theorem write_any (ns:List AN) (xs:List IV) (B0:Nat) (v:Value) (w:World) (h:w.ownsRow B0 114 8 v ns.length (nodesCells ns xs)) (hx:xs.length=ns.length) (hl:ns.length≤900) (hn:NodesFit ns):
 PartCall 32 #[v] w (lastQ ns ns.length):=by
 unfold PartCall
 have hz:=zeroV_part
 obtain ⟨va,cap,rfl⟩:∃a cap,v=.slice a ns.length cap:=by
  rcases h.2 with ⟨h1,h2⟩ | ⟨g,cap,_,h1,_⟩
  · exact ⟨none,0,by rw [h1,h2]⟩
  · exact ⟨_,cap,h1⟩
 have hst:∀w1,Blk w1 (w.heap.size+1) (gpCells noneP) 107→Kept [w.heap.size+1] ((w.alloc (.cells (gpCells {}) 107)).alloc (.cells (gpCells {}) 107)) w1→WrIn w w1 ns 0 (.slice none 0 0):=fun w1 hb hk=>
  ⟨((Blk.new w _ _).alloc _).kept hk (by simp),hb,World.ownsRow_nil _ _ _ _,(((Kept.refl _ _).alloc _).alloc _).into hk (by omega)⟩
 have hstH:Hid (∀w1,_→_→_):=hst
 clear hst
 go_enter Tryz.func32,Tryz.ntmps32
 go_wp2_with (first
  | (refine wpList_build_none rfl rfl ?_)
  | (with_reducible refine wpList_store_part ?_ (.tmp 3) (.tmp 6) ?_ (w.heap.size+1) ?_ {} noneP ?_ ?_ ?_
     · rfl
     · rfl
     · rfl
     · rfl
     · exact Blk.new1 w (.cells (gpCells {}) 107) (gpCells {}) 107
     intro w1 hb1 hk1 hs1
     have hs0:=hstH.out w1 hb1 hk1
     clear hb1 hk1 hs1))
 go_loopw [4,5] (fun tv iv wr=>∃(q:Nat) (pv:Value),tv=pv∧iv=.int .i64 (q:Int)∧q≤ns.length∧WrIn w wr ns q pv) (fun _ iv _=>((ns.length:Int)-intOf iv).toNat)
 case atStart=>exact ⟨0,_,rfl,rfl,Nat.zero_le _,hs0⟩
 case round=>
  obtain ⟨q,tv,htv,rfl,hq,hI⟩:=hrel
  obtain rfl:=htv.symm
  clear hs0 hstH
  by_cases hlt:(q:Int)<(ns.length:Int)
  · have hqn:q<ns.length:=by omega
    obtain ⟨n,hnn⟩:∃n,ns[q]?=some n:=⟨_,List.getElem?_eq_getElem hqn⟩
    obtain ⟨x,hxx⟩:∃x,xs[q]?=some x:=⟨_,List.getElem?_eq_getElem (by omega)⟩
    obtain ⟨g,cap',hv⟩:=own_form h (by omega)
    simp only [Value.slice.injEq] at hv
    obtain ⟨rfl,_,rfl⟩:=hv
    have hrg:wr.rangeAt g (q*8) (n.cells x):=range_kept (node_range h hnn hxx) hI.k (by simp) (by simp [AN.cells])
    obtain ⟨f1,f2,f3⟩:=hn q n hnn
    have hgd:ns.getD q dummyN=n:=by rw [List.getD_eq_getElem?_getD,hnn];rfl
    have e1:Hid (lastQ ns (q+1)=partOfP n q (partsQ ns q)):=by show lastQ ns (q+1)=_;rw [lastQ,hgd]
    have e2:Hid (partsQ ns (q+1)=partsQ ns q++[partOfP n q (partsQ ns q)]):=by show partsQ ns (q+1)=_;rw [partsQ,hgd]
    have hcall:Hid (∀w',PartsIn w' (w.heap.size+1+1) tv (partsQ ns q)→PartCall _ _ w' _):=fun w' h'=>partOf_any n x q (partsQ ns q) _ tv w' h' (by rw [partsQ_length];omega) (by omega) f3 f1 f2
    have hlp:(partsQ ns q).length≤1000:=by rw [partsQ_length];omega
    have hIH:Hid (WrIn _ _ _ _ _):=hI
    clear hI hgd hnn hxx f1 f2 f3 h hn
    have hgt:=hIH.out.b1.lt
    generalize partOfP n q (partsQ ns q)=P at *
    go_wp2_with (first
     | (with_reducible refine wpList_load_node ?_ (.tmp 15) ?_ g (q*8) ?_ n x ?_ ?_
        · rfl
        · rfl
        · first | rfl | (simp [Act.eval])
        · exact hrg)
     | (go_at_call 66
        refine (hcall.out _ hIH.out.ps).mono ?_
        rintro e w1 ⟨rfl,k1⟩
        have g0:=hIH.out.b0.kept k1 (by simp)
        have g1:=hIH.out.b1.kept k1 (by simp)
        have g2:=hIH.out.ps.keep k1 (by simp)
        have g3:=hIH.out.k.trans k1)
     | (with_reducible refine wpList_store_part ?_ (.tmp 3) (.tmp 19) ?_ (w.heap.size+1) ?_ (lastQ ns q) P ?_ ?_ ?_
        · rfl
        · rfl
        · rfl
        · rfl
        · exact g1
        intro w2 hb2 hk2 hs2
        have p0:=g0.kept hk2 (by simp)
        have p2:=g2.keep hk2 (by simp)
        have p3:=g3.into hk2 (by omega)
        clear hk2 hs2 hrg)
     | (with_reducible refine wpList_load_part ?_ (.tmp 3) ?_ (w.heap.size+1) ?_ P ?_ ?_
        · rfl
        · rfl
        · rfl
        · exact hb2)
     | (with_reducible refine wpList_row_part ?_ (.tmp 21) ?_ P ?_ ?_
        · rfl
        · rfl
        · rfl)
     | (at_builtin
        with_reducible refine wpList_append_part ?_ (.tmp 20) (.tmp 22) ?_ (w.heap.size+1+1) w2.heap.size tv (partsQ ns q) P ?_ ?_ ?_ ?_ ?_ ?_ ?_
        · rfl
        · rfl
        · rfl
        · rfl
        · exact hlp
        · exact p2.keep ((Kept.refl [] w2).alloc (.cells (gpCells P) 107)) (by simp)
        · exact Blk.new w2 (gpCells P) 107
        · have:=hb2.lt;simp;omega
        intro v' w3 hown hgrow
        have q3:WrIn w w3 ns (q+1) v':=by
         have hlt2:=hb2.lt
         have bl:∀k,k<w2.heap.size→tv.ownBlock≠some k→w3.heap[k]?=w2.heap[k]?:=fun k hk hne=>by
          rw [hgrow.block k (by simp;omega) (fun hc=>hne hc.symm),Below.heap_alloc _ _ _ hk]
         have hne:∀k,k<w.heap.size+1+1→tv.ownBlock≠some k:=fun k hk hc=>by have:=(p2.lt k hc).1;omega
         refine ⟨?_,?_,?_,?_⟩
         · exact (bl _ (by omega) (hne _ (by omega))).trans p0
         · rw [e1.out];exact (bl _ (by omega) (hne _ (by omega))).trans hb2
         · rw [e2.out];exact hown
         · have hs2:w2.heap.size≤w3.heap.size:=by have:=hgrow.size;simp at this;omega
           exact ⟨hgrow.os.trans p3.os,hgrow.tape.trans p3.tape,hgrow.output.trans p3.output,Nat.le_trans p3.size hs2,fun i hi hn=>by
            have:=p3.size
            rw [bl i (by omega) (hne i (by omega))];exact p3.block i hi hn⟩
        have q3H:Hid (WrIn _ _ _ _ _):=q3
        clear q3 hown hgrow))
    refine ⟨⟨q+1,v',rfl,by go_num,by omega,q3H.out⟩,?_⟩
    simp only [intOf];omega
  · have hqe:ns.length=q:=by omega
    have hbH:Hid (Blk wr (w.heap.size+1) (gpCells (lastQ ns ns.length)) 107):=by rw [hqe];exact hI.b1
    clear hqe
    go_wp2_with (first
     | (with_reducible refine wpList_load_part ?_ (.tmp 3) ?_ (w.heap.size+1) ?_ (lastQ ns ns.length) ?_ ?_
        · rfl
        · rfl
        · rfl
        · exact hbH.out)
     | (with_reducible refine wpList_store_part ?_ (.tmp 2) (.tmp 24) ?_ w.heap.size ?_ {} (lastQ ns ns.length) ?_ ?_ ?_
        · rfl
        · rfl
        · rfl
        · rfl
        · exact hI.b0
        intro w8 hb8 hk8 hs8
        have hK8:=hI.k.into hk8 (by omega)))
    exact bodyPost_ret (v:=.agg (gpCells (lastQ ns ns.length))) (results_part Tryz.results32 _ _ _ (lastQ ns ns.length) rfl hb8) rfl ⟨rfl,hK8⟩
end Go.Proofs.YtgifhgnccmnbiabGreat
