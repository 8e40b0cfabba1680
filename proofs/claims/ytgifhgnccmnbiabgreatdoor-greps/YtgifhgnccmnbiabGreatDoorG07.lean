/- Part of the proof. -/
import Derived.Test.YtgifhgnccmnbiabGreatDoorG06
import Derived.Test.YtgifhgnccmnbiabGreatDoorG02
set_option linter.unusedVariables false
set_option linter.unusedSimpArgs false
set_option maxHeartbeats 4000000
set_option maxRecDepth 100000
namespace Go.Proofs.YtgifhgnccmnbiabGreatDoor
open Go.RowKit Go.IntWalk
theorem aM.iN{w w':World}{B:Nat}{v:Value}{ps:List GP}{S:List Nat}(h:aM w B v ps)(k:Kept S w w')(hs:∀g,g∈S->g<B):aM w' B v ps:=by
 refine⟨h.1,?_⟩;rcases h.2 with h1|⟨g,cap,cur,h1,h2,h3,h4⟩
 ·exact Or.inl h1
 ·have bO:g<w.heap.size:=(Array.getElem?_eq_some_iff.1 h3).1;exact Or.inr ⟨g,cap,cur,h1,h2,(k.block g bO (fun hc=>by have:=hs g hc;omega)).trans h3,h4⟩
theorem aM.fresh{w w':World}{B:Nat}{v:Value}{ps:List GP}{o:Obj}(h:aM w B v ps)(k:Kept [w.heap.size] (w.alloc o) w'):aM w' B v ps:=by
 refine⟨h.1,?_⟩;rcases h.2 with h1|⟨g,cap,cur,h1,h2,h3,h4⟩
 ·exact Or.inl h1
 ·have bO:g<w.heap.size:=(Array.getElem?_eq_some_iff.1 h3).1;exact Or.inr ⟨g,cap,cur,h1,h2,((k.block g (by simp;omega) (by simp;omega)).trans (Below.heap_alloc _ _ _ bO)).trans h3,h4⟩
def mQ(k:Nat):GP:={count:=1,first:=1#64,last:=1#64,node:=fun i=>if i=0 then k else 0}
def bX(n:AN)(k:Nat)(ps:List GP):GP:=
 if n.kind=0 then cO else if n.kind=4 then gd (aK ps n.left) (aK ps n.right) else if n.kind=5 then cG (aK ps n.left) (aK ps n.right)
 else if n.kind=6 then Ay (aK ps n.left) n.least n.most else mQ k
structure kT (n:AN)(ps:List GP):Prop where
 left:-1000<=n.left/\n.left<=1000
 right:-1000<=n.right/\n.right<=1000
 two:n.kind=4\/n.kind=5->(aK ps n.left).count+(aK ps n.right).count<=60
 fit:n.kind=6->(aK ps n.left).Fit
 rep:n.kind=6->0<=n.least/\n.least<=9/\-1<=n.most/\n.most<=9/\oZ n.least n.most*(aK ps n.left).count<=60
structure zk (w0 w:World)(n:AN)(x:IV):Prop where
 b0:ah w w0.heap.size #[.int .i64 n.kind,.slice x.1 x.2.1 x.2.2,.bool n.neg,.int .i64 n.left,.int .i64 n.right,.int .i64 n.least,.int .i64 n.most,.int .i64 n.size] 164
 b1:ah w (w0.heap.size+1) (ae {}) 158
 k:Kept [] w0 w
theorem zk.kept{w0 w w':World}{n:AN}{x:IV}(h:zk w0 w n x)(k:Kept [] w w'):zk w0 w' n x:=⟨h.b0.kept k (by simp),h.b1.kept k (by simp),h.k.trans k⟩
theorem zk.fresh{w0 w w':World}{n:AN}{x:IV}{o:Obj}(h:zk w0 w n x)(k:Kept [w.heap.size] (w.alloc o) w'):zk w0 w' n x:=by
 have:=h.b1.lt;exact⟨(h.b0.alloc o).kept k (by simp;omega),(h.b1.alloc o).kept k (by simp;omega),(h.k.alloc o).cf k (by omega)⟩
theorem Ht(n:AN)(x:IV)(k:Nat)(ps:List GP)(B:Nat)(v:Value)(w:World)(h:aM w B v ps)(hl:ps.length<=1000)(hk:k<=1000)(hn:kT n ps)(tS:n.kind=0):
 aB 140 #[.agg #[.int .i64 n.kind,.slice x.1 x.2.1 x.2.2,.bool n.neg,.int .i64 n.left,.int .i64 n.right,.int .i64 n.least,.int .i64 n.most,.int .i64 n.size],.int .i64 (k:Int),v] w (bX n k ps):=by
 have eP:bX n k ps=cO:=by unfold bX;rw[if_pos tS]
 rw[eP];unfold aB;have hz:=bI;have hB:zk w ((w.alloc (.cells #[.int .i64 n.kind,.slice x.1 x.2.1 x.2.2,.bool n.neg,.int .i64 n.left,.int .i64 n.right,.int .i64 n.least,.int .i64 n.most,.int .i64 n.size] 164)).alloc (.cells (ae {}) 158)) n x:=⟨(ah.new _ _ _).alloc _,ah.oy _ _ _ _,((Kept.refl _ _).alloc _).alloc _⟩;have MK:aM ((w.alloc (.cells #[.int .i64 n.kind,.slice x.1 x.2.1 x.2.2,.bool n.neg,.int .i64 n.left,.int .i64 n.right,.int .i64 n.least,.int .i64 n.most,.int .i64 n.size] 164)).alloc (.cells (ae {}) 158)) B v ps:=h.iN (((Kept.refl [] _).alloc _).alloc _) (by simp);have xz:Hid (aM _ _ _ _):=MK;have Hu:Hid (∀w',aM w' B v ps->aB 176 #[v,.int .i64 n.left] w' (aK ps n.left)):=fun w' h'=>ff ps B v n.left w' h' hl hn.left.1 hn.left.2;have ug:Hid (∀w',aM w' B v ps->aB 176 #[v,.int .i64 n.right] w' (aK ps n.right)):=fun w' h'=>ff ps B v n.right w' h' hl hn.right.1 hn.right.2;have zi:Hid (_ ):=tS;clear h hn MK tS;generalize aK ps n.left=L at *;generalize aK ps n.right=R at *;go_enter Tryz.func140,Tryz.ntmps140
 go_wp2_with (first
  | (go_at_call 176
     refine(Hu.out _ xz.out).mono ?_;rintro e w1 ⟨rfl,k1⟩;have lR:=hB.kept k1;have QQ:Hid (aM _ _ _ _):=xz.out.iN k1 (by simp);clear xz hB)
  | (with_reducible refine ag ?_ (.tmp 7) (.tmp 13) ?_ w1.heap.size ?_ {} L ?_ ?_ ?_
     ·rfl
     ·rfl
     ·rfl
     ·rfl
     ·exact ah.new w1 (ae {}) 158
     intro w2 jm gH ji;have lE:=lR.fresh gH;have Dy:Hid (aM _ _ _ _):=QQ.out.fresh gH;have c4:w2.cell? ⟨w.heap.size,4,none⟩=some (.int .i64 n.right):=by rw[lE.b0.cell];rfl
     clear ji)
  | (go_at_call 176
     refine(ug.out _ Dy.out).mono ?_;rintro e w3 ⟨rfl,k3⟩;have JJ:=lE.kept k3;have pS:=jm.kept k3 (by simp);clear c4)
  | (with_reducible refine ag ?_ (.tmp 8) (.tmp 17) ?_ w3.heap.size ?_ {} R ?_ ?_ ?_
     ·rfl
     ·rfl
     ·rfl
     ·rfl
     ·exact ah.new w3 (ae {}) 158
     intro w4 Ou E4 hs4;have uS:=JJ.fresh E4;have E5:=pS.lt;have Az:=lR.b1.lt;have Vg:ah w4 w1.heap.size (ae L) 158:=(pS.alloc _).kept E4 (by simp;omega);have e0:w4.cell? ⟨w.heap.size,0,none⟩=some (.int .i64 n.kind):=by rw[uS.b0.cell];rfl
     have e5:w4.cell? ⟨w.heap.size,5,none⟩=some (.int .i64 n.least):=by rw[uS.b0.cell];rfl
     have e6:w4.cell? ⟨w.heap.size,6,none⟩=some (.int .i64 n.most):=by rw[uS.b0.cell];rfl
     rw[zi.out]at e0)
  | (refine cH rfl rfl ?_)
  | (with_reducible refine ag ?_ (.tmp 6) (.tmp 22) ?_ (w.heap.size+1) ?_ {} cO ?_ ?_ ?_
     ·rfl
     ·rfl
     ·rfl
     ·rfl
     ·exact uS.b1
     intro w8 mO mP Ax;have E6:=uS.k.cf mP (by omega)))
 exact bodyPost_ret (v:=.agg (ae cO)) (aS Tryz.results140 _ _ _ cO rfl mO) rfl ⟨rfl,E6⟩
theorem Hv(n:AN)(x:IV)(k:Nat)(ps:List GP)(B:Nat)(v:Value)(w:World)(h:aM w B v ps)(hl:ps.length<=1000)(hk:k<=1000)(hn:kT n ps)(tS:n.kind=4):
 aB 140 #[.agg #[.int .i64 n.kind,.slice x.1 x.2.1 x.2.2,.bool n.neg,.int .i64 n.left,.int .i64 n.right,.int .i64 n.least,.int .i64 n.most,.int .i64 n.size],.int .i64 (k:Int),v] w (bX n k ps):=by
 have eP:bX n k ps=gd (aK ps n.left) (aK ps n.right):=by unfold bX;rw[if_neg (by omega),if_pos tS]
 rw[eP];have fJ:Hid (∀w,aB 177 _ w _):=fun w=>Hp (aK ps n.left) (aK ps n.right) (hn.two (Or.inl tS)) w;generalize gd (aK ps n.left) (aK ps n.right)=P at *;unfold aB;have hz:=bI;have hB:zk w ((w.alloc (.cells #[.int .i64 n.kind,.slice x.1 x.2.1 x.2.2,.bool n.neg,.int .i64 n.left,.int .i64 n.right,.int .i64 n.least,.int .i64 n.most,.int .i64 n.size] 164)).alloc (.cells (ae {}) 158)) n x:=⟨(ah.new _ _ _).alloc _,ah.oy _ _ _ _,((Kept.refl _ _).alloc _).alloc _⟩;have MK:aM ((w.alloc (.cells #[.int .i64 n.kind,.slice x.1 x.2.1 x.2.2,.bool n.neg,.int .i64 n.left,.int .i64 n.right,.int .i64 n.least,.int .i64 n.most,.int .i64 n.size] 164)).alloc (.cells (ae {}) 158)) B v ps:=h.iN (((Kept.refl [] _).alloc _).alloc _) (by simp);have xz:Hid (aM _ _ _ _):=MK;have Hu:Hid (∀w',aM w' B v ps->aB 176 #[v,.int .i64 n.left] w' (aK ps n.left)):=fun w' h'=>ff ps B v n.left w' h' hl hn.left.1 hn.left.2;have ug:Hid (∀w',aM w' B v ps->aB 176 #[v,.int .i64 n.right] w' (aK ps n.right)):=fun w' h'=>ff ps B v n.right w' h' hl hn.right.1 hn.right.2;have zi:Hid (_ ):=tS;clear h hn MK tS;generalize aK ps n.left=L at *;generalize aK ps n.right=R at *;go_enter Tryz.func140,Tryz.ntmps140
 go_wp2_with (first
  | (go_at_call 176
     refine(Hu.out _ xz.out).mono ?_;rintro e w1 ⟨rfl,k1⟩;have lR:=hB.kept k1;have QQ:Hid (aM _ _ _ _):=xz.out.iN k1 (by simp);clear xz hB)
  | (with_reducible refine ag ?_ (.tmp 7) (.tmp 13) ?_ w1.heap.size ?_ {} L ?_ ?_ ?_
     ·rfl
     ·rfl
     ·rfl
     ·rfl
     ·exact ah.new w1 (ae {}) 158
     intro w2 jm gH ji;have lE:=lR.fresh gH;have Dy:Hid (aM _ _ _ _):=QQ.out.fresh gH;have c4:w2.cell? ⟨w.heap.size,4,none⟩=some (.int .i64 n.right):=by rw[lE.b0.cell];rfl
     clear ji)
  | (go_at_call 176
     refine(ug.out _ Dy.out).mono ?_;rintro e w3 ⟨rfl,k3⟩;have JJ:=lE.kept k3;have pS:=jm.kept k3 (by simp);clear c4)
  | (with_reducible refine ag ?_ (.tmp 8) (.tmp 17) ?_ w3.heap.size ?_ {} R ?_ ?_ ?_
     ·rfl
     ·rfl
     ·rfl
     ·rfl
     ·exact ah.new w3 (ae {}) 158
     intro w4 Ou E4 hs4;have uS:=JJ.fresh E4;have E5:=pS.lt;have Az:=lR.b1.lt;have Vg:ah w4 w1.heap.size (ae L) 158:=(pS.alloc _).kept E4 (by simp;omega);have e0:w4.cell? ⟨w.heap.size,0,none⟩=some (.int .i64 n.kind):=by rw[uS.b0.cell];rfl
     have e5:w4.cell? ⟨w.heap.size,5,none⟩=some (.int .i64 n.least):=by rw[uS.b0.cell];rfl
     have e6:w4.cell? ⟨w.heap.size,6,none⟩=some (.int .i64 n.most):=by rw[uS.b0.cell];rfl
     rw[zi.out]at e0)
  | (with_reducible refine ai ?_ (.tmp 7) ?_ w1.heap.size ?_ L ?_ ?_
     ·rfl
     ·rfl
     ·rfl
     ·exact Vg)
  | (with_reducible refine ai ?_ (.tmp 8) ?_ w3.heap.size ?_ R ?_ ?_
     ·rfl
     ·rfl
     ·rfl
     ·exact Ou)
  | (go_at_call 177
     refine(fJ.out _).mono ?_;rintro e w5 ⟨rfl,k5⟩;have Dz:=uS.kept k5)
  | (with_reducible refine ag ?_ (.tmp 6) (.tmp 27) ?_ (w.heap.size+1) ?_ {} P ?_ ?_ ?_
     ·rfl
     ·rfl
     ·rfl
     ·rfl
     ·exact Dz.b1
     intro w8 mO mP Ax;have E6:=Dz.k.cf mP (by omega)))
 exact bodyPost_ret (v:=.agg (ae P)) (aS Tryz.results140 _ _ _ P rfl mO) rfl ⟨rfl,E6⟩
theorem CU(n:AN)(x:IV)(k:Nat)(ps:List GP)(B:Nat)(v:Value)(w:World)(h:aM w B v ps)(hl:ps.length<=1000)(hk:k<=1000)(hn:kT n ps)(tS:n.kind=5):
 aB 140 #[.agg #[.int .i64 n.kind,.slice x.1 x.2.1 x.2.2,.bool n.neg,.int .i64 n.left,.int .i64 n.right,.int .i64 n.least,.int .i64 n.most,.int .i64 n.size],.int .i64 (k:Int),v] w (bX n k ps):=by
 have eP:bX n k ps=cG (aK ps n.left) (aK ps n.right):=by unfold bX;rw[if_neg (by omega),if_neg (by omega),if_pos tS]
 rw[eP];have fJ:Hid (∀w,aB 178 _ w _):=fun w=>Hr (aK ps n.left) (aK ps n.right) (hn.two (Or.inr tS)) w;generalize cG (aK ps n.left) (aK ps n.right)=P at *;unfold aB;have hz:=bI;have hB:zk w ((w.alloc (.cells #[.int .i64 n.kind,.slice x.1 x.2.1 x.2.2,.bool n.neg,.int .i64 n.left,.int .i64 n.right,.int .i64 n.least,.int .i64 n.most,.int .i64 n.size] 164)).alloc (.cells (ae {}) 158)) n x:=⟨(ah.new _ _ _).alloc _,ah.oy _ _ _ _,((Kept.refl _ _).alloc _).alloc _⟩;have MK:aM ((w.alloc (.cells #[.int .i64 n.kind,.slice x.1 x.2.1 x.2.2,.bool n.neg,.int .i64 n.left,.int .i64 n.right,.int .i64 n.least,.int .i64 n.most,.int .i64 n.size] 164)).alloc (.cells (ae {}) 158)) B v ps:=h.iN (((Kept.refl [] _).alloc _).alloc _) (by simp);have xz:Hid (aM _ _ _ _):=MK;have Hu:Hid (∀w',aM w' B v ps->aB 176 #[v,.int .i64 n.left] w' (aK ps n.left)):=fun w' h'=>ff ps B v n.left w' h' hl hn.left.1 hn.left.2;have ug:Hid (∀w',aM w' B v ps->aB 176 #[v,.int .i64 n.right] w' (aK ps n.right)):=fun w' h'=>ff ps B v n.right w' h' hl hn.right.1 hn.right.2;have zi:Hid (_ ):=tS;clear h hn MK tS;generalize aK ps n.left=L at *;generalize aK ps n.right=R at *;go_enter Tryz.func140,Tryz.ntmps140
 go_wp2_with (first
  | (go_at_call 176
     refine(Hu.out _ xz.out).mono ?_;rintro e w1 ⟨rfl,k1⟩;have lR:=hB.kept k1;have QQ:Hid (aM _ _ _ _):=xz.out.iN k1 (by simp);clear xz hB)
  | (with_reducible refine ag ?_ (.tmp 7) (.tmp 13) ?_ w1.heap.size ?_ {} L ?_ ?_ ?_
     ·rfl
     ·rfl
     ·rfl
     ·rfl
     ·exact ah.new w1 (ae {}) 158
     intro w2 jm gH ji;have lE:=lR.fresh gH;have Dy:Hid (aM _ _ _ _):=QQ.out.fresh gH;have c4:w2.cell? ⟨w.heap.size,4,none⟩=some (.int .i64 n.right):=by rw[lE.b0.cell];rfl
     clear ji)
  | (go_at_call 176
     refine(ug.out _ Dy.out).mono ?_;rintro e w3 ⟨rfl,k3⟩;have JJ:=lE.kept k3;have pS:=jm.kept k3 (by simp);clear c4)
  | (with_reducible refine ag ?_ (.tmp 8) (.tmp 17) ?_ w3.heap.size ?_ {} R ?_ ?_ ?_
     ·rfl
     ·rfl
     ·rfl
     ·rfl
     ·exact ah.new w3 (ae {}) 158
     intro w4 Ou E4 hs4;have uS:=JJ.fresh E4;have E5:=pS.lt;have Az:=lR.b1.lt;have Vg:ah w4 w1.heap.size (ae L) 158:=(pS.alloc _).kept E4 (by simp;omega);have e0:w4.cell? ⟨w.heap.size,0,none⟩=some (.int .i64 n.kind):=by rw[uS.b0.cell];rfl
     have e5:w4.cell? ⟨w.heap.size,5,none⟩=some (.int .i64 n.least):=by rw[uS.b0.cell];rfl
     have e6:w4.cell? ⟨w.heap.size,6,none⟩=some (.int .i64 n.most):=by rw[uS.b0.cell];rfl
     rw[zi.out]at e0)
  | (with_reducible refine ai ?_ (.tmp 7) ?_ w1.heap.size ?_ L ?_ ?_
     ·rfl
     ·rfl
     ·rfl
     ·exact Vg)
  | (with_reducible refine ai ?_ (.tmp 8) ?_ w3.heap.size ?_ R ?_ ?_
     ·rfl
     ·rfl
     ·rfl
     ·exact Ou)
  | (go_at_call 178
     refine(fJ.out _).mono ?_;rintro e w5 ⟨rfl,k5⟩;have Dz:=uS.kept k5)
  | (with_reducible refine ag ?_ (.tmp 6) (.tmp 32) ?_ (w.heap.size+1) ?_ {} P ?_ ?_ ?_
     ·rfl
     ·rfl
     ·rfl
     ·rfl
     ·exact Dz.b1
     intro w8 mO mP Ax;have E6:=Dz.k.cf mP (by omega)))
 exact bodyPost_ret (v:=.agg (ae P)) (aS Tryz.results140 _ _ _ P rfl mO) rfl ⟨rfl,E6⟩
theorem Kv(n:AN)(x:IV)(k:Nat)(ps:List GP)(B:Nat)(v:Value)(w:World)(h:aM w B v ps)(hl:ps.length<=1000)(hk:k<=1000)(hn:kT n ps)(tS:n.kind=6):
 aB 140 #[.agg #[.int .i64 n.kind,.slice x.1 x.2.1 x.2.2,.bool n.neg,.int .i64 n.left,.int .i64 n.right,.int .i64 n.least,.int .i64 n.most,.int .i64 n.size],.int .i64 (k:Int),v] w (bX n k ps):=by
 have eP:bX n k ps=Ay (aK ps n.left) n.least n.most:=by unfold bX;rw[if_neg (by omega),if_neg (by omega),if_neg (by omega),if_pos tS]
 rw[eP];obtain⟨q1,q2,q3,q4,q5⟩:=hn.rep tS;have fJ:Hid (∀w,aB 179 _ w _):=fun w=>E3 (aK ps n.left) (hn.fit tS) n.least n.most q1 q2 q3 q4 q5 w;clear q5;generalize Ay (aK ps n.left) n.least n.most=P at *;unfold aB;have hz:=bI;have hB:zk w ((w.alloc (.cells #[.int .i64 n.kind,.slice x.1 x.2.1 x.2.2,.bool n.neg,.int .i64 n.left,.int .i64 n.right,.int .i64 n.least,.int .i64 n.most,.int .i64 n.size] 164)).alloc (.cells (ae {}) 158)) n x:=⟨(ah.new _ _ _).alloc _,ah.oy _ _ _ _,((Kept.refl _ _).alloc _).alloc _⟩;have MK:aM ((w.alloc (.cells #[.int .i64 n.kind,.slice x.1 x.2.1 x.2.2,.bool n.neg,.int .i64 n.left,.int .i64 n.right,.int .i64 n.least,.int .i64 n.most,.int .i64 n.size] 164)).alloc (.cells (ae {}) 158)) B v ps:=h.iN (((Kept.refl [] _).alloc _).alloc _) (by simp);have xz:Hid (aM _ _ _ _):=MK;have Hu:Hid (∀w',aM w' B v ps->aB 176 #[v,.int .i64 n.left] w' (aK ps n.left)):=fun w' h'=>ff ps B v n.left w' h' hl hn.left.1 hn.left.2;have ug:Hid (∀w',aM w' B v ps->aB 176 #[v,.int .i64 n.right] w' (aK ps n.right)):=fun w' h'=>ff ps B v n.right w' h' hl hn.right.1 hn.right.2;have zi:Hid (_ ):=tS;clear h hn MK tS;generalize aK ps n.left=L at *;generalize aK ps n.right=R at *;go_enter Tryz.func140,Tryz.ntmps140
 go_wp2_with (first
  | (go_at_call 176
     refine(Hu.out _ xz.out).mono ?_;rintro e w1 ⟨rfl,k1⟩;have lR:=hB.kept k1;have QQ:Hid (aM _ _ _ _):=xz.out.iN k1 (by simp);clear xz hB)
  | (with_reducible refine ag ?_ (.tmp 7) (.tmp 13) ?_ w1.heap.size ?_ {} L ?_ ?_ ?_
     ·rfl
     ·rfl
     ·rfl
     ·rfl
     ·exact ah.new w1 (ae {}) 158
     intro w2 jm gH ji;have lE:=lR.fresh gH;have Dy:Hid (aM _ _ _ _):=QQ.out.fresh gH;have c4:w2.cell? ⟨w.heap.size,4,none⟩=some (.int .i64 n.right):=by rw[lE.b0.cell];rfl
     clear ji)
  | (go_at_call 176
     refine(ug.out _ Dy.out).mono ?_;rintro e w3 ⟨rfl,k3⟩;have JJ:=lE.kept k3;have pS:=jm.kept k3 (by simp);clear c4)
  | (with_reducible refine ag ?_ (.tmp 8) (.tmp 17) ?_ w3.heap.size ?_ {} R ?_ ?_ ?_
     ·rfl
     ·rfl
     ·rfl
     ·rfl
     ·exact ah.new w3 (ae {}) 158
     intro w4 Ou E4 hs4;have uS:=JJ.fresh E4;have E5:=pS.lt;have Az:=lR.b1.lt;have Vg:ah w4 w1.heap.size (ae L) 158:=(pS.alloc _).kept E4 (by simp;omega);have e0:w4.cell? ⟨w.heap.size,0,none⟩=some (.int .i64 n.kind):=by rw[uS.b0.cell];rfl
     have e5:w4.cell? ⟨w.heap.size,5,none⟩=some (.int .i64 n.least):=by rw[uS.b0.cell];rfl
     have e6:w4.cell? ⟨w.heap.size,6,none⟩=some (.int .i64 n.most):=by rw[uS.b0.cell];rfl
     rw[zi.out]at e0)
  | (with_reducible refine ai ?_ (.tmp 7) ?_ w1.heap.size ?_ L ?_ ?_
     ·rfl
     ·rfl
     ·rfl
     ·exact Vg)
  | (go_at_call 179
     refine(fJ.out _).mono ?_;rintro e w5 ⟨rfl,k5⟩;have Dz:=uS.kept k5)
  | (with_reducible refine ag ?_ (.tmp 6) (.tmp 40) ?_ (w.heap.size+1) ?_ {} P ?_ ?_ ?_
     ·rfl
     ·rfl
     ·rfl
     ·rfl
     ·exact Dz.b1
     intro w8 mO mP Ax;have E6:=Dz.k.cf mP (by omega)))
 exact bodyPost_ret (v:=.agg (ae P)) (aS Tryz.results140 _ _ _ P rfl mO) rfl ⟨rfl,E6⟩
theorem Hw(n:AN)(x:IV)(k:Nat)(ps:List GP)(B:Nat)(v:Value)(w:World)(h:aM w B v ps)(hl:ps.length<=1000)(hk:k<=1000)(hn:kT n ps)(tS:n.kind=1\/n.kind=2\/n.kind=3):
 aB 140 #[.agg #[.int .i64 n.kind,.slice x.1 x.2.1 x.2.2,.bool n.neg,.int .i64 n.left,.int .i64 n.right,.int .i64 n.least,.int .i64 n.most,.int .i64 n.size],.int .i64 (k:Int),v] w (bX n k ps):=by
 have eP:bX n k ps=mQ k:=by unfold bX;rw[if_neg (by omega),if_neg (by omega),if_neg (by omega),if_neg (by omega)]
 rw[eP];rw[show n.kind=n.kind from rfl];have rJ:n.kind≠0:=by omega
 have E4:n.kind≠4:=by omega
 have hk5':n.kind≠5:=by omega
 have hk6':n.kind≠6:=by omega
 unfold aB;have hz:=bI;have hB:zk w ((w.alloc (.cells #[.int .i64 n.kind,.slice x.1 x.2.1 x.2.2,.bool n.neg,.int .i64 n.left,.int .i64 n.right,.int .i64 n.least,.int .i64 n.most,.int .i64 n.size] 164)).alloc (.cells (ae {}) 158)) n x:=⟨(ah.new _ _ _).alloc _,ah.oy _ _ _ _,((Kept.refl _ _).alloc _).alloc _⟩;have MK:aM ((w.alloc (.cells #[.int .i64 n.kind,.slice x.1 x.2.1 x.2.2,.bool n.neg,.int .i64 n.left,.int .i64 n.right,.int .i64 n.least,.int .i64 n.most,.int .i64 n.size] 164)).alloc (.cells (ae {}) 158)) B v ps:=h.iN (((Kept.refl [] _).alloc _).alloc _) (by simp);have xz:Hid (aM _ _ _ _):=MK;have Hu:Hid (∀w',aM w' B v ps->aB 176 #[v,.int .i64 n.left] w' (aK ps n.left)):=fun w' h'=>ff ps B v n.left w' h' hl hn.left.1 hn.left.2;have ug:Hid (∀w',aM w' B v ps->aB 176 #[v,.int .i64 n.right] w' (aK ps n.right)):=fun w' h'=>ff ps B v n.right w' h' hl hn.right.1 hn.right.2;have zi:Hid (_ ):=tS;clear h hn MK tS;generalize aK ps n.left=L at *;generalize aK ps n.right=R at *;go_enter Tryz.func140,Tryz.ntmps140
 go_wp2_with (first
  | (go_at_call 176
     refine(Hu.out _ xz.out).mono ?_;rintro e w1 ⟨rfl,k1⟩;have lR:=hB.kept k1;have QQ:Hid (aM _ _ _ _):=xz.out.iN k1 (by simp);clear xz hB)
  | (with_reducible refine ag ?_ (.tmp 7) (.tmp 13) ?_ w1.heap.size ?_ {} L ?_ ?_ ?_
     ·rfl
     ·rfl
     ·rfl
     ·rfl
     ·exact ah.new w1 (ae {}) 158
     intro w2 jm gH ji;have lE:=lR.fresh gH;have Dy:Hid (aM _ _ _ _):=QQ.out.fresh gH;have c4:w2.cell? ⟨w.heap.size,4,none⟩=some (.int .i64 n.right):=by rw[lE.b0.cell];rfl
     clear ji)
  | (go_at_call 176
     refine(ug.out _ Dy.out).mono ?_;rintro e w3 ⟨rfl,k3⟩;have JJ:=lE.kept k3;have pS:=jm.kept k3 (by simp);clear c4)
  | (with_reducible refine ag ?_ (.tmp 8) (.tmp 17) ?_ w3.heap.size ?_ {} R ?_ ?_ ?_
     ·rfl
     ·rfl
     ·rfl
     ·rfl
     ·exact ah.new w3 (ae {}) 158
     intro w4 Ou E4 hs4;have uS:=JJ.fresh E4;have E5:=pS.lt;have Az:=lR.b1.lt;have Vg:ah w4 w1.heap.size (ae L) 158:=(pS.alloc _).kept E4 (by simp;omega);have e0:w4.cell? ⟨w.heap.size,0,none⟩=some (.int .i64 n.kind):=by rw[uS.b0.cell];rfl
     have e5:w4.cell? ⟨w.heap.size,5,none⟩=some (.int .i64 n.least):=by rw[uS.b0.cell];rfl
     have e6:w4.cell? ⟨w.heap.size,6,none⟩=some (.int .i64 n.most):=by rw[uS.b0.cell];rfl
     clear hs4)
  | (refine vx rfl rfl ?_)
  | (with_reducible refine ag ?_ (.tmp 9) (.tmp 41) ?_ w4.heap.size ?_ {} { count:=1,first:=1#64,last:=1#64} ?_ ?_ ?_
     ·rfl
     ·rfl
     ·rfl
     ·rfl
     ·exact ah.new w4 (ae {}) 158
     intro w5 eY mN QN;have Dz:=uS.fresh mN;have hlt4:=uS.b1.lt;have f5:=eY.frozen 64;have d5:=eY.cell 64;rw[mw _ 0 (by decide)]at d5;have ud:=eY.set (64+0) (.int .i64 (k:Int));rw[tQ _ (mQ k) 0 k (by decide) ⟨rfl,rfl,rfl,rfl,fun _ _=>rfl,fun _ _=>rfl⟩]at ud;have ud:Hid (ah _ _ _ _):=ud;have Ov:Hid (zk _ _ _ _):=⟨Dz.b0.other (b':=w4.heap.size) (64+0) (.int .i64 (k:Int)) (by omega),Dz.b1.other (b':=w4.heap.size) (64+0) (.int .i64 (k:Int)) (by omega),Dz.k.setCell (p:=⟨w4.heap.size,64+0,none⟩) (Or.inr (by simp;omega)) (.int .i64 (k:Int))⟩;clear mN)
  | (with_reducible refine ai ?_ (.tmp 9) ?_ w4.heap.size ?_ (mQ k) ?_ ?_
     ·rfl
     ·rfl
     ·rfl
     ·exact ud.out)
  | (with_reducible refine ag ?_ (.tmp 6) (.tmp 45) ?_ (w.heap.size+1) ?_ {} (mQ k) ?_ ?_ ?_
     ·rfl
     ·rfl
     ·rfl
     ·rfl
     ·exact Ov.out.b1
     intro w8 mO mP Ax;have E6:=Ov.out.k.cf mP (by omega)))
 exact bodyPost_ret (v:=.agg (ae (mQ k))) (aS Tryz.results140 _ _ _ (mQ k) rfl mO) rfl ⟨rfl,E6⟩
theorem Kw(n:AN)(x:IV)(k:Nat)(ps:List GP)(B:Nat)(v:Value)(w:World)(h:aM w B v ps)(hl:ps.length<=1000)(hk:k<=1000)(hn:kT n ps)(h0:0<=n.kind)(h6:n.kind<=6):
 aB 140 #[.agg #[.int .i64 n.kind,.slice x.1 x.2.1 x.2.2,.bool n.neg,.int .i64 n.left,.int .i64 n.right,.int .i64 n.least,.int .i64 n.most,.int .i64 n.size],.int .i64 (k:Int),v] w (bX n k ps):=by
 by_cases e0:n.kind=0
 ·exact Ht n x k ps B v w h hl hk hn e0
 by_cases e4:n.kind=4
 ·exact Hv n x k ps B v w h hl hk hn e4
 by_cases e5:n.kind=5
 ·exact CU n x k ps B v w h hl hk hn e5
 by_cases e6:n.kind=6
 ·exact Kv n x k ps B v w h hl hk hn e6
 exact Hw n x k ps B v w h hl hk hn (by omega)
theorem Ow(z:Array Value):z=br z.size (fun i=>z.getD i undef):=by
 apply Array.ext
 ·simp
 ·intro j h1 h2;simp only[br,List.getElem_toArray,List.getElem_map,List.getElem_range];simp[h1]
theorem CV(z:Array Value)(n:Nat)(hz:z.size=n)(g:Nat->Value):
 Array.foldl (fun cs (x:Value×Nat)=>cs.setIfInBounds (0+x.2) x.1) z (br n g).zipIdx 0 n=br n g:=by
 rw[Ow z,hz,xw];refine ia fun j hj=>?_;rw[if_pos (by omega),Nat.sub_zero]
theorem vz:(Tryz.prog.info? 158).map (fun i=>(i.zero,i.size,i.bytes))=some (some (.agg (ae {})),124,992):=by kernel_rfl
theorem zm(w:World)(p:GP):
 (Instr.buildSlice 217 1 #[(0,.agg (ae p))]).run Tryz.prog w=.ok (.slice (some ⟨w.heap.size,0,none⟩) 1 1) (w.alloc (.cells (ae p) 158)):=by
 obtain⟨i0,kQ,jh,dP,dB⟩:=info_parts vz;have hs:∀w,(sizeOf 158).run Tryz.prog w=.ok 124 w:=fun w=>by simp[sizeOf,typeInfo,kQ,dP]
 unfold Instr.buildSlice;rw[Sem.run_bind,run_underlying Tryz.underlying217];simp only[Result.andThen_ok];rw[Sem.run_bind,hs];simp only[Result.andThen_ok];rw[if_neg (by decide),if_neg (by decide)];simp[Sem.run_bind,bI,Instr.fill,newRow,go_sem];refine congrArg (fun c=>w.alloc (.cells c 158)) ?_;have h:=fun z hz=>CV z 124 hz (nN p);simp only[Nat.zero_add]at h;exact h _ rfl
theorem zn{ops:Array Oper}{rest:List Oper}{o:Oper}{a:Act}{w:World}{Q:Exit->Act->World->Prop}(pR:o.guard=none)(x:Operand)(ho:o.op=.buildSlice 217 1 #[(0,x)])
 (p:GP) (hx:a.eval x=.agg (ae p))
 (h:wpList Tryz.prog ops Q rest (a.put o.dst (.slice (some ⟨w.heap.size,0,none⟩) 1 1)) (w.alloc (.cells (ae p) 158))):wpList Tryz.prog ops Q (o :: rest) a w:=by
 refine wpList_plain pR fun K hK=>?_;unfold Oper.wp execOp;simp only[ho,List.map_toArray,List.map_cons,List.map_nil,hx,zm,Result.andThen_ok,Sem.run_bind,Sem.run_pure];exact hK _ _ h
theorem uh{ops:Array Oper}{rest:List Oper}{o:Oper}{a:Act}{w:World}{Q:Exit->Act->World->Prop}(pR:o.guard=none)(s x:Operand)
 (ho:o.op=.call { callee:=.builtin .append,args:=#[s,x],argTypes:=#[217,217]})
 (B g:Nat) (v:Value) (ps:List GP) (p:GP) (hs:a.eval s=v) (hx:a.eval x=.slice (some ⟨g,0,none⟩) 1 1) (hl:ps.length<=1000) (aG:aM w B v ps) (hg:ah w g (ae p) 158) (hB:B<=w.heap.size)
 (h:∀v' w',aM w' B v' (ps++[p])->w.grownBy w' v.ownBlock->wpList Tryz.prog ops Q rest (a.put o.dst v') w'):wpList Tryz.prog ops Q (o :: rest) a w:=by
 obtain⟨i0,kQ,jh,dP,dB⟩:=info_parts vz;refine cx pR s x _ ho B 158 i0 _ 124 992 Tryz.underlying217 kQ jh dP dB (by simp[Value.cells]) (by decide) v ps.length (dw ps) hs aG ⟨g,0,none⟩ 1 1 (ae p).toList hx (by simp) (fun j u hu=>?_) (fun u hu=>?_) (by unfold maxLen;omega) (by omega) hB (fun v' w' h1 h2 _=>h v' w' ?_ h2)
 ·rw[show(⟨g,0,none⟩:Addr).add j=⟨g,j,none⟩ by unfold Addr.add;split <;> simp_all,hg.cell]
  simpa using hu
 ·exact(Array.all_eq_true_iff_forall_mem.1 (yC p)) u (by simpa using hu)
 ·unfold aM;rw[zj,List.length_append];exact h1
def AA:AN:={kind:=0,size:=0}
def dF(ns:List AN):Nat->List GP
 | 0=>[]
 | q+1=>dF ns q++[bX (ns.getD q AA) q (dF ns q)]
theorem gu(ns:List AN):∀q,(dF ns q).length=q
 | 0=>rfl
 | q+1=>by simp[dF,gu ns q]
def gE(ns:List AN):Nat->GP
 | 0=>cO
 | q+1=>bX (ns.getD q AA) q (dF ns q)
def vB(ns:List AN):Prop:=∀q n,ns[q]?=some n->0<=n.kind/\n.kind<=6/\kT n (dF ns q)
theorem Ox:(Tryz.prog.info? 164).map (·.size)=some 8:=by kernel_rfl
theorem ig{ops:Array Oper}{rest:List Oper}{o:Oper}{a:Act}{w:World}{Q:Exit->Act->World->Prop}(pR:o.guard=none)(y:Operand)(ho:o.op=.load 164 y)
 (g off:Nat) (hx:a.eval y=.pointer (some ⟨g,off,none⟩)) (n:AN) (x:IV) (hg:w.rangeAt g off (n.cells x))
 (h:wpList Tryz.prog ops Q rest (a.put o.dst (.agg #[.int .i64 n.kind,.slice x.1 x.2.1 x.2.2,.bool n.neg,.int .i64 n.left,.int .i64 n.right,.int .i64 n.least,.int .i64 n.most,.int .i64 n.size])) w):wpList Tryz.prog ops Q (o :: rest) a w:=
 wpList_load_mid pR _ y ho g off hx (n.cells x) _ hg Tryz.underlying164 rfl (by simpa [AN.cells] using Ox) h
theorem ui{w:World}{B g cap:Nat}{ns:List AN}{xs:List IV}(h:w.ownsRow B 164 8 (.slice (some ⟨g,0,none⟩) ns.length cap) ns.length (bZ ns xs)){q:Nat}{n:AN}{x:IV}(hn:ns[q]?=some n)(hx:xs[q]?=some x):
 w.rangeAt g (q*8) (n.cells x):=fun j v hv=>by
 have hj:j<8:=by have:=(List.getElem?_eq_some_iff.1 hv).1;simpa [AN.cells] using this
 have h1:=h.cells (g:=g) rfl (q*8+j) v (by rw[mL ns xs q j n x hn hx hj,<-hv]);rwa [show(⟨g,0,none⟩:Addr).add (q*8+j)=⟨g,q*8+j,none⟩ by simp[Addr.add];omega]at h1
theorem uj{w w':World}{g off:Nat}{cs:List Value}{S:List Nat}(h:w.rangeAt g off cs)(k:Kept S w w')(hs:¬g∈S)(hc:0<cs.length):w'.rangeAt g off cs:=fun j v hv=>by
 have h1:=h j v hv;have bO:g<w.heap.size:=by
  obtain⟨u,hu⟩:∃u,cs[0]?=some u:=⟨_,List.getElem?_eq_getElem hc⟩;exact block_lt_of_cell (h 0 u hu)
 unfold World.cell? at *;simp only[]at *;rw[k.block g bO hs];exact h1
structure RK (w0 w:World)(ns:List AN)(q:Nat)(v:Value):Prop where
 b0:ah w w0.heap.size (ae {}) 158
 b1:ah w (w0.heap.size+1) (ae (gE ns q)) 158
 ps:aM w (w0.heap.size+1+1) v (dF ns q)
 k:Kept [] w0 w
theorem Oy(ns:List AN)(xs:List IV)(B0:Nat)(v:Value)(w:World)(h:w.ownsRow B0 164 8 v ns.length (bZ ns xs))(hx:xs.length=ns.length)(hl:ns.length<=900)(hn:vB ns):
 aB 94 #[v] w (gE ns ns.length):=by
 unfold aB;have hz:=bI;obtain⟨va,cap,rfl⟩:∃a cap,v=.slice a ns.length cap:=by
  rcases h.2 with⟨h1,h2⟩|⟨g,cap,_,h1,_⟩
  ·exact⟨none,0,by rw[h1,h2]⟩
  ·exact⟨_,cap,h1⟩
 have dy:∀w1,ah w1 (w.heap.size+1) (ae cO) 158->Kept [w.heap.size+1] ((w.alloc (.cells (ae {}) 158)).alloc (.cells (ae {}) 158)) w1->RK w w1 ns 0 (.slice none 0 0):=fun w1 hb hk=>
  ⟨((ah.new w _ _).alloc _).kept hk (by simp),hb,World.ownsRow_nil _ _ _ _,(((Kept.refl _ _).alloc _).alloc _).cf hk (by omega)⟩
 have RQ:Hid (∀w1,_->_->_):=dy;clear dy;go_enter Tryz.func94,Tryz.ntmps94
 go_wp2_with (first
  | (refine cH rfl rfl ?_)
  | (with_reducible refine ag ?_ (.tmp 3) (.tmp 6) ?_ (w.heap.size+1) ?_ {} cO ?_ ?_ ?_
     ·rfl
     ·rfl
     ·rfl
     ·rfl
     ·exact ah.oy w (.cells (ae {}) 158) (ae {}) 158
     intro w1 ck nL qz;have Oz:=RQ.out w1 ck nL;clear ck nL qz))
 go_loopw [4,5] (fun tv iv wr=>∃(q:Nat) (pv:Value),tv=pv/\iv=.int .i64 (q:Int)/\q<=ns.length/\RK w wr ns q pv) (fun _ iv _=>((ns.length:Int)-intOf iv).toNat)
 case atStart=>exact⟨0,_,rfl,rfl,Nat.zero_le _,Oz⟩
 case round=>
  obtain⟨q,tv,AB,rfl,hq,hI⟩:=hrel;obtain rfl:=AB.symm;clear Oz RQ;by_cases bO:(q:Int)<(ns.length:Int)
  ·have tw:q<ns.length:=by omega
   obtain⟨n,lS⟩:∃n,ns[q]?=some n:=⟨_,List.getElem?_eq_getElem tw⟩;obtain⟨x,Kx⟩:∃x,xs[q]?=some x:=⟨_,List.getElem?_eq_getElem (by omega)⟩;obtain⟨g,qM,hv⟩:=aO h (by omega);simp only[Value.slice.injEq]at hv;obtain⟨rfl,_,rfl⟩:=hv;have RJ:wr.rangeAt g (q*8) (n.cells x):=uj (ui h lS Kx) hI.k (by simp) (by simp[AN.cells]);obtain⟨f1,f2,f3⟩:=hn q n lS;have pR:ns.getD q AA=n:=by rw[List.getD_eq_getElem?_getD,lS];rfl
   have e1:Hid (gE ns (q+1)=bX n q (dF ns q)):=by show gE ns (q+1)=_;rw[gE,pR]
   have e2:Hid (dF ns (q+1)=dF ns q++[bX n q (dF ns q)]):=by show dF ns (q+1)=_;rw[dF,pR]
   have fJ:Hid (∀w',aM w' (w.heap.size+1+1) tv (dF ns q)->aB _ _ w' _):=fun w' h'=>Kw n x q (dF ns q) _ tv w' h' (by rw[gu];omega) (by omega) f3 f1 f2;have hlp:(dF ns q).length<=1000:=by rw[gu];omega
   have cC:Hid (RK _ _ _ _ _):=hI;clear hI pR lS Kx f1 f2 f3 h hn;have lN:=cC.out.b1.lt;generalize bX n q (dF ns q)=P at *;go_wp2_with (first
    | (with_reducible refine ig ?_ (.tmp 15) ?_ g (q*8) ?_ n x ?_ ?_
       ·rfl
       ·rfl
       ·first | rfl | (simp[Act.eval])
       ·exact RJ)
    | (go_at_call 140
       refine(fJ.out _ cC.out.ps).mono ?_;rintro e w1 ⟨rfl,k1⟩;have g0:=cC.out.b0.kept k1 (by simp);have g1:=cC.out.b1.kept k1 (by simp);have g2:=cC.out.ps.iN k1 (by simp);have g3:=cC.out.k.trans k1)
    | (with_reducible refine ag ?_ (.tmp 3) (.tmp 19) ?_ (w.heap.size+1) ?_ (gE ns q) P ?_ ?_ ?_
       ·rfl
       ·rfl
       ·rfl
       ·rfl
       ·exact g1
       intro w2 jm gH ji;have p0:=g0.kept gH (by simp);have p2:=g2.iN gH (by simp);have p3:=g3.cf gH (by omega);clear gH ji RJ)
    | (with_reducible refine ai ?_ (.tmp 3) ?_ (w.heap.size+1) ?_ P ?_ ?_
       ·rfl
       ·rfl
       ·rfl
       ·exact jm)
    | (with_reducible refine zn ?_ (.tmp 21) ?_ P ?_ ?_
       ·rfl
       ·rfl
       ·rfl)
    | (at_builtin
       with_reducible refine uh ?_ (.tmp 20) (.tmp 22) ?_ (w.heap.size+1+1) w2.heap.size tv (dF ns q) P ?_ ?_ ?_ ?_ ?_ ?_ ?_
       ·rfl
       ·rfl
       ·rfl
       ·rfl
       ·exact hlp
       ·exact p2.iN ((Kept.refl [] w2).alloc (.cells (ae P) 158)) (by simp)
       ·exact ah.new w2 (ae P) 158
       ·have:=jm.lt;simp;omega
       intro v' w3 aG ay;have q3:RK w w3 ns (q+1) v':=by
        have YH:=jm.lt;have bl:∀k,k<w2.heap.size->tv.ownBlock≠some k->w3.heap[k]?=w2.heap[k]?:=fun k hk fx=>by
         rw[ay.block k (by simp;omega) (fun hc=>fx hc.symm),Below.heap_alloc _ _ _ hk]
        have fx:∀k,k<w.heap.size+1+1->tv.ownBlock≠some k:=fun k hk hc=>by have:=(p2.lt k hc).1;omega
        refine⟨?_,?_,?_,?_⟩
        ·exact(bl _ (by omega) (fx _ (by omega))).trans p0
        ·rw[e1.out];exact(bl _ (by omega) (fx _ (by omega))).trans jm
        ·rw[e2.out];exact aG
        ·have ji:w2.heap.size<=w3.heap.size:=by have:=ay.size;simp at this;omega
         exact⟨ay.os.trans p3.os,ay.tape.trans p3.tape,ay.output.trans p3.output,Nat.le_trans p3.size ji,fun i hi hn=>by
          have:=p3.size;rw[bl i (by omega) (fx i (by omega))];exact p3.block i hi hn⟩
       have q3H:Hid (RK _ _ _ _ _):=q3;clear q3 aG ay))
   refine⟨⟨q+1,v',rfl,by go_num,by omega,q3H.out⟩,?_⟩;simp only[intOf];omega
  ·have p':ns.length=q:=by omega
   have iI:Hid (ah wr (w.heap.size+1) (ae (gE ns ns.length)) 158):=by rw[p'];exact hI.b1
   clear p';go_wp2_with (first
    | (with_reducible refine ai ?_ (.tmp 3) ?_ (w.heap.size+1) ?_ (gE ns ns.length) ?_ ?_
       ·rfl
       ·rfl
       ·rfl
       ·exact iI.out)
    | (with_reducible refine ag ?_ (.tmp 2) (.tmp 24) ?_ w.heap.size ?_ {} (gE ns ns.length) ?_ ?_ ?_
       ·rfl
       ·rfl
       ·rfl
       ·rfl
       ·exact hI.b0
       intro w8 mO mP Ax;have E6:=hI.k.cf mP (by omega)))
   exact bodyPost_ret (v:=.agg (ae (gE ns ns.length))) (aS Tryz.results94 _ _ _ (gE ns ns.length) rfl mO) rfl ⟨rfl,E6⟩
structure MP where
 whole:Bool:=false
 next:Nat->aZ:=fun _=>0#64
 bn:Nat->aZ:=fun _=>0#64
 aE:aZ:=0#64
 ends:aZ:=0#64
 last:aZ:=0#64
 cL:aZ:=0#64
 en:aZ:=0#64
def bo(m:MP)(s:aZ):Nat->aZ
 | 0=>0#64
 | q+1=>if s.getLsbD q=true then bo m s q|||m.next q else bo m s q
def cI(m:MP)(s:aZ):aZ:=bo m s 61
def bE(m:MP)(free:aZ)(s:aZ):Nat->aZ
 | 0=>s
 | q+1=>bE m free s q|||(cI m (bE m free s q)&&&free)
def lG(m:MP)(s free:aZ):aZ:=bE m free s 60
def cq:aZ:=1152921504606846976#64
def cX:aZ:=2305843009213693952#64
theorem AD:((cq.toNat:Nat):Int)=1152921504606846976:=rfl
theorem AF:((cX.toNat:Nat):Int)=2305843009213693952:=rfl
def uk(m:MP):aZ:=lG m cq m.aE
def mR(m:MP)(s:aZ)(c:Nat):aZ:=cI m s&&&m.bn c
def sU(m:MP)(s:aZ)(c:Nat):aZ:=
 if m.whole=true then mR m s c
 else ((if s&&&m.last=0#64 then mR m s c else mR m s c|||cX)|||(s&&&cX))|||cq
def iV(m:MP)(empty:Bool):aZ:=if empty=true then m.ends|||m.aE else m.ends
def rK(m:MP)(s:aZ)(empty:Bool):Bool:=!decide (lG m s (iV m empty)&&&(m.last|||cX)=0#64)
def jV(m:MP)(t:ByteArray):Nat->aZ
 | 0=>uk m
 | q+1=>sU m (jV m t q) (if h:q<t.size then t[q].toNat else 0)
def kU(m:MP)(t:ByteArray):Bool:=rK m (jV m t t.size) (t.size==0)
end Go.Proofs.YtgifhgnccmnbiabGreatDoor
namespace Go.Proofs.YtgifhgnccmnbiabGreatDoor
def mS:aZ:=4611686018427387904#64
theorem Ky:((mS.toNat:Nat):Int)=4611686018427387904:=rfl
def cn(m:MP)(tk S:aZ):aZ:=bo m S 63&&&tk
def gf(m:MP)(tk S:aZ):Nat->aZ
 | 0=>0#64
 | q+1=>if m.next q&&&tk&&&S=0#64 then gf m tk S q else gf m tk S q|||(1#64 <<< q)
def fK(m:MP)(tk S:aZ):aZ:=gf m tk S 63
def bG(m:MP)(free X:aZ):Nat->aZ
 | 0=>X
 | q+1=>bG m free X q|||fK m free (bG m free X q)
def bA(m:MP)(free:aZ):aZ:=bG m free (m.last|||cX) 60
def jW(m:MP):Nat->aZ
 | 0=>cq|||mS
 | q+1=>jW m q|||cn m m.aE (jW m q)
def rL(m:MP):aZ:=jW m 60
def enP(m:MP):aZ:=if rL m&&&bA m (m.ends|||m.aE)=0#64 then bA m m.ends else bA m m.ends|||mS
def lH(m:MP)(q:Nat):MP:={m with next:=fun i=>if i<q/\(m.last.getLsbD i=true\/i=61) then (if i=60 then m.next i|||cq else m.next i)|||cX else if i=60 then m.next i|||cq else m.next i}
def lO(m:MP)(q:Nat):MP:={m with bn:=fun c=>if c<q then m.bn c|||(cq|||cX) else m.bn c}
def vC(m:MP):MP:=lO (lH m 63) 256
def lU(m:MP):MP:={m with cL:=rL m,en:=enP m}
def iO(m:MP):MP:=if m.whole=true then lU m else vC (lU m)
def xA(M:MP)(t:ByteArray):Nat->aZ
 | 0=>M.cL
 | q+1=>cn M (M.bn (if h:q<t.size then t[q].toNat else 0)) (xA M t q)
def rM(M:MP)(t:ByteArray):Bool:=!decide (xA M t t.size&&&M.en=0#64)
section
variable {m m':MP}(h:m'.next=m.next)
include h
theorem vD(S:aZ):∀q,bo m' S q=bo m S q
 | 0=>rfl
 | q+1=>by rw[bo,bo,vD S q,h]
theorem AG(tk S:aZ):cn m' tk S=cn m tk S:=by unfold cn;rw[vD h]
theorem AH(tk S:aZ):∀q,gf m' tk S q=gf m tk S q
 | 0=>rfl
 | q+1=>by rw[gf,gf,AH tk S q,h]
theorem Kz(tk S:aZ):fK m' tk S=fK m tk S:=AH h tk S 63
theorem vE(free X:aZ):∀q,bG m' free X q=bG m free X q
 | 0=>rfl
 | q+1=>by rw[bG,bG,vE free X q,Kz h]
theorem vF(hl:m'.last=m.last)(free:aZ):bA m' free=bA m free:=by unfold bA;rw[hl,vE h]
end
end Go.Proofs.YtgifhgnccmnbiabGreatDoor
namespace Go.Proofs.YtgifhgnccmnbiabGreatDoor
open Go.RowKit Go.IntWalk
def qA(m:MP)(i:Nat):Value:=
 if i=0 then UV m.cL else if i=1 then UV m.en else if i<65 then UV (m.next (i-2)) else if i<321 then UV (m.bn (i-65))
 else if i=321 then UV m.aE else if i=322 then UV m.ends else UV m.last
def aI(m:MP):Array Value:=br 324 (qA m)
@[simp] theorem nO (m:MP):(aI m).size=324:=yB _ _
def fq(w:World)(g:Nat)(m:MP):Prop:=ah w g (aI m) 101
def fL(w:World)(g o:Nat)(m:MP):Prop:=∀i,i<63->w.cell? ⟨g,o+i,none⟩=some (UV (m.next i))
section
variable {w:World}{g:Nat}{m:MP}
theorem fq.cL(h:fq w g m):w.cell? ⟨g,0,none⟩=some (UV m.cL):=by rw[ah.cell h];exact b9 _ (by decide)
theorem fq.en(h:fq w g m):w.cell? ⟨g,1,none⟩=some (UV m.en):=by rw[ah.cell h];exact b9 _ (by decide)
theorem fq.aE(h:fq w g m):w.cell? ⟨g,321,none⟩=some (UV m.aE):=by rw[ah.cell h];exact b9 _ (by decide)
theorem fq.ends(h:fq w g m):w.cell? ⟨g,322,none⟩=some (UV m.ends):=by rw[ah.cell h];exact b9 _ (by decide)
theorem fq.last(h:fq w g m):w.cell? ⟨g,323,none⟩=some (UV m.last):=by rw[ah.cell h];exact b9 _ (by decide)
theorem fq.next(h:fq w g m){i:Nat}(hi:i<63):w.cell? ⟨g,2+i,none⟩=some (UV (m.next i)):=by
 rw[ah.cell h];unfold aI;rw[b9 _ (by omega)];unfold qA;rw[if_neg (by omega),if_neg (by omega),if_pos (by omega),show 2+i-2=i by omega]
theorem fq.bP(h:fq w g m):fL w g 2 m:=fun i hi=>h.next hi
theorem fq.bn(h:fq w g m){i:Nat}(hi:i<256):w.cell? ⟨g,65+i,none⟩=some (UV (m.bn i)):=by
 rw[ah.cell h];unfold aI;rw[b9 _ (by omega)];unfold qA;rw[if_neg (by omega),if_neg (by omega),if_neg (by omega),if_pos (by omega),show 65+i-65=i by omega]
end
theorem E7{q:Nat}(hq:q<64):((1#64 <<< q:aZ).toNat:Int)=2 ^ q:=by
 have h:2 ^ q<2 ^ 64:=Nat.pow_lt_pow_right (by decide) hq;rw[BitVec.toNat_shiftLeft,Nat.shiftLeft_eq,Nat.mod_eq_of_lt (by simpa using h)];simp
theorem Kept.cell{w w':World}(k:Kept [] w w'){g:Nat}(hg:g<w.heap.size)(j:Nat):w'.cell? ⟨g,j,none⟩=w.cell? ⟨g,j,none⟩:=by
 unfold World.cell?;simp only[];rw[k.block g hg (by simp)]
abbrev WV (g o:Nat)(tk:aZ):Value:=.agg #[.pointer (some ⟨g,o,none⟩),UV tk]
theorem ushr(S:aZ)(q:Nat):((S >>> q:aZ).toNat:Int) / 2=((S >>> (q+1):aZ).toNat:Int):=by
 rw[BitVec.toNat_ushiftRight,BitVec.toNat_ushiftRight,Nat.shiftRight_eq_div_pow,Nat.shiftRight_eq_div_pow,Nat.pow_succ,<-Nat.div_div_eq_div_mul];rfl
theorem RT(S:aZ)(q:Nat):(S >>> q:aZ).getLsbD 0=S.getLsbD q:=by simp
theorem AJ{m:MP}{S:aZ}{q:Nat}(h:S >>> q=0#64):∀k,bo m S (q+k)=bo m S q
 | 0=>rfl
 | k+1=>by
   have hb:S.getLsbD (q+k)=false:=by
    have h1:(S >>> q:aZ).getLsbD k=S.getLsbD (q+k):=by simp
    rw[<-h1,h];simp
   show(if S.getLsbD (q+k)=true then bo m S (q+k)|||m.next (q+k) else bo m S (q+k))=_
   rw[if_neg (by rw[hb];decide),AJ h k]
theorem fL.kept{w w':World}{g o:Nat}{m:MP}(h:fL w g o m)(k:Kept [] w w')(hg:g<w.heap.size):fL w' g o m:=fun i hi=>by
 rw[<-h i hi];unfold World.cell?;simp only[];rw[k.block g hg (by simp)]
theorem fL.alloc{w:World}{g o:Nat}{m:MP}(h:fL w g o m)(x:Obj):fL (w.alloc x) g o m:=
 h.kept ((Kept.refl _ _).alloc x) (by
  have:=h 0 (by omega);unfold World.cell? at this;simp only[]at this;cases hb:w.heap[g]? with
  | none=>rw[hb]at this;simp at this
  | some y=>exact(Array.getElem?_eq_some_iff.1 hb).1)
theorem vG(m:MP)(g o:Nat)(tk S:aZ)(w:World)(h:fL w g o m):
 Calls Tryz.prog 124 #[WV g o tk,.int .u64 (S.toNat:Int)] w fun e w'=>e=.returned (.int .u64 ((cn m tk S).toNat:Int))/\Kept [] w w':=by
 have hk:Hid (∀o1,Kept [] w (w.alloc o1)):=fun o1=>(Kept.refl [] w).alloc _;have hT:Hid (∀x,fL (w.alloc x) g o m):=fun x=>h.alloc x;clear h;go_enter Tryz.func124,Tryz.ntmps124
 go_wp2_with fail
 go_loop [1,5,6] (fun av bv iv=>∃q:Nat,av=.int .u64 ((S >>> q:aZ).toNat:Int)/\bv=.int .u64 ((bo m S q).toNat:Int)/\iv=.int .i64 (q:Int)/\q<=63) (fun _ _ iv=>(63-intOf iv).toNat)
 case atStart=>exact⟨0,by simp,rfl,rfl,by omega⟩
 case round=>
  obtain⟨q,rfl,rfl,rfl,hq⟩:=hrel;by_cases bO:(q:Int)<63
  ·have tw:q<63:=by omega
   by_cases hz:S >>> q=0#64
   ·have e0:((S >>> q:aZ).toNat:Int)=0:=(ox _).2 hz;have hF:Hid (cn m tk S=bo m S q&&&tk):=by
     show cn m tk S=_;unfold cn;have:=AJ (m:=m) hz (63-q);rw[show q+(63-q)=63 by omega]at this;rw[this]
    have ha:=Au (bo m S q) tk;rw[<-hF.out]at ha;clear hz;obtain⟨R,hR⟩:∃R,Hid (cn m tk S=R):=⟨_,rfl⟩;rw[hR.out]at ha;clear hF;generalize bo m S q=FF at *;generalize (S >>> q:aZ)=A at *;go_wp2
    go_ret;exact⟨by rw[hR.out];rfl,hk.out _⟩
   ·have e0:((S >>> q:aZ).toNat:Int)≠0:=fun hc=>hz ((ox _).1 hc);have hsh:=ushr S q;have rF:Hid (∀w,Calls Tryz.prog 143 #[.int .u64 ((S >>> q:aZ).toNat:Int),.int .i64 0] w fun e w'=>e=.returned (.bool ((S >>> q:aZ).getLsbD 0))/\w'=w):=fun w=>EW (S >>> q) 0 (by omega) w;rw[RT]at rF;have hc:Hid (∀x,(w.alloc x).cell? ⟨g,o+q,none⟩=some (UV (m.next q))):=fun x=>hT.out x q tw;have tL:=p8 (bo m S q) (m.next q);have iw:Hid (S.getLsbD q=true->bo m S (q+1)=bo m S q|||m.next q):=fun hb=>by rw[bo,if_pos hb]
    have cY:Hid (S.getLsbD q=false->bo m S (q+1)=bo m S q):=fun hb=>by rw[bo,if_neg (by rw[hb];decide)]
    clear hz;obtain⟨A2,YI⟩:∃A2,Hid ((S >>> (q+1):aZ)=A2):=⟨_,rfl⟩;rw[YI.out]at hsh;generalize (S >>> q:aZ)=A at *;cases fP:S.getLsbD q with
    | true=>
      have e:Hid (_=_):=iw.out fP;rw[fP]at rF;clear fP iw cY;have RV:=hc.out (.cells #[.pointer (some ⟨g,o,none⟩),UV tk] 167);generalize bo m S q|||m.next q=Z at tL e
      go_wp2_with (go_at_call 143;refine(rF.out _).mono ?_;rintro _ _ ⟨rfl,rfl⟩)
      go_round
      case rel=>exact⟨q+1,by rw[YI.out,<-hsh],by rw[e.out],by go_num,by omega⟩
      case measure=>simp[intOf];omega
    | false=>
      have e:Hid (_=_):=cY.out fP;rw[fP]at rF;clear fP iw cY;go_wp2_with (go_at_call 143;refine(rF.out _).mono ?_;rintro _ _ ⟨rfl,rfl⟩)
      go_round
      case rel=>exact⟨q+1,by rw[YI.out,<-hsh],by rw[e.out],by go_num,by omega⟩
      case measure=>simp[intOf];omega
  ·have p':q=63:=by omega
   subst p';have ha:bits .and .u64 ((bo m S 63).toNat:Int) (tk.toNat:Int)=((cn m tk S).toNat:Int):=Au (bo m S 63) tk;obtain⟨R,hR⟩:∃R,Hid (cn m tk S=R):=⟨_,rfl⟩;rw[hR.out]at ha;go_wp2
   go_ret;exact⟨by rw[hR.out];rfl,hk.out _⟩
theorem Hx(m:MP)(g o:Nat)(tk S:aZ)(w:World)(h:fL w g o m):
 Calls Tryz.prog 182 #[WV g o tk,.int .u64 (S.toNat:Int)] w fun e w'=>e=.returned (.int .u64 ((fK m tk S).toNat:Int))/\Kept [] w w':=by
 have hT:Hid (fL (w.alloc (.cells #[.pointer (some ⟨g,o,none⟩),UV tk] 167)) g o m):=h.alloc _;have AK:Hid (ah (w.alloc (.cells #[.pointer (some ⟨g,o,none⟩),UV tk] 167)) w.heap.size #[.pointer (some ⟨g,o,none⟩),UV tk] 167):=ah.new w _ _;have hk:Hid (Kept [] w (w.alloc (.cells #[.pointer (some ⟨g,o,none⟩),UV tk] 167))):=(Kept.refl [] w).alloc _;clear h;go_enter Tryz.func182,Tryz.ntmps182
 go_wp2_with fail
 go_loopw [5,6] (fun bv iv wr=>∃q:Nat,bv=.int .u64 ((gf m tk S q).toNat:Int)/\iv=.int .i64 (q:Int)/\q<=63/\fL wr g o m/\ah wr w.heap.size #[.pointer (some ⟨g,o,none⟩),UV tk] 167/\Kept [] w wr) (fun _ iv _=>(63-intOf iv).toNat)
 case atStart=>exact⟨0,rfl,rfl,by omega,hT.out,AK.out,hk.out⟩
 case round=>
  obtain⟨q,rfl,rfl,hq,KA,ck,nL⟩:=hrel;clear hT AK hk;by_cases bO:(q:Int)<63
  ·have tw:q<63:=by omega
   have c1:=KA q tw;have c2:wr.cell? ⟨w.heap.size,0,none⟩=some (.pointer (some ⟨g,o,none⟩)):=ck.cell 0;have c3:wr.cell? ⟨w.heap.size,1,none⟩=some (UV tk):=ck.cell 1;have a1:=Au (m.next q) tk;have a2:=Au (m.next q&&&tk) S;have hD:Hid (∀n,fL (wr.drewN n) g o m/\ah (wr.drewN n) w.heap.size #[.pointer (some ⟨g,o,none⟩),UV tk] 167/\Kept [] w (wr.drewN n)):=fun n=>⟨KA,ck,nL.drewN n⟩;have iw:Hid (m.next q&&&tk&&&S≠0#64->gf m tk S (q+1)=gf m tk S q|||(1#64 <<< q)):=fun hb=>by rw[gf,if_neg hb]
   have cY:Hid (m.next q&&&tk&&&S=0#64->gf m tk S (q+1)=gf m tk S q):=fun hb=>by rw[gf,if_pos hb]
   have tL:=p8 (gf m tk S q) (1#64 <<< q);have DA:IntKind.wrap .u64 ((2:Int) ^ q)=((1#64 <<< q:aZ).toNat:Int):=by rw[<-E7 (by omega)];exact As _ (BitVec.isLt _)
   have E8:IntKind.wrap .u64 (1*(2:Int) ^ q)=((1#64 <<< q:aZ).toNat:Int):=by rw[Int.one_mul];exact DA
   clear KA ck nL;generalize m.next q&&&tk=Y at *;generalize Y&&&S=X at *;by_cases hz:X=0#64
   ·have e:Hid (_=_):=cY.out hz;have eX:(X.toNat:Int)=0:=(ox X).2 hz;clear hz iw cY tL DA E8;go_wp2
    go_quiet (fail)
    go_wp2
    refine⟨⟨q+1,by rw[e.out],by go_num,by omega,hD.out _⟩,?_⟩;simp only[intOf];omega
   ·have e:Hid (_=_):=iw.out hz;have eX:(X.toNat:Int)≠0:=fun hc=>hz ((ox X).1 hc);clear hz iw cY;generalize (1#64 <<< q:aZ)=Z at *;generalize gf m tk S q|||Z=V at *
    go_wp2
    go_quiet (fail)
    go_wp2
    refine⟨⟨q+1,by rw[e.out],by go_num,by omega,hD.out _⟩,?_⟩;simp only[intOf];omega
  ·have p':q=63:=by omega
   subst p';have zi:Hid (Kept _ _ _):=nL;have e:Hid (fK m tk S=gf m tk S 63):=rfl;clear KA ck nL;go_wp2
   go_ret;exact⟨by rw[e.out];rfl,zi.out⟩
def dG(cM:List (Int×Int))(c:Int):Bool:=cM.any fun x=>decide (x.1<=c)&&decide (c<=x.2)
def gO(c:Nat):Nat:=if 65<=c/\c<=90 then c+32 else if 97<=c/\c<=122 then c-32 else c
theorem tU:∀(l:List (Int×Int)) (i:Nat) (x:Int×Int),l[i]?=some x->(gq l)[i*2]?=some (.int .i64 x.1)/\(gq l)[i*2+1]?=some (.int .i64 x.2)
 | [],i,x,h=>by simp at h
 | y :: l,0,x,h=>by simp at h;subst h;exact⟨rfl,rfl⟩
 | y :: l,i+1,x,h=>by
   simp at h;have:=tU l i x h;have e:(i+1)*2=i*2+1+1:=by omega
   rw[e];exact this
theorem cj.iN{w w':World}{B:Nat}{x:IV}{cM:List (Int×Int)}{S:List Nat}(h:cj w B x cM)(k:Kept S w w')(hs:∀g,g∈S->(fF x).ownBlock≠some g):cj w' B x cM:=by
 refine⟨h.1,?_⟩;rcases h.2 with h1|⟨g,cap,cur,h1,h2,h3,h4⟩
 ·exact Or.inl h1
 ·have bO:g<w.heap.size:=(Array.getElem?_eq_some_iff.1 h3).1;refine Or.inr ⟨g,cap,cur,h1,h2,(k.block g bO (fun hc=>?_)).trans h3,h4⟩;have:=hs g hc;rw[h1]at this;exact this rfl
theorem cj.same{w w':World}{B:Nat}{x:IV}{cM:List (Int×Int)}(h:cj w B x cM)(k:w'.heap=w.heap):cj w' B x cM:=by
 refine⟨h.1,?_⟩;rcases h.2 with h1|⟨g,cap,cur,h1,h2,h3,h4⟩
 ·exact Or.inl h1
 ·exact Or.inr ⟨g,cap,cur,h1,h2,by rw[k];exact h3,h4⟩
theorem DB(cM:List (Int×Int))(B:Nat)(x:IV)(c:Int)(w:World)(h:cj w B x cM)(hl:cM.length<=1000)(hc0:0<=c)(hc:c<=255):
 Calls Tryz.prog 180 #[.slice x.1 x.2.1 x.2.2,.int .i64 c] w fun e w'=>e=.returned (.bool (dG cM c))/\w'=w:=by
 obtain⟨a,cap,hx⟩:∃a cap,fF x=.slice a cM.length cap:=by
  rcases h.2 with⟨h1,h2⟩|⟨g,cap,_,h1,_⟩
  ·exact⟨none,0,by rw[h1,h2]⟩
  ·exact⟨_,cap,h1⟩
 have hx':Value.slice x.1 x.2.1 x.2.2=.slice a cM.length cap:=hx;rw[hx'];clear hx';go_enter Tryz.func180,Tryz.ntmps180
 go_wp2_with fail
 go_loop [5] (fun iv=>∃q:Nat,iv=.int .i64 (q:Int)/\q<=cM.length/\dG (cM.take q) c=false) (fun iv=>((cM.length:Int)-intOf iv).toNat)
 case atStart=>exact⟨0,rfl,by omega,rfl⟩
 case round=>
  obtain⟨q,rfl,hq,kJ⟩:=hrel;by_cases bO:(q:Int)<(cM.length:Int)
  ·have tw:q<cM.length:=by omega
   obtain⟨y,hy⟩:∃y,cM[q]?=some y:=⟨_,List.getElem?_eq_getElem tw⟩;obtain⟨g,qM,hv⟩:=aO h (by omega);rw[hx]at hv;simp only[Value.slice.injEq]at hv;obtain⟨rfl,_,rfl⟩:=hv;obtain⟨g1,g2⟩:=tU cM q y hy;have aG:w.ownsRow B 270 2 (.slice (some ⟨g,0,none⟩) cM.length cap) cM.length (gq cM):=by have:=h;unfold cj at this;rwa [hx]at this
   have c1:=aG.cells (g:=g) rfl _ _ g1;have c2:=aG.cells (g:=g) rfl _ _ g2;rw[show(⟨g,0,none⟩:Addr).add (q*2)=⟨g,q*2,none⟩ by simp[Addr.add];omega]at c1;rw[show(⟨g,0,none⟩:Addr).add (q*2+1)=⟨g,q*2+1,none⟩ by simp[Addr.add]]at c2;have Xp:cM.take (q+1)=cM.take q++[y]:=by rw[List.take_add_one,hy];rfl
   have cy:Hid (¬(y.1<=c/\c<=y.2)->dG (cM.take (q+1)) c=false):=fun hn=>by
    unfold dG at *;rw[Xp,List.any_append,kJ];simpa using fun h1=>by have:=fun h2=>hn ⟨h1,h2⟩;omega
   have zo:Hid (y.1<=c->c<=y.2->dG cM c=true):=fun h1 h2=>by
    unfold dG;exact List.any_eq_true.2 ⟨y,List.mem_of_getElem? hy,by simp[h1,h2]⟩
   clear hx aG g1 g2 kJ Xp hy h;generalize hlo:y.1=lo at *;generalize hhi:y.2=hi at *;clear hlo hhi;by_cases h1:lo<=c
   ·by_cases h2:c<=hi
    ·have hyH:Hid (dG cM c=true):=zo.out h1 h2;clear zo cy;go_wp2
     go_ret;exact⟨by rw[hyH.out];rfl,rfl⟩
    ·have nP:Hid _:=cy.out (fun hc=>h2 hc.2);clear zo cy;have h2:hi<c:=by omega
     go_wp2
     refine⟨⟨q+1,by go_num,by omega,nP.out⟩,?_⟩;simp only[intOf];omega
   ·have nP:Hid _:=cy.out (fun hc=>h1 hc.1);clear zo cy;have h1:c<lo:=by omega
    go_wp2
    refine⟨⟨q+1,by go_num,by omega,nP.out⟩,?_⟩;simp only[intOf];omega
  ·have p':q=cM.length:=by omega
   subst p';rw[List.take_length]at kJ;have nP:Hid (_=_):=kJ;clear kJ hx h;go_wp2
   go_ret;exact⟨by rw[nP.out];rfl,rfl⟩
theorem CW(c:Nat)(hc:c<256)(w:World):
 Calls Tryz.prog 181 #[.int .i64 (c:Int)] w fun e w'=>e=.returned (.int .i64 (gO c:Int))/\w'=w:=by
 by_cases h1:65<=c/\c<=90
 ·obtain⟨a1,a2⟩:=h1;have e:Hid (((gO c:Nat):Int)=(c:Int)-65+97):=by show((gO c:Nat):Int)=_;unfold gO;rw[if_pos ⟨a1,a2⟩];omega
  go_enter Tryz.func181,Tryz.ntmps181
  go_wp2
  go_ret;exact⟨bQ (by have:=e.out;omega),rfl⟩
 ·by_cases h2:97<=c/\c<=122
  ·obtain⟨a1,a2⟩:=h2;clear h1;have e:Hid (((gO c:Nat):Int)=(c:Int)-97+65):=by show((gO c:Nat):Int)=_;unfold gO;rw[if_neg (by omega),if_pos ⟨a1,a2⟩];omega
   go_enter Tryz.func181,Tryz.ntmps181
   go_wp2
   go_ret;exact⟨bQ (by have:=e.out;omega),rfl⟩
  ·have e:Hid (gO c=c):=by show gO c=c;unfold gO;rw[if_neg h1,if_neg h2]
   have cs:c<65\/(90<c/\c<97)\/122<c:=by omega
   clear h1 h2;rcases cs with h1|⟨h1,h2⟩|h1 <;>
   ·go_enter Tryz.func181,Tryz.ntmps181
    go_wp2
    go_ret;exact⟨bQ (by rw[e.out]),rfl⟩
theorem yD(m m':MP)(i:Nat)(s:aZ)(hi:i<256)(h0:m'.cL=m.cL/\m'.en=m.en)(h1:m'.next=m.next)(h2:∀j,j<256->m'.bn j=if j=i then s else m.bn j)(h3:m'.aE=m.aE)(h4:m'.ends=m.ends)(h5:m'.last=m.last):
 (aI m).setIfInBounds (65+i) (UV s)=aI m':=by
 refine bm _ _ _ _ fun j hj=>?_;unfold qA;rw[h0.1,h0.2,h1,h3,h4,h5];by_cases h:j=65+i
 ·subst h;rw[if_neg (by omega),if_neg (by omega),if_neg (by omega),if_pos (by omega),if_pos rfl,h2 _ (by omega),if_pos (by omega)]
 ·rw[if_neg h];repeat' split
  all_goals first | rfl | (rw[h2 _ (by omega),if_neg (by omega)])
theorem um(m m':MP)(i:Nat)(s:aZ)(hi:i<63)(h0:m'.cL=m.cL/\m'.en=m.en)(h1:m'.bn=m.bn)(h2:∀j,j<63->m'.next j=if j=i then s else m.next j)(h3:m'.aE=m.aE)(h4:m'.ends=m.ends)(h5:m'.last=m.last):
 (aI m).setIfInBounds (2+i) (UV s)=aI m':=by
 refine bm _ _ _ _ fun j hj=>?_;unfold qA;rw[h0.1,h0.2,h1,h3,h4,h5];by_cases h:j=2+i
 ·subst h;rw[if_neg (by omega),if_neg (by omega),if_pos (by omega),if_pos rfl,h2 _ (by omega),if_pos (by omega)]
 ·rw[if_neg h];repeat' split
  all_goals first | rfl | (rw[h2 _ (by omega),if_neg (by omega)])
theorem E9(m:MP)(s:aZ):(aI m).setIfInBounds 321 (UV s)=aI { m with aE:=s}:=bm _ _ _ _ fun j hj=>by
 by_cases h:j=321
 ·subst h;rfl
 ·unfold qA;simp only[if_neg h]
theorem KB(m:MP)(s:aZ):(aI m).setIfInBounds 322 (UV s)=aI { m with ends:=s}:=bm _ _ _ _ fun j hj=>by
 by_cases h:j=322
 ·subst h;rfl
 ·unfold qA;simp only[if_neg h]
theorem AM(m:MP)(s:aZ):(aI m).setIfInBounds 323 (UV s)=aI { m with last:=s}:=bm _ _ _ _ fun j hj=>by
 by_cases h:j=323
 ·subst h;rfl
 ·unfold qA;repeat' split
  all_goals first | rfl | omega
def eh(n:AN)(fold:Bool)(c:Nat):Bool:=(dG n.cM (c:Int) || (fold&&dG n.cM (gO c:Int))) != n.neg
def dx(m:MP)(step:aZ)(n:AN)(fold:Bool)(q:Nat):MP:={m with bn:=fun c=>if c<q/\eh n fold c=true then m.bn c|||step else m.bn c}
def fg(m:MP)(step:aZ)(n:AN)(fold:Bool):MP:=
 if n.kind=2 then { m with aE:=m.aE|||step} else if n.kind=3 then { m with ends:=m.ends|||step} else if n.kind=1 then dx m step n fold 256 else m
theorem KC{m:MP}{step:aZ}{n:AN}{fold:Bool}{q:Nat}(h:eh n fold q=false):dx m step n fold (q+1)=dx m step n fold q:=by
 unfold dx;congr 1
 funext c
 by_cases hc:c=q
 ·subst hc;rw[if_neg (by simp[h]),if_neg (by simp[h])]
 ·by_cases h1:c<q/\eh n fold c=true
  ·rw[if_pos ⟨by omega,h1.2⟩,if_pos h1]
  ·rw[if_neg (fun hc=>h1 ⟨by omega,hc.2⟩),if_neg h1]
theorem DC{m:MP}{step:aZ}{n:AN}{fold:Bool}{q:Nat}(hq:q<256)(h:eh n fold q=true):(aI (dx m step n fold q)).setIfInBounds (65+q) (UV (m.bn q|||step))=aI (dx m step n fold (q+1)):=by
 refine yD _ _ q _ hq ⟨rfl,rfl⟩ rfl (fun j _=>?_) rfl rfl rfl;simp only[dx];by_cases hs:j=q
 ·subst hs;rw[if_pos ⟨by omega,h⟩,if_pos rfl]
 ·rw[if_neg hs];by_cases h1:j<q/\eh n fold j=true
  ·rw[if_pos ⟨by omega,h1.2⟩,if_pos h1]
  ·rw[if_neg (fun hc=>h1 ⟨by omega,hc.2⟩),if_neg h1]
theorem fq.frozen{w:World}{g:Nat}{m:MP}(h:fq w g m)(j:Nat):w.frozen? ⟨g,j,none⟩=false:=ah.frozen h j
structure tC (w0 w:World)(g:Nat)(m:MP)(n:AN)(x:IV):Prop where
 mi:fq w g m
 nb:ah w w0.heap.size #[.int .i64 n.kind,.slice x.1 x.2.1 x.2.2,.bool n.neg,.int .i64 n.left,.int .i64 n.right,.int .i64 n.least,.int .i64 n.most,.int .i64 n.size] 164
 k:Kept [g] w0 w
theorem tC.drewN{w0 w:World}{g:Nat}{m:MP}{n:AN}{x:IV}(h:tC w0 w g m n x)(q:Nat):tC w0 (w.drewN q) g m n x:=⟨h.mi,h.nb,h.k.drewN q⟩
theorem tC.drew{w0 w:World}{g:Nat}{m:MP}{n:AN}{x:IV}(h:tC w0 w g m n x):tC w0 w.drew g m n x:=⟨h.mi,h.nb,h.k.drew⟩
theorem tC.set{w0 w:World}{g:Nat}{m m':MP}{n:AN}{x:IV}(h:tC w0 w g m n x)(hg:g<w0.heap.size)(i:Nat)(u:Value)(he:(aI m).setIfInBounds i u=aI m'):tC w0 (w.setCell ⟨g,i,none⟩ u) g m' n x:=by
 refine⟨?_,h.nb.other _ _ (by omega),h.k.setCell (Or.inl (by simp)) _⟩;have:=ah.set h.mi i u;rw[he]at this;exact this
theorem AO(m:MP)(g:Nat)(step:aZ)(n:AN)(x:IV)(fold:Bool)(B:Nat)(w:World)(h:fq w g m)(hx:cj w B x n.cM)(hl:n.cM.length<=1000)(fx:(fF x).ownBlock≠some g):
 Calls Tryz.prog 141 #[.pointer (some ⟨g,0,none⟩),.int .u64 (step.toNat:Int),.agg #[.int .i64 n.kind,.slice x.1 x.2.1 x.2.2,.bool n.neg,.int .i64 n.left,.int .i64 n.right,.int .i64 n.least,.int .i64 n.most,.int .i64 n.size],.bool fold] w
  fun e w'=>e=.returned (.tuple #[])/\fq w' g (dx m step n fold 256)/\Kept [g] w w':=by
 have hg:g<w.heap.size:=ah.lt h;have dy:tC w (w.alloc (.cells #[.int .i64 n.kind,.slice x.1 x.2.1 x.2.2,.bool n.neg,.int .i64 n.left,.int .i64 n.right,.int .i64 n.least,.int .i64 n.most,.int .i64 n.size] 164)) g (dx m step n fold 0) n x:=by
  refine⟨?_,ah.new _ _ _,(Kept.refl _ _).alloc _⟩;have e:dx m step n fold 0=m:=by unfold dx;congr 1
  rw[e];exact ah.alloc h _
 have RQ:Hid (tC _ _ _ _ _ _):=dy;clear dy;go_enter Tryz.func141,Tryz.ntmps141
 go_wp2_with fail
 go_loopw [8] (fun iv wr=>∃q:Nat,iv=.int .i64 (q:Int)/\q<=256/\tC w wr g (dx m step n fold q) n x) (fun iv _=>(256-intOf iv).toNat)
 case atStart=>exact⟨0,rfl,by omega,RQ.out⟩
 case round=>
  obtain⟨q,rfl,hq,hI⟩:=hrel;clear RQ;by_cases bO:(q:Int)<256
  ·have tw:q<256:=by omega
   have hoc:gO q<=255:=by
    unfold gO;repeat' split
    all_goals omega
   have QG:cj wr B x n.cM:=hx.iN hI.k (by simpa using fx);have JK:Hid (∀w',w'.heap=wr.heap->Calls _ _ _ w' _):=fun w' e=>DB n.cM B x (q:Int) w' (QG.same e) hl (by omega) (by omega);have hh2:Hid (∀w',w'.heap=wr.heap->Calls _ _ _ w' _):=fun w' e=>DB n.cM B x (gO q:Int) w' (QG.same e) hl (by omega) (by omega);have ho:Hid (∀w',Calls _ _ _ w' _):=fun w'=>CW q tw w';have c1:wr.cell? ⟨w.heap.size,1,none⟩=some (.slice x.1 x.2.1 x.2.2):=by rw[hI.nb.cell];rfl
   have c2:wr.cell? ⟨w.heap.size,2,none⟩=some (.bool n.neg):=by rw[hI.nb.cell];rfl
   have c3:=hI.mi.bn tw;have c4:=hI.mi.frozen (65+q);have et:(dx m step n fold q).bn q=m.bn q:=by simp[dx]
   rw[et]at c3;have tL:=p8 (m.bn q) step;have iw:Hid (eh n fold q=true->tC w (wr.drew.setCell ⟨g,65+q,none⟩ (UV (m.bn q|||step))) g (dx m step n fold (q+1)) n x/\∀k,tC w ((wr.drewN k).drew.setCell ⟨g,65+q,none⟩ (UV (m.bn q|||step))) g (dx m step n fold (q+1)) n x):=fun hb=>
    ⟨hI.drew.set hg _ _ (DC tw hb),fun k=>(hI.drewN k).drew.set hg _ _ (DC tw hb)⟩
   have cY:Hid (eh n fold q=false->tC w wr g (dx m step n fold (q+1)) n x/\∀k,tC w (wr.drewN k) g (dx m step n fold (q+1)) n x):=fun hb=>by
    rw[KC hb];exact⟨hI,fun k=>hI.drewN k⟩
   have etk:eh n fold q=((dG n.cM (q:Int) || (fold&&dG n.cM (gO q:Int))) != n.neg):=rfl
   clear et hI QG hx h bO;have bO:(q:Int)<256:=by omega
   generalize m.bn q|||step=Z at *
   generalize eh n fold q=TT at *;generalize dG n.cM (q:Int)=b1 at *;generalize dG n.cM (gO q:Int)=b2 at *;generalize Hs:n.neg=ng at *;clear Hs;cases b1 <;> cases ng <;> cases fold <;> cases b2 <;> simp only[Bool.or_true,Bool.or_false,Bool.true_or,Bool.false_or,Bool.true_and,Bool.false_and,Bool.and_true,Bool.and_false,bne_self_eq_false,Bool.true_bne,Bool.false_bne,Bool.bne_true,Bool.bne_false,Bool.not_true,Bool.not_false]at etk <;> subst etk
   ·have H:Hid (_/\_):=cY.out rfl;clear iw cY;go_wp2_with (go_at_call 180;refine(JK.out _ rfl).mono ?_;rintro _ _ ⟨rfl,rfl⟩)
    refine⟨⟨q+1,by go_num,by omega,H.out.1⟩,?_⟩;simp only[intOf];omega
   ·have H:Hid (_/\_):=cY.out rfl;clear iw cY;go_wp2_with (go_at_call 180;refine(JK.out _ rfl).mono ?_;rintro _ _ ⟨rfl,rfl⟩)
    refine⟨⟨q+1,by go_num,by omega,H.out.1⟩,?_⟩;simp only[intOf];omega
   ·have H:Hid (_/\_):=cY.out rfl;clear iw cY;go_wp2_with (go_at_call 180;refine(JK.out _ rfl).mono ?_;rintro _ _ ⟨rfl,rfl⟩)
    go_quiet (first | (go_at_call 181;exact Calls.quiet_of_same (ho.out _)) | (go_at_call 180;exact Calls.quiet_of_same (hh2.out _ rfl)))
    go_wp2
    refine⟨⟨q+1,by go_num,by omega,H.out.2 _⟩,?_⟩;simp only[intOf];omega
   ·have H:Hid (_/\_):=iw.out rfl;clear iw cY;go_wp2_with (go_at_call 180;refine(JK.out _ rfl).mono ?_;rintro _ _ ⟨rfl,rfl⟩)
    go_quiet (first | (go_at_call 181;exact Calls.quiet_of_same (ho.out _)) | (go_at_call 180;exact Calls.quiet_of_same (hh2.out _ rfl)))
    go_wp2
    go_region
    go_wp2
    refine⟨⟨q+1,by go_num,by omega,H.out.2 _⟩,?_⟩;simp only[intOf];omega
   ·have H:Hid (_/\_):=iw.out rfl;clear iw cY;go_wp2_with (go_at_call 180;refine(JK.out _ rfl).mono ?_;rintro _ _ ⟨rfl,rfl⟩)
    go_region
    go_wp2
    refine⟨⟨q+1,by go_num,by omega,H.out.1⟩,?_⟩;simp only[intOf];omega
   ·have H:Hid (_/\_):=iw.out rfl;clear iw cY;go_wp2_with (go_at_call 180;refine(JK.out _ rfl).mono ?_;rintro _ _ ⟨rfl,rfl⟩)
    go_region
    go_wp2
    refine⟨⟨q+1,by go_num,by omega,H.out.1⟩,?_⟩;simp only[intOf];omega
   ·have H:Hid (_/\_):=iw.out rfl;clear iw cY;go_wp2_with (go_at_call 180;refine(JK.out _ rfl).mono ?_;rintro _ _ ⟨rfl,rfl⟩)
    go_quiet (first | (go_at_call 181;exact Calls.quiet_of_same (ho.out _)) | (go_at_call 180;exact Calls.quiet_of_same (hh2.out _ rfl)))
    go_wp2
    go_region
    go_wp2
    refine⟨⟨q+1,by go_num,by omega,H.out.2 _⟩,?_⟩;simp only[intOf];omega
   ·have H:Hid (_/\_):=cY.out rfl;clear iw cY;go_wp2_with (go_at_call 180;refine(JK.out _ rfl).mono ?_;rintro _ _ ⟨rfl,rfl⟩)
    go_quiet (first | (go_at_call 181;exact Calls.quiet_of_same (ho.out _)) | (go_at_call 180;exact Calls.quiet_of_same (hh2.out _ rfl)))
    go_wp2
    refine⟨⟨q+1,by go_num,by omega,H.out.2 _⟩,?_⟩;simp only[intOf];omega
   ·have H:Hid (_/\_):=iw.out rfl;clear iw cY;go_wp2_with (go_at_call 180;refine(JK.out _ rfl).mono ?_;rintro _ _ ⟨rfl,rfl⟩)
    go_region
    go_wp2
    refine⟨⟨q+1,by go_num,by omega,H.out.1⟩,?_⟩;simp only[intOf];omega
   ·have H:Hid (_/\_):=iw.out rfl;clear iw cY;go_wp2_with (go_at_call 180;refine(JK.out _ rfl).mono ?_;rintro _ _ ⟨rfl,rfl⟩)
    go_region
    go_wp2
    refine⟨⟨q+1,by go_num,by omega,H.out.1⟩,?_⟩;simp only[intOf];omega
   ·have H:Hid (_/\_):=iw.out rfl;clear iw cY;go_wp2_with (go_at_call 180;refine(JK.out _ rfl).mono ?_;rintro _ _ ⟨rfl,rfl⟩)
    go_region
    go_wp2
    refine⟨⟨q+1,by go_num,by omega,H.out.1⟩,?_⟩;simp only[intOf];omega
   ·have H:Hid (_/\_):=iw.out rfl;clear iw cY;go_wp2_with (go_at_call 180;refine(JK.out _ rfl).mono ?_;rintro _ _ ⟨rfl,rfl⟩)
    go_region
    go_wp2
    refine⟨⟨q+1,by go_num,by omega,H.out.1⟩,?_⟩;simp only[intOf];omega
   ·have H:Hid (_/\_):=cY.out rfl;clear iw cY;go_wp2_with (go_at_call 180;refine(JK.out _ rfl).mono ?_;rintro _ _ ⟨rfl,rfl⟩)
    refine⟨⟨q+1,by go_num,by omega,H.out.1⟩,?_⟩;simp only[intOf];omega
   ·have H:Hid (_/\_):=cY.out rfl;clear iw cY;go_wp2_with (go_at_call 180;refine(JK.out _ rfl).mono ?_;rintro _ _ ⟨rfl,rfl⟩)
    refine⟨⟨q+1,by go_num,by omega,H.out.1⟩,?_⟩;simp only[intOf];omega
   ·have H:Hid (_/\_):=cY.out rfl;clear iw cY;go_wp2_with (go_at_call 180;refine(JK.out _ rfl).mono ?_;rintro _ _ ⟨rfl,rfl⟩)
    refine⟨⟨q+1,by go_num,by omega,H.out.1⟩,?_⟩;simp only[intOf];omega
   ·have H:Hid (_/\_):=cY.out rfl;clear iw cY;go_wp2_with (go_at_call 180;refine(JK.out _ rfl).mono ?_;rintro _ _ ⟨rfl,rfl⟩)
    refine⟨⟨q+1,by go_num,by omega,H.out.1⟩,?_⟩;simp only[intOf];omega
  ·have p':q=256:=by omega
   subst p';have h1:=hI.mi;have h2:=hI.k;clear hI h hx;go_wp2
   go_end0;exact⟨rfl,h1,h2⟩
end Go.Proofs.YtgifhgnccmnbiabGreatDoor
