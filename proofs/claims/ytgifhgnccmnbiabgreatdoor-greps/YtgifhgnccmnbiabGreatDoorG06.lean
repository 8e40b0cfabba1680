/- Part of the proof. -/
import Derived.Test.YtgifhgnccmnbiabGreatDoorG05
set_option linter.unusedVariables false
set_option linter.unusedSimpArgs false
set_option maxHeartbeats 4000000
set_option maxRecDepth 100000
namespace Go.Proofs.YtgifhgnccmnbiabGreatDoor
open Go.RowKit Go.IntWalk
theorem Ot{a b:GP}{ea eb:Bool}(ha:a.empty=ea)(hb:b.empty=eb):
 gd a b=dY { aL a b with empty:=ea&&eb,first:=cond ea (a.first|||b.first <<< a.count) a.first,last:=cond eb (b.last <<< a.count|||a.last) (b.last <<< a.count)} a.last (b.first <<< a.count):=by
 unfold gd;rw[ha,hb];rcases ea with _|_ <;> rcases eb with _|_ <;> rfl
structure tR (w0 w:World)(a b:GP):Prop where
 b0:ah w w0.heap.size (ae a) 158
 b1:ah w (w0.heap.size+1) (ae b) 158
 b2:ah w (w0.heap.size+1+1) (ae {}) 158
 k:Kept [] w0 w
theorem tR.start(w:World)(a b:GP):tR w (((w.alloc (.cells (ae a) 158)).alloc (.cells (ae b) 158)).alloc (.cells (ae {}) 158)) a b:=
 ⟨((ah.new w _ _).alloc _).alloc _,(ah.oy w _ _ _).alloc _,ah.EZ w _ _ _ _,(((Kept.refl _ _).alloc _).alloc _).alloc _⟩
theorem tR.kept{w0 w w':World}{a b:GP}(h:tR w0 w a b)(k:Kept [] w w'):tR w0 w' a b:=
 ⟨h.b0.kept k (by simp),h.b1.kept k (by simp),h.b2.kept k (by simp),h.k.trans k⟩
theorem tR.cf{w0 w w':World}{a b:GP}{g:Nat}(h:tR w0 w a b)(k:Kept [g] w w')(hg:w0.heap.size+1+1<g):tR w0 w' a b:=
 ⟨h.b0.kept k (by simp;omega),h.b1.kept k (by simp;omega),h.b2.kept k (by simp;omega),h.k.cf k (by omega)⟩
section
variable {w:World}{g:Nat}{p:GP}{t:TypeId}
theorem ah.CN(h:ah w g (ae p) t)(e:Bool):ah (w.setCell ⟨g,1,none⟩ (.bool e)) g (ae { p with empty:=e}) t:=by
 have:=h.set 1 (.bool e);rwa [rD]at this
theorem ah.CO(h:ah w g (ae p) t)(s:aZ):ah (w.setCell ⟨g,2,none⟩ (UV s)) g (ae { p with first:=s}) t:=by
 have:=h.set 2 (UV s);rwa [rE]at this
theorem ah.CP(h:ah w g (ae p) t)(s:aZ):ah (w.setCell ⟨g,3,none⟩ (UV s)) g (ae { p with last:=s}) t:=by
 have:=h.set 3 (UV s);rwa [tO]at this
theorem ah.qy(h:ah w g (ae p) t):w.cell? ⟨g,0,none⟩=some (.int .i64 (p.count:Int)):=by rw[h.cell,zF]
theorem ah.dz(h:ah w g (ae p) t):w.cell? ⟨g,1,none⟩=some (.bool p.empty):=by rw[h.cell,VN]
theorem ah.dQ(h:ah w g (ae p) t):w.cell? ⟨g,2,none⟩=some (UV p.first):=by rw[h.cell,VO]
theorem ah.dR(h:ah w g (ae p) t):w.cell? ⟨g,3,none⟩=some (UV p.last):=by rw[h.cell,VP]
end
theorem Hp(a b:GP)(hr:a.count+b.count<=60)(w:World):
 aB 177 #[.agg (ae a),.agg (ae b)] w (gd a b):=by
 unfold aB;have hz:=bI;have h0:=tR.start w a b;have E0:Hid (∀w,aB 200 #[.agg (ae a),.agg (ae b)] w (aL a b)):=fun w=>Aw a b hr w;obtain⟨ea,ha⟩:∃e,a.empty=e:=⟨_,rfl⟩;obtain⟨eb,hb⟩:∃e,b.empty=e:=⟨_,rfl⟩;rw[Ot ha hb];have CQ:Hid (∀w,aB 201 #[.agg (ae { aL a b with empty:=ea&&eb,first:=cond ea (a.first|||b.first <<< a.count) a.first,last:=cond eb (b.last <<< a.count|||a.last) (b.last <<< a.count)}),UV a.last,UV (b.first <<< a.count)] w _):=fun w=>p9 _ _ _ w
 have hsh:=Hm b.first a.count;have hsh2:=Hm b.last a.count;have hor1:=p8 a.first (b.first <<< a.count);have hor2:=p8 (b.last <<< a.count) a.last;have YB:a.count<=60:=by omega
 generalize b.first <<< a.count=F at *;generalize b.last <<< a.count=L at *;cases ea <;> cases eb
 ·simp only[cond_true,cond_false,Bool.and_true,Bool.and_false,Bool.true_and,Bool.false_and]at CQ ⊢;generalize dY _ a.last F=P at CQ ⊢;go_enter Tryz.func177,Tryz.ntmps177
  go_wp2_with (first
   | (with_reducible refine ai ?_ (.tmp 2) ?_ w.heap.size ?_ a ?_ ?_
      ·rfl
      ·rfl
      ·rfl
      ·exact h0.b0)
   | (with_reducible refine ai ?_ (.tmp 3) ?_ (w.heap.size+1) ?_ b ?_ ?_
      ·rfl
      ·rfl
      ·rfl
      ·exact h0.b1)
   | (go_at_call 200
      refine(E0.out _).mono ?_;rintro e w1 ⟨rfl,k1⟩;have h1:=h0.kept k1)
   | (with_reducible refine ag ?_ (.tmp 5) (.tmp 9) ?_ w1.heap.size ?_ {} (aL a b) ?_ ?_ ?_
      ·rfl
      ·rfl
      ·rfl
      ·rfl
      ·exact ah.new w1 (ae {}) 158
      intro w5 eY mN QN;have vb:=h1.b2.lt;have h5:=(h1.kept ((Kept.refl [] w1).alloc (.cells (ae {}) 158))).cf mN vb;have YC:=h5.b0.qy;have Ku:=h5.b0.dz;have QO:=h5.b0.dQ;have QP:=h5.b0.dR;have Gt:=h5.b1.dz;have VQ:=h5.b1.dQ;have YD:=h5.b1.dR;rw[ha]at Ku;rw[hb]at Gt;have d1:=eY.dz;have d2:=eY.dQ;have d3:=eY.dR;have f1:=eY.frozen 1;have f2:=eY.frozen 2;have f3:=eY.frozen 3;have hW:Hid (ah _ _ _ _):=(((eY.CN false).CO a.first).CP L);have hO:Hid (ah _ _ _ _):=(((h5.b2.other (b':=w1.heap.size) 1 (.bool false) (by omega)).other (b':=w1.heap.size) 2 (UV a.first) (by omega)).other (b':=w1.heap.size) 3 (UV L) (by omega));have hK:Hid (Kept _ _ _):=(((h5.k.setCell (p:=⟨w1.heap.size,1,none⟩) (Or.inr (by simp;omega)) (.bool false)).setCell (p:=⟨w1.heap.size,2,none⟩) (Or.inr (by simp;omega)) (UV a.first)).setCell (p:=⟨w1.heap.size,3,none⟩) (Or.inr (by simp;omega)) (UV L));clear eY mN h1 hz)
   | (with_reducible refine ai ?_ (.tmp 5) ?_ w1.heap.size ?_ { aL a b with empty:=false,first:=a.first,last:=L} ?_ ?_
      ·rfl
      ·rfl
      ·rfl
      ·exact hW.out)
   | (go_at_call 201
      refine(CQ.out _).mono ?_;rintro e w7 ⟨rfl,k7⟩;have YE:=hO.out.kept k7 (by simp);have YF:=hK.out.trans k7)
   | (with_reducible refine ag ?_ (.tmp 4) (.tmp 52) ?_ (w.heap.size+1+1) ?_ {} P ?_ ?_ ?_
      ·rfl
      ·rfl
      ·rfl
      ·rfl
      ·exact YE
      intro w8 mO mP Ax))
  exact bodyPost_ret (v:=.agg (ae P)) (aS Tryz.results177 _ _ _ P rfl mO) rfl ⟨rfl,YF.cf mP (by omega)⟩
 ·simp only[cond_true,cond_false,Bool.and_true,Bool.and_false,Bool.true_and,Bool.false_and]at CQ ⊢;generalize dY _ a.last F=P at CQ ⊢;go_enter Tryz.func177,Tryz.ntmps177
  go_wp2_with (first
   | (with_reducible refine ai ?_ (.tmp 2) ?_ w.heap.size ?_ a ?_ ?_
      ·rfl
      ·rfl
      ·rfl
      ·exact h0.b0)
   | (with_reducible refine ai ?_ (.tmp 3) ?_ (w.heap.size+1) ?_ b ?_ ?_
      ·rfl
      ·rfl
      ·rfl
      ·exact h0.b1)
   | (go_at_call 200
      refine(E0.out _).mono ?_;rintro e w1 ⟨rfl,k1⟩;have h1:=h0.kept k1)
   | (with_reducible refine ag ?_ (.tmp 5) (.tmp 9) ?_ w1.heap.size ?_ {} (aL a b) ?_ ?_ ?_
      ·rfl
      ·rfl
      ·rfl
      ·rfl
      ·exact ah.new w1 (ae {}) 158
      intro w5 eY mN QN;have vb:=h1.b2.lt;have h5:=(h1.kept ((Kept.refl [] w1).alloc (.cells (ae {}) 158))).cf mN vb;have YC:=h5.b0.qy;have Ku:=h5.b0.dz;have QO:=h5.b0.dQ;have QP:=h5.b0.dR;have Gt:=h5.b1.dz;have VQ:=h5.b1.dQ;have YD:=h5.b1.dR;rw[ha]at Ku;rw[hb]at Gt;have d1:=eY.dz;have d2:=eY.dQ;have d3:=eY.dR;have f1:=eY.frozen 1;have f2:=eY.frozen 2;have f3:=eY.frozen 3;have hW:Hid (ah _ _ _ _):=((((eY.CN false).CO a.first).CP L).CP (L|||a.last))
      have hO:Hid (ah _ _ _ _):=((((h5.b2.other (b':=w1.heap.size) 1 (.bool false) (by omega)).other (b':=w1.heap.size) 2 (UV a.first) (by omega)).other (b':=w1.heap.size) 3 (UV L) (by omega)).other (b':=w1.heap.size) 3 (UV (L|||a.last)) (by omega))
      have hK:Hid (Kept _ _ _):=((((h5.k.setCell (p:=⟨w1.heap.size,1,none⟩) (Or.inr (by simp;omega)) (.bool false)).setCell (p:=⟨w1.heap.size,2,none⟩) (Or.inr (by simp;omega)) (UV a.first)).setCell (p:=⟨w1.heap.size,3,none⟩) (Or.inr (by simp;omega)) (UV L)).setCell (p:=⟨w1.heap.size,3,none⟩) (Or.inr (by simp;omega)) (UV (L|||a.last)))
      clear eY mN h1 hz)
   | (with_reducible refine ai ?_ (.tmp 5) ?_ w1.heap.size ?_ { aL a b with empty:=false,first:=a.first,last:=(L|||a.last)} ?_ ?_
      ·rfl
      ·rfl
      ·rfl
      ·exact hW.out)
   | (go_at_call 201
      refine(CQ.out _).mono ?_;rintro e w7 ⟨rfl,k7⟩;have YE:=hO.out.kept k7 (by simp);have YF:=hK.out.trans k7)
   | (with_reducible refine ag ?_ (.tmp 4) (.tmp 52) ?_ (w.heap.size+1+1) ?_ {} P ?_ ?_ ?_
      ·rfl
      ·rfl
      ·rfl
      ·rfl
      ·exact YE
      intro w8 mO mP Ax))
  exact bodyPost_ret (v:=.agg (ae P)) (aS Tryz.results177 _ _ _ P rfl mO) rfl ⟨rfl,YF.cf mP (by omega)⟩
 ·simp only[cond_true,cond_false,Bool.and_true,Bool.and_false,Bool.true_and,Bool.false_and]at CQ ⊢;generalize dY _ a.last F=P at CQ ⊢;go_enter Tryz.func177,Tryz.ntmps177
  go_wp2_with (first
   | (with_reducible refine ai ?_ (.tmp 2) ?_ w.heap.size ?_ a ?_ ?_
      ·rfl
      ·rfl
      ·rfl
      ·exact h0.b0)
   | (with_reducible refine ai ?_ (.tmp 3) ?_ (w.heap.size+1) ?_ b ?_ ?_
      ·rfl
      ·rfl
      ·rfl
      ·exact h0.b1)
   | (go_at_call 200
      refine(E0.out _).mono ?_;rintro e w1 ⟨rfl,k1⟩;have h1:=h0.kept k1)
   | (with_reducible refine ag ?_ (.tmp 5) (.tmp 9) ?_ w1.heap.size ?_ {} (aL a b) ?_ ?_ ?_
      ·rfl
      ·rfl
      ·rfl
      ·rfl
      ·exact ah.new w1 (ae {}) 158
      intro w5 eY mN QN;have vb:=h1.b2.lt;have h5:=(h1.kept ((Kept.refl [] w1).alloc (.cells (ae {}) 158))).cf mN vb;have YC:=h5.b0.qy;have Ku:=h5.b0.dz;have QO:=h5.b0.dQ;have QP:=h5.b0.dR;have Gt:=h5.b1.dz;have VQ:=h5.b1.dQ;have YD:=h5.b1.dR;rw[ha]at Ku;rw[hb]at Gt;have d1:=eY.dz;have d2:=eY.dQ;have d3:=eY.dR;have f1:=eY.frozen 1;have f2:=eY.frozen 2;have f3:=eY.frozen 3;have hW:Hid (ah _ _ _ _):=((((eY.CN false).CO a.first).CO (a.first|||F)).CP L)
      have hO:Hid (ah _ _ _ _):=((((h5.b2.other (b':=w1.heap.size) 1 (.bool false) (by omega)).other (b':=w1.heap.size) 2 (UV a.first) (by omega)).other (b':=w1.heap.size) 2 (UV (a.first|||F)) (by omega)).other (b':=w1.heap.size) 3 (UV L) (by omega))
      have hK:Hid (Kept _ _ _):=((((h5.k.setCell (p:=⟨w1.heap.size,1,none⟩) (Or.inr (by simp;omega)) (.bool false)).setCell (p:=⟨w1.heap.size,2,none⟩) (Or.inr (by simp;omega)) (UV a.first)).setCell (p:=⟨w1.heap.size,2,none⟩) (Or.inr (by simp;omega)) (UV (a.first|||F))).setCell (p:=⟨w1.heap.size,3,none⟩) (Or.inr (by simp;omega)) (UV L))
      clear eY mN h1 hz)
   | (with_reducible refine ai ?_ (.tmp 5) ?_ w1.heap.size ?_ { aL a b with empty:=false,first:=(a.first|||F),last:=L} ?_ ?_
      ·rfl
      ·rfl
      ·rfl
      ·exact hW.out)
   | (go_at_call 201
      refine(CQ.out _).mono ?_;rintro e w7 ⟨rfl,k7⟩;have YE:=hO.out.kept k7 (by simp);have YF:=hK.out.trans k7)
   | (with_reducible refine ag ?_ (.tmp 4) (.tmp 52) ?_ (w.heap.size+1+1) ?_ {} P ?_ ?_ ?_
      ·rfl
      ·rfl
      ·rfl
      ·rfl
      ·exact YE
      intro w8 mO mP Ax))
  exact bodyPost_ret (v:=.agg (ae P)) (aS Tryz.results177 _ _ _ P rfl mO) rfl ⟨rfl,YF.cf mP (by omega)⟩
 ·simp only[cond_true,cond_false,Bool.and_true,Bool.and_false,Bool.true_and,Bool.false_and]at CQ ⊢;generalize dY _ a.last F=P at CQ ⊢;go_enter Tryz.func177,Tryz.ntmps177
  go_wp2_with (first
   | (with_reducible refine ai ?_ (.tmp 2) ?_ w.heap.size ?_ a ?_ ?_
      ·rfl
      ·rfl
      ·rfl
      ·exact h0.b0)
   | (with_reducible refine ai ?_ (.tmp 3) ?_ (w.heap.size+1) ?_ b ?_ ?_
      ·rfl
      ·rfl
      ·rfl
      ·exact h0.b1)
   | (go_at_call 200
      refine(E0.out _).mono ?_;rintro e w1 ⟨rfl,k1⟩;have h1:=h0.kept k1)
   | (with_reducible refine ag ?_ (.tmp 5) (.tmp 9) ?_ w1.heap.size ?_ {} (aL a b) ?_ ?_ ?_
      ·rfl
      ·rfl
      ·rfl
      ·rfl
      ·exact ah.new w1 (ae {}) 158
      intro w5 eY mN QN;have vb:=h1.b2.lt;have h5:=(h1.kept ((Kept.refl [] w1).alloc (.cells (ae {}) 158))).cf mN vb;have YC:=h5.b0.qy;have Ku:=h5.b0.dz;have QO:=h5.b0.dQ;have QP:=h5.b0.dR;have Gt:=h5.b1.dz;have VQ:=h5.b1.dQ;have YD:=h5.b1.dR;rw[ha]at Ku;rw[hb]at Gt;have d1:=eY.dz;have d2:=eY.dQ;have d3:=eY.dR;have f1:=eY.frozen 1;have f2:=eY.frozen 2;have f3:=eY.frozen 3;have hW:Hid (ah _ _ _ _):=(((((eY.CN true).CO a.first).CO (a.first|||F)).CP L).CP (L|||a.last))
      have hO:Hid (ah _ _ _ _):=(((((h5.b2.other (b':=w1.heap.size) 1 (.bool true) (by omega)).other (b':=w1.heap.size) 2 (UV a.first) (by omega)).other (b':=w1.heap.size) 2 (UV (a.first|||F)) (by omega)).other (b':=w1.heap.size) 3 (UV L) (by omega)).other (b':=w1.heap.size) 3 (UV (L|||a.last)) (by omega))
      have hK:Hid (Kept _ _ _):=(((((h5.k.setCell (p:=⟨w1.heap.size,1,none⟩) (Or.inr (by simp;omega)) (.bool true)).setCell (p:=⟨w1.heap.size,2,none⟩) (Or.inr (by simp;omega)) (UV a.first)).setCell (p:=⟨w1.heap.size,2,none⟩) (Or.inr (by simp;omega)) (UV (a.first|||F))).setCell (p:=⟨w1.heap.size,3,none⟩) (Or.inr (by simp;omega)) (UV L)).setCell (p:=⟨w1.heap.size,3,none⟩) (Or.inr (by simp;omega)) (UV (L|||a.last)))
      clear eY mN h1 hz)
   | (with_reducible refine ai ?_ (.tmp 5) ?_ w1.heap.size ?_ { aL a b with empty:=true,first:=(a.first|||F),last:=(L|||a.last)} ?_ ?_
      ·rfl
      ·rfl
      ·rfl
      ·exact hW.out)
   | (go_at_call 201
      refine(CQ.out _).mono ?_;rintro e w7 ⟨rfl,k7⟩;have YE:=hO.out.kept k7 (by simp);have YF:=hK.out.trans k7)
   | (with_reducible refine ag ?_ (.tmp 4) (.tmp 52) ?_ (w.heap.size+1+1) ?_ {} P ?_ ?_ ?_
      ·rfl
      ·rfl
      ·rfl
      ·rfl
      ·exact YE
      intro w8 mO mP Ax))
  exact bodyPost_ret (v:=.agg (ae P)) (aS Tryz.results177 _ _ _ P rfl mO) rfl ⟨rfl,YF.cf mP (by omega)⟩
theorem Hq{a b:GP}{ea eb:Bool}(ha:a.empty=ea)(hb:b.empty=eb):
 cG a b={aL a b with empty:=ea || eb,first:=a.first|||b.first <<< a.count,last:=a.last|||b.last <<< a.count}:=by
 unfold cG;rw[ha,hb]
theorem Hr(a b:GP)(hr:a.count+b.count<=60)(w:World):
 aB 178 #[.agg (ae a),.agg (ae b)] w (cG a b):=by
 unfold aB;have hz:=bI;have h0:=tR.start w a b;have E0:Hid (∀w,aB 200 #[.agg (ae a),.agg (ae b)] w (aL a b)):=fun w=>Aw a b hr w;obtain⟨ea,ha⟩:∃e,a.empty=e:=⟨_,rfl⟩;obtain⟨eb,hb⟩:∃e,b.empty=e:=⟨_,rfl⟩;rw[Hq ha hb];have hsh:=Hm b.first a.count;have hsh2:=Hm b.last a.count;have hor1:=p8 a.first (b.first <<< a.count);have hor2:=p8 a.last (b.last <<< a.count);have YB:a.count<=60:=by omega
 generalize b.first <<< a.count=F at *;generalize b.last <<< a.count=L at *;cases ea <;> cases eb
 ·simp only[Bool.or_true,Bool.or_false,Bool.true_or,Bool.false_or];go_enter Tryz.func178,Tryz.ntmps178
  go_wp2_with (first
   | (with_reducible refine ai ?_ (.tmp 2) ?_ w.heap.size ?_ a ?_ ?_
      ·rfl
      ·rfl
      ·rfl
      ·exact h0.b0)
   | (with_reducible refine ai ?_ (.tmp 3) ?_ (w.heap.size+1) ?_ b ?_ ?_
      ·rfl
      ·rfl
      ·rfl
      ·exact h0.b1)
   | (go_at_call 200
      refine(E0.out _).mono ?_;rintro e w1 ⟨rfl,k1⟩;have h1:=h0.kept k1)
   | (with_reducible refine ag ?_ (.tmp 5) (.tmp 8) ?_ w1.heap.size ?_ {} (aL a b) ?_ ?_ ?_
      ·rfl
      ·rfl
      ·rfl
      ·rfl
      ·exact ah.new w1 (ae {}) 158
      intro w5 eY mN QN;have vb:=h1.b2.lt;have h5:=(h1.kept ((Kept.refl [] w1).alloc (.cells (ae {}) 158))).cf mN vb;have YC:=h5.b0.qy;have Ku:=h5.b0.dz;have QO:=h5.b0.dQ;have QP:=h5.b0.dR;have Gt:=h5.b1.dz;have VQ:=h5.b1.dQ;have YD:=h5.b1.dR;rw[ha]at Ku;rw[hb]at Gt;have d1:=eY.dz;have d2:=eY.dQ;have d3:=eY.dR;have f1:=eY.frozen 1;have f2:=eY.frozen 2;have f3:=eY.frozen 3;have hW:Hid (ah _ _ _ _):=(((eY.CN false).CO (a.first|||F)).CP (a.last|||L))
      have hO:Hid (ah _ _ _ _):=(((h5.b2.other (b':=w1.heap.size) 1 (.bool false) (by omega)).other (b':=w1.heap.size) 2 (UV (a.first|||F)) (by omega)).other (b':=w1.heap.size) 3 (UV (a.last|||L)) (by omega))
      have hK:Hid (Kept _ _ _):=(((h5.k.setCell (p:=⟨w1.heap.size,1,none⟩) (Or.inr (by simp;omega)) (.bool false)).setCell (p:=⟨w1.heap.size,2,none⟩) (Or.inr (by simp;omega)) (UV (a.first|||F))).setCell (p:=⟨w1.heap.size,3,none⟩) (Or.inr (by simp;omega)) (UV (a.last|||L)))
      clear eY mN h1 hz)
   | (with_reducible refine ai ?_ (.tmp 5) ?_ w1.heap.size ?_ { aL a b with empty:=false,first:=(a.first|||F),last:=(a.last|||L)} ?_ ?_
      ·rfl
      ·rfl
      ·rfl
      ·exact hW.out)
   | (with_reducible refine ag ?_ (.tmp 4) (.tmp 36) ?_ (w.heap.size+1+1) ?_ {} { aL a b with empty:=false,first:=(a.first|||F),last:=(a.last|||L)} ?_ ?_ ?_
      ·rfl
      ·rfl
      ·rfl
      ·rfl
      ·exact hO.out
      intro w8 mO mP Ax))
  exact bodyPost_ret (v:=.agg (ae { aL a b with empty:=false,first:=(a.first|||F),last:=(a.last|||L)})) (aS Tryz.results178 _ _ _ { aL a b with empty:=false,first:=(a.first|||F),last:=(a.last|||L)} rfl mO) rfl ⟨rfl,hK.out.cf mP (by omega)⟩
 ·simp only[Bool.or_true,Bool.or_false,Bool.true_or,Bool.false_or];go_enter Tryz.func178,Tryz.ntmps178
  go_wp2_with (first
   | (with_reducible refine ai ?_ (.tmp 2) ?_ w.heap.size ?_ a ?_ ?_
      ·rfl
      ·rfl
      ·rfl
      ·exact h0.b0)
   | (with_reducible refine ai ?_ (.tmp 3) ?_ (w.heap.size+1) ?_ b ?_ ?_
      ·rfl
      ·rfl
      ·rfl
      ·exact h0.b1)
   | (go_at_call 200
      refine(E0.out _).mono ?_;rintro e w1 ⟨rfl,k1⟩;have h1:=h0.kept k1)
   | (with_reducible refine ag ?_ (.tmp 5) (.tmp 8) ?_ w1.heap.size ?_ {} (aL a b) ?_ ?_ ?_
      ·rfl
      ·rfl
      ·rfl
      ·rfl
      ·exact ah.new w1 (ae {}) 158
      intro w5 eY mN QN;have vb:=h1.b2.lt;have h5:=(h1.kept ((Kept.refl [] w1).alloc (.cells (ae {}) 158))).cf mN vb;have YC:=h5.b0.qy;have Ku:=h5.b0.dz;have QO:=h5.b0.dQ;have QP:=h5.b0.dR;have Gt:=h5.b1.dz;have VQ:=h5.b1.dQ;have YD:=h5.b1.dR;rw[ha]at Ku;rw[hb]at Gt;have d1:=eY.dz;have d2:=eY.dQ;have d3:=eY.dR;have f1:=eY.frozen 1;have f2:=eY.frozen 2;have f3:=eY.frozen 3;have hW:Hid (ah _ _ _ _):=(((eY.CN true).CO (a.first|||F)).CP (a.last|||L))
      have hO:Hid (ah _ _ _ _):=(((h5.b2.other (b':=w1.heap.size) 1 (.bool true) (by omega)).other (b':=w1.heap.size) 2 (UV (a.first|||F)) (by omega)).other (b':=w1.heap.size) 3 (UV (a.last|||L)) (by omega))
      have hK:Hid (Kept _ _ _):=(((h5.k.setCell (p:=⟨w1.heap.size,1,none⟩) (Or.inr (by simp;omega)) (.bool true)).setCell (p:=⟨w1.heap.size,2,none⟩) (Or.inr (by simp;omega)) (UV (a.first|||F))).setCell (p:=⟨w1.heap.size,3,none⟩) (Or.inr (by simp;omega)) (UV (a.last|||L)))
      clear eY mN h1 hz)
   | (with_reducible refine ai ?_ (.tmp 5) ?_ w1.heap.size ?_ { aL a b with empty:=true,first:=(a.first|||F),last:=(a.last|||L)} ?_ ?_
      ·rfl
      ·rfl
      ·rfl
      ·exact hW.out)
   | (with_reducible refine ag ?_ (.tmp 4) (.tmp 36) ?_ (w.heap.size+1+1) ?_ {} { aL a b with empty:=true,first:=(a.first|||F),last:=(a.last|||L)} ?_ ?_ ?_
      ·rfl
      ·rfl
      ·rfl
      ·rfl
      ·exact hO.out
      intro w8 mO mP Ax))
  exact bodyPost_ret (v:=.agg (ae { aL a b with empty:=true,first:=(a.first|||F),last:=(a.last|||L)})) (aS Tryz.results178 _ _ _ { aL a b with empty:=true,first:=(a.first|||F),last:=(a.last|||L)} rfl mO) rfl ⟨rfl,hK.out.cf mP (by omega)⟩
 ·simp only[Bool.or_true,Bool.or_false,Bool.true_or,Bool.false_or];go_enter Tryz.func178,Tryz.ntmps178
  go_wp2_with (first
   | (with_reducible refine ai ?_ (.tmp 2) ?_ w.heap.size ?_ a ?_ ?_
      ·rfl
      ·rfl
      ·rfl
      ·exact h0.b0)
   | (with_reducible refine ai ?_ (.tmp 3) ?_ (w.heap.size+1) ?_ b ?_ ?_
      ·rfl
      ·rfl
      ·rfl
      ·exact h0.b1)
   | (go_at_call 200
      refine(E0.out _).mono ?_;rintro e w1 ⟨rfl,k1⟩;have h1:=h0.kept k1)
   | (with_reducible refine ag ?_ (.tmp 5) (.tmp 8) ?_ w1.heap.size ?_ {} (aL a b) ?_ ?_ ?_
      ·rfl
      ·rfl
      ·rfl
      ·rfl
      ·exact ah.new w1 (ae {}) 158
      intro w5 eY mN QN;have vb:=h1.b2.lt;have h5:=(h1.kept ((Kept.refl [] w1).alloc (.cells (ae {}) 158))).cf mN vb;have YC:=h5.b0.qy;have Ku:=h5.b0.dz;have QO:=h5.b0.dQ;have QP:=h5.b0.dR;have Gt:=h5.b1.dz;have VQ:=h5.b1.dQ;have YD:=h5.b1.dR;rw[ha]at Ku;rw[hb]at Gt;have d1:=eY.dz;have d2:=eY.dQ;have d3:=eY.dR;have f1:=eY.frozen 1;have f2:=eY.frozen 2;have f3:=eY.frozen 3;have hW:Hid (ah _ _ _ _):=(((eY.CN true).CO (a.first|||F)).CP (a.last|||L))
      have hO:Hid (ah _ _ _ _):=(((h5.b2.other (b':=w1.heap.size) 1 (.bool true) (by omega)).other (b':=w1.heap.size) 2 (UV (a.first|||F)) (by omega)).other (b':=w1.heap.size) 3 (UV (a.last|||L)) (by omega))
      have hK:Hid (Kept _ _ _):=(((h5.k.setCell (p:=⟨w1.heap.size,1,none⟩) (Or.inr (by simp;omega)) (.bool true)).setCell (p:=⟨w1.heap.size,2,none⟩) (Or.inr (by simp;omega)) (UV (a.first|||F))).setCell (p:=⟨w1.heap.size,3,none⟩) (Or.inr (by simp;omega)) (UV (a.last|||L)))
      clear eY mN h1 hz)
   | (with_reducible refine ai ?_ (.tmp 5) ?_ w1.heap.size ?_ { aL a b with empty:=true,first:=(a.first|||F),last:=(a.last|||L)} ?_ ?_
      ·rfl
      ·rfl
      ·rfl
      ·exact hW.out)
   | (with_reducible refine ag ?_ (.tmp 4) (.tmp 36) ?_ (w.heap.size+1+1) ?_ {} { aL a b with empty:=true,first:=(a.first|||F),last:=(a.last|||L)} ?_ ?_ ?_
      ·rfl
      ·rfl
      ·rfl
      ·rfl
      ·exact hO.out
      intro w8 mO mP Ax))
  exact bodyPost_ret (v:=.agg (ae { aL a b with empty:=true,first:=(a.first|||F),last:=(a.last|||L)})) (aS Tryz.results178 _ _ _ { aL a b with empty:=true,first:=(a.first|||F),last:=(a.last|||L)} rfl mO) rfl ⟨rfl,hK.out.cf mP (by omega)⟩
 ·simp only[Bool.or_true,Bool.or_false,Bool.true_or,Bool.false_or];go_enter Tryz.func178,Tryz.ntmps178
  go_wp2_with (first
   | (with_reducible refine ai ?_ (.tmp 2) ?_ w.heap.size ?_ a ?_ ?_
      ·rfl
      ·rfl
      ·rfl
      ·exact h0.b0)
   | (with_reducible refine ai ?_ (.tmp 3) ?_ (w.heap.size+1) ?_ b ?_ ?_
      ·rfl
      ·rfl
      ·rfl
      ·exact h0.b1)
   | (go_at_call 200
      refine(E0.out _).mono ?_;rintro e w1 ⟨rfl,k1⟩;have h1:=h0.kept k1)
   | (with_reducible refine ag ?_ (.tmp 5) (.tmp 8) ?_ w1.heap.size ?_ {} (aL a b) ?_ ?_ ?_
      ·rfl
      ·rfl
      ·rfl
      ·rfl
      ·exact ah.new w1 (ae {}) 158
      intro w5 eY mN QN;have vb:=h1.b2.lt;have h5:=(h1.kept ((Kept.refl [] w1).alloc (.cells (ae {}) 158))).cf mN vb;have YC:=h5.b0.qy;have Ku:=h5.b0.dz;have QO:=h5.b0.dQ;have QP:=h5.b0.dR;have Gt:=h5.b1.dz;have VQ:=h5.b1.dQ;have YD:=h5.b1.dR;rw[ha]at Ku;rw[hb]at Gt;have d1:=eY.dz;have d2:=eY.dQ;have d3:=eY.dR;have f1:=eY.frozen 1;have f2:=eY.frozen 2;have f3:=eY.frozen 3;have hW:Hid (ah _ _ _ _):=(((eY.CN true).CO (a.first|||F)).CP (a.last|||L))
      have hO:Hid (ah _ _ _ _):=(((h5.b2.other (b':=w1.heap.size) 1 (.bool true) (by omega)).other (b':=w1.heap.size) 2 (UV (a.first|||F)) (by omega)).other (b':=w1.heap.size) 3 (UV (a.last|||L)) (by omega))
      have hK:Hid (Kept _ _ _):=(((h5.k.setCell (p:=⟨w1.heap.size,1,none⟩) (Or.inr (by simp;omega)) (.bool true)).setCell (p:=⟨w1.heap.size,2,none⟩) (Or.inr (by simp;omega)) (UV (a.first|||F))).setCell (p:=⟨w1.heap.size,3,none⟩) (Or.inr (by simp;omega)) (UV (a.last|||L)))
      clear eY mN h1 hz)
   | (with_reducible refine ai ?_ (.tmp 5) ?_ w1.heap.size ?_ { aL a b with empty:=true,first:=(a.first|||F),last:=(a.last|||L)} ?_ ?_
      ·rfl
      ·rfl
      ·rfl
      ·exact hW.out)
   | (with_reducible refine ag ?_ (.tmp 4) (.tmp 36) ?_ (w.heap.size+1+1) ?_ {} { aL a b with empty:=true,first:=(a.first|||F),last:=(a.last|||L)} ?_ ?_ ?_
      ·rfl
      ·rfl
      ·rfl
      ·rfl
      ·exact hO.out
      intro w8 mO mP Ax))
  exact bodyPost_ret (v:=.agg (ae { aL a b with empty:=true,first:=(a.first|||F),last:=(a.last|||L)})) (aS Tryz.results178 _ _ _ { aL a b with empty:=true,first:=(a.first|||F),last:=(a.last|||L)} rfl mO) rfl ⟨rfl,hK.out.cf mP (by omega)⟩
structure dS (w0 w:World)(a c:GP):Prop where
 b0:ah w w0.heap.size (ae a) 158
 b1:ah w (w0.heap.size+1) (ae {}) 158
 b2:ah w (w0.heap.size+1+1) (ae c) 158
 k:Kept [] w0 w
section
variable {w0 w w':World}{a c c':GP}
theorem dS.kept(h:dS w0 w a c)(k:Kept [] w w'):dS w0 w' a c:=
 ⟨h.b0.kept k (by simp),h.b1.kept k (by simp),h.b2.kept k (by simp),h.k.trans k⟩
theorem dS.cf{g:Nat}(h:dS w0 w a c)(k:Kept [g] w w')(hg:w0.heap.size+1+1<g):dS w0 w' a c:=
 ⟨h.b0.kept k (by simp;omega),h.b1.kept k (by simp;omega),h.b2.kept k (by simp;omega),h.k.cf k (by omega)⟩
theorem dS.other{g:Nat}(h:dS w0 w a c)(hg:w0.heap.size+1+1<g)(j:Nat)(u:Value):dS w0 (w.setCell ⟨g,j,none⟩ u) a c:=
 ⟨h.b0.other _ _ (by omega),h.b1.other _ _ (by omega),h.b2.other _ _ (by omega),h.k.setCell (Or.inr (by simp;omega)) _⟩
theorem dS.next(h:dS w0 w a c)(k:Kept [w0.heap.size+1+1] w w')(hb:ah w' (w0.heap.size+1+1) (ae c') 158):dS w0 w' a c':=
 ⟨h.b0.kept k (by simp;omega),h.b1.kept k (by simp),hb,h.k.cf k (by omega)⟩
theorem dS.new(h:dS w0 w a c)(cs:Array Value)(t:TypeId)(h2:ah w' w.heap.size cs t)(k:Kept [w.heap.size] (w.alloc (.cells (ae {}) 158)) w'):dS w0 w' a c:=by
 have:=h.b2.lt;exact(h.kept ((Kept.refl _ _).alloc _)).cf k this
end
theorem Dw(a:GP){e:Bool}{l t k:Nat}(h1:¬(e=true/\k=t))(h2:¬l<k):pZ a e l t k=a:=by
 unfold pZ;simp only[];rw[if_neg h2,if_neg h1]
theorem RE(a:GP){e:Bool}{l t k:Nat}(h1:¬(e=true/\k=t))(h2:l<k):pZ a e l t k=rA a:=by
 unfold pZ;simp only[];rw[if_pos h2,if_neg h1]
theorem RF(a:GP){e:Bool}{l t k:Nat}(h1:e=true/\k=t)(h2:¬l<k):pZ a e l t k=js a:=by
 unfold pZ;simp only[];rw[if_neg h2,if_pos h1]
theorem RI(a:GP){e:Bool}{l t k:Nat}(h1:e=true/\k=t)(h2:l<k):pZ a e l t k=rA (js a):=by
 unfold pZ;simp only[];rw[if_pos h2,if_pos h1]
theorem xy(a:GP)(ha:a.Fit)(e:Bool)(l t k:Nat)(hr:(k+1)*a.count<=60)(w:World):
 aB 177 #[.agg (ae (aJ a e l t k)),.agg (ae (pZ a e l t (k+1)))] w (aJ a e l t (k+1)):=by
 rw[Nat.add_one_mul]at hr;obtain⟨_,h2⟩:=iU ha e l t k (by omega);obtain⟨_,h4⟩:=vu ha e l t (k+1);exact Hp _ _ (by rw[h2,h4];exact hr) w
theorem CR(a:GP)(ha:a.Fit)(l t:Nat)(hl:l<=1000)(ht:t<=1000)(hr:t*a.count<=60)(w:World):
 aB 179 #[.agg (ae a),.int .i64 (l:Int),.int .i64 (t:Int)] w (aJ a false l t t):=by
 unfold aB;have hz:=bI;have CQ:Hid (∀w,aB 201 #[.agg (ae a),UV a.last,UV a.first] w (js a)):=fun w=>p9 a a.last a.first w;have rG:Hid (∀w1,ah w1 (w.heap.size+1+1) (ae cO) 158->Kept [w.heap.size+1+1] (((w.alloc (.cells (ae a) 158)).alloc (.cells (ae {}) 158)).alloc (.cells (ae {}) 158)) w1->dS w w1 a cO):=fun w1 hb hk=>
  ⟨(((ah.new w _ _).alloc _).alloc _).kept hk (by simp;omega),((ah.oy w _ _ _).alloc _).kept hk (by simp),hb,((((Kept.refl _ _).alloc _).alloc _).alloc _).cf hk (by omega)⟩
 go_enter Tryz.func179,Tryz.ntmps179
 go_wp2_with (first
  | (refine cH rfl rfl ?_)
  | (with_reducible refine ag ?_ (.tmp 8) (.tmp 17) ?_ (w.heap.size+1+1) ?_ {} cO ?_ ?_ ?_
     ·rfl
     ·rfl
     ·rfl
     ·rfl
     ·exact ah.EZ w (.cells (ae a) 158) (.cells (ae {}) 158) (ae {}) 158
     intro w1 ck nL qz;have dy:=rG.out w1 ck nL;clear ck nL qz))
 go_loopw [9] (fun iv wr=>∃k:Nat,iv=.int .i64 ((k:Int)+1)/\k<=t/\dS w wr a (aJ a false l t k)) (fun iv _=>((t:Int)+1-intOf iv).toNat)
 case atStart=>exact⟨0,rfl,Nat.zero_le _,dy⟩
 case round=>
  obtain⟨k,rfl,hkT,hIn⟩:=hrel;clear dy rG;have lN:=hIn.b2.lt;by_cases bO:(k:Int)<(t:Int)
  ·have xv:k<t:=by omega
   have Cw:Hid (∀w,aB _ _ w _):=fun w=>xy a ha false l t k (Nat.le_trans (Nat.mul_le_mul_right _ xv) hr) w;by_cases vj:(l:Int)<(k:Int)+1
   ·rw[RE a (by first | exact(fun hc=>absurd hc.1 (by decide)) | exact⟨rfl,by omega⟩ | exact(fun hc=>by have:=hc.2;omega)) (by omega)]at Cw;go_wp2_with (first
     | (with_reducible refine ai ?_ (.tmp 3) ?_ w.heap.size ?_ a ?_ ?_
        ·rfl
        ·rfl
        ·rfl
        ·exact hIn.b0)
     | (with_reducible refine ag ?_ (.tmp 10) (.tmp 23) ?_ wr.heap.size ?_ {} a ?_ ?_ ?_
        ·rfl
        ·rfl
        ·rfl
        ·rfl
        ·exact ah.new wr (ae {}) 158
        intro w1 ck nL qz;have h1:=hIn.new _ _ ck nL;have QO:=h1.b0.dQ;have QP:=h1.b0.dR;have d1:=ck.dz;have f1:=ck.frozen 1;have hW:Hid (ah _ _ _ _):=ck.CN true;have hR:Hid (dS _ _ _ _):=h1.other lN 1 (.bool true);clear nL)
     | (with_reducible refine ai ?_ (.tmp 8) ?_ (w.heap.size+1+1) ?_ (aJ a false l t k) ?_ ?_
        ·rfl
        ·rfl
        ·rfl
        ·exact hR.out.b2)
     | (with_reducible refine ai ?_ (.tmp 10) ?_ wr.heap.size ?_ (rA a) ?_ ?_
        ·rfl
        ·rfl
        ·rfl
        ·exact hW.out)
     | (go_at_call 177
        refine(Cw.out _).mono ?_;rintro e w6 ⟨rfl,k6⟩;have h6:=hR.out.kept k6)
     | (with_reducible refine ag ?_ (.tmp 8) (.tmp 43) ?_ (w.heap.size+1+1) ?_ (aJ a false l t k) (aJ a false l t (k+1)) ?_ ?_ ?_
        ·rfl
        ·rfl
        ·rfl
        ·rfl
        ·exact h6.b2
        intro w7 VR Vf hs7;have h7:Hid (dS _ _ _ _):=h6.next Vf VR))
    refine⟨⟨k+1,by go_num,by omega,h7.out⟩,?_⟩;simp only[intOf];omega
   ·rw[Dw a (by first | exact(fun hc=>absurd hc.1 (by decide)) | exact⟨rfl,by omega⟩ | exact(fun hc=>by have:=hc.2;omega)) (by omega)]at Cw;go_wp2_with (first
     | (with_reducible refine ai ?_ (.tmp 3) ?_ w.heap.size ?_ a ?_ ?_
        ·rfl
        ·rfl
        ·rfl
        ·exact hIn.b0)
     | (with_reducible refine ag ?_ (.tmp 10) (.tmp 23) ?_ wr.heap.size ?_ {} a ?_ ?_ ?_
        ·rfl
        ·rfl
        ·rfl
        ·rfl
        ·exact ah.new wr (ae {}) 158
        intro w1 ck nL qz;have h1:=hIn.new _ _ ck nL;have QO:=h1.b0.dQ;have QP:=h1.b0.dR;have d1:=ck.dz;have f1:=ck.frozen 1;have hW:Hid (ah _ _ _ _):=ck;have hR:Hid (dS _ _ _ _):=h1;clear nL)
     | (with_reducible refine ai ?_ (.tmp 8) ?_ (w.heap.size+1+1) ?_ (aJ a false l t k) ?_ ?_
        ·rfl
        ·rfl
        ·rfl
        ·exact hR.out.b2)
     | (with_reducible refine ai ?_ (.tmp 10) ?_ wr.heap.size ?_ a ?_ ?_
        ·rfl
        ·rfl
        ·rfl
        ·exact hW.out)
     | (go_at_call 177
        refine(Cw.out _).mono ?_;rintro e w6 ⟨rfl,k6⟩;have h6:=hR.out.kept k6)
     | (with_reducible refine ag ?_ (.tmp 8) (.tmp 43) ?_ (w.heap.size+1+1) ?_ (aJ a false l t k) (aJ a false l t (k+1)) ?_ ?_ ?_
        ·rfl
        ·rfl
        ·rfl
        ·rfl
        ·exact h6.b2
        intro w7 VR Vf hs7;have h7:Hid (dS _ _ _ _):=h6.next Vf VR))
    refine⟨⟨k+1,by go_num,by omega,h7.out⟩,?_⟩;simp only[intOf];omega
  ·have JI:t=k:=by omega
   subst JI;go_wp2_with (first
    | (with_reducible refine ai ?_ (.tmp 8) ?_ (w.heap.size+1+1) ?_ (aJ a false l t t) ?_ ?_
       ·rfl
       ·rfl
       ·rfl
       ·exact hIn.b2)
    | (with_reducible refine ag ?_ (.tmp 6) (.tmp 44) ?_ (w.heap.size+1) ?_ {} (aJ a false l t t) ?_ ?_ ?_
       ·rfl
       ·rfl
       ·rfl
       ·rfl
       ·exact hIn.b1
       intro w8 mO mP Ax))
   exact bodyPost_ret (v:=.agg (ae (aJ a false l t t))) (aS Tryz.results179 _ _ _ (aJ a false l t t) rfl mO) rfl ⟨rfl,hIn.k.cf mP (by omega)⟩
theorem CS(a:GP)(ha:a.Fit)(l:Nat)(hl1:1<=l)(hl:l<=1000)(hr:l*a.count<=60)(w:World):
 aB 179 #[.agg (ae a),.int .i64 (l:Int),.int .i64 (-1)] w (aJ a true l l l):=by
 unfold aB;have hz:=bI;have CQ:Hid (∀w,aB 201 #[.agg (ae a),UV a.last,UV a.first] w (js a)):=fun w=>p9 a a.last a.first w;have rG:Hid (∀w1,ah w1 (w.heap.size+1+1) (ae cO) 158->Kept [w.heap.size+1+1] (((w.alloc (.cells (ae a) 158)).alloc (.cells (ae {}) 158)).alloc (.cells (ae {}) 158)) w1->dS w w1 a cO):=fun w1 hb hk=>
  ⟨(((ah.new w _ _).alloc _).alloc _).kept hk (by simp;omega),((ah.oy w _ _ _).alloc _).kept hk (by simp),hb,((((Kept.refl _ _).alloc _).alloc _).alloc _).cf hk (by omega)⟩
 go_enter Tryz.func179,Tryz.ntmps179
 go_wp2_with (first
  | (refine cH rfl rfl ?_)
  | (with_reducible refine ag ?_ (.tmp 8) (.tmp 17) ?_ (w.heap.size+1+1) ?_ {} cO ?_ ?_ ?_
     ·rfl
     ·rfl
     ·rfl
     ·rfl
     ·exact ah.EZ w (.cells (ae a) 158) (.cells (ae {}) 158) (ae {}) 158
     intro w1 ck nL qz;have dy:=rG.out w1 ck nL;clear ck nL qz))
 go_loopw [9] (fun iv wr=>∃k:Nat,iv=.int .i64 ((k:Int)+1)/\k<=l/\dS w wr a (aJ a true l l k)) (fun iv _=>((l:Int)+1-intOf iv).toNat)
 case atStart=>exact⟨0,rfl,Nat.zero_le _,dy⟩
 case round=>
  obtain⟨k,rfl,hkT,hIn⟩:=hrel;clear dy rG;have lN:=hIn.b2.lt;by_cases bO:(k:Int)<(l:Int)
  ·have xv:k<l:=by omega
   have Cw:Hid (∀w,aB _ _ w _):=fun w=>xy a ha true l l k (Nat.le_trans (Nat.mul_le_mul_right _ xv) hr) w;by_cases vj:k+1=l
   ·rw[RF a (by first | exact(fun hc=>absurd hc.1 (by decide)) | exact⟨rfl,by omega⟩ | exact(fun hc=>by have:=hc.2;omega)) (by omega)]at Cw;have hcI:(k:Int)+1=(l:Int):=by omega
    clear vj;go_wp2_with (first
     | (with_reducible refine ai ?_ (.tmp 3) ?_ w.heap.size ?_ a ?_ ?_
        ·rfl
        ·rfl
        ·rfl
        ·exact hIn.b0)
     | (with_reducible refine ag ?_ (.tmp 10) (.tmp 23) ?_ wr.heap.size ?_ {} a ?_ ?_ ?_
        ·rfl
        ·rfl
        ·rfl
        ·rfl
        ·exact ah.new wr (ae {}) 158
        intro w1 ck nL qz;have h1:=hIn.new _ _ ck nL;have QO:=h1.b0.dQ;have QP:=h1.b0.dR;have d1:=ck.dz;have f1:=ck.frozen 1;clear nL)
     | (with_reducible refine ai ?_ (.tmp 10) ?_ wr.heap.size ?_ a ?_ ?_
        ·rfl
        ·rfl
        ·rfl
        ·exact ck)
     | (go_at_call 201
        refine(CQ.out _).mono ?_;rintro e w2 ⟨rfl,k2⟩;have h2:=h1.kept k2;have jm:=ck.kept k2 (by simp))
     | (with_reducible refine ag ?_ (.tmp 10) (.tmp 36) ?_ wr.heap.size ?_ a (js a) ?_ ?_ ?_
        ·rfl
        ·rfl
        ·rfl
        ·rfl
        ·exact jm
        intro w3 pS Dx Rf;have h3:=h2.cf Dx lN;have e1:=pS.dz;have g1:=pS.frozen 1;have hW:Hid (ah _ _ _ _):=pS;have hR:Hid (dS _ _ _ _):=h3;clear Dx)
     | (with_reducible refine ai ?_ (.tmp 8) ?_ (w.heap.size+1+1) ?_ (aJ a true l l k) ?_ ?_
        ·rfl
        ·rfl
        ·rfl
        ·exact hR.out.b2)
     | (with_reducible refine ai ?_ (.tmp 10) ?_ wr.heap.size ?_ (js a) ?_ ?_
        ·rfl
        ·rfl
        ·rfl
        ·exact hW.out)
     | (go_at_call 177
        refine(Cw.out _).mono ?_;rintro e w6 ⟨rfl,k6⟩;have h6:=hR.out.kept k6)
     | (with_reducible refine ag ?_ (.tmp 8) (.tmp 43) ?_ (w.heap.size+1+1) ?_ (aJ a true l l k) (aJ a true l l (k+1)) ?_ ?_ ?_
        ·rfl
        ·rfl
        ·rfl
        ·rfl
        ·exact h6.b2
        intro w7 VR Vf hs7;have h7:Hid (dS _ _ _ _):=h6.next Vf VR))
    refine⟨⟨k+1,by go_num,by omega,h7.out⟩,?_⟩;simp only[intOf];omega
   ·rw[Dw a (by first | exact(fun hc=>absurd hc.1 (by decide)) | exact⟨rfl,by omega⟩ | exact(fun hc=>by have:=hc.2;omega)) (by omega)]at Cw;have hcI:(k:Int)+1≠(l:Int):=by omega
    clear vj;go_wp2_with (first
     | (with_reducible refine ai ?_ (.tmp 3) ?_ w.heap.size ?_ a ?_ ?_
        ·rfl
        ·rfl
        ·rfl
        ·exact hIn.b0)
     | (with_reducible refine ag ?_ (.tmp 10) (.tmp 23) ?_ wr.heap.size ?_ {} a ?_ ?_ ?_
        ·rfl
        ·rfl
        ·rfl
        ·rfl
        ·exact ah.new wr (ae {}) 158
        intro w1 ck nL qz;have h1:=hIn.new _ _ ck nL;have QO:=h1.b0.dQ;have QP:=h1.b0.dR;have d1:=ck.dz;have f1:=ck.frozen 1;have hW:Hid (ah _ _ _ _):=ck;have hR:Hid (dS _ _ _ _):=h1;clear nL)
     | (with_reducible refine ai ?_ (.tmp 8) ?_ (w.heap.size+1+1) ?_ (aJ a true l l k) ?_ ?_
        ·rfl
        ·rfl
        ·rfl
        ·exact hR.out.b2)
     | (with_reducible refine ai ?_ (.tmp 10) ?_ wr.heap.size ?_ a ?_ ?_
        ·rfl
        ·rfl
        ·rfl
        ·exact hW.out)
     | (go_at_call 177
        refine(Cw.out _).mono ?_;rintro e w6 ⟨rfl,k6⟩;have h6:=hR.out.kept k6)
     | (with_reducible refine ag ?_ (.tmp 8) (.tmp 43) ?_ (w.heap.size+1+1) ?_ (aJ a true l l k) (aJ a true l l (k+1)) ?_ ?_ ?_
        ·rfl
        ·rfl
        ·rfl
        ·rfl
        ·exact h6.b2
        intro w7 VR Vf hs7;have h7:Hid (dS _ _ _ _):=h6.next Vf VR))
    refine⟨⟨k+1,by go_num,by omega,h7.out⟩,?_⟩;simp only[intOf];omega
  ·have JI:l=k:=by omega
   subst JI;go_wp2_with (first
    | (with_reducible refine ai ?_ (.tmp 8) ?_ (w.heap.size+1+1) ?_ (aJ a true l l l) ?_ ?_
       ·rfl
       ·rfl
       ·rfl
       ·exact hIn.b2)
    | (with_reducible refine ag ?_ (.tmp 6) (.tmp 44) ?_ (w.heap.size+1) ?_ {} (aJ a true l l l) ?_ ?_ ?_
       ·rfl
       ·rfl
       ·rfl
       ·rfl
       ·exact hIn.b1
       intro w8 mO mP Ax))
   exact bodyPost_ret (v:=.agg (ae (aJ a true l l l))) (aS Tryz.results179 _ _ _ (aJ a true l l l) rfl mO) rfl ⟨rfl,hIn.k.cf mP (by omega)⟩
theorem CT(a:GP)(ha:a.Fit)(hr:1*a.count<=60)(w:World):
 aB 179 #[.agg (ae a),.int .i64 0,.int .i64 (-1)] w (aJ a true 0 1 1):=by
 unfold aB;have hz:=bI;have CQ:Hid (∀w,aB 201 #[.agg (ae a),UV a.last,UV a.first] w (js a)):=fun w=>p9 a a.last a.first w;have rG:Hid (∀w1,ah w1 (w.heap.size+1+1) (ae cO) 158->Kept [w.heap.size+1+1] (((w.alloc (.cells (ae a) 158)).alloc (.cells (ae {}) 158)).alloc (.cells (ae {}) 158)) w1->dS w w1 a cO):=fun w1 hb hk=>
  ⟨(((ah.new w _ _).alloc _).alloc _).kept hk (by simp;omega),((ah.oy w _ _ _).alloc _).kept hk (by simp),hb,((((Kept.refl _ _).alloc _).alloc _).alloc _).cf hk (by omega)⟩
 go_enter Tryz.func179,Tryz.ntmps179
 go_wp2_with (first
  | (refine cH rfl rfl ?_)
  | (with_reducible refine ag ?_ (.tmp 8) (.tmp 17) ?_ (w.heap.size+1+1) ?_ {} cO ?_ ?_ ?_
     ·rfl
     ·rfl
     ·rfl
     ·rfl
     ·exact ah.EZ w (.cells (ae a) 158) (.cells (ae {}) 158) (ae {}) 158
     intro w1 ck nL qz;have dy:=rG.out w1 ck nL;clear ck nL qz))
 go_loopw [9] (fun iv wr=>∃k:Nat,iv=.int .i64 ((k:Int)+1)/\k<=1/\dS w wr a (aJ a true 0 1 k)) (fun iv _=>((1:Int)+1-intOf iv).toNat)
 case atStart=>exact⟨0,rfl,Nat.zero_le _,dy⟩
 case round=>
  obtain⟨k,rfl,hkT,hIn⟩:=hrel;clear dy rG;have lN:=hIn.b2.lt;by_cases bO:(k:Int)<(1:Int)
  ·have xv:k<1:=by omega
   have Cw:Hid (∀w,aB _ _ w _):=fun w=>xy a ha true 0 1 k (Nat.le_trans (Nat.mul_le_mul_right _ xv) hr) w;rw[RI a (by first | exact(fun hc=>absurd hc.1 (by decide)) | omega | exact⟨rfl,by omega⟩ | exact(fun hc=>by omega)) (by omega)]at Cw;go_wp2_with (first
    | (with_reducible refine ai ?_ (.tmp 3) ?_ w.heap.size ?_ a ?_ ?_
       ·rfl
       ·rfl
       ·rfl
       ·exact hIn.b0)
    | (with_reducible refine ag ?_ (.tmp 10) (.tmp 23) ?_ wr.heap.size ?_ {} a ?_ ?_ ?_
       ·rfl
       ·rfl
       ·rfl
       ·rfl
       ·exact ah.new wr (ae {}) 158
       intro w1 ck nL qz;have h1:=hIn.new _ _ ck nL;have QO:=h1.b0.dQ;have QP:=h1.b0.dR;have d1:=ck.dz;have f1:=ck.frozen 1;clear nL)
    | (with_reducible refine ai ?_ (.tmp 10) ?_ wr.heap.size ?_ a ?_ ?_
       ·rfl
       ·rfl
       ·rfl
       ·exact ck)
    | (go_at_call 201
       refine(CQ.out _).mono ?_;rintro e w2 ⟨rfl,k2⟩;have h2:=h1.kept k2;have jm:=ck.kept k2 (by simp))
    | (with_reducible refine ag ?_ (.tmp 10) (.tmp 36) ?_ wr.heap.size ?_ a (js a) ?_ ?_ ?_
       ·rfl
       ·rfl
       ·rfl
       ·rfl
       ·exact jm
       intro w3 pS Dx Rf;have h3:=h2.cf Dx lN;have e1:=pS.dz;have g1:=pS.frozen 1;have hW:Hid (ah _ _ _ _):=pS.CN true;have hR:Hid (dS _ _ _ _):=h3.other lN 1 (.bool true);clear Dx)
    | (with_reducible refine ai ?_ (.tmp 8) ?_ (w.heap.size+1+1) ?_ (aJ a true 0 1 k) ?_ ?_
       ·rfl
       ·rfl
       ·rfl
       ·exact hR.out.b2)
    | (with_reducible refine ai ?_ (.tmp 10) ?_ wr.heap.size ?_ (rA (js a)) ?_ ?_
       ·rfl
       ·rfl
       ·rfl
       ·exact hW.out)
    | (go_at_call 177
       refine(Cw.out _).mono ?_;rintro e w6 ⟨rfl,k6⟩;have h6:=hR.out.kept k6)
    | (with_reducible refine ag ?_ (.tmp 8) (.tmp 43) ?_ (w.heap.size+1+1) ?_ (aJ a true 0 1 k) (aJ a true 0 1 (k+1)) ?_ ?_ ?_
       ·rfl
       ·rfl
       ·rfl
       ·rfl
       ·exact h6.b2
       intro w7 VR Vf hs7;have h7:Hid (dS _ _ _ _):=h6.next Vf VR))
   refine⟨⟨k+1,by go_num,by omega,h7.out⟩,?_⟩;simp only[intOf];omega
  ·have JI:1=k:=by omega
   subst JI;go_wp2_with (first
    | (with_reducible refine ai ?_ (.tmp 8) ?_ (w.heap.size+1+1) ?_ (aJ a true 0 1 1) ?_ ?_
       ·rfl
       ·rfl
       ·rfl
       ·exact hIn.b2)
    | (with_reducible refine ag ?_ (.tmp 6) (.tmp 44) ?_ (w.heap.size+1) ?_ {} (aJ a true 0 1 1) ?_ ?_ ?_
       ·rfl
       ·rfl
       ·rfl
       ·rfl
       ·exact hIn.b1
       intro w8 mO mP Ax))
   exact bodyPost_ret (v:=.agg (ae (aJ a true 0 1 1))) (aS Tryz.results179 _ _ _ (aJ a true 0 1 1) rfl mO) rfl ⟨rfl,hIn.k.cf mP (by omega)⟩
def dw(ps:List GP):List Value:=(ps.map fun p=>(ae p).toList).flatten
theorem zj(ps:List GP)(p:GP):dw (ps++[p])=dw ps++(ae p).toList:=by simp[dw]
theorem rH:∀(ps:List GP) (i j:Nat) (p:GP),ps[i]?=some p->j<124->(dw ps)[i*124+j]?=(ae p)[j]?
 | [],i,j,p,h,_=>by simp at h
 | q :: ps,0,j,p,h,hj=>by
   simp at h;subst h;have e:dw (q :: ps)=(ae q).toList++dw ps:=by simp[dw]
   rw[e,Nat.zero_mul,Nat.zero_add,List.getElem?_append_left (by simpa using hj)];simp
 | q :: ps,i+1,j,p,h,hj=>by
   simp at h;have e:dw (q :: ps)=(ae q).toList++dw ps:=by simp[dw]
   rw[e,List.getElem?_append_right (by simp;omega)];have e2:(i+1)*124+j-(ae q).toList.length=i*124+j:=by simp;omega
   rw[e2];exact rH ps i j p h hj
def aM(w:World)(B:Nat)(v:Value)(ps:List GP):Prop:=w.ownsRow B 158 124 v ps.length (dw ps)
theorem aM.range{w:World}{B g cap:Nat}{ps:List GP}(h:aM w B (.slice (some ⟨g,0,none⟩) ps.length cap) ps){i:Nat}{p:GP}(hp:ps[i]?=some p):w.rangeAt g (i*124) (ae p).toList:=fun j v hv=>by
 have hj:j<124:=by have:=(List.getElem?_eq_some_iff.1 hv).1;simpa using this
 have h1:=World.ownsRow.cells h (g:=g) rfl (i*124+j) v (by rw[rH ps i j p hp hj,<-hv,Array.getElem?_toList]);rwa [show(⟨g,0,none⟩:Addr).add (i*124+j)=⟨g,i*124+j,none⟩ by simp[Addr.add];omega]at h1
theorem rI{ops:Array Oper}{rest:List Oper}{o:Oper}{a:Act}{w:World}{Q:Exit->Act->World->Prop}(pR:o.guard=none)(x:Operand)(ho:o.op=.load 158 x)
 (g off:Nat) (hx:a.eval x=.pointer (some ⟨g,off,none⟩)) (p:GP) (hg:w.rangeAt g off (ae p).toList)
 (h:wpList Tryz.prog ops Q rest (a.put o.dst (.agg (ae p))) w):wpList Tryz.prog ops Q (o :: rest) a w:=
 wpList_load_mid pR _ x ho g off hx (ae p).toList _ hg Tryz.underlying158 rfl (by simpa using sT) (by simpa using h)
def aK(ps:List GP)(i:Int):GP:=if 0<=i then (ps[i.toNat]?).getD cO else cO
theorem ff(ps:List GP)(B:Nat)(v:Value)(i:Int)(w:World)(h:aM w B v ps)(hl:ps.length<=1000)(hi:-1000<=i)(CI:i<=1000):
 aB 176 #[v,.int .i64 i] w (aK ps i):=by
 unfold aB;have hz:=bI;by_cases hr:0<=i/\i<(ps.length:Int)
 ·obtain⟨hr1,YG⟩:=hr;obtain⟨k,rfl⟩:∃k:Nat,i=(k:Int):=⟨i.toNat,by omega⟩;have hk:k<ps.length:=by omega
  obtain⟨p,hp⟩:∃p,ps[k]?=some p:=⟨_,List.getElem?_eq_getElem hk⟩;obtain⟨g,cap,rfl⟩:=aO h (by omega);have e:aK ps (k:Int)=p:=by unfold aK;rw[if_pos (by omega),Int.toNat_natCast,hp];rfl
  rw[e];have RJ:=h.range hp;have hrg2:=World.rangeAt_alloc RJ (.cells (ae {}) 158);clear h e hp RJ hr1;have YG:(k:Int)<(ps.length:Int):=YG;go_enter Tryz.func176,Tryz.ntmps176
  go_wp2_with (first
   | (with_reducible refine rI ?_ (.tmp 16) ?_ g (k*124) ?_ p ?_ ?_
      ·rfl
      ·rfl
      ·first | rfl | (simp[Act.eval])
      ·exact hrg2)
   | (with_reducible refine ag ?_ (.tmp 4) (.tmp 17) ?_ w.heap.size ?_ {} p ?_ ?_ ?_
      ·rfl
      ·rfl
      ·rfl
      ·rfl
      ·exact ah.new w (ae {}) 158
      intro w8 mO mP Ax))
  exact bodyPost_ret (v:=.agg (ae p)) (aS Tryz.results176 _ _ _ p rfl mO) rfl ⟨rfl,((Kept.refl [] w).alloc _).cf mP (by omega)⟩
 ·have e:aK ps i=cO:=by
   unfold aK;split
   ·rw[List.getElem?_eq_none (by omega)];rfl
   ·rfl
  rw[e];clear e;obtain⟨a,cap,rfl⟩:∃a cap,v=.slice a ps.length cap:=by
   rcases h.2 with⟨h1,h2⟩|⟨g,cap,_,h1,_⟩
   ·exact⟨none,0,by rw[h1,h2]⟩
   ·exact⟨_,cap,h1⟩
  by_cases Hs:i<0
  ·go_enter Tryz.func176,Tryz.ntmps176
   go_wp2_with (first
    | (refine cH rfl rfl ?_)
    | (with_reducible refine ag ?_ (.tmp 4) (.tmp 13) ?_ w.heap.size ?_ {} cO ?_ ?_ ?_
       ·rfl
       ·rfl
       ·rfl
       ·rfl
       ·exact ah.new w (ae {}) 158
       intro w8 mO mP Ax))
   exact bodyPost_ret (v:=.agg (ae cO)) (aS Tryz.results176 _ _ _ cO rfl mO) rfl ⟨rfl,((Kept.refl [] w).alloc _).cf mP (by omega)⟩
  ·have jK:(ps.length:Int)<=i:=by omega
   go_enter Tryz.func176,Tryz.ntmps176
   go_wp2_with (first
    | (refine cH rfl rfl ?_)
    | (with_reducible refine ag ?_ (.tmp 4) (.tmp 13) ?_ w.heap.size ?_ {} cO ?_ ?_ ?_
       ·rfl
       ·rfl
       ·rfl
       ·rfl
       ·exact ah.new w (ae {}) 158
       intro w8 mO mP Ax))
   exact bodyPost_ret (v:=.agg (ae cO)) (aS Tryz.results176 _ _ _ cO rfl mO) rfl ⟨rfl,((Kept.refl [] w).alloc _).cf mP (by omega)⟩
def Ay(a:GP)(least most:Int):GP:=
 if most = -1 then aJ a true least.toNat (if least.toNat<1 then 1 else least.toNat) (if least.toNat<1 then 1 else least.toNat)
 else aJ a false least.toNat most.toNat most.toNat
def oZ(least most:Int):Nat:=if most = -1 then (if least.toNat<1 then 1 else least.toNat) else most.toNat
theorem E3(a:GP)(ha:a.Fit)(least most:Int)(h0:0<=least)(h9:least<=9)(m0:-1<=most)(m9:most<=9)(hr:oZ least most*a.count<=60)(w:World):
 aB 179 #[.agg (ae a),.int .i64 least,.int .i64 most] w (Ay a least most):=by
 obtain⟨l,rfl⟩:∃l:Nat,least=(l:Int):=⟨least.toNat,by omega⟩;unfold oZ at hr;unfold Ay;rw[Int.toNat_natCast]at *;by_cases hm:most = -1
 ·subst hm;rw[if_pos rfl]at *;by_cases hl:l<1
  ·obtain rfl:l=0:=by omega
   exact CT a ha (by simpa using hr) w
  ·rw[if_neg hl]at *;exact CS a ha l (by omega) (by omega) hr w
 ·obtain⟨t,rfl⟩:∃t:Nat,most=(t:Int):=⟨most.toNat,by omega⟩;rw[if_neg hm]at *;rw[Int.toNat_natCast]at *;exact CR a ha l t (by omega) (by omega) hr w
end Go.Proofs.YtgifhgnccmnbiabGreatDoor
