/- Part of the proof. -/
import Derived.Test.YtgifhgnccmnbiabGreatDoorG17
import Derived.Test.YtgifhgnccmnbiabGreatDoorG16
set_option linter.unusedVariables false
set_option linter.unusedSimpArgs false
set_option maxHeartbeats 4000000
set_option maxRecDepth 100000
namespace Go.Proofs.YtgifhgnccmnbiabGreatDoor
open Go.RowKit Go.IntWalk
theorem oG{w:World}{g:Nat}{c0 c1 c2 c3 c4 c5 c6 c7:Value}{t:TypeId}(h:ah w g #[c0,c1,c2,c3,c4,c5,c6,c7] t):
 w.cell? ⟨g,0,none⟩=some c0/\w.cell? ⟨g,1,none⟩=some c1/\w.cell? ⟨g,2,none⟩=some c2/\w.cell? ⟨g,3,none⟩=some c3/\w.cell? ⟨g,4,none⟩=some c4/\w.cell? ⟨g,5,none⟩=some c5/\w.cell? ⟨g,6,none⟩=some c6/\w.cell? ⟨g,7,none⟩=some c7/\g<w.heap.size:=
 ⟨h.cell 0,h.cell 1,h.cell 2,h.cell 3,h.cell 4,h.cell 5,h.cell 6,h.cell 7,h.lt⟩
theorem nZ{w:World}{g:Nat}{cs:Array Value}{t:TypeId}(h:ah w g cs t):
 w.frozen? ⟨g,0,none⟩=false/\w.frozen? ⟨g,1,none⟩=false/\w.frozen? ⟨g,2,none⟩=false/\w.frozen? ⟨g,3,none⟩=false/\w.frozen? ⟨g,4,none⟩=false/\w.frozen? ⟨g,5,none⟩=false/\w.frozen? ⟨g,6,none⟩=false/\w.frozen? ⟨g,7,none⟩=false:=
 ⟨h.frozen 0,h.frozen 1,h.frozen 2,h.frozen 3,h.frozen 4,h.frozen 5,h.frozen 6,h.frozen 7⟩
def z8:Array Value:=#[.int .i64 0,.int .i64 0,.pointer none,.int .u64 0,.int .i64 0,.int .u64 0,.int .u64 0,.int .i64 0]
structure JW (w x:World)(c:Array Value):Prop where
 k:Kept [] w x
 r:ah x w.heap.size z8 169
 c:ah x (w.heap.size+1) c 169
theorem JW.kept{w x y:World}{c:Array Value}(h:JW w x c)(k:Kept [] x y):JW w y c:=⟨h.k.trans k,h.r.kept k (by simp),h.c.kept k (by simp)⟩
theorem JW.set{w x:World}{c:Array Value}(h:JW w x c)(j:Nat)(v:Value):JW w (x.setCell ⟨w.heap.size+1,j,none⟩ v) (c.setIfInBounds j v):=
 ⟨h.k.setCell (Or.inr (by simp)) _,h.r.other _ _ (by omega),h.c.set j v⟩
theorem JW.drew{w x:World}{c:Array Value}(h:JW w x c):JW w x.drew c:=h.kept ((Kept.refl [] x).drew)
theorem JW.begin(w:World)(c:Array Value):JW w ((w.alloc (.cells z8 169)).alloc (.cells c 169)).drew c:=
 ⟨(((Kept.refl [] w).alloc _).alloc _).drew,((ah.new w _ _).alloc _).drew,(ah.oy w _ _ _).drew⟩
theorem uD{S:List Nat}{w w':World}{G o:Nat}{m:MP}(h:fL w G o m)(k:Kept S w w')(hg:G<w.heap.size)(hn:¬G∈S):fL w' G o m:=fun i hi=>by
 rw[<-h i hi];unfold World.cell?;simp only[];rw[k.block G hg hn]
theorem Ti{w:World}{G o:Nat}{m:MP}(h:fL w G o m):G<w.heap.size:=by
 have:=h 0 (by omega);unfold World.cell? at this;simp only[]at this;cases hb:w.heap[G]? with
 | none=>rw[hb]at this;simp at this
 | some y=>exact(Array.getElem?_eq_some_iff.1 hb).1
theorem JW.done{w x:World}{v0 v1 v2 v3 v4 v5 v6 v7:Value}(h:JW w x #[v0,v1,v2,v3,v4,v5,v6,v7]):
 Kept [] w ((((((((x.setCell ⟨w.heap.size,0,none⟩ v0).setCell ⟨w.heap.size,1,none⟩ v1).setCell ⟨w.heap.size,2,none⟩ v2).setCell ⟨w.heap.size,3,none⟩ v3).setCell ⟨w.heap.size,4,none⟩ v4).setCell ⟨w.heap.size,5,none⟩ v5).setCell ⟨w.heap.size,6,none⟩ v6).setCell ⟨w.heap.size,7,none⟩ v7) /\
 ah ((((((((x.setCell ⟨w.heap.size,0,none⟩ v0).setCell ⟨w.heap.size,1,none⟩ v1).setCell ⟨w.heap.size,2,none⟩ v2).setCell ⟨w.heap.size,3,none⟩ v3).setCell ⟨w.heap.size,4,none⟩ v4).setCell ⟨w.heap.size,5,none⟩ v5).setCell ⟨w.heap.size,6,none⟩ v6).setCell ⟨w.heap.size,7,none⟩ v7) w.heap.size #[v0,v1,v2,v3,v4,v5,v6,v7] 169 /\
 ∀G K,G≠w.heap.size->G<x.heap.size->fL x G 0 K->fL ((((((((x.setCell ⟨w.heap.size,0,none⟩ v0).setCell ⟨w.heap.size,1,none⟩ v1).setCell ⟨w.heap.size,2,none⟩ v2).setCell ⟨w.heap.size,3,none⟩ v3).setCell ⟨w.heap.size,4,none⟩ v4).setCell ⟨w.heap.size,5,none⟩ v5).setCell ⟨w.heap.size,6,none⟩ v6).setCell ⟨w.heap.size,7,none⟩ v7) G 0 K /\
  G<((((((((x.setCell ⟨w.heap.size,0,none⟩ v0).setCell ⟨w.heap.size,1,none⟩ v1).setCell ⟨w.heap.size,2,none⟩ v2).setCell ⟨w.heap.size,3,none⟩ v3).setCell ⟨w.heap.size,4,none⟩ v4).setCell ⟨w.heap.size,5,none⟩ v5).setCell ⟨w.heap.size,6,none⟩ v6).setCell ⟨w.heap.size,7,none⟩ v7).heap.size:=by
 have hr:ah x w.heap.size #[.int .i64 0,.int .i64 0,.pointer none,.int .u64 0,.int .i64 0,.int .u64 0,.int .u64 0,.int .i64 0] 169:=h.r;refine⟨FP h.k (Nat.le_refl _) _ _ _ _ _ _ _ _,Wu hr _ _ _ _ _ _ _ _,fun G K hn bO hT=>?_⟩;have k:Kept [w.heap.size] x ((((((((x.setCell ⟨w.heap.size,0,none⟩ v0).setCell ⟨w.heap.size,1,none⟩ v1).setCell ⟨w.heap.size,2,none⟩ v2).setCell ⟨w.heap.size,3,none⟩ v3).setCell ⟨w.heap.size,4,none⟩ v4).setCell ⟨w.heap.size,5,none⟩ v5).setCell ⟨w.heap.size,6,none⟩ v6).setCell ⟨w.heap.size,7,none⟩ v7):=
  ((((((((Kept.refl [w.heap.size] x).setCell (Or.inl (by simp)) _).setCell (Or.inl (by simp)) _).setCell (Or.inl (by simp)) _).setCell (Or.inl (by simp)) _).setCell (Or.inl (by simp)) _).setCell (Or.inl (by simp)) _).setCell (Or.inl (by simp)) _).setCell (Or.inl (by simp)) _
 exact⟨uD hT k bO (by simpa using hn),Nat.lt_of_lt_of_le bO k.size⟩
section
variable {w:World}{gs:Nat}{inv:Bool}{ga oa gb ob:Nat}{a b:oM}{aa ab:Option Addr}
theorem LD(ha:uV w ga oa a aa)(hb:uV w gb ob b ab)(h0:a.nl+b.nl=0)(hl:a.len+b.len<=1099511627776):
 Calls Tryz.prog 145 #[.pointer (some ⟨gs,0,none⟩),.pointer (some ⟨ga,oa,none⟩),.pointer (some ⟨gb,ob,none⟩)] w fun e w'=>BP w w' [] (gY inv a b) e:=by
 have hj:gY inv a b={len:=a.len+b.len,nl:=0,nx:=tZ (je a.nx) a.tk (je b.nx) b.tk,tk:=b.tk}:=by unfold gY;rw[if_pos h0]
 rw[hj];obtain⟨GA,OA,rfl,tA,lA⟩:=ha.bP (by omega);obtain⟨GB,OB,rfl,tB,lB⟩:=hb.bP (by omega);have sW:a.nl=0:=by omega
 have uU:b.nl=0:=by omega
 have a0:=ha.c0;have a1:=ha.c1;have a2:=ha.c2;have a3:=ha.c3;have b0:=hb.c0;have b1:=hb.c1;have b2:=hb.c2;have b3:=hb.c3;rw[sW]at a1;rw[uU]at b1;have Gz:=ha.lt;have GC:=hb.lt;have ba:=ha.bd.len;have bb:=hb.bd.len;have PH:Hid (∀w',Kept [] w w'->Calls _ _ _ w' _):=fun w' k=>PG (je a.nx) GA OA a.tk (je b.nx) GB OB b.tk w' (tA.kept k lA) (tB.kept k lB) (Nat.lt_of_lt_of_le lA k.size) (Nat.lt_of_lt_of_le lB k.size);clear ha hb hj sW uU tA tB;generalize a.tk=TA at *;generalize b.tk=TB at *;generalize a.len=LA at *;generalize b.len=LB at *;go_enter Tryz.func145,Tryz.ntmps145
 go_wp2_with fail
 go_region
 all_goals
  obtain⟨W1,qR⟩:∃W1,W1=((w.alloc (.cells #[.int .i64 0,.int .i64 0,.pointer none,.int .u64 0,.int .i64 0,.int .u64 0,.int .u64 0,.int .i64 0] 169)).alloc (.cells #[.int .i64 ((LA:Int)+(LB:Int)),.int .i64 0,.pointer none,.int .u64 0,.int .i64 0,.int .u64 0,.int .u64 0,.int .i64 0] 169)).drew:=⟨_,rfl⟩;have J1:Hid (JW w W1 #[.int .i64 ((LA:Int)+(LB:Int)),.int .i64 0,.pointer none,.int .u64 0,.int .i64 0,.int .u64 0,.int .u64 0,.int .i64 0]):=by show JW _ _ _;rw[qR];exact JW.begin w _
  rw[<-qR];clear qR;have K1:=J1.out.k;have a2':=(K1.cell Gz (oa+2)).trans a2;have a3':=(K1.cell Gz (oa+3)).trans a3;have b2':=(K1.cell GC (ob+2)).trans b2;have b3':=(K1.cell GC (ob+3)).trans b3;obtain⟨g0,g1,g2,g3,g4,g5,g6,g7,gl⟩:=oG J1.out.c;have K1H:Hid (Kept [] w W1):=K1;clear K1 a0 a1 a2 a3 b0 b1 b2 b3;have Az:w.heap.size+1<W1.heap.size:=gl;go_wp2_with fail
  go_region_law (go_simp;go_at_call 183;refine(PH.out _ (K1H.out.trans (by first | exact(Kept.refl [] _).drew | exact Kept.refl _ _))).mono ?_;rintro _ w5 ⟨k5,G,rfl,hG,wY⟩;have J5:=J1.out.kept (Kept.trans (by first | exact(Kept.refl [] _).drew | exact Kept.refl _ _) k5);have J5H:Hid (JW _ _ _):=J5;obtain⟨g0,g1,g2,g3,g4,g5,g6,g7,gl⟩:=oG J5.c;obtain⟨p0,p1,p2,p3,p4,p5,p6,p7⟩:=nZ J5.c;obtain⟨r0,r1,r2,r3,r4,r5,r6,r7,rl⟩:=oG J5.r;obtain⟨q0,q1,q2,q3,q4,q5,q6,q7⟩:=nZ J5.r;clear J5)
  all_goals
   go_wp2
   have J6:JW w _ #[.int .i64 ((LA:Int)+(LB:Int)),.int .i64 0,.pointer (some ⟨G,0,none⟩),.int .u64 0,.int .i64 0,.int .u64 0,.int .u64 0,.int .i64 0]:=J5H.out.set 2 _;have J7:JW w _ #[.int .i64 ((LA:Int)+(LB:Int)),.int .i64 0,.pointer (some ⟨G,0,none⟩),UV TB,.int .i64 0,.int .u64 0,.int .u64 0,.int .i64 0]:=J6.set 3 (UV TB);obtain⟨ky,Zy,ty⟩:=J7.done;obtain⟨x0,x1,x2,x3,x4,x5,x6,x7,_⟩:=oG Zy;have hG':W1.heap.size<=G:=hG;have Tj:¬G∈[w.heap.size+1]:=by simp;omega
   have kS:Kept [w.heap.size+1] w5 ((w5.setCell ⟨w.heap.size+1,2,none⟩ (.pointer (some ⟨G,0,none⟩))).setCell ⟨w.heap.size+1,3,none⟩ (UV TB)):=((Kept.refl [w.heap.size+1] w5).setCell (Or.inl (by simp)) _).setCell (Or.inl (by simp)) _;have hG5:G<w5.heap.size:=Ti wY;obtain⟨t1,t2⟩:=ty G _ (by omega) (Nat.lt_of_lt_of_le hG5 kS.size) (uD wY kS hG5 Tj);refine bodyPost_ret (v:=.agg #[.int .i64 ((LA:Int)+(LB:Int)),.int .i64 0,.pointer (some ⟨G,0,none⟩),UV TB,.int .i64 0,.int .u64 0,.int .u64 0,.int .i64 0]) (by simp[results,Tryz.results145,go_sem,x0,x1,x2,x3,x4,x5,x6,x7]) rfl ?_;exact⟨ky,some ⟨G,0,none⟩,by unfold cT;simp only[Int.natCast_add];rfl,fun _=>⟨G,0,rfl,t1,t2⟩,fun A h=>by simp only[Option.some.injEq]at h;subst h;exact Or.inr (by simp only[];omega)⟩
end
section
variable {w:World}{gs:Nat}{inv:Bool}{ga oa gb ob:Nat}{a b:oM}{aa ab:Option Addr}
theorem LF(ha:uV w ga oa a aa)(hb:uV w gb ob b ab)(hs:w.cell? ⟨gs,2,none⟩=some (.bool inv))(QR:gs<w.heap.size)(h1:a.nl≠0)(h2:b.nl≠0)(hl:a.len+b.len<=1099511627776):
 Calls Tryz.prog 145 #[.pointer (some ⟨gs,0,none⟩),.pointer (some ⟨ga,oa,none⟩),.pointer (some ⟨gb,ob,none⟩)] w fun e w'=>BP w w' [] (gY inv a b) e:=by
 have hj:gY inv a b={len:=a.len+b.len,nl:=a.nl+b.nl,inside:=a.inside+dh inv b a.la,en:=a.en,la:=b.la,tail:=b.tail}:=by
  unfold gY;rw[if_neg (by omega),if_pos (by omega),if_pos (by omega),if_pos (by omega),if_pos (by omega)]
 rw[hj];have aA:Hid (∀y,Kept [] w y->BP w y [] { len:=a.len+b.len,nl:=a.nl+b.nl,inside:=a.inside+dh inv b a.la,en:=a.en,la:=b.la,tail:=b.tail} (.returned (.agg #[.int .i64 ((a.len:Int)+(b.len:Int)),.int .i64 ((a.nl:Int)+(b.nl:Int)),.pointer none,.int .u64 0,.int .i64 ((a.inside:Int)+(dh inv b a.la:Int)),UV a.en,UV b.la,.int .i64 (b.tail:Int)]))):=fun y k=>
  ⟨k,none,by unfold cT;simp only[Int.natCast_add];rfl,(fun h=>by simp only[]at h;omega),fun A h=>by cases h⟩
 have C3:Hid (∀w',Kept [] w w'->Calls _ _ _ w' _):=fun w' k=>iH (gs:=gs) a.la ((k.cell QR 2).trans hs) (hb.kept k);have he1:=BO inv b a.la;have a0:=ha.c0;have a1:=ha.c1;have a5:=ha.c5;have a4:=ha.c4;have a6:=ha.c6;have b0:=hb.c0;have b1:=hb.c1;have b6:=hb.c6;have b7:=hb.c7;have Gz:=ha.lt;have GC:=hb.lt;have ba:=ha.bd.len;have bb:=hb.bd.len;have ban:=ha.bd.nl;have bbn:=hb.bd.nl;have bai:=ha.bd.inside;have bbi:=hb.bd.inside;have hna:((a.nl:Nat):Int)≠0:=by omega
 have CK:((b.nl:Nat):Int)≠0:=by omega
 have yw:(0:Int)<(a.nl:Int):=by omega
 have kY:(0:Int)<(b.nl:Int):=by omega
 have Tj:ga≠w.heap.size+1:=by omega
 have PJ:gb≠w.heap.size+1:=by omega
 clear ha hb hj h1 h2;generalize a.en=AE at *;generalize a.la=AL at *;generalize b.la=BL at *;generalize dh inv b AL=EN at *;generalize a.inside=AI at *;generalize b.tail=BT at *;generalize a.len=LA at *;generalize b.len=LB at *;generalize a.nl=NA at *;generalize b.nl=NB at *;have HF:((NA:Int)+(NB:Int))≠0:=by omega
 go_enter Tryz.func145,Tryz.ntmps145
 go_wp2_with fail
 go_region
 all_goals
  obtain⟨W1,qR⟩:∃W1,W1=((w.alloc (.cells #[.int .i64 0,.int .i64 0,.pointer none,.int .u64 0,.int .i64 0,.int .u64 0,.int .u64 0,.int .i64 0] 169)).alloc (.cells #[.int .i64 ((LA:Int)+(LB:Int)),.int .i64 ((NA:Int)+(NB:Int)),.pointer none,.int .u64 0,.int .i64 0,.int .u64 0,.int .u64 0,.int .i64 0] 169)).drew:=⟨_,rfl⟩;have J1:Hid (JW w W1 #[.int .i64 ((LA:Int)+(LB:Int)),.int .i64 ((NA:Int)+(NB:Int)),.pointer none,.int .u64 0,.int .i64 0,.int .u64 0,.int .u64 0,.int .i64 0]):=by show JW _ _ _;rw[qR];exact JW.begin w _
  rw[<-qR];clear qR;have K1:=J1.out.k;have a1':=(K1.cell Gz (oa+1)).trans a1;have b1':=(K1.cell GC (ob+1)).trans b1;obtain⟨g0,g1,g2,g3,g4,g5,g6,g7,gl⟩:=oG J1.out.c;obtain⟨f0,f1,f2,f3,f4,f5,f6,f7⟩:=nZ J1.out.c;obtain⟨r0,r1,r2,r3,r4,r5,r6,r7,rl⟩:=oG J1.out.r;obtain⟨q0,q1,q2,q3,q4,q5,q6,q7⟩:=nZ J1.out.r;have a4':=(K1.cell Gz (oa+4)).trans a4;have a5':=(K1.cell Gz (oa+5)).trans a5;have a6':=(K1.cell Gz (oa+6)).trans a6;have b6':=(K1.cell GC (ob+6)).trans b6;have b7':=(K1.cell GC (ob+7)).trans b7;have K2:Hid (Kept [] w (W1.setCell ⟨w.heap.size+1,5,none⟩ (UV AE))):=K1.setCell (Or.inr (by simp)) _;clear K1 a0 a1 a4 a5 a6 b0 b1 b6 b7;go_wp2_with fail
  go_region_law (go_simp;go_at_call 78;refine(C3.out _ (by first | exact K2.out.drew | exact K2.out)).mono ?_;rintro _ _ ⟨rfl,rfl⟩)
  all_goals
   go_wp2
   have J2:JW w _ #[.int .i64 ((LA:Int)+(LB:Int)),.int .i64 ((NA:Int)+(NB:Int)),.pointer none,.int .u64 0,.int .i64 0,UV AE,.int .u64 0,.int .i64 0]:=J1.out.set 5 _;have J3:JW w _ #[.int .i64 ((LA:Int)+(LB:Int)),.int .i64 ((NA:Int)+(NB:Int)),.pointer none,.int .u64 0,.int .i64 ((AI:Int)+(EN:Int)),UV AE,.int .u64 0,.int .i64 0]:=J2.set 4 _;have J4:JW w _ #[.int .i64 ((LA:Int)+(LB:Int)),.int .i64 ((NA:Int)+(NB:Int)),.pointer none,.int .u64 0,.int .i64 ((AI:Int)+(EN:Int)),UV AE,UV BL,.int .i64 0]:=J3.set 6 _;have J5:JW w _ #[.int .i64 ((LA:Int)+(LB:Int)),.int .i64 ((NA:Int)+(NB:Int)),.pointer none,.int .u64 0,.int .i64 ((AI:Int)+(EN:Int)),UV AE,UV BL,.int .i64 (BT:Int)]:=J4.set 7 _;obtain⟨ky,Zy,_⟩:=J5.done;obtain⟨x0,x1,x2,x3,x4,x5,x6,x7,_⟩:=oG Zy.drew;refine bodyPost_ret (v:=.agg #[.int .i64 ((LA:Int)+(LB:Int)),.int .i64 ((NA:Int)+(NB:Int)),.pointer none,.int .u64 0,.int .i64 ((AI:Int)+(EN:Int)),UV AE,UV BL,.int .i64 (BT:Int)]) (by simp[results,Tryz.results145,go_sem,x0,x1,x2,x3,x4,x5,x6,x7]) rfl (aA.out _ ky.drew)
end
section
variable {w:World}{gs:Nat}{inv:Bool}{ga oa gb ob:Nat}{a b:oM}{aa ab:Option Addr}
theorem IG(ha:uV w ga oa a aa)(hb:uV w gb ob b ab)(hs:w.cell? ⟨gs,2,none⟩=some (.bool inv))(QR:gs<w.heap.size)(h1:a.nl≠0)(h2:b.nl=0)(hl:a.len+b.len<=1099511627776):
 Calls Tryz.prog 145 #[.pointer (some ⟨gs,0,none⟩),.pointer (some ⟨ga,oa,none⟩),.pointer (some ⟨gb,ob,none⟩)] w fun e w'=>BP w w' [] (gY inv a b) e:=by
 obtain⟨GB,OB,rfl,tB,lB⟩:=hb.bP h2;have hj:gY inv a b={len:=a.len+b.len,nl:=a.nl,inside:=a.inside,en:=a.en,la:=cn (je b.nx) b.tk a.la,tail:=a.tail+b.len}:=by
  have e1:¬a.nl+b.nl=0:=by omega
  have e2:0<a.nl:=by omega
  have e3:¬ 0<b.nl:=by omega
  unfold gY dh;rw[if_neg e1];simp only[if_pos e2,if_neg e3,if_pos h2];rw[h2];rfl
 rw[hj];have aA:Hid (∀y,Kept [] w y->BP w y [] { len:=a.len+b.len,nl:=a.nl,inside:=a.inside,en:=a.en,la:=cn (je b.nx) b.tk a.la,tail:=a.tail+b.len} (.returned (.agg #[.int .i64 ((a.len:Int)+(b.len:Int)),.int .i64 (a.nl:Int),.pointer none,.int .u64 0,.int .i64 (a.inside:Int),UV a.en,UV (cn (je b.nx) b.tk a.la),.int .i64 ((a.tail:Int)+(b.len:Int))]))):=fun y k=>
  ⟨k,none,by unfold cT;simp only[Int.natCast_add];rfl,(fun h=>by simp only[]at h;omega),fun A h=>by cases h⟩
 have C3:Hid (∀w',Kept [] w w'->Calls Tryz.prog 78 #[.pointer (some ⟨gs,0,none⟩),.pointer (some ⟨gb,ob,none⟩),.int .u64 (a.la.toNat:Int)] w' fun e w2=>e=.returned (.int .i64 0)/\w2=w'):=fun w' k=>by
  have h:=iH (gs:=gs) a.la ((k.cell QR 2).trans hs) (hb.kept k);have e:dh inv b a.la=0:=if_pos h2;rw[e]at h;exact h
 have QL:Hid (∀w',Kept [] w w'->Calls _ _ _ w' _):=fun w' k=>vG (je b.nx) GB OB b.tk a.la w' (tB.kept k lB);have a0:=ha.c0;have a1:=ha.c1;have a5:=ha.c5;have a4:=ha.c4;have a6:=ha.c6;have a7:=ha.c7;have b0:=hb.c0;have b1:=hb.c1;have b2:=hb.c2;have b3:=hb.c3;have Gz:=ha.lt;have GC:=hb.lt;have ba:=ha.bd.len;have bb:=hb.bd.len;have ban:=ha.bd.nl;have bai:=ha.bd.inside;have bat:=ha.bd.tail;have hna:((a.nl:Nat):Int)≠0:=by omega
 have yw:(0:Int)<(a.nl:Int):=by omega
 have Tj:ga≠w.heap.size+1:=by omega
 have PJ:gb≠w.heap.size+1:=by omega
 rw[h2]at b1;clear ha hb hj h1 h2 tB;generalize a.en=AE at *;generalize cn (je b.nx) b.tk a.la=BL at *;generalize a.la=AL at *;generalize b.tk=TB at *;generalize a.inside=AI at *;generalize a.tail=AT at *;generalize a.len=LA at *;generalize b.len=LB at *;generalize a.nl=NA at *;go_enter Tryz.func145,Tryz.ntmps145
 go_wp2_with fail
 go_region
 all_goals
  obtain⟨W1,qR⟩:∃W1,W1=((w.alloc (.cells #[.int .i64 0,.int .i64 0,.pointer none,.int .u64 0,.int .i64 0,.int .u64 0,.int .u64 0,.int .i64 0] 169)).alloc (.cells #[.int .i64 ((LA:Int)+(LB:Int)),.int .i64 (NA:Int),.pointer none,.int .u64 0,.int .i64 0,.int .u64 0,.int .u64 0,.int .i64 0] 169)).drew:=⟨_,rfl⟩;have J1:Hid (JW w W1 #[.int .i64 ((LA:Int)+(LB:Int)),.int .i64 (NA:Int),.pointer none,.int .u64 0,.int .i64 0,.int .u64 0,.int .u64 0,.int .i64 0]):=by show JW _ _ _;rw[qR];exact JW.begin w _
  rw[<-qR];clear qR;have K1:=J1.out.k;have a1':=(K1.cell Gz (oa+1)).trans a1;have b1':=(K1.cell GC (ob+1)).trans b1;obtain⟨g0,g1,g2,g3,g4,g5,g6,g7,gl⟩:=oG J1.out.c;obtain⟨f0,f1,f2,f3,f4,f5,f6,f7⟩:=nZ J1.out.c;obtain⟨r0,r1,r2,r3,r4,r5,r6,r7,rl⟩:=oG J1.out.r;obtain⟨q0,q1,q2,q3,q4,q5,q6,q7⟩:=nZ J1.out.r;have a4':=(K1.cell Gz (oa+4)).trans a4;have a5':=(K1.cell Gz (oa+5)).trans a5;have a6':=(K1.cell Gz (oa+6)).trans a6;have K2:Hid (Kept [] w (W1.setCell ⟨w.heap.size+1,5,none⟩ (UV AE))):=K1.setCell (Or.inr (by simp)) _;clear K1;go_wp2_with fail
  go_region_law (go_simp;go_at_call 78;refine(C3.out _ (by first | exact K2.out.drew | exact K2.out)).mono ?_;rintro _ _ ⟨rfl,rfl⟩)
  all_goals
   go_wp2_with fail
   obtain⟨W2,Zp⟩:∃W2,W2=((W1.setCell ⟨w.heap.size+1,5,none⟩ (UV AE)).setCell ⟨w.heap.size+1,4,none⟩ (.int .i64 (AI:Int))).drew:=⟨_,rfl⟩;have J2:JW w _ #[.int .i64 ((LA:Int)+(LB:Int)),.int .i64 (NA:Int),.pointer none,.int .u64 0,.int .i64 0,UV AE,.int .u64 0,.int .i64 0]:=J1.out.set 5 (UV AE);have J3:JW w _ #[.int .i64 ((LA:Int)+(LB:Int)),.int .i64 (NA:Int),.pointer none,.int .u64 0,.int .i64 (AI:Int),UV AE,.int .u64 0,.int .i64 0]:=J2.set 4 (.int .i64 (AI:Int));have J4:Hid (JW w W2 #[.int .i64 ((LA:Int)+(LB:Int)),.int .i64 (NA:Int),.pointer none,.int .u64 0,.int .i64 (AI:Int),UV AE,.int .u64 0,.int .i64 0]):=by show JW _ _ _;rw[Zp];exact J3.drew
   rw[<-Zp];clear Zp J2 J3 J1 K2 a1' b1' a4' a5' a6' g0 g1 g2 g3 g4 g5 g6 g7 gl f0 f1 f2 f3 f4 f5 f6 f7 r0 r1 r2 r3 r4 r5 r6 r7 rl q0 q1 q2 q3 q4 q5 q6 q7;have K4:=J4.out.k;have Zz:=(K4.cell Gz (oa+6)).trans a6;have d2':=(K4.cell GC (ob+2)).trans b2;have d3':=(K4.cell GC (ob+3)).trans b3;have K4H:Hid (Kept [] w W2):=K4;have gl:w.heap.size+1<W2.heap.size:=J4.out.c.lt;have a7H:Hid (_=_):=a7;have b0H:Hid (_=_):=b0;clear K4 a0 a1 a4 a5 a6 a7 b0 b1 b2 b3;go_wp2_with fail
   go_region_law (go_simp;go_at_call 124;refine(QL.out _ (by first | exact K4H.out.drew | exact K4H.out)).mono ?_;rintro _ w5 ⟨rfl,k5⟩;have J5:Hid (JW _ w5 _):=J4.out.kept (Kept.trans (by first | exact(Kept.refl [] _).drew | exact Kept.refl _ _) k5);obtain⟨g0,g1,g2,g3,g4,g5,g6,g7,gl5⟩:=oG J5.out.c;obtain⟨f0,f1,f2,f3,f4,f5,f6,f7⟩:=nZ J5.out.c;obtain⟨r0,r1,r2,r3,r4,r5,r6,r7,rl⟩:=oG J5.out.r;obtain⟨q0,q1,q2,q3,q4,q5,q6,q7⟩:=nZ J5.out.r;have a7':=(J5.out.k.cell Gz (oa+7)).trans a7H.out;have b0':=(J5.out.k.cell GC ob).trans b0H.out)
   all_goals
    go_wp2_with fail
    go_region
    all_goals
     go_wp2
     have J6:JW w _ #[.int .i64 ((LA:Int)+(LB:Int)),.int .i64 (NA:Int),.pointer none,.int .u64 0,.int .i64 (AI:Int),UV AE,UV BL,.int .i64 0]:=J5.out.set 6 (UV BL);have J7:JW w _ #[.int .i64 ((LA:Int)+(LB:Int)),.int .i64 (NA:Int),.pointer none,.int .u64 0,.int .i64 (AI:Int),UV AE,UV BL,.int .i64 ((AT:Int)+(LB:Int))]:=J6.set 7 (.int .i64 ((AT:Int)+(LB:Int)));obtain⟨ky,Zy,_⟩:=J7.done;obtain⟨x0,x1,x2,x3,x4,x5,x6,x7,_⟩:=oG Zy.drew;refine bodyPost_ret (v:=.agg #[.int .i64 ((LA:Int)+(LB:Int)),.int .i64 (NA:Int),.pointer none,.int .u64 0,.int .i64 (AI:Int),UV AE,UV BL,.int .i64 ((AT:Int)+(LB:Int))]) (by simp[results,Tryz.results145,go_sem,x0,x1,x2,x3,x4,x5,x6,x7]) rfl (aA.out _ ky.drew)
end
section
variable {w:World}{gs:Nat}{inv:Bool}{ga oa gb ob:Nat}{a b:oM}{aa ab:Option Addr}
theorem LG(ha:uV w ga oa a aa)(hb:uV w gb ob b ab)(hs:w.cell? ⟨gs,2,none⟩=some (.bool inv))(QR:gs<w.heap.size)(h1:a.nl=0)(h2:b.nl≠0)(hl:a.len+b.len<=1099511627776):
 Calls Tryz.prog 145 #[.pointer (some ⟨gs,0,none⟩),.pointer (some ⟨ga,oa,none⟩),.pointer (some ⟨gb,ob,none⟩)] w fun e w'=>BP w w' [] (gY inv a b) e:=by
 obtain⟨GA,OA,rfl,tA,lA⟩:=ha.bP h1;have hj:gY inv a b={len:=a.len+b.len,nl:=b.nl,inside:=b.inside,en:=fK (je a.nx) a.tk b.en,la:=b.la,tail:=b.tail}:=by
  unfold gY;rw[if_neg (by omega),if_neg (by omega),if_neg (by omega),if_pos (by omega),if_pos (by omega),h1,Nat.zero_add]
 rw[hj];have aA:Hid (∀y,Kept [] w y->BP w y [] { len:=a.len+b.len,nl:=b.nl,inside:=b.inside,en:=fK (je a.nx) a.tk b.en,la:=b.la,tail:=b.tail} (.returned (.agg #[.int .i64 ((a.len:Int)+(b.len:Int)),.int .i64 (b.nl:Int),.pointer none,.int .u64 0,.int .i64 (b.inside:Int),UV (fK (je a.nx) a.tk b.en),UV b.la,.int .i64 (b.tail:Int)]))):=fun y k=>
  ⟨k,none,by unfold cT;simp only[Int.natCast_add];rfl,(fun h=>by simp only[]at h;omega),fun A h=>by cases h⟩
 have oC:Hid (∀w',Kept [] w w'->Calls _ _ _ w' _):=fun w' k=>Hx (je a.nx) GA OA a.tk b.en w' (tA.kept k lA);have a0:=ha.c0;have a1:=ha.c1;have a2:=ha.c2;have a3:=ha.c3;have b0:=hb.c0;have b1:=hb.c1;have b4:=hb.c4;have b5:=hb.c5;have b6:=hb.c6;have b7:=hb.c7;have Gz:=ha.lt;have GC:=hb.lt;have ba:=ha.bd.len;have bb:=hb.bd.len;have bbn:=hb.bd.nl;have CK:((b.nl:Nat):Int)≠0:=by omega
 have kY:(0:Int)<(b.nl:Int):=by omega
 have Tj:ga≠w.heap.size+1:=by omega
 have PJ:gb≠w.heap.size+1:=by omega
 rw[h1]at a1;clear ha hb hj h1 h2 tA;generalize fK (je a.nx) a.tk b.en=IN at *;generalize a.tk=TA at *;generalize b.en=BE at *;generalize b.la=BL at *;generalize b.inside=BI at *;generalize b.tail=BT at *;generalize a.len=LA at *;generalize b.len=LB at *;generalize b.nl=NB at *;go_enter Tryz.func145,Tryz.ntmps145
 go_wp2_with fail
 go_region
 all_goals
  obtain⟨W1,qR⟩:∃W1,W1=((w.alloc (.cells #[.int .i64 0,.int .i64 0,.pointer none,.int .u64 0,.int .i64 0,.int .u64 0,.int .u64 0,.int .i64 0] 169)).alloc (.cells #[.int .i64 ((LA:Int)+(LB:Int)),.int .i64 (NB:Int),.pointer none,.int .u64 0,.int .i64 0,.int .u64 0,.int .u64 0,.int .i64 0] 169)).drew:=⟨_,rfl⟩;have J1:Hid (JW w W1 #[.int .i64 ((LA:Int)+(LB:Int)),.int .i64 (NB:Int),.pointer none,.int .u64 0,.int .i64 0,.int .u64 0,.int .u64 0,.int .i64 0]):=by show JW _ _ _;rw[qR];exact JW.begin w _
  rw[<-qR];clear qR;have K1:=J1.out.k;have a1':=(K1.cell Gz (oa+1)).trans a1;have b1':=(K1.cell GC (ob+1)).trans b1;obtain⟨g0,g1,g2,g3,g4,g5,g6,g7,gl⟩:=oG J1.out.c;obtain⟨f0,f1,f2,f3,f4,f5,f6,f7⟩:=nZ J1.out.c;obtain⟨r0,r1,r2,r3,r4,r5,r6,r7,rl⟩:=oG J1.out.r;obtain⟨q0,q1,q2,q3,q4,q5,q6,q7⟩:=nZ J1.out.r;have a2':=(K1.cell Gz (oa+2)).trans a2;have a3':=(K1.cell Gz (oa+3)).trans a3;have b5':=(K1.cell GC (ob+5)).trans b5;have K1H:Hid (Kept [] w W1):=K1;have Tk:Hid (_=_):=b1;have b4H:Hid (_=_):=b4;have b6H:Hid (_=_):=b6;have b7H:Hid (_=_):=b7;clear K1 a0 a1 a2 a3 b0 b1 b4 b5 b6 b7;go_wp2_with fail
  go_region_law (go_simp;go_at_call 182;refine(oC.out _ (by first | exact K1H.out.drew | exact K1H.out)).mono ?_;rintro _ w5 ⟨rfl,k5⟩;have J5:Hid (JW _ w5 _):=J1.out.kept (Kept.trans (by first | exact(Kept.refl [] _).drew | exact Kept.refl _ _) k5);obtain⟨g0,g1,g2,g3,g4,g5,g6,g7,gl5⟩:=oG J5.out.c;obtain⟨f0,f1,f2,f3,f4,f5,f6,f7⟩:=nZ J5.out.c;obtain⟨r0,r1,r2,r3,r4,r5,r6,r7,rl⟩:=oG J5.out.r;obtain⟨q0,q1,q2,q3,q4,q5,q6,q7⟩:=nZ J5.out.r;have b1':=(J5.out.k.cell GC (ob+1)).trans Tk.out;have b4':=(J5.out.k.cell GC (ob+4)).trans b4H.out;have b6':=(J5.out.k.cell GC (ob+6)).trans b6H.out;have b7':=(J5.out.k.cell GC (ob+7)).trans b7H.out)
  all_goals
   go_wp2
   have J6:JW w _ #[.int .i64 ((LA:Int)+(LB:Int)),.int .i64 (NB:Int),.pointer none,.int .u64 0,.int .i64 0,UV IN,.int .u64 0,.int .i64 0]:=J5.out.set 5 (UV IN);have J7:JW w _ #[.int .i64 ((LA:Int)+(LB:Int)),.int .i64 (NB:Int),.pointer none,.int .u64 0,.int .i64 (BI:Int),UV IN,.int .u64 0,.int .i64 0]:=J6.set 4 (.int .i64 (BI:Int));have J8:JW w _ #[.int .i64 ((LA:Int)+(LB:Int)),.int .i64 (NB:Int),.pointer none,.int .u64 0,.int .i64 (BI:Int),UV IN,UV BL,.int .i64 0]:=J7.set 6 (UV BL);have J9:JW w _ #[.int .i64 ((LA:Int)+(LB:Int)),.int .i64 (NB:Int),.pointer none,.int .u64 0,.int .i64 (BI:Int),UV IN,UV BL,.int .i64 (BT:Int)]:=J8.set 7 (.int .i64 (BT:Int));obtain⟨ky,Zy,_⟩:=J9.done;obtain⟨x0,x1,x2,x3,x4,x5,x6,x7,_⟩:=oG Zy;refine bodyPost_ret (v:=.agg #[.int .i64 ((LA:Int)+(LB:Int)),.int .i64 (NB:Int),.pointer none,.int .u64 0,.int .i64 (BI:Int),UV IN,UV BL,.int .i64 (BT:Int)]) (by simp[results,Tryz.results145,go_sem,x0,x1,x2,x3,x4,x5,x6,x7]) rfl (aA.out _ ky)
theorem PK(ha:uV w ga oa a aa)(hb:uV w gb ob b ab)(hs:w.cell? ⟨gs,2,none⟩=some (.bool inv))(QR:gs<w.heap.size)(hl:a.len+b.len<=1099511627776):
 Calls Tryz.prog 145 #[.pointer (some ⟨gs,0,none⟩),.pointer (some ⟨ga,oa,none⟩),.pointer (some ⟨gb,ob,none⟩)] w fun e w'=>BP w w' [] (gY inv a b) e:=by
 by_cases h1:a.nl=0
 ·by_cases h2:b.nl=0
  ·exact LD ha hb (by omega) hl
  ·exact LG ha hb hs QR h1 h2 hl
 ·by_cases h2:b.nl=0
  ·exact IG ha hb hs QR h1 h2 hl
  ·exact LF ha hb hs QR h1 h2 hl
end
end Go.Proofs.YtgifhgnccmnbiabGreatDoor
namespace Go.Proofs.YtgifhgnccmnbiabGreatDoor
structure QX where
 pos:Nat
 cL:Nat
 lines:Nat
 set:aZ
def aH(Y:List Nat):List Nat:=(fv [] Y).2
def ax(Y:List Nat):List (List Nat):=(fv [] Y).1
def aR(M:MP)(Y:List Nat):QX:=⟨Y.length,Y.length-(aH Y).length,(ax Y).length,runM M (aH Y) M.cL⟩
def ma(h:QX)(p:oM):QX:=
 if p.nl=0 then ⟨h.pos+p.len,h.cL,h.lines+p.nl,cn (je p.nx) p.tk h.set⟩ else ⟨h.pos+p.len,h.pos+p.len-p.tail,h.lines+p.nl,p.la⟩
theorem BQ(Y:List Nat):(aH Y).length<=Y.length:=by have:=lp Y [];simpa [aH] using this
theorem pH(Y x:List Nat):aH (Y++x)=(fv (aH Y) x).2:=by unfold aH;rw[kL]
theorem gx(Y x:List Nat):ax (Y++x)=ax Y++(fv (aH Y) x).1:=by unfold ax aH;rw[kL]
theorem Tl{M:MP}{inv:Bool}{x:List Nat}{p:oM}(h:cZ M inv x p)(Y:List Nat):ma (aR M Y) p=aR M (Y++x):=by
 have hs:=h.set (aH Y);have hr:=h.rest (aH Y);have hc:=h.count (aH Y);have hle:=BQ Y;unfold Zw at hs;unfold ma aR;simp only[];rw[pH,gx,List.length_append,List.length_append,hc,hr,<-h.len];by_cases hn:p.nl=0
 ·rw[if_pos hn]at hs ⊢;rw[if_pos hn,hs];congr 1
  omega
 ·rw[if_neg hn]at hs ⊢;rw[if_neg hn,hs]
theorem Ng{M:MP}{inv:Bool}{x:List Nat}{p:oM}(h:cZ M inv x p)(Y:List Nat):ou M inv (ax Y)+dh inv p (aR M Y).set=ou M inv (ax (Y++x)):=by
 have he:=h.ends (aH Y);rw[gx,Nc,<-he];rfl
theorem PQ(M:MP)(Y:List Nat):(aR M Y).cL<(aR M Y).pos↔aH Y≠[]:=by
 have hle:=BQ Y;unfold aR;simp only[];have:=List.length_pos_iff (l:=aH Y);constructor
 ·intro h;rw[<-this];omega
 ·intro h;have:=this.2 h;omega
theorem mD(X:List Nat):jA X=ax X++if aH X=[] then [] else [aH X]:=xR X []
def uE(mx:Int)(n:Nat):Int:=if 0<mx/\mx<(n:Int) then mx else (n:Int)
theorem me(Y:List Nat):(ax Y).length<=Y.length:=by unfold ax;rw[iY];exact Sl Y
end Go.Proofs.YtgifhgnccmnbiabGreatDoor
namespace Go.Proofs.YtgifhgnccmnbiabGreatDoor
open Go.RowKit Go.IntWalk
abbrev C7:=Nat->oM×Option Addr
def wG(ps:C7)(k:Nat):Value:=((cT (ps (k / 8)).1 (ps (k / 8)).2)[k % 8]?).getD undef
def sj(ps:C7)(n:Nat):Array Value:=br (8*n) (wG ps)
theorem Ej(ps:C7){n i j:Nat}(hi:i<n)(hj:j<8):(sj ps n)[i*8+j]?=(cT (ps i).1 (ps i).2)[j]?:=by
 unfold sj;rw[b9 _ (by omega)];unfold wG;rw[show(i*8+j) / 8=i by omega,show(i*8+j) % 8=j by omega];have:j<(cT (ps i).1 (ps i).2).size:=hj;rw[Array.getElem?_eq_getElem this];rfl
def FQ(ps:C7)(i:Nat)(x:oM×Option Addr):C7:=fun j=>if j=i then x else ps j
theorem PR(ps:C7)(n i:Nat)(p:oM)(a:Option Addr):
 (((((((((sj ps n).setIfInBounds (i*8) (.int .i64 (p.len:Int))).setIfInBounds (i*8+1) (.int .i64 (p.nl:Int))).setIfInBounds (i*8+2) (.pointer a)).setIfInBounds (i*8+3) (UV p.tk)).setIfInBounds (i*8+4) (.int .i64 (p.inside:Int))).setIfInBounds (i*8+5) (UV p.en)).setIfInBounds (i*8+6) (UV p.la)).setIfInBounds (i*8+7) (.int .i64 (p.tail:Int)))=sj (FQ ps i (p,a)) n:=by
 unfold sj;rw[bm _ (fun k=>if k=i*8 then (.int .i64 (p.len:Int)) else wG ps k) _ _ (fun _ _=>rfl)];rw[bm _ (fun k=>if k=i*8+1 then (.int .i64 (p.nl:Int)) else if k=i*8 then (.int .i64 (p.len:Int)) else wG ps k) _ _ (fun _ _=>rfl)];rw[bm _ (fun k=>if k=i*8+2 then (.pointer a) else if k=i*8+1 then (.int .i64 (p.nl:Int)) else if k=i*8 then (.int .i64 (p.len:Int)) else wG ps k) _ _ (fun _ _=>rfl)];rw[bm _ (fun k=>if k=i*8+3 then (UV p.tk) else if k=i*8+2 then (.pointer a) else if k=i*8+1 then (.int .i64 (p.nl:Int)) else if k=i*8 then (.int .i64 (p.len:Int)) else wG ps k) _ _ (fun _ _=>rfl)];rw[bm _ (fun k=>if k=i*8+4 then (.int .i64 (p.inside:Int)) else if k=i*8+3 then (UV p.tk) else if k=i*8+2 then (.pointer a) else if k=i*8+1 then (.int .i64 (p.nl:Int)) else if k=i*8 then (.int .i64 (p.len:Int)) else wG ps k) _ _ (fun _ _=>rfl)];rw[bm _ (fun k=>if k=i*8+5 then (UV p.en) else if k=i*8+4 then (.int .i64 (p.inside:Int)) else if k=i*8+3 then (UV p.tk) else if k=i*8+2 then (.pointer a) else if k=i*8+1 then (.int .i64 (p.nl:Int)) else if k=i*8 then (.int .i64 (p.len:Int)) else wG ps k) _ _ (fun _ _=>rfl)];rw[bm _ (fun k=>if k=i*8+6 then (UV p.la) else if k=i*8+5 then (UV p.en) else if k=i*8+4 then (.int .i64 (p.inside:Int)) else if k=i*8+3 then (UV p.tk) else if k=i*8+2 then (.pointer a) else if k=i*8+1 then (.int .i64 (p.nl:Int)) else if k=i*8 then (.int .i64 (p.len:Int)) else wG ps k) _ _ (fun _ _=>rfl)];rw[bm _ (fun k=>if k=i*8+7 then (.int .i64 (p.tail:Int)) else if k=i*8+6 then (UV p.la) else if k=i*8+5 then (UV p.en) else if k=i*8+4 then (.int .i64 (p.inside:Int)) else if k=i*8+3 then (UV p.tk) else if k=i*8+2 then (.pointer a) else if k=i*8+1 then (.int .i64 (p.nl:Int)) else if k=i*8 then (.int .i64 (p.len:Int)) else wG ps k) _ _ (fun _ _=>rfl)];refine ia fun k hk=>?_;have hu:wG (FQ ps i (p,a)) k=if k / 8=i then ((cT p a)[k % 8]?).getD undef else wG ps k:=by
  unfold wG FQ;by_cases h:k / 8=i
  ·simp only[if_pos h]
  ·simp only[if_neg h]
 rw[hu];by_cases h:k / 8=i
 ·rw[if_pos h];have h8:k % 8=0\/k % 8=1\/k % 8=2\/k % 8=3\/k % 8=4\/k % 8=5\/k % 8=6\/k % 8=7:=by omega
  rcases h8 with h8|h8|h8|h8|h8|h8|h8|h8 <;> rw[h8]
  ·rw[if_neg (by omega),if_neg (by omega),if_neg (by omega),if_neg (by omega),if_neg (by omega),if_neg (by omega),if_neg (by omega),if_pos (by omega)];rfl
  ·rw[if_neg (by omega),if_neg (by omega),if_neg (by omega),if_neg (by omega),if_neg (by omega),if_neg (by omega),if_pos (by omega)];rfl
  ·rw[if_neg (by omega),if_neg (by omega),if_neg (by omega),if_neg (by omega),if_neg (by omega),if_pos (by omega)];rfl
  ·rw[if_neg (by omega),if_neg (by omega),if_neg (by omega),if_neg (by omega),if_pos (by omega)];rfl
  ·rw[if_neg (by omega),if_neg (by omega),if_neg (by omega),if_pos (by omega)];rfl
  ·rw[if_neg (by omega),if_neg (by omega),if_pos (by omega)];rfl
  ·rw[if_neg (by omega),if_pos (by omega)];rfl
  ·rw[if_pos (by omega)];rfl
 ·rw[if_neg h,if_neg (by omega),if_neg (by omega),if_neg (by omega),if_neg (by omega),if_neg (by omega),if_neg (by omega),if_neg (by omega),if_neg (by omega)]
def Real(T:List (List Nat))(j:Nat):Prop:=j<256+T.length/\(af T j).length<=1099511627776
theorem ZA{M:MP}{inv:Bool}{x:List Nat}{p:oM}(h:cZ M inv x p)(hz:p.nl=0->p.inside=0/\p.tail=0)(hl:x.length<=1099511627776):PBd p:=by
 have h1:=h.nl;have h2:=Sl x;rw[iY]at h1;have h3:=h.len;refine⟨by omega,by omega,?_,?_⟩
 ·by_cases hn:p.nl=0
  ·rw[(hz hn).1];omega
  ·rw[h.inside hn];have:=Ly M inv (fv [] x).1.tail;have h4:=h.nl;rw[List.length_tail]at this;omega
 ·by_cases hn:p.nl=0
  ·rw[(hz hn).2];omega
  ·rw[h.tail hn];have:=lp x [];simp at this;omega
structure od (M:MP)(inv:Bool)(x:List Nat)(p:oM):Prop where
 ok:cZ M inv x p
 z:p.nl=0->p.inside=0/\p.tail=0
theorem IH(M:MP)(inv:Bool)(c:Nat):od M inv [c] (nm M c):=⟨PE M inv c,fun h=>by
 unfold nm at h ⊢;split
 ·rename_i hc;rw[if_pos hc]at h;cases h
 ·exact⟨rfl,rfl⟩⟩
theorem PU{M:MP}{inv:Bool}{x y:List Nat}{a b:oM}(ha:od M inv x a)(hb:od M inv y b):od M inv (x++y) (gY inv a b):=⟨Tg ha.ok hb.ok,fun h=>by
 unfold gY at h ⊢;by_cases h0:a.nl+b.nl=0
 ·rw[if_pos h0];exact⟨rfl,rfl⟩
 ·rw[if_neg h0]at h;exact absurd h h0⟩
structure SP (w:World)(bt gp n N L:Nat)(inv:Bool)(M:MP)(t:TT)(rv sv:Value)(T:List (List Nat))(ps:C7)(k:Nat):Prop where
 p:ah w gp (sj ps n) 169
 tr:TR w N bt t rv sv
 n:n=256+t.rules.length
 low:N<=L/\L<=gp
 ej:∀j,j<k->Real T j->od M inv (af T j) (ps j).1/\sh w (ps j).1 (ps j).2/\∀A,(ps j).2=some A->(N<=A.block/\A.block<L)\/gp<A.block
section
variable {w w':World}{gs bt gp n N L:Nat}{cL:aZ}{inv:Bool}{mx:Int}{M:MP}{t:TT}{rv sv:Value}{T:List (List Nat)}{ps:C7}{k:Nat}
theorem SP.kept(h:SP w bt gp n N L inv M t rv sv T ps k)(q:Kept [] w w'):SP w' bt gp n N L inv M t rv sv T ps k:=
 ⟨h.p.kept q (by simp),h.tr.kept q,h.n,h.low,fun j hj hr=>by
  obtain⟨h1,h2,h3⟩:=h.ej j hj hr;exact⟨h1,h2.kept q,h3⟩⟩
theorem pI{S:List Nat}{p:oM}{a:Option Addr}(h:sh w p a)(q:Kept S w w')(hs:∀A,a=some A->¬A.block∈S):sh w' p a:=fun hn=>by
 obtain⟨G,O,e,h1,h2⟩:=h hn;exact⟨G,O,e,uD h1 q h2 (hs _ e),Nat.lt_of_lt_of_le h2 q.size⟩
theorem SP.iN(h:SP w bt gp n N L inv M t rv sv T ps k){S:List Nat}(q:Kept S w w')(hS:∀x,x∈S->L<=x/\x<gp):SP w' bt gp n N L inv M t rv sv T ps k:=by
 have hgp:¬gp∈S:=fun hc=>by have:=hS _ hc;omega
 have nd:=h.low;refine⟨h.p.kept q hgp,h.tr.under (m:=L) (q.below (by have:=h.p.lt;omega) (fun x hx=>(hS x hx).1)) nd.1,h.n,h.low,fun j hj hr=>?_⟩;obtain⟨h1,h2,h3⟩:=h.ej j hj hr;exact⟨h1,pI h2 q (fun A hA hc=>by
  have:=h3 A hA;have:=hS _ hc;omega),h3⟩
theorem SP.pat(h:SP w bt gp n N L inv M t rv sv T ps k){j:Nat}(hj:j<k)(hn:j<n)(hr:Real T j):uV w gp (j*8) (ps j).1 (ps j).2:=by
 obtain⟨h1,h2,h3⟩:=h.ej j hj hr;exact⟨fun i hi=>by rw[h.p.cell,Ej ps hn hi],h2,ZA h1.ok h1.z hr.2,h.p.lt⟩
theorem SP.Tm(h:SP w bt gp n N L inv M t rv sv T ps k){S:List Nat}(q:Kept S w w')(hS:∀x,x∈S->x<N)(tr:TR w' N bt t rv sv):SP w' bt gp n N L inv M t rv sv T ps k:=by
 have nd:=h.low;refine⟨h.p.kept q (fun hc=>by have:=hS _ hc;omega),tr,h.n,h.low,fun j hj hr=>?_⟩;obtain⟨h1,h2,h3⟩:=h.ej j hj hr;exact⟨h1,pI h2 q (fun A hA hc=>by
  have:=h3 A hA;have:=hS _ hc;omega),h3⟩
abbrev PV (w:World)(g o:Nat)(p:oM)(a:Option Addr):World:=
 (((((((w.setCell ⟨g,o,none⟩ (.int .i64 (p.len:Int))).setCell ⟨g,o+1,none⟩ (.int .i64 (p.nl:Int))).setCell ⟨g,o+2,none⟩ (.pointer a)).setCell ⟨g,o+3,none⟩ (UV p.tk)).setCell ⟨g,o+4,none⟩ (.int .i64 (p.inside:Int))).setCell ⟨g,o+5,none⟩ (UV p.en)).setCell ⟨g,o+6,none⟩ (UV p.la)).setCell ⟨g,o+7,none⟩ (.int .i64 (p.tail:Int))
theorem xU(w:World)(g o:Nat)(p:oM)(a:Option Addr):Kept [g] w (PV w g o p a):=
 ((((((((Kept.refl [g] w).setCell (Or.inl (by simp)) _).setCell (Or.inl (by simp)) _).setCell (Or.inl (by simp)) _).setCell (Or.inl (by simp)) _).setCell (Or.inl (by simp)) _).setCell (Or.inl (by simp)) _).setCell (Or.inl (by simp)) _).setCell (Or.inl (by simp)) _
theorem SP.put(h:SP w bt gp n N L inv M t rv sv T ps k)(p:oM)(a:Option Addr)(hp:Real T k->od M inv (af T k) p/\sh w p a)(ha:∀A,a=some A->(N<=A.block/\A.block<L)\/gp<A.block):
 SP (PV w gp (k*8) p a) bt gp n N L inv M t rv sv T (FQ ps k (p,a)) (k+1):=by
 have q:=xU w gp (k*8) p a;have nd:=h.low;have hb:ah (PV w gp (k*8) p a) gp (sj (FQ ps k (p,a)) n) 169:=by
  rw[<-PR];exact(((((((h.p.set _ _).set _ _).set _ _).set _ _).set _ _).set _ _).set _ _).set _ _
 refine⟨hb,h.tr.under (m:=gp) (q.below (Nat.le_of_lt h.p.lt) (by simp)) (by omega),h.n,h.low,fun j hj hr=>?_⟩;unfold FQ;by_cases hjk:j=k
 ·subst hjk;simp only[if_pos];obtain⟨h1,h2⟩:=hp hr;exact⟨h1,pI h2 q (fun A hA hc=>by have:=ha A hA;simp at hc;omega),ha⟩
 ·simp only[if_neg hjk];obtain⟨h1,h2,h3⟩:=h.ej j (by omega) hr;exact⟨h1,pI h2 q (fun A hA hc=>by have:=h3 A hA;simp at hc;omega),h3⟩
end
structure SI (w:World)(gs bt gp n N L:Nat)(cL:aZ)(inv:Bool)(mx:Int)(M:MP)(t:TT)(rv sv:Value)(T:List (List Nat))(ps:C7)(k:Nat):Prop where
 s:ah w gs (jD bt cL inv mx (.slice (some ⟨gp,0,none⟩) n n)) 60
 sp:SP w bt gp n N L inv M t rv sv T ps k
section
variable {w w':World}{gs bt gp n N L:Nat}{cL:aZ}{inv:Bool}{mx:Int}{M:MP}{t:TT}{rv sv:Value}{T:List (List Nat)}{ps:C7}{k:Nat}
theorem SI.kept(h:SI w gs bt gp n N L cL inv mx M t rv sv T ps k)(q:Kept [] w w'):SI w' gs bt gp n N L cL inv mx M t rv sv T ps k:=⟨h.s.kept q (by simp),h.sp.kept q⟩
theorem SI.Wv(h:SI w gs bt gp n N L cL inv mx M t rv sv T ps k):w.cell? ⟨gs,2,none⟩=some (.bool inv):=h.s.cell 2
theorem wH(h:SI w gs bt gp n N L cL inv mx M t rv sv T ps k){j:Nat}(hn:j<n):
 Calls Tryz.prog 77 #[.pointer (some ⟨gs,0,none⟩),.int .i64 (j:Int)] w fun e w'=>e=.returned (.pointer (some ⟨gp,j*8,none⟩))/\w'=w:=by
 have c4:w.cell? ⟨gs,4,none⟩=some (.slice (some ⟨gp,0,none⟩) n n):=h.s.cell 4;have hj:(j:Int)<(n:Int):=by omega
 have Vp:(0:Int)<=(j:Int):=by omega
 clear h;go_enter Tryz.func77,Tryz.ntmps77
 go_wp2
 go_ret;exact⟨rfl,rfl⟩
structure ZC (w w':World)(M:MP)(inv:Bool)(T:List (List Nat))(i:Nat)(e:Ending):Prop where
 k:Kept [] w w'
 ex:∃p a,e=.returned (.agg (cT p a))/\(Real T i->od M inv (af T i) p/\sh w' p a)/\∀A,a=some A->w.heap.size<=A.block
theorem PW(h:SI w gs bt gp n N L cL inv mx M t rv sv T ps k)(hS:Sound t.rules T)(hR:t.rules.length<=9000)(hk:256<=k)(hn:k<n):
 Calls Tryz.prog 99 #[.pointer (some ⟨gs,0,none⟩),.int .i64 (k:Int)] w fun e w'=>ZC w w' M inv T k e:=by
 have lS:=h.sp.n;have hSl:=hS.len;obtain⟨x,hx⟩:∃x,t.rules[k-256]?=some x:=⟨_,List.getElem?_eq_getElem (by omega)⟩;obtain⟨x1,x2,x3,x4⟩:=hS.uy _ _ hx;have uF:af T k=T.getD (k-256) []:=by unfold af;rw[if_neg (by omega)]
 have An:dT t.rules (k:Int)=x:=by
  unfold dT;rw[if_pos (by omega),show((k:Int)-256).toNat=k-256 by omega,hx];rfl
 have hlen:x.pt.len=fT (af T k).length:=by rw[x4,gR,uF]
 have D8:Hid (∀w',Kept [] w w'->Calls Tryz.prog 144 #[.pointer (some ⟨bt,0,none⟩),.int .i64 (k:Int)] w' fun e w2=>e=.returned (.agg #[.int .i64 (x.l:Int),.int .i64 (x.r:Int),.int .i64 (x.pt.len:Int),.int .i64 (x.pt.nl:Int),.int .i64 (x.pt.first:Int),.int .i64 (x.pt.last:Int)])/\Kept [] w' w2):=fun w' q=>by
  have:=th (h.sp.tr.kept q) k (by omega) (by omega);rw[An]at this;exact this
 have c0:w.cell? ⟨gs,0,none⟩=some (.pointer (some ⟨bt,0,none⟩)):=h.s.cell 0;have QR:=h.s.lt;have hB:Hid (ah (w.alloc (.cells z8 169)) w.heap.size z8 169):=ah.new w _ _;have hK:Hid (Kept [] w (w.alloc (.cells z8 169))):=(Kept.refl [] w).alloc _;have yx:Hid (∀w' (j:Nat),Kept [] w w'->j<k->Calls _ _ _ w' _):=fun w' j q hj=>wH (h.kept q) (j:=j) (by omega);have YZ:x.l<k:=by omega
 have hxr:x.r<k:=by omega
 have uc:Hid ((af T k).length<=1099511627776->∀w',Kept [] w w'->Calls Tryz.prog 145 #[.pointer (some ⟨gs,0,none⟩),.pointer (some ⟨gp,x.l*8,none⟩),.pointer (some ⟨gp,x.r*8,none⟩)] w' fun e w2=>Kept [] w' w2/\∃p a,e=.returned (.agg (cT p a))/\(od M inv (af T k) p/\sh w2 p a)/\∀A,a=some A->w'.heap.size<=A.block):=fun hl w' q=>by
  have h':=h.kept q;have e:af T k=af T x.l++af T x.r:=by rw[uF,x3]
  have el:(af T k).length=(af T x.l).length+(af T x.r).length:=by rw[e,List.length_append]
  have rl:Real T x.l:=⟨by omega,by omega⟩;have rr:Real T x.r:=⟨by omega,by omega⟩;have pl:=h'.sp.pat YZ (by omega) rl;have pr:=h'.sp.pat hxr (by omega) rr;obtain⟨gl,_,_⟩:=h'.sp.ej x.l YZ rl;obtain⟨gr,_,_⟩:=h'.sp.ej x.r hxr rr;refine(PK pl pr h'.Wv h'.s.lt (by rw[gl.ok.len,gr.ok.len];omega)).mono ?_;rintro e' w2 ⟨k2,a,rfl,ht,hA⟩;refine⟨k2,_,a,rfl,⟨?_,ht⟩,fun A hx=>?_⟩
  ·rw[e];exact PU gl gr
  ·rcases hA A hx with hx|hx
   ·simp at hx
   ·exact hx
 have rq:Hid (¬(af T k).length<=1099511627776->∀w',Kept [] w w'->ZC w w' M inv T k (.returned (.agg (cT {} none)))):=fun hl w' q=>⟨q,{},none,rfl,fun hr=>absurd hr.2 hl,fun A hA=>by cases hA⟩;have A4:Hid (∀w' p a,Kept [] w w'->(od M inv (af T k) p/\sh w' p a)->(∀A,a=some A->w.heap.size<=A.block)->ZC w w' M inv T k (.returned (.agg (cT p a)))):=fun w' p a q h1 h2=>⟨q,p,a,rfl,fun _=>h1,h2⟩;have Ww:x.pt.len<=1099511627777:=by rw[hlen];exact iL _
 clear h hS hx x1 x2 x3 x4 uF An;have hxlH:Hid (x.l<k):=YZ;have hxrH:Hid (x.r<k):=hxr;by_cases hl:(af T k).length<=1099511627776
 ·have hle:¬(1099511627776:Int)<(x.pt.len:Int):=by rw[hlen,jx (by omega)];omega
  have hj:Hid (∀w',_):=uc.out hl;clear rq uc hlen hl;obtain⟨xl,xr,⟨p1,p2,p3,p4⟩⟩:=x;simp only[]at *;unfold z8 at hB hK;go_enter Tryz.func99,Tryz.ntmps99
  go_wp2_with (first
   | (go_at_call 144;refine(D8.out _ hK.out).mono ?_;rintro _ w2 ⟨rfl,k2⟩;have B2:Hid (ah _ _ _ _):=hB.out.kept k2 (by simp);have K2:Hid (Kept [] w w2):=hK.out.trans k2;have YS:=B2.out.lt)
   | (go_at_call_of 77 (Value.int IntKind.i64 (xl:Int));refine(yx.out _ xl (K2.out.alloc _) hxlH.out).mono ?_;rintro _ _ ⟨rfl,rfl⟩)
   | (go_at_call_of 77 (Value.int IntKind.i64 (xr:Int));refine(yx.out _ xr (K2.out.alloc _) hxrH.out).mono ?_;rintro _ _ ⟨rfl,rfl⟩)
   | (go_at_call 145;refine(hj.out _ (K2.out.alloc _)).mono ?_;rintro _ w5 ⟨k5,p,a,rfl,hP,hA⟩;have K5:Hid (Kept [] w w5):=(K2.out.alloc _).trans k5;have B5:Hid (ah w5 w.heap.size _ _):=(B2.out.alloc _).kept k5 (by simp);have xz:Hid (_/\_):=hP;have wZ:Hid (∀A,_):=hA;clear hP hA k5;unfold cT;obtain⟨g0,g1,g2,g3,g4,g5,g6,g7,gl⟩:=oG B5.out;obtain⟨f0,f1,f2,f3,f4,f5,f6,f7⟩:=nZ B5.out))
  have B6:=Wu B5.out (.int .i64 (p.len:Int)) (.int .i64 (p.nl:Int)) (.pointer a) (UV p.tk) (.int .i64 (p.inside:Int)) (UV p.en) (UV p.la) (.int .i64 (p.tail:Int));obtain⟨x0,x1,x2,x3,x4,x5,x6,x7,_⟩:=oG B6;have kS:=xU w5 w.heap.size 0 p a;refine bodyPost_ret (v:=.agg (cT p a)) (by simp[results,Tryz.results99,go_sem,cT,x0,x1,x2,x3,x4,x5,x6,x7]) rfl (A4.out _ p a (FP K5.out (Nat.le_refl _) _ _ _ _ _ _ _ _) ⟨xz.out.1,pI xz.out.2 kS (fun A hA hc=>?_)⟩ (fun A hA=>?_))
  ·have:=wZ.out A hA;simp at hc this;omega
  ·have:=wZ.out A hA;simp at this;omega
 ·have hle:(1099511627776:Int)<(x.pt.len:Int):=by
   rw[hlen];rcases kb (af T k).length with⟨_,h⟩|⟨_,h⟩ <;> rw[h] <;> omega
  have hb:Hid (∀w',_):=rq.out hl;clear rq uc A4 hlen hl;obtain⟨xl,xr,⟨p1,p2,p3,p4⟩⟩:=x;simp only[]at *;unfold z8 at hB hK;go_enter Tryz.func99,Tryz.ntmps99
  go_wp2_with (go_at_call 144;refine(D8.out _ hK.out).mono ?_;rintro _ w2 ⟨rfl,k2⟩;have B2:Hid (ah _ _ _ _):=hB.out.kept k2 (by simp);have K2:Hid (Kept [] w w2):=hK.out.trans k2;have YS:=B2.out.lt;obtain⟨g0,g1,g2,g3,g4,g5,g6,g7,gl⟩:=oG B2.out;obtain⟨f0,f1,f2,f3,f4,f5,f6,f7⟩:=nZ B2.out)
  have B6:=(Wu B2.out (.int .i64 0) (.int .i64 0) (.pointer none) (.int .u64 0) (.int .i64 0) (.int .u64 0) (.int .u64 0) (.int .i64 0)).alloc (.cells #[.int .i64 (xl:Int),.int .i64 (xr:Int),.int .i64 (p1:Int),.int .i64 (p2:Int),.int .i64 (p3:Int),.int .i64 (p4:Int)] 221);obtain⟨x0,x1,x2,x3,x4,x5,x6,x7,_⟩:=oG B6;refine bodyPost_ret (v:=.agg (cT {} none)) (by simp[results,Tryz.results99,go_sem,cT,x0,x1,x2,x3,x4,x5,x6,x7]) rfl (hb.out _ ((FP K2.out (Nat.le_refl _) _ _ _ _ _ _ _ _).alloc _))
end
theorem LH:(Tryz.prog.info? 169).map (fun i=>(i.zero,i.size,i.bytes))=some (some (.agg z8),8,64):=by kernel_rfl
theorem Wx(n:Nat):madeCells z8 (n*8)=sj (fun _=>({},none)) n:=by
 unfold madeCells sj br;apply Array.ext
 ·simp;omega
 ·intro j h1 h2;have hj:j % 8=0\/j % 8=1\/j % 8=2\/j % 8=3\/j % 8=4\/j % 8=5\/j % 8=6\/j % 8=7:=by omega
  simp only[List.getElem_toArray,List.getElem_map,List.getElem_range,Array.getElem_map,Array.getElem_range];unfold wG;have e:z8.size=8:=rfl;rw[e];rcases hj with hj|hj|hj|hj|hj|hj|hj|hj <;> rw[hj] <;> rfl
theorem PX{w:World}{base g n:Nat}{e:TypeId}(h:w.ownsRow base e 8 (.slice (some ⟨g,0,none⟩) n n) n (madeCells z8 (n*8)).toList):ah w g (sj (fun _=>({},none)) n) e:=by
 rcases h.2 with⟨h1,_⟩|⟨g',cap,cur,h1,h2,h3,h4,h5,h6,h7⟩
 ·simp at h1
 ·simp only[Value.slice.injEq,Option.some.injEq,Addr.mk.injEq,and_true,true_and]at h1;obtain⟨rfl,rfl⟩:=h1;have hc:cur=sj (fun _=>({},none)) n:=by
   rw[<-Wx];apply Array.ext';rw[<-h7,List.take_of_length_le];rw[Array.length_toList,h6];exact Nat.le_refl _
  rw[<-hc];exact h3
structure NI (w wr:World)(bt n N:Nat)(inv:Bool)(mx:Int)(M:MP)(t:TT)(rv sv:Value)(T:List (List Nat))(ps:C7)(i:Nat):Prop where
 k:Kept [] w wr
 r:ah wr (w.heap.size+1) #[.pointer none,.int .u64 0,.bool false,.int .i64 0,.slice none 0 0] 60
 si:SI wr (w.heap.size+1+1) bt (w.heap.size+1+1+1) n N w.heap.size M.cL inv mx M t rv sv T ps i
structure Tn (w w':World)(bt n N:Nat)(inv:Bool)(mx:Int)(M:MP)(t:TT)(rv sv:Value)(T:List (List Nat))(e:Ending):Prop where
 k:Kept [] w w'
 ex:∃gp ps,e=.returned (.agg (jD bt M.cL inv mx (.slice (some ⟨gp,0,none⟩) n n)))/\w.heap.size<=gp/\SP w' bt gp n N w.heap.size inv M t rv sv T ps n
theorem NI.kept{w wr wq:World}{bt n N:Nat}{inv:Bool}{mx:Int}{M:MP}{t:TT}{rv sv:Value}{T:List (List Nat)}{ps:C7}{i:Nat}(h:NI w wr bt n N inv mx M t rv sv T ps i)(q:Kept [] wr wq):NI w wq bt n N inv mx M t rv sv T ps i:=
 ⟨h.k.trans q,h.r.kept q (by simp),h.si.kept q⟩
theorem NI.put{w wr:World}{bt n N:Nat}{inv:Bool}{mx:Int}{M:MP}{t:TT}{rv sv:Value}{T:List (List Nat)}{ps:C7}{i:Nat}(h:NI w wr bt n N inv mx M t rv sv T ps i)(p:oM)(a:Option Addr)(hp:Real T i->od M inv (af T i) p/\sh wr p a)(ha:∀A,a=some A->(N<=A.block/\A.block<w.heap.size)\/w.heap.size+1+1+1<A.block):
 NI w (PV wr (w.heap.size+1+1+1) (i*8) p a) bt n N inv mx M t rv sv T (FQ ps i (p,a)) (i+1):=by
 have q:=xU wr (w.heap.size+1+1+1) (i*8) p a;exact⟨h.k.cf q (by omega),h.r.kept q (by simp),⟨h.si.s.kept q (by simp),h.si.sp.put p a hp ha⟩⟩
theorem Wy{w:World}{bt gm N:Nat}{M:MP}{t:TT}{rv sv:Value}{T:List (List Nat)}(tr:TR w N bt t rv sv)(hN:N<=w.heap.size)(hS:Sound t.rules T)(hR:t.rules.length<=9000)(hM:fq w gm M)(hgN:N<=gm)(inv fold whole num:Bool)(mx:Int):
 Calls Tryz.prog 57 #[.pointer (some ⟨bt,0,none⟩),.pointer (some ⟨gm,0,none⟩),.agg #[.bool inv,.bool fold,.bool whole,.bool num,.int .i64 mx]] w fun e w'=>Tn w w' bt (256+t.rules.length) N inv mx M t rv sv T e:=by
 obtain⟨i0,kQ,jh,dP,dB⟩:=info_parts LH;have m0:=hM.cL;have lm:=ah.lt hM;have lb:=tr.aD.lt;obtain⟨ra,rk,rc,rfl⟩:=bp tr.rules;have hrk:rk=t.rules.length:=by
  rcases tr.rules.2 with⟨h1,h2⟩|⟨g,cap,_,h1,_⟩
  ·simp at h1;omega
  ·simp at h1;omega
 subst hrk;have c2:w.cell? ⟨bt,2,none⟩=some (.slice ra t.rules.length rc):=tr.cell 2;have xi:Hid (∀w' (c:Nat),Kept [] w w'->c<256->Calls _ _ _ w' _):=fun w' c k hc=>Th (ah.kept hM k (by simp)) c hc;have D8:Hid (∀wr ps i,NI w wr bt (256+t.rules.length) N inv mx M t (.slice ra t.rules.length rc) sv T ps i->256<=i->i<256+t.rules.length->Calls _ _ _ wr _):=fun wr ps i h h1 h2=>PW h.si hS hR h1 h2;have dy:Hid (∀w1,w1.ownsRow (w.heap.size+1+1+1) 169 8 (.slice (some ⟨w.heap.size+1+1+1,0,none⟩) (256+t.rules.length) (256+t.rules.length)) (256+t.rules.length) (madeCells z8 ((256+t.rules.length)*8)).toList->∀W1,Kept [] w W1->Kept [] W1 w1->ah W1 (w.heap.size+1) #[.pointer none,.int .u64 0,.bool false,.int .i64 0,.slice none 0 0] 60->ah W1 (w.heap.size+1+1) #[.pointer (some ⟨bt,0,none⟩),UV M.cL,.bool inv,.int .i64 mx,.slice none 0 0] 60 ->
  NI w (w1.setCell ⟨w.heap.size+1+1,4,none⟩ (.slice (some ⟨w.heap.size+1+1+1,0,none⟩) (256+t.rules.length) (256+t.rules.length))) bt (256+t.rules.length) N inv mx M t (.slice ra t.rules.length rc) sv T (fun _=>({},none)) 0):=fun w1 aG W1 k1 k2 b1 b2=>by
  have hp:=PX aG;have N0:=k1.trans k2;have b2':=(b2.kept k2 (by simp)).set 4 (.slice (some ⟨w.heap.size+1+1+1,0,none⟩) (256+t.rules.length) (256+t.rules.length));have q:Kept [w.heap.size+1+1] w1 (w1.setCell ⟨w.heap.size+1+1,4,none⟩ (.slice (some ⟨w.heap.size+1+1+1,0,none⟩) (256+t.rules.length) (256+t.rules.length))):=(Kept.refl _ _).setCell (Or.inl (by simp)) _;refine⟨N0.cf q (by omega),(b1.kept k2 (by simp)).kept q (by simp),b2',hp.kept q (by simp),?_,rfl,⟨hN,by omega⟩,fun j hj=>by omega⟩;exact(tr.kept N0).under (m:=w.heap.size) (q.below N0.size (by simp;omega)) hN
 have mb:256+t.rules.length<=maxLen:=by unfold maxLen;omega
 have mb2:Hid ((256:Int)+(t.rules.length:Int)=((256+t.rules.length:Nat):Int)):=by show _=_;omega
 obtain⟨RN,hRN⟩:∃RN,256+t.rules.length=RN:=⟨_,rfl⟩;rw[hRN]at D8 dy mb mb2 ⊢;have hRNb:RN<=9256:=by omega
 have hRNH:Hid (256+t.rules.length=RN):=hRN;clear hRN;have hg3:bt≠w.heap.size:=by omega
 have hg4:bt≠w.heap.size+1:=by omega
 have hg5:bt≠w.heap.size+1+1:=by omega
 have XJ:gm≠w.heap.size:=by omega
 have hg7:gm≠w.heap.size+1:=by omega
 have hg8:gm≠w.heap.size+1+1:=by omega
 have hg9:gm≠w.heap.size+2:=by omega
 have hg10:bt≠w.heap.size+2:=by omega
 have hl1:gm<w.heap.size+1:=by omega
 have YS:gm<w.heap.size+1+1:=by omega
 have hl3:bt<w.heap.size+1:=by omega
 have hl4:bt<w.heap.size+1+1:=by omega
 have yT:Hid (fq w gm M):=hM;clear hM tr hS;generalize ZD:M.cL=BG at *;have hBGH:Hid (M.cL=BG):=ZD;clear ZD;go_enter Tryz.func57,Tryz.ntmps57
 go_wp2_with fail
 go_region
 all_goals
  obtain⟨W1,qR⟩:∃W1,W1=(((w.alloc (.cells #[.bool inv,.bool fold,.bool whole,.bool num,.int .i64 mx] 23)).alloc (.cells #[.pointer none,.int .u64 0,.bool false,.int .i64 0,.slice none 0 0] 60)).alloc (.cells #[.pointer (some ⟨bt,0,none⟩),UV BG,.bool inv,.int .i64 mx,.slice none 0 0] 60)).drew:=⟨_,rfl⟩;have K1:Hid (Kept [] w W1):=by show Kept _ _ _;rw[qR];exact(((((Kept.refl [] w).alloc _).alloc _).alloc _).drew)
  have B1:Hid (ah W1 (w.heap.size+1) #[.pointer none,.int .u64 0,.bool false,.int .i64 0,.slice none 0 0] 60):=by show ah _ _ _ _;rw[qR];exact((ah.oy w _ _ _).alloc _).drew
  have B2:Hid (ah W1 (w.heap.size+1+1) #[.pointer (some ⟨bt,0,none⟩),UV BG,.bool inv,.int .i64 mx,.slice none 0 0] 60):=by show ah _ _ _ _;rw[qR];exact(ah.EZ w _ _ _ _).drew
  have dd:W1.heap.size=w.heap.size+1+1+1:=by rw[qR];simp
  rw[<-qR];clear qR;have c2':=(K1.out.cell lb 2).trans c2;have SN:Hid (W1.heap.size=w.heap.size+1+1+1):=dd;have hgsl:w.heap.size+1+1<W1.heap.size:=B2.out.lt;clear c2 m0 dd;go_wp2_with (rw[mb2.out];refine wpList_make_full W1 rfl (.tmp 24) (.tmp 24) 58 rfl (w.heap.size+1+1+1) 169 i0 _ 8 Tryz.underlying58 kQ jh dP .i64 .i64 (RN:Int) (RN:Int) RN rfl rfl rfl rfl (by rw[dB];omega) mb (by rw[SN.out];exact Nat.le_refl _) ?_;intro w1 aG hg;rw[SN.out]at aG ⊢;have kq:Hid (Kept [] W1 w1):=⟨hg.os,hg.tape,hg.output,hg.size,fun k hk _=>hg.block k hk (by simp)⟩;have b2:=B2.out.kept kq.out (by simp);have q4:w1.cell? ⟨w.heap.size+1+1,4,none⟩=some (.slice none 0 0):=b2.cell 4;have z4:=b2.frozen 4;have lz:=b2.lt;clear b2;have XK:Hid (World.ownsRow _ _ _ _ _ _ _):=aG;clear aG hg)
  have h0:Hid (NI w _ _ _ _ _ _ _ _ _ _ _ _ 0):=dy.out w1 XK.out W1 K1.out kq.out B1.out B2.out;clear XK kq K1 B1 B2 dy c2' q4 z4 lz hgsl SN mb mb2;go_loopw [8] (fun iv wr=>∃(i:Nat) (ps:C7),iv=.int .i64 (i:Int)/\i<=RN/\NI w wr bt RN N inv mx M t (.slice ra t.rules.length rc) sv T ps i) (fun iv _=>((RN:Int)-intOf iv).toNat)
  case atStart=>exact⟨0,_,rfl,Nat.zero_le _,h0.out⟩
  case round=>
   clear h0;obtain⟨i,ps,rfl,hi,hI⟩:=hrel;have q4:wr.cell? ⟨w.heap.size+1+1,4,none⟩=some (.slice (some ⟨w.heap.size+1+1+1,0,none⟩) RN RN):=hI.si.s.cell 4;have cC:Hid (NI _ _ _ _ _ _ _ _ _ _ _ _ _ _):=hI;have lr:=hI.k.size;have lgp:=hI.si.sp.p.lt;clear hI;by_cases bO:(i:Int)<(RN:Int)
   ·have oC:i<RN:=by omega
    have hmul:i*8+7<8*RN:=by omega
    have b8:Hid (∀w5,Kept [] wr w5->∀j,j<8->∃u,w5.cell? ⟨w.heap.size+1+1+1,i*8+j,none⟩=some u):=fun w5 k j hj=>by
     have hb:=cC.out.si.sp.p.kept k (by simp);have h8:j<(cT (ps i).1 (ps i).2).size:=hj;exact⟨_,by rw[hb.cell,Ej ps oC hj,Array.getElem?_eq_getElem h8]⟩
    have tH:Hid (∀w5,Kept [] wr w5->∀j,w5.frozen? ⟨w.heap.size+1+1+1,j,none⟩=false):=fun w5 k j=>(cC.out.si.sp.p.kept k (by simp)).frozen j;have KJ:Hid (∀w5,Kept [] wr w5->w5.cell? ⟨w.heap.size+1+1,4,none⟩=some (.slice (some ⟨w.heap.size+1+1+1,0,none⟩) RN RN)):=fun w5 k=>(cC.out.si.s.kept k (by simp)).cell 4;by_cases hb:(i:Int)<256
    ·have V1:i<256:=by omega
     have ZE:Hid (∀w5 p a,Kept [] wr w5->p=nm M i->sh w5 p a->(∀A,a=some A->A.block∈[gm]\/wr.heap.size<=A.block)->NI w (PV w5 (w.heap.size+1+1+1) (i*8) p a) bt RN N inv mx M t (.slice ra t.rules.length rc) sv T (FQ ps i (p,a)) (i+1)):=fun w5 p a k e hT hA=>by
      refine(cC.out.kept k).put p a (fun _=>⟨?_,hT⟩) (fun A hx=>?_)
      ·have:af T i=[i]:=if_pos V1;rw[this,e];exact IH M inv i
      ·rcases hA A hx with h|h
       ·simp at h;omega
       ·omega
     have fJ:Hid (∀w',Kept [] wr w'->Calls _ _ _ w' _):=fun w' k=>xi.out w' i (cC.out.k.trans k) V1;clear xi D8;go_wp2_with fail
     go_region_law (go_simp;go_at_call 98;refine(fJ.out _ (by first | exact(Kept.refl [] _).drew | exact Kept.refl _ _)).mono ?_;rintro _ w5 ⟨k5,a,rfl,hT,hA⟩;obtain⟨p,hp⟩:∃p,Hid (p=nm M i):=⟨_,rfl⟩;rw[<-hp.out]at hT ⊢;have K5:Hid (Kept [] wr w5):=Kept.trans (by first | exact(Kept.refl [] _).drew | exact Kept.refl _ _) k5;have pq:Hid (sh _ _ _):=hT;have wZ:Hid (∀A,a=some A->A.block∈[gm]\/wr.heap.size<=A.block):=hA;clear hT hA k5;unfold cT;have q5:=KJ.out _ K5.out;obtain⟨u0,g0'⟩:=b8.out _ K5.out 0 (by omega);have g0:w5.cell? ⟨w.heap.size+1+1+1,i*8,none⟩=some u0:=g0';clear g0';obtain⟨u1,g1⟩:=b8.out _ K5.out 1 (by omega);obtain⟨u2,g2⟩:=b8.out _ K5.out 2 (by omega);obtain⟨u3,g3⟩:=b8.out _ K5.out 3 (by omega);obtain⟨u4,g4⟩:=b8.out _ K5.out 4 (by omega);obtain⟨u5,g5⟩:=b8.out _ K5.out 5 (by omega);obtain⟨u6,g6⟩:=b8.out _ K5.out 6 (by omega);obtain⟨u7,g7⟩:=b8.out _ K5.out 7 (by omega);have f0:=tH.out _ K5.out (i*8);have f1:=tH.out _ K5.out (i*8+1);have f2:=tH.out _ K5.out (i*8+2);have f3:=tH.out _ K5.out (i*8+3);have f4:=tH.out _ K5.out (i*8+4);have f5:=tH.out _ K5.out (i*8+5);have f6:=tH.out _ K5.out (i*8+6);have f7:=tH.out _ K5.out (i*8+7))
     all_goals
      go_wp2
      refine⟨⟨i+1,_,by go_num,by omega,ZE.out _ p a K5.out hp.out pq.out wZ.out⟩,?_⟩;simp only[intOf];omega
    ·have ZE:Hid (∀w5 p a,Kept [] wr w5->(Real T i->od M inv (af T i) p/\sh w5 p a)->(∀A,a=some A->wr.heap.size<=A.block)->NI w (PV w5 (w.heap.size+1+1+1) (i*8) p a) bt RN N inv mx M t (.slice ra t.rules.length rc) sv T (FQ ps i (p,a)) (i+1)):=fun w5 p a k hT hA=>by
      refine(cC.out.kept k).put p a hT (fun A hx=>?_);have:=hA A hx;omega
     have fJ:Hid (∀w',Kept [] wr w'->Calls _ _ _ w' _):=fun w' k=>D8.out w' ps i (cC.out.kept k) (by omega) oC;clear xi D8;go_wp2_with fail
     go_region_law (go_simp;go_at_call 99;refine(fJ.out _ (by first | exact(Kept.refl [] _).drew | exact Kept.refl _ _)).mono ?_;rintro _ w5 ⟨k5,p,a,rfl,hT,hA⟩;have K5:Hid (Kept [] wr w5):=Kept.trans (by first | exact(Kept.refl [] _).drew | exact Kept.refl _ _) k5;have pq:Hid (Real T i->od M inv (af T i) p/\sh w5 p a):=hT;have wZ:Hid (∀A,a=some A->_<=A.block):=hA;clear hT hA k5;unfold cT;have q5:=KJ.out _ K5.out;obtain⟨u0,g0'⟩:=b8.out _ K5.out 0 (by omega);have g0:w5.cell? ⟨w.heap.size+1+1+1,i*8,none⟩=some u0:=g0';clear g0';obtain⟨u1,g1⟩:=b8.out _ K5.out 1 (by omega);obtain⟨u2,g2⟩:=b8.out _ K5.out 2 (by omega);obtain⟨u3,g3⟩:=b8.out _ K5.out 3 (by omega);obtain⟨u4,g4⟩:=b8.out _ K5.out 4 (by omega);obtain⟨u5,g5⟩:=b8.out _ K5.out 5 (by omega);obtain⟨u6,g6⟩:=b8.out _ K5.out 6 (by omega);obtain⟨u7,g7⟩:=b8.out _ K5.out 7 (by omega);have f0:=tH.out _ K5.out (i*8);have f1:=tH.out _ K5.out (i*8+1);have f2:=tH.out _ K5.out (i*8+2);have f3:=tH.out _ K5.out (i*8+3);have f4:=tH.out _ K5.out (i*8+4);have f5:=tH.out _ K5.out (i*8+5);have f6:=tH.out _ K5.out (i*8+6);have f7:=tH.out _ K5.out (i*8+7))
     all_goals
      go_wp2
      refine⟨⟨i+1,_,by go_num,by omega,ZE.out _ p a K5.out pq.out wZ.out⟩,?_⟩;simp only[intOf];omega
   ·have hie:i=RN:=by omega
    subst hie;have aA:Hid (∀v0 v1 v2 v3 v4,Tn w (((((wr.setCell ⟨w.heap.size+1,0,none⟩ v0).setCell ⟨w.heap.size+1,1,none⟩ v1).setCell ⟨w.heap.size+1,2,none⟩ v2).setCell ⟨w.heap.size+1,3,none⟩ v3).setCell ⟨w.heap.size+1,4,none⟩ v4) bt i N inv mx M t (.slice ra t.rules.length rc) sv T (.returned (.agg (jD bt M.cL inv mx (.slice (some ⟨w.heap.size+1+1+1,0,none⟩) i i))))):=fun v0 v1 v2 v3 v4=>by
     have q:Kept [w.heap.size+1] wr (((((wr.setCell ⟨w.heap.size+1,0,none⟩ v0).setCell ⟨w.heap.size+1,1,none⟩ v1).setCell ⟨w.heap.size+1,2,none⟩ v2).setCell ⟨w.heap.size+1,3,none⟩ v3).setCell ⟨w.heap.size+1,4,none⟩ v4):=
      (((((Kept.refl [w.heap.size+1] wr).setCell (Or.inl (by simp)) _).setCell (Or.inl (by simp)) _).setCell (Or.inl (by simp)) _).setCell (Or.inl (by simp)) _).setCell (Or.inl (by simp)) _
     exact⟨cC.out.k.cf q (by omega),_,ps,rfl,by omega,cC.out.si.sp.iN q (fun x hx=>by simp at hx;omega)⟩
    have Zx:Hid (∀v0 v1 v2 v3 v4,ah (((((wr.setCell ⟨w.heap.size+1,0,none⟩ v0).setCell ⟨w.heap.size+1,1,none⟩ v1).setCell ⟨w.heap.size+1,2,none⟩ v2).setCell ⟨w.heap.size+1,3,none⟩ v3).setCell ⟨w.heap.size+1,4,none⟩ v4) (w.heap.size+1) #[v0,v1,v2,v3,v4] 60):=fun v0 v1 v2 v3 v4=>by
     have h0:ah _ _ #[v0,.int .u64 0,.bool false,.int .i64 0,.slice none 0 0] _:=cC.out.r.set 0 v0;have h1:ah _ _ #[v0,v1,.bool false,.int .i64 0,.slice none 0 0] _:=h0.set 1 v1;have h2:ah _ _ #[v0,v1,v2,.int .i64 0,.slice none 0 0] _:=h1.set 2 v2;have h3:ah _ _ #[v0,v1,v2,v3,.slice none 0 0] _:=h2.set 3 v3;have h4:ah _ _ #[v0,v1,v2,v3,v4] _:=h3.set 4 v4;exact h4
    have qD:=cC.out.r;have hsb:=cC.out.si.s;have y0:wr.cell? ⟨w.heap.size+1,0,none⟩=some (.pointer none):=qD.cell 0;have y1:wr.cell? ⟨w.heap.size+1,1,none⟩=some (.int .u64 0):=qD.cell 1;have y2:wr.cell? ⟨w.heap.size+1,2,none⟩=some (.bool false):=qD.cell 2;have y3:wr.cell? ⟨w.heap.size+1,3,none⟩=some (.int .i64 0):=qD.cell 3;have y4:wr.cell? ⟨w.heap.size+1,4,none⟩=some (.slice none 0 0):=qD.cell 4;have e0:=qD.frozen 0;have e1:=qD.frozen 1;have e2:=qD.frozen 2;have e3:=qD.frozen 3;have e4:=qD.frozen 4;have s0:wr.cell? ⟨w.heap.size+1+1,0,none⟩=some (.pointer (some ⟨bt,0,none⟩)):=hsb.cell 0;have s1:wr.cell? ⟨w.heap.size+1+1,1,none⟩=some (UV M.cL):=hsb.cell 1;have s2:wr.cell? ⟨w.heap.size+1+1,2,none⟩=some (.bool inv):=hsb.cell 2;have s3:wr.cell? ⟨w.heap.size+1+1,3,none⟩=some (.int .i64 mx):=hsb.cell 3;have ly:=qD.lt;clear qD hsb D8 xi;go_wp2
    obtain⟨x0,x1,x2,x3,x4⟩:_/\_/\_/\_/\_:=(fun b=>⟨b.cell 0,b.cell 1,b.cell 2,b.cell 3,b.cell 4⟩) (Zx.out (.pointer (some ⟨bt,0,none⟩)) (UV M.cL) (.bool inv) (.int .i64 mx) (.slice (some ⟨w.heap.size+1+1+1,0,none⟩) i i));refine bodyPost_ret (v:=.agg (jD bt M.cL inv mx (.slice (some ⟨w.heap.size+1+1+1,0,none⟩) i i))) (by simp[results,Tryz.results57,go_sem,jD,x0,x1,x2,x3,x4]) rfl (aA.out _ _ _ _ _)
end Go.Proofs.YtgifhgnccmnbiabGreatDoor
