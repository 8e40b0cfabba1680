/- Part of the proof. -/
import Derived.Test.YtgifhgnccmnbiabGreatDoorG20
import Derived.Test.YtgifhgnccmnbiabGreatDoorG11
import Derived.Test.YtgifhgnccmnbiabGreatDoorG17
import Derived.Lib.AppendStr
import Derived.Deep.DeepCutAuto
import Derived.BigQuiet
set_option linter.unusedVariables false
set_option linter.unusedSimpArgs false
set_option maxHeartbeats 4000000
set_option maxRecDepth 100000
namespace Go.Proofs.YtgifhgnccmnbiabGreatDoor
open Go.RowKit Go.IntWalk
def lK(r:Nat×PS)(fold whole:Bool):MP:=iO (iP r.2.2 (gE r.2.2 r.2.2.length) fold whole)
theorem Qa{p:ByteArray}{x:Int}(h:zv p x)(inv fold whole num:Bool)(mx:Int)(w:World)(tV:0<=mx)(hp:p.size<=maxLen):
 Calls Tryz.prog 55 #[.agg #[.bool inv,.bool fold,.bool whole,.bool num,.int .i64 mx],.string p] w fun e w'=>e=.returned (.tuple #[.agg #[.slice none 0 0,.int .i64 0],.int .i64 x])/\Below w.heap.size w w':=by
 by_cases hlen:40<p.size
 ·rw[h.one (Or.inl ⟨hlen,rfl⟩)];exact KH inv fold whole num mx p w tV hlen hp
 ·refine(DI inv fold whole num mx p w tV (by omega)).mono ?_;rintro e w' ⟨h1,r,ev,lF,hc⟩;refine⟨?_,h1⟩;rcases hc with⟨h4,rfl⟩|⟨h4,h5,rfl⟩|⟨h4,h5,_⟩
  ·rw[h.one (Or.inr ⟨by omega,r,ev,Or.inl ⟨h4,rfl⟩⟩)]
  ·rw[h.one (Or.inr ⟨by omega,r,ev,Or.inr ⟨h4,h5,rfl⟩⟩)]
  ·exact absurd h (fun hE=>iy.not ⟨by omega,ev,h4,h5⟩ hE)
structure RdOk (w w':World)(p:ByteArray)(r:Nat×PS)(e:Ending):Prop where
 below:Below w.heap.size w w'
 ex:∃b ao n c xs,w.heap.size<=b/\NV w' b p r.2.1 r.2.2 (.slice ao n c) xs/\e=.returned (.tuple #[.agg #[.slice ao n c,.int .i64 (au r.2.2 r.1)],.int .i64 0])
theorem I0{p:ByteArray}{r:Nat×PS}(h:iy p r)(inv fold whole num:Bool)(mx:Int)(w:World)(tV:0<=mx):
 Calls Tryz.prog 55 #[.agg #[.bool inv,.bool fold,.bool whole,.bool num,.int .i64 mx],.string p] w fun e w'=>RdOk w w' p r e:=by
 refine(DI inv fold whole num mx p w tV h.small).mono ?_;rintro e w' ⟨h1,r',ev,lF,hc⟩;have he:=h.ev.one ev;subst he;rcases hc with⟨h4,rfl⟩|⟨h4,h5,rfl⟩|⟨h4,h5,b,ao,n,c,xs,hb,hn,rfl⟩
 ·exact absurd h4 h.ej
 ·have:=h.size;omega
 ·exact⟨h1,b,ao,n,c,xs,hb,hn,rfl⟩
def iq:Array Value:=#[.pointer none,.int .u64 0,.bool false,.int .i64 0,.slice none 0 0]
theorem ZO{w:World}{g:Nat}{c0 c1 c2 c3 c4:Value}{t:TypeId}(h:ah w g #[c0,c1,c2,c3,c4] t)(v0 v1 v2 v3 v4:Value):
 ah (((((w.setCell ⟨g,0,none⟩ v0).setCell ⟨g,1,none⟩ v1).setCell ⟨g,2,none⟩ v2).setCell ⟨g,3,none⟩ v3).setCell ⟨g,4,none⟩ v4) g #[v0,v1,v2,v3,v4] t:=by
 have h0:ah _ g #[v0,c1,c2,c3,c4] t:=h.set 0 v0;have h1:ah _ g #[v0,v1,c2,c3,c4] t:=h0.set 1 v1;have h2:ah _ g #[v0,v1,v2,c3,c4] t:=h1.set 2 v2;have h3:ah _ g #[v0,v1,v2,v3,c4] t:=h2.set 3 v3;have h4:ah _ g #[v0,v1,v2,v3,v4] t:=h3.set 4 v4;exact h4
theorem C8{w:World}{g:Nat}{c0 c1 c2 c3 c4:Value}{t:TypeId}(h:ah w g #[c0,c1,c2,c3,c4] t):
 w.cell? ⟨g,0,none⟩=some c0/\w.cell? ⟨g,1,none⟩=some c1/\w.cell? ⟨g,2,none⟩=some c2/\w.cell? ⟨g,3,none⟩=some c3/\w.cell? ⟨g,4,none⟩=some c4/\g<w.heap.size:=
 ⟨h.cell 0,h.cell 1,h.cell 2,h.cell 3,h.cell 4,h.lt⟩
theorem TH{w:World}{g:Nat}{cs:Array Value}{t:TypeId}(h:ah w g cs t):
 w.frozen? ⟨g,0,none⟩=false/\w.frozen? ⟨g,1,none⟩=false/\w.frozen? ⟨g,2,none⟩=false/\w.frozen? ⟨g,3,none⟩=false/\w.frozen? ⟨g,4,none⟩=false:=
 ⟨h.frozen 0,h.frozen 1,h.frozen 2,h.frozen 3,h.frozen 4⟩
structure OW (w x:World)(o:Array Value):Prop where
 b:Below w.heap.size w x
 o:ah x w.heap.size o 23
 r:ah x (w.heap.size+1) iq 60
 lt:w.heap.size+1<x.heap.size
theorem OW.begin(w:World)(o:Array Value):OW w ((w.alloc (.cells o 23)).alloc (.cells iq 60)) o:=
 ⟨((Below.refl _ _).alloc (Nat.le_refl _) _).alloc (by simp) _,(ah.new w _ _).alloc _,ah.oy w _ _ _,by simp⟩
theorem OW.more{w x y:World}{o:Array Value}(h:OW w x o)(b:Below x.heap.size x y):OW w y o:=
 ⟨h.b.trans (b.mono h.b.size),(b.block _ h.o.lt).trans h.o,(b.block _ h.r.lt).trans h.r,Nat.lt_of_lt_of_le h.lt b.size⟩
theorem OW.kept{w x y:World}{o:Array Value}(h:OW w x o)(k:Kept [] x y):OW w y o:=h.more (k.below (Nat.le_refl _) (by simp))
theorem LQ{w x:World}{g:Nat}(h:Below w.heap.size w x)(hg:w.heap.size<=g)(v0 v1 v2 v3 v4:Value):
 Below w.heap.size w (((((x.setCell ⟨g,0,none⟩ v0).setCell ⟨g,1,none⟩ v1).setCell ⟨g,2,none⟩ v2).setCell ⟨g,3,none⟩ v3).setCell ⟨g,4,none⟩ v4):=
 ((((h.setCell hg _).setCell hg _).setCell hg _).setCell hg _).setCell hg _
theorem TI{inv fold whole num:Bool}{mx x:Int}{p f:ByteArray}(w:World)(hx:x≠0)(hc:∀w,Calls Tryz.prog 55 #[.agg #[.bool inv,.bool fold,.bool whole,.bool num,.int .i64 mx],.string p] w fun e w'=>e=.returned (.tuple #[.agg #[.slice none 0 0,.int .i64 0],.int .i64 x])/\Below w.heap.size w w'):
 Calls Tryz.prog 30 #[.agg #[.bool inv,.bool fold,.bool whole,.bool num,.int .i64 mx],.string p,.string f] w fun e w'=>e=.returned (.tuple #[.agg iq,.int .i64 x])/\Below w.heap.size w w':=by
 have xX:Hid (∀w,Calls _ _ _ w _):=hc;have h0:Hid (OW w _ #[.bool inv,.bool fold,.bool whole,.bool num,.int .i64 mx]):=OW.begin w _;clear hc;unfold iq at h0;have hxb:(x != 0)=true:=by simp[hx]
 go_enter Tryz.func30,Tryz.ntmps30
 go_wp2_with (go_at_call 55;refine(xX.out _).mono ?_;rintro e w1 ⟨rfl,b1⟩;have O1:Hid (OW w w1 _):=h0.out.more b1;have R1:ah w1 (w.heap.size+1) #[.pointer none,.int .u64 0,.bool false,.int .i64 0,.slice none 0 0] 60:=O1.out.r;obtain⟨g0,g1,g2,g3,g4,gl⟩:=C8 R1;obtain⟨f0,f1,f2,f3,f4⟩:=TH R1;clear R1)
 have R2:ah w1 (w.heap.size+1) #[.pointer none,.int .u64 0,.bool false,.int .i64 0,.slice none 0 0] 60:=O1.out.r;have R3:=(ZO R2 (.pointer none) (.int .u64 0) (.bool false) (.int .i64 0) (.slice none 0 0)).alloc (.cells #[.slice none 0 0,.int .i64 0] 93);obtain⟨x0,x1,x2,x3,x4,_⟩:=C8 R3;refine bodyPost_ret (v:=.tuple #[.agg iq,.int .i64 x]) (by simp[results,Tryz.results30,go_sem,iq,x0,x1,x2,x3,x4]) rfl ⟨rfl,?_⟩;exact(LQ O1.out.b (by omega) _ _ _ _ _).alloc (by have:=O1.out.b.size;simpa using this) _
theorem gZ{w w':World}(h:Below w.heap.size w w'):Kept [] w w':=⟨h.os,h.tape,h.output,h.size,fun k hk _=>h.block k hk⟩
structure OpOk (w w':World)(inv:Bool)(mx:Int)(M:MP)(t:TT)(T:List (List Nat))(e:Ending):Prop where
 below:Below w.heap.size w w'
 ex:∃bt gp N L rv sv ps,e=.returned (.tuple #[.agg (jD bt M.cL inv mx (.slice (some ⟨gp,0,none⟩) (256+t.rules.length) (256+t.rules.length))),.int .i64 0])/\SP w' bt gp (256+t.rules.length) N L inv M t rv sv T ps (256+t.rules.length)
theorem LR{inv fold whole num:Bool}{mx x:Int}{p f:ByteArray}{r:Nat×PS}(h:iy p r)(w:World)(tV:0<=mx)(hx:x≠0)(hf:∀w,Calls Tryz.prog 45 #[.string f] w fun e w'=>e=.returned (.tuple #[.agg az,.int .i64 x])/\Below w.heap.size w w'):
 Calls Tryz.prog 30 #[.agg #[.bool inv,.bool fold,.bool whole,.bool num,.int .i64 mx],.string p,.string f] w fun e w'=>e=.returned (.tuple #[.agg iq,.int .i64 x])/\Below w.heap.size w w':=by
 have hc:Hid (∀w,Calls _ _ _ w _):=fun w=>I0 h inv fold whole num mx w tV;have QZ:Hid (∀w,Calls _ _ _ w _):=hf;have h0:Hid (OW w _ #[.bool inv,.bool fold,.bool whole,.bool num,.int .i64 mx]):=OW.begin w _;clear h hf;unfold iq at h0;unfold az at QZ;have hxb:(x != 0)=true:=by simp[hx]
 go_enter Tryz.func30,Tryz.ntmps30
 go_wp2_with fail
 refine(hc.out _).mono ?_;rintro e w1 ⟨b1,b,ao,n,c,xs,hb,hn,rfl⟩;have O1:Hid (OW w w1 _):=h0.out.more b1;clear h0 hc hb hn b1;go_wp2_with fail
 refine(QZ.out _).mono ?_;rintro e w2 ⟨rfl,b2⟩;have O2:Hid (OW w w2 _):=(O1.out.kept ((Kept.refl [] w1).alloc _)).more b2;have R1:ah w2 (w.heap.size+1) #[.pointer none,.int .u64 0,.bool false,.int .i64 0,.slice none 0 0] 60:=O2.out.r;obtain⟨g0,g1,g2,g3,g4,gl⟩:=C8 R1;obtain⟨f0,f1,f2,f3,f4⟩:=TH R1;clear R1 b2 O1;go_wp2
 have R2:ah w2 (w.heap.size+1) #[.pointer none,.int .u64 0,.bool false,.int .i64 0,.slice none 0 0] 60:=O2.out.r;have R3:=(ZO R2 (.pointer none) (.int .u64 0) (.bool false) (.int .i64 0) (.slice none 0 0)).alloc (.cells #[.int .i64 0,.int .i64 0,.slice none 0 0,.slice none 0 0,.int .i64 0,.int .i64 0,.int .i64 0,.int .i64 0] 86);obtain⟨x0,x1,x2,x3,x4,_⟩:=C8 R3;refine bodyPost_ret (v:=.tuple #[.agg iq,.int .i64 x]) (by simp[results,Tryz.results30,go_sem,iq,x0,x1,x2,x3,x4]) rfl ⟨rfl,?_⟩;exact(LQ O2.out.b (by omega) _ _ _ _ _).alloc (by have:=O2.out.b.size;simpa using this) _
theorem TJ{inv fold whole num:Bool}{mx:Int}{p f:ByteArray}{r:Nat×PS}{t:TT}{T:List (List Nat)}(h:iy p r)(w:World)(tV:0<=mx)(hS:pJ t T)(hf:∀w,Calls Tryz.prog 45 #[.string f] w fun e w'=>Below w.heap.size w w'/\∃rv sv,tD w' w.heap.size t rv sv/\e=.returned (.tuple #[.agg (t.cells rv sv),.int .i64 0])):
 Calls Tryz.prog 30 #[.agg #[.bool inv,.bool fold,.bool whole,.bool num,.int .i64 mx],.string p,.string f] w fun e w'=>OpOk w w' inv mx (lK r fold whole) t T e:=by
 have hc:Hid (∀w,Calls _ _ _ w _):=fun w=>I0 h inv fold whole num mx w tV;obtain⟨rd1,rd2,rd3,rd4,rd5⟩:=ON p r h.small h.ev h.ej h.size;have QZ:Hid (∀w,Calls _ _ _ w _):=hf;have ZP:Hid (pJ t T):=hS;have wv:=hS.WD;have h0:Hid (OW w _ #[.bool inv,.bool fold,.bool whole,.bool num,.int .i64 mx]):=OW.begin w _;clear h hf hS;unfold iq at h0;have hzm:=uo;obtain⟨M,hM⟩:∃M,lK r fold whole=M:=⟨_,rfl⟩;rw[hM];have yT:Hid (iO (iP r.2.2 (gE r.2.2 r.2.2.length) fold whole)=M):=hM;clear hM;go_enter Tryz.func30,Tryz.ntmps30
 go_wp2_with fail
 refine(hc.out _).mono ?_;rintro e w1 ⟨b1,b,ao,n,c,xs,hb,hn,rfl⟩;have O1:Hid (OW w w1 _):=h0.out.more b1;have LS:Hid (∀w',Kept [] w1 w'->Calls _ _ _ w' _):=fun w' k=>OH r.2.2 xs (b+1) (.slice ao n c) (au r.2.2 r.1) fold whole w' (hn.VU.kept k) rd1 rd2 rd3 rd4 rd5;rw[yT.out]at LS;clear h0 hc hb hn b1 rd1 rd2 rd3 rd4 rd5;generalize au r.2.2 r.1=SZ at *;have P1:Hid (ah (w1.alloc (.cells #[.slice ao n c,.int .i64 (SZ:Int)] 93)) w1.heap.size #[.slice ao n c,.int .i64 (SZ:Int)] 93):=ah.new w1 _ _;have O1a:Hid (OW w (w1.alloc (.cells #[.slice ao n c,.int .i64 (SZ:Int)] 93)) _):=O1.out.kept ((Kept.refl [] w1).alloc _);have K1a:Hid (Kept [] w1 (w1.alloc (.cells #[.slice ao n c,.int .i64 (SZ:Int)] 93))):=(Kept.refl [] w1).alloc _;go_wp2_with fail
 refine(QZ.out _).mono ?_;rintro e w2 ⟨b2,rv,sv,AB,rfl⟩;have k2:=gZ b2;have P2:Hid (ah w2 w1.heap.size _ _):=P1.out.kept k2 (by simp);have O2:Hid (OW w w2 _):=O1a.out.kept k2;have K2:Hid (Kept [] w1 w2):=K1a.out.trans k2;have hTR:Hid (TR (w2.alloc (.cells (t.cells rv sv) 86)) (w2.heap.size+1) w2.heap.size t rv sv):=
  ⟨ah.new w2 _ _,aQ (S:=[]) (zL AB.rules (Nat.zero_le _)) ((Kept.refl [] w2).alloc _) (fun _ _=>by simp),aQ (S:=[]) (zL AB.start (Nat.zero_le _)) ((Kept.refl [] w2).alloc _) (fun _ _=>by simp),Nat.lt_succ_self _,fun g hg=>by have:=(AB.rules.lt g hg).2;omega,fun g hg=>by have:=(AB.start.lt g hg).2;omega⟩
 have k3:Hid (Kept [] w2 (w2.alloc (.cells (t.cells rv sv) 86))):=(Kept.refl [] w2).alloc _;obtain⟨ra,rn,rc,rfl⟩:=bp AB.rules;obtain⟨sa,sn,sc,rfl⟩:=bp AB.start;have jn:Hid (w.heap.size+1<w2.heap.size/\(∀g,(Value.slice ra rn rc).ownBlock=some g->w.heap.size+1<g)/\∀g,(Value.slice sa sn sc).ownBlock=some g->w.heap.size+1<g):=by
  have h1:=O1.out.lt;have h2:=K2.out.size;refine⟨by omega,fun g hg=>?_,fun g hg=>?_⟩
  ·have:=(AB.rules.lt g hg).1;simp at this;omega
  ·have:=(AB.start.lt g hg).1;simp at this;omega
 clear P1 O1a K1a b2 k2 AB QZ O1;obtain⟨d0,d1,dl⟩:_/\_/\_:=(fun B:ah w2 w1.heap.size #[.slice ao n c,.int .i64 (SZ:Int)] 93=>⟨B.cell 0,B.cell 1,B.lt⟩) P2.out;have Ob:ah w2 w.heap.size #[.bool inv,.bool fold,.bool whole,.bool num,.int .i64 mx] 23:=O2.out.o;obtain⟨o0,o1,o2,o3,o4,ol⟩:=C8 Ob;have Tj:w1.heap.size≠w2.heap.size:=by omega
 have PJ:w.heap.size≠w2.heap.size:=by omega
 clear Ob;unfold TT.cells at hTR k3 ⊢;go_wp2_with fail
 refine(LS.out _ (K2.out.trans k3.out)).mono ?_;rintro e w5 ⟨rfl,k5⟩;have K5:Hid (Kept [] w2 w5):=k3.out.trans k5;have O5:Hid (OW w w5 _):=O2.out.kept K5.out;have T5:Hid (TR w5 _ _ _ _ _):=hTR.out.kept k5;have hN5:Hid (w2.heap.size+1<=w5.heap.size):=T5.out.aD.lt;have Ob:ah w5 w.heap.size #[.bool inv,.bool fold,.bool whole,.bool num,.int .i64 mx] 23:=O5.out.o;obtain⟨p0,p1,p2,p3,p4,pl⟩:=C8 Ob;clear Ob k3 hTR k5 LS K2;go_wp2_with (
  with_reducible refine cJ ?_ (.tmp 11) (.tmp 36) ?_ w5.heap.size ?_ {} M ?_ ?_ ?_
  ·rfl
  ·rfl
  ·rfl
  ·rfl
  ·exact ah.new w5 (aI {}) 101
  intro w6 ud hk6 hs6;have K6:Hid (Kept [] w5 w6):=((Kept.refl [] w5).alloc (.cells (aI {}) 101)).cf hk6 (Nat.le_refl _);have O6:Hid (OW w w6 _):=O5.out.kept K6.out;have Ob:ah w6 w.heap.size #[.bool inv,.bool fold,.bool whole,.bool num,.int .i64 mx] 23:=O6.out.o;obtain⟨q0,q1,q2,q3,q4,ql⟩:=C8 Ob;have M6:Hid (fq w6 w5.heap.size M):=ud;clear Ob hk6 hs6 ud)
 have T6:Hid (TR w6 _ _ _ _ _):=T5.out.kept K6.out;have hN6:w2.heap.size+1<=w6.heap.size:=Nat.le_trans hN5.out K6.out.size;refine(Wy T6.out hN6 ZP.out.sound wv M6.out hN5.out inv fold whole num mx).mono ?_;rintro e w7 ⟨k7,gp,ps,rfl,hgp,WK⟩;have O7:Hid (OW w w7 _):=O6.out.kept k7;have R7:ah w7 (w.heap.size+1) #[.pointer none,.int .u64 0,.bool false,.int .i64 0,.slice none 0 0] 60:=O7.out.r;obtain⟨g0,g1,g2,g3,g4,gl⟩:=C8 R7;obtain⟨f0,f1,f2,f3,f4⟩:=TH R7;have hspH:Hid (SP _ _ _ _ _ _ _ _ _ _ _ _ _ _):=WK;clear R7 WK k7 hgp;unfold jD;go_wp2
 have R8:ah w7 (w.heap.size+1) #[.pointer none,.int .u64 0,.bool false,.int .i64 0,.slice none 0 0] 60:=O7.out.r;have R9:=ZO R8 (.pointer (some ⟨w2.heap.size,0,none⟩)) (UV M.cL) (.bool inv) (.int .i64 mx) (.slice (some ⟨gp,0,none⟩) (256+t.rules.length) (256+t.rules.length));obtain⟨x0,x1,x2,x3,x4,_⟩:=C8 R9;refine bodyPost_ret (v:=.tuple #[.agg (jD w2.heap.size M.cL inv mx (.slice (some ⟨gp,0,none⟩) (256+t.rules.length) (256+t.rules.length))),.int .i64 0]) (by simp[results,Tryz.results30,go_sem,jD,x0,x1,x2,x3,x4]) rfl ⟨LQ O7.out.b (by omega) _ _ _ _ _,w2.heap.size,gp,w2.heap.size+1,w6.heap.size,.slice ra rn rc,.slice sa sn sc,ps,rfl,?_⟩;obtain⟨ck,jm,pS⟩:=jn.out;have q:Kept [w.heap.size+1] w7 (((((w7.setCell ⟨w.heap.size+1,0,none⟩ (.pointer (some ⟨w2.heap.size,0,none⟩))).setCell ⟨w.heap.size+1,1,none⟩ (UV M.cL)).setCell ⟨w.heap.size+1,2,none⟩ (.bool inv)).setCell ⟨w.heap.size+1,3,none⟩ (.int .i64 mx)).setCell ⟨w.heap.size+1,4,none⟩ (.slice (some ⟨gp,0,none⟩) (256+t.rules.length) (256+t.rules.length))):=
  (((((Kept.refl [w.heap.size+1] w7).setCell (Or.inl (by simp)) _).setCell (Or.inl (by simp)) _).setCell (Or.inl (by simp)) _).setCell (Or.inl (by simp)) _).setCell (Or.inl (by simp)) _
 have tr:=hspH.out.tr;refine hspH.out.Tm q (fun x hx=>by simp at hx;omega) ⟨tr.aD.kept q (by simp;omega),aQ tr.rules q (fun g hg=>?_),aQ tr.start q (fun g hg=>?_),tr.low,tr.Wp,tr.Wq⟩
 ·have:=jm g hg;simp;omega
 ·have:=pS g hg;simp;omega
def du(aj:List Nat)(x:DN):List Value:=[.int .i64 x.kind,if x.kind<=3 then ptrTo aj x.part else .pointer none,.int .i64 (x.next:Int),.int .i64 (x.other:Int)]
def np(aj:List Nat)(N:List DN):List Value:=N.flatMap (du aj)
theorem xY(aj:List Nat):∀(l:List DN) (i j:Nat) (x:DN),l[i]?=some x->j<4->(np aj l)[i*4+j]?=(du aj x)[j]?
 | [],i,j,x,h,_=>by simp at h
 | y :: l,0,j,x,h,hj=>by
   simp only[List.getElem?_cons_zero,Option.some.injEq]at h;subst h;show(du aj y++np aj l)[0*4+j]?=_;rw[List.getElem?_append_left (by simp[du];omega)];congr 1;omega
 | y :: l,i+1,j,x,h,hj=>by
   rw[List.getElem?_cons_succ]at h;show(du aj y++np aj l)[(i+1)*4+j]?=_;rw[List.getElem?_append_right (by simp[du];omega),show(i+1)*4+j-(du aj y).length=i*4+j by simp[du];omega];exact xY aj l i j x h hj
theorem LU(aj:List Nat)(l:List DN)(x:DN):np aj (l++[x])=np aj l++du aj x:=by simp[np]
structure gC (w:World)(mb:Nat)(D:fo)(aj:List Nat)(F:Nat->Prop)(num:Bool)(mx:Int)(gn cap:Nat):Prop where
 aD:ah w mb #[.bool D.inv,.bool D.fold,.bool D.whole,.bool num,.int .i64 mx,.slice (some ⟨gn,0,none⟩) D.nodes.length cap,.int .i64 (D.start:Int)] 127
 row:w.ownsRow 0 190 4 (.slice (some ⟨gn,0,none⟩) D.nodes.length cap) D.nodes.length (np aj D.nodes)
 parts:AZ w D.ps aj F
section
variable {w w':World}{mb gn cap:Nat}{D:fo}{aj:List Nat}{F:Nat->Prop}{num:Bool}{mx:Int}
theorem gC.kept(h:gC w mb D aj F num mx gn cap)(k:Kept [] w w'):gC w' mb D aj F num mx gn cap:=
 ⟨h.aD.kept k (by simp),aQ (S:=[]) h.row k (fun _ _=>by simp),h.parts.kept k⟩
theorem gC.node(h:gC w mb D aj F num mx gn cap){i:Nat}{x:DN}(hx:D.nodes[i]?=some x){j:Nat}(hj:j<4):w.cell? ⟨gn,i*4+j,none⟩=(du aj x)[j]?:=by
 have hu:∃u,(du aj x)[j]?=some u:=⟨_,List.getElem?_eq_getElem (by simp[du];omega)⟩;obtain⟨u,hu⟩:=hu;have:=h.row.cells (g:=gn) rfl (i*4+j) u (by rw[xY aj _ _ _ _ hx hj];exact hu);rw[cK]at this;rw[this,hu]
theorem gC.lt(h:gC w mb D aj F num mx gn cap):gn<w.heap.size:=(h.row.lt gn rfl).2
end
theorem nr{w w':World}{v:Value}{base e z k:Nat}{xs:List Value}{g:Nat}{cs:Array Value}{t:TypeId}(hr:w.ownsRow base e z v k xs)(hg:w.grownBy w' v.ownBlock)(hb:ah w g cs t)(ht:t≠e):ah w' g cs t:=
 (hg.block g hb.lt (fun hc=>absurd (lk hr hb hc.symm) ht)).trans hb
theorem uI{w:World}{mb gn cap:Nat}{D:fo}{aj:List Nat}{F:Nat->Prop}{num:Bool}{mx:Int}(h:gC w mb D aj F num mx gn cap)(hn:D.nodes.length<=10000):
 Calls Tryz.prog 64 #[.pointer (some ⟨mb,0,none⟩)] w fun e w'=>FK w w' e (3+D.nodes.length) (fun k=>k==0):=by
 have c1:w.cell? ⟨mb,5,none⟩=some (.slice (some ⟨gn,0,none⟩) D.nodes.length cap):=h.aD.cell 5;have Q0:=h.aD.lt;clear h;obtain⟨n,lS⟩:∃n,n=D.nodes.length:=⟨_,rfl⟩;rw[<-lS]at c1 hn ⊢;clear lS;have zd:=oW (3+n) (by omega);have e3:((3+n:Nat):Int)=3+(n:Int):=by omega
 rw[e3]at zd;clear e3;have hb:Hid (ah (w.alloc (.cells ((ar (3+n) (fun _=>false)).setIfInBounds 0 (.bool true)) 4)) w.heap.size (ar (3+n) (fun k=>k==0)) 4):=by
  show ah _ _ _ _;rw[eu (fun _=>false) (fun k=>k==0) 0 true (fun j hj=>by
   by_cases h:j=0
   ·subst h;simp
   ·rw[if_neg h];simpa using h)]
  exact ah.new w _ _
 have hk:Hid (Kept [] w (w.alloc (.cells ((ar (3+n) (fun _=>false)).setIfInBounds 0 (.bool true)) 4))):=(Kept.refl [] w).alloc _;have q1:(ar (3+n) (fun _=>false))[0]?=some (.bool false):=aW _ (by omega);unfold di at *;go_enter Tryz.func64,Tryz.ntmps64
 go_wp2
 go_ret;exact⟨⟨_,rfl,Nat.le_refl _,hb.out⟩,hk.out⟩
theorem y9{w:World}{mb gn cap:Nat}{D:fo}{aj:List Nat}{F:Nat->Prop}{num:Bool}{mx:Int}{R:gz}(h:gC w mb D aj F num mx gn cap)(hR:gX D R)(hn:D.nodes.length<=10000){gv:Nat}{f:Nat->Bool}(hv:ah w gv (ar (3+D.nodes.length) f) 4)(b e:Bool):
 Calls Tryz.prog 116 #[.pointer (some ⟨mb,0,none⟩),di (3+D.nodes.length) gv,.bool b,.bool e] w fun e' w'=>∃o,FK w w' e' D.nodes.length o/\∀i,(i<D.nodes.length/\o i=true)↔pB D (SF D.nodes.length f) (b=true) (e=true) i:=by
 obtain⟨i0,kQ,jh,dP,dB⟩:=info_parts Ft;have hH:Hid (gC _ _ _ _ _ _ _ _ _):=h;have XI:Hid (ah _ _ _ _):=hv;have Ek:Hid (gX _ _):=hR;have c1:w.cell? ⟨mb,5,none⟩=some (.slice (some ⟨gn,0,none⟩) D.nodes.length cap):=h.aD.cell 5;have Q0:=h.aD.lt;clear h hv hR;obtain⟨n,lS⟩:∃n,n=D.nodes.length:=⟨_,rfl⟩;have zd:=oW n (by omega);have nP:Hid (n=D.nodes.length):=lS;rw[<-lS]at c1 hn;rw[<-lS];clear lS;have h0:Hid (ah (w.alloc (.cells (ar n (fun _=>false)) 4)) w.heap.size (ar n (fun _=>false)) 4):=ah.new w _ _;have rJ:Hid (Kept [] w (w.alloc (.cells (ar n (fun _=>false)) 4))):=(Kept.refl [] w).alloc _;unfold di;go_enter Tryz.func116,Tryz.ntmps116
 go_wp2_with fail
 clear zd c1;go_loopw [10,11] (fun lv iv wr=>∃i:Nat,iv=.int .i64 (i:Int)/\i<=n/\wr.ownsRow w.heap.size 3 1 lv (iB D f i).length (aF (iB D f i))/\ah wr w.heap.size (ar n (fun _=>false)) 4/\Kept [] w wr) (fun _ iv _=>((n:Int)-intOf iv).toNat)
 case atStart=>exact⟨0,rfl,Nat.zero_le _,World.ownsRow_nil _ _ _ 1,h0.out,rJ.out⟩
 case round=>
  obtain⟨i,rfl,hi,b8,hb,fG⟩:=hrel;have dZ:Hid (World.ownsRow _ _ _ _ _ _ _):=b8;have iI:Hid (ah _ _ _ _):=hb;have dj:Hid (Kept _ _ _):=fG;have hM:=hH.out.kept fG;have m5:wr.cell? ⟨mb,5,none⟩=some (.slice (some ⟨gn,0,none⟩) n cap):=by rw[nP.out];exact hM.aD.cell 5
  have m2:wr.cell? ⟨mb,2,none⟩=some (.bool D.whole):=hM.aD.cell 2;have m6:wr.cell? ⟨mb,6,none⟩=some (.int .i64 (D.start:Int)):=hM.aD.cell 6;have hmb2:=hM.aD.lt;have IA:=XI.out.kept fG (by simp);rw[<-nP.out]at IA;have v0:wr.cell? ⟨gv,0,none⟩=some (.bool (f 0)):=by rw[IA.cell,aW _ (by omega)]
  have v1:wr.cell? ⟨gv,1,none⟩=some (.bool (f 1)):=by rw[IA.cell,aW _ (by omega)]
  have hvl:=IA.lt;obtain⟨la,ll,lc,rfl⟩:=bp b8;clear h0 rJ hM hb fG;by_cases bO:(i:Int)<(n:Int)
  ·have oC:i<n:=by omega
   have vi:wr.cell? ⟨gv,3+i,none⟩=some (.bool (f (3+i))):=by rw[IA.cell,aW _ (by omega)]
   have hc:Hid (sf D f i=(f (3+i) || ((i:Int)==(D.start:Int))&&(f 0 || (f 1&&!D.whole)))):=rfl
   have dy:Hid (iB D f (i+1)=iB D f i++if sf D f i=true then [i] else []):=IC i;have KJ:=BK (D:=D) (f:=f) i;clear IA b8;generalize iB D f i=L0 at *;generalize sf D f i=C at *;generalize f (3+i)=X at *;generalize f 0=Y0 at *;generalize f 1=Y1 at *;generalize D.whole=Wh at *;generalize (D.start:Int)=st at *;obtain⟨T,hT⟩:∃T,((i:Int)==st)=T:=⟨_,rfl⟩;rw[hT]at hc;go_upto_region 6 with fail
   go_cut [59] (fun s wx=>s=.bool C/\wx=wr)
   case first=>
    have vj:C=_:=hc.out;clear hc dy;subst vj;cases X with
    | true=>go_wp2;go_meet;exact⟨rfl,rfl⟩
    | false=>
      cases T with
      | false=>go_wp2;go_meet;exact⟨rfl,rfl⟩
      | true=>
        cases Y0 with
        | true=>go_wp2;go_meet;exact⟨rfl,rfl⟩
        | false=>
          cases Y1 with
          | false=>go_wp2;go_meet;exact⟨rfl,rfl⟩
          | true=>cases Wh <;> (go_wp2;go_meet;exact⟨rfl,rfl⟩)
   case rest=>
    obtain⟨rfl,hwc⟩:=hcut;have ZQ:=hwc.symm;subst ZQ;clear hc v0 v1 vi m2 m6 hT;have hlb:L0.length<=10000:=by omega
    cases C with
    | false=>
      have e:Hid (iB D f (i+1)=L0):=by show _=_;rw[dy.out];simp
      clear dy;go_wp2
      refine⟨⟨i+1,by go_num,by omega,by rw[e.out];exact dZ.out,iI.out,dj.out⟩,?_⟩;simp only[intOf];omega
    | true=>
      have e:Hid (iB D f (i+1)=L0++[i]):=by show _=_;rw[dy.out];simp
      clear dy;have dd:=dj.out.size;go_wp2_with (at_builtin;refine wpList_append_own _ rfl (.tmp 60) (.tmp 62) 68 rfl w.heap.size 3 i0 _ 1 8 Tryz.underlying68 kQ jh dP dB rfl (by decide) (.slice la ll lc) L0.length (aF L0) rfl ?owna ⟨wr.heap.size,0,none⟩ 1 1 [.int .i64 (i:Int)] rfl rfl ?n1a ?n2a ?b1a ?b2a ?b3a ?ka)
      case owna=>exact dZ.out.alloc _
      case n2a=>simp[Value.oneCell']
      case b1a=>unfold maxLen;omega
      case b2a=>omega
      case b3a=>first | omega | (simp;omega)
      case ka=>
       intro v5 w5 aG ay _;have Dz:Hid (ah w5 w.heap.size (ar n (fun _=>false)) 4):=nr (dZ.out.alloc _) ay (iI.out.alloc _) (by decide);have XQ:Hid (Kept [] w w5):=nn (dj.out.alloc _) (dZ.out.alloc _) ay;have XT:Hid (w5.ownsRow w.heap.size 3 1 v5 (L0++[i]).length (aF (L0++[i]))):=by
        show World.ownsRow _ _ _ _ _ _ _;rw[fk,List.length_append];exact aG
       clear aG ay;go_wp2
       refine⟨⟨i+1,by go_num,by omega,by rw[e.out];exact XT.out,Dz.out,XQ.out⟩,?_⟩;simp only[intOf];omega
  ·obtain rfl:n=i:=by omega
   have N7:Hid (BJ D f b e (fun _=>false) (iB D f n)):=by
    show BJ _ _ _ _ _ _;rw[nP.out];exact BJ.begin Ek.out
   clear IA b8 v0 v1 m2 m6 hi;go_wp2_with fail
   clear m5;go_loopw [10,12,13] (fun lv _ _ wr=>∃(l:List Nat) (o:Nat->Bool),wr.ownsRow w.heap.size 3 1 lv l.length (aF l)/\ah wr w.heap.size (ar n o) 4/\BJ D f b e o l/\Kept [] w wr) (fun lv _ _ wr=>3*uC wr w.heap.size+Zu lv)
   case atStart=>exact⟨_,_,dZ.out,iI.out,N7.out,dj.out⟩
   case round=>
    obtain⟨l,o,b8,hb,hI,fG⟩:=hrel;clear dZ iI N7 dj bO;have dZ:Hid (World.ownsRow _ _ _ _ _ _ _):=b8;have iI:Hid (ah _ _ _ _):=hb;have dj:Hid (Kept _ _ _):=fG;have cC:Hid (BJ _ _ _ _ _ _):=hI;rcases List.eq_nil_or_concat l with rfl|⟨l',k,rfl⟩
    ·obtain⟨la,ll,lc,rfl⟩:=bp b8;have OS:ll=0:=by
      rcases b8.2 with⟨h1,h2⟩|⟨g,qM,_,h1,_⟩
      ·simp at h1;omega
      ·simp at h1;omega
     subst OS;clear b8 hb fG hI;go_wp2
     go_ret;refine⟨o,⟨⟨_,rfl,Nat.le_refl _,iI.out⟩,dj.out⟩,fun j=>?_⟩;have:=cC.out.fin Ek.out j;rw[<-nP.out]at this;exact this
    ·rw[List.concat_eq_append]at b8 hI dZ cC;obtain⟨gl,qM,rfl⟩:=aO b8 (by simp);have xv:k<n:=by rw[nP.out];exact SY Ek.out (hI.Na k (by simp))
     obtain⟨x,hx⟩:∃x,D.nodes[k]?=some x:=⟨_,List.getElem?_eq_getElem (by rw[<-nP.out];exact xv)⟩;obtain⟨N1,hN1⟩:∃N1,N1=l'.length:=⟨_,rfl⟩;have hl1:(l'++[k]).length=N1+1:=by rw[List.length_append,hN1];rfl
     have iZ:=hI.small;rw[hl1,<-nP.out]at iZ;rw[hl1]at b8 dZ ⊢;rw[fk]at b8 dZ;have rJ:wr.cell? ⟨gl,N1,none⟩=some (.int .i64 (k:Int)):=by
      have:=b8.cells (g:=gl) rfl N1 (.int .i64 (k:Int)) (by
       rw[List.getElem?_append_right (by simp[aF];omega)];simp[aF,hN1])
      rwa [cK]at this
     have WL:Hid (wr.ownsRow w.heap.size 3 1 (.slice (some ⟨gl,0,none⟩) N1 qM) N1 (aF l')):=ownsRow_pop (by simp[aF,hN1]) b8;have pM:gl<wr.heap.size:=(b8.lt gl rfl).2;have hcap1:N1+1<=qM:=by
      rcases b8.2 with⟨h1,_⟩|⟨g,c,cur,h1,_,_,h4,_⟩
      ·simp at h1
      ·simp at h1;omega
     have hcap2:N1<=qM:=by omega
     have hcap3:(N1:Int)<=(qM:Int):=by omega
     have ok1:wr.cell? ⟨w.heap.size,k,none⟩=some (.bool (o k)):=by rw[hb.cell,aW _ xv]
     have ok2:=hb.frozen k;have ok3:=hb.lt;have hM:=hH.out.kept fG;have m5:wr.cell? ⟨mb,5,none⟩=some (.slice (some ⟨gn,0,none⟩) n cap):=by rw[nP.out];exact hM.aD.cell 5
     have WM:=hM.aD.lt;have d0:wr.cell? ⟨gn,k*4,none⟩=some (.int .i64 x.kind):=hM.node hx (j:=0) (by omega);have d1:wr.cell? ⟨gn,k*4+1,none⟩=some (if x.kind<=3 then ptrTo aj x.part else .pointer none):=hM.node hx (j:=1) (by omega);obtain⟨pa,qU⟩:∃pa,(if x.kind<=3 then ptrTo aj x.part else .pointer none)=Value.pointer pa:=by
      split
      ·exact⟨_,rfl⟩
      ·exact⟨_,rfl⟩
     rw[qU]at d1;clear qU;have d2:wr.cell? ⟨gn,k*4+2,none⟩=some (.int .i64 (x.next:Int)):=hM.node hx (j:=2) (by omega);have d3:wr.cell? ⟨gn,k*4+3,none⟩=some (.int .i64 (x.other:Int)):=hM.node hx (j:=3) (by omega);have hgn:=hM.lt;have hgn1:gn≠w.heap.size:=by have:=hH.out.lt;omega
     have hmb1:mb≠w.heap.size:=by omega
     have hxH:Hid (D.nodes[k]?=some x):=hx;have WN:Hid (N1=l'.length):=hN1;have hoB:Hid (∀y:Bool,o k=y->y=false->pE n (km o k)+1=pE n o):=fun y h1 h2=>xQ xv (h1.trans h2);clear hM b8 hb fG hI dZ hl1 hx hN1;cases ho:o k with
     | true=>
       rw[ho]at ok1;have ML:Hid (BJ D f b e o l'):=cC.out.skip ho;clear ho hoB;go_wp2
       refine⟨⟨l',o,by rw[<-WN.out];exact WL.out,iI.out,ML.out,dj.out⟩,?_⟩;show 3*uC wr w.heap.size+N1<3*uC wr w.heap.size+(N1+1);omega
     | false=>
       rw[ho]at ok1;have ML:Hid (BJ D f b e (km o k) (l'++C6 x b e)):=cC.out.take ho hxH.out;have hfal:=hoB.out false ho rfl;clear ho hoB;go_upto_region 14 with fail
       obtain⟨W,hW⟩:∃W,W=((wr.setCell ⟨w.heap.size,k,none⟩ (.bool true)).alloc (.cells #[.int .i64 x.kind,.pointer pa,.int .i64 (x.next:Int),.int .i64 (x.other:Int)] 190)):=⟨_,rfl⟩;rw[<-hW];have TL:=dj.out.size;have hXb:ah W wr.heap.size #[.int .i64 x.kind,.pointer pa,.int .i64 (x.next:Int),.int .i64 (x.other:Int)] 190:=by
        rw[hW];have:=ah.new (wr.setCell ⟨w.heap.size,k,none⟩ (.bool true)) #[.int .i64 x.kind,.pointer pa,.int .i64 (x.next:Int),.int .i64 (x.other:Int)] 190;simpa [World.setCell] using this
       have GH:Hid (ah W w.heap.size (ar n (km o k)) 4):=by
        show ah _ _ _ _;rw[hW];have:=iI.out.set k (.bool true);rw[eu o (km o k) k true (fun j _=>rfl)]at this;exact this.alloc _
       have Ea:Hid (Kept [] w W):=by
        show Kept _ _ _;rw[hW];exact(dj.out.setCell (Or.inr (Nat.le_refl _)) _).alloc _
       have Ep:Hid (W.ownsRow w.heap.size 3 1 (.slice (some ⟨gl,0,none⟩) N1 qM) N1 (aF l')):=by
        show World.ownsRow _ _ _ _ _ _ _;rw[hW];exact(ownsRow_setCell_other WL.out (fun hc=>absurd (lk WL.out iI.out hc) (by decide)) _).alloc _
       have x0:W.cell? ⟨wr.heap.size,0,none⟩=some (.int .i64 x.kind):=hXb.cell 0;have x2:W.cell? ⟨wr.heap.size,2,none⟩=some (.int .i64 (x.next:Int)):=hXb.cell 2;have x3:W.cell? ⟨wr.heap.size,3,none⟩=some (.int .i64 (x.other:Int)):=hXb.cell 3;have xl:=hXb.lt;have wW:Hid (ah W wr.heap.size #[.int .i64 x.kind,.pointer pa,.int .i64 (x.next:Int),.int .i64 (x.other:Int)] 190):=hXb;have hWs:=Ea.out.size;have CK:N1<=100000:=by omega
       have TN:Hid (∀w5 v5,ah w5 w.heap.size (ar n (km o k)) 4->Zu v5<=N1+2->3*uC w5 w.heap.size+Zu v5<3*uC wr w.heap.size+(N1+1)):=fun w5 v5 h1 h2=>by
        rw[BF h1,BF iI.out];omega
       have F5:Hid (C6 x b e=(if Py x b e=true then [x.next] else [])++(if (x.kind==7)=true then [x.other] else [])):=rfl;have zN:Hid (Py x b e=(x.kind==7 || (x.kind==2&&b) || (x.kind==3&&e))):=rfl
       clear hW hXb ok1 ok2 ok3 m5 WM d0 d1 d2 d3 hgn hgn1 hmb1 rJ pM hcap1 hcap2 hcap3 WL;obtain⟨T7,La⟩:∃T,(x.kind==7)=T:=⟨_,rfl⟩;obtain⟨T2,kf⟩:∃T,(x.kind==2)=T:=⟨_,rfl⟩;obtain⟨T3,Gw⟩:∃T,(x.kind==3)=T:=⟨_,rfl⟩;rw[La]at F5;rw[La,kf,Gw]at zN;obtain⟨G,hG⟩:∃G,Py x b e=G:=⟨_,rfl⟩;rw[hG]at F5 zN;clear hG;go_cut [110] (fun s wx=>s=.bool G/\wx=W)
       case first=>
        have vj:G=_:=zN.out;clear zN F5;subst vj;cases T7 with
        | true=>go_wp2;go_meet;exact⟨rfl,rfl⟩
        | false=>
          cases T2 <;> cases b <;> cases T3 <;> cases e <;> (go_wp2;go_meet;exact⟨rfl,rfl⟩)
       case rest=>
        obtain⟨rfl,hwc⟩:=hcut;have ZQ:=hwc.symm;subst ZQ;clear kf Gw;cases G with
        | false=>
          cases T7 with
          | true=>exact absurd zN.out (by simp)
          | false=>
            have QK:Hid (BJ D f b e (km o k) l'):=by
             have:=ML.out;rw[F5.out]at this;show BJ _ _ _ _ _ _;simpa using this
            clear zN F5 ML;go_wp2
            refine⟨⟨l',km o k,by rw[<-WN.out];exact Ep.out,GH.out,QK.out,Ea.out⟩,?_⟩;exact TN.out _ _ GH.out (by show N1<=_;omega)
        | true=>
         cases T7 with
         | false=>
          have QK:Hid (BJ D f b e (km o k) (l'++[x.next])):=by
           have:=ML.out;rw[F5.out]at this;show BJ _ _ _ _ _ _;simpa using this
          clear zN F5 ML;go_wp2_with (at_builtin;go_loud (refine wpList_append_own _ rfl (.tmp 111) (.tmp 114) 68 rfl w.heap.size 3 i0 _ 1 8 Tryz.underlying68 kQ jh dP dB rfl (by decide) (.slice (some ⟨gl,0,none⟩) N1 qM) N1 (aF l') rfl ?ownb ⟨W.heap.size,0,none⟩ 1 1 [.int .i64 (x.next:Int)] rfl rfl ?n1b ?n2b ?b1b ?b2b ?b3b ?kkb))
          case ownb=>exact Ep.out.alloc _
          case n2b=>simp[Value.oneCell']
          case b1b=>unfold maxLen;omega
          case b2b=>omega
          case b3b=>first | omega | (simp;omega)
          case kkb=>
           intro v5 w5 aG ay _;obtain⟨g5,TO,rfl⟩:=aO aG (by omega);have Dz:Hid (ah w5 w.heap.size (ar n (km o k)) 4):=nr (Ep.out.alloc _) ay (GH.out.alloc _) (by decide);have XQ:Hid (Kept [] w w5):=nn (Ea.out.alloc _) (Ep.out.alloc _) ay;have WO:ah w5 wr.heap.size _ _:=nr (Ep.out.alloc _) ay (wW.out.alloc _) (by decide);have XT:Hid (w5.ownsRow w.heap.size 3 1 (.slice (some ⟨g5,0,none⟩) (N1+1) TO) (N1+1) (aF (l'++[x.next]))):=by
            show World.ownsRow _ _ _ _ _ _ _;rw[fk];exact aG
           have y0:w5.cell? ⟨wr.heap.size,0,none⟩=some (.int .i64 x.kind):=WO.cell 0;have y3:w5.cell? ⟨wr.heap.size,3,none⟩=some (.int .i64 (x.other:Int)):=WO.cell 3;have yl:=WO.lt;have QN:=XQ.out.size;clear aG ay WO x0 x2 x3 xl wW GH Ea Ep;go_wp2
           refine⟨⟨l'++[x.next],km o k,by rw[List.length_append,<-WN.out];exact XT.out,Dz.out,QK.out,XQ.out⟩,?_⟩;exact TN.out _ _ Dz.out (by show N1+1<=_;omega)
         | true=>
          have QK:Hid (BJ D f b e (km o k) (l'++[x.next]++[x.other])):=by
           have:=ML.out;rw[F5.out]at this;show BJ _ _ _ _ _ _;simpa using this
          clear zN F5 ML;go_wp2_with (at_builtin;go_loud (refine wpList_append_own _ rfl (.tmp 111) (.tmp 114) 68 rfl w.heap.size 3 i0 _ 1 8 Tryz.underlying68 kQ jh dP dB rfl (by decide) (.slice (some ⟨gl,0,none⟩) N1 qM) N1 (aF l') rfl ?ownc ⟨W.heap.size,0,none⟩ 1 1 [.int .i64 (x.next:Int)] rfl rfl ?n1c ?n2c ?b1c ?b2c ?b3c ?kkc))
          case ownc=>exact Ep.out.alloc _
          case n2c=>simp[Value.oneCell']
          case b1c=>unfold maxLen;omega
          case b2c=>omega
          case b3c=>first | omega | (simp;omega)
          case kkc=>
           intro v5 w5 aG ay _;obtain⟨g5,TO,rfl⟩:=aO aG (by omega);have Dz:Hid (ah w5 w.heap.size (ar n (km o k)) 4):=nr (Ep.out.alloc _) ay (GH.out.alloc _) (by decide);have XQ:Hid (Kept [] w w5):=nn (Ea.out.alloc _) (Ep.out.alloc _) ay;have WO:ah w5 wr.heap.size _ _:=nr (Ep.out.alloc _) ay (wW.out.alloc _) (by decide);have XT:Hid (w5.ownsRow w.heap.size 3 1 (.slice (some ⟨g5,0,none⟩) (N1+1) TO) (N1+1) (aF (l'++[x.next]))):=by
            show World.ownsRow _ _ _ _ _ _ _;rw[fk];exact aG
           have y0:w5.cell? ⟨wr.heap.size,0,none⟩=some (.int .i64 x.kind):=WO.cell 0;have y3:w5.cell? ⟨wr.heap.size,3,none⟩=some (.int .i64 (x.other:Int)):=WO.cell 3;have yl:=WO.lt;have QN:=XQ.out.size;clear aG ay WO x0 x2 x3 xl wW GH Ea Ep;go_wp2_with (at_builtin;refine wpList_append_own _ rfl (.tmp 119) (.tmp 122) 68 rfl w.heap.size 3 i0 _ 1 8 Tryz.underlying68 kQ jh dP dB rfl (by decide) (.slice (some ⟨g5,0,none⟩) (N1+1) TO) (N1+1) (aF (l'++[x.next])) rfl ?own2d ⟨w5.heap.size,0,none⟩ 1 1 [.int .i64 (x.other:Int)] rfl rfl ?m1d ?m2d ?q1d ?q2d ?q3d ?qkd)
           case own2d=>exact XT.out.alloc _
           case m1d=>exact bM _ _ _ _ rfl
           case m2d=>simp[Value.oneCell']
           case q1d=>unfold maxLen;omega
           case q2d=>omega
           case q3d=>first | omega | (simp;omega)
           case qkd=>
            intro v6 w6 aG ay _;obtain⟨g6,cap6,rfl⟩:=aO aG (by omega);have Ov:Hid (ah w6 w.heap.size (ar n (km o k)) 4):=nr (XT.out.alloc _) ay (Dz.out.alloc _) (by decide);have hK6:Hid (Kept [] w w6):=nn (XQ.out.alloc _) (XT.out.alloc _) ay;have hR6:Hid (w6.ownsRow w.heap.size 3 1 (.slice (some ⟨g6,0,none⟩) (N1+1+1) cap6) (N1+1+1) (aF (l'++[x.next]++[x.other]))):=by
             show World.ownsRow _ _ _ _ _ _ _;rw[fk];exact aG
            clear aG ay y0 y3 yl Dz XQ XT;go_wp2
            refine⟨⟨l'++[x.next]++[x.other],km o k,by rw[List.length_append,List.length_append,<-WN.out];exact hR6.out,Ov.out,QK.out,hK6.out⟩,?_⟩;exact TN.out _ _ Ov.out (by show N1+1+1<=_;omega)
section
variable (D:fo)(o:Nat->Bool)(c:Nat)
def sq(x:DN):Bool:=match D.ps[x.part]? with
 | some p=>Ro p D.fold c
 | none=>false
def I1(x:DN)(acc:Nat->Bool):Nat->Bool:=if x.kind=8/\D.whole=false then km acc 2 else acc
def I2(x:DN)(acc:Nat->Bool):Nat->Bool:=if x.kind=1 then (fun k=>if k=3+x.next then (acc (3+x.next) || sq D c x) else acc k) else acc
def xZ(i:Nat)(acc:Nat->Bool):Nat->Bool:=if o i=true then (match D.nodes[i]? with|none=>acc|some x=>I2 D c x (I1 D x acc)) else acc
def qK(f:Nat->Bool):Nat->Nat->Bool
 | 0=>fun k=>if k=2 then f 2 else if k=1 then (f 0 || f 1) else false
 | i+1=>xZ D o c i (qK f i)
end
section
variable {D:fo}{o:Nat->Bool}{c:Nat}{f:Nat->Bool}
theorem TP(x:DN)(acc:Nat->Bool)(k:Nat):I1 D x acc k=true↔acc k=true\/(k=2/\x.kind=8/\D.whole=false):=by
 unfold I1 km;by_cases h:x.kind=8/\D.whole=false
 ·rw[if_pos h];by_cases hk:k=2
  ·rw[if_pos hk];simp[hk,h]
  ·rw[if_neg hk];simp[hk]
 ·rw[if_neg h];constructor
  ·exact Or.inl
  ·rintro(h1|⟨_,h2,h3⟩)
   ·exact h1
   ·exact absurd ⟨h2,h3⟩ h
theorem TQ(x:DN)(acc:Nat->Bool)(k:Nat):I2 D c x acc k=true↔acc k=true\/(k=3+x.next/\x.kind=1/\sq D c x=true):=by
 unfold I2;by_cases h:x.kind=1
 ·rw[if_pos h];by_cases hk:k=3+x.next
  ·rw[if_pos hk,Bool.or_eq_true];simp[hk,h]
  ·rw[if_neg hk];simp[hk]
 ·rw[if_neg h];simp[h]
theorem Np:∀(i k:Nat),qK D o c f i k=true↔(k=2/\f 2=true)\/(k=1/\(f 0=true\/f 1=true))\/∃j x,j<i/\o j=true/\D.nodes[j]?=some x/\((k=2/\x.kind=8/\D.whole=false)\/(k=3+x.next/\x.kind=1/\sq D c x=true))
 | 0,k=>by
   show(if k=2 then f 2 else if k=1 then (f 0 || f 1) else false)=true↔_
   by_cases h2:k=2
   ·subst h2;rw[if_pos rfl];constructor
    ·intro h;exact Or.inl ⟨rfl,h⟩
    ·rintro(h|h|⟨j,x,h,_⟩)
     ·exact h.2
     ·omega
     ·omega
   ·rw[if_neg h2];by_cases h1:k=1
    ·subst h1;rw[if_pos rfl,Bool.or_eq_true];constructor
     ·intro h;exact Or.inr (Or.inl ⟨rfl,h⟩)
     ·rintro(h|h|⟨j,x,h,_⟩)
      ·omega
      ·exact h.2
      ·omega
    ·rw[if_neg h1];constructor
     ·intro h;cases h
     ·rintro(h|h|⟨j,x,h,_⟩)
      ·omega
      ·omega
      ·omega
 | i+1,k=>by
   have ih:=Np i;show xZ D o c i (qK D o c f i) k=true↔_;unfold xZ;have grow:((k=2/\f 2=true)\/(k=1/\(f 0=true\/f 1=true))\/∃j x,j<i+1/\o j=true/\D.nodes[j]?=some x/\((k=2/\x.kind=8/\D.whole=false)\/(k=3+x.next/\x.kind=1/\sq D c x=true))) ↔
    qK D o c f i k=true\/∃x,o i=true/\D.nodes[i]?=some x/\((k=2/\x.kind=8/\D.whole=false)\/(k=3+x.next/\x.kind=1/\sq D c x=true)):=by
    rw[ih];constructor
    ·rintro(h|h|⟨j,x,h1,h2⟩)
     ·exact Or.inl (Or.inl h)
     ·exact Or.inl (Or.inr (Or.inl h))
     ·by_cases hj:j=i
      ·subst hj;exact Or.inr ⟨x,h2⟩
      ·exact Or.inl (Or.inr (Or.inr ⟨j,x,by omega,h2⟩))
    ·rintro((h|h|⟨j,x,h1,h2⟩)|⟨x,h2⟩)
     ·exact Or.inl h
     ·exact Or.inr (Or.inl h)
     ·exact Or.inr (Or.inr ⟨j,x,by omega,h2⟩)
     ·exact Or.inr (Or.inr ⟨i,x,by omega,h2⟩)
   rw[grow];by_cases ho:o i=true
   ·rw[if_pos ho];cases hx:D.nodes[i]? with
    | none=>simp
    | some x=>
      simp only[];rw[TQ,TP];constructor
      ·rintro((h|h)|h)
       ·exact Or.inl h
       ·exact Or.inr ⟨x,ho,rfl,Or.inl h⟩
       ·exact Or.inr ⟨x,ho,rfl,Or.inr h⟩
      ·rintro(h|⟨y,_,h1,h⟩)
       ·exact Or.inl (Or.inl h)
       ·obtain rfl:=Option.some.inj h1;rcases h with h|h
        ·exact Or.inl (Or.inr h)
        ·exact Or.inr h
   ·rw[if_neg ho];constructor
    ·exact Or.inl
    ·rintro(h|⟨x,h,_⟩)
     ·exact h
     ·exact absurd h ho
theorem I'(x:DN):sq D c x=true↔∃p,D.ps[x.part]?=some p/\Ro p D.fold c=true:=by
 unfold sq;cases hp:D.ps[x.part]? with
 | none=>simp
 | some p=>simp
theorem TS{R:gz}(hM:gX D R)(ho:∀i,(i<D.nodes.length/\o i=true)↔pB D (SF D.nodes.length f) (f 0=true) (false=true) i):SF D.nodes.length (qK D o c f D.nodes.length)=nX D (SF D.nodes.length f) c:=by
 have e0:(SF D.nodes.length f 0)=(f 0=true):=propext ⟨fun h=>h.2,fun h=>⟨by omega,h⟩⟩;have e1:(False:Prop)=(false=true):=propext ⟨fun h=>h.elim,fun h=>by cases h⟩;funext k
 apply propext;show(k<3+D.nodes.length/\qK D o c f D.nodes.length k=true)↔_;rw[Np];match k with
 | 0=>
   constructor
   ·rintro⟨_,h|h|⟨j,x,_,_,_,h|h⟩⟩ <;> omega
   ·intro h;exact h.elim
 | 1=>
   constructor
   ·rintro⟨_,h|h|⟨j,x,_,_,_,h|h⟩⟩
    ·omega
    ·rcases h.2 with h|h
     ·exact Or.inl ⟨by omega,h⟩
     ·exact Or.inr ⟨by omega,h⟩
    ·omega
    ·omega
   ·rintro(h|h)
    ·exact⟨by omega,Or.inr (Or.inl ⟨rfl,Or.inl h.2⟩)⟩
    ·exact⟨by omega,Or.inr (Or.inl ⟨rfl,Or.inr h.2⟩)⟩
 | 2=>
   constructor
   ·rintro⟨_,h|h|⟨j,x,h1,h2,h3,h|h⟩⟩
    ·exact Or.inl ⟨by omega,h.2⟩
    ·omega
    ·refine Or.inr ⟨h.2.2,j,x,?_,h3,h.2.1⟩;rw[e0,e1];exact(ho j).1 ⟨h1,h2⟩
    ·omega
   ·rintro(h|⟨h1,j,x,h2,h3,h4⟩)
    ·exact⟨by omega,Or.inl ⟨rfl,h.2⟩⟩
    ·rw[e0,e1]at h2;obtain⟨g1,g2⟩:=(ho j).2 h2;exact⟨by omega,Or.inr (Or.inr ⟨j,x,g1,g2,h3,Or.inl ⟨rfl,h4,h1⟩⟩)⟩
 | q+3=>
   constructor
   ·rintro⟨_,h|h|⟨j,x,h1,h2,h3,h|h⟩⟩
    ·omega
    ·omega
    ·omega
    ·obtain⟨p,yw,kY⟩:=(I' x).1 h.2.2;refine⟨j,x,p,?_,h3,h.2.1,by omega,yw,kY⟩;rw[e0,e1];exact(ho j).1 ⟨h1,h2⟩
   ·rintro⟨j,x,p,h1,h2,h3,h4,h5,h6⟩;rw[e0,e1]at h1;obtain⟨g1,g2⟩:=(ho j).2 h1;have:=(hM.fR h2 (by omega)).1;exact⟨by omega,Or.inr (Or.inr ⟨j,x,g1,g2,h2,Or.inr ⟨by omega,h3,(I' x).2 ⟨p,h5,h6⟩⟩⟩)⟩
end
theorem gC.inAny{w:World}{mb gn cap:Nat}{D:fo}{aj:List Nat}{F:Nat->Prop}{num:Bool}{mx:Int}{R:gz}(h:gC w mb D aj F num mx gn cap)(hR:gX D R){i:Nat}{x:DN}(hx:D.nodes[i]?=some x)(hk:x.kind=1)(c:Nat)(hc:c<256):
 Calls Tryz.prog 157 #[.pointer (some ⟨aj.getD x.part 0,0,none⟩),.bool D.fold,.int .i64 (c:Int)] w fun e w'=>e=.returned (.bool (sq D c x))/\w'=w:=by
 have hi:i≠0:=fun hc=>by have:=(hR.only hx).2 hc;omega
 obtain⟨p,hp,hpk⟩:∃p,D.ps[x.part]?=some p/\p.kind=x.kind:=by
  rcases hR.mY.ok i x (by omega) (List.getElem?_eq_some_iff.1 hx).1 hx with h7|⟨_,h⟩
  ·omega
  ·exact h
 obtain⟨_,iv,kv,hpo⟩:=h.parts.part _ _ hp;have:=Yw w F aj p _ iv kv hpo (by omega) D.fold c hc;have e:sq D c x=Ro p D.fold c:=by unfold sq;rw[hp]
 rw[e];exact this
theorem Er{w:World}{mb gn cap:Nat}{D:fo}{aj:List Nat}{F:Nat->Prop}{num:Bool}{mx:Int}{R:gz}(h:gC w mb D aj F num mx gn cap)(hR:gX D R)(hn:D.nodes.length<=10000){gv:Nat}{f:Nat->Bool}(hv:ah w gv (ar (3+D.nodes.length) f) 4)(c:Nat)(hc:c<256):
 Calls Tryz.prog 115 #[.pointer (some ⟨mb,0,none⟩),di (3+D.nodes.length) gv,.int .i64 (c:Int)] w fun e' w'=>∃f',FK w w' e' (3+D.nodes.length) f'/\SF D.nodes.length f'=nX D (SF D.nodes.length f) c:=by
 have hH:Hid (gC _ _ _ _ _ _ _ _ _):=h;have XI:Hid (ah _ _ _ _):=hv;have Ek:Hid (gX _ _):=hR;have GI:Hid (∀w',Kept [] w w'->Calls _ _ _ w' _):=fun w' k=>y9 (h.kept k) hR hn (hv.kept k (by simp)) (f 0) false;obtain⟨n,lS⟩:∃n,n=D.nodes.length:=⟨_,rfl⟩;have zd:=oW (3+n) (by omega);have e3:((3+n:Nat):Int)=3+(n:Int):=by omega
 rw[e3]at zd;clear e3;have v0:w.cell? ⟨gv,0,none⟩=some (.bool (f 0)):=by rw[hv.cell,aW _ (by omega)]
 have v1:w.cell? ⟨gv,1,none⟩=some (.bool (f 1)):=by rw[hv.cell,aW _ (by omega)]
 have hvl:=hv.lt;have nP:Hid (n=D.nodes.length):=lS;rw[<-lS]at hn GI;rw[<-lS];clear lS h hv hR;have ck:Hid (∀b,ah (w.alloc (.cells ((ar (3+n) (fun _=>false)).setIfInBounds 1 (.bool b)) 4)) w.heap.size (ar (3+n) (fun k=>if k=1 then b else false)) 4/\Kept [] w (w.alloc (.cells ((ar (3+n) (fun _=>false)).setIfInBounds 1 (.bool b)) 4))):=fun b=>by
  rw[eu (fun _=>false) (fun k=>if k=1 then b else false) 1 b (fun j hj=>rfl)];exact⟨ah.new w _ _,(Kept.refl [] w).alloc _⟩
 have q1:(ar (3+n) (fun _=>false))[1]?=some (.bool false):=aW _ (by omega);unfold di at GI ⊢;go_enter Tryz.func115,Tryz.ntmps115
 go_upto_region 2 with fail
 go_cut [7] (fun s wx=>s=.slice (some ⟨w.heap.size,0,none⟩) (3+n) (3+n)/\∃y,y=wx/\ah y w.heap.size (ar (3+n) (fun k=>if k=1 then (f 0 || f 1) else false)) 4/\Kept [] w y)
 case first=>
  generalize f 0=Y0 at *;generalize f 1=Y1 at *;clear GI;cases Y0 with
  | true=>go_wp2;go_meet;exact⟨rfl,_,rfl,ck.out _⟩
  | false=>go_wp2;go_meet;exact⟨rfl,_,rfl,ck.out _⟩
 case rest=>
  obtain⟨rfl,y,hy,Vv,hyk⟩:=hcut;subst hy;have w2c:y.cell? ⟨w.heap.size,2,none⟩=some (.bool false):=by rw[Vv.cell,aW _ (by omega)];rfl
  have w2f:=Vv.frozen 2;have w2l:=Vv.lt;have IA:=XI.out.kept hyk (by simp);rw[<-nP.out]at IA;have u0:y.cell? ⟨gv,0,none⟩=some (.bool (f 0)):=by rw[IA.cell,aW _ (by omega)]
  have u2:y.cell? ⟨gv,2,none⟩=some (.bool (f 2)):=by rw[IA.cell,aW _ (by omega)]
  have hvl2:=IA.lt;have hgne:gv≠w.heap.size:=by omega
  have hZ:Hid (ah (y.setCell ⟨w.heap.size,2,none⟩ (.bool (f 2))) w.heap.size (ar (3+n) (qK D (fun _=>false) c f 0)) 4/\Kept [] w (y.setCell ⟨w.heap.size,2,none⟩ (.bool (f 2)))):=by
   have:=Vv.set 2 (.bool (f 2));rw[eu (fun k=>if k=1 then (f 0 || f 1) else false) (qK D (fun _=>false) c f 0) 2 (f 2) (fun j hj=>rfl)]at this
   exact⟨this,hyk.setCell (Or.inr (Nat.le_refl _)) _⟩
  clear Vv hyk IA zd v0 v1 ck q1;go_upto_region 4 with fail
  obtain⟨Z,hZe⟩:∃Z,Z=y.setCell ⟨w.heap.size,2,none⟩ (.bool (f 2)):=⟨_,rfl⟩;rw[<-hZe]at hZ;rw[<-hZe];have WQ:=XI.out.kept hZ.out.2 (by simp);rw[<-nP.out]at WQ;have z0:Z.cell? ⟨gv,0,none⟩=some (.bool (f 0)):=by rw[WQ.cell,aW _ (by omega)]
  have zl:=WQ.lt;have zs:=hZ.out.1.lt;clear hZe w2c w2f w2l u0 u2 hvl2 WQ hgne hvl;go_wp2_with fail
  refine(GI.out _ hZ.out.2).mono ?_;rintro e w3 ⟨o,⟨⟨gr,rfl,jK,qD⟩,k3⟩,ho⟩;have M0:Hid (∀i,_):=ho;have JJ:Hid (ah w3 w.heap.size (ar (3+n) (qK D o c f 0)) 4):=hZ.out.1.kept k3 (by simp);have QY:Hid (Kept [] w w3):=hZ.out.2.trans k3;have hr3:Hid (ah w3 gr (ar n o) 4):=qD;have fx:gr≠w.heap.size:=by omega
  have hinH:Hid (∀i x,D.nodes[i]?=some x->x.kind=1->∀w',Kept [] w w'->Calls Tryz.prog 157 #[.pointer (some ⟨aj.getD x.part 0,0,none⟩),.bool D.fold,.int .i64 (c:Int)] w' fun e w2=>e=.returned (.bool (sq D c x))/\w2=w'):=fun i x hx hk w' k=>(hH.out.kept k).inAny Ek.out hx hk c hc;clear GI ho qD k3 hZ z0 zl zs jK;unfold di;go_wp2_with fail
  go_loopw [9,10,11] (fun iv _ _ wr=>∃i:Nat,iv=.int .i64 (i:Int)/\i<=n/\ah wr w.heap.size (ar (3+n) (qK D o c f i)) 4/\ah wr gr (ar n o) 4/\Kept [] w wr) (fun iv _ _ _=>((n:Int)-intOf iv).toNat)
  case atStart=>exact⟨0,rfl,Nat.zero_le _,JJ.out,hr3.out,QY.out⟩
  case round=>
   obtain⟨i,rfl,hi,hb,qD,fG⟩:=hrel;have iI:Hid (ah _ _ _ _):=hb;have ug:Hid (ah _ _ _ _):=qD;have dj:Hid (Kept _ _ _):=fG;clear JJ hr3 QY;by_cases bO:(i:Int)<(n:Int)
   ·have oC:i<n:=by omega
    have r1:wr.cell? ⟨gr,i,none⟩=some (.bool (o i)):=by rw[qD.cell,aW _ oC]
    have wv:=qD.lt;have dy:Hid (qK D o c f (i+1)=xZ D o c i (qK D o c f i)):=rfl;cases ho:o i with
    | false=>
      rw[ho]at r1;have e:Hid (qK D o c f (i+1)=qK D o c f i):=by
       show _=_;rw[dy.out];unfold xZ;rw[ho];rfl
      clear dy ho hb qD fG;go_wp2
      refine⟨⟨i+1,by go_num,by omega,by rw[e.out];exact iI.out,ug.out,dj.out⟩,?_⟩;simp only[intOf];omega
    | true=>
      rw[ho]at r1;obtain⟨x,hx⟩:∃x,D.nodes[i]?=some x:=⟨_,List.getElem?_eq_getElem (by rw[<-nP.out];exact oC)⟩;have e:Hid (qK D o c f (i+1)=I2 D c x (I1 D x (qK D o c f i))):=by
       show _=_;rw[dy.out];unfold xZ;rw[ho,if_pos rfl,hx]
      have hM:=hH.out.kept fG;have m5:wr.cell? ⟨mb,5,none⟩=some (.slice (some ⟨gn,0,none⟩) n cap):=by rw[nP.out];exact hM.aD.cell 5
      have m2:wr.cell? ⟨mb,2,none⟩=some (.bool D.whole):=hM.aD.cell 2;have m1:wr.cell? ⟨mb,1,none⟩=some (.bool D.fold):=hM.aD.cell 1;have WM:=hM.aD.lt;have d0:wr.cell? ⟨gn,i*4,none⟩=some (.int .i64 x.kind):=hM.node hx (j:=0) (by omega);have d1:wr.cell? ⟨gn,i*4+1,none⟩=some (if x.kind<=3 then ptrTo aj x.part else .pointer none):=hM.node hx (j:=1) (by omega);have d2:wr.cell? ⟨gn,i*4+2,none⟩=some (.int .i64 (x.next:Int)):=hM.node hx (j:=2) (by omega);have d3:wr.cell? ⟨gn,i*4+3,none⟩=some (.int .i64 (x.other:Int)):=hM.node hx (j:=3) (by omega);have hgn:=hM.lt;obtain⟨pa,qU,hpa2⟩:∃pa,(if x.kind<=3 then ptrTo aj x.part else .pointer none)=Value.pointer pa/\(x.kind=1->pa=some ⟨aj.getD x.part 0,0,none⟩):=by
       by_cases h3:x.kind<=3
       ·rw[if_pos h3];exact⟨_,rfl,fun _=>rfl⟩
       ·rw[if_neg h3];exact⟨_,rfl,fun h=>by omega⟩
      rw[qU]at d1;have WR:Hid (x.kind=1->pa=some ⟨aj.getD x.part 0,0,none⟩):=hpa2;have WT:Hid (x.kind=1->_):=hinH.out i x hx;have oz:Hid (x.kind=1->x.next<n):=fun hk=>by rw[nP.out];exact(Ek.out.fR hx (by omega)).1
      clear hM qU hpa2 hx ho dy;go_upto_region 10 with fail
      obtain⟨W,hW⟩:∃W,W=wr.alloc (.cells #[.int .i64 x.kind,.pointer pa,.int .i64 (x.next:Int),.int .i64 (x.other:Int)] 190):=⟨_,rfl⟩;rw[<-hW];have hX:ah W wr.heap.size #[.int .i64 x.kind,.pointer pa,.int .i64 (x.next:Int),.int .i64 (x.other:Int)] 190:=by rw[hW];exact ah.new _ _ _
      have WU:Kept [] wr W:=by rw[hW];exact(Kept.refl [] wr).alloc _
      have GH:Hid (ah W w.heap.size (ar (3+n) (qK D o c f i)) 4):=hb.kept WU (by simp);have Ep:Hid (ah W gr (ar n o) 4):=qD.kept WU (by simp);have Ea:Hid (Kept [] w W):=fG.trans WU;have MT:=hH.out.kept Ea.out;have m5':W.cell? ⟨mb,5,none⟩=some (.slice (some ⟨gn,0,none⟩) n cap):=by rw[nP.out];exact MT.aD.cell 5
      have m2':W.cell? ⟨mb,2,none⟩=some (.bool D.whole):=MT.aD.cell 2;have m1':W.cell? ⟨mb,1,none⟩=some (.bool D.fold):=MT.aD.cell 1;have hmbW:=MT.aD.lt;have x0:W.cell? ⟨wr.heap.size,0,none⟩=some (.int .i64 x.kind):=hX.cell 0;have x1:W.cell? ⟨wr.heap.size,1,none⟩=some (.pointer pa):=hX.cell 1;have x2:W.cell? ⟨wr.heap.size,2,none⟩=some (.int .i64 (x.next:Int)):=hX.cell 2;have xl:=hX.lt;have Oz:=fG.size;have b2:W.cell? ⟨w.heap.size,2,none⟩=some (.bool (qK D o c f i 2)):=by rw[GH.out.cell,aW _ (by omega)]
      have b2f:=GH.out.frozen 2;have bl:=GH.out.lt;have hxne:wr.heap.size≠w.heap.size:=by have:=hb.lt;omega
      clear hW hX WU MT m5 m2 m1 WM d0 d1 d2 d3 hgn hb qD fG r1 wv iI ug dj;by_cases h8:x.kind=8
      ·have t8:(x.kind==8)=true:=by rw[h8];rfl
       have t1:(x.kind==1)=false:=by rw[h8];rfl
       have e1:Hid (qK D o c f (i+1)=I1 D x (qK D o c f i)):=by
        show _=_;rw[e.out];unfold I2;rw[if_neg (by omega)]
       have h8H:Hid (x.kind=8):=h8;clear h8 e WT WR oz;cases GD:D.whole with
       | false=>
         rw[GD]at m2';have aA:Hid (ah (W.setCell ⟨w.heap.size,2,none⟩ (.bool true)) w.heap.size (ar (3+n) (qK D o c f (i+1))) 4/\ah (W.setCell ⟨w.heap.size,2,none⟩ (.bool true)) gr (ar n o) 4/\Kept [] w (W.setCell ⟨w.heap.size,2,none⟩ (.bool true))):=by
          refine⟨?_,Ep.out.other _ _ fx,Ea.out.setCell (Or.inr (Nat.le_refl _)) _⟩;rw[e1.out];unfold I1;rw[if_pos ⟨h8H.out,GD⟩];have:=GH.out.set 2 (.bool true);rwa [eu (qK D o c f i) (km (qK D o c f i) 2) 2 true (fun j _=>rfl)]at this
         clear GD e1 GH Ep Ea;go_wp2
         refine⟨⟨i+1,by go_num,by omega,aA.out⟩,?_⟩;simp only[intOf];omega
       | true=>
         rw[GD]at m2';have aA:Hid (ah W w.heap.size (ar (3+n) (qK D o c f (i+1))) 4/\ah W gr (ar n o) 4/\Kept [] w W):=by
          refine⟨?_,Ep.out,Ea.out⟩;rw[e1.out];unfold I1;rw[if_neg (fun hc=>by have:=hc.2;rw[GD]at this;cases this)];exact GH.out
         clear GD e1 GH Ep Ea;go_wp2
         refine⟨⟨i+1,by go_num,by omega,aA.out⟩,?_⟩;simp only[intOf];omega
      ·have t8:(x.kind==8)=false:=beq_eq_false_iff_ne.2 h8;have e1:Hid (qK D o c f (i+1)=I2 D c x (qK D o c f i)):=by
        show _=_;rw[e.out];unfold I1;rw[if_neg (fun hc=>h8 hc.1)]
       clear h8 e;by_cases h1:x.kind=1
       ·have t1:(x.kind==1)=true:=by rw[h1];rfl
        obtain rfl:=WR.out h1;have hnx1:=oz.out h1;have XU:Hid (∀w',Kept [] w w'->Calls _ _ _ w' _):=WT.out h1;have CC:Hid (x.kind=1):=h1;clear h1 WT WR oz b2 b2f;go_upto_region 13 with fail
        go_quiet (first | (go_at_call 157;exact Calls.quiet_of_same (XU.out _ (by repeat (first | exact Ea.out | apply Kept.drew | apply Kept.drewN)))))
        obtain⟨V,hV⟩:∃V,V=W.drewN nq:=⟨_,rfl⟩;rw[<-hV];have kV:Kept [] W V:=by rw[hV];exact(Kept.refl [] W).drewN _
        have hVb:Hid (ah V w.heap.size (ar (3+n) (qK D o c f i)) 4):=GH.out.kept kV (by simp);have hVr:Hid (ah V gr (ar n o) 4):=Ep.out.kept kV (by simp);have hVk:Hid (Kept [] w V):=Ea.out.trans kV;have y2:V.cell? ⟨wr.heap.size,2,none⟩=some (.int .i64 (x.next:Int)):=(kV.cell xl 2).trans x2;have y0:V.cell? ⟨wr.heap.size,0,none⟩=some (.int .i64 x.kind):=(kV.cell xl 0).trans x0;have yl:wr.heap.size<V.heap.size:=Nat.lt_of_lt_of_le xl kV.size;have p1:V.cell? ⟨w.heap.size,3+x.next,none⟩=some (.bool (qK D o c f i (3+x.next))):=by rw[hVb.out.cell,aW _ (by omega)]
        have p2:=hVb.out.frozen (3+x.next);have p3:=hVb.out.lt;have aA:Hid (ah (V.setCell ⟨w.heap.size,3+x.next,none⟩ (.bool (qK D o c f i (3+x.next) || sq D c x))) w.heap.size (ar (3+n) (qK D o c f (i+1))) 4/\ah (V.setCell ⟨w.heap.size,3+x.next,none⟩ (.bool (qK D o c f i (3+x.next) || sq D c x))) gr (ar n o) 4/\Kept [] w (V.setCell ⟨w.heap.size,3+x.next,none⟩ (.bool (qK D o c f i (3+x.next) || sq D c x)))):=by
         refine⟨?_,hVr.out.other _ _ fx,hVk.out.setCell (Or.inr (Nat.le_refl _)) _⟩;rw[e1.out];unfold I2;rw[if_pos CC.out];have:=hVb.out.set (3+x.next) (.bool (qK D o c f i (3+x.next) || sq D c x))
         rwa [eu (qK D o c f i) (fun k=>if k=3+x.next then (qK D o c f i (3+x.next) || sq D c x) else qK D o c f i k) (3+x.next) _ (fun j _=>rfl)]at this
        clear hV kV GH Ep Ea hVb hVr hVk e1 CC XU x0 x1 x2 xl m5' m2' m1' hmbW bl t8;generalize qK D o c f i (3+x.next)=A at *;generalize sq D c x=Y at *;cases A with
        | true=>
          rw[Bool.true_or]at aA;go_wp2_with fail
          go_region
          go_wp2
          refine⟨⟨i+1,by go_num,by omega,aA.out.1.drew,aA.out.2.1.drew,aA.out.2.2.drew⟩,?_⟩;simp only[intOf];omega
        | false=>
          rw[Bool.false_or]at aA;go_wp2_with fail
          go_region
          go_wp2
          refine⟨⟨i+1,by go_num,by omega,aA.out.1.drew,aA.out.2.1.drew,aA.out.2.2.drew⟩,?_⟩;simp only[intOf];omega
       ·have t1:(x.kind==1)=false:=beq_eq_false_iff_ne.2 h1;have aA:Hid (ah W w.heap.size (ar (3+n) (qK D o c f (i+1))) 4/\ah W gr (ar n o) 4/\Kept [] w W):=by
         refine⟨?_,Ep.out,Ea.out⟩;rw[e1.out];unfold I2;rw[if_neg h1];exact GH.out
        clear h1 e1 GH Ep Ea WT WR oz;go_wp2
        refine⟨⟨i+1,by go_num,by omega,aA.out⟩,?_⟩;simp only[intOf];omega
   ·have oC:i=n:=by omega
    subst oC;clear hb qD fG;go_wp2
    go_ret;refine⟨_,⟨⟨_,rfl,Nat.le_refl _,iI.out⟩,dj.out⟩,?_⟩;have:=TS (c:=c) Ek.out (f:=f) (o:=o) (by rw[<-nP.out];exact M0.out);rw[<-nP.out]at this;exact this
end Go.Proofs.YtgifhgnccmnbiabGreatDoor
