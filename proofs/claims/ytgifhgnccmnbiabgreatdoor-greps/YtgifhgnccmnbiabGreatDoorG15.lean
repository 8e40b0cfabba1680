/- Part of the proof. -/
import Derived.Test.YtgifhgnccmnbiabGreatDoorG14
import Derived.Deep.RegionHeld3
import Derived.Laws.IdiomStrings
set_option linter.unusedVariables false
set_option linter.unusedSimpArgs false
set_option maxHeartbeats 4000000
set_option maxRecDepth 100000
namespace Go.Proofs.YtgifhgnccmnbiabGreatDoor
open Go.RowKit Go.IntWalk
def FA(f:ByteArray):Prop:=bt f 0=83/\bt f 1=71
def FB(f:ByteArray):Prop:=bt f 0=83/\bt f 1=90
inductive cA (f:ByteArray):TT->Prop
 | rules:2<=f.size->f.size<=4000->FA f->kg f=true->cA f (M1 f)
 | yV {n:Nat}:2<=f.size->f.size<=4000->FB f->lP f=true->xM f n->JN (l7 (z0 f) n)=true->cA f (l7 (z0 f) n).2
theorem cA.one{f:ByteArray}{t u:TT}(h:cA f t)(h':cA f u):t=u:=by
 cases h with
 | rules _ _ a _=>
   cases h' with
   | rules=>rfl
   | yV _ _ b=>have:=a.2;have:=b.2;omega
 | yV _ _ a _ r _=>
   cases h' with
   | rules _ _ b=>have:=a.2;have:=b.2;omega
   | yV _ _ _ _ r' _=>rw[r.one r']
structure Wg (f:ByteArray)(w w':World)(e:Ending):Prop where
 below:Below w.heap.size w w'
 out:((∀t,¬cA f t)/\e=.returned (.tuple #[.agg az,.int .i64 4])) \/
  ∃t,cA f t/\((1099511627776<t.whole.len/\e=.returned (.tuple #[.agg az,.int .i64 5])) \/
   (t.whole.len<=1099511627776/\∃rv sv,tD w' w.heap.size t rv sv/\e=.returned (.tuple #[.agg (t.cells rv sv),.int .i64 0])))
theorem iQ{f:ByteArray}(h:2<=f.size)(a b:UInt8):f.extract 0 2=⟨#[a,b]⟩↔bt f 0=a.toNat/\bt f 1=b.toNat:=by
 have e:f.extract 0 2=⟨#[f[0],f[1]]⟩:=by
  apply ByteArray.ext;rw[ByteArray.data_extract];apply Array.ext
  ·simp;omega
  ·intro i h1 h2;have h2':i<2:=h2;rw[Array.getElem_extract];rcases (by omega:i=0\/i=1) with rfl|rfl <;> rfl
 rw[e,nh (by omega),nh (by omega)];constructor
 ·intro h2;have h3:=congrArg ByteArray.data h2;simp only[Array.mk.injEq,List.cons.injEq,and_true]at h3;exact⟨by rw[h3.1],by rw[h3.2]⟩
 ·rintro⟨h2,h3⟩;rw[UInt8.toNat_inj.1 h2,UInt8.toNat_inj.1 h3]
theorem two8{w1:World}{n:Nat}(hz:ah w1 n az 86)(v0 v1 v2 v3 v4 v5 v6 v7 u0 u1 u2 u3 u4 u5 u6 u7:Value):
 ah ((((((((((((((((w1.setCell ⟨(n+1),0,none⟩ v0).setCell ⟨(n+1),1,none⟩ v1).setCell ⟨(n+1),2,none⟩ v2).setCell ⟨(n+1),3,none⟩ v3).setCell ⟨(n+1),4,none⟩ v4).setCell ⟨(n+1),5,none⟩ v5).setCell ⟨(n+1),6,none⟩ v6).setCell ⟨(n+1),7,none⟩ v7).setCell ⟨n,0,none⟩ u0).setCell ⟨n,1,none⟩ u1).setCell ⟨n,2,none⟩ u2).setCell ⟨n,3,none⟩ u3).setCell ⟨n,4,none⟩ u4).setCell ⟨n,5,none⟩ u5).setCell ⟨n,6,none⟩ u6).setCell ⟨n,7,none⟩ u7) n #[u0,u1,u2,u3,u4,u5,u6,u7] 86/\Kept [n+1,n] w1 ((((((((((((((((w1.setCell ⟨(n+1),0,none⟩ v0).setCell ⟨(n+1),1,none⟩ v1).setCell ⟨(n+1),2,none⟩ v2).setCell ⟨(n+1),3,none⟩ v3).setCell ⟨(n+1),4,none⟩ v4).setCell ⟨(n+1),5,none⟩ v5).setCell ⟨(n+1),6,none⟩ v6).setCell ⟨(n+1),7,none⟩ v7).setCell ⟨n,0,none⟩ u0).setCell ⟨n,1,none⟩ u1).setCell ⟨n,2,none⟩ u2).setCell ⟨n,3,none⟩ u3).setCell ⟨n,4,none⟩ u4).setCell ⟨n,5,none⟩ u5).setCell ⟨n,6,none⟩ u6).setCell ⟨n,7,none⟩ u7):=by
 have k1:=pn w1 (n+1) v0 v1 v2 v3 v4 v5 v6 v7;have h1:=hz.kept k1 (by simp);exact⟨wj h1 u0 u1 u2 u3 u4 u5 u6 u7,(k1.mono (by simp)).trans ((pn _ n u0 u1 u2 u3 u4 u5 u6 u7).mono (by simp))⟩
theorem SG(a b:UInt8):(⟨#[a,b]⟩:ByteArray).toList=[a,b]:=by
 unfold ByteArray.toList;rw[ByteArray.toList.loop.eq_1];simp[ByteArray.size];rw[ByteArray.toList.loop.eq_1];simp[ByteArray.size];rw[ByteArray.toList.loop.eq_1];simp[ByteArray.size];exact⟨rfl,rfl⟩
theorem zO{f:ByteArray}(h:2<=f.size)(a b:UInt8)(hn:¬(bt f 0=a.toNat/\bt f 1=b.toNat)):((f.extract 0 2).toList==[a,b])=false:=by
 have e:f.extract 0 2=⟨#[f[0],f[1]]⟩:=(iQ h f[0] f[1]).2 ⟨nh (by omega),nh (by omega)⟩;rw[e,SG];rw[nh (by omega),nh (by omega)]at hn;rw[beq_eq_false_iff_ne];intro hc;simp only[List.cons.injEq,and_true]at hc;exact hn ⟨by rw[hc.1],by rw[hc.2]⟩
theorem cA.zP{f:ByteArray}(h1:¬(FA f/\kg f=true))(h2:¬(FB f/\lP f=true/\∃n,xM f n/\JN (l7 (z0 f) n)=true)):∀t,¬cA f t:=fun t ht=>by
 cases ht with
 | rules _ _ a b=>exact h1 ⟨a,b⟩
 | yV _ _ a b c d=>exact h2 ⟨a,b,_,c,d⟩
theorem SH{f:ByteArray}(h:FA f):¬FB f:=fun h2=>by have:=h.2;have:=h2.2;omega
theorem xN(f:ByteArray)(hf:f.size<=maxLen)(w:World):
 Calls Tryz.prog 45 #[.string f] w fun e w'=>Wg f w w' e:=by
 unfold maxLen at hf;have kJ:Hid (f.size<2\/4000<f.size->∀t,¬cA f t):=fun h t ht=>by cases ht <;> omega
 have hz:ah (w.alloc (.cells az 86)) w.heap.size az 86:=ah.new w _ _;have hB:Hid (Below w.heap.size w (w.alloc (.cells az 86))):=(Below.refl w.heap.size w).alloc (Nat.le_refl _) _;by_cases h1:(4000:Int)<(f.size:Int)
 ·have hn:Hid (∀t,¬cA f t):=kJ.out (Or.inr (by omega));go_enter Tryz.func45,Tryz.ntmps45
  go_wp2
  exact bodyPost_ret (v:=.tuple #[.agg az,.int .i64 4]) (aP Tryz.results45 _ _ w.heap.size az rfl _ rfl rfl (ah.new w _ _)) rfl ⟨hB.out,Or.inl ⟨hn.out,rfl⟩⟩
 ·by_cases h2:(f.size:Int)<2
  ·have hn:Hid (∀t,¬cA f t):=kJ.out (Or.inl (by omega));go_enter Tryz.func45,Tryz.ntmps45
   go_wp2
   exact bodyPost_ret (v:=.tuple #[.agg az,.int .i64 4]) (aP Tryz.results45 _ _ w.heap.size az rfl _ rfl rfl (ah.new w _ _)) rfl ⟨hB.out,Or.inl ⟨hn.out,rfl⟩⟩
  ·have h1':(f.size:Int)<=4000:=by omega
   have h2':(2:Int)<=(f.size:Int):=by omega
   clear h1 h2;by_cases hG:FA f
   ·have eG:f.extract 0 2=⟨#[83,71]⟩:=(iQ (by omega) 83 71).2 hG;have qO:Hid (FA f):=hG;clear hG;have hc:Hid (Calls _ _ _ ((w.alloc (.cells az 86)).alloc (.cells az 86)) _):=CZ f (by omega) _;unfold az at hc;clear hz;go_enter Tryz.func45,Tryz.ntmps45
    go_wp2_with fail
    refine hc.out.mono ?_;rintro e w1 kj;have Bj:wu f ((w.alloc (.cells az 86)).alloc (.cells az 86)) w1 e:=kj;have AK:=Bj.below;have ho:=Bj.out;clear hc kj Bj;have dP:ah w1 w.heap.size az 86:=(AK.block _ (by simp;omega)).trans ((ah.new w _ _).alloc _);have dB:ah w1 (w.heap.size+1) az 86:=by
     have e:(w.alloc (.cells az 86)).heap.size=w.heap.size+1:=by simp
     have:=ah.new (w.alloc (.cells az 86)) az 86;rw[e]at this;exact(AK.block _ (by simp)).trans this
    have hS:Hid (∀v0 v1 v2 v3 v4 v5 v6 v7 u0 u1 u2 u3 u4 u5 u6 u7,_/\_):=two8 dP;have oV:Hid (∀w3,Kept [w.heap.size+1,w.heap.size] w1 w3->Below w.heap.size w w3):=fun w3 k=>((hB.out.alloc (by simp) _).trans (AK.mono (by simp;omega))).trans (k.below (by have:=dP.lt;omega) (by simp));have YH:w.heap.size+1<w1.heap.size:=dB.lt;unfold az at dP dB;have zc0:w1.cell? ⟨w.heap.size,0,none⟩=some (.int .i64 0):=dP.cell 0;have y0:w1.frozen? ⟨w.heap.size,0,none⟩=false:=dP.frozen 0;have x0:w1.cell? ⟨w.heap.size+1,0,none⟩=some (.int .i64 0):=dB.cell 0;have tf0:w1.frozen? ⟨w.heap.size+1,0,none⟩=false:=dB.frozen 0;have zc1:w1.cell? ⟨w.heap.size,1,none⟩=some (.int .i64 0):=dP.cell 1;have y1:w1.frozen? ⟨w.heap.size,1,none⟩=false:=dP.frozen 1;have x1:w1.cell? ⟨w.heap.size+1,1,none⟩=some (.int .i64 0):=dB.cell 1;have tf1:w1.frozen? ⟨w.heap.size+1,1,none⟩=false:=dB.frozen 1;have zc2:w1.cell? ⟨w.heap.size,2,none⟩=some (.slice none 0 0):=dP.cell 2;have y2:w1.frozen? ⟨w.heap.size,2,none⟩=false:=dP.frozen 2;have x2:w1.cell? ⟨w.heap.size+1,2,none⟩=some (.slice none 0 0):=dB.cell 2;have tf2:w1.frozen? ⟨w.heap.size+1,2,none⟩=false:=dB.frozen 2;have zc3:w1.cell? ⟨w.heap.size,3,none⟩=some (.slice none 0 0):=dP.cell 3;have y3:w1.frozen? ⟨w.heap.size,3,none⟩=false:=dP.frozen 3;have x3:w1.cell? ⟨w.heap.size+1,3,none⟩=some (.slice none 0 0):=dB.cell 3;have tf3:w1.frozen? ⟨w.heap.size+1,3,none⟩=false:=dB.frozen 3;have zc4:w1.cell? ⟨w.heap.size,4,none⟩=some (.int .i64 0):=dP.cell 4;have y4:w1.frozen? ⟨w.heap.size,4,none⟩=false:=dP.frozen 4;have x4:w1.cell? ⟨w.heap.size+1,4,none⟩=some (.int .i64 0):=dB.cell 4;have tf4:w1.frozen? ⟨w.heap.size+1,4,none⟩=false:=dB.frozen 4;have zc5:w1.cell? ⟨w.heap.size,5,none⟩=some (.int .i64 0):=dP.cell 5;have y5:w1.frozen? ⟨w.heap.size,5,none⟩=false:=dP.frozen 5;have x5:w1.cell? ⟨w.heap.size+1,5,none⟩=some (.int .i64 0):=dB.cell 5;have tf5:w1.frozen? ⟨w.heap.size+1,5,none⟩=false:=dB.frozen 5;have zc6:w1.cell? ⟨w.heap.size,6,none⟩=some (.int .i64 0):=dP.cell 6;have y6:w1.frozen? ⟨w.heap.size,6,none⟩=false:=dP.frozen 6;have x6:w1.cell? ⟨w.heap.size+1,6,none⟩=some (.int .i64 0):=dB.cell 6;have tf6:w1.frozen? ⟨w.heap.size+1,6,none⟩=false:=dB.frozen 6;have zc7:w1.cell? ⟨w.heap.size,7,none⟩=some (.int .i64 0):=dP.cell 7;have y7:w1.frozen? ⟨w.heap.size,7,none⟩=false:=dP.frozen 7;have x7:w1.cell? ⟨w.heap.size+1,7,none⟩=some (.int .i64 0):=dB.cell 7;have tf7:w1.frozen? ⟨w.heap.size+1,7,none⟩=false:=dB.frozen 7;clear dP dB;rcases ho with⟨zH,rv,sv,AB,rfl⟩|⟨zH,rfl⟩
    ·have JO:cA f (M1 f):=cA.rules (by omega) (by omega) qO.out zH;obtain⟨t,ht⟩:∃t,t=(M1 f):=⟨_,rfl⟩;rw[<-ht]at JO AB ⊢;have SJ:Hid (cA f t):=JO;have Zd:Hid (∀w3,Kept [w.heap.size+1,w.heap.size] w1 w3->tD w3 w.heap.size t rv sv):=fun w3 k=>(AB.kept k (fun g hg=>by simp at hg ⊢;omega)).mono (by simp;omega);obtain⟨ra,rn,rc,rfl⟩:=bp AB.rules;obtain⟨sa,sn,sc,rfl⟩:=bp AB.start;clear JO AB ht AK;unfold TT.cells;by_cases rq:(1099511627776:Int)<(t.whole.len:Int)
     ·unfold az at *;go_wp2
      refine bodyPost_ret (v:=.tuple #[.agg az,.int .i64 5]) (aP Tryz.results45 _ _ w.heap.size az rfl _ rfl rfl (hS.out _ _ _ _ _ _ _ _ _ _ _ _ _ _ _ _ ).1) rfl ?_;exact⟨oV.out _ (hS.out _ _ _ _ _ _ _ _ _ _ _ _ _ _ _ _ ).2,Or.inr ⟨t,SJ.out,Or.inl ⟨by omega,rfl⟩⟩⟩
     ·have hle:t.whole.len<=1099511627776:=by omega
      go_wp2
      refine bodyPost_ret (v:=.tuple #[.agg #[.int .i64 t.kind,.int .i64 t.syms,.slice ra rn rc,.slice sa sn sc,.int .i64 t.whole.len,.int .i64 t.whole.nl,.int .i64 t.whole.first,.int .i64 t.whole.last],.int .i64 0]) (aP Tryz.results45 _ _ w.heap.size _ rfl _ rfl rfl (hS.out _ _ _ _ _ _ _ _ _ _ _ _ _ _ _ _ ).1) rfl ?_;exact⟨oV.out _ (hS.out _ _ _ _ _ _ _ _ _ _ _ _ _ _ _ _ ).2,Or.inr ⟨t,SJ.out,Or.inr ⟨hle,_,_,Zd.out _ (hS.out _ _ _ _ _ _ _ _ _ _ _ _ _ _ _ _ ).2,rfl⟩⟩⟩
    ·have Lj:Hid (∀t,¬cA f t):=cA.zP (fun h=>by rw[zH]at h;exact Bool.noConfusion h.2) (fun h=>SH qO.out h.1);clear AK;unfold az;go_wp2
     refine bodyPost_ret (v:=.tuple #[.agg az,.int .i64 4]) (aP Tryz.results45 _ _ w.heap.size az rfl _ rfl rfl (hS.out _ _ _ _ _ _ _ _ _ _ _ _ _ _ _ _ ).1) rfl ?_;exact⟨oV.out _ (hS.out _ _ _ _ _ _ _ _ _ _ _ _ _ _ _ _ ).2,Or.inl ⟨Lj.out,rfl⟩⟩
   ·by_cases hZ:FB f
    ·have eG:f.extract 0 2=⟨#[83,90]⟩:=(iQ (by omega) 83 90).2 hZ;have hZH:Hid (FB f):=hZ;clear hZ;have hc:Hid (Calls _ _ _ ((w.alloc (.cells az 86)).alloc (.cells az 86)) _):=C4 f (by omega) _;unfold az at hc;clear hz;go_enter Tryz.func45,Tryz.ntmps45
     go_wp2_with fail
     refine hc.out.mono ?_;rintro e w1 kj;have Bj:Bi f ((w.alloc (.cells az 86)).alloc (.cells az 86)) w1 e:=kj;have AK:=Bj.below;have ho:=Bj.out;clear hc kj Bj;have dP:ah w1 w.heap.size az 86:=(AK.block _ (by simp;omega)).trans ((ah.new w _ _).alloc _);have dB:ah w1 (w.heap.size+1) az 86:=by
      have e:(w.alloc (.cells az 86)).heap.size=w.heap.size+1:=by simp
      have:=ah.new (w.alloc (.cells az 86)) az 86;rw[e]at this;exact(AK.block _ (by simp)).trans this
     have hS:Hid (∀v0 v1 v2 v3 v4 v5 v6 v7 u0 u1 u2 u3 u4 u5 u6 u7,_/\_):=two8 dP;have oV:Hid (∀w3,Kept [w.heap.size+1,w.heap.size] w1 w3->Below w.heap.size w w3):=fun w3 k=>((hB.out.alloc (by simp) _).trans (AK.mono (by simp;omega))).trans (k.below (by have:=dP.lt;omega) (by simp));have YH:w.heap.size+1<w1.heap.size:=dB.lt;unfold az at dP dB;have zc0:w1.cell? ⟨w.heap.size,0,none⟩=some (.int .i64 0):=dP.cell 0;have y0:w1.frozen? ⟨w.heap.size,0,none⟩=false:=dP.frozen 0;have x0:w1.cell? ⟨w.heap.size+1,0,none⟩=some (.int .i64 0):=dB.cell 0;have tf0:w1.frozen? ⟨w.heap.size+1,0,none⟩=false:=dB.frozen 0;have zc1:w1.cell? ⟨w.heap.size,1,none⟩=some (.int .i64 0):=dP.cell 1;have y1:w1.frozen? ⟨w.heap.size,1,none⟩=false:=dP.frozen 1;have x1:w1.cell? ⟨w.heap.size+1,1,none⟩=some (.int .i64 0):=dB.cell 1;have tf1:w1.frozen? ⟨w.heap.size+1,1,none⟩=false:=dB.frozen 1;have zc2:w1.cell? ⟨w.heap.size,2,none⟩=some (.slice none 0 0):=dP.cell 2;have y2:w1.frozen? ⟨w.heap.size,2,none⟩=false:=dP.frozen 2;have x2:w1.cell? ⟨w.heap.size+1,2,none⟩=some (.slice none 0 0):=dB.cell 2;have tf2:w1.frozen? ⟨w.heap.size+1,2,none⟩=false:=dB.frozen 2;have zc3:w1.cell? ⟨w.heap.size,3,none⟩=some (.slice none 0 0):=dP.cell 3;have y3:w1.frozen? ⟨w.heap.size,3,none⟩=false:=dP.frozen 3;have x3:w1.cell? ⟨w.heap.size+1,3,none⟩=some (.slice none 0 0):=dB.cell 3;have tf3:w1.frozen? ⟨w.heap.size+1,3,none⟩=false:=dB.frozen 3;have zc4:w1.cell? ⟨w.heap.size,4,none⟩=some (.int .i64 0):=dP.cell 4;have y4:w1.frozen? ⟨w.heap.size,4,none⟩=false:=dP.frozen 4;have x4:w1.cell? ⟨w.heap.size+1,4,none⟩=some (.int .i64 0):=dB.cell 4;have tf4:w1.frozen? ⟨w.heap.size+1,4,none⟩=false:=dB.frozen 4;have zc5:w1.cell? ⟨w.heap.size,5,none⟩=some (.int .i64 0):=dP.cell 5;have y5:w1.frozen? ⟨w.heap.size,5,none⟩=false:=dP.frozen 5;have x5:w1.cell? ⟨w.heap.size+1,5,none⟩=some (.int .i64 0):=dB.cell 5;have tf5:w1.frozen? ⟨w.heap.size+1,5,none⟩=false:=dB.frozen 5;have zc6:w1.cell? ⟨w.heap.size,6,none⟩=some (.int .i64 0):=dP.cell 6;have y6:w1.frozen? ⟨w.heap.size,6,none⟩=false:=dP.frozen 6;have x6:w1.cell? ⟨w.heap.size+1,6,none⟩=some (.int .i64 0):=dB.cell 6;have tf6:w1.frozen? ⟨w.heap.size+1,6,none⟩=false:=dB.frozen 6;have zc7:w1.cell? ⟨w.heap.size,7,none⟩=some (.int .i64 0):=dP.cell 7;have y7:w1.frozen? ⟨w.heap.size,7,none⟩=false:=dP.frozen 7;have x7:w1.cell? ⟨w.heap.size+1,7,none⟩=some (.int .i64 0):=dB.cell 7;have tf7:w1.frozen? ⟨w.heap.size+1,7,none⟩=false:=dB.frozen 7;clear dP dB;rcases ho with⟨hm,rfl⟩|⟨hm,n,hr,⟨zH,rv,sv,AB,rfl⟩|⟨zH,rfl⟩⟩
     ·have Lj:Hid (∀t,¬cA f t):=cA.zP (fun h=>hG h.1) (fun h=>by rw[hm]at h;exact Bool.noConfusion h.2.1);clear AK;unfold az;go_wp2
      refine bodyPost_ret (v:=.tuple #[.agg az,.int .i64 4]) (aP Tryz.results45 _ _ w.heap.size az rfl _ rfl rfl (hS.out _ _ _ _ _ _ _ _ _ _ _ _ _ _ _ _ ).1) rfl ?_;exact⟨oV.out _ (hS.out _ _ _ _ _ _ _ _ _ _ _ _ _ _ _ _ ).2,Or.inl ⟨Lj.out,rfl⟩⟩
     ·have JO:cA f (l7 (z0 f) n).2:=cA.yV (by omega) (by omega) hZH.out hm hr zH;obtain⟨t,ht⟩:∃t,t=(l7 (z0 f) n).2:=⟨_,rfl⟩;rw[<-ht]at JO AB ⊢;have SJ:Hid (cA f t):=JO;have Zd:Hid (∀w3,Kept [w.heap.size+1,w.heap.size] w1 w3->tD w3 w.heap.size t rv sv):=fun w3 k=>(AB.kept k (fun g hg=>by simp at hg ⊢;omega)).mono (by simp;omega);obtain⟨ra,rn,rc,rfl⟩:=bp AB.rules;obtain⟨sa,sn,sc,rfl⟩:=bp AB.start;clear JO AB ht AK;unfold TT.cells;by_cases rq:(1099511627776:Int)<(t.whole.len:Int)
      ·unfold az at *;go_wp2
       refine bodyPost_ret (v:=.tuple #[.agg az,.int .i64 5]) (aP Tryz.results45 _ _ w.heap.size az rfl _ rfl rfl (hS.out _ _ _ _ _ _ _ _ _ _ _ _ _ _ _ _ ).1) rfl ?_;exact⟨oV.out _ (hS.out _ _ _ _ _ _ _ _ _ _ _ _ _ _ _ _ ).2,Or.inr ⟨t,SJ.out,Or.inl ⟨by omega,rfl⟩⟩⟩
      ·have hle:t.whole.len<=1099511627776:=by omega
       go_wp2
       refine bodyPost_ret (v:=.tuple #[.agg #[.int .i64 t.kind,.int .i64 t.syms,.slice ra rn rc,.slice sa sn sc,.int .i64 t.whole.len,.int .i64 t.whole.nl,.int .i64 t.whole.first,.int .i64 t.whole.last],.int .i64 0]) (aP Tryz.results45 _ _ w.heap.size _ rfl _ rfl rfl (hS.out _ _ _ _ _ _ _ _ _ _ _ _ _ _ _ _ ).1) rfl ?_;exact⟨oV.out _ (hS.out _ _ _ _ _ _ _ _ _ _ _ _ _ _ _ _ ).2,Or.inr ⟨t,SJ.out,Or.inr ⟨hle,_,_,Zd.out _ (hS.out _ _ _ _ _ _ _ _ _ _ _ _ _ _ _ _ ).2,rfl⟩⟩⟩
     ·have Lj:Hid (∀t,¬cA f t):=cA.zP (fun h=>hG h.1) (fun h=>by obtain⟨_,_,m,sZ,h3⟩:=h;rw[sZ.one hr,zH]at h3;exact Bool.noConfusion h3);clear AK;unfold az;go_wp2
      refine bodyPost_ret (v:=.tuple #[.agg az,.int .i64 4]) (aP Tryz.results45 _ _ w.heap.size az rfl _ rfl rfl (hS.out _ _ _ _ _ _ _ _ _ _ _ _ _ _ _ _ ).1) rfl ?_;exact⟨oV.out _ (hS.out _ _ _ _ _ _ _ _ _ _ _ _ _ _ _ _ ).2,Or.inl ⟨Lj.out,rfl⟩⟩
    ·have Lj:Hid (∀t,¬cA f t):=cA.zP (fun h=>hG h.1) (fun h=>hZ h.1);have n1:¬f.extract 0 2=⟨#[83,71]⟩:=fun h=>hG ((iQ (by omega) 83 71).1 h);have n2:¬f.extract 0 2=⟨#[83,90]⟩:=fun h=>hZ ((iQ (by omega) 83 90).1 h);have d1:((f.extract 0 2).toList==[83,71])=false:=zO (by omega) 83 71 (fun h=>hG h);have d2:((f.extract 0 2).toList==[83,90])=false:=zO (by omega) 83 90 (fun h=>hZ h);have dB:Hid (ah ((w.alloc (.cells az 86)).alloc (.cells az 86)) w.heap.size az 86/\Below w.heap.size w ((w.alloc (.cells az 86)).alloc (.cells az 86))):=⟨hz.alloc _,hB.out.alloc (by simp) _⟩;clear hz hG hZ n1 n2;go_enter Tryz.func45,Tryz.ntmps45
     go_wp2
     exact bodyPost_ret (v:=.tuple #[.agg az,.int .i64 4]) (aP Tryz.results45 _ _ w.heap.size az rfl _ rfl rfl dB.out.1) rfl ⟨dB.out.2,Or.inl ⟨Lj.out,rfl⟩⟩
def iF(f:ByteArray)(i:Nat):Int:=if i+2<=f.size then (bt f i:Int)+256*(bt f (i+1):Int) else -1
theorem Lk(f:ByteArray)(i:Nat):-1<=iF f i/\iF f i<=65535:=by
 have h1:=Sr f i;have h2:=Sr f (i+1);unfold iF;split <;> omega
theorem Wi{f:ByteArray}{i:Nat}:iF f i<0↔¬i+2<=f.size:=by
 unfold iF;split
 ·constructor
  ·intro h;omega
  ·intro h;omega
 ·constructor
  ·intro h;assumption
  ·intro h;omega
theorem Bk(f:ByteArray)(hf:f.size<=100000)(i:Nat)(hi:i<=100000)(w:World):
 Calls Tryz.prog 106 #[.string f,.int .i64 (i:Int)] w fun e w'=>e=.returned (.int .i64 (iF f i))/\Kept [] w w':=by
 have g0:¬(i:Int)<0:=by omega
 by_cases h:i+2<=f.size
 ·have e:Hid (iF f i=(f[i].toNat:Int)+256*(f[i+1].toNat:Int)):=by
   show iF f i=_;unfold iF;rw[if_pos h,nh (by omega),nh (by omega)]
  have g1:¬(f.size:Int)<(i:Int)+2:=by omega
  have g2:(i:Int)<(f.size:Int):=by omega
  have g3:(i:Int)+1<(f.size:Int):=by omega
  have g4:(0:Int)<=(i:Int)+1:=by omega
  have b1:=f[i].toNat_lt;have b2:=f[i+1].toNat_lt;have e1:IntKind.i64.wrap (f[i].toNat:Int)=(f[i].toNat:Int):=by rw[IntKind.wrap_i64];omega
  have e2:IntKind.i64.wrap (f[i+1].toNat:Int)=(f[i+1].toNat:Int):=by rw[IntKind.wrap_i64];omega
  go_enter Tryz.func106,Tryz.ntmps106
  go_wp2_with fail
  go_quiet (fail)
  go_wp2
  go_ret;exact⟨bQ (by rw[e.out]),(Kept.refl [] w).drewN _⟩
 ·have e:Hid (iF f i = -1):=if_neg h;have g1:(f.size:Int)<(i:Int)+2:=by omega
  go_enter Tryz.func106,Tryz.ntmps106
  go_wp2
  go_ret;exact⟨bQ (by rw[e.out]),Kept.refl _ _⟩
structure lD (f:ByteArray):Prop where
 SK:5<=f.size
 most:f.size<=4000
 sg:FA f
 r:bt f 2<=100
 rules:∀k,k<2*bt f 2->0<=iF f (3+2*k)/\iF f (3+2*k)<256+((k / 2:Nat):Int)
 n0:0<=iF f (3+4*bt f 2)
 n1:iF f (3+4*bt f 2)<=1000
 size:(f.size:Int)=5+4*(bt f 2:Int)+2*iF f (3+4*bt f 2)
 syms:∀k:Nat,(k:Int)<iF f (3+4*bt f 2)->iF f (5+4*bt f 2+2*k)<256+(bt f 2:Int)
structure SL (f:ByteArray)(w w':World)(e:Ending):Prop where
 kept:Kept [] w w'
 out:(lD f/\e=.returned (.tuple #[.int .i64 (iF f (3+4*bt f 2)),.bool true]))\/(¬lD f/\e=.returned (.tuple #[.int .i64 0,.bool false]))
theorem Ll(f:ByteArray)(hf:f.size<=maxLen)(w:World):
 Calls Tryz.prog 105 #[.string f] w fun e w'=>SL f w w' e:=by
 unfold maxLen at hf;have rJ:Hid (Kept [] w w):=Kept.refl _ _;by_cases h5:(f.size:Int)<5
 ·have hn:Hid (¬lD f):=fun h=>by have:=h.SK;omega
  go_enter Tryz.func105,Tryz.ntmps105
  go_wp2
  go_ret2;exact⟨rJ.out,Or.inr ⟨hn.out,rfl⟩⟩
 by_cases h4:(4000:Int)<(f.size:Int)
 ·have hn:Hid (¬lD f):=fun h=>by have:=h.most;omega
  have h5':(5:Int)<=(f.size:Int):=by omega
  clear h5;go_enter Tryz.func105,Tryz.ntmps105
  go_wp2
  go_ret2;exact⟨rJ.out,Or.inr ⟨hn.out,rfl⟩⟩
 have h4':(f.size:Int)<=4000:=by omega
 have h5':(5:Int)<=(f.size:Int):=by omega
 have h2':(2:Int)<=(f.size:Int):=by omega
 have h2i:(2:Int)<(f.size:Int):=by omega
 clear h4 h5;by_cases hG:FA f
 ·have eG:f.extract 0 2=⟨#[83,71]⟩:=(iQ (by omega) 83 71).2 hG;have qO:Hid (FA f):=hG;clear hG;obtain⟨r,hr⟩:∃r,r=bt f 2:=⟨_,rfl⟩;have YG:f[2].toNat=r:=by rw[hr,nh (by omega)]
  have hr255:r<256:=by rw[<-YG];exact f[2].toNat_lt
  have ug:Hid (r=bt f 2):=hr;clear hr;by_cases qD:(100:Int)<(r:Int)
  ·have hn:Hid (¬lD f):=fun h=>by have:=h.r;rw[<-ug.out]at this;omega
   go_enter Tryz.func105,Tryz.ntmps105
   go_wp2
   go_ret2;exact⟨rJ.out,Or.inr ⟨hn.out,rfl⟩⟩
  ·have hrb':(r:Int)<=100:=by omega
   clear qD;have qU:Hid (∀i,i<=100000->∀w,Calls _ _ _ w _):=fun i hi w=>Bk f (by omega) i hi w;go_enter Tryz.func105,Tryz.ntmps105
   go_wp2_with fail
   go_loopw [5] (fun iv wr=>∃k:Nat,iv=.int .i64 (k:Int)/\k<=2*r/\(∀j,j<k->0<=iF f (3+2*j)/\iF f (3+2*j)<256+((j / 2:Nat):Int))/\Kept [] w wr) (fun iv _=>(2*(r:Int)-intOf iv).toNat)
   case atStart=>exact⟨0,rfl,Nat.zero_le _,fun j hj=>by omega,rJ.out⟩
   case round=>
    obtain⟨k,rfl,hk,iA,fG⟩:=hrel;have cP:Hid (∀j,_):=iA;have dj:Hid (Kept _ _ _):=fG;clear iA fG;by_cases bO:(k:Int)<2*(r:Int)
    ·have hc:=qU.out (3+2*k) (by omega) wr;have yW:((3+2*k:Nat):Int)=3+2*(k:Int):=by omega
     rw[yW]at hc;have hc:Hid (Calls _ _ _ _ _):=hc;have hb:=Lk f (3+2*k);have qE:Hid (lD f->0<=iF f (3+2*k)/\iF f (3+2*k)<256+((k / 2:Nat):Int)):=fun h=>h.rules k (by rw[<-ug.out];omega);have cy:Hid (0<=iF f (3+2*k)/\iF f (3+2*k)<256+((k / 2:Nat):Int)->∀j,j<k+1->0<=iF f (3+2*j)/\iF f (3+2*j)<256+((j / 2:Nat):Int)):=fun h j hj=>by
      by_cases hjk:j=k
      ·subst hjk;exact h
      ·exact cP.out j (by omega)
     have ediv:(k:Int).tdiv 2=((k / 2:Nat):Int):=(Int.ofNat_tdiv k 2).symm;have Cy:k / 2<=200:=by omega
     clear yW qU;generalize iF f (3+2*k)=v at *;generalize k / 2=q at *;go_wp2_with fail
     refine hc.out.mono ?_;rintro e w2 ⟨rfl,k2⟩;have gH:Hid (Kept _ _ _):=dj.out.trans k2;clear hc k2 dj;by_cases V':v<0
     ·have hn:Hid (¬lD f):=fun h=>by have:=(qE.out h).1;omega
      clear qE cy cP;go_wp2
      go_ret2;exact⟨gH.out,Or.inr ⟨hn.out,rfl⟩⟩
     ·by_cases hv1:256+(q:Int)<=v
      ·have hn:Hid (¬lD f):=fun h=>by have:=(qE.out h).2;omega
       have hv0':0<=v:=by omega
       clear qE cy cP V';go_wp2
       go_ret2;exact⟨gH.out,Or.inr ⟨hn.out,rfl⟩⟩
      ·have oz:Hid (∀j,j<k+1->_):=cy.out ⟨by omega,by omega⟩;have hv0':0<=v:=by omega
       have hv1':v<256+(q:Int):=by omega
       clear qE cy cP V' hv1;go_wp2
       refine⟨⟨k+1,by go_num,by omega,oz.out,gH.out⟩,?_⟩;simp only[intOf];omega
    ·have JI:k=2*r:=by omega
     have XE:Hid (∀j,j<2*r->0<=iF f (3+2*j)/\iF f (3+2*j)<256+((j / 2:Nat):Int)):=fun j hj=>cP.out j (by omega);have hc:=qU.out (3+4*r) (by omega) wr;have yW:((3+4*r:Nat):Int)=3+4*(r:Int):=by omega
     rw[yW]at hc;have hc:Hid (Calls _ _ _ _ _):=hc;have hb:=Lk f (3+4*r);have SM:Hid (lD f->0<=iF f (3+4*r)/\iF f (3+4*r)<=1000/\(f.size:Int)=5+4*(r:Int)+2*iF f (3+4*r)/\∀j:Nat,(j:Int)<iF f (3+4*r)->iF f (5+4*r+2*j)<256+(r:Int)):=fun h=>by
      rw[ug.out];exact⟨h.n0,h.n1,h.size,h.syms⟩
     have zd:Hid (0<=iF f (3+4*r)->iF f (3+4*r)<=1000->(f.size:Int)=5+4*(r:Int)+2*iF f (3+4*r)->(∀j:Nat,(j:Int)<iF f (3+4*r)->iF f (5+4*r+2*j)<256+(r:Int))->lD f):=fun a b c d=>by
      rw[ug.out]at a b c d hrb' XE;exact⟨by omega,by omega,qO.out,by omega,XE.out,a,b,c,d⟩
     have Iq:Hid (∀e w',SL f w w' e↔(Kept [] w w'/\((lD f/\e=.returned (.tuple #[.int .i64 (iF f (3+4*r)),.bool true]))\/(¬lD f/\e=.returned (.tuple #[.int .i64 0,.bool false]))))):=fun e w'=>by
      rw[ug.out];exact⟨fun h=>⟨h.kept,h.out⟩,fun h=>⟨h.1,h.2⟩⟩
     clear yW cP JI hk;obtain⟨n,hn⟩:∃n,n=iF f (3+4*r):=⟨_,rfl⟩;rw[<-hn]at hc hb SM zd;have nP:Hid (n=_):=hn;clear hn;have Y':¬(k:Int)<2*(r:Int):=bO;go_wp2_with fail
     refine hc.out.mono ?_;rintro e w2 ⟨rfl,k2⟩;have gH:Hid (Kept _ _ _):=dj.out.trans k2;clear hc k2 dj;by_cases hn0:n<0
     ·have kJ:Hid (¬lD f):=fun h=>by have:=(SM.out h).1;omega
      clear SM zd qU;go_wp2
      go_ret2;exact(Iq.out _ _).2 ⟨gH.out,Or.inr ⟨kJ.out,rfl⟩⟩
     by_cases sW:1000<n
     ·have kJ:Hid (¬lD f):=fun h=>by have:=(SM.out h).2.1;omega
      have Ze:0<=n:=by omega
      clear SM zd qU hn0;go_wp2
      go_ret2;exact(Iq.out _ _).2 ⟨gH.out,Or.inr ⟨kJ.out,rfl⟩⟩
     have Ze:0<=n:=by omega
     have hn1':n<=1000:=by omega
     clear hn0 sW;by_cases dd:(f.size:Int)=5+4*(r:Int)+2*n
     ·have hszb:((f.size:Int) != 5+4*(r:Int)+2*n)=false:=by rw[dd];simp
      have SN:Hid (_=_):=dd;clear dd;go_wp2_with fail
      go_loopw [8] (fun iv wr=>∃j:Nat,iv=.int .i64 (j:Int)/\(j:Int)<=n/\(∀i:Nat,i<j->iF f (5+4*r+2*i)<256+(r:Int))/\Kept [] w wr) (fun iv _=>(n-intOf iv).toNat)
      case atStart=>exact⟨0,rfl,Ze,fun i hi=>by omega,gH.out⟩
      case round=>
       obtain⟨j,rfl,hj,iA,fG⟩:=hrel;have cP:Hid (∀i:Nat,_):=iA;have dj:Hid (Kept _ _ _):=fG;clear iA fG gH;by_cases uc:(j:Int)<n
       ·have hc:=fun w=>qU.out (5+4*r+2*j) (by omega) w;have yW:((5+4*r+2*j:Nat):Int)=5+4*(r:Int)+2*(j:Int):=by omega
        rw[yW]at hc;have hc:Hid (∀w,Calls _ _ _ w _):=hc;have jm:=Lk f (5+4*r+2*j);have qE:Hid (lD f->iF f (5+4*r+2*j)<256+(r:Int)):=fun h=>(SM.out h).2.2.2 j uc;have cy:Hid (iF f (5+4*r+2*j)<256+(r:Int)->∀i:Nat,i<j+1->iF f (5+4*r+2*i)<256+(r:Int)):=fun h i hi=>by
         by_cases N9:i=j
         ·subst N9;exact h
         ·exact cP.out i (by omega)
        clear yW qU cP;generalize iF f (5+4*r+2*j)=v at *;go_wp2_with fail
        refine(hc.out _).mono ?_;rintro e w3 ⟨rfl,k3⟩;have Dx:Hid (Kept _ _ _):=dj.out.trans k3;clear hc k3 dj;by_cases hv1:256+(r:Int)<=v
        ·have kJ:Hid (¬lD f):=fun h=>by have:=qE.out h;omega
         clear qE cy zd SM;go_wp2
         go_ret2;exact(Iq.out _ _).2 ⟨Dx.out,Or.inr ⟨kJ.out,rfl⟩⟩
        ·have oz:Hid (∀i:Nat,i<j+1->_):=cy.out (by omega);have hv1':v<256+(r:Int):=by omega
         clear qE cy zd SM hv1;go_wp2
         refine⟨⟨j+1,by go_num,by omega,oz.out,Dx.out⟩,?_⟩;simp only[intOf];omega
       ·have zo:Hid (lD f):=zd.out Ze hn1' SN.out (fun i hi=>cP.out i (by omega));clear zd SM cP qU;go_wp2
        go_ret2;exact(Iq.out _ _).2 ⟨dj.out,Or.inl ⟨zo.out,by rw[nP.out];rfl⟩⟩
     ·have kJ:Hid (¬lD f):=fun h=>dd (SM.out h).2.2.1;have hszb:((f.size:Int) != 5+4*(r:Int)+2*n)=true:=by simp[dd]
      clear SM zd qU dd;go_wp2
      go_ret2;exact(Iq.out _ _).2 ⟨gH.out,Or.inr ⟨kJ.out,rfl⟩⟩
 ·have hn:Hid (¬lD f):=fun h=>hG h.sg;have d1:((f.extract 0 2).toList==[83,71])=false:=zO (by omega) 83 71 (fun h=>hG h);have d2:((f.extract 0 2).toList != [83,71])=true:=by simp[bne,d1]
  clear hG;go_enter Tryz.func105,Tryz.ntmps105
  go_wp2
  go_ret2;exact⟨rJ.out,Or.inr ⟨hn.out,rfl⟩⟩
def PI.arr(p:PI):Array Value:=#[.int .i64 (p.aV:Int),.int .i64 (p.ends:Int),.int .i64 (p.tail:Int),.slice none 0 0,.slice none 0 0,.int .i64 0]
def PI.val(p:PI):Value:=.agg p.arr
def PI.cells(p:PI):List Value:=[.int .i64 (p.aV:Int),.int .i64 (p.ends:Int),.int .i64 (p.tail:Int),.slice none 0 0,.slice none 0 0,.int .i64 0]
def gG(l:List PI):List Value:=l.flatMap PI.cells
structure eU (p:PI):Prop where
 aV:p.aV<=1099511627777
 ends:p.ends<=1099511627777
 tail:p.tail<=1099511627777
theorem Bl(t:List Nat):eU (aq t):=⟨iL _,iL _,iL _⟩
theorem FC(a b:Nat):cU a b<=1099511627777:=by rw[nU];exact iL _
theorem oD{a b:PI}(hb:eU b):eU (fu a b):=⟨FC _ _,FC _ _,by unfold fu;simp only[];split;exact FC _ _;exact hb.tail⟩
theorem sb:∀(l:List PI) (i j:Nat) (x:PI),l[i]?=some x->j<6->(gG l)[i*6+j]?=x.cells[j]?
 | [],i,j,x,h,_=>by simp at h
 | y :: l,0,j,x,h,hj=>by
   simp only[List.getElem?_cons_zero,Option.some.injEq]at h;subst h;show(y.cells++gG l)[0*6+j]?=_;rw[List.getElem?_append_left (by simp[PI.cells];omega)];congr 1;omega
 | y :: l,i+1,j,x,h,hj=>by
   rw[List.getElem?_cons_succ]at h;show(y.cells++gG l)[(i+1)*6+j]?=_;rw[List.getElem?_append_right (by simp[PI.cells];omega),show(i+1)*6+j-y.cells.length=i*6+j by simp[PI.cells];omega];exact sb l i j x h hj
theorem FD(l:List PI)(x:PI):gG (l++[x])=gG l++x.cells:=by simp[gG]
theorem py(a b:Nat)(ha:a<=1099511627777)(hb:b<=1099511627777)(w:World):Calls Tryz.prog 113 #[.int .i64 (a:Int),.int .i64 (b:Int)] w fun e w'=>e=.returned (.int .i64 (cU a b:Int))/\w'=w:=by
 unfold cU;by_cases h:(1099511627776:Int)<(a:Int)+(b:Int)
 ·rw[if_pos (by omega)];go_enter Tryz.func113,Tryz.ntmps113
  go_wp2
  go_ret;exact⟨rfl,rfl⟩
 ·rw[if_neg (by omega)];go_enter Tryz.func113,Tryz.ntmps113
  go_wp2
  go_ret;exact⟨bQ (by omega),rfl⟩
theorem Bm:(Tryz.prog.info? 122).map (·.size)=some 6:=by kernel_rfl
theorem oE{fn:Func}{r:Tmp}(h:fn.results=#[.cell r 122])(tmps:Array Value)(w:World)(g:Nat)(p:PI)
 (hp:tmps.getD r undef=.pointer (some ⟨g,0,none⟩)) (hg:ah w g p.arr 122):(results fn tmps).run Tryz.prog w=.ok p.val w:=
 results_cell_row h tmps w g _ _ _ _ hp hg Tryz.underlying122 rfl Bm
theorem Bn{w:World}{b g n cap k:Nat}{kv nv rv tv:Value}(hb:ah w b #[kv,nv,rv,tv,.slice (some ⟨g,0,none⟩) n cap] 71)(zt:k<n)(hgw:g<w.heap.size)(hl:n<=1000){p1 p2 p3:Nat}{a4 a5:Option Addr}{m4 k4 m5 k5:Nat}{p6:Int}
 (d0:w.cell? ⟨g,k*6,none⟩=some (.int .i64 (p1:Int))) (d1:w.cell? ⟨g,k*6+1,none⟩=some (.int .i64 (p2:Int))) (d2:w.cell? ⟨g,k*6+2,none⟩=some (.int .i64 (p3:Int)))
 (d3:w.cell? ⟨g,k*6+3,none⟩=some (.slice a4 m4 k4)) (d4:w.cell? ⟨g,k*6+4,none⟩=some (.slice a5 m5 k5)) (d5:w.cell? ⟨g,k*6+5,none⟩=some (.int .i64 p6)):
 Calls Tryz.prog 66 #[.pointer (some ⟨b,0,none⟩),.int .i64 ((k+256:Nat):Int)] w fun e w'=>e=.returned (.agg #[.int .i64 p1,.int .i64 p2,.int .i64 p3,.slice a4 m4 k4,.slice a5 m5 k5,.int .i64 p6])/\Kept [] w w':=by
 have hk:Hid (∀o1,Kept [] w (w.alloc o1)):=fun o1=>(Kept.refl [] w).alloc _;have e1:(((k+256:Nat):Int)==10)=false:=beq_eq_false_iff_ne.2 (by omega);have h2:¬((k+256:Nat):Int)<256:=by omega
 have c4:w.cell? ⟨b,4,none⟩=some (.slice (some ⟨g,0,none⟩) n cap):=hb.cell 4;have pU:b<w.heap.size:=hb.lt;have lt:(k:Int)<(n:Int):=by omega
 clear hb zt;go_enter Tryz.func66,Tryz.ntmps66
 go_wp2
 refine bodyPost_ret (v:=.agg #[.int .i64 p1,.int .i64 p2,.int .i64 p3,.slice a4 m4 k4,.slice a5 m5 k5,.int .i64 p6]) (by simp[results,Tryz.results66,go_sem]) rfl ⟨rfl,hk.out _⟩
theorem xO{w:World}{b B:Nat}{kv nv rv tv pv:Value}{ps:List PI}(hb:ah w b #[kv,nv,rv,tv,pv] 71)(hp:w.ownsRow B 122 6 pv ps.length (gG ps))(s:Nat)(hs:s<256+ps.length)(hl:ps.length<=1000):
 Calls Tryz.prog 66 #[.pointer (some ⟨b,0,none⟩),.int .i64 (s:Int)] w fun e w'=>e=.returned (fm ps s).val/\Kept [] w w':=by
 have hk:Hid (∀o1,Kept [] w (w.alloc o1)):=fun o1=>(Kept.refl [] w).alloc _;unfold fm;by_cases h1:s=10
 ·subst h1;rw[if_pos rfl];unfold PI.val PI.arr;clear hb hp;go_enter Tryz.func66,Tryz.ntmps66
  go_wp2
  refine bodyPost_ret (v:=.agg #[.int .i64 1,.int .i64 1,.int .i64 0,.slice none 0 0,.slice none 0 0,.int .i64 0]) (by simp[results,Tryz.results66,go_sem]) rfl ⟨rfl,hk.out _⟩
 ·rw[if_neg h1];have e1:((s:Int)==10)=false:=beq_eq_false_iff_ne.2 (by omega);clear h1;by_cases h2:(s:Int)<256
  ·rw[if_pos (by omega)];unfold PI.val PI.arr;clear hb hp;go_enter Tryz.func66,Tryz.ntmps66
   go_wp2
   refine bodyPost_ret (v:=.agg #[.int .i64 1,.int .i64 0,.int .i64 1,.slice none 0 0,.slice none 0 0,.int .i64 0]) (by simp[results,Tryz.results66,go_sem]) rfl ⟨rfl,hk.out _⟩
  ·rw[if_neg (by omega)];obtain⟨k,rfl⟩:∃k:Nat,s=k+256:=⟨s-256,by omega⟩;rw[Nat.add_sub_cancel];have zt:k<ps.length:=by omega
   obtain⟨x,hx⟩:∃x,ps[k]?=some x:=⟨_,List.getElem?_eq_getElem zt⟩;rw[show ps.getD k {}=x by rw[List.getD,hx];rfl];obtain⟨g,cap,rfl⟩:=aO hp (by omega);have hgw:g<w.heap.size:=(hp.lt g rfl).2;have hc:∀j,j<6->w.cell? ⟨g,k*6+j,none⟩=x.cells[j]?:=fun j hj=>by
    obtain⟨u,hu⟩:∃u,x.cells[j]?=some u:=⟨_,List.getElem?_eq_getElem (by simp[PI.cells];omega)⟩;have:=hp.cells (g:=g) rfl (k*6+j) u (by rw[sb _ _ _ _ hx hj];exact hu);rw[cK]at this;rw[this,hu]
   obtain⟨p1,p2,p3⟩:=x;exact Bn hb zt hgw hl (p1:=p1) (p2:=p2) (p3:=p3) (hc 0 (by omega)) (hc 1 (by omega)) (hc 2 (by omega)) (hc 3 (by omega)) (hc 4 (by omega)) (hc 5 (by omega))
def iG(w:World)(g:Nat)(u0 u1 u2 u3 u4 u5:Value):World:=((((((w.setCell ⟨g,0,none⟩ u0).setCell ⟨g,1,none⟩ u1).setCell ⟨g,2,none⟩ u2).setCell ⟨g,3,none⟩ u3).setCell ⟨g,4,none⟩ u4).setCell ⟨g,5,none⟩ u5)
theorem C5{w:World}{g:Nat}{E:TypeId}{a0 a1 a2 a3 a4 a5:Value}(h:ah w g #[a0,a1,a2,a3,a4,a5] E)(u0 u1 u2 u3 u4 u5:Value):ah (iG w g u0 u1 u2 u3 u4 u5) g #[u0,u1,u2,u3,u4,u5] E:=
 (((((h.set 0 u0).set 1 u1).set 2 u2).set 3 u3).set 4 u4).set 5 u5
theorem D'{w w1:World}(k:Kept [] w w1){g:Nat}(hg:w.heap.size<=g)(u0 u1 u2 u3 u4 u5:Value):Kept [] w (iG w1 g u0 u1 u2 u3 u4 u5):=
 (((((k.setCell (Or.inr hg) _).setCell (Or.inr hg) _).setCell (Or.inr hg) _).setCell (Or.inr hg) _).setCell (Or.inr hg) _).setCell (Or.inr hg) _
theorem Bo(a b:PI)(ha:eU a)(hb:eU b)(a4 a5 b4 b5:Option Addr)(m4 k4 m5 k5 n4 l4 n5 l5:Nat)(a6 b6:Int)(w:World):Calls Tryz.prog 107 #[.agg #[.int .i64 (a.aV:Int),.int .i64 (a.ends:Int),.int .i64 (a.tail:Int),.slice a4 m4 k4,.slice a5 m5 k5,.int .i64 a6],.agg #[.int .i64 (b.aV:Int),.int .i64 (b.ends:Int),.int .i64 (b.tail:Int),.slice b4 n4 l4,.slice b5 n5 l5,.int .i64 b6]] w fun e w'=>e=.returned (fu a b).val/\Kept [] w w':=by
 obtain⟨a1,a2,a3⟩:=a;obtain⟨b1,b2,b3⟩:=b;obtain⟨YY,ha2,ha3⟩:=ha;obtain⟨ck,jm,pS⟩:=hb;simp only[]at YY ha2 ha3 ck jm pS;unfold fu PI.val PI.arr;simp only[];have g1:Hid (∀w,Calls _ _ _ w _):=fun w=>py a1 b1 YY ck w;have g2:Hid (∀w,Calls _ _ _ w _):=fun w=>py a2 b2 ha2 jm w;have g3:Hid (∀w,Calls _ _ _ w _):=fun w=>py a3 b1 ha3 ck w;generalize cU a1 b1=L1 at *;generalize cU a2 b2=L2 at *;generalize cU a3 b1=L3 at *;obtain⟨T,hT⟩:∃T,T=if b2=0 then L3 else b3:=⟨_,rfl⟩;rw[<-hT];have pq:Hid (T=_):=hT;clear hT;go_enter Tryz.func107,Tryz.ntmps107
 go_upto_region 1 with fail
 obtain⟨W,hW⟩:∃W,W=((w.alloc (.cells #[.int .i64 (a1:Int),.int .i64 (a2:Int),.int .i64 (a3:Int),.slice a4 m4 k4,.slice a5 m5 k5,.int .i64 a6] 122)).alloc (.cells #[.int .i64 (b1:Int),.int .i64 (b2:Int),.int .i64 (b3:Int),.slice b4 n4 l4,.slice b5 n5 l5,.int .i64 b6] 122)).alloc (.cells #[.int .i64 0,.int .i64 0,.int .i64 0,.slice none 0 0,.slice none 0 0,.int .i64 0] 122):=⟨_,rfl⟩;rw[<-hW];have sJ:ah W w.heap.size #[.int .i64 (a1:Int),.int .i64 (a2:Int),.int .i64 (a3:Int),.slice a4 m4 k4,.slice a5 m5 k5,.int .i64 a6] 122:=by rw[hW];exact((ah.new w _ _).alloc _).alloc _
 have lR:ah W (w.heap.size+1) #[.int .i64 (b1:Int),.int .i64 (b2:Int),.int .i64 (b3:Int),.slice b4 n4 l4,.slice b5 n5 l5,.int .i64 b6] 122:=by
  rw[hW];have e:(w.alloc (.cells #[.int .i64 (a1:Int),.int .i64 (a2:Int),.int .i64 (a3:Int),.slice a4 m4 k4,.slice a5 m5 k5,.int .i64 a6] 122)).heap.size=w.heap.size+1:=by simp
  rw[<-e];exact(ah.new _ _ _).alloc _
 have lE:ah W (w.heap.size+2) #[.int .i64 0,.int .i64 0,.int .i64 0,.slice none 0 0,.slice none 0 0,.int .i64 0] 122:=by
  rw[hW];have e:((w.alloc (.cells #[.int .i64 (a1:Int),.int .i64 (a2:Int),.int .i64 (a3:Int),.slice a4 m4 k4,.slice a5 m5 k5,.int .i64 a6] 122)).alloc (.cells #[.int .i64 (b1:Int),.int .i64 (b2:Int),.int .i64 (b3:Int),.slice b4 n4 l4,.slice b5 n5 l5,.int .i64 b6] 122)).heap.size=w.heap.size+2:=by simp
  rw[<-e];exact ah.new _ _ _
 have Ea:Hid (Kept [] w W):=by show Kept [] w W;rw[hW];exact(((Kept.refl [] w).alloc _).alloc _).alloc _
 have Pl:Hid (ah _ _ _ _):=sJ;have hB1H:Hid (ah _ _ _ _):=lR;have Zf:Hid (ah _ _ _ _):=lE;have c1:W.cell? ⟨w.heap.size,0,none⟩=some (.int .i64 (a1:Int)):=sJ.cell 0;have c2:W.cell? ⟨w.heap.size,1,none⟩=some (.int .i64 (a2:Int)):=sJ.cell 1;have c3:W.cell? ⟨w.heap.size+1,0,none⟩=some (.int .i64 (b1:Int)):=lR.cell 0;have c4:W.cell? ⟨w.heap.size+1,1,none⟩=some (.int .i64 (b2:Int)):=lR.cell 1;have c5:W.cell? ⟨w.heap.size+1,2,none⟩=some (.int .i64 (b3:Int)):=lR.cell 2;clear sJ lR lE hW;have n1:=World.new_ne W _ c1;have n3:=World.new_ne W _ c3;go_cut [5] (fun s5 wx=>s5=.pointer (some ⟨W.heap.size,0,none⟩)/\∃y,y=wx/\ah y W.heap.size #[.int .i64 (L1:Int),.int .i64 (L2:Int),.int .i64 (b3:Int),.slice none 0 0,.slice none 0 0,.int .i64 0] 122/\Kept [] W y)
 case first=>
  go_region_held3 (fun w'=>w'.cell? ⟨w.heap.size,0,none⟩=some (.int .i64 (a1:Int))/\w'.cell? ⟨w.heap.size,1,none⟩=some (.int .i64 (a2:Int))/\w'.cell? ⟨w.heap.size+1,0,none⟩=some (.int .i64 (b1:Int))/\w'.cell? ⟨w.heap.size+1,1,none⟩=some (.int .i64 (b2:Int))/\w'.cell? ⟨w.heap.size+1,2,none⟩=some (.int .i64 (b3:Int))) (go_keep)
   (first | (go_at_call_of 113 (Value.int IntKind.i64 (a1:Int));refine(g1.out _).mono ?_;rintro _ _ ⟨rfl,rfl⟩) | (go_at_call_of 113 (Value.int IntKind.i64 (a2:Int));refine(g2.out _).mono ?_;rintro _ _ ⟨rfl,rfl⟩))
  all_goals
   go_wp2_with fail
   go_meet;exact⟨rfl,_,rfl,ah.new _ _ _,(Kept.refl _ _).drew.alloc _⟩
 case rest=>
  obtain⟨rfl,wx,Lm,Vo,hkx⟩:=hcut;subst Lm;have sJ:=Pl.out.kept hkx (by simp);have lR:=hB1H.out.kept hkx (by simp);have lE:=Zf.out.kept hkx (by simp);obtain⟨N,hN⟩:∃N,N=W.heap.size:=⟨_,rfl⟩;rw[<-hN]at Vo ⊢;have Zg:w.heap.size+2<N:=by rw[hN];exact Zf.out.lt
  have hNx:N<wx.heap.size:=Vo.lt;have m1:N≠w.heap.size+2:=by omega
  have m2:w.heap.size+2≠N:=by omega
  have fG:Kept [] w wx:=Ea.out.trans hkx;have x2:wx.cell? ⟨w.heap.size,2,none⟩=some (.int .i64 (a3:Int)):=sJ.cell 2;have y0:wx.cell? ⟨w.heap.size+1,0,none⟩=some (.int .i64 (b1:Int)):=lR.cell 0;have y1:wx.cell? ⟨w.heap.size+1,1,none⟩=some (.int .i64 (b2:Int)):=lR.cell 1;have z0:wx.cell? ⟨w.heap.size+2,0,none⟩=some (.int .i64 0):=lE.cell 0;have z1:wx.cell? ⟨w.heap.size+2,1,none⟩=some (.int .i64 0):=lE.cell 1;have z2:wx.cell? ⟨w.heap.size+2,2,none⟩=some (.int .i64 0):=lE.cell 2;have z3:wx.cell? ⟨w.heap.size+2,3,none⟩=some (.slice none 0 0):=lE.cell 3;have z4:wx.cell? ⟨w.heap.size+2,4,none⟩=some (.slice none 0 0):=lE.cell 4;have z5:wx.cell? ⟨w.heap.size+2,5,none⟩=some (.int .i64 0):=lE.cell 5;have f0:wx.frozen? ⟨w.heap.size+2,0,none⟩=false:=lE.frozen 0;have f1:wx.frozen? ⟨w.heap.size+2,1,none⟩=false:=lE.frozen 1;have f2:wx.frozen? ⟨w.heap.size+2,2,none⟩=false:=lE.frozen 2;have f3:wx.frozen? ⟨w.heap.size+2,3,none⟩=false:=lE.frozen 3;have f4:wx.frozen? ⟨w.heap.size+2,4,none⟩=false:=lE.frozen 4;have f5:wx.frozen? ⟨w.heap.size+2,5,none⟩=false:=lE.frozen 5;have x0:wx.cell? ⟨N,0,none⟩=some (.int .i64 (L1:Int)):=Vo.cell 0;have x1:wx.cell? ⟨N,1,none⟩=some (.int .i64 (L2:Int)):=Vo.cell 1;have xx2:wx.cell? ⟨N,2,none⟩=some (.int .i64 (b3:Int)):=Vo.cell 2;have x3:wx.cell? ⟨N,3,none⟩=some (.slice none 0 0):=Vo.cell 3;have x4:wx.cell? ⟨N,4,none⟩=some (.slice none 0 0):=Vo.cell 4;have x5:wx.cell? ⟨N,5,none⟩=some (.int .i64 0):=Vo.cell 5;have xf:wx.frozen? ⟨N,2,none⟩=false:=Vo.frozen 2;have E8:w.heap.size+2<wx.heap.size:=lE.lt;have aA:Hid (∀v u0 u1 u2 u3 u4 u5,ah (iG (wx.setCell ⟨N,2,none⟩ v) (w.heap.size+2) u0 u1 u2 u3 u4 u5) (w.heap.size+2) #[u0,u1,u2,u3,u4,u5] 122/\Kept [] w (iG (wx.setCell ⟨N,2,none⟩ v) (w.heap.size+2) u0 u1 u2 u3 u4 u5)):=fun v u0 u1 u2 u3 u4 u5=>
   ⟨C5 (lE.kept ((Kept.refl [N] wx).setCell (Or.inl (by simp)) v) (by simp;omega)) u0 u1 u2 u3 u4 u5,D' (fG.setCell (Or.inr (by show w.heap.size<=N;omega)) v) (by omega) u0 u1 u2 u3 u4 u5⟩
  have SO:Hid (∀u0 u1 u2 u3 u4 u5,ah (iG wx (w.heap.size+2) u0 u1 u2 u3 u4 u5) (w.heap.size+2) #[u0,u1,u2,u3,u4,u5] 122/\Kept [] w (iG wx (w.heap.size+2) u0 u1 u2 u3 u4 u5)):=fun u0 u1 u2 u3 u4 u5=>
   ⟨C5 lE u0 u1 u2 u3 u4 u5,D' fG (by omega) u0 u1 u2 u3 u4 u5⟩
  unfold iG at aA SO;clear sJ lR lE Vo hkx fG hN Pl hB1H Zf Ea c1 c2 c3 c4 c5 n1 n3 g1 g2;by_cases h:b2=0
  ·have e1:((b2:Int)==0)=true:=by rw[h];rfl
   have KA:T=L3:=pq.out.trans (if_pos h);clear h pq;subst KA;go_wp2_with fail
   refine(g3.out _).mono ?_;rintro e w2 ⟨rfl,rfl⟩;clear g3;go_wp2
   exact bodyPost_ret (v:=.agg #[(.int .i64 L1),(.int .i64 L2),(.int .i64 T),.slice none 0 0,.slice none 0 0,.int .i64 0]) (oE Tryz.results107 _ _ (w.heap.size+2) ⟨L1,L2,T⟩ rfl (aA.out _ _ _ _ _ _ _).1) rfl ⟨rfl,(aA.out _ _ _ _ _ _ _).2⟩
  ·have e1:((b2:Int)==0)=false:=beq_eq_false_iff_ne.2 (by omega);have KA:T=b3:=pq.out.trans (if_neg h);clear h g3 pq;subst KA;go_wp2
   exact bodyPost_ret (v:=.agg #[.int .i64 L1,.int .i64 L2,.int .i64 T,.slice none 0 0,.slice none 0 0,.int .i64 0]) (oE Tryz.results107 _ _ (w.heap.size+2) ⟨L1,L2,T⟩ rfl (SO.out _ _ _ _ _ _).1) rfl ⟨rfl,(SO.out _ _ _ _ _ _).2⟩
theorem Bp(a b:PI)(ha:eU a)(hb:eU b)(w:World):Calls Tryz.prog 107 #[a.val,b.val] w fun e w'=>e=.returned (fu a b).val/\Kept [] w w':=Bo a b ha hb none none none none 0 0 0 0 0 0 0 0 0 0 w
theorem Ir(w:World)(g:Nat)(u0 u1 u2 u3 u4 u5:Value):Kept [g] w (iG w g u0 u1 u2 u3 u4 u5):=
 ((((((Kept.refl [g] w).setCell (Or.inl (by simp)) _).setCell (Or.inl (by simp)) _).setCell (Or.inl (by simp)) _).setCell (Or.inl (by simp)) _).setCell (Or.inl (by simp)) _).setCell (Or.inl (by simp)) _
structure GM (w:World)(b B C:Nat)(kind:Int)(n:Nat)(rl top:List Nat)(ps:List PI)(rv tv pv:Value):Prop where
 aD:ah w b #[.int .i64 kind,.int .i64 (n:Int),rv,tv,pv] 71
 lt:b<B
 up:B<=C
 rules:w.ownsRow B 3 1 rv rl.length (aF rl)
 low:∀g,rv.ownBlock=some g->g<C
 top:w.ownsRow C 3 1 tv top.length (aF top)
 pieces:w.ownsRow B 122 6 pv ps.length (gG ps)
 small:∀x,x∈ps->eU x
theorem GM.kept{w w':World}{b B C:Nat}{kind:Int}{n:Nat}{rl top:List Nat}{ps:List PI}{rv tv pv:Value}(h:GM w b B C kind n rl top ps rv tv pv)(k:Kept [] w w'):GM w' b B C kind n rl top ps rv tv pv:=
 ⟨h.aD.kept k (by simp),h.lt,h.up,aQ (S:=[]) h.rules k (fun _ _=>by simp),h.low,aQ (S:=[]) h.top k (fun _ _=>by simp),aQ (S:=[]) h.pieces k (fun _ _=>by simp),h.small⟩
def dV(ps:List PI)(l:List Nat):PI:=l.foldl (fun p s=>fu p (fm ps s)) {}
theorem yX(ps:List PI)(l:List Nat)(s:Nat):dV ps (l++[s])=fu (dV ps l) (fm ps s):=by unfold dV;rw[List.foldl_append];rfl
theorem lj{ps:List PI}(h:∀x,x∈ps->eU x)(s:Nat):eU (fm ps s):=by
 unfold fm;split
 ·exact⟨by simp,by simp,by simp⟩
 ·split
  ·exact⟨by simp,by simp,by simp⟩
  ·rw[List.getD];cases hx:ps[s-256]? with
   | none=>exact⟨by simp,by simp,by simp⟩
   | some x=>exact h x (List.mem_of_getElem? hx)
theorem FE{ps:List PI}(h:∀x,x∈ps->eU x):∀l:List Nat,eU (dV ps l):=fun l=>by
 rcases List.eq_nil_or_concat l with rfl|⟨l',x,rfl⟩
 ·exact⟨by simp[dV],by simp[dV],by simp[dV]⟩
 ·rw[List.concat_eq_append,yX];exact oD (lj h x)
theorem eV(l:List Nat)(i:Nat)(hi:i<l.length):(aF l)[i]?=some (.int .i64 ((l.getD i 0:Nat):Int)):=by simp[aF,List.getD,hi]
theorem Pm{w:World}{b B C:Nat}{kind:Int}{n:Nat}{rl top:List Nat}{ps:List PI}{rv tv pv:Value}(h:GM w b B C kind n rl top ps rv tv pv)(hs:∀s,s∈top->s<256+ps.length)(hl:ps.length<=1000)(ht:top.length<=100000000):
 Calls Tryz.prog 108 #[.pointer (some ⟨b,0,none⟩)] w fun e w'=>e=.returned (dV ps top).val/\Kept [] w w':=by
 have hH:Hid (GM w b B C kind n rl top ps rv tv pv):=h;have qX:Hid (∀s,_):=hs;obtain⟨ta,tc,rfl⟩:∃a c,tv=.slice a top.length c:=by
  rcases h.top.2 with⟨h3,h4⟩|⟨g,cap,_,h3,_⟩
  ·exact⟨none,0,by rw[h3,h4]⟩
  ·exact⟨_,cap,h3⟩
 have z0:Hid (Kept [] w ((w.alloc (.cells #[.int .i64 0,.int .i64 0,.int .i64 0,.slice none 0 0,.slice none 0 0,.int .i64 0] 122)).alloc (.cells #[.int .i64 0,.int .i64 0,.int .i64 0,.slice none 0 0,.slice none 0 0,.int .i64 0] 122))):=((Kept.refl [] w).alloc _).alloc _;have z1:Hid (ah ((w.alloc (.cells #[.int .i64 0,.int .i64 0,.int .i64 0,.slice none 0 0,.slice none 0 0,.int .i64 0] 122)).alloc (.cells #[.int .i64 0,.int .i64 0,.int .i64 0,.slice none 0 0,.slice none 0 0,.int .i64 0] 122)) w.heap.size #[.int .i64 0,.int .i64 0,.int .i64 0,.slice none 0 0,.slice none 0 0,.int .i64 0] 122):=(ah.new w _ _).alloc _;have z2:Hid (ah ((w.alloc (.cells #[.int .i64 0,.int .i64 0,.int .i64 0,.slice none 0 0,.slice none 0 0,.int .i64 0] 122)).alloc (.cells #[.int .i64 0,.int .i64 0,.int .i64 0,.slice none 0 0,.slice none 0 0,.int .i64 0] 122)) (w.heap.size+1) #[.int .i64 0,.int .i64 0,.int .i64 0,.slice none 0 0,.slice none 0 0,.int .i64 0] 122):=by
  have e:(w.alloc (.cells #[.int .i64 0,.int .i64 0,.int .i64 0,.slice none 0 0,.slice none 0 0,.int .i64 0] 122)).heap.size=w.heap.size+1:=by simp
  have:=ah.new (w.alloc (.cells #[.int .i64 0,.int .i64 0,.int .i64 0,.slice none 0 0,.slice none 0 0,.int .i64 0] 122)) #[.int .i64 0,.int .i64 0,.int .i64 0,.slice none 0 0,.slice none 0 0,.int .i64 0] 122;rwa [e]at this
 clear h hs;go_enter Tryz.func108,Tryz.ntmps108
 go_wp2_with fail
 go_loopw [4,5] (fun iv _ wr=>∃k:Nat,iv=.int .i64 (k:Int)/\k<=top.length/\Kept [] w wr/\ah wr w.heap.size #[.int .i64 0,.int .i64 0,.int .i64 0,.slice none 0 0,.slice none 0 0,.int .i64 0] 122/\ah wr (w.heap.size+1) (dV ps (top.take k)).arr 122) (fun iv _ _=>((top.length:Int)-intOf iv).toNat)
 case atStart=>exact⟨0,rfl,Nat.zero_le _,z0.out,z1.out,z2.out⟩
 case round=>
  obtain⟨k,rfl,hk,fG,oX,ck⟩:=hrel;have dj:Hid (Kept _ _ _):=fG;have Zh:GM wr b B C kind n rl top ps rv (.slice ta top.length tc) pv:=hH.out.kept fG;have c3:wr.cell? ⟨b,3,none⟩=some (.slice ta top.length tc):=Zh.aD.cell 3;have AK:b<wr.heap.size:=Zh.aD.lt;have Wj:=FE hH.out.small (top.take k);have SQ:Hid (eU _):=Wj;have Zi:Hid (ah _ _ _ _):=oX;have Pn:Hid (ah _ _ _ _):=ck;have Wk:Hid (GM wr b B C kind n rl top ps rv (.slice ta top.length tc) pv):=Zh;by_cases bO:(k:Int)<(top.length:Int)
  ·obtain⟨tg,cap,he⟩:=aO Zh.top (by omega);cases he;obtain⟨s,hsE⟩:∃s,s=top.getD k 0:=⟨_,rfl⟩;have fI:wr.cell? ⟨tg,k,none⟩=some (.int .i64 (s:Int)):=by
    have:=Zh.top.cells (g:=tg) rfl k (.int .i64 ((top.getD k 0:Nat):Int)) (eV _ _ (by omega));rwa [cK,<-hsE]at this
   have XF:s<256+ps.length:=qX.out s (by rw[hsE,List.getD,List.getElem?_eq_getElem (by omega)];exact List.getElem_mem _);have oz:Hid (dV ps (top.take (k+1))=fu (dV ps (top.take k)) (fm ps s)):=by
    show _=_;rw[List.take_add_one,show top[k]?=some s by rw[hsE,List.getD,List.getElem?_eq_getElem (by omega)];rfl];exact yX _ _ _
   have dd:Hid (∀w',Kept [] wr w'->Calls _ _ _ w' _):=fun w' k'=>xO (Wk.out.kept k').aD (Wk.out.kept k').pieces s XF hl;have hsS:Hid (eU (fm ps s)):=lj hH.out.small s;have uc:Hid (∀w',Calls _ _ _ w' _):=fun w'=>Bp (dV ps (top.take k)) (fm ps s) SQ.out hsS.out w';have hjS:Hid (eU (fu (dV ps (top.take k)) (fm ps s))):=oD hsS.out;clear hsE XF Wj fG oX ck Zh;generalize fu (dV ps (top.take k)) (fm ps s)=J at *;generalize dV ps (top.take k)=A at *;generalize fm ps s=S at *;obtain⟨A1,A2,A3⟩:=A;obtain⟨S1,S2,S3⟩:=S;obtain⟨J1,J2,J3⟩:=J;unfold PI.val PI.arr at uc;unfold PI.val PI.arr at dd;unfold PI.arr at Pn;simp only[]at uc dd Pn;go_wp2_with fail
   refine(dd.out _ (Kept.refl _ _)).mono ?_;rintro e w2 ⟨rfl,k2⟩;have hb0':=Zi.out.kept k2 (by simp);have FG:=Pn.out.kept k2 (by simp);have d0:w2.cell? ⟨w.heap.size+1,0,none⟩=some (.int .i64 (A1:Int)):=FG.cell 0;have d1:w2.cell? ⟨w.heap.size+1,1,none⟩=some (.int .i64 (A2:Int)):=FG.cell 1;have d2:w2.cell? ⟨w.heap.size+1,2,none⟩=some (.int .i64 (A3:Int)):=FG.cell 2;have d3:w2.cell? ⟨w.heap.size+1,3,none⟩=some (.slice none 0 0):=FG.cell 3;have d4:w2.cell? ⟨w.heap.size+1,4,none⟩=some (.slice none 0 0):=FG.cell 4;have d5:w2.cell? ⟨w.heap.size+1,5,none⟩=some (.int .i64 0):=FG.cell 5;have YH:w.heap.size+1<w2.heap.size:=FG.lt;have k2H:Hid (Kept _ _ _):=dj.out.trans k2;have XG:Hid (ah _ _ _ _):=hb0';have XH:Hid (ah _ _ _ _):=FG;clear hb0' FG k2 dd Zi Pn dj c3 fI Wk;go_wp2_with fail
   refine(uc.out _).mono ?_;rintro e w3 ⟨rfl,k3⟩;have k23:Kept [] w2 w3:=((Kept.refl [] w2).alloc _).trans k3;have oX:=XG.out.kept k23 (by simp);have ck:=XH.out.kept k23 (by simp);have f0:w3.frozen? ⟨w.heap.size+1,0,none⟩=false:=ck.frozen 0;have f1:w3.frozen? ⟨w.heap.size+1,1,none⟩=false:=ck.frozen 1;have f2:w3.frozen? ⟨w.heap.size+1,2,none⟩=false:=ck.frozen 2;have f3:w3.frozen? ⟨w.heap.size+1,3,none⟩=false:=ck.frozen 3;have f4:w3.frozen? ⟨w.heap.size+1,4,none⟩=false:=ck.frozen 4;have f5:w3.frozen? ⟨w.heap.size+1,5,none⟩=false:=ck.frozen 5;have e0:w3.cell? ⟨w.heap.size+1,0,none⟩=some (.int .i64 (A1:Int)):=ck.cell 0;have e1:w3.cell? ⟨w.heap.size+1,1,none⟩=some (.int .i64 (A2:Int)):=ck.cell 1;have e2:w3.cell? ⟨w.heap.size+1,2,none⟩=some (.int .i64 (A3:Int)):=ck.cell 2;have e3:w3.cell? ⟨w.heap.size+1,3,none⟩=some (.slice none 0 0):=ck.cell 3;have e4:w3.cell? ⟨w.heap.size+1,4,none⟩=some (.slice none 0 0):=ck.cell 4;have e5:w3.cell? ⟨w.heap.size+1,5,none⟩=some (.int .i64 0):=ck.cell 5;have E5:w.heap.size+1<w3.heap.size:=ck.lt;have aA:Hid (∀u0 u1 u2 u3 u4 u5,Kept [] w (iG w3 (w.heap.size+1) u0 u1 u2 u3 u4 u5)/\ah (iG w3 (w.heap.size+1) u0 u1 u2 u3 u4 u5) w.heap.size #[.int .i64 0,.int .i64 0,.int .i64 0,.slice none 0 0,.slice none 0 0,.int .i64 0] 122/\ah (iG w3 (w.heap.size+1) u0 u1 u2 u3 u4 u5) (w.heap.size+1) #[u0,u1,u2,u3,u4,u5] 122):=fun u0 u1 u2 u3 u4 u5=>
    ⟨D' (k2H.out.trans k23) (by omega) _ _ _ _ _ _,oX.kept (Ir w3 (w.heap.size+1) u0 u1 u2 u3 u4 u5) (by simp),C5 ck u0 u1 u2 u3 u4 u5⟩
   unfold iG at aA;clear oX ck k23 k3 XG XH k2H d0 d1 d2 d3 d4 d5;go_wp2
   refine⟨⟨k+1,by go_num,by omega,(aA.out _ _ _ _ _ _).1,(aA.out _ _ _ _ _ _).2.1,by rw[oz.out];exact(aA.out _ _ _ _ _ _).2.2⟩,?_⟩;simp only[intOf];omega
  ·have JI:k=top.length:=by omega
   have hWe:Hid (dV ps (top.take k)=dV ps top):=by show _=_;rw[JI,List.take_length]
   rw[hWe.out]at Pn Wj SQ ck;clear JI hWe Pn Wj SQ;obtain⟨A,hA⟩:∃A,A=dV ps top:=⟨_,rfl⟩;rw[<-hA]at ck;have wZ:Hid (A=_):=hA;clear hA;obtain⟨A1,A2,A3⟩:=A;unfold PI.arr at ck;simp only[]at ck;have d0:wr.cell? ⟨w.heap.size+1,0,none⟩=some (.int .i64 (A1:Int)):=ck.cell 0;have d1:wr.cell? ⟨w.heap.size+1,1,none⟩=some (.int .i64 (A2:Int)):=ck.cell 1;have d2:wr.cell? ⟨w.heap.size+1,2,none⟩=some (.int .i64 (A3:Int)):=ck.cell 2;have d3:wr.cell? ⟨w.heap.size+1,3,none⟩=some (.slice none 0 0):=ck.cell 3;have d4:wr.cell? ⟨w.heap.size+1,4,none⟩=some (.slice none 0 0):=ck.cell 4;have d5:wr.cell? ⟨w.heap.size+1,5,none⟩=some (.int .i64 0):=ck.cell 5;have e0:wr.cell? ⟨w.heap.size,0,none⟩=some (.int .i64 0):=oX.cell 0;have e1:wr.cell? ⟨w.heap.size,1,none⟩=some (.int .i64 0):=oX.cell 1;have e2:wr.cell? ⟨w.heap.size,2,none⟩=some (.int .i64 0):=oX.cell 2;have e3:wr.cell? ⟨w.heap.size,3,none⟩=some (.slice none 0 0):=oX.cell 3;have e4:wr.cell? ⟨w.heap.size,4,none⟩=some (.slice none 0 0):=oX.cell 4;have e5:wr.cell? ⟨w.heap.size,5,none⟩=some (.int .i64 0):=oX.cell 5;have f0:wr.frozen? ⟨w.heap.size,0,none⟩=false:=oX.frozen 0;have f1:wr.frozen? ⟨w.heap.size,1,none⟩=false:=oX.frozen 1;have f2:wr.frozen? ⟨w.heap.size,2,none⟩=false:=oX.frozen 2;have f3:wr.frozen? ⟨w.heap.size,3,none⟩=false:=oX.frozen 3;have f4:wr.frozen? ⟨w.heap.size,4,none⟩=false:=oX.frozen 4;have f5:wr.frozen? ⟨w.heap.size,5,none⟩=false:=oX.frozen 5;have CF:w.heap.size+1<wr.heap.size:=ck.lt;have aA:Hid (∀u0 u1 u2 u3 u4 u5,ah (iG wr w.heap.size u0 u1 u2 u3 u4 u5) w.heap.size #[u0,u1,u2,u3,u4,u5] 122/\Kept [] w (iG wr w.heap.size u0 u1 u2 u3 u4 u5)):=fun u0 u1 u2 u3 u4 u5=>
    ⟨C5 oX u0 u1 u2 u3 u4 u5,D' fG (Nat.le_refl _) _ _ _ _ _ _⟩
   unfold iG at aA;clear oX ck fG Zi Zh Wk dj z0 z1 z2;go_wp2
   exact bodyPost_ret (v:=.agg #[.int .i64 A1,.int .i64 A2,.int .i64 A3,.slice none 0 0,.slice none 0 0,.int .i64 0]) (oE Tryz.results108 _ _ w.heap.size ⟨A1,A2,A3⟩ rfl (aA.out _ _ _ _ _ _).1) rfl ⟨by rw[<-wZ.out];rfl,(aA.out _ _ _ _ _ _).2⟩
theorem Zj(f:ByteArray)(h:3<=f.size)(i:Nat):bt (f.extract 3 f.size) i=bt f (3+i):=by
 unfold bt;by_cases hi:3+i<f.size
 ·rw[dif_pos (by simp;omega),dif_pos hi];congr 1
  show(f.extract 3 f.size).data[i]'_=f.data[3+i]'_;simp
 ·rw[dif_neg (by simp;omega),dif_neg hi]
theorem Is(f:ByteArray)(hf:f.size<=100000)(p:Nat)(hp:3+p / 8<f.size)(w:World):
 Calls Tryz.prog 151 #[.string f,.int .i64 (p:Int)] w fun e w'=>e=.returned (.int .i64 (pw (f.extract 3 f.size) p:Int))/\w'=w:=by
 obtain⟨q,hq⟩:∃q,q=p / 8:=⟨_,rfl⟩;rw[<-hq]at hp;have hqH:Hid (q=p / 8):=hq;have e:Hid ((pw (f.extract 3 f.size) p:Int)=(f[3+q].toNat / 2 ^ (p % 8) % 2:Nat)):=by
  show(_:Int)=_;unfold pw;rw[Zj f (by omega),<-hq,nh hp]
 have ediv:(p:Int).tdiv 8=(q:Int):=by rw[hq];exact Int.ofNat_tdiv p 8 |>.symm
 have emod:(p:Int).tmod 8=((p % 8:Nat):Int):=(Int.ofNat_tmod p 8).symm;have g1:(3:Int)+(q:Int)<(f.size:Int):=by omega
 have g2:(0:Int)<=3+(q:Int):=by omega
 have q2:q<=1000000:=by omega
 have XA:p<=10000000:=by omega
 have hb:=f[3+q].toNat_lt;have e1:IntKind.i64.wrap (f[3+q].toNat:Int)=(f[3+q].toNat:Int):=by rw[IntKind.wrap_i64];omega
 clear hq;go_enter Tryz.func151,Tryz.ntmps151
 go_wp2
 go_ret;refine⟨bQ ?_,rfl⟩;rw[e.out];have hle:f[3+q].toNat / 2 ^ (p % 8)<=f[3+q].toNat:=Nat.div_le_self _ _;have:=M3 (f[3+q].toNat / 2 ^ (p % 8)) (by omega);rw[<-this];congr 1
theorem Po(f m:Nat)(hf:f<=1000000)(Sx:9<=m)(hm:m<=12)(w:World):
 Calls Tryz.prog 92 #[.int .i64 (f:Int),.int .i64 (m:Int)] w fun e w'=>e=.returned (.int .i64 (l6 f m:Int))/\w'=w:=by
 go_enter Tryz.func92,Tryz.ntmps92
 go_wp2_with fail
 go_loop [5] (fun iv=>∃q:Nat,iv=.int .i64 (q:Int)/\9<=q/\q<=m/\∀j,9<=j->j<q->2 ^ j<=f) (fun iv=>((m:Int)-intOf iv).toNat)
 case atStart=>exact⟨9,rfl,Nat.le_refl _,Sx,fun j h1 h2=>by omega⟩
 case round=>
  obtain⟨q,rfl,h9,hqm,iA⟩:=hrel;have cP:Hid (∀j,_):=iA;clear iA;by_cases bO:(q:Int)<(m:Int)
  ·have hq:q=9\/q=10\/q=11:=by omega
   by_cases Im:2 ^ q<=f
   ·have hn:Hid (∀j,9<=j->j<q+1->2 ^ j<=f):=fun j h1 h2=>by
     by_cases hj:j=q
     ·subst hj;exact Im
     ·exact cP.out j h1 (by omega)
    clear cP;have Y8:Hid (q+1<=m):=by show q+1<=m;omega
    rcases hq with rfl|rfl|rfl <;>
    ·simp only[Nat.reducePow]at Im;have hz:¬(f:Int)<_:=Int.not_lt.2 (Int.ofNat_le.2 Im);go_wp2
     refine⟨⟨_,rfl,by decide,Y8.out,hn.out⟩,?_⟩;simp only[intOf];omega
   ·have hw:Hid (l6 f m=q):=by
     have a9:=cP.out 9 (by omega);have Vn:=cP.out 10 (by omega);show l6 f m=q;unfold l6;rcases hq with rfl|rfl|rfl
     ·rw[if_pos (by simp at Im;omega)]
     ·have:=a9 (by omega);simp at Im this;rw[if_neg (by omega),if_pos (by omega)]
     ·have t1:=a9 (by omega);have t2:=Vn (by omega);simp at Im t1 t2;rw[if_neg (by omega),if_neg (by omega),if_pos (by omega)]
    clear cP;rcases hq with rfl|rfl|rfl <;>
    ·simp only[Nat.reducePow]at Im;have hz:(f:Int)<_:=Int.ofNat_lt.2 (Nat.lt_of_not_le Im);go_wp2
     go_ret;exact⟨bQ (by rw[hw.out];rfl),rfl⟩
  ·have hw:Hid (l6 f m=m):=by
    have p':q=m:=by omega
    have a9:=cP.out 9 (by omega);have Vn:=cP.out 10 (by omega);have a11:=cP.out 11 (by omega);show l6 f m=m;have hq:m=9\/m=10\/m=11\/m=12:=by omega
    rw[p']at a9 Vn a11;unfold l6;rcases hq with rfl|rfl|rfl|rfl
    ·rw[if_pos (by omega)]
    ·have:=a9 (by omega);simp at this;rw[if_neg (by omega),if_pos (by omega)]
    ·have t1:=a9 (by omega);have t2:=Vn (by omega);simp at t1 t2;rw[if_neg (by omega),if_neg (by omega),if_pos (by omega)]
    ·have t1:=a9 (by omega);have t2:=Vn (by omega);have t3:=a11 (by omega);simp at t1 t2 t3;rw[if_neg (by omega),if_neg (by omega),if_neg (by omega)]
   clear cP;go_wp2
   go_ret;exact⟨bQ (by rw[hw.out]),rfl⟩
def pz(bP:List ByteArray)(c:Nat):ByteArray:=if c<256 then ⟨#[c.toUInt8]⟩ else bP.getD (c-257) ByteArray.empty
def oF(l:List ByteArray):List Value:=l.map Value.string
theorem Pp(bP:List ByteArray)(v:Value)(Bd:Nat)(c:Nat)(hc:c<256\/(257<=c/\c-257<bP.length))(ht:bP.length<=10000)(w:World)(aG:w.ownsRow Bd 9 1 v bP.length (oF bP)):
 Calls Tryz.prog 152 #[v,.int .i64 (c:Int)] w fun e w'=>e=.returned (.string (pz bP c))/\Kept [] w w':=by
 by_cases h:(c:Int)<256
 ·obtain⟨a,k,cap,rfl⟩:=bp aG;have e:Hid (pz bP c=⟨#[c.toUInt8]⟩):=if_pos (by omega);have hk:Hid (∀o,Kept [] w (w.alloc o)):=fun o=>(Kept.refl [] w).alloc o;have hc8:(c.toUInt8.toNat:Int)=(c:Int):=by rw[Nat.toUInt8_eq,UInt8.toNat_ofNat'];omega
  have nW:(convert 77 9 (.slice (some ⟨w.heap.size,0,none⟩) 1 1)).run Tryz.prog (w.alloc (.cells #[.int .u8 (c:Int)] 5))=.ok (.string ⟨#[c.toUInt8]⟩) (w.alloc (.cells #[.int .u8 (c:Int)] 5)):=by
   refine run_convert_bytes_back (P:=Tryz.prog) (w.alloc (.cells #[.int .u8 (c:Int)] 5)) 77 9 5 ⟨w.heap.size,0,none⟩ 1 [c.toUInt8] Tryz.underlying77 Tryz.underlying5 Tryz.underlying9 (fun j hj=>?_);have Vp:j=0:=by simp at hj;omega
   subst Vp;rw[cK,(ah.new w #[.int .u8 (c:Int)] 5).cell];show some (Value.int .u8 (c:Int))=some (.int .u8 (c.toUInt8.toNat:Int));rw[hc8]
  clear aG hc8;go_enter Tryz.func152,Tryz.ntmps152
  go_wp2
  go_ret;exact⟨by rw[e.out];rfl,hk.out _⟩
 ·obtain⟨d,rfl⟩:∃d,c=d+257:=⟨c-257,by omega⟩;have hd:d<bP.length:=by omega
  obtain⟨g,cap,rfl⟩:=aO aG (by omega);have fI:w.cell? ⟨g,d,none⟩=some (.string (bP.getD d ByteArray.empty)):=by
   have:=aG.cells (g:=g) rfl d (.string (bP.getD d ByteArray.empty)) (by simp[oF,List.getD,hd]);rwa [cK]at this
  have e:Hid (pz bP (d+257)=bP.getD d ByteArray.empty):=by
   show pz _ _=_;unfold pz;rw[if_neg (by omega),Nat.add_sub_cancel]
  have lt:(d:Int)<(bP.length:Int):=by omega
  generalize bP.length=n at *;generalize bP.getD d ByteArray.empty=s at *;clear aG h hc;go_enter Tryz.func152,Tryz.ntmps152
  go_wp2
  go_ret;exact⟨by rw[e.out];rfl,Kept.refl _ _⟩
end Go.Proofs.YtgifhgnccmnbiabGreatDoor
