/- Part of the proof. -/
import Derived.Test.YtgifhgnccmnbiabGreatDoorG13
import Derived.Deep.DeepCutAuto
set_option linter.unusedVariables false
set_option linter.unusedSimpArgs false
set_option maxHeartbeats 4000000
set_option maxRecDepth 100000
namespace Go.Proofs.YtgifhgnccmnbiabGreatDoor
open Go.RowKit Go.IntWalk
def cz(t:TT)(s:Nat):TT:={t with start:=t.start++[s],whole:=jy t.whole (partAt t.rules s)}
def df(t:TT)(l r:Nat):TT:={t with rules:=t.rules++[yM t.rules l r]}
def bj(t:TT):TT:={t with syms:=t.syms+1}
def ni(t:TT)(gone:Nat)(joins:Option Nat)(code F:Nat):TT:=
 match joins with
 | none=>cz (bj t) (bN gone code)
 | some a=>cz (df (bj t) a (ki t gone a code F)) (bN gone code)
def fC(c:CD)(F:Nat):Option Nat:=match c.ahead with
 | none=>none
 | some a=>if F<2 ^ c.most then some a else none
def C0(c:CD)(code F:Nat):Prop:=F<code\/(code=F/\fC c F=none)
instance (c:CD)(code F:Nat):Decidable (C0 c code F):=inferInstanceAs (Decidable (_\/_))
def yS(c:CD)(t:TT)(code:Nat):CD×TT:=
 if code=256 then ({c with gone:=t.rules.length,ahead:=none},bj t)
 else if C0 c code (dt t c) then ({c with bad:=true},bj t)
 else ({c with ahead:=some (bN c.gone code)},ni t c.gone (fC c (dt t c)) code (dt t c))
section
variable {w w':World}{b Bd:Nat}{c:CD}{t:TT}{rv sv:Value}
theorem CM.M4(h:CM w b c Bd t rv sv):CM (w.setCell ⟨b,4,none⟩ (.int .i64 ((t.syms+1:Nat):Int))) b c Bd (bj t) rv sv:=
 h.Be (t':=bj t) (h.all.set 4 _) ((Kept.refl [b] w).setCell (p:=⟨b,4,none⟩) (by simp) _) rfl rfl h.whole
theorem CM.Wa(h:CM w b c Bd t rv sv)(n:Nat):CM (w.setCell ⟨b,11,none⟩ (.int .i64 (n:Int))) b { c with gone:=n} Bd t rv sv:=
 h.Be (c':={c with gone:=n}) (h.all.set 11 _) ((Kept.refl [b] w).setCell (p:=⟨b,11,none⟩) (by simp) _) rfl rfl h.whole
theorem CM.r8(h:CM w b c Bd t rv sv)(a:Option Nat):CM (w.setCell ⟨b,12,none⟩ (.int .i64 (qi a))) b { c with ahead:=a} Bd t rv sv:=
 h.Be (c':={c with ahead:=a}) (h.all.set 12 _) ((Kept.refl [b] w).setCell (p:=⟨b,12,none⟩) (by simp) _) rfl rfl h.whole
theorem CM.Bh(h:CM w b c Bd t rv sv):CM (w.setCell ⟨b,13,none⟩ (.bool true)) b { c with bad:=true} Bd t rv sv:=
 h.Be (c':={c with bad:=true}) (h.all.set 13 _) ((Kept.refl [b] w).setCell (p:=⟨b,13,none⟩) (by simp) _) rfl rfl h.whole
theorem gU.kept{B b:Nat}{w w':World}(k:Kept [b] w w')(hB:B<=w.heap.size):gU B b w w':=⟨k.os,k.tape,k.output,k.size,fun i hi hb=>k.block i (by omega) (by simpa using hb)⟩
end
structure eE (w w':World)(b Bd:Nat)(r:CD×TT):Prop where
 mem:∃rv sv,CM w' b r.1 Bd r.2 rv sv
 fra:gU Bd b w w'
theorem Lg{w:World}{b Bd:Nat}{c:CD}{t:TT}{rv sv:Value}(h:CM w b c Bd t rv sv)(hs:t.syms<=100000):
 Calls Tryz.prog 134 #[.pointer (some ⟨b,0,none⟩),.int .i64 256] w fun e w'=>e=.returned (.tuple #[])/\eE w w' b Bd ({c with gone:=t.rules.length,ahead:=none},bj t):=by
 have aA:Hid (eE w (((w.setCell ⟨b,4,none⟩ (.int .i64 ((t.syms+1:Nat):Int))).setCell ⟨b,11,none⟩ (.int .i64 (t.rules.length:Int))).setCell ⟨b,12,none⟩ (.int .i64 (-1))) b Bd ({c with gone:=t.rules.length,ahead:=none},bj t)):=
  ⟨⟨rv,sv,(h.M4.Wa t.rules.length).r8 none⟩,gU.kept (((((Kept.refl [b] w).setCell (p:=⟨b,4,none⟩) (by simp) _).setCell (p:=⟨b,11,none⟩) (by simp) _)).setCell (p:=⟨b,12,none⟩) (by simp) _) h.up⟩
 have c4:w.cell? ⟨b,4,none⟩=some (.int .i64 (t.syms:Int)):=h.all.cell 4;have c5:w.cell? ⟨b,5,none⟩=some rv:=h.all.cell 5;have Gt:w.cell? ⟨b,11,none⟩=some (.int .i64 (c.gone:Int)):=h.all.cell 11;have VQ:w.cell? ⟨b,12,none⟩=some (.int .i64 (qi c.ahead)):=h.all.cell 12;have f4:w.frozen? ⟨b,4,none⟩=false:=h.all.frozen 4;have f11:w.frozen? ⟨b,11,none⟩=false:=h.all.frozen 11;have f12:w.frozen? ⟨b,12,none⟩=false:=h.all.frozen 12;have hv:∃a cap,rv=.slice a t.rules.length cap:=by
  rcases h.rules.2 with⟨h3,h4⟩|⟨g,cap,_,h3,_⟩
  ·exact⟨none,0,by rw[h3,h4]⟩
  ·exact⟨_,cap,h3⟩
 obtain⟨a,cap,rfl⟩:=hv;simp only[Int.natCast_add,Int.natCast_one]at aA;clear h;go_enter Tryz.func134,Tryz.ntmps134
 go_wp2
 exact bodyPost_ret (v:=.tuple #[]) (by simp[results,Tryz.results134]) rfl ⟨rfl,aA.out⟩
theorem Ph{w:World}{b Bd:Nat}{c:CD}{t:TT}{rv sv:Value}(h:CM w b c Bd t rv sv)(code:Nat)(hs:t.syms<=100000)(hcode:code<=4095)(fx:code≠256)(Sx:9<=c.most)(Fz:c.most<=12)
 (hg:c.gone<=t.rules.length) (hl:t.rules.length<=5000) (dy:t.start.length<=5000) (ha:∀a,c.ahead=some a->a<=9000) (AS:∀a F,ki t c.gone a code F<=255):
 Calls Tryz.prog 134 #[.pointer (some ⟨b,0,none⟩),.int .i64 (code:Int)] w fun e w'=>e=.returned (.tuple #[])/\eE w w' b Bd (yS c t code):=by
 have hT:yS c t code=if C0 c code (dt t c) then ({c with bad:=true},bj t) else ({c with ahead:=some (bN c.gone code)},ni t c.gone (fC c (dt t c)) code (dt t c)):=by
  unfold yS;rw[if_neg fx]
 rw[hT];clear hT;have c4:w.cell? ⟨b,4,none⟩=some (.int .i64 (t.syms:Int)):=h.all.cell 4;have f4:w.frozen? ⟨b,4,none⟩=false:=h.all.frozen 4;have h1:CM (w.setCell ⟨b,4,none⟩ (.int .i64 ((t.syms+1:Nat):Int))) b c Bd (bj t) rv sv:=h.M4;have k1:Hid (Kept [b] w (w.setCell ⟨b,4,none⟩ (.int .i64 ((t.syms+1:Nat):Int)))):=(Kept.refl [b] w).setCell (p:=⟨b,4,none⟩) (by simp) _;have jN:Hid (Calls _ _ _ _ _):=D7 h1 hg (by show t.rules.length<=_;omega);have eF:dt (bj t) c=dt t c:=rfl;rw[eF]at jN;clear eF;have hF:dt t c<=10000:=by unfold dt;omega
 have CC:Hid (CM _ _ _ _ _ _ _):=h1;have eb:((code:Int)==256)=false:=beq_eq_false_iff_ne.2 (by omega);have QT:Hid (Bd<=w.heap.size):=h.up;obtain⟨M,hM⟩:∃M,M=2 ^ c.most:=⟨_,rfl⟩;have hM12:M<=4096:=by
  have h2:2 ^ c.most<=2 ^ 12:=Nat.pow_le_pow_right (by omega) Fz;rw[<-hM]at h2;exact h2
 have Y9:wrap64 ((2:Int) ^ c.most)=(M:Int):=by
  rw[show((2:Int) ^ c.most)=(M:Int) by rw[hM];simp[Int.natCast_pow]];exact wrap64_in _ (by omega)
 have yT:Hid (M=2 ^ c.most):=hM;clear hM;have hfbH:Hid (∀a F,_):=AS;have haH:Hid (∀a,_):=ha;have N3:Hid (c.gone<=t.rules.length):=hg;simp only[Int.natCast_add,Int.natCast_one]at jN CC k1;have CE:C0 c code (dt t c)↔(dt t c<code\/(code=dt t c/\fC c (dt t c)=none)):=Iff.rfl;generalize dt t c=F at *;clear h h1 AS ha hg;cases hah:c.ahead with
 | none=>
   have hj:Hid (fC c F=none):=by show fC c F=none;unfold fC;rw[hah]
   rw[hj.out]at CE ⊢;have oB:Hid (_=_):=hah;clear hah Y9;rcases Nat.lt_trichotomy F code with bO|bO|bO
   ·rw[if_pos (CE.2 (Or.inl bO))];have Y':(F:Int)<(code:Int):=by omega
    clear CE;go_enter Tryz.func134,Tryz.ntmps134
    go_wp2_with fail
    refine jN.out.mono ?_;rintro e w2 ⟨rfl,k2⟩;have h2:=CC.out.gW k2;have d12:w2.cell? ⟨b,12,none⟩=some (.int .i64 (-1)):=by have:=h2.all.cell 12;rw[oB.out]at this;exact this
    have aA:Hid (eE w (w2.setCell ⟨b,13,none⟩ (.bool true)) b Bd ({c with bad:=true},bj t)):=⟨⟨rv,sv,h2.Bh⟩,gU.kept ((k1.out.trans (k2.mono (by simp))).setCell (p:=⟨b,13,none⟩) (by simp) _) QT.out⟩;have d13:w2.cell? ⟨b,13,none⟩=some (.bool c.bad):=h2.all.cell 13;have g13:w2.frozen? ⟨b,13,none⟩=false:=h2.all.frozen 13;clear h2 CC k1 k2;go_wp2
    exact bodyPost_ret (v:=.tuple #[]) (by simp[results,Tryz.results134]) rfl ⟨rfl,by have hz:=aA.out;rw[oB.out]at hz;exact hz⟩
   ·subst bO;rw[if_pos (CE.2 (Or.inr ⟨rfl,by simp⟩))];clear CE;go_enter Tryz.func134,Tryz.ntmps134
    go_wp2_with fail
    refine jN.out.mono ?_;rintro e w2 ⟨rfl,k2⟩;have h2:=CC.out.gW k2;have d12:w2.cell? ⟨b,12,none⟩=some (.int .i64 (-1)):=by have:=h2.all.cell 12;rw[oB.out]at this;exact this
    have aA:Hid (eE w (w2.setCell ⟨b,13,none⟩ (.bool true)) b Bd ({c with bad:=true},bj t)):=⟨⟨rv,sv,h2.Bh⟩,gU.kept ((k1.out.trans (k2.mono (by simp))).setCell (p:=⟨b,13,none⟩) (by simp) _) QT.out⟩;have d13:w2.cell? ⟨b,13,none⟩=some (.bool c.bad):=h2.all.cell 13;have g13:w2.frozen? ⟨b,13,none⟩=false:=h2.all.frozen 13;clear h2 CC k1 k2;go_wp2
    exact bodyPost_ret (v:=.tuple #[]) (by simp[results,Tryz.results134]) rfl ⟨rfl,by have hz:=aA.out;rw[oB.out]at hz;exact hz⟩
   ·rw[if_neg (fun hc=>by rcases CE.1 hc with h|h <;> omega)]
    have sW:¬(F:Int)<(code:Int):=by omega
    have uU:((code:Int)==(F:Int))=false:=beq_eq_false_iff_ne.2 (by omega);have hgle:=N3.out;clear CE;go_enter Tryz.func134,Tryz.ntmps134
    go_wp2_with fail
    refine jN.out.mono ?_;rintro e w2 ⟨rfl,k2⟩;have h2:=CC.out.gW k2;have d12:w2.cell? ⟨b,12,none⟩=some (.int .i64 (-1)):=by have:=h2.all.cell 12;rw[oB.out]at this;exact this
    have CB:Hid (Calls _ _ _ _ _):=lh h2 code (by omega) (by omega);have hS1:bN c.gone code<=90000:=by unfold bN;split <;> omega
    have x12:w2.cell? ⟨b,12,none⟩=some (.int .i64 (qi c.ahead)):=h2.all.cell 12;have y12:w2.frozen? ⟨b,12,none⟩=false:=h2.all.frozen 12;have hA:CM (w2.setCell ⟨b,12,none⟩ (.int .i64 (bN c.gone code:Int))) b { c with ahead:=some (bN c.gone code)} Bd (bj t) rv sv:=h2.r8 (some (bN c.gone code));have dy:Hid (Calls _ _ _ (w2.setCell ⟨b,12,none⟩ (.int .i64 (bN c.gone code:Int))).drew _):=fB (TM.kept hA (Kept.refl [] _).drew) (o:=3) rfl (bN c.gone code) (by omega) (by show t.rules.length<=_;omega) (by show t.start.length<=_;omega);have wZ:Hid (gU Bd b w (w2.setCell ⟨b,12,none⟩ (.int .i64 (bN c.gone code:Int))).drew):=((gU.kept (k1.out.trans (k2.mono (by simp))) QT.out).trans (gU.kept ((Kept.refl [b] _).setCell (p:=⟨b,12,none⟩) (by simp) _) h2.up)).drew;have aA:Hid (∀w9,gU Bd b (w2.setCell ⟨b,12,none⟩ (.int .i64 (bN c.gone code:Int))).drew w9->(∃v',TM w9 b (CD.pre { c with ahead:=some (bN c.gone code)}) (CD.post { c with ahead:=some (bN c.gone code)}) 212 Bd (cz (bj t) (bN c.gone code)) rv v')->eE w w9 b Bd ({c with ahead:=some (bN c.gone code)},ni t c.gone none code F)):=fun w9 f9 ⟨v',t9⟩=>⟨⟨_,v',t9⟩,wZ.out.trans f9⟩;clear hA h2 k1 k2 CC;go_wp2_with fail
    refine CB.out.mono ?_;rintro e wy ⟨rfl,rfl⟩;go_wp2_with fail
    go_region_law (go_simp;go_at_call 130;refine dy.out.mono ?_;rintro _ w9 ⟨rfl,f9,t9⟩)
    all_goals
     have kj:Hid (eE _ _ _ _ _):=aA.out _ f9 t9;clear f9 t9;go_wp2
     go_end0;exact⟨rfl,kj.out⟩
 | some a=>
   have haa:=haH.out a hah;have oB:Hid (_=_):=hah;have ea:((a:Int) != -1)=true:=by simp
   clear hah;by_cases uc:F<M
   ·have hj:Hid (fC c F=some a):=by show fC c F=some a;unfold fC;rw[oB.out];exact if_pos (by rw[<-yT.out];exact uc)
    rw[hj.out]at CE ⊢;have hjn':(F:Int)<(M:Int):=by omega
    clear uc;rcases Nat.lt_or_ge F code with bO|hle
    ·rw[if_pos (CE.2 (Or.inl bO))];have Y':(F:Int)<(code:Int):=by omega
     clear CE;go_enter Tryz.func134,Tryz.ntmps134
     go_wp2_with fail
     refine jN.out.mono ?_;rintro e w2 ⟨rfl,k2⟩;have h2:=CC.out.gW k2;have d12:w2.cell? ⟨b,12,none⟩=some (.int .i64 (a:Int)):=by have:=h2.all.cell 12;rw[oB.out]at this;exact this
     have d2:w2.cell? ⟨b,2,none⟩=some (.int .i64 (c.most:Int)):=h2.all.cell 2;have aA:Hid (eE w (w2.setCell ⟨b,13,none⟩ (.bool true)) b Bd ({c with bad:=true},bj t)):=⟨⟨rv,sv,h2.Bh⟩,gU.kept ((k1.out.trans (k2.mono (by simp))).setCell (p:=⟨b,13,none⟩) (by simp) _) QT.out⟩;have d13:w2.cell? ⟨b,13,none⟩=some (.bool c.bad):=h2.all.cell 13;have g13:w2.frozen? ⟨b,13,none⟩=false:=h2.all.frozen 13;clear h2 CC k1 k2;go_wp2
     exact bodyPost_ret (v:=.tuple #[]) (by simp[results,Tryz.results134]) rfl ⟨rfl,by have hz:=aA.out;rw[oB.out]at hz;exact hz⟩
    ·rw[if_neg (fun hc=>by
      rcases CE.1 hc with h|h
      ·omega
      ·exact absurd h.2 (by simp))]
     have sW:¬(F:Int)<(code:Int):=by omega
     have hgle:=N3.out;have hq:=hfbH.out a F;obtain⟨fb,Wb⟩:∃fb,fb=ki t c.gone a code F:=⟨_,rfl⟩;have Ra:ni t c.gone (some a) code F=cz (df (bj t) a fb) (bN c.gone code):=by rw[Wb];rfl
     rw[Ra];rw[<-Wb]at hq;have Xz:Hid (fb=_):=Wb;clear CE Ra Wb;rcases Nat.lt_or_eq_of_le hle with ix|C3
     ·have uU:((code:Int)==(F:Int))=false:=beq_eq_false_iff_ne.2 (by omega);clear ix hle;go_enter Tryz.func134,Tryz.ntmps134
      go_wp2_with fail
      refine jN.out.mono ?_;rintro e w2 ⟨rfl,k2⟩;have h2:=CC.out.gW k2;have d12:w2.cell? ⟨b,12,none⟩=some (.int .i64 (a:Int)):=by have:=h2.all.cell 12;rw[oB.out]at this;exact this
      have d2:w2.cell? ⟨b,2,none⟩=some (.int .i64 (c.most:Int)):=h2.all.cell 2;have lI:Hid (Calls _ _ _ _ _):=Bg h2 a code F oB.out (by omega) (by omega) (by omega) (by show t.rules.length<=_;omega);have ef:ki (bj t) c.gone a code F=fb:=Xz.out.symm;rw[ef]at lI;clear ef;have Gx:Hid (CM _ _ _ _ _ _ _):=h2;have N0:Hid (gU Bd b w w2):=(gU.kept (k1.out.trans (k2.mono (by simp))) QT.out);clear jN h2 k1 k2 CC;go_wp2_with fail
      refine lI.out.mono ?_;rintro e w3 ⟨rfl,k3⟩;have h3:=Gx.out.gW k3;have z12:w3.cell? ⟨b,12,none⟩=some (.int .i64 (a:Int)):=by have:=h3.all.cell 12;rw[oB.out]at this;exact this
      have D8:Hid (Calls _ _ _ w3.drew _):=rY (TM.kept h3 (Kept.refl [] _).drew) (o:=3) rfl a fb (by omega) (by omega) (by show t.rules.length<=_;omega);have Ym:Hid (gU Bd b w w3.drew):=(N0.out.trans (gU.sY k3 Gx.out.up)).drew;clear lI h3 k3 Gx d12 N0;go_wp2_with fail
      go_region_law (go_simp;go_at_call 129;refine D8.out.mono ?_;rintro _ w4 ⟨rfl,f4',Wc,t4⟩)
      all_goals
       have k14:Hid (gU Bd b w w4):=Ym.out.trans f4';have h4:CM w4 b c Bd (df (bj t) a fb) Wc sv:=t4;clear D8 Ym f4' t4;have CB:Hid (Calls _ _ _ _ _):=lh h4 code (by omega) (by omega);have hS1:bN c.gone code<=90000:=by unfold bN;split <;> omega
       have x12:w4.cell? ⟨b,12,none⟩=some (.int .i64 (qi c.ahead)):=h4.all.cell 12;have y12:w4.frozen? ⟨b,12,none⟩=false:=h4.all.frozen 12;have hA:CM (w4.setCell ⟨b,12,none⟩ (.int .i64 (bN c.gone code:Int))) b { c with ahead:=some (bN c.gone code)} Bd (df (bj t) a fb) Wc sv:=h4.r8 (some (bN c.gone code));have dy:Hid (Calls _ _ _ (w4.setCell ⟨b,12,none⟩ (.int .i64 (bN c.gone code:Int))).drew _):=fB (TM.kept hA (Kept.refl [] _).drew) (o:=3) rfl (bN c.gone code) (by omega) (by show(t.rules++[_]).length<=_;simp;omega) (by show t.start.length<=_;omega);have wZ:Hid (gU Bd b w (w4.setCell ⟨b,12,none⟩ (.int .i64 (bN c.gone code:Int))).drew):=(k14.out.trans (gU.kept ((Kept.refl [b] _).setCell (p:=⟨b,12,none⟩) (by simp) _) h4.up)).drew;have aA:Hid (∀w9,gU Bd b (w4.setCell ⟨b,12,none⟩ (.int .i64 (bN c.gone code:Int))).drew w9->(∃v',TM w9 b (CD.pre { c with ahead:=some (bN c.gone code)}) (CD.post { c with ahead:=some (bN c.gone code)}) 212 Bd (cz (df (bj t) a fb) (bN c.gone code)) Wc v')->eE w w9 b Bd ({c with ahead:=some (bN c.gone code)},cz (df (bj t) a fb) (bN c.gone code))):=fun w9 f9 ⟨v',t9⟩=>⟨⟨_,v',t9⟩,wZ.out.trans f9⟩;clear hA h4 k14;go_wp2_with fail
       refine CB.out.mono ?_;rintro e wy ⟨rfl,rfl⟩;go_wp2_with fail
       go_region_law (go_simp;go_at_call 130;refine dy.out.mono ?_;rintro _ w9 ⟨rfl,f9,t9⟩)
       all_goals
        have kj:Hid (eE _ _ _ _ _):=aA.out _ f9 t9;clear f9 t9;go_wp2
        go_end0;exact⟨rfl,kj.out⟩
     ·have uU:((code:Int)==(F:Int))=true:=by rw[beq_iff_eq];omega
      clear C3 hle;go_enter Tryz.func134,Tryz.ntmps134
      go_wp2_with fail
      refine jN.out.mono ?_;rintro e w2 ⟨rfl,k2⟩;have h2:=CC.out.gW k2;have d12:w2.cell? ⟨b,12,none⟩=some (.int .i64 (a:Int)):=by have:=h2.all.cell 12;rw[oB.out]at this;exact this
      have d2:w2.cell? ⟨b,2,none⟩=some (.int .i64 (c.most:Int)):=h2.all.cell 2;have lI:Hid (Calls _ _ _ _ _):=Bg h2 a code F oB.out (by omega) (by omega) (by omega) (by show t.rules.length<=_;omega);have ef:ki (bj t) c.gone a code F=fb:=Xz.out.symm;rw[ef]at lI;clear ef;have Gx:Hid (CM _ _ _ _ _ _ _):=h2;have N0:Hid (gU Bd b w w2):=(gU.kept (k1.out.trans (k2.mono (by simp))) QT.out);clear jN h2 k1 k2 CC;go_wp2_with fail
      refine lI.out.mono ?_;rintro e w3 ⟨rfl,k3⟩;have h3:=Gx.out.gW k3;have z12:w3.cell? ⟨b,12,none⟩=some (.int .i64 (a:Int)):=by have:=h3.all.cell 12;rw[oB.out]at this;exact this
      have D8:Hid (Calls _ _ _ w3.drew _):=rY (TM.kept h3 (Kept.refl [] _).drew) (o:=3) rfl a fb (by omega) (by omega) (by show t.rules.length<=_;omega);have Ym:Hid (gU Bd b w w3.drew):=(N0.out.trans (gU.sY k3 Gx.out.up)).drew;clear lI h3 k3 Gx d12 N0;go_wp2_with fail
      go_region_law (go_simp;go_at_call 129;refine D8.out.mono ?_;rintro _ w4 ⟨rfl,f4',Wc,t4⟩)
      all_goals
       have k14:Hid (gU Bd b w w4):=Ym.out.trans f4';have h4:CM w4 b c Bd (df (bj t) a fb) Wc sv:=t4;clear D8 Ym f4' t4;have CB:Hid (Calls _ _ _ _ _):=lh h4 code (by omega) (by omega);have hS1:bN c.gone code<=90000:=by unfold bN;split <;> omega
       have x12:w4.cell? ⟨b,12,none⟩=some (.int .i64 (qi c.ahead)):=h4.all.cell 12;have y12:w4.frozen? ⟨b,12,none⟩=false:=h4.all.frozen 12;have hA:CM (w4.setCell ⟨b,12,none⟩ (.int .i64 (bN c.gone code:Int))) b { c with ahead:=some (bN c.gone code)} Bd (df (bj t) a fb) Wc sv:=h4.r8 (some (bN c.gone code));have dy:Hid (Calls _ _ _ (w4.setCell ⟨b,12,none⟩ (.int .i64 (bN c.gone code:Int))).drew _):=fB (TM.kept hA (Kept.refl [] _).drew) (o:=3) rfl (bN c.gone code) (by omega) (by show(t.rules++[_]).length<=_;simp;omega) (by show t.start.length<=_;omega);have wZ:Hid (gU Bd b w (w4.setCell ⟨b,12,none⟩ (.int .i64 (bN c.gone code:Int))).drew):=(k14.out.trans (gU.kept ((Kept.refl [b] _).setCell (p:=⟨b,12,none⟩) (by simp) _) h4.up)).drew;have aA:Hid (∀w9,gU Bd b (w4.setCell ⟨b,12,none⟩ (.int .i64 (bN c.gone code:Int))).drew w9->(∃v',TM w9 b (CD.pre { c with ahead:=some (bN c.gone code)}) (CD.post { c with ahead:=some (bN c.gone code)}) 212 Bd (cz (df (bj t) a fb) (bN c.gone code)) Wc v')->eE w w9 b Bd ({c with ahead:=some (bN c.gone code)},cz (df (bj t) a fb) (bN c.gone code))):=fun w9 f9 ⟨v',t9⟩=>⟨⟨_,v',t9⟩,wZ.out.trans f9⟩;clear hA h4 k14;go_wp2_with fail
       refine CB.out.mono ?_;rintro e wy ⟨rfl,rfl⟩;go_wp2_with fail
       go_region_law (go_simp;go_at_call 130;refine dy.out.mono ?_;rintro _ w9 ⟨rfl,f9,t9⟩)
       all_goals
        have kj:Hid (eE _ _ _ _ _):=aA.out _ f9 t9;clear f9 t9;go_wp2
        go_end0;exact⟨rfl,kj.out⟩
   ·have hj:Hid (fC c F=none):=by show fC c F=none;unfold fC;rw[oB.out];exact if_neg (by rw[<-yT.out];exact uc)
    rw[hj.out]at CE ⊢;have hjn':¬(F:Int)<(M:Int):=by omega
    have hjd:decide (F<M)=false:=decide_eq_false uc;clear uc;rcases Nat.lt_trichotomy F code with bO|bO|bO
    ·rw[if_pos (CE.2 (Or.inl bO))];have Y':(F:Int)<(code:Int):=by omega
     clear CE;go_enter Tryz.func134,Tryz.ntmps134
     go_wp2_with fail
     refine jN.out.mono ?_;rintro e w2 ⟨rfl,k2⟩;have h2:=CC.out.gW k2;have d12:w2.cell? ⟨b,12,none⟩=some (.int .i64 (a:Int)):=by have:=h2.all.cell 12;rw[oB.out]at this;exact this
     have d2:w2.cell? ⟨b,2,none⟩=some (.int .i64 (c.most:Int)):=h2.all.cell 2;have aA:Hid (eE w (w2.setCell ⟨b,13,none⟩ (.bool true)) b Bd ({c with bad:=true},bj t)):=⟨⟨rv,sv,h2.Bh⟩,gU.kept ((k1.out.trans (k2.mono (by simp))).setCell (p:=⟨b,13,none⟩) (by simp) _) QT.out⟩;have d13:w2.cell? ⟨b,13,none⟩=some (.bool c.bad):=h2.all.cell 13;have g13:w2.frozen? ⟨b,13,none⟩=false:=h2.all.frozen 13;clear h2 CC k1 k2;go_wp2
     exact bodyPost_ret (v:=.tuple #[]) (by simp[results,Tryz.results134]) rfl ⟨rfl,by have hz:=aA.out;rw[oB.out]at hz;exact hz⟩
    ·subst bO;rw[if_pos (CE.2 (Or.inr ⟨rfl,by simp⟩))];clear CE;go_enter Tryz.func134,Tryz.ntmps134
     go_wp2_with fail
     refine jN.out.mono ?_;rintro e w2 ⟨rfl,k2⟩;have h2:=CC.out.gW k2;have d12:w2.cell? ⟨b,12,none⟩=some (.int .i64 (a:Int)):=by have:=h2.all.cell 12;rw[oB.out]at this;exact this
     have d2:w2.cell? ⟨b,2,none⟩=some (.int .i64 (c.most:Int)):=h2.all.cell 2;have aA:Hid (eE w (w2.setCell ⟨b,13,none⟩ (.bool true)) b Bd ({c with bad:=true},bj t)):=⟨⟨rv,sv,h2.Bh⟩,gU.kept ((k1.out.trans (k2.mono (by simp))).setCell (p:=⟨b,13,none⟩) (by simp) _) QT.out⟩;have d13:w2.cell? ⟨b,13,none⟩=some (.bool c.bad):=h2.all.cell 13;have g13:w2.frozen? ⟨b,13,none⟩=false:=h2.all.frozen 13;clear h2 CC k1 k2;go_wp2
     exact bodyPost_ret (v:=.tuple #[]) (by simp[results,Tryz.results134]) rfl ⟨rfl,by have hz:=aA.out;rw[oB.out]at hz;exact hz⟩
    ·rw[if_neg (fun hc=>by rcases CE.1 hc with h|h <;> omega)]
     have sW:¬(F:Int)<(code:Int):=by omega
     have uU:((code:Int)==(F:Int))=false:=beq_eq_false_iff_ne.2 (by omega);have hgle:=N3.out;clear CE;go_enter Tryz.func134,Tryz.ntmps134
     go_wp2_with fail
     refine jN.out.mono ?_;rintro e w2 ⟨rfl,k2⟩;have h2:=CC.out.gW k2;have d12:w2.cell? ⟨b,12,none⟩=some (.int .i64 (a:Int)):=by have:=h2.all.cell 12;rw[oB.out]at this;exact this
     have d2:w2.cell? ⟨b,2,none⟩=some (.int .i64 (c.most:Int)):=h2.all.cell 2;have CB:Hid (Calls _ _ _ _ _):=lh h2 code (by omega) (by omega);have hS1:bN c.gone code<=90000:=by unfold bN;split <;> omega
     have x12:w2.cell? ⟨b,12,none⟩=some (.int .i64 (qi c.ahead)):=h2.all.cell 12;have y12:w2.frozen? ⟨b,12,none⟩=false:=h2.all.frozen 12;have hA:CM (w2.setCell ⟨b,12,none⟩ (.int .i64 (bN c.gone code:Int))) b { c with ahead:=some (bN c.gone code)} Bd (bj t) rv sv:=h2.r8 (some (bN c.gone code));have dy:Hid (Calls _ _ _ (w2.setCell ⟨b,12,none⟩ (.int .i64 (bN c.gone code:Int))).drew _):=fB (TM.kept hA (Kept.refl [] _).drew) (o:=3) rfl (bN c.gone code) (by omega) (by show t.rules.length<=_;omega) (by show t.start.length<=_;omega);have wZ:Hid (gU Bd b w (w2.setCell ⟨b,12,none⟩ (.int .i64 (bN c.gone code:Int))).drew):=((gU.kept (k1.out.trans (k2.mono (by simp))) QT.out).trans (gU.kept ((Kept.refl [b] _).setCell (p:=⟨b,12,none⟩) (by simp) _) h2.up)).drew;have aA:Hid (∀w9,gU Bd b (w2.setCell ⟨b,12,none⟩ (.int .i64 (bN c.gone code:Int))).drew w9->(∃v',TM w9 b (CD.pre { c with ahead:=some (bN c.gone code)}) (CD.post { c with ahead:=some (bN c.gone code)}) 212 Bd (cz (bj t) (bN c.gone code)) rv v')->eE w w9 b Bd ({c with ahead:=some (bN c.gone code)},ni t c.gone none code F)):=fun w9 f9 ⟨v',t9⟩=>⟨⟨_,v',t9⟩,wZ.out.trans f9⟩;clear hA h2 k1 k2 CC;go_wp2_with fail
     refine CB.out.mono ?_;rintro e wy ⟨rfl,rfl⟩;go_wp2_with fail
     go_region_law (go_simp;go_at_call 130;refine dy.out.mono ?_;rintro _ w9 ⟨rfl,f9,t9⟩)
     all_goals
      have kj:Hid (eE _ _ _ _ _):=aA.out _ f9 t9;clear f9 t9;go_wp2
      go_end0;exact⟨rfl,kj.out⟩
def dU(s:CD×TT):Nat:=l6 (dt s.2 s.1) s.1.most
def JM(s:CD×TT):Bool:=!s.1.bad&&decide (s.1.p+dU s<=8*s.1.B.size)
def px(s:CD×TT):CD×TT:=yS { s.1 with p:=(bW s.1.B s.1.p (dU s)).2} s.2 (bW s.1.B s.1.p (dU s)).1
def l7(s:CD×TT):Nat->CD×TT
 | 0=>s
 | n+1=>px (l7 s n)
structure ZI (B:ByteArray)(most n:Nat)(s:CD×TT):Prop where
 bytes:s.1.B=B
 most:s.1.most=most
 p:9*n<=s.1.p
 pb:s.1.p<=8*B.size
 syms:s.2.syms=n
 rules:s.2.rules.length<=n
 start:s.2.start.length<=n
 gone:s.1.gone<=s.2.rules.length
 ahead:∀a,s.1.ahead=some a->a<256+s.2.rules.length
 first:∀x,x∈s.2.rules->x.pt.first<=255
theorem uB{rs:List RU}(h:∀x,x∈rs->x.pt.first<=255)(s:Nat):(partAt rs s).first<=255:=by
 unfold partAt;split
 ·show s<=255;omega
 ·cases hx:rs[s-256]? with
  | none=>show 0<=255;omega
  | some x=>exact h x (List.mem_of_getElem? hx)
theorem Lh{a b:PT}(ha:a.first<=255)(hb:b.first<=255):(jy a b).first<=255:=by
 unfold jy;split
 ·exact hb
 ·split
  ·exact ha
  ·exact ha
theorem ZI.fb{B:ByteArray}{m n:Nat}{s:CD×TT}(h:ZI B m n s)(a code F:Nat):ki s.2 s.1.gone a code F<=255:=uB h.first _
theorem ZI.step{B:ByteArray}{m n:Nat}{s:CD×TT}(h:ZI B m n s)(hg:JM s=true):ZI B m (n+1) (px s):=by
 obtain⟨c,t⟩:=s;unfold JM at hg;simp only[Bool.and_eq_true,decide_eq_true_eq]at hg;obtain⟨_,hg⟩:=hg;have h1:=h.bytes;have h2:=h.most;have h3:=h.p;have h4:=h.syms;have h5:=h.rules;have h6:=h.start;have h7:=h.gone;have h8:=h.ahead;have h9:=h.first;have hb:=wz c.B c.p (dU (c,t));have hw:=wB (dt t c) c.most;have ew:dU (c,t)=l6 (dt t c) c.most:=rfl;simp only[]at h1 h2 h3 h4 h5 h6 h7 h8 h9 hg;have D9:(bW c.B c.p (dU (c,t))).2=c.p+dU (c,t):=by
  have key:∀i,c.p+i<=8*c.B.size->(bW c.B c.p i).2=c.p+i:=by
   intro i;induction i with
   | zero=>intro _;rfl
   | succ i ih=>
     intro hi;show(d' c.B (bW c.B c.p i).2).2=_;rw[ih (by omega)];unfold d';rw[if_pos (by omega)];rfl
  exact key _ hg
 unfold px yS;simp only[];generalize (bW c.B c.p (dU (c,t))).1=code at *;rw[D9];have XA:c.p+dU (c,t)<=8*B.size:=by rw[<-h1];exact hg
 split
 ·exact⟨h1,h2,by simp only[];omega,XA,by simp only[bj];omega,by simp only[bj];omega,by simp only[bj];omega,Nat.le_refl _,(fun a ha=>nomatch ha),h9⟩
 ·split
  ·exact⟨h1,h2,by simp only[];omega,XA,by simp only[bj];omega,by simp only[bj];omega,by simp only[bj];omega,h7,h8,h9⟩
  ·rename_i fx dO
   have CK:¬C0 { c with p:=c.p+dU (c,t)} code (dt t { c with p:=c.p+dU (c,t)}):=dO;unfold C0 at CK;have eF:dt t { c with p:=c.p+dU (c,t)}=257+t.rules.length-c.gone:=rfl;rw[eF]at CK ⊢;have CB:bN c.gone code<256+t.rules.length+(if (fC { c with p:=c.p+dU (c,t)} (257+t.rules.length-c.gone)).isSome then 1 else 0):=by
    have hle:code<=257+t.rules.length-c.gone:=by omega
    unfold bN;cases hj:fC { c with p:=c.p+dU (c,t)} (257+t.rules.length-c.gone) with
    | none=>
      have:code≠257+t.rules.length-c.gone:=fun hc=>CK (Or.inr ⟨hc,hj⟩);simp only[Option.isSome];split <;> simp <;> omega
    | some a=>
      simp only[Option.isSome];split <;> simp <;> omega
   cases hj:fC { c with p:=c.p+dU (c,t)} (257+t.rules.length-c.gone) with
   | none=>
     rw[hj]at CB;refine⟨h1,h2,by simp only[];omega,XA,by simp only[ni,cz,bj];omega,by simp only[ni,cz,bj];omega,by simp only[ni,cz,bj,List.length_append,List.length_singleton];omega,h7,fun a ha=>?_,h9⟩;simp only[Option.some.injEq]at ha;subst ha;simpa [ni,cz,bj] using CB
   | some a=>
     rw[hj]at CB;refine⟨h1,h2,by simp only[];omega,XA,by simp only[ni,cz,df,bj];omega,by simp only[ni,cz,df,bj,List.length_append,List.length_singleton];omega,by simp only[ni,cz,df,bj,List.length_append,List.length_singleton];omega,by simp only[ni,cz,df,bj,List.length_append,List.length_singleton];omega,fun b hb=>?_,fun x hx=>?_⟩
     ·simp only[Option.some.injEq]at hb;subst hb;simp only[ni,cz,df,bj,List.length_append,List.length_singleton];simp at CB;omega
     ·simp only[ni,cz,df,bj]at hx;rcases List.mem_append.1 hx with hx|hx
      ·exact h9 x hx
      ·simp at hx;subst hx;exact Lh (uB h9 _) (uB h9 _)
def cd0(f:ByteArray):CD:={B:=f.extract 3 f.size,p:=0,most:=bt f 2}
def z0(f:ByteArray):CD×TT:=(cd0 f,{kind:=90})
theorem Za(f:ByteArray):ZI (f.extract 3 f.size) (bt f 2) 0 (z0 f):=⟨rfl,rfl,Nat.le_refl _,Nat.zero_le _,rfl,Nat.le_refl _,Nat.le_refl _,Nat.le_refl _,(fun a ha=>nomatch ha),(fun x hx=>nomatch hx)⟩
structure xM (f:ByteArray)(n:Nat):Prop where
 on:∀i,i<n->JM (l7 (z0 f) i)=true
 off:JM (l7 (z0 f) n)=false
theorem zM{f:ByteArray}:∀{n:Nat},(∀i,i<n->JM (l7 (z0 f) i)=true)->ZI (f.extract 3 f.size) (bt f 2) n (l7 (z0 f) n)
 | 0,_=>Za f
 | n+1,h=>(zM (fun i hi=>h i (by omega))).step (h n (by omega))
theorem xM.one{f:ByteArray}{n m:Nat}(h:xM f n)(h':xM f m):n=m:=by
 rcases Nat.lt_trichotomy n m with hl|hl|hl
 ·have:=h'.on n hl;rw[h.off]at this;cases this
 ·exact hl
 ·have:=h.on m hl;rw[h'.off]at this;cases this
def JN(s:CD×TT):Bool:=!s.1.bad&&tE s.1.B s.1.p
def lP(f:ByteArray):Bool:=decide (3<=f.size)&&decide (9<=bt f 2)&&decide (bt f 2<=12)
structure Bi (f:ByteArray)(w w':World)(e:Ending):Prop where
 below:Below w.heap.size w w'
 out:(lP f=false/\e=.returned (.tuple #[.agg az,.bool false])) \/
  (lP f=true/\∃n,xM f n/\((JN (l7 (z0 f) n)=true/\∃rv sv,tD w' w.heap.size (l7 (z0 f) n).2 rv sv/\e=.returned (.tuple #[.agg ((l7 (z0 f) n).2.cells rv sv),.bool true]))\/(JN (l7 (z0 f) n)=false/\e=.returned (.tuple #[.agg az,.bool false]))))
structure ZM (w0 w:World)(s:CD×TT)(rv sv:Value):Prop where
 cm:CM w (w0.heap.size+1) s.1 (w0.heap.size+2) s.2 rv sv
 res:ah w w0.heap.size az 86
 below:Below w0.heap.size w0 w
theorem ZM.text{w0 w w':World}{s s':CD×TT}{rv sv Sv sv':Value}(h:ZM w0 w s rv sv)(m:CM w' (w0.heap.size+1) s'.1 (w0.heap.size+2) s'.2 Sv sv')(k:gU (w0.heap.size+2) (w0.heap.size+1) w w'):ZM w0 w' s' Sv sv':=
 ⟨m,k.aD h.res (by omega) (by omega),h.below.trans (k.below (by omega) (by omega))⟩
theorem ZM.kept{w0 w w':World}{s:CD×TT}{rv sv:Value}(h:ZM w0 w s rv sv)(k:Kept [] w w'):ZM w0 w' s rv sv:=h.text (h.cm.gW k) (gU.sY k h.cm.up)
theorem ZM.fin{w0 w:World}{s:CD×TT}{rv sv:Value}(h:ZM w0 w s rv sv):∀w3,Kept [w0.heap.size] w w3->Below w0.heap.size w0 w3/\tD w3 w0.heap.size s.2 rv sv:=fun w3 k=>
 ⟨h.below.trans (k.below (by have:=h.res.lt;omega) (by simp)),((TM.val h.cm).kept k (fun g hg=>by simp at hg;omega)).mono (by omega)⟩
def pAt(w:World)(b:Nat):Nat:=match w.cell? ⟨b,4,none⟩ with
 | some (.int _ p)=>(40000-p).toNat
 | _=>0
theorem Sy{w:World}{b:Nat}{p:Nat}(h:w.cell? ⟨b,4,none⟩=some (.int .i64 (p:Int))):pAt w b=(40000-(p:Int)).toNat:=by unfold pAt;rw[h]
theorem SC{f:ByteArray}{n:Nat}(h:∀i,i<n->JM (l7 (z0 f) i)=true):(l7 (z0 f) n).1.most=bt f 2:=(zM h).most
theorem SD{w:World}{b Bd n:Nat}{B:ByteArray}{m:Nat}{s:CD×TT}{rv sv:Value}(hi:ZI B m n s)(Sx:9<=m)(Fz:m<=12)(hB:B.size<=4000)(hp:s.1.p+dU s<=8*s.1.B.size)
 (h:CM w b { s.1 with p:=(bW s.1.B s.1.p (dU s)).2} Bd s.2 rv sv):
 Calls Tryz.prog 134 #[.pointer (some ⟨b,0,none⟩),.int .i64 ((bW s.1.B s.1.p (dU s)).1:Int)] w fun e w'=>e=.returned (.tuple #[])/\eE w w' b Bd (px s):=by
 have h1:=hi.bytes;have h2:=hi.most;have h3:=hi.p;have h4:=hi.syms;have h5:=hi.rules;have h6:=hi.start;have h7:=hi.gone;have h8:=hi.ahead;have h9:=hi.pb;have hw:=wB (dt s.2 s.1) s.1.most;have bO:(bW s.1.B s.1.p (dU s)).1<2 ^ 12:=Nat.lt_of_lt_of_le (wz _ _ _).1 (Nat.pow_le_pow_right (by omega) hw.2);have h12:(2:Nat) ^ 12=4096:=by decide
 have hn:n<=3600:=by omega
 unfold px;by_cases hc:(bW s.1.B s.1.p (dU s)).1=256
 ·have:=Lg h (by omega);rw[hc];unfold yS;rw[if_pos rfl];exact this
 ·exact Ph h _ (by omega) (by omega) hc (by show 9<=s.1.most;omega) (by show s.1.most<=12;omega) h7 (by omega) (by omega) (fun a ha=>by have:=h8 a ha;omega) (fun a F=>hi.fb a _ F)
theorem C4(f:ByteArray)(hf:f.size<=4000)(w:World):
 Calls Tryz.prog 85 #[.string f] w fun e w'=>Bi f w w' e:=by
 have jh:ah (w.alloc (.cells az 86)) w.heap.size az 86:=ah.new w _ _;have hBl0:Hid (Below w.heap.size w (w.alloc (.cells az 86))):=(Below.refl w.heap.size w).alloc (Nat.le_refl _) _;by_cases h3:(f.size:Int)<3
 ·have hm:Hid (lP f=false):=by show lP f=false;unfold lP;rw[decide_eq_false (show ¬ 3<=f.size by omega)];rfl
  clear jh;go_enter Tryz.func85,Tryz.ntmps85
  go_wp2
  exact bodyPost_ret (v:=.tuple #[.agg az,.bool false]) (aP Tryz.results85 _ _ w.heap.size az rfl _ rfl rfl (ah.new w _ _)) rfl ⟨hBl0.out,Or.inl ⟨hm.out,rfl⟩⟩
 ·have h3':3<=f.size:=by omega
  have h3i:(3:Int)<=(f.size:Int):=by omega
  have h2i:(2:Int)<(f.size:Int):=by omega
  obtain⟨B,hB⟩:∃B,B=f.extract 3 f.size:=⟨_,rfl⟩;obtain⟨mo,uQ⟩:∃mo,mo=bt f 2:=⟨_,rfl⟩;have hmo2:f[2].toNat=mo:=by rw[uQ,nh (by omega)]
  have hBe:=hB.symm;have hm255:mo<256:=by rw[<-hmo2];exact f[2].toNat_lt
  have e3:IntKind.i64.wrap (mo:Int)=(mo:Int):=by rw[IntKind.wrap_i64];omega
  have Gs:Hid (B=_):=hB;have Pj:Hid (mo=_):=uQ;clear hB uQ;go_enter Tryz.func85,Tryz.ntmps85
  go_upto_region 3 with fail
  go_cut [4] (fun s4 wx=>s4=.pointer (some ⟨w.heap.size+1,0,none⟩)/\wx=((w.alloc (.cells az 86)).alloc (.cells #[.string B,.int .i64 0,.int .i64 (mo:Int),.int .i64 0,.int .i64 0,.slice none 0 0,.slice none 0 0,.int .i64 0,.int .i64 0,.int .i64 0,.int .i64 0,.int .i64 0,.int .i64 (-1),.bool false] 212)).drew)
  case first=>
   go_region_law (fail)
   all_goals
    go_wp2_with fail
    go_meet;exact⟨rfl,rfl⟩
  case rest=>
   obtain⟨rfl,rfl⟩:=hcut;have N7:ZM w ((w.alloc (.cells az 86)).alloc (.cells #[.string B,.int .i64 0,.int .i64 (mo:Int),.int .i64 90,.int .i64 0,.slice none 0 0,.slice none 0 0,.int .i64 0,.int .i64 0,.int .i64 0,.int .i64 0,.int .i64 0,.int .i64 (-1),.bool false] 212)).drew (z0 f) (.slice none 0 0) (.slice none 0 0):=by
    refine⟨⟨?_,by omega,by show _<=((w.alloc _).alloc _).heap.size;simp,World.ownsRow_nil _ _ _ 6,World.ownsRow_nil _ _ _ 1,(fun x hx=>nomatch hx),⟨by show 0<=_;omega,by show 0<=_;omega⟩⟩,jh.alloc _,?_⟩
    ·have:=ah.new (w.alloc (.cells az 86)) #[.string B,.int .i64 0,.int .i64 (mo:Int),.int .i64 90,.int .i64 0,.slice none 0 0,.slice none 0 0,.int .i64 0,.int .i64 0,.int .i64 0,.int .i64 0,.int .i64 0,.int .i64 (-1),.bool false] 212;have e:(w.alloc (.cells az 86)).heap.size=w.heap.size+1:=by simp
     rw[e]at this;rw[Gs.out,Pj.out]at this ⊢;exact this
    ·exact(hBl0.out.alloc (by simp) _).drew
   have hBs:B.size<=4000:=by rw[Gs.out];simp;omega
   by_cases uQ:9<=mo/\mo<=12
   ·obtain⟨Sx,Fz⟩:=uQ;have wC:Hid (lP f=true):=by show lP f=true;unfold lP;rw[<-Pj.out,decide_eq_true h3',decide_eq_true Sx,decide_eq_true Fz];rfl
    have n1:¬(mo:Int)<9:=by omega
    have n2:¬(12:Int)<(mo:Int):=by omega
    have XB:Hid (Calls _ _ _ _ _):=Bf N7.cm (Nat.zero_le _) (Nat.zero_le _) (by show bt f 2<=12;rw[<-Pj.out];exact Fz);have hI0H:Hid (ZM _ _ _ _ _):=N7;unfold az at XB;clear N7 jh hmo2 hBe;go_wp2_with fail
    refine XB.out.mono ?_;rintro e w1 ⟨rfl,k1⟩;have Xq:Hid (ZM _ _ _ _ _):=hI0H.out.kept k1;clear XB hI0H k1;go_wp2_with fail
    go_loopw [5] (fun v wr=>∃n:Nat,v=.int .i64 (dU (l7 (z0 f) n):Int)/\(∀i,i<n->JM (l7 (z0 f) i)=true)/\∃rv sv,ZM w wr (l7 (z0 f) n) rv sv) (fun _ wr=>pAt wr (w.heap.size+1))
    case atStart=>exact⟨0,rfl,fun i hi=>by omega,_,_,Xq.out⟩
    case round=>
     obtain⟨n,rfl,iA,rv,sv,hm⟩:=hrel;clear Xq;have hI:=zM iA;rw[<-Gs.out,<-Pj.out]at hI;have cP:Hid (∀i,_):=iA;have SE:=SC iA;clear iA;rw[<-Pj.out]at SE;have hsd:l7 (z0 f) (n+1)=px (l7 (z0 f) n):=rfl;have Zb:Hid (_=_):=hsd;have cY:Hid (JM (l7 (z0 f) n)=false->xM f n):=fun h=>⟨cP.out,h⟩;have Pk:Hid (JN (l7 (z0 f) n)=(!(l7 (z0 f) n).1.bad&&tE (l7 (z0 f) n).1.B (l7 (z0 f) n).1.p)):=rfl;have Li:Hid (JM (l7 (z0 f) n)=(!(l7 (z0 f) n).1.bad&&decide ((l7 (z0 f) n).1.p+dU (l7 (z0 f) n)<=8*(l7 (z0 f) n).1.B.size))):=rfl;clear hsd;obtain⟨s,hs⟩:∃s,s=l7 (z0 f) n:=⟨_,rfl⟩;rw[<-hs]at hI SE hm Zb cY Pk Li ⊢;have qX:Hid (s=_):=hs;clear hs;have c1:wr.cell? ⟨w.heap.size+1,4,none⟩=some (.int .i64 (s.2.syms:Int)):=hm.cm.all.cell 4;have Wd:wr.cell? ⟨w.heap.size+1,13,none⟩=some (.bool s.1.bad):=hm.cm.all.cell 13;have Af:=Sy c1;have hpmH:Hid (_=_):=Af;clear Af c1;have hp8:=hI.pb;have XC:=wB (dt s.2 s.1) s.1.most;have We:dU s=l6 (dt s.2 s.1) s.1.most:=rfl;have hwzH:Hid (_=_):=We;cases dO:s.1.bad with
     | true=>
       rw[dO]at Wd;have r9:s.1.bad=true:=dO;have zc:Hid (xM f n):=cY.out (by rw[Li.out,dO];rfl);have kJ:Hid (JN (l7 (z0 f) n)=false):=by rw[<-qX.out,Pk.out,dO];rfl
       clear cY Pk Li We XC;have Ip:Hid (Calls _ _ _ _ _):=wA wr (w.heap.size+1) _ _ _ _ hm.cm.bits (by rw[hI.bytes];exact hI.pb) (by rw[hI.bytes];omega);have sK:Hid (ZM _ _ _ _ _):=hm;clear hm;go_wp2_with fail
       refine Ip.out.mono ?_;rintro e w7 ⟨rfl,⟨q7,r7⟩,k7⟩;have yU:ZM w w7 ({s.1 with p:=q7},s.2) rv sv:=sK.out.text (s':=({s.1 with p:=q7},s.2)) (sK.out.cm.Lf r7 k7) (gU.kept k7 sK.out.cm.up);have b13:w7.cell? ⟨w.heap.size+1,13,none⟩=some (.bool true):=by have:=yU.cm.all.cell 13;rw[r9]at this;exact this
       clear Ip sK r7 k7;have hS:Hid (∀u0 u1 u2 u3 u4 u5 u6 u7,ah _ _ _ _):=fun u0 u1 u2 u3 u4 u5 u6 u7=>wj yU.res u0 u1 u2 u3 u4 u5 u6 u7;have gF:Hid (∀w3,_->_):=yU.fin;have hz:=yU.res;unfold az at hz;have z0:w7.cell? ⟨w.heap.size,0,none⟩=some (.int .i64 0):=hz.cell 0;have y0:w7.frozen? ⟨w.heap.size,0,none⟩=false:=hz.frozen 0;have z1:w7.cell? ⟨w.heap.size,1,none⟩=some (.int .i64 0):=hz.cell 1;have y1:w7.frozen? ⟨w.heap.size,1,none⟩=false:=hz.frozen 1;have z2:w7.cell? ⟨w.heap.size,2,none⟩=some (.slice none 0 0):=hz.cell 2;have y2:w7.frozen? ⟨w.heap.size,2,none⟩=false:=hz.frozen 2;have z3:w7.cell? ⟨w.heap.size,3,none⟩=some (.slice none 0 0):=hz.cell 3;have y3:w7.frozen? ⟨w.heap.size,3,none⟩=false:=hz.frozen 3;have z4:w7.cell? ⟨w.heap.size,4,none⟩=some (.int .i64 0):=hz.cell 4;have y4:w7.frozen? ⟨w.heap.size,4,none⟩=false:=hz.frozen 4;have z5:w7.cell? ⟨w.heap.size,5,none⟩=some (.int .i64 0):=hz.cell 5;have y5:w7.frozen? ⟨w.heap.size,5,none⟩=false:=hz.frozen 5;have z6:w7.cell? ⟨w.heap.size,6,none⟩=some (.int .i64 0):=hz.cell 6;have y6:w7.frozen? ⟨w.heap.size,6,none⟩=false:=hz.frozen 6;have z7:w7.cell? ⟨w.heap.size,7,none⟩=some (.int .i64 0):=hz.cell 7;have y7:w7.frozen? ⟨w.heap.size,7,none⟩=false:=hz.frozen 7;clear hz;clear yU;go_wp2
       exact bodyPost_ret (v:=.tuple #[.agg az,.bool false]) (aP Tryz.results85 _ _ w.heap.size az rfl _ rfl rfl (hS.out _ _ _ _ _ _ _ _)) rfl ⟨(gF.out _ (pn _ _ _ _ _ _ _ _ _ _)).1,Or.inr ⟨wC.out,n,zc.out,Or.inr ⟨kJ.out,rfl⟩⟩⟩
     | false=>
       rw[dO]at Wd;have r9:s.1.bad=false:=dO;have hlf:Hid (Calls _ _ _ _ _):=D6 wr (w.heap.size+1) _ _ _ _ hm.cm.bits (by omega) (by rw[hI.bytes];omega);rw[hI.bytes]at hlf;by_cases hle:s.1.p+dU s<=8*B.size
       ·have zN:JM s=true:=by rw[Li.out,dO];rw[Bool.not_false,Bool.true_and];exact decide_eq_true (by rw[hI.bytes];exact hle)
        have hWle:((dU s:Nat):Int)<=8*(B.size:Int)-(s.1.p:Int):=by omega
        have hW20:dU s<=20:=by omega
        have hIs:=hI.step zN;have hsy1:=hI.syms;have hsy2:=hIs.syms;have hn36:n<=3600:=by have:=hI.p;omega
        have sK:Hid (ZM _ _ _ _ _):=hm;have cC:Hid (ZI _ _ _ _):=hI;have Zc:Hid (ZI _ _ _ _):=hIs;have hgoH:Hid (_=_):=zN;clear hm hI hIs zN We cY Pk Li r9;go_wp2_with fail
        refine hlf.out.mono ?_;rintro e w2 ⟨rfl,r2,k2⟩;have sZ:=sK.out.kept k2;have hnu:Hid (Calls _ _ _ _ _):=yR w2 (w.heap.size+1) _ _ _ _ sZ.cm.bits (by omega) (by rw[cC.out.bytes];omega) (dU s) hW20;have Wf:Hid (ZM _ _ _ _ _):=sZ;clear hlf r2 k2 sZ sK Wd;go_wp2_with fail
        refine hnu.out.mono ?_;rintro e w3 ⟨rfl,r3,k3⟩;have QI:ZM w w3 ({s.1 with p:=(bW s.1.B s.1.p (dU s)).2},s.2) rv sv:=Wf.out.text (Wf.out.cm.Lf r3 k3) (gU.kept k3 Wf.out.cm.up);have uP:Hid (Calls _ _ _ _ _):=SD cC.out Sx Fz hBs (by rw[cC.out.bytes];exact hle) QI.cm;have hm3H:Hid (ZM _ _ _ _ _):=QI;clear hnu r3 k3 QI Wf;go_wp2_with fail
        refine uP.out.mono ?_;rintro e w4 ⟨rfl,⟨⟨Wc,sv4,m4⟩,f4⟩⟩;have hm4:=hm3H.out.text m4 f4;have hwd4:Hid (Calls _ _ _ _ _):=Bf hm4.cm Zc.out.gone (by have:=Zc.out.rules;omega) (by rw[Zc.out.most];exact Fz);have hm4H:Hid (ZM _ _ _ _ _):=hm4;clear uP m4 f4 hm4 hm3H;go_wp2_with fail
        refine hwd4.out.mono ?_;rintro e w5 ⟨rfl,k5⟩;have hm5:=hm4H.out.kept k5;have c5:w5.cell? ⟨w.heap.size+1,4,none⟩=some (.int .i64 ((px s).2.syms:Int)):=hm5.cm.all.cell 4;have hpm5:Hid (_=_):=Sy c5;have hm5H:Hid (ZM _ _ _ _ _):=hm5;clear hwd4 k5 hm5 hm4H c5;go_wp2
        refine⟨⟨n+1,by rw[Zb.out];rfl,fun i hi=>?_,Wc,sv4,by rw[Zb.out];exact hm5H.out⟩,?_⟩
        ·by_cases oC:i=n
         ·subst oC;rw[<-qX.out];exact hgoH.out
         ·exact cP.out i (by omega)
        ·rw[hpm5.out,hpmH.out,hsy1,hsy2];omega
       ·have zc:Hid (xM f n):=cY.out (by rw[Li.out,dO,hI.bytes,decide_eq_false hle];rfl);have hWgt:¬((dU s:Nat):Int)<=8*(B.size:Int)-(s.1.p:Int):=by omega
        have XD:Hid (JN (l7 (z0 f) n)=tE s.1.B s.1.p):=by rw[<-qX.out,Pk.out,dO];rfl
        clear Pk Li We;have hIb:=hI.bytes;have sK:Hid (ZM _ _ _ _ _):=hm;clear hm;go_wp2_with fail
        refine hlf.out.mono ?_;rintro e w2 ⟨rfl,r2,k2⟩;have sZ:=sK.out.kept k2;clear hlf r2 k2 sK Wd;have Ip:Hid (Calls _ _ _ _ _):=wA w2 (w.heap.size+1) _ _ _ _ sZ.cm.bits (by rw[hI.bytes];exact hI.pb) (by rw[hI.bytes];omega);have sK:Hid (ZM _ _ _ _ _):=sZ;clear sZ;go_wp2_with fail
        refine Ip.out.mono ?_;rintro e w7 ⟨rfl,⟨q7,r7⟩,k7⟩;have yU:ZM w w7 ({s.1 with p:=q7},s.2) rv sv:=sK.out.text (s':=({s.1 with p:=q7},s.2)) (sK.out.cm.Lf r7 k7) (gU.kept k7 sK.out.cm.up);have b13:w7.cell? ⟨w.heap.size+1,13,none⟩=some (.bool false):=by have:=yU.cm.all.cell 13;rw[r9]at this;exact this
        clear Ip sK r7 k7;generalize tE s.1.B s.1.p=EB at *;cases EB with
        | false=>
          have kJ:Hid (JN (l7 (z0 f) n)=false):=XD.out;have hS:Hid (∀u0 u1 u2 u3 u4 u5 u6 u7,ah _ _ _ _):=fun u0 u1 u2 u3 u4 u5 u6 u7=>wj yU.res u0 u1 u2 u3 u4 u5 u6 u7;have gF:Hid (∀w3,_->_):=yU.fin;have hz:=yU.res;unfold az at hz;have z0:w7.cell? ⟨w.heap.size,0,none⟩=some (.int .i64 0):=hz.cell 0;have y0:w7.frozen? ⟨w.heap.size,0,none⟩=false:=hz.frozen 0;have z1:w7.cell? ⟨w.heap.size,1,none⟩=some (.int .i64 0):=hz.cell 1;have y1:w7.frozen? ⟨w.heap.size,1,none⟩=false:=hz.frozen 1;have z2:w7.cell? ⟨w.heap.size,2,none⟩=some (.slice none 0 0):=hz.cell 2;have y2:w7.frozen? ⟨w.heap.size,2,none⟩=false:=hz.frozen 2;have z3:w7.cell? ⟨w.heap.size,3,none⟩=some (.slice none 0 0):=hz.cell 3;have y3:w7.frozen? ⟨w.heap.size,3,none⟩=false:=hz.frozen 3;have z4:w7.cell? ⟨w.heap.size,4,none⟩=some (.int .i64 0):=hz.cell 4;have y4:w7.frozen? ⟨w.heap.size,4,none⟩=false:=hz.frozen 4;have z5:w7.cell? ⟨w.heap.size,5,none⟩=some (.int .i64 0):=hz.cell 5;have y5:w7.frozen? ⟨w.heap.size,5,none⟩=false:=hz.frozen 5;have z6:w7.cell? ⟨w.heap.size,6,none⟩=some (.int .i64 0):=hz.cell 6;have y6:w7.frozen? ⟨w.heap.size,6,none⟩=false:=hz.frozen 6;have z7:w7.cell? ⟨w.heap.size,7,none⟩=some (.int .i64 0):=hz.cell 7;have y7:w7.frozen? ⟨w.heap.size,7,none⟩=false:=hz.frozen 7;clear hz;clear yU;go_wp2
          exact bodyPost_ret (v:=.tuple #[.agg az,.bool false]) (aP Tryz.results85 _ _ w.heap.size az rfl _ rfl rfl (hS.out _ _ _ _ _ _ _ _)) rfl ⟨(gF.out _ (pn _ _ _ _ _ _ _ _ _ _)).1,Or.inr ⟨wC.out,n,zc.out,Or.inr ⟨kJ.out,rfl⟩⟩⟩
        | true=>
          have zo:Hid (JN (l7 (z0 f) n)=true):=XD.out;obtain⟨ra,rn,rc,rfl⟩:=bp yU.cm.rules;obtain⟨sa,sn,sc,rfl⟩:=bp yU.cm.start;have hS:Hid (∀u0 u1 u2 u3 u4 u5 u6 u7,ah _ _ _ _):=fun u0 u1 u2 u3 u4 u5 u6 u7=>wj yU.res u0 u1 u2 u3 u4 u5 u6 u7;have gF:Hid (∀w3,_->_):=yU.fin;have hz:=yU.res;unfold az at hz;have z0:w7.cell? ⟨w.heap.size,0,none⟩=some (.int .i64 0):=hz.cell 0;have y0:w7.frozen? ⟨w.heap.size,0,none⟩=false:=hz.frozen 0;have z1:w7.cell? ⟨w.heap.size,1,none⟩=some (.int .i64 0):=hz.cell 1;have y1:w7.frozen? ⟨w.heap.size,1,none⟩=false:=hz.frozen 1;have z2:w7.cell? ⟨w.heap.size,2,none⟩=some (.slice none 0 0):=hz.cell 2;have y2:w7.frozen? ⟨w.heap.size,2,none⟩=false:=hz.frozen 2;have z3:w7.cell? ⟨w.heap.size,3,none⟩=some (.slice none 0 0):=hz.cell 3;have y3:w7.frozen? ⟨w.heap.size,3,none⟩=false:=hz.frozen 3;have z4:w7.cell? ⟨w.heap.size,4,none⟩=some (.int .i64 0):=hz.cell 4;have y4:w7.frozen? ⟨w.heap.size,4,none⟩=false:=hz.frozen 4;have z5:w7.cell? ⟨w.heap.size,5,none⟩=some (.int .i64 0):=hz.cell 5;have y5:w7.frozen? ⟨w.heap.size,5,none⟩=false:=hz.frozen 5;have z6:w7.cell? ⟨w.heap.size,6,none⟩=some (.int .i64 0):=hz.cell 6;have y6:w7.frozen? ⟨w.heap.size,6,none⟩=false:=hz.frozen 6;have z7:w7.cell? ⟨w.heap.size,7,none⟩=some (.int .i64 0):=hz.cell 7;have y7:w7.frozen? ⟨w.heap.size,7,none⟩=false:=hz.frozen 7;clear hz;have hbn:w.heap.size+1<w7.heap.size:=yU.cm.all.lt;have x0:w7.cell? ⟨w.heap.size+1,3,none⟩=some (.int .i64 s.2.kind):=yU.cm.all.cell 3;have x1:w7.cell? ⟨w.heap.size+1,4,none⟩=some (.int .i64 (s.2.syms:Int)):=yU.cm.all.cell 4;have x2:w7.cell? ⟨w.heap.size+1,5,none⟩=some (.slice ra rn rc):=yU.cm.all.cell 5;have x3:w7.cell? ⟨w.heap.size+1,6,none⟩=some (.slice sa sn sc):=yU.cm.all.cell 6;have x4:w7.cell? ⟨w.heap.size+1,7,none⟩=some (.int .i64 (s.2.whole.len:Int)):=yU.cm.all.cell 7;have x5:w7.cell? ⟨w.heap.size+1,8,none⟩=some (.int .i64 (s.2.whole.nl:Int)):=yU.cm.all.cell 8;have x6:w7.cell? ⟨w.heap.size+1,9,none⟩=some (.int .i64 (s.2.whole.first:Int)):=yU.cm.all.cell 9;have x7:w7.cell? ⟨w.heap.size+1,10,none⟩=some (.int .i64 (s.2.whole.last:Int)):=yU.cm.all.cell 10;have aA:Hid (∀w3,Kept [w.heap.size] w7 w3->Bi f w w3 (.returned (.tuple #[.agg #[.int .i64 s.2.kind,.int .i64 s.2.syms,.slice ra rn rc,.slice sa sn sc,.int .i64 s.2.whole.len,.int .i64 s.2.whole.nl,.int .i64 s.2.whole.first,.int .i64 s.2.whole.last],.bool true]))):=fun w3 k=>by
           obtain⟨b3,v3⟩:=gF.out w3 k;refine⟨b3,Or.inr ⟨wC.out,n,zc.out,Or.inl ⟨zo.out,.slice ra rn rc,.slice sa sn sc,?_,?_⟩⟩⟩
           ·rw[<-qX.out];exact v3
           ·rw[<-qX.out];rfl
          clear yU gF;go_wp2
          refine bodyPost_ret (v:=.tuple #[.agg #[.int .i64 s.2.kind,.int .i64 s.2.syms,.slice ra rn rc,.slice sa sn sc,.int .i64 s.2.whole.len,.int .i64 s.2.whole.nl,.int .i64 s.2.whole.first,.int .i64 s.2.whole.last],.bool true]) (aP Tryz.results85 _ _ w.heap.size _ rfl _ rfl rfl (hS.out _ _ _ _ _ _ _ _)) rfl ?_;exact aA.out _ (pn _ _ _ _ _ _ _ _ _ _)
   ·have wC:Hid (lP f=false):=by
     show lP f=false;unfold lP;rw[<-Pj.out];by_cases h9:9<=mo
     ·rw[decide_eq_false (show ¬mo<=12 by omega)];simp
     ·rw[decide_eq_false h9];simp
    have aA:Hid (Below w.heap.size w ((w.alloc (.cells az 86)).alloc (.cells #[.string B,.int .i64 0,.int .i64 (mo:Int),.int .i64 90,.int .i64 0,.slice none 0 0,.slice none 0 0,.int .i64 0,.int .i64 0,.int .i64 0,.int .i64 0,.int .i64 0,.int .i64 (-1),.bool false] 212)).drew/\ah ((w.alloc (.cells az 86)).alloc (.cells #[.string B,.int .i64 0,.int .i64 (mo:Int),.int .i64 90,.int .i64 0,.slice none 0 0,.slice none 0 0,.int .i64 0,.int .i64 0,.int .i64 0,.int .i64 0,.int .i64 0,.int .i64 (-1),.bool false] 212)).drew w.heap.size az 86):=⟨N7.below,N7.res⟩;clear N7 jh;unfold az;by_cases h9:(mo:Int)<9
    ·go_wp2
     exact bodyPost_ret (v:=.tuple #[.agg az,.bool false]) (aP Tryz.results85 _ _ w.heap.size az rfl _ rfl rfl aA.out.2) rfl ⟨aA.out.1,Or.inl ⟨wC.out,rfl⟩⟩
    ·have h12:(12:Int)<(mo:Int):=by omega
     go_wp2
     exact bodyPost_ret (v:=.tuple #[.agg az,.bool false]) (aP Tryz.results85 _ _ w.heap.size az rfl _ rfl rfl aA.out.2) rfl ⟨aA.out.1,Or.inl ⟨wC.out,rfl⟩⟩
end Go.Proofs.YtgifhgnccmnbiabGreatDoor
