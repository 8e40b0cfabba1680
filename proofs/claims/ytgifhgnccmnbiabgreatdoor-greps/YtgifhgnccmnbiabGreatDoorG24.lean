/- Part of the proof. -/
import Derived.Test.YtgifhgnccmnbiabGreatDoorG23
import Derived.Test.YtgifhgnccmnbiabGreatDoorG22
import Derived.Shelf.LaysM
import Derived.Shelf.Strconv.Itoa3
import Derived.Test.YtgifhgnccmnbiabGreatDoorRows
import Derived.Test.YtgifhgnccmnbiabGreatDoorG20
import Derived.Test.YtgifhgnccmnbiabGreatDoorG21
set_option linter.unusedVariables false
set_option linter.unusedSimpArgs false
set_option maxHeartbeats 4000000
set_option maxRecDepth 100000
namespace Go.Proofs.YtgifhgnccmnbiabGreatDoor
open Go.RowKit Go.IntWalk
theorem Ma(x:List Nat):(oH x).length<=x.length:=by
 have h1:=me x;unfold oH;rw[List.length_tail];omega
theorem Cn{sel:List Nat->Bool}{x:List Nat}(h:x.length<=1099511627776):x8 sel x=((oH x).filter sel).length:=by
 have h1:=List.length_filter_le sel (oH x);have h2:=Ma x;unfold x8;exact jx (by omega)
structure Jl (w y:World)(g wk b mb:Nat)(D:fo)(gv:Nat)(f:Nat->Bool)(c3 c4 c5 c6 c7 c8 c9:Value)(cs:Array Value):Prop where
 k:Kept [] w y
 wk:ah y wk #[.pointer (some ⟨b,0,none⟩),.pointer (some ⟨mb,0,none⟩),.slice (some ⟨gv,0,none⟩) (3+D.nodes.length) (3+D.nodes.length),c3,c4,c5,c6,c7,c8,c9] 75
 row:ah y gv (ar (3+D.nodes.length) f) 4
 p:ah y g cs 122
 ge:w.heap.size<=g
theorem Jl.more{w y z:World}{g wk b mb:Nat}{D:fo}{gv:Nat}{f:Nat->Bool}{c3 c4 c5 c6 c7 c8 c9:Value}{cs:Array Value}(h:Jl w y g wk b mb D gv f c3 c4 c5 c6 c7 c8 c9 cs)(k:Kept [] y z):Jl w z g wk b mb D gv f c3 c4 c5 c6 c7 c8 c9 cs:=
 ⟨h.k.trans k,h.wk.kept k (by simp),h.row.kept k (by simp),h.p.kept k (by simp),h.ge⟩
theorem aN.C5{w:World}{g:Nat}{cs:Array Value}(h:ah w g cs 122)(u0 u1 u2 u3 u4 u5:Value):aN w (iG w g u0 u1 u2 u3 u4 u5):=by
 have st:∀{z:World} {cs:Array Value} (_:aN w z) (_:ah z g cs 122) (i:Nat) (v:Value),aN w (z.setCell ⟨g,i,none⟩ v)/\ah (z.setCell ⟨g,i,none⟩ v) g (cs.setIfInBounds i v) 122:=fun s b i v=>⟨s.set b (Or.inl rfl) i v,b.set i v⟩;have h0:=st (aN.refl w) h 0 u0;have h1:=st h0.1 h0.2 1 u1;have h2:=st h1.1 h1.2 2 u2;have h3:=st h2.1 h2.2 3 u3;have h4:=st h3.1 h3.2 4 u4;exact(st h4.1 h4.2 5 u5).1
structure C9 (w y:World)(s5:Value)(wk b mb:Nat)(D:fo)(gv:Nat)(f:Nat->Bool)(c3 c4 c5 c6 c7 c8 c9:Value)(sel:List Nat->Bool)(X:List Nat):Prop where
 ex:∃g x4 m4 k4 x5 m5 k5 ac,s5=.pointer (some ⟨g,0,none⟩)/\Jl w y g wk b mb D gv f c3 c4 c5 c6 c7 c8 c9 #[.int .i64 ((aq X).aV:Int),.int .i64 ((aq X).ends:Int),.int .i64 ((aq X).tail:Int),.slice x4 m4 k4,.slice x5 m5 k5,.int .i64 ((ac:Nat):Int)]/\gi y D sel X (.slice x4 m4 k4) (.slice x5 m5 k5) ac
section
variable {w w5:World}{wk b mb:Nat}{D:fo}{gv:Nat}{f:Nat->Bool}{c3 c4 c5 c6 c7 c8 c9:Value}{sel:List Nat->Bool}{X:List Nat}{x4 x5:Option Addr}{m4 k4 m5 k5 ac:Nat}
theorem C9.mkA(hb:ah w wk #[.pointer (some ⟨b,0,none⟩),.pointer (some ⟨mb,0,none⟩),.slice (some ⟨gv,0,none⟩) (3+D.nodes.length) (3+D.nodes.length),c3,c4,c5,c6,c7,c8,c9] 75)(hv:ah w gv (ar (3+D.nodes.length) f) 4)(k:Kept [] w w5)(hP:gi w5 D sel X (.slice x4 m4 k4) (.slice x5 m5 k5) ac):
 C9 w (w5.alloc (.cells #[.int .i64 ((aq X).aV:Int),.int .i64 ((aq X).ends:Int),.int .i64 ((aq X).tail:Int),.slice x4 m4 k4,.slice x5 m5 k5,.int .i64 ((ac:Nat):Int)] 122)) (.pointer (some ⟨w5.heap.size,0,none⟩)) wk b mb D gv f c3 c4 c5 c6 c7 c8 c9 sel X:=by
 have k5y:Kept [] w5 (w5.alloc (.cells #[.int .i64 ((aq X).aV:Int),.int .i64 ((aq X).ends:Int),.int .i64 ((aq X).tail:Int),.slice x4 m4 k4,.slice x5 m5 k5,.int .i64 ((ac:Nat):Int)] 122)):=(Kept.refl [] w5).alloc _;exact⟨_,x4,m4,k4,x5,m5,k5,ac,rfl,⟨k.trans k5y,hb.kept (k.trans k5y) (by simp),hv.kept (k.trans k5y) (by simp),ah.new w5 _ _,k.size⟩,hP.kept k5y⟩
theorem C9.mkB(hb:ah w wk #[.pointer (some ⟨b,0,none⟩),.pointer (some ⟨mb,0,none⟩),.slice (some ⟨gv,0,none⟩) (3+D.nodes.length) (3+D.nodes.length),c3,c4,c5,c6,c7,c8,c9] 75)(hv:ah w gv (ar (3+D.nodes.length) f) 4)(k:Kept [] w w5){a0 a1 a2 a3 a4 a5:Value}(hz:ah w5 w.heap.size #[a0,a1,a2,a3,a4,a5] 122)(hP:gi w5 D sel X (.slice x4 m4 k4) (.slice x5 m5 k5) ac):
 C9 w (iG w5 w.heap.size (.int .i64 ((aq X).aV:Int)) (.int .i64 ((aq X).ends:Int)) (.int .i64 ((aq X).tail:Int)) (.slice x4 m4 k4) (.slice x5 m5 k5) (.int .i64 ((ac:Nat):Int))) (.pointer (some ⟨w.heap.size,0,none⟩)) wk b mb D gv f c3 c4 c5 c6 c7 c8 c9 sel X:=by
 have hk:=D' k (Nat.le_refl _) (.int .i64 ((aq X).aV:Int)) (.int .i64 ((aq X).ends:Int)) (.int .i64 ((aq X).tail:Int)) (.slice x4 m4 k4) (.slice x5 m5 k5) (.int .i64 ((ac:Nat):Int));exact⟨_,x4,m4,k4,x5,m5,k5,ac,rfl,⟨hk,hb.kept hk (by simp),hv.kept hk (by simp),C5 hz _ _ _ _ _ _,Nat.le_refl _⟩,hP.bV (aN.C5 hz _ _ _ _ _ _)⟩
end
theorem Mb{w:World}{wk b mb gn cap m:Nat}{kv nv rv tv pv:Value}{rl top:List Nat}{U:Nat->Nat->Value}{T:List (List Nat)}{D:fo}{sel:List Nat->Bool}{aj:List Nat}{F:Nat->Prop}{num:Bool}{mx:Int}{R:gz}{c3 c4 c5 c6 c7 c8 c9:Value}{u:List Nat}
 (hG:uX w b kv nv rv tv pv rl top T.length U) (hL:dJ w D sel T U T.length) (hT:T.length<=1000) (hM:gC w mb D aj F num mx gn cap) (hR:gX D R) (hn:D.nodes.length<=10000) (sl:Jc D sel)
 (hW:mh w wk b mb D c3 c4 c5 c6 c7 c8 c9 (gh D u (l8 0))) {s:Nat} (hs:s<256+T.length) (ji:256<=s\/s=10) (hX:(af T s).length<=1099511627776) (hbx:∀c,c∈af T s->c<256) (hbu:∀c,c∈u->c<256):
 Calls Tryz.prog 65 #[.pointer (some ⟨wk,0,none⟩),.int .i64 (s:Int)] w fun e w'=>jI w w' e wk b mb D sel c3 c4 c5 c6 c7 c8 c9 u (af T s):=by
 obtain⟨gv,f,hb,hv,hf⟩:=hW.ex;have xv:Hid (∀w',Kept [] w w'->Calls _ _ _ w' _):=fun w' k=>Es (hG.kept k) (hL.kept k) (Nat.le_refl _) hT (hM.kept k) hR hn hs;have yT:Hid (gC _ _ _ _ _ _ _ _ _):=hM;have Ek:Hid (gX _ _):=hR;have Et:Hid (Jc _ _):=sl;have cC:Hid (ah w wk _ _/\ah w gv _ _):=⟨hb,hv⟩;have w0:w.cell? ⟨wk,0,none⟩=some (.pointer (some ⟨b,0,none⟩)):=hb.cell 0;have w1:w.cell? ⟨wk,1,none⟩=some (.pointer (some ⟨mb,0,none⟩)):=hb.cell 1;have hwl:=hb.lt;have QZ:Hid (_=_):=hf;have wW:Hid (_<=_):=hX;have hbxH:Hid (∀c,_):=hbx;have hbuH:Hid (∀c,_):=hbu;unfold di at cC;clear hM hR hW hb hv hf hG hL sl hX hbx hbu;generalize af T s=X at *;by_cases bO:s<256
 ·have e1:(s:Int)<256:=by omega
  have e2:((s:Int) != 10)=false:=by
   obtain rfl:s=10:=by omega
   rfl
  clear bO ji hs;go_enter Tryz.func65,Tryz.ntmps65
  go_upto_region 4 with fail
  go_cut [5] (fun s5 wx=>∃y,y=wx/\C9 w y s5 wk b mb D gv f c3 c4 c5 c6 c7 c8 c9 sel X)
  case first=>
   go_region_law (go_simp;go_at_call 111;refine(xv.out _ (by first | exact(Kept.refl [] w).drew | exact((Kept.refl [] w).alloc _).drew)).mono ?_;rintro _ w5 ⟨⟨⟨x4,m4,k4⟩,⟨x5,m5,k5⟩,ac,rfl,XY⟩,kk⟩;unfold nt fF;simp only[];have K5:Hid (Kept [] w w5):=Kept.trans (by first | exact(Kept.refl [] w).drew | exact((Kept.refl [] w).alloc _).drew) kk;have Cm:Hid (gi w5 D sel X (.slice x4 m4 k4) (.slice x5 m5 k5) ac):=XY;have kkH:Hid (Kept [] _ w5):=kk;clear kk XY;first | (have Z5:Hid (ah w5 w.heap.size #[.int .i64 0,.int .i64 0,.int .i64 0,.slice none 0 0,.slice none 0 0,.int .i64 0] 122):=(ah.new w _ _).drew.kept kkH.out (by simp);obtain⟨p0,p1,p2,p3,p4,p5,pl⟩:=bB Z5.out;obtain⟨f0,f1,f2,f3,f4,f5⟩:=ee Z5.out) | skip)
   all_goals
    go_wp2_with fail
    go_meet;first
    | (have hz5:=Z5.out;exact⟨_,rfl,C9.mkB cC.out.1 cC.out.2 K5.out hz5 Cm.out⟩)
    | exact⟨_,rfl,C9.mkA cC.out.1 cC.out.2 K5.out Cm.out⟩
  case rest=>
   obtain⟨y,hyx,⟨g5,x4,m4,k4,x5,m5,k5,ac,rfl,hIq,hPq⟩⟩:=hcut;subst hyx;have hI:Hid (Jl w y g5 wk b mb D gv f c3 c4 c5 c6 c7 c8 c9 #[.int .i64 ((aq X).aV:Int),.int .i64 ((aq X).ends:Int),.int .i64 ((aq X).tail:Int),.slice x4 m4 k4,.slice x5 m5 k5,.int .i64 (ac:Int)]):=hIq;have hP:Hid (gi y D sel X (.slice x4 m4 k4) (.slice x5 m5 k5) ac):=hPq;clear hIq hPq;clear xv w0 w1;obtain⟨rows,W,q1,q2,q3⟩:=hP.out.PC;have PH:Hid (∀w',Kept [] y w'->Calls _ _ _ w' _):=fun w' k=>nY (by omega) (hI.out.row.kept k (by simp)) (q2.kept k (by simp)) q1;have JO:Hid (SF D.nodes.length (se f W (3+D.nodes.length))=gh D (u++cV X) (l8 0)):=by
    have h1:=zS QZ.out (pD D u _ (s9 0)) q3;rw[<-pC]at h1;exact h1
   unfold di at PH;clear q1 q2 q3;obtain⟨p0,p1,p2,p3,p4,p5,pl⟩:=bB hI.out.p;have v2:y.cell? ⟨wk,2,none⟩=some (.slice (some ⟨gv,0,none⟩) (3+D.nodes.length) (3+D.nodes.length)):=hI.out.wk.cell 2;have vl:=hI.out.wk.lt;go_upto_region 5 with fail
   go_region_law (go_simp;go_at_call 114;refine(PH.out _ (by first | exact(((Kept.refl [] y).drewN _).drew) | exact(Kept.refl [] y).drew | exact Kept.refl _ _)).mono ?_;rintro _ w6 ⟨⟨g6,rfl,XJ,ud⟩,kk⟩;unfold di;have K6:Hid (Kept [] y w6):=Kept.trans (by first | exact(((Kept.refl [] y).drewN _).drew) | exact(Kept.refl [] y).drew | exact Kept.refl _ _) kk;have Ov:Hid (ah w6 g6 (ar (3+D.nodes.length) (se f W (3+D.nodes.length))) 4):=ud;have Ut:Hid (y.heap.size<=g6):=XJ;clear kk ud XJ)
   all_goals
    have nE:Hid (Jl w w6 g5 wk b mb D gv f c3 c4 c5 c6 c7 c8 c9 #[.int .i64 ((aq X).aV:Int),.int .i64 ((aq X).ends:Int),.int .i64 ((aq X).tail:Int),.slice x4 m4 k4,.slice x5 m5 k5,.int .i64 (ac:Int)]):=hI.out.more K6.out;have VJ:Hid (gi w6 D sel X (.slice x4 m4 k4) (.slice x5 m5 k5) ac):=hP.out.kept K6.out;have Z7:Hid (g6≠wk):=by have h1:=hI.out.wk.lt;have h2:=Ut.out;show g6≠wk;omega
    have t7:Hid ((ax X=[]->(((aq X).ends:Int)==0)=true)/\(¬ax X=[]->(((aq X).ends:Int)==0)=false)):=
     ⟨fun h=>by rw[(mF X).2 h];rfl,fun h=>by have:(aq X).ends≠0:=fun e=>h ((mF X).1 e);exact beq_eq_false_iff_ne.2 (by omega)⟩
    clear p0 p1 p2 p3 p4 p5 pl v2 vl hI hP PH K6 Ut;obtain⟨p0,p1,p2,p3,p4,p5,pl⟩:=bB nE.out.p;have v1:w6.cell? ⟨wk,1,none⟩=some (.pointer (some ⟨mb,0,none⟩)):=nE.out.wk.cell 1;have v2:w6.cell? ⟨wk,2,none⟩=some (.slice (some ⟨gv,0,none⟩) (3+D.nodes.length) (3+D.nodes.length)):=nE.out.wk.cell 2;have q2:=nE.out.wk.frozen 2;have vl:=nE.out.wk.lt;by_cases hx:ax X=[]
    ·have t7a:=t7.out.1 hx;have aA:Hid (jI w (w6.setCell ⟨wk,2,none⟩ (.slice (some ⟨g6,0,none⟩) (3+D.nodes.length) (3+D.nodes.length))) (.returned (.int .i64 0)) wk b mb D sel c3 c4 c5 c6 c7 c8 c9 u X):=by
      refine⟨by rw[oj,if_pos hx];rfl,⟨g6,_,nE.out.wk.set 2 _,Ov.out.other _ _ Z7.out,?_⟩,(nE.out.k.mono (by simp)).setCell (Or.inl (by simp)) _⟩;rw[JO.out,wV,if_pos hx];unfold cV;rw[if_pos hx]
     go_wp2
     exact bodyPost_ret (v:=.int .i64 0) (by simp[results,Tryz.results65,go_sem]) rfl aA.out
    ·have t7a:=t7.out.2 hx;obtain⟨ga,fa,ea,Uf,Ug⟩:=VJ.out.meet hx;have hea:Hid (_=_):=ea;have Ve:Hid (_=_):=Ug;have Z8:Hid (ah _ _ _ _):=Uf;clear ea Ug Uf;go_upto_region 10 with fail
     obtain⟨z,hz⟩:∃z,z=w6.setCell ⟨wk,2,none⟩ (.slice x5 m5 k5):=⟨_,rfl⟩;rw[<-hz];have kz:Kept [wk] w6 z:=by rw[hz];exact(Kept.refl _ w6).setCell (Or.inl (by simp)) _
     have st:aN w6 z:=aN.ofW kz nE.out.wk;have hWz:Hid (ah z wk #[.pointer (some ⟨b,0,none⟩),.pointer (some ⟨mb,0,none⟩),.slice x5 m5 k5,c3,c4,c5,c6,c7,c8,c9] 75):=by show ah _ _ _ _;rw[hz];exact nE.out.wk.set 2 _
     have hga:Hid (ah z ga (ar (3+D.nodes.length) fa) 4):=st.aD _ _ _ (by decide) (by decide) Z8.out;have hB7:Hid (ah z g6 (ar (3+D.nodes.length) (se f W (3+D.nodes.length))) 4):=st.aD _ _ _ (by decide) (by decide) Ov.out;have hPz:Hid (ah z g5 #[.int .i64 ((aq X).aV:Int),.int .i64 ((aq X).ends:Int),.int .i64 ((aq X).tail:Int),.slice x4 m4 k4,.slice x5 m5 k5,.int .i64 (ac:Int)] 122):=by show ah _ _ _ _;rw[hz];exact nE.out.p.other _ _ (by have h1:=nE.out.ge;omega)
     have hKz:Hid (Kept [wk] w z):=(nE.out.k.mono (by simp)).trans kz;have yr:Hid (Calls _ _ _ z _):=mf ((yT.out.kept nE.out.k).bV st) Ek.out hn hB7.out;unfold di at yr;have X3:Hid (∀y:Bool,(y=true↔FJ D (SF D.nodes.length (se f W (3+D.nodes.length))))->(y != D.inv)=sel (u++cV X)):=fun y X4=>Et.out _ (fun c hc=>by rcases List.mem_append.1 hc with h|h;exact hbuH.out c h;exact hbxH.out c (head_mem h)) y (by rw[JO.out]at X4;exact X4);have Z9:Hid (ac=((oH X).filter sel).length):=VJ.out.count.trans (Cn wW.out);clear hz kz st p0 p1 p2 p3 p4 p5 pl v1 v2 q2 vl Ov VJ;have v1:z.cell? ⟨wk,1,none⟩=some (.pointer (some ⟨mb,0,none⟩)):=hWz.out.cell 1;go_wp2_with fail
     refine yr.out.mono ?_;rintro e w7 ⟨⟨y7,rfl,Up⟩,kq⟩;have Jj:=X3.out y7 Up;obtain⟨q7,hq⟩:∃q,q=(y7 != D.inv):=⟨_,rfl⟩;rw[<-hq]at Jj ⊢;have hP7:Hid (ah w7 g5 #[.int .i64 ((aq X).aV:Int),.int .i64 ((aq X).ends:Int),.int .i64 ((aq X).tail:Int),.slice x4 m4 k4,.slice x5 m5 k5,.int .i64 (ac:Int)] 122):=hPz.out.kept kq (by simp);have aA:Hid (∀n:Nat,n=((wU u X).filter sel).length->jI w w7 (.returned (.int .i64 (n:Int))) wk b mb D sel c3 c4 c5 c6 c7 c8 c9 u X):=fun n lS=>
      ⟨by rw[lS],⟨ga,fa,by
       have h1:=hWz.out.kept kq (by simp);rw[hea.out]at h1;exact h1,hga.out.kept kq (by simp),by rw[Ve.out,wV,if_neg hx]⟩,hKz.out.trans (kq.mono (by simp))⟩
     clear hq Up yr X3 kq v1;obtain⟨p0,p1,p2,p3,p4,p5,pl⟩:=bB hP7.out;cases q7
     ·have sr:=aA.out ac (by rw[oj,if_neg hx,List.filter_cons,if_neg (by rw[<-Jj];decide)];exact Z9.out);have DR:Hid (jI _ _ _ _ _ _ _ _ _ _ _ _ _ _ _ _ _):=sr;clear Jj sr;go_wp2
      exact bodyPost_ret (v:=.int .i64 (ac:Int)) (by simp[results,Tryz.results65,go_sem]) rfl DR.out
     ·have sr:=aA.out (ac+1) (by rw[oj,if_neg hx,List.filter_cons,if_pos Jj.symm,List.length_cons,<-Z9.out]);have W0:ac<=1099511627776:=by
       have h1:=List.length_filter_le sel (oH X);have h2:=Ma X;have h3:=wW.out;have h4:=Z9.out;omega
      have DR:Hid (jI w w7 (.returned (.int .i64 ((ac:Int)+1))) wk b mb D sel c3 c4 c5 c6 c7 c8 c9 u X):=by
       show jI _ _ _ _ _ _ _ _ _ _ _ _ _ _ _ _ _;exact(show((ac+1:Nat):Int)=(ac:Int)+1 by omega) ▸ sr
      clear Jj sr;go_wp2
      exact bodyPost_ret (v:=.int .i64 ((ac:Int)+1)) (by simp[results,Tryz.results65,go_sem]) rfl DR.out
 ·have e1:¬(s:Int)<256:=by omega
  clear bO ji hs;go_enter Tryz.func65,Tryz.ntmps65
  go_upto_region 4 with fail
  go_cut [5] (fun s5 wx=>∃y,y=wx/\C9 w y s5 wk b mb D gv f c3 c4 c5 c6 c7 c8 c9 sel X)
  case first=>
   go_region_law (go_simp;go_at_call 111;refine(xv.out _ (by first | exact(Kept.refl [] w).drew | exact((Kept.refl [] w).alloc _).drew)).mono ?_;rintro _ w5 ⟨⟨⟨x4,m4,k4⟩,⟨x5,m5,k5⟩,ac,rfl,XY⟩,kk⟩;unfold nt fF;simp only[];have K5:Hid (Kept [] w w5):=Kept.trans (by first | exact(Kept.refl [] w).drew | exact((Kept.refl [] w).alloc _).drew) kk;have Cm:Hid (gi w5 D sel X (.slice x4 m4 k4) (.slice x5 m5 k5) ac):=XY;have kkH:Hid (Kept [] _ w5):=kk;clear kk XY;first | (have Z5:Hid (ah w5 w.heap.size #[.int .i64 0,.int .i64 0,.int .i64 0,.slice none 0 0,.slice none 0 0,.int .i64 0] 122):=(ah.new w _ _).drew.kept kkH.out (by simp);obtain⟨p0,p1,p2,p3,p4,p5,pl⟩:=bB Z5.out;obtain⟨f0,f1,f2,f3,f4,f5⟩:=ee Z5.out) | skip)
   all_goals
    go_wp2_with fail
    go_meet;first
    | (have hz5:=Z5.out;exact⟨_,rfl,C9.mkB cC.out.1 cC.out.2 K5.out hz5 Cm.out⟩)
    | exact⟨_,rfl,C9.mkA cC.out.1 cC.out.2 K5.out Cm.out⟩
  case rest=>
   obtain⟨y,hyx,⟨g5,x4,m4,k4,x5,m5,k5,ac,rfl,hIq,hPq⟩⟩:=hcut;subst hyx;have hI:Hid (Jl w y g5 wk b mb D gv f c3 c4 c5 c6 c7 c8 c9 #[.int .i64 ((aq X).aV:Int),.int .i64 ((aq X).ends:Int),.int .i64 ((aq X).tail:Int),.slice x4 m4 k4,.slice x5 m5 k5,.int .i64 (ac:Int)]):=hIq;have hP:Hid (gi y D sel X (.slice x4 m4 k4) (.slice x5 m5 k5) ac):=hPq;clear hIq hPq;clear xv w0 w1;obtain⟨rows,W,q1,q2,q3⟩:=hP.out.PC;have PH:Hid (∀w',Kept [] y w'->Calls _ _ _ w' _):=fun w' k=>nY (by omega) (hI.out.row.kept k (by simp)) (q2.kept k (by simp)) q1;have JO:Hid (SF D.nodes.length (se f W (3+D.nodes.length))=gh D (u++cV X) (l8 0)):=by
    have h1:=zS QZ.out (pD D u _ (s9 0)) q3;rw[<-pC]at h1;exact h1
   unfold di at PH;clear q1 q2 q3;obtain⟨p0,p1,p2,p3,p4,p5,pl⟩:=bB hI.out.p;have v2:y.cell? ⟨wk,2,none⟩=some (.slice (some ⟨gv,0,none⟩) (3+D.nodes.length) (3+D.nodes.length)):=hI.out.wk.cell 2;have vl:=hI.out.wk.lt;go_upto_region 5 with fail
   go_region_law (go_simp;go_at_call 114;refine(PH.out _ (by first | exact(((Kept.refl [] y).drewN _).drew) | exact(Kept.refl [] y).drew | exact Kept.refl _ _)).mono ?_;rintro _ w6 ⟨⟨g6,rfl,XJ,ud⟩,kk⟩;unfold di;have K6:Hid (Kept [] y w6):=Kept.trans (by first | exact(((Kept.refl [] y).drewN _).drew) | exact(Kept.refl [] y).drew | exact Kept.refl _ _) kk;have Ov:Hid (ah w6 g6 (ar (3+D.nodes.length) (se f W (3+D.nodes.length))) 4):=ud;have Ut:Hid (y.heap.size<=g6):=XJ;clear kk ud XJ)
   all_goals
    have nE:Hid (Jl w w6 g5 wk b mb D gv f c3 c4 c5 c6 c7 c8 c9 #[.int .i64 ((aq X).aV:Int),.int .i64 ((aq X).ends:Int),.int .i64 ((aq X).tail:Int),.slice x4 m4 k4,.slice x5 m5 k5,.int .i64 (ac:Int)]):=hI.out.more K6.out;have VJ:Hid (gi w6 D sel X (.slice x4 m4 k4) (.slice x5 m5 k5) ac):=hP.out.kept K6.out;have Z7:Hid (g6≠wk):=by have h1:=hI.out.wk.lt;have h2:=Ut.out;show g6≠wk;omega
    have t7:Hid ((ax X=[]->(((aq X).ends:Int)==0)=true)/\(¬ax X=[]->(((aq X).ends:Int)==0)=false)):=
     ⟨fun h=>by rw[(mF X).2 h];rfl,fun h=>by have:(aq X).ends≠0:=fun e=>h ((mF X).1 e);exact beq_eq_false_iff_ne.2 (by omega)⟩
    clear p0 p1 p2 p3 p4 p5 pl v2 vl hI hP PH K6 Ut;obtain⟨p0,p1,p2,p3,p4,p5,pl⟩:=bB nE.out.p;have v1:w6.cell? ⟨wk,1,none⟩=some (.pointer (some ⟨mb,0,none⟩)):=nE.out.wk.cell 1;have v2:w6.cell? ⟨wk,2,none⟩=some (.slice (some ⟨gv,0,none⟩) (3+D.nodes.length) (3+D.nodes.length)):=nE.out.wk.cell 2;have q2:=nE.out.wk.frozen 2;have vl:=nE.out.wk.lt;by_cases hx:ax X=[]
    ·have t7a:=t7.out.1 hx;have aA:Hid (jI w (w6.setCell ⟨wk,2,none⟩ (.slice (some ⟨g6,0,none⟩) (3+D.nodes.length) (3+D.nodes.length))) (.returned (.int .i64 0)) wk b mb D sel c3 c4 c5 c6 c7 c8 c9 u X):=by
      refine⟨by rw[oj,if_pos hx];rfl,⟨g6,_,nE.out.wk.set 2 _,Ov.out.other _ _ Z7.out,?_⟩,(nE.out.k.mono (by simp)).setCell (Or.inl (by simp)) _⟩;rw[JO.out,wV,if_pos hx];unfold cV;rw[if_pos hx]
     go_wp2
     exact bodyPost_ret (v:=.int .i64 0) (by simp[results,Tryz.results65,go_sem]) rfl aA.out
    ·have t7a:=t7.out.2 hx;obtain⟨ga,fa,ea,Uf,Ug⟩:=VJ.out.meet hx;have hea:Hid (_=_):=ea;have Ve:Hid (_=_):=Ug;have Z8:Hid (ah _ _ _ _):=Uf;clear ea Ug Uf;go_upto_region 10 with fail
     obtain⟨z,hz⟩:∃z,z=w6.setCell ⟨wk,2,none⟩ (.slice x5 m5 k5):=⟨_,rfl⟩;rw[<-hz];have kz:Kept [wk] w6 z:=by rw[hz];exact(Kept.refl _ w6).setCell (Or.inl (by simp)) _
     have st:aN w6 z:=aN.ofW kz nE.out.wk;have hWz:Hid (ah z wk #[.pointer (some ⟨b,0,none⟩),.pointer (some ⟨mb,0,none⟩),.slice x5 m5 k5,c3,c4,c5,c6,c7,c8,c9] 75):=by show ah _ _ _ _;rw[hz];exact nE.out.wk.set 2 _
     have hga:Hid (ah z ga (ar (3+D.nodes.length) fa) 4):=st.aD _ _ _ (by decide) (by decide) Z8.out;have hB7:Hid (ah z g6 (ar (3+D.nodes.length) (se f W (3+D.nodes.length))) 4):=st.aD _ _ _ (by decide) (by decide) Ov.out;have hPz:Hid (ah z g5 #[.int .i64 ((aq X).aV:Int),.int .i64 ((aq X).ends:Int),.int .i64 ((aq X).tail:Int),.slice x4 m4 k4,.slice x5 m5 k5,.int .i64 (ac:Int)] 122):=by show ah _ _ _ _;rw[hz];exact nE.out.p.other _ _ (by have h1:=nE.out.ge;omega)
     have hKz:Hid (Kept [wk] w z):=(nE.out.k.mono (by simp)).trans kz;have yr:Hid (Calls _ _ _ z _):=mf ((yT.out.kept nE.out.k).bV st) Ek.out hn hB7.out;unfold di at yr;have X3:Hid (∀y:Bool,(y=true↔FJ D (SF D.nodes.length (se f W (3+D.nodes.length))))->(y != D.inv)=sel (u++cV X)):=fun y X4=>Et.out _ (fun c hc=>by rcases List.mem_append.1 hc with h|h;exact hbuH.out c h;exact hbxH.out c (head_mem h)) y (by rw[JO.out]at X4;exact X4);have Z9:Hid (ac=((oH X).filter sel).length):=VJ.out.count.trans (Cn wW.out);clear hz kz st p0 p1 p2 p3 p4 p5 pl v1 v2 q2 vl Ov VJ;have v1:z.cell? ⟨wk,1,none⟩=some (.pointer (some ⟨mb,0,none⟩)):=hWz.out.cell 1;go_wp2_with fail
     refine yr.out.mono ?_;rintro e w7 ⟨⟨y7,rfl,Up⟩,kq⟩;have Jj:=X3.out y7 Up;obtain⟨q7,hq⟩:∃q,q=(y7 != D.inv):=⟨_,rfl⟩;rw[<-hq]at Jj ⊢;have hP7:Hid (ah w7 g5 #[.int .i64 ((aq X).aV:Int),.int .i64 ((aq X).ends:Int),.int .i64 ((aq X).tail:Int),.slice x4 m4 k4,.slice x5 m5 k5,.int .i64 (ac:Int)] 122):=hPz.out.kept kq (by simp);have aA:Hid (∀n:Nat,n=((wU u X).filter sel).length->jI w w7 (.returned (.int .i64 (n:Int))) wk b mb D sel c3 c4 c5 c6 c7 c8 c9 u X):=fun n lS=>
      ⟨by rw[lS],⟨ga,fa,by
       have h1:=hWz.out.kept kq (by simp);rw[hea.out]at h1;exact h1,hga.out.kept kq (by simp),by rw[Ve.out,wV,if_neg hx]⟩,hKz.out.trans (kq.mono (by simp))⟩
     clear hq Up yr X3 kq v1;obtain⟨p0,p1,p2,p3,p4,p5,pl⟩:=bB hP7.out;cases q7
     ·have sr:=aA.out ac (by rw[oj,if_neg hx,List.filter_cons,if_neg (by rw[<-Jj];decide)];exact Z9.out);have DR:Hid (jI _ _ _ _ _ _ _ _ _ _ _ _ _ _ _ _ _):=sr;clear Jj sr;go_wp2
      exact bodyPost_ret (v:=.int .i64 (ac:Int)) (by simp[results,Tryz.results65,go_sem]) rfl DR.out
     ·have sr:=aA.out (ac+1) (by rw[oj,if_neg hx,List.filter_cons,if_pos Jj.symm,List.length_cons,<-Z9.out]);have W0:ac<=1099511627776:=by
       have h1:=List.length_filter_le sel (oH X);have h2:=Ma X;have h3:=wW.out;have h4:=Z9.out;omega
      have DR:Hid (jI w w7 (.returned (.int .i64 ((ac:Int)+1))) wk b mb D sel c3 c4 c5 c6 c7 c8 c9 u X):=by
       show jI _ _ _ _ _ _ _ _ _ _ _ _ _ _ _ _ _;exact(show((ac+1:Nat):Int)=(ac:Int)+1 by omega) ▸ sr
      clear Jj sr;go_wp2
      exact bodyPost_ret (v:=.int .i64 ((ac:Int)+1)) (by simp[results,Tryz.results65,go_sem]) rfl DR.out
theorem Mc{w:World}{wk b mb gn cap:Nat}{kv nv rv tv pv:Value}{rl top:List Nat}{U:Nat->Nat->Value}{T:List (List Nat)}{D:fo}{sel:List Nat->Bool}{aj:List Nat}{F:Nat->Prop}{num:Bool}{mx:Int}{R:gz}{c3 c4 c5 c6 c7 c8 c9:Value}{u:List Nat}
 (hG:uX w b kv nv rv tv pv rl top T.length U) (hL:dJ w D sel T U T.length) (hT:T.length<=1000) (hM:gC w mb D aj F num mx gn cap) (hR:gX D R) (hn:D.nodes.length<=10000) (sl:Jc D sel)
 (hW:mh w wk b mb D c3 c4 c5 c6 c7 c8 c9 (gh D u (l8 0))) {s:Nat} (hs:s<256+T.length) (hX:(af T s).length<=1099511627776) (hbx:∀c,c∈af T s->c<256) (hbu:∀c,c∈u->c<256):
 Calls Tryz.prog 65 #[.pointer (some ⟨wk,0,none⟩),.int .i64 (s:Int)] w fun e w'=>jI w w' e wk b mb D sel c3 c4 c5 c6 c7 c8 c9 u (af T s):=by
 by_cases h:256<=s\/s=10
 ·exact Mb (m:=0) hG hL hT hM hR hn sl hW hs h hX hbx hbu
 ·have e:af T s=[s]:=if_pos (by omega);rw[e];exact Jk hM hR hn hW (by omega) (by omega) sel
structure nw (w:World)(b mb gn cap:Nat)(kv nv rv tv pv:Value)(rl top:List Nat)(U:Nat->Nat->Value)(T:List (List Nat))(D:fo)(sel:List Nat->Bool)(aj:List Nat)(F:Nat->Prop)(num:Bool)(mx:Int)(R:gz)(X:List Nat):Prop where
 G:uX w b kv nv rv tv pv rl top T.length U
 L:dJ w D sel T U T.length
 T1:T.length<=1000
 M:gC w mb D aj F num mx gn cap
 R1:gX D R
 n:D.nodes.length<=10000
 s:Jc D sel
 syms:∀s,s∈top->s<256+T.length
 text:X=top.flatMap (af T)
 Jh:X.length<=1099511627776
 TZ:top.length<=100000000
 byte:∀c,c∈X->c<256
 rs:gD rl (T.map aq) T
section
variable {w w':World}{wk b mb gn cap:Nat}{kv nv rv tv pv:Value}{rl top:List Nat}{U:Nat->Nat->Value}{T:List (List Nat)}{D:fo}{sel:List Nat->Bool}{aj:List Nat}{F:Nat->Prop}{num:Bool}{mx:Int}{R:gz}{X:List Nat}{cs:Array Value}
theorem nw.gW(h:nw w b mb gn cap kv nv rv tv pv rl top U T D sel aj F num mx R X)(k:Kept [wk] w w')(hw:ah w wk cs 75):nw w' b mb gn cap kv nv rv tv pv rl top U T D sel aj F num mx R X:=
 ⟨h.G.gW k hw,h.L.gW k hw,h.T1,h.M.bV (aN.ofW k hw),h.R1,h.n,h.s,h.syms,h.text,h.Jh,h.TZ,h.byte,h.rs⟩
def ahead(T:List (List Nat))(top:List Nat)(i:Nat):List Nat:=(top.take i).flatMap (af T)
theorem Co{i:Nat}(h:i<top.length):ahead T top (i+1)=ahead T top i++af T (top.getD i 0):=by
 unfold ahead;rw[List.take_add_one,List.flatMap_append,List.getD_eq_getElem?_getD,List.getElem?_eq_getElem h];simp
end
structure Uu (w w':World)(e:Ending)(D:fo)(sel:List Nat->Bool)(num:Bool)(mx:Int)(X:List Nat):Prop where
 ex:∃wk b mb gn cap kv nv rv tv pv rl top U T aj F R,e=.returned (.tuple #[.pointer (some ⟨wk,0,none⟩),.int .i64 0])/\nw w' b mb gn cap kv nv rv tv pv rl top U T D sel aj F num mx R X/\mh w' wk b mb D (.int .i64 0) (.int .i64 0) (.int .i64 0) (.int .i64 0) (.string ⟨#[]⟩) (.bool false) (.bool false) (l8 0)/\w.heap.size<=wk
 below:Below w.heap.size w w'
def KnU(T:List (List Nat))(U:Nat->Nat->Value):Prop:=∀i,i<T.length->∃v3 v4 c,∀j,j<6->U i j=XV (aq (T.getD i [])) v3 v4 c j
theorem dJ.kn{w:World}{D:fo}{sel:List Nat->Bool}{T:List (List Nat)}{U:Nat->Nat->Value}{k:Nat}(l:dJ w D sel T U k):KnU T U:=fun i hi=>by
 obtain⟨v3,v4,c,h,_⟩:=l i hi;exact⟨v3,v4,c,h⟩
structure JP (w:World)(b:Nat)(kv nv:Value)(rl top:List Nat)(T:List (List Nat))(rv tv pv:Value)(U:Nat->Nat->Value):Prop where
 g:uX w b kv nv rv tv pv rl top T.length U
 u:KnU T U
def SzC(w:World)(b:Nat)(T:List (List Nat))(z:Nat):Prop:=∃v3 v4 c,∀w',Kept [] w w'->Calls Tryz.prog 66 #[.pointer (some ⟨b,0,none⟩),.int .i64 (z:Int)] w' fun e w2=>e=.returned (.agg (nt (aq (af T z)) v3 v4 c))/\Kept [] w' w2
section
variable {w w':World}{b:Nat}{kv nv rv tv pv:Value}{rl top:List Nat}{T:List (List Nat)}{U:Nat->Nat->Value}
theorem JP.same(h:JP w b kv nv rl top T rv tv pv U)(hs:∀k cs e,e≠5->ah w k cs e->ah w' k cs e):JP w' b kv nv rl top T rv tv pv U:=
 ⟨⟨hs _ _ _ (by decide) h.g.aD,Je h.g.rules (by decide) hs,Je h.g.top (by decide) hs,fun hm=>by
  obtain⟨gp,cap,cur,h1,h2,h3⟩:=h.g.XW hm;exact⟨gp,cap,cur,h1,hs _ _ _ (by decide) h2,h3⟩⟩,h.u⟩
theorem JP.kept(h:JP w b kv nv rl top T rv tv pv U)(k:Kept [] w w'):JP w' b kv nv rl top T rv tv pv U:=h.same fun _ _ _ _ hb=>hb.kept k (by simp)
theorem JP.size(h:JP w b kv nv rl top T rv tv pv U)(hT:T.length<=1000)(z:Nat)(hz:z<256+T.length):SzC w b T z:=by
 by_cases hl:z<256
 ·have e:af T z=[z]:=if_pos hl;unfold SzC;rw[e];exact⟨_,_,_,fun w' _=>ts b hl w'⟩
 ·obtain⟨i,rfl⟩:∃i,z=i+256:=⟨z-256,by omega⟩;obtain⟨v3,v4,c,hU⟩:=h.u i (by omega);have e:af T (i+256)=T.getD i []:=by unfold af;rw[if_neg (by omega),Nat.add_sub_cancel]
  unfold SzC;rw[e];exact⟨v3,v4,c,fun w' k=>yc (h.kept k).g hT (by omega) hU⟩
theorem JP.size2(h:JP w b kv nv rl top T rv tv pv U)(hT:T.length<=1000)(z:Nat)(hz:z<256+T.length):∃v3 v4 c,∀w',(∀k cs e,e≠5->ah w k cs e->ah w' k cs e)->Calls Tryz.prog 66 #[.pointer (some ⟨b,0,none⟩),.int .i64 (z:Int)] w' fun e w2=>e=.returned (.agg (nt (aq (af T z)) v3 v4 c))/\Kept [] w' w2:=by
 by_cases hl:z<256
 ·have e:af T z=[z]:=if_pos hl;rw[e];exact⟨_,_,_,fun w' _=>ts b hl w'⟩
 ·obtain⟨i,rfl⟩:∃i,z=i+256:=⟨z-256,by omega⟩;obtain⟨v3,v4,c,hU⟩:=h.u i (by omega);have e:af T (i+256)=T.getD i []:=by unfold af;rw[if_neg (by omega),Nat.add_sub_cancel]
  rw[e];exact⟨v3,v4,c,fun w' k=>yc (h.same k).g hT (by omega) hU⟩
end
theorem Uv{T:List (List Nat)}{rl:List Nat}{ps:List PI}(hS:gD rl ps T)(hT:T.length<=1000){b:Nat}{kv nv rv tv pv:Value}{top:List Nat}{U:Nat->Nat->Value}(base:Nat):
 ∀(k s:Nat),s<k->s<256+T.length->(af T s).length<=1099511627776->∀(fr nB:Int) (v:Value) (out:List Nat) (w:World),-1099511627776<=fr->fr<=1099511627776->-1099511627776<=nB->nB<=1099511627776 ->
  JP w b kv nv rl top T rv tv pv U->w.ownsRow base 5 1 v out.length (byteCells out)->base<=w.heap.size->out.length+(af T s).length<=2199023255552 ->
  Calls Tryz.prog 117 #[.pointer (some ⟨b,0,none⟩),v,.int .i64 (s:Int),.int .i64 fr,.int .i64 nB] w fun e w'=>∃v',e=.returned v'/\oh w w' base v' (out++gK (af T s) fr nB):=by
 intro k;induction k with
 | zero=>intro s hs;omega
 | succ k ih=>
   intro s hs ji hL fr nB v out w Vk DR ht1 Ws hG b8 jn rq;have dd:Hid (∀z,z<256+T.length->SzC w b T z):=fun z hz=>hG.size hT z hz;obtain⟨⟨x3,y3,z3⟩,⟨x4,y4,z4⟩,c5,Oz⟩:=dd.out s ji;have qz:Hid (Calls _ _ _ w _):=Oz w (Kept.refl _ _);clear Oz;have wK:(aq (af T s)).aV=(af T s).length:=jx (by omega);obtain⟨L,Pu⟩:∃L,Hid (L=(af T s).length):=⟨_,rfl⟩;rw[<-Pu.out]at wK hL rq;generalize aq (af T s)=pi at *;obtain⟨p1,p2,p3⟩:=pi;simp only[]at wK;subst wK;unfold nt fF at qz;simp only[]at qz;obtain⟨va,vk,vc,rfl⟩:=bp b8;obtain⟨F,F0,hF1,Pb⟩:∃F:Int,0<=F/\(fr<0->F=0)/\(0<=fr->F=fr):=by
    by_cases h:fr<0
    ·exact⟨0,by omega,fun _=>rfl,fun h2=>by omega⟩
    ·exact⟨fr,by omega,fun h2=>by omega,fun _=>rfl⟩
   obtain⟨D,D0,hD1,hD2⟩:∃D:Int,D<=(p1:Int)/\((p1:Int)<nB->D=(p1:Int))/\(nB<=(p1:Int)->D=nB):=by
    by_cases h:(p1:Int)<nB
    ·exact⟨p1,by omega,fun _=>rfl,fun h2=>by omega⟩
    ·exact⟨nB,by omega,fun h2=>by omega,fun _=>rfl⟩
   have ix:Hid (gK (af T s) fr nB=gK (af T s) F D):=LZ hF1 Pb (by rw[<-Pu.out];exact hD1) (by rw[<-Pu.out];exact hD2);have qO:Hid (JP _ _ _ _ _ _ _ _ _ _ _):=hG;have dZ:Hid (World.ownsRow _ _ _ _ _ _ _):=b8;clear hG b8;go_enter Tryz.func117,Tryz.ntmps117
   go_wp2_with fail
   refine qz.out.mono ?_;rintro _ w1 ⟨rfl,k1⟩;have K1:Hid (Kept [] w (w1.alloc (.cells #[.int .i64 (p1:Int),.int .i64 (p2:Int),.int .i64 (p3:Int),.slice x3 y3 z3,.slice x4 y4 z4,.int .i64 (c5:Int)] 122))):=k1.alloc _;have hP:Hid (ah (w1.alloc (.cells #[.int .i64 (p1:Int),.int .i64 (p2:Int),.int .i64 (p3:Int),.slice x3 y3 z3,.slice x4 y4 z4,.int .i64 (c5:Int)] 122)) w1.heap.size #[.int .i64 (p1:Int),.int .i64 (p2:Int),.int .i64 (p3:Int),.slice x3 y3 z3,.slice x4 y4 z4,.int .i64 (c5:Int)] 122):=ah.new w1 _ _;clear k1 qz;go_upto_if 19 with fail
   go_cut [3] (fun s3 wx=>s3=.int .i64 F/\wx=(w1.alloc (.cells #[.int .i64 (p1:Int),.int .i64 (p2:Int),.int .i64 (p3:Int),.slice x3 y3 z3,.slice x4 y4 z4,.int .i64 (c5:Int)] 122)))
   case first=>
    by_cases h:fr<0
    ·have e:=hF1 h;go_wp2
     go_meet;exact⟨by rw[e],rfl⟩
    ·have e:=Pb (by omega);go_wp2
     go_meet;exact⟨by rw[e],rfl⟩
   case rest=>
    obtain⟨rfl,rfl⟩:=hcut;go_upto_if 23 with fail
    go_cut [4] (fun s4 wx=>s4=.int .i64 D/\wx=(w1.alloc (.cells #[.int .i64 (p1:Int),.int .i64 (p2:Int),.int .i64 (p3:Int),.slice x3 y3 z3,.slice x4 y4 z4,.int .i64 (c5:Int)] 122)))
    case first=>
     by_cases h:(p1:Int)<nB
     ·have e:=hD1 h;go_wp2
      go_meet;exact⟨by rw[e],rfl⟩
     ·have e:=hD2 (by omega);go_wp2
      go_meet;exact⟨by rw[e],rfl⟩
    case rest=>
     obtain⟨rfl,Lm⟩:=hcut;have hDlow:-1099511627776<=D:=by
      by_cases h:(p1:Int)<nB
      ·have:=hD1 h;omega
      ·have:=hD2 (by omega);omega
     clear hF1 Pb hD1 hD2;subst Lm;by_cases hFD:D<=F
     ·have aA:Hid (oh w (w1.alloc (.cells #[.int .i64 (p1:Int),.int .i64 (p2:Int),.int .i64 (p3:Int),.slice x3 y3 z3,.slice x4 y4 z4,.int .i64 (c5:Int)] 122)) base (.slice va vk vc) (out++gK (af T s) fr nB)):=
       ⟨K1.out.below jn (by simp),fun _ _ _ _ hb=>hb.kept K1.out (by simp),by
        rw[ix.out,x' (Or.inl hFD),List.append_nil];exact aQ (S:=[]) dZ.out K1.out (fun _ _=>by simp)⟩
      clear ih;go_wp2
      go_ret;exact⟨_,rfl,aA.out⟩
     ·have hFD':F<D:=by omega
      clear hFD;by_cases h3:(s:Int)<256
      ·have hx:af T s=[s]:=by unfold af;rw[if_pos (by omega)]
       have yw:p1=1:=by rw[Pu.out,hx];rfl
       subst yw;have eF:F=0:=by omega
       have eD:D=1:=by omega
       obtain⟨i0,kQ,jh,dP,dB⟩:=info_parts Lt;have vj:Hid (gK (af T s) fr nB=[s]):=by show gK (af T s) fr nB=[s];rw[ix.out,hx,TX (by omega) (by omega)]
       have own:(w1.alloc (.cells #[.int .i64 ((1:Nat):Int),.int .i64 (p2:Int),.int .i64 (p3:Int),.slice x3 y3 z3,.slice x4 y4 z4,.int .i64 (c5:Int)] 122)).ownsRow base 5 1 (.slice va vk vc) out.length (byteCells out):=aQ (S:=[]) dZ.out K1.out (fun _ _=>by simp);have TL:=K1.out.size;have hKK:Hid (∀o,Kept [] w ((w1.alloc (.cells #[.int .i64 ((1:Nat):Int),.int .i64 (p2:Int),.int .i64 (p3:Int),.slice x3 y3 z3,.slice x4 y4 z4,.int .i64 (c5:Int)] 122)).alloc o)):=fun o=>K1.out.alloc o;have Gv:Hid (∀o,((w1.alloc (.cells #[.int .i64 ((1:Nat):Int),.int .i64 (p2:Int),.int .i64 (p3:Int),.slice x3 y3 z3,.slice x4 y4 z4,.int .i64 (c5:Int)] 122)).alloc o).ownsRow base 5 1 (.slice va vk vc) out.length (byteCells out)):=fun o=>aQ (S:=[]) dZ.out (hKK.out o) (fun _ _=>by simp);have mb:out.length+1<=maxLen:=by unfold maxLen;omega
       have mc:(out.length+1)*1<=140737488355328:=by omega
       clear ih hx ix own;go_wp2_with (at_builtin;refine wpList_append_own _ rfl (.tmp 32) (.tmp 35) 77 rfl base 5 i0 _ 1 1 Tryz.underlying77 kQ jh dP dB rfl (by decide) (.slice va vk vc) out.length (byteCells out) rfl ?own ⟨w1.heap.size+1,0,none⟩ 1 1 [.int .u8 (s:Int)] rfl rfl ?c1 ?c2 ?b1 ?b2 ?b3 ?kk)
       case own=>exact Gv.out _
       case c1=>exact bM _ _ _ _ (by simp)
       case c2=>simp[Value.oneCell']
       case b1=>exact mb
       case b2=>exact mc
       case b3=>simp at TL ⊢;omega
       case kk=>
        intro v' w3 aG ay _;obtain⟨gv,cap,rfl⟩:=aO aG (by omega);have aA:Hid (oh w w3 base (.slice (some ⟨gv,0,none⟩) (out.length+1) cap) (out++gK (af T s) fr nB)):=by
         have hb:=hKK.out (.cells #[.int .u8 (s:Int)] 5);have hr:=Gv.out (.cells #[.int .u8 (s:Int)] 5);have fx:∀k,k<base->some k≠(Value.slice va vk vc).ownBlock:=fun k hk hc=>by have:=(hr.lt k hc.symm).1;omega
         refine⟨(hb.below jn (by simp)).trans ⟨ay.os,ay.tape,ay.output,ay.size,fun k hk=>ay.block k (Nat.lt_of_lt_of_le (Nat.lt_of_lt_of_le hk jn) hb.size) (fx k hk)⟩,fun k cs e he hk=>?_,?_⟩
         ·have gH:=hk.kept hb (by simp);exact(ay.block k gH.lt (fun hc=>he (lk hr gH hc.symm))).trans gH
         ·rw[vj.out,tY,List.length_append];exact aG
        clear aG ay;go_wp2
        go_ret;exact⟨_,rfl,aA.out⟩
      ·obtain⟨i,rfl⟩:∃i,s=i+256:=⟨s-256,by omega⟩;clear h3;obtain⟨u1,u2,u3⟩:=hS.uy i (by omega);obtain⟨ra,W3⟩:∃ra,ra=rl.getD (2*i) 0:=⟨_,rfl⟩;obtain⟨rb,qD⟩:∃rb,rb=rl.getD (2*i+1) 0:=⟨_,rfl⟩;have wv:=hS.len;have Kx:af T (i+256)=af T ra++af T rb:=by
        rw[W3,qD,<-u3];unfold af;rw[if_neg (by omega),Nat.add_sub_cancel]
       rw[<-W3]at u1;rw[<-qD]at u2;have Q2:=qO.out.kept K1.out;obtain⟨g,cap,hv⟩:=aO Q2.g.rules (by omega);have r0:(w1.alloc (.cells #[.int .i64 (p1:Int),.int .i64 (p2:Int),.int .i64 (p3:Int),.slice x3 y3 z3,.slice x4 y4 z4,.int .i64 (c5:Int)] 122)).cell? ⟨g,2*i,none⟩=some (.int .i64 (ra:Int)):=by
        have:=Q2.g.rules.cells (g:=g) (by rw[hv];rfl) (2*i) _ (eV rl (2*i) (by omega));rw[cK]at this;rw[this,W3]
       have r1:(w1.alloc (.cells #[.int .i64 (p1:Int),.int .i64 (p2:Int),.int .i64 (p3:Int),.slice x3 y3 z3,.slice x4 y4 z4,.int .i64 (c5:Int)] 122)).cell? ⟨g,2*i+1,none⟩=some (.int .i64 (rb:Int)):=by
        have:=Q2.g.rules.cells (g:=g) (by rw[hv];rfl) (2*i+1) _ (eV rl (2*i+1) (by omega));rw[cK]at this;rw[this,qD]
       have cR:(w1.alloc (.cells #[.int .i64 (p1:Int),.int .i64 (p2:Int),.int .i64 (p3:Int),.slice x3 y3 z3,.slice x4 y4 z4,.int .i64 (c5:Int)] 122)).cell? ⟨b,2,none⟩=some rv:=Q2.g.aD.cell 2;have hle:(af T ra).length+(af T rb).length=p1:=by rw[Pu.out,Kx,List.length_append]
       obtain⟨⟨x6,y6,z6⟩,⟨x7,y7,z7⟩,c8,hsa0⟩:=dd.out ra (by omega);have hsa:Hid (∀w',Kept [] w w'->Calls _ _ _ w' _):=hsa0;clear hsa0;have MV:(aq (af T ra)).aV=(af T ra).length:=jx (by omega);have hA:Hid (∀w',Kept [] w w'->Calls Tryz.prog 117 #[.pointer (some ⟨b,0,none⟩),.slice va vk vc,.int .i64 (ra:Int),.int .i64 F,.int .i64 D] w' fun e w2=>∃v',e=.returned v'/\oh w' w2 base v' (out++gK (af T ra) F D)):=fun w' kk=>ih ra (by omega) (by omega) (by omega) F D _ out w' (by omega) (by omega) (by omega) (by omega) (qO.out.kept kk) (aQ (S:=[]) dZ.out kk (fun _ _=>by simp)) (Nat.le_trans jn kk.size) (by omega);have hB:Hid (∀w2 w3 v3,Kept [] w w2->oh w2 w3 base v3 (out++gK (af T ra) F D)->Calls Tryz.prog 117 #[.pointer (some ⟨b,0,none⟩),v3,.int .i64 (rb:Int),.int .i64 (F-((af T ra).length:Int)),.int .i64 (D-((af T ra).length:Int))] w3 fun e w'=>∃v',e=.returned v'/\oh w w' base v' (out++gK (af T (i+256)) fr nB)):=fun w2 w3 v3 kk o=>by
        have hl:=Jd (af T ra) F D;refine(ih rb (by omega) (by omega) (by omega) _ _ v3 _ w3 (by omega) (by omega) (by omega) (by omega) ((qO.out.kept kk).same o.stay) o.row (Nat.le_trans jn (Nat.le_trans kk.size o.below.size)) (by rw[List.length_append];omega)).mono ?_;rintro e w' ⟨v',he,o2⟩;refine⟨v',he,((kk.below jn (by simp)).trans o.below).trans o2.below,fun k cs e he hk=>o2.stay k cs e he (o.stay k cs e he (hk.kept kk (by simp))),?_⟩;rw[ix.out,Kx,Cj,<-List.append_assoc];exact o2.row
       clear ih dd Q2 u1 u2 u3 W3 qD hS ix;subst hv;have hlA:(af T ra).length<=p1:=by omega
       generalize af T ra=A at *;generalize af T rb=Bx at *;generalize aq A=pj at *;obtain⟨q1,q2,q3⟩:=pj;simp only[]at MV;unfold nt fF at hsa;simp only[]at hsa;rw[<-MV]at hB hlA;have hrl2:(2*i:Int)+1<(rl.length:Int):=by omega
       generalize rl.length=RL at *;clear hle Kx Pu MV wv;go_wp2_with (first
        | (go_at_call 66
           refine(hsa.out _ K1.out).mono ?_;rintro _ w2 ⟨rfl,k2⟩;have K2:=(K1.out.trans k2).alloc (.cells #[.int .i64 (q1:Int),.int .i64 (q2:Int),.int .i64 (q3:Int),.slice x6 y6 z6,.slice x7 y7 z7,.int .i64 (c8:Int)] 122))
        | (go_at_call_of 117 (Value.int IntKind.i64 (ra:Int))
           refine(hA.out _ K2).mono ?_;rintro _ w3 ⟨v3,rfl,o3⟩;obtain⟨oa,ok,oc,rfl⟩:=bp o3.row;have o3H:Hid (oh _ _ _ _ _):=o3;have e1:w3.cell? ⟨w2.heap.size,0,none⟩=some (.int .i64 (q1:Int)):=(o3.stay _ _ _ (by decide) (ah.new w2 _ _)).cell 0)
        | (go_at_call_of 117 (Value.int IntKind.i64 (rb:Int))
           refine(hB.out _ _ _ K2 o3H.out).mono ?_;rintro _ w4 ⟨v4,rfl,o4⟩;obtain⟨pa,pk,pc,rfl⟩:=bp o4.row))
       go_ret;exact⟨_,rfl,o4⟩
structure Ga (w0 w:World)(b:Nat)(kv nv:Value)(rl top:List Nat)(U:Nat->Nat->Value)(rv tv pv:Value)(T:List (List Nat))(fr dst q:Nat)(v:Value):Prop where
 g:JP w b kv nv rl top T rv tv pv U
 out:oh w0 w w0.heap.size v (gK ((top.take q).flatMap (af T)) (fr:Int) (dst:Int))
theorem Md{T:List (List Nat)}{rl top:List Nat}{ps:List PI}(hS:gD rl ps T)(hT:T.length<=1000)(dy:∀s,s∈top->s<256+T.length)(hX:(top.flatMap (af T)).length<=1099511627776)(hN:top.length<=100000000)(xi:∀c,c∈top.flatMap (af T)->c<256)
 {b:Nat} {kv nv rv tv pv:Value} {U:Nat->Nat->Value} {fr dst:Nat} (hfd:fr<=dst) (hd:dst<=1099511627776) (w:World) (hG:JP w b kv nv rl top T rv tv pv U):
 Calls Tryz.prog 68 #[.pointer (some ⟨b,0,none⟩),.int .i64 (fr:Int),.int .i64 (dst:Int)] w fun e w'=>e=.returned (.string (dH (gK (top.flatMap (af T)) (fr:Int) (dst:Int))))/\Below w.heap.size w w':=by
 have h0:Hid (Ga w w b kv nv rl top U rv tv pv T fr dst 0 (.slice none 0 0)):=⟨hG,⟨Below.refl _ _,fun _ _ _ _ h=>h,by
  have e1:gK ((top.take 0).flatMap (af T)) (fr:Int) (dst:Int)=[]:=by rw[List.take_zero,List.flatMap_nil];exact x' (Or.inr (Or.inr (by simp)))
  rw[e1];exact World.ownsRow_nil _ _ _ _⟩⟩
 have jh:Hid ((((top.take 0).flatMap (af T)).length:Nat)=0):=by show _=0;rw[List.take_zero];rfl
 clear hG;go_enter Tryz.func68,Tryz.ntmps68
 go_wp2_with fail
 go_loopw [7,8,9] (fun ov av iv wr=>∃(q:Nat) (xa:Option Addr) (xk xc:Nat),ov=.slice xa xk xc/\av=.int .i64 ((((top.take q).flatMap (af T)).length:Nat):Int)/\iv=.int .i64 (q:Int)/\q<=top.length/\Ga w wr b kv nv rl top U rv tv pv T fr dst q (.slice xa xk xc)) (fun _ _ iv _=>((top.length:Int)-intOf iv).toNat)
 case atStart=>exact⟨0,none,0,0,rfl,by rw[jh.out];rfl,rfl,Nat.zero_le _,h0.out⟩
 case round=>
  obtain⟨q,xa,xk,xc,rfl,rfl,rfl,hq,hI⟩:=hrel;clear h0 jh;obtain⟨hG,hO⟩:=hI;have hXq:Hid (∀q,((top.take q).flatMap (af T))++((top.drop q).flatMap (af T))=top.flatMap (af T)):=fun q=>by rw[<-List.flatMap_append,List.take_append_drop]
  have hPX:((top.take q).flatMap (af T)).length<=(top.flatMap (af T)).length:=by rw[<-hXq.out q,List.length_append];omega
  have dE:Hid (dst<=((top.take q).flatMap (af T)).length\/q=top.length->gK ((top.take q).flatMap (af T)) (fr:Int) (dst:Int)=gK (top.flatMap (af T)) (fr:Int) (dst:Int)):=fun h=>by
   rcases h with h|h
   ·rw[<-hXq.out q,Cj,x' (x:=(top.drop q).flatMap (af T)) (Or.inr (Or.inl (by omega))),List.append_nil]
   ·rw[h,List.take_length]
  have Z':Hid (∀c,c∈gK ((top.take q).flatMap (af T)) (fr:Int) (dst:Int)->c<256):=fun c hc=>xi c (by
   rw[<-hXq.out q];exact List.mem_append_left _ (List.mem_of_mem_take (List.mem_of_mem_drop hc)))
  have nW:(convert 77 9 (.slice xa xk xc)).run Tryz.prog wr=.ok (.string (dH (gK ((top.take q).flatMap (af T)) (fr:Int) (dst:Int)))) wr:=Ca hO.row Z'.out;obtain⟨sa,sk,sc,Cb⟩:=bp hG.g.top;have c3:wr.cell? ⟨b,3,none⟩=some tv:=hG.g.aD.cell 3;have qO:Hid (JP _ _ _ _ _ _ _ _ _ _ _):=hG;have Me:Hid (oh _ _ _ _ _):=hO;have ix:sk=top.length:=by
   rcases hG.g.top.2 with⟨h1,h2⟩|⟨g,cap,_,h1,_⟩
   ·rw[Cb]at h1;simp at h1;omega
   ·rw[Cb]at h1;simp at h1;omega
  by_cases bO:(q:Int)<(top.length:Int)
  ·by_cases hpd:((((top.take q).flatMap (af T)).length:Nat):Int)<(dst:Int)
   ·obtain⟨s,hs⟩:∃s,top[q]?=some s:=⟨_,List.getElem?_eq_getElem (by omega)⟩;obtain⟨g,cap,hv⟩:=aO hG.g.top (by omega);have fI:∀w',Kept [] wr w'\/oh wr w' w.heap.size (.slice none 0 0) []->True:=fun _ _=>trivial;have sI:(aF top)[q]?=some (.int .i64 (s:Int)):=by unfold aF;rw[List.getElem?_map,hs];rfl
    have c1:wr.cell? ⟨g,q,none⟩=some (.int .i64 (s:Int)):=by
     have:=hG.g.top.cells (g:=g) (by rw[hv];rfl) q _ sI;rwa [cK]at this
    have hm:s∈top:=List.mem_of_getElem? hs;have KJ:=wM (T:=T) hm;have hol:=Jd ((top.take q).flatMap (af T)) (fr:Int) (dst:Int);have hcut:Hid (Calls Tryz.prog 117 #[.pointer (some ⟨b,0,none⟩),.slice xa xk xc,.int .i64 (s:Int),.int .i64 ((fr:Int)-((((top.take q).flatMap (af T)).length:Nat):Int)),.int .i64 ((dst:Int)-((((top.take q).flatMap (af T)).length:Nat):Int))] wr _):=
     Uv hS hT w.heap.size (s+1) s (by omega) (dy s hm) (by omega) ((fr:Int)-((((top.take q).flatMap (af T)).length:Nat):Int)) ((dst:Int)-((((top.take q).flatMap (af T)).length:Nat):Int)) _ _ wr (by omega) (by omega) (by omega) (by omega) hG hO.row hO.below.size (by omega)
    have wK:(aq (af T s)).aV=(af T s).length:=jx (by omega);obtain⟨⟨x3,y3,z3⟩,⟨x4,y4,z4⟩,c5,TL⟩:=hG.size2 hT s (dy s hm);have dd:Hid (∀w' v' o,oh wr w' w.heap.size v' o->Calls _ _ _ w' _):=fun w' v' o h=>TL w' h.stay;clear TL;have aaa:Hid (∀w' v' o,oh wr w' w.heap.size v' o->w'.cell? ⟨g,q,none⟩=some (.int .i64 (s:Int))/\w'.cell? ⟨b,3,none⟩=some tv):=fun w' v' o h=>⟨by
     have:=(qO.out.same h.stay).g.top.cells (g:=g) (by rw[hv];rfl) q _ sI;rwa [cK]at this,(qO.out.same h.stay).g.aD.cell 3⟩
    have cy:Hid (∀w2 w3 v',oh wr w2 w.heap.size v' (gK ((top.take q).flatMap (af T)) (fr:Int) (dst:Int)++gK (af T s) ((fr:Int)-((((top.take q).flatMap (af T)).length:Nat):Int)) ((dst:Int)-((((top.take q).flatMap (af T)).length:Nat):Int)))->Kept [] w2 w3->Ga w w3 b kv nv rl top U rv tv pv T fr dst (q+1) v'):=fun w2 w3 v' o k=>by
     have e:(top.take (q+1)).flatMap (af T)=(top.take q).flatMap (af T)++af T s:=by
      rw[List.take_add_one,hs,List.flatMap_append];simp
     refine⟨(qO.out.same o.stay).kept k,⟨(Me.out.below.trans o.below).trans (k.below (Nat.le_trans Me.out.below.size o.below.size) (by simp)),fun k' cs e' he hk=>(o.stay k' cs e' he (Me.out.stay k' cs e' he hk)).kept k (by simp),?_⟩⟩;rw[e,Cj];exact aQ (S:=[]) o.row k (fun _ _=>by simp)
    have An:Hid ((((top.take (q+1)).flatMap (af T)).length:Nat)=((top.take q).flatMap (af T)).length+(af T s).length):=by
     show _=_;rw[List.take_add_one,hs,List.flatMap_append];simp
    rw[<-wK]at An KJ;subst hv;clear Cb ix hG hO hS dy hs hm dE Z' nW fI sI wK hol xi hT;generalize gK ((top.take q).flatMap (af T)) (fr:Int) (dst:Int)++gK (af T s) ((fr:Int)-((((top.take q).flatMap (af T)).length:Nat):Int)) ((dst:Int)-((((top.take q).flatMap (af T)).length:Nat):Int))=O2 at *;generalize aq (af T s)=pi at *;obtain⟨p1,p2,p3⟩:=pi;simp only[]at An KJ;unfold nt fF at dd;simp only[]at dd;generalize ((top.take q).flatMap (af T)).length=P at *;go_wp2_with (first
     | (go_at_call 117
        refine hcut.out.mono ?_;rintro _ w2 ⟨v2,rfl,o2⟩;obtain⟨oa,ok,oc,rfl⟩:=bp o2.row;obtain⟨d1,d3⟩:=aaa.out _ _ _ o2;have o2H:Hid (oh _ _ _ _ _):=o2)
     | (go_at_call 66
        refine(dd.out _ _ _ o2H.out).mono ?_;rintro _ w3 ⟨rfl,k3⟩;have aA:=cy.out _ _ _ o2H.out (k3.alloc (.cells #[.int .i64 (p1:Int),.int .i64 (p2:Int),.int .i64 (p3:Int),.slice x3 y3 z3,.slice x4 y4 z4,.int .i64 (c5:Int)] 122));have aA:Hid (Ga _ _ _ _ _ _ _ _ _ _ _ _ _ _ _ _):=aA))
    refine⟨⟨q+1,oa,ok,oc,rfl,by rw[An.out];exact congrArg _ (by omega),by go_num,by omega,aA.out⟩,?_⟩;simp only[intOf];omega
   ·have e:=dE.out (Or.inl (by omega));rw[e]at nW;subst Cb ix;clear hG hO hS dy dE xi e Z' hT;generalize ((((top.take q).flatMap (af T)).length:Nat):Int)=P at *;obtain⟨R,hR⟩:∃R,Hid (dH (gK (top.flatMap (af T)) (fr:Int) (dst:Int))=R):=⟨_,rfl⟩;rw[hR.out]at nW;generalize top.length=NN at *;go_wp2
    go_ret;exact⟨by rw[hR.out];rfl,Me.out.below⟩
  ·have e:=dE.out (Or.inr (by omega));rw[e]at nW;subst Cb ix;clear hG hO hS dy dE xi e Z' hT;generalize ((((top.take q).flatMap (af T)).length:Nat):Int)=P at *;obtain⟨R,hR⟩:∃R,Hid (dH (gK (top.flatMap (af T)) (fr:Int) (dst:Int))=R):=⟨_,rfl⟩;rw[hR.out]at nW;generalize top.length=NN at *;go_wp2
   go_ret;exact⟨by rw[hR.out];rfl,Me.out.below⟩
end Go.Proofs.YtgifhgnccmnbiabGreatDoor
namespace Go.Proofs.YtgifhgnccmnbiabGreatDoor
open Go.RowKit Go.IntWalk Go.Shelf
def W4:Go.Shelf.Ren:=⟨fun|171=>43|243=>83|246=>126|283=>158|284=>159|285=>160|286=>161|129=>189|317=>188|318=>190|319=>191|320=>192|337=>203|338=>204|n=>n,fun|3=>3|9=>9|2=>2|4=>4|171=>240|0=>0|53=>56|37=>77|5=>5|173=>243|212=>262|51=>263|20=>20|213=>264|46=>154|232=>276|233=>277|n=>n,fun|17=>0|18=>1|19=>2|n=>n⟩
theorem Uw:Go.Proofs.LaysM.n171 Tryz.prog W4:={
 mixed:=by kernel_rfl
 f129:=Tryz.func189.trans (congrArg some (by kernel_rfl))
 f171:=Tryz.func43.trans (congrArg some (by kernel_rfl))
 f243:=Tryz.func83.trans (congrArg some (by kernel_rfl))
 f246:=Tryz.func126.trans (congrArg some (by kernel_rfl))
 f283:=Tryz.func158.trans (congrArg some (by kernel_rfl))
 f284:=Tryz.func159.trans (congrArg some (by kernel_rfl))
 f285:=Tryz.func160.trans (congrArg some (by kernel_rfl))
 f286:=Tryz.func161.trans (congrArg some (by kernel_rfl))
 f317:=Tryz.func188.trans (congrArg some (by kernel_rfl))
 f318:=Tryz.func190.trans (congrArg some (by kernel_rfl))
 f319:=Tryz.func191.trans (congrArg some (by kernel_rfl))
 f320:=Tryz.func192.trans (congrArg some (by kernel_rfl))
 f337:=Tryz.func203.trans (congrArg some (by kernel_rfl))
 f338:=Tryz.func204.trans (congrArg some (by kernel_rfl))
 t0:=Tryz.underlying0
 a0:=Tryz.isAgg0
 z0:=Tryz.sizeOf0
 v0:=Tryz.zeroValue0
 t2:=Tryz.underlying2
 a2:=Tryz.isAgg2
 z2:=Tryz.sizeOf2
 v2:=Tryz.zeroValue2
 t3:=Tryz.underlying3
 a3:=Tryz.isAgg3
 z3:=Tryz.sizeOf3
 v3:=Tryz.zeroValue3
 t4:=Tryz.underlying4
 a4:=Tryz.isAgg4
 z4:=Tryz.sizeOf4
 v4:=Tryz.zeroValue4
 t5:=Tryz.underlying5
 a5:=Tryz.isAgg5
 z5:=Tryz.sizeOf5
 v5:=Tryz.zeroValue5
 t9:=Tryz.underlying9
 a9:=Tryz.isAgg9
 z9:=Tryz.sizeOf9
 v9:=Tryz.zeroValue9
 t20:=Tryz.underlying20
 a20:=Tryz.isAgg20
 z20:=Tryz.sizeOf20
 v20:=Tryz.zeroValue20
 t37:=Tryz.underlying77
 a37:=Tryz.isAgg77
 z37:=Tryz.sizeOf77
 v37:=Tryz.zeroValue77
 t46:=Tryz.underlying154
 a46:=Tryz.isAgg154
 z46:=Tryz.sizeOf154
 v46:=Tryz.zeroValue154
 t51:=Tryz.underlying263
 a51:=Tryz.isAgg263
 z51:=Tryz.sizeOf263
 v51:=Tryz.zeroValue263
 t53:=Tryz.underlying56
 a53:=Tryz.isAgg56
 z53:=Tryz.sizeOf56
 v53:=Tryz.zeroValue56
 t171:=Tryz.underlying240
 a171:=Tryz.isAgg240
 z171:=Tryz.sizeOf240
 v171:=Tryz.zeroValue240
 t173:=Tryz.underlying243
 a173:=Tryz.isAgg243
 z173:=Tryz.sizeOf243
 v173:=Tryz.zeroValue243
 t212:=Tryz.underlying262
 a212:=Tryz.isAgg262
 z212:=Tryz.sizeOf262
 v212:=Tryz.zeroValue262
 t213:=Tryz.underlying264
 a213:=Tryz.isAgg264
 z213:=Tryz.sizeOf264
 t232:=Tryz.underlying276
 a232:=Tryz.isAgg276
 z232:=Tryz.sizeOf276
 v232:=Tryz.zeroValue276
 t233:=Tryz.underlying277
 a233:=Tryz.isAgg277
 z233:=Tryz.sizeOf277
 v233:=Tryz.zeroValue277
 g17:=by kernel_rfl
 g18:=by kernel_rfl
 g19:=by kernel_rfl
 i0:=by kernel_rfl
 i2:=by kernel_rfl
 i3:=by kernel_rfl
 i4:=by kernel_rfl
 i5:=by kernel_rfl
 i9:=by kernel_rfl
 i20:=by kernel_rfl
 i37:=by kernel_rfl
 i46:=by kernel_rfl
 i51:=by kernel_rfl
 i53:=by kernel_rfl
 i171:=by kernel_rfl
 i173:=by kernel_rfl
 i212:=by kernel_rfl
 i232:=by kernel_rfl
 i233:=by kernel_rfl
 m17:=by kernel_rfl
 m18:=by kernel_rfl
 m19:=by kernel_rfl}
open Go.RowKit Go.Sort Go.Lib in
def aab : String := Rows.alikeRow.named.headD ""
def mj(w:World):Prop:=Lib.TabIs Tryz.prog w aab .u64 Lib.pow10Tab
theorem mj.kept{w w':World}(h:mj w)(q:Kept [] w w'):mj w':=by
 unfold mj Lib.TabIs World.var? at h ⊢;cases hg:Tryz.prog.globalNamed aab with
 | none=>rw[hg]at h;cases h
 | some g=>
   rw[hg]at h;simp only[Option.bind_some]at h ⊢;have hl:g<w.heap.size:=by
    apply Classical.byContradiction;intro hc;rw[Array.getElem?_eq_none (by omega)]at h;cases h
   rw[q.block g hl (by simp)];exact h
theorem growK(w:World)(os:Array Obj):Kept [] w (Sort.grow w os):=by
 refine⟨rfl,rfl,rfl,?_,fun k hk _=>?_⟩
 ·show _<=(w.heap++os).size;rw[Array.size_append];omega
 ·show(w.heap++os)[k]?=_;rw[Array.getElem?_append_left hk]
def za(n:Nat):ByteArray:=⟨(Lib.itoa (n:Int)).toArray⟩
theorem Jm(n:Nat)(hn:n<=1099511627777){w:World}(ft:mj w):
 Calls Tryz.prog 43 #[.int .i64 (n:Int)] w fun e w'=>e=.returned (.string (za n))/\Kept [] w w':=by
 refine(Any.strconv_Itoa Uw (n:Int) (by omega) (by omega) w ft).mono ?_;rintro e w' ⟨rfl,k,os,rfl⟩;exact⟨rfl,((Kept.refl [] w).drewN k).trans (growK _ os)⟩
end Go.Proofs.YtgifhgnccmnbiabGreatDoor
namespace Go.Proofs.YtgifhgnccmnbiabGreatDoor
open Go.RowKit Go.IntWalk
def Nt(num:Bool)(n:Nat):ByteArray:=if num=true then za n++⟨#[58]⟩ else ⟨#[]⟩
def zT(num:Bool)(X:List Nat)(x:FL):ByteArray:=Nt num x.num++dH (fs X x.zA x.xb 0)++⟨#[10]⟩
def nC(num:Bool)(X:List Nat)(l:List FL):ByteArray:=l.foldl (fun a x=>a++zT num X x) ⟨#[]⟩
theorem ss(num:Bool)(X:List Nat)(l:List FL)(x:FL):nC num X (l++[x])=nC num X l++zT num X x:=by
 unfold nC;rw[List.foldl_append];rfl
theorem Ux{num:Bool}{X:List Nat}{l:List FL}{q:Nat}{x:FL}(h:l[q]?=some x):nC num X (l.take (q+1))=nC num X (l.take q)++zT num X x:=by
 rw[List.take_add_one,h];exact ss num X _ x
theorem W5(num:Bool)(X:List Nat)(x:FL):1<=(zT num X x).size:=by
 unfold zT;rw[ByteArray.size_append];have:(⟨#[10]⟩:ByteArray).size=1:=rfl;omega
theorem Jn(num:Bool)(X:List Nat):∀(l:List FL) (a:ByteArray),(l.foldl (fun a x=>a++zT num X x) a).size=a.size+(l.map fun x=>(zT num X x).size).sum
 | [],a=>by simp
 | x :: l,a=>by
   rw[List.foldl_cons,Jn num X l,ByteArray.size_append,List.map_cons,List.sum_cons];omega
theorem Gb(num:Bool)(X:List Nat)(l:List FL):(nC num X l).size=(l.map fun x=>(zT num X x).size).sum:=by
 unfold nC;rw[Jn];have:(⟨#[]⟩:ByteArray).size=0:=rfl;omega
theorem Uy(num:Bool)(X:List Nat)(l:List FL)(q:Nat):(nC num X (l.take q)).size<=(nC num X l).size:=by
 rw[Gb,Gb];have:l.take q++l.drop q=l:=List.take_append_drop q l;have e:(l.map fun x=>(zT num X x).size).sum=((l.take q).map fun x=>(zT num X x).size).sum+((l.drop q).map fun x=>(zT num X x).size).sum:=by
  rw[<-List.sum_append,<-List.map_append,this]
 omega
theorem Nu(num:Bool)(X:List Nat):∀l:List FL,l.length<=(nC num X l).size:=fun l=>by
 rw[Gb];induction l with
 | nil=>simp
 | cons x l ih=>
   rw[List.length_cons,List.map_cons,List.sum_cons];have:=W5 num X x;omega
def jL(num:Bool)(X:List Nat)(l:List FL):ByteArray×Bool:=if (nC num X l).size<=2000 then (nC num X l,true) else (⟨#[]⟩,false)
theorem Gc{num:Bool}{X:List Nat}{l:List FL}(h:(nC num X l).size<=2000):jL num X l=(nC num X l,true):=if_pos h
theorem Gd{num:Bool}{X:List Nat}{l:List FL}(h:2000<(nC num X l).size):jL num X l=(⟨#[]⟩,false):=if_neg (by omega)
theorem Qg(X:List Nat):dW (jA X)<=X.length+1:=by
 have h:=wO X [];rw[mD];unfold ax aH;simp only[List.length_nil,Nat.zero_add]at h;by_cases hr:(fv [] X).2=[]
 ·rw[if_pos hr,List.append_nil];omega
 ·rw[if_neg hr,IT];simp only[dW];omega
theorem W6{M:MP}{inv:Bool}{X:List Nat}{x:FL}(h:x∈FV M inv X):1<=x.num/\x.num<=X.length+1/\x.zA<=x.xb/\x.xb<=X.length:=by
 obtain⟨h1,h2,h3,h4,h5⟩:=IU _ _ _ _ _ h;have h6:=Qg X;have h7:(jA X).length<=X.length+1:=by
  rw[mD];have:=me X;split
  ·rw[List.append_nil];unfold ax at this ⊢;omega
  ·rw[List.length_append];simp only[List.length_cons,List.length_nil];omega
 omega
theorem Jo{num:Bool}{X:List Nat}{x:FL}(h1:x.zA<=x.xb)(h2:x.xb<=X.length):(zT num X x).size=(Nt num x.num).size+(x.xb-x.zA)+1/\(dH (fs X x.zA x.xb 0)).size=x.xb-x.zA:=by
 have e:(dH (fs X x.zA x.xb 0)).size=x.xb-x.zA:=by
  have:(dH (fs X x.zA x.xb 0)).size=(fs X x.zA x.xb 0).length:=by
   show(((fs X x.zA x.xb 0).map Nat.toUInt8).toArray).size=_;simp
  rw[this,BC,List.length_drop,List.length_take];omega
 refine⟨?_,e⟩;unfold zT;rw[ByteArray.size_append,ByteArray.size_append,e];rfl
end Go.Proofs.YtgifhgnccmnbiabGreatDoor
