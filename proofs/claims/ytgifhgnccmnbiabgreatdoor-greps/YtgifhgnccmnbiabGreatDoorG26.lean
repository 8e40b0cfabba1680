/- Part of the proof. -/
import Derived.Test.YtgifhgnccmnbiabGreatDoorG25
import Derived.Test.YtgifhgnccmnbiabGreatDoorG21
import Derived.Test.YtgifhgnccmnbiabGreatDoorG19
set_option linter.unusedVariables false
set_option linter.unusedSimpArgs false
set_option maxHeartbeats 4000000
set_option maxRecDepth 100000
namespace Go.Proofs.YtgifhgnccmnbiabGreatDoor
open Go.RowKit Go.IntWalk
section
variable {w:World}{wk b mb:Nat}{D:fo}{sel:List Nat->Bool}{num:Bool}{mx:Int}{X Y:List Nat}{O:ByteArray×Bool}
theorem UK(h:dN w wk b mb D sel num mx X Y\/yh w wk b mb D O):∃g c3 c4 c5 c6 c7 c8 c9,ah w wk (Jp b mb (3+D.nodes.length) g c3 c4 c5 c6 c7 c8 c9) 75:=by
 rcases h with h|h
 ·obtain⟨g,hb⟩:=h.F9.bb;exact⟨_,_,_,_,_,_,_,_,hb.aD⟩
 ·cases h with
  | full _ h=>obtain⟨g,hb⟩:=h.bb;exact⟨_,_,_,_,_,_,_,_,hb.aD⟩
  | Gf _ h=>obtain⟨g,hb⟩:=h.bb;exact⟨_,_,_,_,_,_,_,_,hb.aD⟩
end
section
variable {w:World}{b mb gn cap:Nat}{kv nv rv tv pv:Value}{rl top:List Nat}{U:Nat->Nat->Value}{T:List (List Nat)}{D:fo}{sel:List Nat->Bool}{aj:List Nat}{F:Nat->Prop}{num:Bool}{mx:Int}{R:gz}{X Y Z:List Nat}{wk:Nat}
theorem Qo(h0:0<=mx)(hI:nw w b mb gn cap kv nv rv tv pv rl top U T D sel aj F num mx R X){s:Nat}(hs:s<256+T.length)(QW:s≠10)(hX:X=Y++af T s++Z)(hA:dN w wk b mb D sel num mx X Y)(ft:∀w',Kept [wk] w w'->mj w')
 (ih:∀s',s'<s->s'<256+T.length->UI b mb gn cap kv nv rv tv pv rl top U T D sel aj F num mx R X wk s'):
 Calls Tryz.prog 33 #[.pointer (some ⟨wk,0,none⟩),.int .i64 (s:Int)] w fun e w'=>e=.returned (.tuple #[])/\Kept [wk] w w'/\(dN w' wk b mb D sel num mx X (Y++af T s)\/yh w' wk b mb D (jL num X (fp mx (tJ sel X)))):=by
 have YZ:=hI.Jh;have hYX:Y.length+(af T s).length<=1099511627776:=by
  have:X.length=Y.length+(af T s).length+Z.length:=by rw[hX,List.length_append,List.length_append]
  omega
 have cY:=ny Y;have ix:=me Y;have Lo:=Gg num X _ hA.small;have hnl:oL (af T s)<=(af T s).length:=List.length_filter_le _ _;have htll:=Ia (af T s);have Wz:Hid (Calls Tryz.prog 65 #[.pointer (some ⟨wk,0,none⟩),.int .i64 (s:Int)] w _):=Mc hI.G hI.L hI.T1 hI.M hI.R1 hI.n hI.s hA.F9 hs (by omega) (fun c hc=>hI.byte c (by rw[hX];simp[hc])) (fun c hc=>hI.byte c (by rw[hX];simp[wT hc]));obtain⟨g,hb⟩:=hA.F9.bb;have iI:Hid (jg _ _ _ _ _ _ _ _ _ _ _ _ _ _):=hb;have cC:Hid (∀w',Kept [wk] w w'->nw w' b mb gn cap kv nv rv tv pv rl top U T D sel aj F num mx R X):=fun w' k=>hI.gW k hb.aD;have b8:Hid (∃f,∀w',Kept [wk] w w'->ah w' g (ar (3+D.nodes.length) f) 4/\SF D.nodes.length f=gh D (aH Y) (l8 0)):=by
  obtain⟨f,h1,h2⟩:=hb.row;exact⟨f,fun w' k=>⟨pO h1 k hb.aD (by decide),h2⟩⟩
 have Nz:Hid (∀w',Kept [wk] w w'->mj w'):=ft;have wZ:Hid (dN _ _ _ _ _ _ _ _ _ _):=hA;have wW:Hid (X=_):=hX;have Yu:Hid (∀s',s'<s->s'<256+T.length->UI b mb gn cap kv nv rv tv pv rl top U T D sel aj F num mx R X wk s'):=ih;have KA:=hI.T1;have hrs:=hI.rs;have Xb:Hid (gD _ _ _):=hrs;have yw:Hid ((aq (af T s)).aV=(af T s).length):=jx (by omega);have kY:Hid ((aq (af T s)).ends=oL (af T s)):=jx (by omega);have YV:Hid ((aq (af T s)).tail=lf (af T s)):=jx (by omega);have hN0:s<256->((wU (aH Y) (af T s)).filter sel).length=0:=fun h=>by
  have e:af T s=[s]:=if_pos h;rw[e,oj,if_pos (yd QW)];rfl
 obtain⟨N,hNe⟩:∃N,N=((wU (aH Y) (af T s)).filter sel).length:=⟨_,rfl⟩;rw[<-hNe]at hN0;have hNH:Hid (N=_):=hNe;have hne10:((s:Int)==10)=false:=beq_eq_false_iff_ne.2 (by omega);obtain⟨q0,q1,q2,q3,q4,q5,q6,q7,q8,q9,ql,qf⟩:=fE hb.aD;clear qf q0 q1 q3 q4 q5 q6 q7 hb hA hI ft hX ih QW hNe hrs;go_enter Tryz.func33,Tryz.ntmps33
 go_wp2_with fail
 refine Wz.out.mono ?_;rintro _ w2 ⟨Iq,oC,k2⟩;rw[<-hNH.out]at Iq;subst Iq;obtain⟨g2,jm⟩:=oC.bb;have B2:Hid (jg _ _ _ _ _ _ _ _ _ _ _ _ _ _):=jm;have K2:Hid (Kept [wk] w w2):=k2;have ML:=cC.out w2 k2;obtain⟨⟨x3,y3,z3⟩,⟨x4,y4,z4⟩,c5,ji⟩:=JP.size ⟨ML.G,ML.L.kn⟩ KA s hs;have Qp:Hid (Calls _ _ _ w2 _):=ji w2 (Kept.refl _ _);unfold nt fF at Qp;simp only[]at Qp;rw[yw.out,kY.out,YV.out]at Qp;clear ji ML oC jm k2 Wz q2 q8 q9 ql;obtain⟨q0,q1,q2,q3,q4,q5,q6,q7,q8,q9,ql,qf⟩:=fE B2.out.aD;clear qf q1 q2 q3 q4 q5 q6 q7 q8 q9;obtain⟨L,hL⟩:∃L,L=(af T s).length:=⟨_,rfl⟩;obtain⟨E,hE⟩:∃E,E=oL (af T s):=⟨_,rfl⟩;obtain⟨V,hV⟩:∃V,V=lf (af T s):=⟨_,rfl⟩;rw[<-hL,<-hE,<-hV]at Qp;rw[<-hL]at hYX hnl htll;rw[<-hE]at hnl;rw[<-hV]at htll;have hLEV:Hid (L=(af T s).length/\E=oL (af T s)/\V=lf (af T s)):=⟨hL,hE,hV⟩;clear hL hE hV yw kY YV;go_wp2_with fail
 refine Qp.out.mono ?_;rintro _ w3 ⟨rfl,k3⟩;have B3:Hid (jg _ _ _ _ _ _ _ _ _ _ _ _ _ _):=B2.out.kept k3;have K3:Hid (Kept [wk] w w3):=K2.out.trans (k3.mono (by simp));clear k3 q0 ql B2 K2 Qp;go_upto_region 8 with fail
 obtain⟨w4,Vw⟩:∃x,x=w3.alloc (.cells #[.int .i64 (L:Int),.int .i64 (E:Int),.int .i64 (V:Int),.slice x3 y3 z3,.slice x4 y4 z4,.int .i64 (c5:Int)] 122):=⟨_,rfl⟩;rw[<-Vw];have B4:Hid (jg w4 wk b mb D (.int .i64 (Y.length:Int)) (.int .i64 ((dW (ax Y):Nat):Int)) (.int .i64 (((ax Y).length:Nat):Int)) (.int .i64 (((lC sel Y).length:Nat):Int)) (.string (nC num X (lC sel Y))) (.bool false) (.bool false) (gh D (fv (aH Y) (af T s)).2 (l8 0)) g2):=by
  show jg _ _ _ _ _ _ _ _ _ _ _ _ _ _;rw[Vw];exact B3.out.kept ((Kept.refl [] w3).alloc _)
 have K4:Hid (Kept [wk] w w4):=by
  show Kept _ _ _;rw[Vw];exact K3.out.alloc _
 have P4:Hid (ah w4 w3.heap.size #[.int .i64 (L:Int),.int .i64 (E:Int),.int .i64 (V:Int),.slice x3 y3 z3,.slice x4 y4 z4,.int .i64 (c5:Int)] 122):=by
  show ah _ _ _ _;rw[Vw];exact ah.new w3 _ _
 have hpl3:Hid (wk<w3.heap.size):=B3.out.lt;clear Vw B3 K3;by_cases hN:0<N
 ·have hN':(0:Int)<(N:Int):=by omega
  have h256:256<=s:=by
   apply Classical.byContradiction;intro hc;have:=hN0 (by omega);omega
  obtain⟨i,rfl⟩:∃i,s=i+256:=⟨s-256,by omega⟩;clear hN hN0 hNH hLEV P4 hpl3 hnl htll cY ix Lo;obtain⟨q0,q1,q2,q3,q4,q5,q6,q7,q8,q9,ql,qf⟩:=fE B4.out.aD;have qf2:=qf 2;clear qf q0 q1 q3 q4 q5 q6 q7 q8 q9;go_upto_region 10 with fail
  obtain⟨w5,Q1⟩:∃x,x=w4.setCell ⟨wk,2,none⟩ (.slice (some ⟨g,0,none⟩) (3+D.nodes.length) (3+D.nodes.length)):=⟨_,rfl⟩;rw[<-Q1];have K5:Hid (Kept [wk] w w5):=by
   show Kept _ _ _;rw[Q1];exact K4.out.setCell (Or.inl (by simp)) _
  have A5:Hid (dN w5 wk b mb D sel num mx X Y):=by
   show dN _ _ _ _ _ _ _ _ _ _;obtain⟨f,hf⟩:=b8.out;obtain⟨Vk,DR⟩:=hf w4 K4.out;refine⟨?_,wZ.out.small,wZ.out.X8⟩;rw[Q1];exact(B4.out.put Vk DR).F9
  obtain⟨u1,u2,u3⟩:=Xb.out.uy i (by omega);obtain⟨ra,W3⟩:∃ra,ra=rl.getD (2*i) 0:=⟨_,rfl⟩;obtain⟨rb,qD⟩:∃rb,rb=rl.getD (2*i+1) 0:=⟨_,rfl⟩;have wv:=Xb.out.len;have Kx:Hid (af T (i+256)=af T ra++af T rb):=by
   show _=_;rw[W3,qD,<-u3];unfold af;rw[if_neg (by omega),Nat.add_sub_cancel]
  rw[<-W3]at u1;rw[<-qD]at u2;obtain⟨gr,rcap,hv⟩:=aO (cC.out w (Kept.refl _ _)).G.rules (by omega);have fI:Hid (∀w',Kept [wk] w w'->w'.cell? ⟨gr,2*i,none⟩=some (.int .i64 (ra:Int))/\w'.cell? ⟨gr,2*i+1,none⟩=some (.int .i64 (rb:Int))/\w'.cell? ⟨b,2,none⟩=some rv):=fun w' k=>by
   have hG:=(cC.out w' k).G;refine⟨?_,?_,hG.aD.cell 2⟩
   ·have:=hG.rules.cells (g:=gr) (by rw[hv];rfl) (2*i) _ (eV rl (2*i) (by omega));rw[cK]at this;rw[this,W3]
   ·have:=hG.rules.cells (g:=gr) (by rw[hv];rfl) (2*i+1) _ (eV rl (2*i+1) (by omega));rw[cK]at this;rw[this,qD]
  rw[hv]at fI;have hA1:Hid (Calls Tryz.prog 33 #[.pointer (some ⟨wk,0,none⟩),.int .i64 (ra:Int)] w5 _):=Yu.out ra (by omega) (by omega) w5 Y (af T rb++Z) (cC.out w5 K5.out) (by rw[wW.out,Kx.out];simp only[List.append_assoc]) (Or.inl A5.out) (fun w' k=>Nz.out w' (K5.out.trans k));have lR:Hid (∀w6,Kept [wk] w w6->(dN w6 wk b mb D sel num mx X (Y++af T ra)\/yh w6 wk b mb D (jL num X (fp mx (tJ sel X))))->Calls Tryz.prog 33 #[.pointer (some ⟨wk,0,none⟩),.int .i64 (rb:Int)] w6 fun e w'=>e=.returned (.tuple #[])/\Kept [wk] w6 w'/\(dN w' wk b mb D sel num mx X (Y++af T (i+256))\/yh w' wk b mb D (jL num X (fp mx (tJ sel X))))):=fun w6 k h=>by
   have h:=Yu.out rb (by omega) (by omega) w6 (Y++af T ra) Z (cC.out w6 k) (by rw[wW.out,Kx.out];simp only[List.append_assoc]) h (fun w' k'=>Nz.out w' (k.trans k'));rw[List.append_assoc,<-Kx.out]at h;exact h
  have hrl2:(2*i:Int)+1<(rl.length:Int):=by omega
  obtain⟨g5,eY⟩:=A5.out.F9.bb;clear q2 ql qf2 Q1 B4 K4 A5 b8 Xb Yu wZ wW Kx cC Nz iI W3 qD u1 u2 u3 hv;obtain⟨q0,q1,q2,q3,q4,q5,q6,q7,q8,q9,ql,qf⟩:=fE eY.aD;clear qf q1 q2 q3 q4 q5 q6 q7 q8 q9 eY;obtain⟨r0,r1,rc⟩:=fI.out w5 K5.out;generalize rl.length=RL at *;clear wv;go_wp2_with fail
  refine hA1.out.mono ?_;rintro _ w6 ⟨rfl,k6,h6⟩;have K6:Hid (Kept [wk] w w6):=K5.out.trans k6;obtain⟨g6,c3,c4,c6,c7,c8,c9,c10,ud⟩:=UK h6;have lE:Hid (Calls _ _ _ w6 _):=lR.out w6 K6.out h6;clear q0 ql r0 r1 rc hA1 lR K5 k6 h6;obtain⟨q0,q1,q2,q3,q4,q5,q6,q7,q8,q9,ql,qf⟩:=fE ud;clear qf q1 q2 q3 q4 q5 q6 q7 q8 q9 ud;obtain⟨r0,r1,rc⟩:=fI.out w6 K6.out;go_wp2_with fail
  refine lE.out.mono ?_;rintro _ w7 ⟨rfl,k7,h7⟩;have K7:Hid (Kept [wk] w w7):=K6.out.trans k7;have h7H:Hid (_\/_):=h7;clear q0 ql r0 r1 rc lE K6 k7 h7 fI;go_wp2
  exact bodyPost_ret (v:=.tuple #[]) (by simp[results,Tryz.results33,go_sem]) rfl ⟨rfl,K7.out,h7H.out⟩
 ·obtain rfl:N=0:=by omega
  have NC:Hid (∀w',mh w' wk b mb D (.int .i64 ((Y.length:Int)+(L:Int))) (.int .i64 (if E=0 then ((dW (ax Y):Nat):Int) else (Y.length:Int)+(L:Int)-(V:Int))) (.int .i64 (((ax Y).length:Int)+(E:Int))) (.int .i64 (((lC sel Y).length:Nat):Int)) (.string (nC num X (lC sel Y))) (.bool false) (.bool false) (gh D (fv (aH Y) (af T s)).2 (l8 0))->dN w' wk b mb D sel num mx X (Y++af T s)):=fun w' h=>by
   obtain⟨e1,e2,e3⟩:=hLEV.out;rw[e1,e2,e3]at h;exact wZ.out.over hNH.out.symm h
  clear hN hN0 Yu Xb Nz cC b8 iI wZ wW hNH hLEV Lo;generalize dW (ax Y)=OF at *;generalize (ax Y).length=CL at *;generalize Y.length=YL at *;generalize (lC sel Y).length=GL at *;obtain⟨q0,q1,q2,q3,q4,q5,q6,q7,q8,q9,ql,qf⟩:=fE B4.out.aD;have qf3:=qf 3;clear qf q0 q1 q2 q4 q5 q6 q7 q8 q9;have p0:w4.cell? ⟨w3.heap.size,0,none⟩=some (.int .i64 (L:Int)):=P4.out.cell 0;have pl:=P4.out.lt;go_wp2_with fail
  go_region
  obtain⟨w5,Q1⟩:∃x,x=(w4.setCell ⟨wk,3,none⟩ (.int .i64 ((YL:Int)+(L:Int)))).drew:=⟨_,rfl⟩;rw[<-Q1];have B5:Hid (jg w5 wk b mb D (.int .i64 ((YL:Int)+(L:Int))) (.int .i64 (OF:Int)) (.int .i64 (CL:Int)) (.int .i64 (GL:Int)) (.string (nC num X (lC sel Y))) (.bool false) (.bool false) (gh D (fv (aH Y) (af T s)).2 (l8 0)) g2):=by
   show jg _ _ _ _ _ _ _ _ _ _ _ _ _ _;rw[Q1];exact(B4.out.set3 _).kept ((Kept.refl [] _).drew)
  have K5:Hid (Kept [wk] w w5):=by
   show Kept _ _ _;rw[Q1];exact(K4.out.setCell (Or.inl (by simp)) _).drew
  have P5:Hid (ah w5 w3.heap.size #[.int .i64 (L:Int),.int .i64 (E:Int),.int .i64 (V:Int),.slice x3 y3 z3,.slice x4 y4 z4,.int .i64 (c5:Int)] 122):=by
   show ah _ _ _ _;rw[Q1];exact(P4.out.other _ _ (by have:=hpl3.out;omega)).kept ((Kept.refl [] _).drew) (by simp)
  clear q3 ql qf3 p0 pl Q1 B4 K4 P4;obtain⟨q0,q1,q2,q3,q4,q5,q6,q7,q8,q9,ql,qf⟩:=fE B5.out.aD;have qf5:=qf 5;clear qf q0 q1 q2 q3 q4 q6 q7 q8 q9;have p1:w5.cell? ⟨w3.heap.size,1,none⟩=some (.int .i64 (E:Int)):=P5.out.cell 1;have pl:=P5.out.lt;go_wp2_with fail
  go_region
  obtain⟨w6,hw6⟩:∃x,x=(w5.setCell ⟨wk,5,none⟩ (.int .i64 ((CL:Int)+(E:Int)))).drew:=⟨_,rfl⟩;rw[<-hw6];have B6:Hid (jg w6 wk b mb D (.int .i64 ((YL:Int)+(L:Int))) (.int .i64 (OF:Int)) (.int .i64 ((CL:Int)+(E:Int))) (.int .i64 (GL:Int)) (.string (nC num X (lC sel Y))) (.bool false) (.bool false) (gh D (fv (aH Y) (af T s)).2 (l8 0)) g2):=by
   show jg _ _ _ _ _ _ _ _ _ _ _ _ _ _;rw[hw6];exact(B5.out.set5 _).kept ((Kept.refl [] _).drew)
  have K6:Hid (Kept [wk] w w6):=by
   show Kept _ _ _;rw[hw6];exact(K5.out.setCell (Or.inl (by simp)) _).drew
  have P6:Hid (ah w6 w3.heap.size #[.int .i64 (L:Int),.int .i64 (E:Int),.int .i64 (V:Int),.slice x3 y3 z3,.slice x4 y4 z4,.int .i64 (c5:Int)] 122):=by
   show ah _ _ _ _;rw[hw6];exact(P5.out.other _ _ (by have:=hpl3.out;omega)).kept ((Kept.refl [] _).drew) (by simp)
  clear q5 ql qf5 p1 pl hw6 B5 K5 P5;obtain⟨q0,q1,q2,q3,q4,q5,q6,q7,q8,q9,ql,qf⟩:=fE B6.out.aD;have qf4:=qf 4;clear qf q0 q1 q2 q5 q6 q7 q8 q9;have p1:w6.cell? ⟨w3.heap.size,1,none⟩=some (.int .i64 (E:Int)):=P6.out.cell 1;have p2:w6.cell? ⟨w3.heap.size,2,none⟩=some (.int .i64 (V:Int)):=P6.out.cell 2;have pl:=P6.out.lt;by_cases hE0:E=0
  ·subst hE0;have aA:=NC.out w6 (by rw[if_pos rfl];exact B6.out.F9);have Ew:Hid (dN _ _ _ _ _ _ _ _ _ _):=aA;clear NC aA B6 P6;go_wp2
   first
   | (go_end0;exact⟨rfl,K6.out,Or.inl Ew.out⟩)
   | exact bodyPost_ret (v:=.tuple #[]) (by simp[results,Tryz.results33,go_sem]) rfl ⟨rfl,K6.out,Or.inl Ew.out⟩
  ·have hE1:(0:Int)<(E:Int):=by omega
   have aA:=NC.out ((w6.setCell ⟨wk,4,none⟩ (.int .i64 ((YL:Int)+(L:Int)-(V:Int)))).drew) (by rw[if_neg hE0];exact((B6.out.So _).kept ((Kept.refl [] _).drew)).F9);have Ew:Hid (dN _ _ _ _ _ _ _ _ _ _):=aA;have CG:Hid (Kept [wk] w ((w6.setCell ⟨wk,4,none⟩ (.int .i64 ((YL:Int)+(L:Int)-(V:Int)))).drew)):=(K6.out.setCell (Or.inl (by simp)) _).drew;clear NC aA B6 P6 K6 hE0;go_wp2_with fail
   go_region
   go_wp2
   go_end0;exact⟨rfl,CG.out,Or.inl Ew.out⟩
theorem Ex(h0:0<=mx):∀(k s:Nat),s<k->s<256+T.length->UI b mb gn cap kv nv rv tv pv rl top U T D sel aj F num mx R X wk s
 | 0,s,hk,_=>by omega
 | k+1,s,hk,hs=>fun w Y Z hI hX hA ft=>by
   rcases hA with hA|hA
   ·by_cases QW:s=10
    ·subst QW;have e:af T 10=[10]:=if_pos (by omega);rw[e]at hX ⊢;exact UJ h0 hI hX hA ft
    ·exact Qo h0 hI hs QW hX hA ft (fun s' h1 h2=>Ex h0 k s' (by omega) h2)
   ·refine(Mj hA _).mono ?_;rintro e w' ⟨rfl,rfl⟩;exact⟨rfl,Kept.refl _ _,Or.inr hA⟩
end
structure UL (w:World)(wk b mb:Nat)(D:fo)(O:ByteArray×Bool):Prop where
 ex:∃g c3 c4 c5 c6 c7 f8 c9,ah w wk (Jp b mb (3+D.nodes.length) g c3 c4 c5 c6 c7 (.bool f8) c9) 75/\((f8=true/\O=(⟨#[]⟩,false))\/(f8=false/\∃B,c7=.string B/\O=(B,true)))
structure X9 (w:World)(wk b mb:Nat)(D:fo)(sel:List Nat->Bool)(num:Bool)(mx:Int)(X:List Nat)(O:ByteArray×Bool)(g:Nat)(a3 a4:Int)(c5 c6 c7:Value)(f8 f9:Bool):Prop where
 aD:ah w wk (Jp b mb (3+D.nodes.length) g (.int .i64 a3) (.int .i64 a4) c5 c6 c7 (.bool f8) (.bool f9)) 75
 on:a4<a3/\f8=false/\f9=false->dN w wk b mb D sel num mx X X/\aH X≠[]
 off:¬(a4<a3/\f8=false/\f9=false)->UL w wk b mb D O
section
variable {w w':World}{wk b mb:Nat}{D:fo}{sel:List Nat->Bool}{num:Bool}{mx:Int}{X:List Nat}
theorem dN.start{g:Nat}(h0:0<=mx)(h:mh w wk b mb D (.int .i64 0) (.int .i64 0) (.int .i64 0) (.int .i64 0) (.string ⟨#[]⟩) (.bool false) (.bool false) (l8 0)):dN w wk b mb D sel num mx X []:=
 ⟨h,Nat.zero_le _,by show mx=0\/((0:Nat):Int)<mx;omega⟩
theorem dN.done(h0:0<=mx)(h:dN w wk b mb D sel num mx X X)(hr:aH X=[]):UL w wk b mb D (jL num X (fp mx (tJ sel X))):=by
 obtain⟨g,hb⟩:=h.F9.bb;have e:tJ sel X=lC sel X:=by rw[Cp,if_pos hr]
 have hf:=h.X8;refine⟨g,_,_,_,_,_,false,_,hb.aD,Or.inr ⟨rfl,_,rfl,?_⟩⟩;rw[<-e];exact Ge (by rw[e];omega) (by rw[e];exact h.small)
theorem UM(h0:0<=mx)(hA:dN w wk b mb D sel num mx X X)(hr:aH X≠[])
 (h:oI w' wk b mb D X.length (dW (ax X)) (ax X).length (lC sel X).length (nC num X (lC sel X)) mx (sel (aH X)) (nC num X (lC sel X)++zT num X ⟨(ax X).length+1,dW (ax X),X.length⟩)):UL w' wk b mb D (jL num X (fp mx (tJ sel X))):=by
 have pM:=UH (sel:=sel) X;have e:tJ sel X=lC sel (X++[10]):=by rw[Cp,if_neg hr]
 have hf:=hA.X8;cases h with
 | no hy hw=>
   rw[if_neg (by rw[hy];decide),List.append_nil]at pM;obtain⟨g,hb⟩:=hw.bb;have e2:tJ sel X=lC sel X:=by rw[e,pM]
   refine⟨g,_,_,_,_,_,false,_,hb.aD,Or.inr ⟨rfl,_,rfl,?_⟩⟩;rw[<-e2];exact Ge (by rw[e2];omega) (by rw[e2];exact hA.small)
 | full hy hb hw=>
   rw[if_pos hy]at pM;have hs:nC num X (lC sel (X++[10]))=nC num X (lC sel X)++zT num X ⟨(ax X).length+1,dW (ax X),X.length⟩:=by rw[pM];exact ss _ _ _ _
   have hl:(lC sel (X++[10])).length=(lC sel X).length+1:=by rw[pM];simp
   obtain⟨g,zW⟩:=hw.bb;exact⟨g,_,_,_,_,_,true,_,zW.aD,Or.inl ⟨rfl,Jq (A:=lC sel (X++[10])) (M:=[]) (by rw[e,List.append_nil]) (by rw[hl];omega) h0 (by rw[hs];exact hb)⟩⟩
 | more hy hb hw=>
   rw[if_pos hy]at pM;have hs:nC num X (lC sel (X++[10]))=nC num X (lC sel X)++zT num X ⟨(ax X).length+1,dW (ax X),X.length⟩:=by rw[pM];exact ss _ _ _ _
   have hl:(lC sel (X++[10])).length=(lC sel X).length+1:=by rw[pM];simp
   rw[<-hs]at hw hb;obtain⟨g,zW⟩:=hw.bb;refine⟨g,_,_,_,_,_,false,_,zW.aD,Or.inr ⟨rfl,_,rfl,?_⟩⟩;rw[<-e];exact Ge (by rw[e,hl];omega) (by rw[e];exact hb)
theorem UN(h0:0<=mx)(h:dN w wk b mb D sel num mx X X\/yh w wk b mb D (jL num X (fp mx (tJ sel X)))):
 ∃g a3 a4 c5 c6 c7 f8 f9,X9 w wk b mb D sel num mx X (jL num X (fp mx (tJ sel X))) g a3 a4 c5 c6 c7 f8 f9:=by
 rcases h with h|h
 ·obtain⟨g,hb⟩:=h.F9.bb;have ho:=ny X;refine⟨g,_,_,_,_,_,false,false,hb.aD,fun hc=>⟨h,fun hr=>?_⟩,fun hc=>h.done h0 ?_⟩
  ·rw[hr]at ho;simp at ho;omega
  ·apply Classical.byContradiction;intro hr;have:=List.length_pos_iff.2 hr;exact hc ⟨by omega,rfl,rfl⟩
 ·cases h with
  | full ho hw=>
    obtain⟨g,hb⟩:=hw.bb;exact⟨g,_,_,_,_,_,true,false,hb.aD,fun hc=>(by cases hc.2.1),fun _=>⟨g,_,_,_,_,_,true,_,hb.aD,Or.inl ⟨rfl,ho⟩⟩⟩
  | Gf ho hw=>
    obtain⟨g,hb⟩:=hw.bb;exact⟨g,_,_,_,_,_,false,true,hb.aD,fun hc=>(by cases hc.2.2),fun _=>⟨g,_,_,_,_,_,false,_,hb.aD,Or.inr ⟨rfl,_,rfl,ho⟩⟩⟩
end
theorem Jr{p f:ByteArray}{x:Int}(hx:x≠0){inv fold whole num:Bool}{mx:Int}
 (hbg:∀w',Calls Tryz.prog 32 #[.agg #[.bool inv,.bool fold,.bool whole,.bool num,.int .i64 mx],.string p,.string f] w' fun e qS=>e=.returned (.tuple #[.pointer none,.int .i64 x])/\Below w'.heap.size w' qS) (w:World):
 Calls Tryz.prog 10 #[.agg #[.bool inv,.bool fold,.bool whole,.bool num,.int .i64 mx],.string p,.string f] w fun e w'=>e=.returned (.tuple #[.string ⟨#[]⟩,.int .i64 x])/\Below w.heap.size w w':=by
 have iI:Hid (∀w',_):=hbg;have sJ:Hid (Below w.heap.size w (w.alloc (.cells #[.bool inv,.bool fold,.bool whole,.bool num,.int .i64 mx] 23))):=(Below.refl _ w).alloc (Nat.le_refl _) _;have cne:(x != 0)=true:=by simp[hx]
 clear hbg;go_enter Tryz.func10,Tryz.ntmps10
 go_wp2_with fail
 refine(iI.out _).mono ?_;rintro e w1 ⟨rfl,b1⟩;have lR:Hid (Below w.heap.size w w1):=sJ.out.trans (b1.mono (by simp));clear b1 iI sJ;go_wp2
 go_ret2;exact⟨rfl,lR.out⟩
theorem UO{w:World}{inv fold whole num:Bool}{mx:Int}{p f:ByteArray}{D:fo}{sel:List Nat->Bool}{X:List Nat}(tV:0<=mx)(ft:mj w)
 (hbg:∀w',Calls Tryz.prog 32 #[.agg #[.bool inv,.bool fold,.bool whole,.bool num,.int .i64 mx],.string p,.string f] w' fun e qS=>Uu w' qS e D sel num mx X):
 Calls Tryz.prog 10 #[.agg #[.bool inv,.bool fold,.bool whole,.bool num,.int .i64 mx],.string p,.string f] w fun e w'=>e=.returned (.tuple #[.string (su (jL num X (fp mx (tJ sel X)))).1,.int .i64 (su (jL num X (fp mx (tJ sel X)))).2])/\Below w.heap.size w w':=by
 have iI:Hid (∀w',_):=hbg;have sJ:Hid (Below w.heap.size w (w.alloc (.cells #[.bool inv,.bool fold,.bool whole,.bool num,.int .i64 mx] 23))):=(Below.refl _ w).alloc (Nat.le_refl _) _;clear hbg;obtain⟨O,hO⟩:∃O,O=jL num X (fp mx (tJ sel X)):=⟨_,rfl⟩;rw[<-hO];have Me:Hid (O=_):=hO;clear hO;go_enter Tryz.func10,Tryz.ntmps10
 go_wp2_with fail
 refine(iI.out _).mono ?_;rintro e w1 ⟨⟨wk,b,mb,gn,cap,kv,nv,rv,tv,pv,rl,top,U,T,aj,F,R,rfl,hI,hW,hwk⟩,oV⟩;have lR:Hid (Below w.heap.size w w1):=sJ.out.trans (oV.mono (by simp));have hwk2:w.heap.size<=wk:=by simp at hwk;omega
 have hBz:Hid (∀w',Kept [wk] w1 w'->Below w.heap.size w w'):=fun w' k=>lR.out.trans (k.below lR.out.size (by simp;exact hwk2));have Rq:Hid (∀w',Kept [wk] w1 w'->mj w'):=fun w' k=>ft.kept (gZ (hBz.out w' k));have cC:Hid (nw _ _ _ _ _ _ _ _ _ _ _ _ _ _ _ _ _ _ _ _ _ _):=hI;have hA0:Hid (dN w1 wk b mb D sel num mx X []):=dN.start (g:=0) tV hW;obtain⟨gw,pU⟩:=hW.bb;have hbwH:Hid (ah w1 wk _ _):=pU.aD;obtain⟨ta,tc,rfl⟩:=qm hI.G.top;have hnl:=hI.TZ;clear iI sJ oV hI hW pU hwk ft lR hwk2;go_wp2_with fail
 go_loopw [10] (fun iv wr=>∃i:Nat,iv=.int .i64 (i:Int)/\i<=top.length/\(dN wr wk b mb D sel num mx X (ahead T top i)\/yh wr wk b mb D (jL num X (fp mx (tJ sel X))))/\Kept [wk] w1 wr) (fun iv _=>((top.length:Int)-intOf iv).toNat)
 case atStart=>exact⟨0,rfl,Nat.zero_le _,Or.inl hA0.out,Kept.refl _ _⟩
 case round=>
  obtain⟨i,rfl,hi,hAD,hk⟩:=hrel;have Q4:Hid (nw wr _ _ _ _ _ _ _ _ _ _ _ _ _ _ _ _ _ _ _ _ _):=cC.out.gW hk hbwH.out;have zi:Hid (Kept [wk] w1 wr):=hk;have UP:Hid (_\/_):=hAD;obtain⟨g,c3,c4,c5,c6,c7,c8,c9,hb⟩:=UK hAD;obtain⟨q0,q1,q2,q3,q4,q5,q6,q7,q8,q9,ql,qf⟩:=fE hb;have g3:wr.cell? ⟨b,3,none⟩=some (.slice ta top.length tc):=Q4.out.G.aD.cell 3;have gl:=Q4.out.G.aD.lt;clear hA0 hk hAD hb qf q1 q2 q3 q4 q5 q6 q7 q8 q9;by_cases bO:(i:Int)<(top.length:Int)
  ·have oC:i<top.length:=by omega
   obtain⟨gt,tcap,he⟩:=aO Q4.out.G.top (by omega);cases he;have t0:wr.cell? ⟨gt,i,none⟩=some (.int .i64 ((top.getD i 0:Nat):Int)):=by
    have:=Q4.out.G.top.cells (g:=gt) rfl i _ (eV top i oC);rwa [cK]at this
   have hm:top.getD i 0∈top:=by rw[List.getD_eq_getElem?_getD,List.getElem?_eq_getElem oC];exact List.getElem_mem oC
   have dy:=Q4.out.syms _ hm;have htx:X=ahead T top i++af T (top.getD i 0)++(top.drop (i+1)).flatMap (af T):=by
    rw[<-Co oC,Q4.out.text];unfold ahead;rw[<-List.flatMap_append,List.take_append_drop]
   have Wz:Hid (Calls Tryz.prog 33 #[.pointer (some ⟨wk,0,none⟩),.int .i64 ((top.getD i 0:Nat):Int)] wr _):=Ex tV (top.getD i 0+1) (top.getD i 0) (by omega) dy wr _ _ Q4.out htx UP.out (fun w' k=>Rq.out w' (zi.out.trans k));rw[<-Co oC]at Wz;generalize top.getD i 0=sy at *;clear Q4 htx hm dy UP;go_wp2_with fail
   refine Wz.out.mono ?_;rintro _ w2 ⟨rfl,k2,h2⟩;have K2:Hid (Kept [wk] w1 w2):=zi.out.trans k2;have Gx:Hid (_\/_):=h2;clear k2 h2 Wz q0 g3 gl ql t0;go_wp2
   refine⟨⟨i+1,by go_num,by omega,Gx.out,K2.out⟩,?_⟩;simp only[intOf];omega
  ·obtain rfl:i=top.length:=by omega
   have An:ahead T top top.length=X:=by unfold ahead;rw[List.take_length];exact Q4.out.text.symm
   rw[An]at UP;obtain⟨g2,a3,a4,d5,d6,d7,f8,f9,hFl⟩:=UN tV UP.out;rw[<-Me.out]at hFl;have Mk:Hid (X9 _ _ _ _ _ _ _ _ _ _ _ _ _ _ _ _ _ _):=hFl;obtain⟨c,hc⟩:∃c,c=(decide (a4<a3)&&(!f8&&!f9)):=⟨_,rfl⟩;have xX:Hid (c=_):=hc;clear hc hFl UP An hi;have hx:=Q4.out.Jh;have cY:=ny X;have ix:=me X;have pL:Hid (a4<a3/\f8=false/\f9=false->∀w',Kept [] wr w'->Calls Tryz.prog 34 #[.pointer (some ⟨wk,0,none⟩)] w' fun e qS=>e=.returned (.tuple #[])/\Kept [wk] w' qS/\UL qS wk b mb D O):=fun hc w' k=>by
    obtain⟨hA,hr⟩:=Mk.out.on hc;have hA':dN w' wk b mb D sel num mx X X:=⟨hA.F9.kept k,hA.small,hA.X8⟩;have hI':nw w' _ _ _ _ _ _ _ _ _ _ _ _ _ _ _ _ _ _ _ _ _:=Q4.out.gW (k.mono (by simp)) Mk.out.aD;refine(Eu hI' (fun qS k'=>Rq.out qS ((zi.out.trans (k.mono (by simp))).trans k')) (l:=aH X) (fun c hc=>hI'.byte c (wT hc)) hA'.F9 (by omega) (Nat.le_refl _) (by omega) (Gg num X _ hA'.small) hA'.small).mono ?_;rintro e qS ⟨rfl,k2,he⟩;exact⟨rfl,k2,by rw[Me.out];exact UM tV hA' hr he⟩
   obtain⟨q0',q1,q2,q3,q4,q5,q6,q7,q8,q9,ql',qf⟩:=fE Mk.out.aD;clear qf q1 q2 q5 q6 q7 q0 ql cY ix hx Q4 Rq;go_wp2_with fail
   go_cut [67] (fun s67 wx=>s67=.bool c/\∃z,z=wx/\Kept [] wr z)
   case first=>
    have kd:Hid (∀k,Kept [] wr (wr.drewN k)):=fun k=>(Kept.refl [] wr).drewN k;clear Mk pL Me zi hBz cC;by_cases E5:a4<a3
    ·have ecd:Hid (c=(!f8&&!f9)):=by show _=_;rw[xX.out,decide_eq_true E5];rfl
     clear xX;cases f8 <;> cases f9
     all_goals
      go_quiet (fail)
      try go_wp2_with fail
      go_meet;exact⟨by rw[ecd.out];rfl,_,rfl,by first | exact kd.out _ | exact(Kept.refl [] wr).drew | exact(((Kept.refl [] wr).drewN _).drew)⟩
    ·have ecd:Hid (c=false):=by show _=_;rw[xX.out,decide_eq_false E5];rfl
     clear xX;go_quiet (fail)
     try go_wp2_with fail
     go_meet;exact⟨by rw[ecd.out],_,rfl,by first | exact kd.out _ | exact(Kept.refl [] wr).drew | exact(((Kept.refl [] wr).drewN _).drew)⟩
   case rest=>
    obtain⟨rfl,w8,Lm,k8⟩:=hcut;subst Lm;have WA:Hid (Kept [] wr w8):=k8;have K8:Hid (Kept [wk] w1 w8):=zi.out.trans (k8.mono (by simp));clear k8 q0' q3 q4 q8 q9 ql' g3 gl;by_cases vj:a4<a3/\f8=false/\f9=false
    ·have ec:c=true:=by rw[xX.out,decide_eq_true vj.1,vj.2.1,vj.2.2];rfl
     subst ec;have he8:Hid (Calls _ _ _ w8 _):=pL.out vj w8 WA.out;clear xX pL vj Mk WA;go_wp2_with fail
     refine he8.out.mono ?_;rintro _ w9 ⟨rfl,k9,aA⟩;have GF:Hid (Below w.heap.size w w9):=hBz.out w9 (K8.out.trans k9);clear k9 K8 he8 hBz Me;obtain⟨g9,e3,e4,e5,e6,e7,f9',e9,hb9,tL⟩:=aA.ex;obtain⟨q0,q1,q2,q3,q4,q5,q6,q7,q8,q9,ql,qf⟩:=fE hb9;clear qf q0 q1 q2 q3 q4 q5 q6 q9 hb9 aA;rcases tL with⟨rfl,ho⟩|⟨rfl,B,rfl,ho⟩
     ·have e:Hid (su O=(⟨#[]⟩,7)):=by show _=_;rw[ho];rfl
      clear ho q7;go_wp2
      go_ret2;rw[e.out];exact⟨rfl,GF.out⟩
     ·have e:Hid (su O=(B,0)):=by show _=_;rw[ho];rfl
      clear ho;go_wp2
      go_ret2;rw[e.out];exact⟨rfl,GF.out⟩
    ·have ec:c=false:=by
      rw[xX.out];cases hd:decide (a4<a3) with
      | false=>rfl
      | true=>
        cases f8
        ·cases f9
         ·exact absurd ⟨of_decide_eq_true hd,rfl,rfl⟩ vj
         ·rfl
        ·rfl
     subst ec;have aA:=Mk.out.off vj;obtain⟨g9,e3,e4,e5,e6,e7,f9',e9,oX,tL⟩:=aA.ex;have aA:UL w8 wk b mb D O:=⟨g9,e3,e4,e5,e6,e7,f9',e9,oX.kept WA.out (by simp),tL⟩;have GF:Hid (Below w.heap.size w w8):=hBz.out w8 K8.out;clear xX pL vj Mk WA oX tL K8 hBz Me;obtain⟨g9,e3,e4,e5,e6,e7,f9',e9,hb9,tL⟩:=aA.ex;obtain⟨q0,q1,q2,q3,q4,q5,q6,q7,q8,q9,ql,qf⟩:=fE hb9;clear qf q0 q1 q2 q3 q4 q5 q6 q9 hb9 aA;rcases tL with⟨rfl,ho⟩|⟨rfl,B,rfl,ho⟩
     ·have e:Hid (su O=(⟨#[]⟩,7)):=by show _=_;rw[ho];rfl
      clear ho q7;go_wp2
      go_ret2;rw[e.out];exact⟨rfl,GF.out⟩
     ·have e:Hid (su O=(B,0)):=by show _=_;rw[ho];rfl
      clear ho;go_wp2
      go_ret2;rw[e.out];exact⟨rfl,GF.out⟩
theorem Qq:(Tryz.prog.info? 190).map (fun i=>(i.zero,i.size,i.bytes)) =
 some (some (.agg #[.int .i64 0,.pointer none,.int .i64 0,.int .i64 0]),4,32):=by kernel_rfl
structure Qr where
 inv:Bool
 fold:Bool
 whole:Bool
 num:Bool
 mx:Int
structure MC (w:World)(base mb:Nat)(oc:Qr)(st:Int)(aj:List Nat)(N:List DN)(nv:Value):Prop where
 aD:ah w mb #[.bool oc.inv,.bool oc.fold,.bool oc.whole,.bool oc.num,.int .i64 oc.mx,nv,.int .i64 st] 127
 low:base<=mb
 row:w.ownsRow base 190 4 nv N.length (np aj N)
section
variable {w w':World}{base mb:Nat}{oc:Qr}{st:Int}{aj:List Nat}{N:List DN}{nv:Value}
theorem MC.kept(h:MC w base mb oc st aj N nv)(k:Kept [] w w'):MC w' base mb oc st aj N nv:=
 ⟨h.aD.kept k (by simp),h.low,aQ (S:=[]) h.row k (fun _ _=>by simp)⟩
theorem MC.up(h:MC w base mb oc st aj N nv):base<=w.heap.size:=by have:=h.aD.lt;have:=h.low;omega
theorem MC.push(h:MC w base mb oc st aj N nv)(g:w.grownBy w' nv.ownBlock){v':Value}{x:DN}(aG:w'.ownsRow base 190 4 v' (N.length+1) (np aj N++du aj x)):
 w'.cell? ⟨mb,5,none⟩=some nv/\w'.frozen? ⟨mb,5,none⟩=false/\mb<w'.heap.size/\MC (w'.setCell ⟨mb,5,none⟩ v') base mb oc st aj (N++[x]) v'/\Below base w (w'.setCell ⟨mb,5,none⟩ v'):=by
 have hb:ah w' mb _ _:=nr h.row g h.aD (by decide);have fx:v'.ownBlock≠some mb:=fun hc=>absurd (lk aG hb hc) (by decide);refine⟨hb.cell 5,hb.frozen 5,hb.lt,⟨hb.set 5 v',h.low,?_⟩,?_⟩
 ·rw[LU,List.length_append];exact ownsRow_setCell_other aG fx _
 ·exact Below.setCell ⟨g.os,g.tape,g.output,g.size,fun k hk=>g.block k (Nat.lt_of_lt_of_le hk h.up) (fun hc=>by have:=(h.row.lt k hc.symm).1;omega)⟩ h.low _
end
def Cq(aj:List Nat)(x:DN):Value:=if x.kind<=3 then ptrTo aj x.part else .pointer none
theorem Qs(aj:List Nat)(x:DN):∃pa,Cq aj x=.pointer pa:=by
 unfold Cq;split
 ·exact⟨_,rfl⟩
 ·exact⟨_,rfl⟩
structure Js (w w':World)(e:Ending)(base mb:Nat)(oc:Qr)(st:Int)(aj:List Nat)(s:jO):Prop where
 ret:e=.returned (.int .i64 (s.1:Int))
 below:Below base w w'
 mc:∃nv,MC w' base mb oc st aj s.2 nv
theorem yi{w:World}{base mb:Nat}{oc:Qr}{st:Int}{aj:List Nat}{N:List DN}{nv:Value}(h:MC w base mb oc st aj N nv)(hN:N.length<=1000000)(x:DN):
 Calls Tryz.prog 109 #[.pointer (some ⟨mb,0,none⟩),.agg #[.int .i64 x.kind,Cq aj x,.int .i64 (x.next:Int),.int .i64 (x.other:Int)]] w fun e w'=>Js w w' e base mb oc st aj (N.length,N++[x]):=by
 obtain⟨i0,kQ,jh,dP,dB⟩:=info_parts Qq;obtain⟨pa,qU⟩:=Qs aj x;have hnc:Hid (du aj x=[.int .i64 x.kind,.pointer pa,.int .i64 (x.next:Int),.int .i64 (x.other:Int)]):=by
  show _=_;unfold du;have:(if x.kind<=3 then ptrTo aj x.part else Value.pointer none)=.pointer pa:=qU;rw[this]
 rw[qU];have c5:w.cell? ⟨mb,5,none⟩=some nv:=h.aD.cell 5;have Q0:=h.aD.lt;have hH:Hid (MC _ _ _ _ _ _ _ _):=h;have ow:∀o1 o2,((w.alloc o1).alloc o2).ownsRow base 190 4 nv N.length (np aj N):=fun o1 o2=>(h.row.alloc o1).alloc o2;have up:∀o1 o2,base<=((w.alloc o1).alloc o2).heap.size:=fun o1 o2=>by have:=h.up;simp;omega
 have m1:N.length+1<=maxLen:=by unfold maxLen;omega
 clear h qU;go_enter Tryz.func109,Tryz.ntmps109
 go_wp2_with fail
 go_region_law (refine cF rfl (.tmp 9) (.tmp 11) 125 rfl 190 i0 _ 4 32 Tryz.underlying125 kQ jh dP dB rfl (by decide) base nv N.length (np aj N) (by simp[Act.eval,Act.put]) (by exact ow _ _) ⟨w.heap.size+1,0,none⟩ 1 1 [.int .i64 x.kind,.pointer pa,.int .i64 (x.next:Int),.int .i64 (x.other:Int)] (by simp[Act.eval,Act.put]) rfl (by exact bM _ _ _ _ (by simp)) (by simp[Value.oneCell']) m1 (by omega) (by exact up _ _) ?_;intro v' w5 aG ay;obtain⟨g5,TO,rfl⟩:=aO aG (by omega);rw[<-hnc.out]at aG;obtain⟨e5,f5,b5,kf,lE⟩:=((hH.out.kept (((Kept.refl [] w).alloc _).alloc _).drew).push ay aG))
 all_goals
  have Gw:Hid (MC _ _ _ _ _ _ _ _):=kf;have JJ:Hid (Below base w _):=((((Below.refl _ _).alloc hH.out.up _).alloc (by have:=hH.out.up;simp;omega) _).drew).trans lE;clear kf lE aG ay ow up;go_wp2
  go_ret;exact⟨rfl,JJ.out,_,Gw.out⟩
theorem yj{w:World}{base mb:Nat}{oc:Qr}{st:Int}{aj:List Nat}{N:List DN}{nv:Value}(h:MC w base mb oc st aj N nv)(hN:N.length<=1000000)(a b:Nat):
 Calls Tryz.prog 153 #[.pointer (some ⟨mb,0,none⟩),.int .i64 (a:Int),.int .i64 (b:Int)] w fun e w'=>Js w w' e base mb oc st aj (N.length,N++[bK a b]):=by
 have hc:Hid (Calls _ _ _ w _):=yi h hN (bK a b);have e:Cq aj (bK a b)=.pointer none:=if_neg (by show ¬(7:Int)<=3;decide);rw[e]at hc;clear h e;go_enter Tryz.func153,Tryz.ntmps153
 go_wp2_with fail
 refine hc.out.mono ?_;rintro e w2 ⟨rfl,b2,m2⟩;go_wp2
 go_ret;exact⟨rfl,b2,m2⟩
theorem Gh{w:World}{base g cap size n:Nat}{e:TypeId}{xs:List Value}(h:w.ownsRow base e size (.slice (some ⟨g,0,none⟩) n cap) n xs)(j:Nat)(u:Value):
 (w.setCell ⟨g,j,none⟩ u).ownsRow base e size (.slice (some ⟨g,0,none⟩) n cap) n (xs.set j u):=by
 refine⟨by rw[List.length_set];exact h.1,?_⟩;rcases h.2 with⟨h1,_⟩|⟨g',qM,cur,h1,h2,h3,h4,h5,h6,h7⟩
 ·cases h1
 ·cases h1;refine Or.inr ⟨g,cap,cur.setIfInBounds j u,rfl,h2,?_,h4,h5,by rw[Array.size_setIfInBounds];exact h6,?_⟩
  ·simp[World.setCell,Array.getElem?_modify,h3]
  ·rw[Array.toList_setIfInBounds,List.take_set,h7]
theorem Ey(aj:List Nat):∀(N:List DN) (i:Nat) (a k:Nat) (b:Nat),N[i]?=some (bK a b)->(np aj N).set (i*4+3) (.int .i64 (k:Int))=np aj (N.set i (bK a k))
 | [],i,a,k,b,h=>by simp at h
 | y :: l,0,a,k,b,h=>by
   simp only[List.getElem?_cons_zero,Option.some.injEq]at h;subst h;rfl
 | y :: l,i+1,a,k,b,h=>by
   rw[List.getElem?_cons_succ]at h;show(du aj y++np aj l).set ((i+1)*4+3) _=du aj y++np aj (l.set i (bK a k));rw[List.set_append_right _ _ (by simp[du];omega),show(i+1)*4+3-(du aj y).length=i*4+3 by simp[du];omega,Ey aj l i a k b h]
section
variable {ps:List PN}{N:List DN}{nx:Nat}{s:jO}{R S:gz}{g:Nat->List DN->jO}{f:Nat->Nat->List DN->jO}{Q:Nat->gz}
theorem qg.grow(h:qg ps N nx s R):N.length<=s.2.length:=by
 obtain⟨M,hM⟩:=h.more;rw[hM,List.length_append];omega
theorem cS.grow(hg:cS ps g R)(hs:s.1<s.2.length):s.2.length<=(g s.1 s.2).2.length:=(hg s.1 s.2 hs).grow
theorem Jt(hn:nx<N.length):∀(l1 l2:List Nat),(∀k,k∈l1++l2->cS ps (f k) (Q k))->(lX f l2 (nx,N)).2.length<=(lX f (l1++l2) (nx,N)).2.length
 | [],l2,_=>Nat.le_refl _
 | k :: l1,l2,h=>by
   have ih:=Jt hn l1 l2 (fun j hj=>h j (List.mem_cons_of_mem _ hj));have hb:=zJ hn (l1++l2) (fun j hj=>h j (List.mem_cons_of_mem _ hj));have:=(h k (List.mem_cons_self ..)).grow hb.lt;show _<=(f k (lX f (l1++l2) (nx,N)).1 (lX f (l1++l2) (nx,N)).2).2.length;omega
theorem UQ(hn:nx<N.length)(l:List Nat)(h:∀k,k∈l->cS ps (f k) (Q k))(m:Nat):(lX f (l.drop m) (nx,N)).2.length<=(lX f l (nx,N)).2.length:=by
 have:=Jt (ps:=ps) hn (f:=f) (Q:=Q) (l.take m) (l.drop m) (by rw[List.take_append_drop];exact h);rwa [List.take_append_drop]at this
theorem Ju(hn:nx<N.length):∀(l:List Nat) (s:jO) (S:gz),qg ps N nx s S->(∀k,k∈l->cS ps (f k) (Q k))->s.2.length<=(l.foldl (lY f nx) s).2.length
 | [],_,_,_,_=>Nat.le_refl _
 | k :: l,s,S,h,hl=>by
   have hk:=hl k (List.mem_cons_self ..);have h1:=h.either hk;have:=Ju hn l _ _ h1 (fun j hj=>hl j (List.mem_cons_of_mem _ hj));have h2:s.2.length<=(f k nx s.2).2.length:=(hk nx s.2 (by have:=h.grow;omega)).grow;have h3:(lY f nx s k).2.length=(f k nx s.2).2.length+1:=by unfold lY;simp
   rw[List.foldl_cons];omega
theorem yk(h:qg ps N nx s S)(hg:cS ps g R):∀(c d:Nat),(fN g c s).2.length<=(fN g (c+d) s).2.length
 | c,0=>Nat.le_refl _
 | c,d+1=>by
   have:=yk h hg c d;have h2:=hg.grow (rR h hg (c+d)).lt;show _<=(g (fN g (c+d) s).1 (fN g (c+d) s).2).2.length;omega
theorem Jv(hn:nx<N.length)(hg:cS ps g R):∀(c d:Nat),(j7 g nx c (nx,N)).2.length<=(j7 g nx (c+d) (nx,N)).2.length
 | c,0=>Nat.le_refl _
 | c,d+1=>by
   have:=Jv hn hg c d;have h2:=hg.grow (vU hn hg (c+d)).lt;have h3:(j7 g nx (c+d+1) (nx,N)).2.length=(g (j7 g nx (c+d) (nx,N)).1 (j7 g nx (c+d) (nx,N)).2).2.length+1:=by
    show(Fg g nx _).2.length=_;unfold Fg;simp
   rw[<-Nat.add_assoc];omega
end
theorem AZ.below{w w':World}{ps:List PN}{aj:List Nat}{F:Nat->Prop}{base:Nat}(h:AZ w ps aj F)(hF:∀j,F j->j<base)(b:Below base w w'):AZ w' ps aj F:=
 ⟨fun i p hp=>⟨(h.part i p hp).1,by obtain⟨iv,kv,hk⟩:=(h.part i p hp).2;exact⟨iv,kv,hk.frame (fun j hj=>b.block j (hF j hj))⟩⟩,fun j hj=>Nat.lt_of_lt_of_le (h.Ac j hj) b.size⟩
def qv(ps:List PN)(aj:List Nat)(F:Nat->Prop)(base mb:Nat)(oc:Qr)(st:Int)(k:Nat):Prop:=
 ∀f,k<f->∀(w:World) (N:List DN) (nv:Value) (nx:Nat),MC w base mb oc st aj N nv->AZ w ps aj F->nx<N.length->(aT ps f k nx N).2.length<=1000000 ->
  Calls Tryz.prog 110 #[.pointer (some ⟨mb,0,none⟩),ptrTo aj k,.int .i64 (nx:Int)] w fun e w'=>Js w w' e base mb oc st aj (aT ps f k nx N)
theorem nA{w w':World}{base g:Nat}(b:Below base w w')(h:g<base)(i:Nat):w'.cell? ⟨g,i,none⟩=w.cell? ⟨g,i,none⟩:=by
 unfold World.cell?;simp only[];rw[b.block g h]
structure PFc (w:World)(base a:Nat)(ka:Option Addr)(c:Nat)(p:PN)(aj:List Nat):Prop where
 la:a<base
 lw:base<=w.heap.size
 c0:w.cell? ⟨a,0,none⟩=some (.int .i64 p.kind)
 c3:w.cell? ⟨a,3,none⟩=some (.slice ka p.kids.length c)
 c4:w.cell? ⟨a,4,none⟩=some (.int .i64 p.least)
 c5:w.cell? ⟨a,5,none⟩=some (.int .i64 p.most)
 Xr:∀q,q<p.kids.length->∃gk,ka=some ⟨gk,0,none⟩/\gk<base/\w.cell? ⟨gk,q,none⟩=some (ptrTo aj (p.kids.getD q 0))
theorem PFc.below{w w':World}{base a c:Nat}{ka:Option Addr}{p:PN}{aj:List Nat}(h:PFc w base a ka c p aj)(b:Below base w w'):PFc w' base a ka c p aj:=
 ⟨h.la,Nat.le_trans h.lw b.size,(nA b h.la 0).trans h.c0,(nA b h.la 3).trans h.c3,(nA b h.la 4).trans h.c4,(nA b h.la 5).trans h.c5,fun q hq=>by
  obtain⟨gk,h1,h2,h3⟩:=h.Xr q hq;exact⟨gk,h1,h2,(nA b h2 q).trans h3⟩⟩
theorem AZ.pfc{w:World}{ps:List PN}{aj:List Nat}{F:Nat->Prop}{base:Nat}(h:AZ w ps aj F)(hF:∀j,F j->j<base)(hb:base<=w.heap.size){j:Nat}{p:PN}(hp:ps[j]?=some p):∃ka c,PFc w base (aj.getD j 0) ka c p aj:=by
 obtain⟨_,iv,kv,po⟩:=h.part j p hp;obtain⟨hl,hk⟩:=po.Xr;refine⟨kv.1,kv.2.2,hF _ po.Rb,hb,po.aD.cell 0,?_,po.aD.cell 4,po.aD.cell 5,fun q hq=>?_⟩
 ·rw[<-hl];exact po.aD.cell 3
 ·obtain⟨g,h1,h2,_⟩:=hk q hq;refine⟨g,h1,hF g (po.G1 g ?_),h2⟩;simp[fF,h1,Value.ownBlock]
theorem MC.patch{w:World}{base mb gn cap:Nat}{oc:Qr}{st:Int}{aj:List Nat}{P:List DN}(h:MC w base mb oc st aj P (.slice (some ⟨gn,0,none⟩) P.length cap)){i a b:Nat}(hi:P[i]?=some (bK a b)):
 w.cell? ⟨gn,i*4+3,none⟩=some (.int .i64 (b:Int))/\w.frozen? ⟨gn,i*4+3,none⟩=false/\gn<w.heap.size/\mb≠gn /\
 ∀k:Nat,MC (w.setCell ⟨gn,i*4+3,none⟩ (.int .i64 (k:Int))) base mb oc st aj (P.set i (bK a k)) (.slice (some ⟨gn,0,none⟩) P.length cap)/\Below base w (w.setCell ⟨gn,i*4+3,none⟩ (.int .i64 (k:Int))):=by
 have fx:mb≠gn:=fun hc=>absurd (lk h.row h.aD (by rw[hc];rfl)) (by decide);have QL:w.frozen? ⟨gn,i*4+3,none⟩=false:=by
  rcases h.row.2 with⟨h1,_⟩|⟨g',qM,cur,h1,_,h3,_⟩
  ·cases h1
  ·cases h1;exact ah.frozen (w:=w) (b:=gn) (cs:=cur) (e:=190) h3 _
 refine⟨?_,QL,(h.row.lt gn rfl).2,fx,fun k=>⟨⟨h.aD.other _ _ fx,h.low,?_⟩,(Below.refl _ _).setCell (h.row.lt gn rfl).1 _⟩⟩
 ·have:=h.row.cells (g:=gn) rfl (i*4+3) (.int .i64 (b:Int)) (by rw[xY aj P i 3 _ hi (by omega)];rfl);rwa [cK]at this
 ·have:=Gh h.row (i*4+3) (.int .i64 (k:Int));rw[Ey aj P i a k b hi]at this;rw[List.length_set];exact this
def kA(g:Nat->List DN->jO)(least most:Int)(nx:Nat)(N:List DN):jO×Nat:=
 if most<0 then (if 0<least then (kZ g nx N,least.toNat-1) else ((N.length,(kZ g nx N).2),0)) else ((nx,N),least.toNat)
def sw(g:Nat->List DN->jO)(least most:Int)(nx:Nat)(N:List DN):jO:=
 if most<0 then (kA g least most nx N).1 else j7 g nx (most-least).toNat (nx,N)
theorem Qt(g:Nat->List DN->jO)(least most:Int)(nx:Nat)(N:List DN):qe g least most nx N=fN g (kA g least most nx N).2 (sw g least most nx N):=by
 unfold qe sw kA;by_cases hm:most<0
 ·rw[if_pos hm,if_pos hm,if_pos hm];by_cases hl:0<least
  ·rw[if_pos hl,if_pos hl]
  ·rw[if_neg hl,if_neg hl];rfl
 ·rw[if_neg hm,if_neg hm,if_neg hm]
theorem UR{ps:List PN}{N:List DN}{nx:Nat}{R:gz}{g:Nat->List DN->jO}(hn:nx<N.length)(hg:cS ps g R)(least most:Int):∃S,qg ps N nx (sw g least most nx N) S:=by
 unfold sw kA;by_cases hm:most<0
 ·rw[if_pos hm,if_pos hm];by_cases hl:0<least
  ·rw[if_pos hl];exact⟨_,(qg.loop hn hg).2⟩
  ·rw[if_neg hl];exact⟨_,(qg.loop hn hg).1⟩
 ·rw[if_neg hm];exact⟨_,vU hn hg _⟩
theorem Ml{ps:List PN}{aj:List Nat}{F:Nat->Prop}{base mb:Nat}{oc:Qr}{st:Int}(hw:mT ps)(h5:gQ ps){j k0:Nat}{p:PN}(hp:ps[j]?=some p)(iT:p.kids=[k0])(hg:dq ps k0)(l0:0<=p.least)(l9:p.least<=9)(m0:-1<=p.most)(m9:p.most<=9)(hF:∀i,F i->i<base)
 (ih:qv ps aj F base mb oc st k0) {f:Nat} (hf:k0<f) {w:World} {N:List DN} {nv:Value} {nx:Nat} (hM:MC w base mb oc st aj N nv) (hP:AZ w ps aj F) (hn:nx<N.length) (hb:(qe (aT ps f k0) p.least p.most nx N).2.length<=1000000):
 Calls Tryz.prog 154 #[.pointer (some ⟨mb,0,none⟩),ptrTo aj j,.int .i64 (nx:Int)] w fun e w'=>Js w w' e base mb oc st aj (qe (aT ps f k0) p.least p.most nx N):=by
 obtain⟨ka,c,qw⟩:=hP.pfc hF hM.up hp;obtain⟨gk,rfl,hgk,_⟩:=qw.Xr 0 (by rw[iT];simp);have Mm:Hid (PFc _ _ _ _ _ _ _):=qw;have zW:Hid (cS ps (aT ps f k0) (fun fold t=>j6 ps fold t k0)):=vV hw h5 hg f hf;have fJ:Hid (∀w' N' JR wX,Below base w w'->MC w' base mb oc st aj N' JR->wX<N'.length->(aT ps f k0 wX N').2.length<=1000000->Calls _ _ _ w' _):=fun w' N' JR wX b m h1 h2=>ih f hf w' N' JR wX m (hP.below hF b) h1 h2;obtain⟨S0,hS0⟩:=UR hn zW.out p.least p.most;have US:Hid (qg _ _ _ _ _):=hS0;rw[Qt]at hb ⊢;have hmg:=yk hS0 zW.out 0;have qG:(sw (aT ps f k0) p.least p.most nx N).2.length<=1000000:=by
  have:=hmg (kA (aT ps f k0) p.least p.most nx N).2;rw[Nat.zero_add]at this;exact Nat.le_trans this hb
 have Zg:N.length<=(sw (aT ps f k0) p.least p.most nx N).2.length:=hS0.grow;have iI:Hid (∀c,c<=(kA (aT ps f k0) p.least p.most nx N).2->(fN (aT ps f k0) c (sw (aT ps f k0) p.least p.most nx N)).2.length<=1000000):=fun c hc=>by
  have:=yk hS0 zW.out c ((kA (aT ps f k0) p.least p.most nx N).2-c);rw[show c+((kA (aT ps f k0) p.least p.most nx N).2-c)=(kA (aT ps f k0) p.least p.most nx N).2 by omega]at this;exact Nat.le_trans this hb
 have yT:Hid (MC _ _ _ _ _ _ _ _):=hM;have oX:Hid (Below base w w):=Below.refl _ _;obtain⟨g,pR⟩:∃g,g=aT ps f k0:=⟨_,rfl⟩;rw[<-pR]at zW fJ US qG Zg iI ⊢;clear hmg hS0 hb pR ih hP hg h5 hM;obtain⟨a,ha⟩:∃a,a=aj.getD j 0:=⟨_,rfl⟩;have Mn:ptrTo aj j=.pointer (some ⟨a,0,none⟩):=by rw[ha];rfl
 rw[<-ha]at qw Mm;rw[Mn];have c4:=qw.c4;have c5:=qw.c5;have c3:=qw.c3;have W0:a<w.heap.size:=Nat.lt_of_lt_of_le qw.la qw.lw;have zt:p.kids.length=1:=by rw[iT];rfl
 have rJ:Hid (p.kids.getD 0 0=k0):=by show _=_;rw[iT];rfl
 rw[zt]at c3;have hklH:Hid (p.kids.length=1):=zt
 -- Ys is read of the part in a later world
 have Ip:Hid (∀w',Below base w w'->w'.cell? ⟨a,3,none⟩=some (.slice (some ⟨gk,0,none⟩) 1 c)/\w'.cell? ⟨a,4,none⟩=some (.int .i64 p.least)/\w'.cell? ⟨a,5,none⟩=some (.int .i64 p.most)/\w'.cell? ⟨gk,0,none⟩=some (ptrTo aj k0)/\a<w'.heap.size/\gk<w'.heap.size):=fun w' b=>by
  have q:=Mm.out.below b;refine⟨by rw[<-hklH.out];exact q.c3,q.c4,q.c5,?_,Nat.lt_of_lt_of_le q.la q.lw,Nat.lt_of_lt_of_le hgk q.lw⟩;obtain⟨gk',h1,_,h3⟩:=q.Xr 0 (by rw[hklH.out];omega);cases h1;rw[rJ.out]at h3;exact h3
 clear qw Mm iT zt Mn ha;obtain⟨a0,UT⟩:∃a0,ptrTo aj k0=.pointer (some ⟨a0,0,none⟩):=⟨_,rfl⟩;rw[UT]at fJ Ip;clear UT;generalize p.least=le at *;generalize p.most=M at *;obtain⟨L,rfl⟩:∃L:Nat,le=(L:Int):=⟨le.toNat,by omega⟩;go_enter Tryz.func154,Tryz.ntmps154
 go_upto_if 22 with fail
 go_cut [7,8,9] (fun s7 s8 _ wx=>s7=.int .i64 ((kA g L M nx N).1.1:Int)/\s8=.int .i64 ((kA g L M nx N).2:Int)/\∃y JR,y=wx/\MC y base mb oc st aj (kA g L M nx N).1.2 JR/\Below base w y)
 case first=>
  by_cases hm:M<0
  ·have Gi:Hid (kA g L M nx N=if 0<(L:Int) then (kZ g nx N,(L:Int).toNat-1) else ((N.length,(kZ g nx N).2),0)):=if_pos hm;have hmid:sw g L M nx N=(kA g L M nx N).1:=if_pos hm;have hNb:N.length<=1000000:=by omega
   rw[hmid]at qG;have OS:(kZ g nx N).2.length<=1000000:=by
    rw[Gi.out]at qG;split at qG
    ·exact qG
    ·exact qG
   have zr:(kZ g nx N).2.length=(g N.length (N++[bK nx nx])).2.length:=by unfold kZ;rw[List.length_set]
   have pM:(g N.length (N++[bK nx nx])).2.length<=1000000:=by omega
   have uQ:=(zW.out N.length (N++[bK nx nx]) (by simp)).more;have ND:Hid (kZ g nx N=((g N.length (N++[bK nx nx])).1,(g N.length (N++[bK nx nx])).2.set N.length (bK nx (g N.length (N++[bK nx nx])).1))):=rfl;clear hmid qG OS zr US iI Zg zW;go_wp2_with fail
   refine(yj yT.out hNb nx nx).mono ?_;rintro e w1 ⟨rfl,b1,nv1,m1⟩;have Tk:Hid (Below base w w1):=b1;have X':Hid (MC _ _ _ _ _ _ _ _):=m1;obtain⟨e3,e4,e5,ek,el,egl⟩:=Ip.out _ b1;clear b1 m1 c3 c4 c5 W0;go_wp2_with fail
   refine(fJ.out w1 (N++[bK nx nx]) nv1 N.length Tk.out X'.out (by simp) pM).mono ?_;rintro e w2 ⟨rfl,b2,Ya,m2⟩;have Jw:Hid (Below base w w2):=Tk.out.trans b2;obtain⟨Mo,hMo⟩:=uQ;have hPi:(g N.length (N++[bK nx nx])).2[N.length]?=some (bK nx nx):=by
    rw[hMo,List.append_assoc,List.getElem?_append_right (Nat.le_refl _),Nat.sub_self];rfl
   have hPl:N.length<(g N.length (N++[bK nx nx])).2.length:=(List.getElem?_eq_some_iff.1 hPi).1;generalize (g N.length (N++[bK nx nx])).1=k at *;generalize (g N.length (N++[bK nx nx])).2=P at *;obtain⟨gn,cap,rfl⟩:=aO m2.row (by omega);obtain⟨p1,p2,p3,p4,p5⟩:=m2.patch hPi;have p5H:Hid (∀k:Nat,_):=p5;have m5:w2.cell? ⟨mb,5,none⟩=some (.slice (some ⟨gn,0,none⟩) P.length cap):=m2.aD.cell 5;have hmb2:=m2.aD.lt;clear b2 m2 p5 hPi hMo e3 e4 e5 ek el egl Tk X' fJ pM;by_cases hl:0<(L:Int)
   ·have kY:Hid (kA g L M nx N=((k,P.set N.length (bK nx k)),L-1)):=by
     show _=_;rw[Gi.out,if_pos hl,ND.out];simp
    have hLs:((L-1:Nat):Int)=(L:Int)-1:=by omega
    clear Gi ND;go_wp2
    go_meet;refine⟨by rw[kY.out],by rw[kY.out,hLs],_,.slice (some ⟨gn,0,none⟩) P.length cap,rfl,?_,?_⟩
    ·rw[kY.out];exact(p5H.out k).1
    ·exact Jw.out.trans (p5H.out k).2
   ·have kY:Hid (kA g L M nx N=((N.length,P.set N.length (bK nx k)),0)):=by
     show _=_;rw[Gi.out,if_neg hl,ND.out]
    have hL0:L=0:=by omega
    subst hL0;clear Gi ND hl;go_wp2
    go_meet;refine⟨by rw[kY.out],by rw[kY.out];rfl,_,.slice (some ⟨gn,0,none⟩) P.length cap,rfl,?_,?_⟩
    ·rw[kY.out];exact(p5H.out k).1
    ·exact Jw.out.trans (p5H.out k).2
  ·have Gi:Hid (kA g L M nx N=((nx,N),L)):=by
    show _=_;unfold kA;rw[if_neg hm];simp
   clear qG US iI Zg zW fJ;go_wp2
   go_meet;refine⟨by rw[Gi.out],by rw[Gi.out],_,nv,rfl,?_,oX.out⟩;rw[Gi.out];exact yT.out
 case rest=>
  obtain⟨rfl,rfl,y,nv1,hy,m1,b1⟩:=hcut;subst hy;have X':Hid (MC _ _ _ _ _ _ _ _):=m1;have Tk:Hid (Below base w _):=b1;obtain⟨e3,e4,e5,ek,el,egl⟩:=Ip.out _ b1
  -- the first loop: so many times or none
  obtain⟨C,hC⟩:∃C:Nat,C=(M-(L:Int)).toNat:=⟨_,rfl⟩;have lZ:Hid (C=(M-(L:Int)).toNat):=hC;have hopt:Hid (0<=M->∀q,q<=C->(j7 g nx q (nx,N)).2.length<=1000000):=fun Vt q hq=>by
   have h1:=Jv hn zW.out q (C-q);rw[show q+(C-q)=C by omega]at h1;have h2:sw g L M nx N=j7 g nx C (nx,N):=by unfold sw;rw[if_neg (by omega),hC]
   rw[h2]at qG;omega
  have Az:Hid (∀q,(j7 g nx q (nx,N)).1<(j7 g nx q (nx,N)).2.length):=fun q=>(vU hn zW.out q).lt;have QR:Hid (∀s:jO,s.1<s.2.length->s.2.length<=(g s.1 s.2).2.length):=fun s h=>zW.out.grow h;have Yb:Hid (¬M<0->(kA g L M nx N).1=(nx,N)):=fun h=>by unfold kA;rw[if_neg h]
  have Yc:Hid (M<0->sw g L M nx N=(kA g L M nx N).1):=fun h=>if_pos h;have Yd:Hid (¬M<0->sw g L M nx N=j7 g nx C (nx,N)):=fun h=>by unfold sw;rw[if_neg h,hC]
  have Ye:Hid (∀q,(fN g q (sw g L M nx N)).1<(fN g q (sw g L M nx N)).2.length):=fun q=>(rR US.out zW.out q).lt;clear m1 b1 c3 c4 c5 W0 qG Zg US zW hC yT oX;go_wp2_with fail
  go_loopw [7,10,11] (fun av iv _ wr=>∃(q:Nat) (s:jO) (NF:Value),iv=.int .i64 ((L:Int)+(q:Int))/\q<=C/\s=(if M<0 then (kA g L M nx N).1 else j7 g nx q (nx,N))/\av=.int .i64 (s.1:Int)/\MC wr base mb oc st aj s.2 NF/\Below base w wr) (fun _ iv _ _=>(M-intOf iv).toNat)
  case atStart=>
   refine⟨0,(kA g L M nx N).1,nv1,by simp,Nat.zero_le _,?_,rfl,X'.out,Tk.out⟩;split
   ·rfl
   ·rename_i h;exact Yb.out (by omega)
  case round=>
   obtain⟨q,s,NF,rfl,hq,hs,rfl,mq,bq⟩:=hrel;have NG:Hid (MC _ _ _ _ _ _ _ _):=mq;have Mp:Hid (Below base w _):=bq;have qX:Hid (s=_):=hs;obtain⟨e3,e4,e5,ek,el,egl⟩:=Ip.out _ bq;clear X' Tk mq bq hs;by_cases bO:(L:Int)+(q:Int)<M
   ·have Vt:¬M<0:=by omega
    have ji:Hid (s=j7 g nx q (nx,N)):=by show _=_;rw[qX.out,if_neg Vt]
    have MV:q+1<=C:=by have:=lZ.out;omega
    have KJ:s.1<s.2.length:=by have:=Az.out q;rw[<-ji.out]at this;exact this
    have cy:Hid (j7 g nx (q+1) (nx,N)=((g s.1 s.2).2.length,(g s.1 s.2).2++[bK (g s.1 s.2).1 nx])):=by
     show Fg g nx (j7 g nx q (nx,N))=_;rw[<-ji.out];rfl
    have pM:(g s.1 s.2).2.length<=1000000:=by
     have:=hopt.out (by omega) (q+1) MV;rw[cy.out]at this;simp at this;omega
    clear ji qX;go_wp2_with fail
    refine(fJ.out _ s.2 NF s.1 Mp.out NG.out KJ pM).mono ?_;rintro e w2 ⟨rfl,b2,Ya,m2⟩;have Jw:Hid (Below base w w2):=Mp.out.trans b2;have GJ:Hid (MC _ _ _ _ _ _ _ _):=m2;obtain⟨j3,j4,j5,jk,jl,jgl⟩:=Ip.out _ Jw.out;clear b2 m2 e3 e4 e5 ek el egl NG Mp;go_wp2_with fail
    refine(yj GJ.out pM _ nx).mono ?_;rintro e w3 ⟨rfl,b3,nv3,m3⟩;have b3H:Hid (Below base w w3):=Jw.out.trans b3;have m3H:Hid (MC _ _ _ _ _ _ _ _):=m3;clear b3 m3 j3 j4 j5 jk jl jgl GJ Jw;go_wp2
    refine⟨⟨q+1,((g s.1 s.2).2.length,(g s.1 s.2).2++[bK (g s.1 s.2).1 nx]),nv3,by go_num,MV,?_,rfl,m3H.out,b3H.out⟩,?_⟩
    ·rw[if_neg (by omega),cy.out]
    ·simp only[intOf];omega
   ·have ji:Hid (s=sw g L M nx N):=by
     show _=_;rw[qX.out];by_cases hm:M<0
     ·rw[if_pos hm,Yc.out hm]
     ·rw[if_neg (by omega),Yd.out (by omega),show q=C by have:=lZ.out;omega]
    have Sx:(kA g L M nx N).2<=9:=by
     unfold kA;split
     ·split
      ·simp;omega
      ·simp
     ·simp;omega
    obtain⟨m,hm⟩:∃m,m=(kA g L M nx N).2:=⟨_,rfl⟩;rw[<-hm]at Sx;have aA:Hid (fN g (kA g L M nx N).2 (sw g L M nx N)=fN g m s):=by show _=_;rw[hm,ji.out]
    rw[<-hm]at iI;rw[<-ji.out]at iI Ye;rw[<-hm];clear ji qX hopt Az Yb Yc Yd lZ hq hm;go_wp2_with fail
    go_loopw [7,12] (fun av iv wr=>∃(z:Nat) (NF:Value),iv=.int .i64 (z:Int)/\z<=m/\av=.int .i64 ((fN g z s).1:Int)/\MC wr base mb oc st aj (fN g z s).2 NF/\Below base w wr) (fun _ iv _=>((m:Int)-intOf iv).toNat)
    case atStart=>exact⟨0,NF,rfl,Nat.zero_le _,rfl,NG.out,Mp.out⟩
    case round=>
     obtain⟨z,nvz,rfl,hz,rfl,mz,bz⟩:=hrel;have mzH:Hid (MC _ _ _ _ _ _ _ _):=mz;have bzH:Hid (Below base w _):=bz;obtain⟨e3,e4,e5,ek,el,egl⟩:=Ip.out _ bz;clear NG Mp mz bz;by_cases hzt:(z:Int)<(m:Int)
     ·have pM:=iI.out (z+1) (by omega);have KJ:=Ye.out z;have cy:Hid (fN g (z+1) s=g (fN g z s).1 (fN g z s).2):=rfl;rw[cy.out]at pM;go_wp2_with fail
      refine(fJ.out _ _ nvz _ bzH.out mzH.out KJ pM).mono ?_;rintro e w2 ⟨rfl,b2,Ya,m2⟩;have Jw:Hid (Below base w w2):=bzH.out.trans b2;have GJ:Hid (MC _ _ _ _ _ _ _ _):=m2;clear b2 m2 e3 e4 e5 ek el egl mzH bzH;go_wp2
      refine⟨⟨z+1,Ya,by go_num,by omega,by rw[cy.out],by rw[cy.out];exact GJ.out,Jw.out⟩,?_⟩;simp only[intOf];omega
     ·obtain rfl:m=z:=by omega
      go_wp2
      go_ret;rw[aA.out];exact⟨rfl,bzH.out,_,mzH.out⟩
end Go.Proofs.YtgifhgnccmnbiabGreatDoor
