/- Part of the proof. -/
import Derived.Test.YtgifhgnccmnbiabGreatDoorG24
import Derived.Test.YtgifhgnccmnbiabGreatDoorG20
import Derived.Lib.AppendStr
import Derived.Lib.ItoaLen
import Derived.Test.YtgifhgnccmnbiabGreatDoorG21
import Derived.WalkSmall
import Derived.Test.YtgifhgnccmnbiabGreatDoorG22
import Derived.Test.YtgifhgnccmnbiabGreatDoorG16
import Derived.Test.YtgifhgnccmnbiabGreatDoorG11
import Derived.Test.YtgifhgnccmnbiabGreatDoorG17
import Derived.Test.YtgifhgnccmnbiabGreatDoorG02
import Derived.Test.YtgifhgnccmnbiabGreatDoorG19
set_option linter.unusedVariables false
set_option linter.unusedSimpArgs false
set_option maxHeartbeats 4000000
set_option maxRecDepth 100000
namespace Go.Proofs.YtgifhgnccmnbiabGreatDoor
open Go.RowKit Go.IntWalk
theorem Uz(mx:Int)(n:Nat):∃C:Nat,uE mx n=(C:Int)/\C<=n:=by
 unfold uE;by_cases h:0<mx/\mx<(n:Int)
 ·rw[if_pos h];exact⟨mx.toNat,by omega,by omega⟩
 ·rw[if_neg h];exact⟨n,rfl,Nat.le_refl _⟩
theorem uL{n:Nat}(hn:n<=1099511627777):(za n).size<=21:=by
 have:(za n).size=(Lib.itoa (n:Int)).length:=by show((Lib.itoa (n:Int)).toArray).size=_;simp
 rw[this];exact Lib.itoa_length_le _ (by omega) (by omega)
def Q3(M:MP)(inv:Bool)(mx:Int)(X:List Nat):List FL:=(FV M inv X).take (uE mx (ou M inv (jA X))).toNat
theorem C'(a b:ByteArray):Lib.strCells (a++b)=Lib.strCells a++Lib.strCells b:=by
 unfold Lib.strCells;rw[ByteArray.data_append,Array.toList_append,List.map_append]
theorem UA{w:World}{base:Nat}{v:Value}{s:ByteArray}(h:w.ownsRow base 5 1 v s.size (Lib.strCells s)):
 (convert 77 9 v).run Tryz.prog w=.ok (.string s) w:=by
 have e1:byteCells (s.data.toList.map UInt8.toNat)=Lib.strCells s:=by
  unfold byteCells Lib.strCells;rw[List.map_map];rfl
 have e2:dH (s.data.toList.map UInt8.toNat)=s:=by
  unfold dH;rw[List.map_map];have:(Nat.toUInt8∘UInt8.toNat)=id:=by funext b;simp
  rw[this,List.map_id]
 have:=Ca (w:=w) (base:=base) (v:=v) (out:=s.data.toList.map UInt8.toNat) (by rw[e1,List.length_map,Array.length_toList];exact h) (fun c hc=>by
  obtain⟨b,_,rfl⟩:=List.mem_map.1 hc;exact b.toNat_lt)
 rw[e2]at this;exact this
theorem UB{w:World}{B:Nat}{v:Value}{l:List FL}(h:w.ownsRow B 109 3 v l.length (dI l)){g:Nat}(hg:v.ownBlock=some g){q:Nat}{x:FL}(hx:l[q]?=some x):
 w.cell? ⟨g,q*3,none⟩=some (.int .i64 (x.num:Int))/\w.cell? ⟨g,q*3+1,none⟩=some (.int .i64 (x.zA:Int))/\w.cell? ⟨g,q*3+2,none⟩=some (.int .i64 (x.xb:Int))/\g<w.heap.size:=by
 have hc:∀(l:List FL) (q:Nat) (x:FL),l[q]?=some x->(dI l)[q*3]?=some (.int .i64 (x.num:Int))/\(dI l)[q*3+1]?=some (.int .i64 (x.zA:Int))/\(dI l)[q*3+2]?=some (.int .i64 (x.xb:Int)):=by
  intro l;induction l with
  | nil=>intro q x h;simp at h
  | cons y l ih=>
    intro q x h;cases q with
    | zero=>simp at h;subst h;exact⟨rfl,rfl,rfl⟩
    | succ q=>
      obtain⟨h1,h2,h3⟩:=ih q x (by simpa using h);have e:dI (y :: l)=[.int .i64 (y.num:Int),.int .i64 (y.zA:Int),.int .i64 (y.xb:Int)]++dI l:=rfl;rw[e];refine⟨?_,?_,?_⟩
      ·rw[List.getElem?_append_right (by simp;omega)];simpa [Nat.succ_mul] using h1
      ·rw[List.getElem?_append_right (by simp;omega)];show(dI l)[(q+1)*3+1-3]?=_;rw[show(q+1)*3+1-3=q*3+1 by omega];exact h2
      ·rw[List.getElem?_append_right (by simp;omega)];show(dI l)[(q+1)*3+2-3]?=_;rw[show(q+1)*3+2-3=q*3+2 by omega];exact h3
 obtain⟨h1,h2,h3⟩:=hc l q x hx;have c1:=h.cells hg _ _ h1;have c2:=h.cells hg _ _ h2;have c3:=h.cells hg _ _ h3;rw[cK]at c1 c2 c3;exact⟨c1,c2,c3,(h.lt g hg).2⟩
structure JQ (w2 wr:World)(R:ByteArray)(v:Value):Prop where
 k:Kept [] w2 wr
 row:wr.ownsRow w2.heap.size 5 1 v R.size (Lib.strCells R)
theorem JQ.iN{w2 wr w':World}{R:ByteArray}{v:Value}(h:JQ w2 wr R v)(q:Kept [] wr w'):JQ w2 w' R v:=⟨h.k.trans q,aQ h.row q (fun _ _=>by simp)⟩
theorem JQ.grow{w2 w w':World}{R S:ByteArray}{v v':Value}(h:JQ w2 w R v)(ho:w'.ownsRow w2.heap.size 5 1 v' (R.size+S.size) (Lib.strCells R++Lib.strCells S))(g:w.grownBy w' v.ownBlock):JQ w2 w' (R++S) v':=
 ⟨nn h.k h.row g,by rw[ByteArray.size_append,C'];exact ho⟩
theorem Mf{w:World}{gs bt gp N L:Nat}{inv:Bool}{mx:Int}{M:MP}{t:TT}{rv sv:Value}{T:List (List Nat)}{ps:C7}(h:fD w gs bt gp N L inv mx M t rv sv T ps)(P0:-9223372036854775808<=mx)(sZ:mx<=9223372036854775807)(hw:t.whole.len<=1099511627776)(ft:mj w)(num:Bool):
 Calls Tryz.prog 31 #[.pointer (some ⟨gs,0,none⟩),.bool num] w fun e w'=>e=.returned (.tuple #[.string (jL num (t.start.flatMap (af T)) (Q3 M inv mx (t.start.flatMap (af T)))).1,.bool (jL num (t.start.flatMap (af T)) (Q3 M inv mx (t.start.flatMap (af T)))).2])/\Kept [] w w':=by
 have En:=h.len;have hH:Hid (fD _ _ _ _ _ _ _ _ _ _ _ _ _ _):=h;have oY:Hid (Calls _ _ _ w _):=LO h P0 sZ;obtain⟨C,hC,hCn⟩:=Uz mx (ou M inv (jA (t.start.flatMap (af T))));have X6:Hid (∀w1,Kept [] w w1->Calls _ _ _ w1 _):=fun w1 k=>P' (h.kept k) C;have hflC:Q3 M inv mx (t.start.flatMap (af T))=(FV M inv (t.start.flatMap (af T))).take C:=by unfold Q3;rw[hC];rfl
 rw[hC]at oY;rw[hflC];rw[<-No]at hCn;have s0:w.cell? ⟨gs,0,none⟩=some (.pointer (some ⟨bt,0,none⟩)):=h.si.s.cell 0;have s0H:Hid (∀w',Kept [] w w'->w'.cell? ⟨gs,0,none⟩=some (.pointer (some ⟨bt,0,none⟩))/\gs<w'.heap.size):=fun w' k=>⟨(k.cell h.si.s.lt 0).trans s0,Nat.lt_of_lt_of_le h.si.s.lt k.size⟩;have XO:=h.si.s.lt;have hcut:Hid (∀(fr dst:Nat),fr<=dst->dst<=1099511627776->∀w',Kept [] w w'->Calls Tryz.prog 59 #[.pointer (some ⟨bt,0,none⟩),.int .i64 (fr:Int),.int .i64 (dst:Int)] w' fun e w2=>e=.returned (.string (dH (fs (t.start.flatMap (af T)) fr dst 0)))/\Kept [] w' w2):=fun fr dst h1 h2 w' k=>by
  have hR:=h.kept k;refine(IM h.st hw h1 h2 w' hR.si.sp.tr (by have:=hR.si.sp.low;have:=hR.si.sp.p.lt;omega)).mono ?_;rintro e w2 ⟨rfl,hb⟩;exact⟨rfl,gZ hb⟩
 have Br:Hid (∀x,x∈(FV M inv (t.start.flatMap (af T))).take C->1<=x.num/\x.num<=(t.start.flatMap (af T)).length+1/\x.zA<=x.xb/\x.xb<=(t.start.flatMap (af T)).length):=fun x hx=>W6 (List.mem_of_mem_take hx);have OS:((FV M inv (t.start.flatMap (af T))).take C).length=C:=by rw[List.length_take];omega
 have Mg:Hid (∀n,n<=1099511627777->∀w',Kept [] w w'->Calls _ _ _ w' _):=fun n hn w' k=>Jm n hn (ft.kept k);clear h ft hC hflC hCn;generalize (FV M inv (t.start.flatMap (af T))).take C=FX at *;generalize t.start.flatMap (af T)=X at *;subst OS;obtain⟨O,hO⟩:∃O,O=jL num X FX:=⟨_,rfl⟩;rw[<-hO];have Me:Hid (O=_):=hO;clear hO;have Gq:Hid (2000<FX.length->2000<(nC num X FX).size):=fun h=>Nat.lt_of_lt_of_le h (Nu num X FX);obtain⟨i0,kQ,jh,dP,dB⟩:=info_parts Lt;go_enter Tryz.func31,Tryz.ntmps31
 go_wp2_with fail
 refine oY.out.mono ?_;rintro _ w1 ⟨rfl,k1⟩;by_cases rq:2000<FX.length
 ·have e:Hid (O=(⟨#[]⟩,false)):=Me.out.trans (Gd (Gq.out rq));have hbi:(2000:Int)<(FX.length:Int):=by omega
  have V8:Hid (Kept _ _ _):=k1;clear k1 Gq;go_wp2_with fail
  go_ret2;rw[e.out];exact⟨rfl,V8.out⟩
 have hbi:¬(2000:Int)<(FX.length:Int):=by omega
 go_wp2_with fail
 refine(X6.out w1 k1).mono ?_;rintro _ w2 ⟨v,rfl,hF⟩;obtain⟨fa,fn,fc,rfl,b8⟩:=hF.ex;have Xo:=FZ b8;subst Xo;have k2:Hid (Kept [] w w2):=k1.trans hF.k;have dZ:Hid (World.ownsRow _ _ _ _ _ _ _):=b8;have h0:Hid (JQ w2 w2 (nC num X (FX.take 0)) (.slice none 0 0)):=⟨Kept.refl _ _,World.ownsRow_nil _ _ _ _⟩;have hpq:Hid (∀q,(nC num X (FX.take q)).size<=(nC num X FX).size):=Uy num X FX;clear hF b8 oY X6 k1 Gq;go_wp2_with fail
 go_loopw [8,9] (fun ov iv wr=>∃(q:Nat) (R:ByteArray) (oa:Option Addr) (oc:Nat),ov=.slice oa R.size oc/\iv=.int .i64 (q:Int)/\q<=FX.length/\R=nC num X (FX.take q)/\R.size<=2000/\JQ w2 wr R (.slice oa R.size oc)) (fun _ iv _=>((FX.length:Int)-intOf iv).toNat)
 case atStart=>exact⟨0,⟨#[]⟩,none,0,rfl,rfl,Nat.zero_le _,rfl,Nat.zero_le _,h0.out⟩
 case round=>
  clear h0;obtain⟨q,R,oa,oc,rfl,rfl,hq,hRq,hR2,hI⟩:=hrel;have KW:Hid (Kept [] w wr):=k2.out.trans hI.k;have cC:Hid (JQ _ _ _ _):=hI;have nW:(convert 77 9 (.slice oa R.size oc)).run Tryz.prog wr=.ok (.string R) wr:=UA hI.row;obtain⟨s0',lgs'⟩:=s0H.out wr KW.out;clear hI;by_cases bO:(q:Int)<(FX.length:Int)
  ·obtain⟨x,hx⟩:∃x,FX[q]?=some x:=⟨_,List.getElem?_eq_getElem (by omega)⟩;obtain⟨m1,m2,m3,m4⟩:=Br.out x (List.mem_of_getElem? hx);obtain⟨g,cap,hv⟩:=aO dZ.out (by omega);simp only[Value.slice.injEq]at hv;obtain⟨rfl,_,rfl⟩:=hv;obtain⟨f0,f1,f2,fl⟩:=UB dZ.out rfl hx;have fI:Hid (∀w',Kept [] w2 w'->w'.cell? ⟨g,q*3,none⟩=some (.int .i64 (x.num:Int))/\w'.cell? ⟨g,q*3+1,none⟩=some (.int .i64 (x.zA:Int))/\w'.cell? ⟨g,q*3+2,none⟩=some (.int .i64 (x.xb:Int))/\g<w'.heap.size):=fun w' k=>⟨(k.cell fl _).trans f0,(k.cell fl _).trans f1,(k.cell fl _).trans f2,Nat.lt_of_lt_of_le fl k.size⟩;obtain⟨z1,z2⟩:=Jo (num:=num) m3 m4;have oz:=Ux (num:=num) (X:=X) hx;rw[<-hRq]at oz;have hle:=hpq.out (q+1);rw[oz,ByteArray.size_append,z1]at hle;have W7:Hid (_=R++(Nt num x.num++dH (fs X x.zA x.xb 0)++⟨#[10]⟩)):=oz;have Hc:Hid (∀w',Kept [] w w'->Calls _ _ _ w' _):=Mg.out x.num (by omega);have hct:Hid (∀w',Kept [] w w'->Calls _ _ _ w' _):=hcut.out x.zA x.xb m3 (by omega);have hhd:Hid (Nt true x.num=za x.num++⟨#[58]⟩/\Nt false x.num=⟨#[]⟩):=⟨if_pos rfl,if_neg (by decide)⟩;obtain⟨d0,d1,d2,dl⟩:=fI.out wr cC.out.k;have V1:(za x.num).size<=21:=uL (by omega);clear hx Br dZ oz Mg hcut hRq f0 f1 f2 fl z1 hH s0;obtain⟨xn,xf,xt⟩:=x;simp only[]at *;go_upto_if 25 with fail
   go_cut [10] (fun s10 wx=>s10=.string (Nt num xn)/\∃y,y=wx/\Kept [] wr y)
   case first=>
    cases num with
    | false=>
      go_wp2_with fail
      go_meet;exact⟨by rw[hhd.out.2],_,rfl,Kept.refl _ _⟩
    | true=>
      go_wp2_with (go_at_call 43;refine(Hc.out _ KW.out).mono ?_;rintro _ w5 ⟨rfl,k5⟩;have K5:Hid (Kept _ _ _):=k5;clear k5)
      go_meet;exact⟨by rw[hhd.out.1],_,rfl,K5.out⟩
   case rest=>
    obtain⟨rfl,wx,Lm,kx⟩:=hcut;subst Lm;have KX:Hid (Kept [] w wx):=KW.out.trans kx;have IX:Hid (JQ _ _ _ _):=cC.out.iN kx;obtain⟨d0,d1,d2,dl⟩:=fI.out wx (cC.out.k.trans kx);obtain⟨s0',lgs'⟩:=s0H.out wx KX.out;have hHD:(Nt num xn).size<=30:=by
     cases num with
     | false=>rw[hhd.out.2];show 0<=30;omega
     | true=>rw[hhd.out.1,ByteArray.size_append];show _+1<=30;omega
    clear hhd Hc kx nW;generalize Nt num xn=HD at *;have hHb:HD.size<=30:=hHD;by_cases hov:(2000:Int)<=(R.size:Int)+(HD.size:Int)+(xt:Int)-(xf:Int)
    ·have e:Hid (O=(⟨#[]⟩,false)):=Me.out.trans (Gd (by omega));clear hct hle z2;go_wp2_with fail
     go_quiet (fail)
     go_wp2_with fail
     go_ret2;rw[e.out];exact⟨rfl,KX.out.trans ((Kept.refl [] _).drewN _)⟩
    ·have hle2:R.size+(HD.size+(xt-xf)+1)<=2000:=by omega
     clear hle;go_wp2_with fail
     go_quiet (fail)
     go_wp2_with fail
     go_region_law (go_simp;go_at_call 59;refine(hct.out _ (KX.out.trans (((Kept.refl [] wx).drewN _).drew))).mono ?_;rintro _ w6 ⟨rfl,k6⟩;have I6:Hid (JQ w2 w6 R (.slice oa R.size oc)):=IX.out.iN ((((Kept.refl [] wx).drewN _).drew).trans k6);clear k6)
     all_goals
      clear hct d0 d1 d2 dl s0' lgs' IX fI KX;generalize dH (fs X xf xt 0)=S at *;go_wp2_with (at_builtin;refine Lib.wpList_append_own_string (P:=Tryz.prog) _ rfl (.tmp 66) (.tmp 67) 77 9 rfl w2.heap.size 5 i0 Tryz.underlying77 Tryz.underlying9 kQ jh dP dB (.slice oa R.size oc) R.size (Lib.strCells R) rfl I6.out.row HD rfl ?_ ?_ ?_ ?_)
      ·unfold maxLen;omega
      ·omega
      ·exact I6.out.k.size
      intro v7 w7 ho7 hg7 _;have I7:Hid (JQ w2 w7 (R++HD) v7):=I6.out.grow ho7 hg7;clear ho7 hg7 I6;have e7:(R++HD).size=R.size+HD.size:=ByteArray.size_append;generalize Ek:R++HD=RH at *;have hRHH:Hid (R++HD=RH):=Ek;clear Ek;go_wp2_with (at_builtin;refine Lib.wpList_append_own_string (P:=Tryz.prog) _ rfl (.tmp 69) (.tmp 70) 77 9 rfl w2.heap.size 5 i0 Tryz.underlying77 Tryz.underlying9 kQ jh dP dB v7 RH.size (Lib.strCells RH) rfl I7.out.row S rfl ?_ ?_ ?_ ?_)
      ·unfold maxLen;omega
      ·omega
      ·exact I7.out.k.size
      intro v8 w8 ho8 hg8 _;have I8:Hid (JQ w2 w8 (RH++S) v8):=I7.out.grow (by rw[e7,z2];exact ho8) hg8;clear ho8 hg8 I7;have e8:(RH++S).size=RH.size+S.size:=ByteArray.size_append;generalize hRS:RH++S=RS at *;have hRSH:Hid (RH++S=RS):=hRS;clear hRS;have I9:Hid (∀o,JQ w2 (w8.alloc o) RS v8):=fun o=>I8.out.iN ((Kept.refl [] w8).alloc o);go_wp2_with (at_builtin;refine wpList_append_own _ rfl (.tmp 72) (.tmp 73) 77 rfl w2.heap.size 5 i0 _ 1 1 Tryz.underlying77 kQ jh dP dB rfl (by decide) v8 RS.size (Lib.strCells RS) rfl (by exact(I9.out _).row) ⟨w8.heap.size,0,none⟩ 1 1 [.int .u8 10] rfl rfl (by exact bM _ _ _ _ rfl) (by simp[Value.oneCell']) (by unfold maxLen;omega) (by omega) (by exact(I9.out _).k.size) ?kk)
      case kk=>
       intro v9 w9 ho9 hg9 _;obtain⟨g9,c9,rfl⟩:=aO ho9 (by omega);have I10:Hid (JQ w2 w9 (RS++⟨#[10]⟩) (.slice (some ⟨g9,0,none⟩) (R.size+HD.size+(xt-xf)+1) c9)):=(I9.out _).grow (S:=⟨#[10]⟩) (by rw[e8,e7,z2];exact ho9) hg9;clear ho9 hg9 I9 I8;have e10:(RS++⟨#[10]⟩:ByteArray).size=RS.size+1:=ByteArray.size_append;go_wp2
       refine⟨⟨q+1,RS++⟨#[10]⟩,some ⟨g9,0,none⟩,c9,by rw[e10,e8,e7,z2],by go_num,by omega,?_,by omega,by rw[e10,e8,e7,z2];exact I10.out⟩,by simp only[intOf];omega⟩;rw[W7.out,<-hRSH.out,<-hRHH.out,ByteArray.append_assoc,ByteArray.append_assoc,ByteArray.append_assoc]
  ·have p':q=FX.length:=by omega
   subst p';have hRF:R=nC num X FX:=by rw[hRq,List.take_length]
   have e:Hid (O=(R,true)):=Me.out.trans (by rw[hRF];exact Gc (by rw[<-hRF];exact hR2));have IH2:Hid (JQ _ _ _ _):=cC.out;clear hRq hRF hpq Br hcut Mg dZ hH;go_wp2_with fail
   go_ret2;rw[e.out];exact⟨rfl,KW.out⟩
def Jp(b mb n g:Nat)(c3 c4 c5 c6 c7 c8 c9:Value):Array Value:=#[.pointer (some ⟨b,0,none⟩),.pointer (some ⟨mb,0,none⟩),.slice (some ⟨g,0,none⟩) n n,c3,c4,c5,c6,c7,c8,c9]
structure All10 (w:World)(wk b mb n g:Nat)(c3 c4 c5 c6 c7 c8 c9:Value):Prop where
 c0:w.cell? ⟨wk,0,none⟩=some (.pointer (some ⟨b,0,none⟩))
 c1:w.cell? ⟨wk,1,none⟩=some (.pointer (some ⟨mb,0,none⟩))
 c2:w.cell? ⟨wk,2,none⟩=some (.slice (some ⟨g,0,none⟩) n n)
 c3:w.cell? ⟨wk,3,none⟩=some c3
 c4:w.cell? ⟨wk,4,none⟩=some c4
 c5:w.cell? ⟨wk,5,none⟩=some c5
 c6:w.cell? ⟨wk,6,none⟩=some c6
 c7:w.cell? ⟨wk,7,none⟩=some c7
 c8:w.cell? ⟨wk,8,none⟩=some c8
 c9:w.cell? ⟨wk,9,none⟩=some c9
 lt:wk<w.heap.size
 fz:∀j,w.frozen? ⟨wk,j,none⟩=false
theorem fE{w:World}{wk b mb n g:Nat}{c3 c4 c5 c6 c7 c8 c9:Value}(h:ah w wk (Jp b mb n g c3 c4 c5 c6 c7 c8 c9) 75):All10 w wk b mb n g c3 c4 c5 c6 c7 c8 c9:=
 ⟨h.cell 0,h.cell 1,h.cell 2,h.cell 3,h.cell 4,h.cell 5,h.cell 6,h.cell 7,h.cell 8,h.cell 9,h.lt,fun j=>h.frozen j⟩
structure jg (w:World)(wk b mb:Nat)(D:fo)(c3 c4 c5 c6 c7 c8 c9:Value)(S:jd)(g:Nat):Prop where
 aD:ah w wk (Jp b mb (3+D.nodes.length) g c3 c4 c5 c6 c7 c8 c9) 75
 row:∃f,ah w g (ar (3+D.nodes.length) f) 4/\SF D.nodes.length f=S
section
variable {w w':World}{wk b mb g:Nat}{D:fo}{c3 c4 c5 c6 c7 c8 c9:Value}{S:jd}
theorem jg.F9(h:jg w wk b mb D c3 c4 c5 c6 c7 c8 c9 S g):mh w wk b mb D c3 c4 c5 c6 c7 c8 c9 S:=by
 obtain⟨f,h1,h2⟩:=h.row;exact⟨g,f,h.aD,h1,h2⟩
theorem mh.bb(h:mh w wk b mb D c3 c4 c5 c6 c7 c8 c9 S):∃g,jg w wk b mb D c3 c4 c5 c6 c7 c8 c9 S g:=by
 obtain⟨g,f,h1,h2,h3⟩:=h.ex;exact⟨g,h1,f,h2,h3⟩
theorem jg.kept(h:jg w wk b mb D c3 c4 c5 c6 c7 c8 c9 S g)(k:Kept [] w w'):jg w' wk b mb D c3 c4 c5 c6 c7 c8 c9 S g:=by
 obtain⟨f,h1,h2⟩:=h.row;exact⟨h.aD.kept k (by simp),f,h1.kept k (by simp),h2⟩
theorem jg.Mh(h:jg w wk b mb D c3 c4 c5 c6 c7 c8 c9 S g)(i:Nat)(v:Value):∃f,ah (w.setCell ⟨wk,i,none⟩ v) g (ar (3+D.nodes.length) f) 4/\SF D.nodes.length f=S:=by
 obtain⟨f,h1,h2⟩:=h.row;refine⟨f,h1.other _ _ (fun hc=>?_),h2⟩;subst hc;have hb:=h.aD;unfold ah at hb h1;rw[hb]at h1;simp only[Option.some.injEq,Obj.cells.injEq]at h1;exact absurd h1.2.1 (by decide)
theorem jg.set3(h:jg w wk b mb D c3 c4 c5 c6 c7 c8 c9 S g)(v:Value):jg (w.setCell ⟨wk,3,none⟩ v) wk b mb D v c4 c5 c6 c7 c8 c9 S g:=⟨h.aD.set 3 v,h.Mh 3 v⟩
theorem jg.So(h:jg w wk b mb D c3 c4 c5 c6 c7 c8 c9 S g)(v:Value):jg (w.setCell ⟨wk,4,none⟩ v) wk b mb D c3 v c5 c6 c7 c8 c9 S g:=⟨h.aD.set 4 v,h.Mh 4 v⟩
theorem jg.set5(h:jg w wk b mb D c3 c4 c5 c6 c7 c8 c9 S g)(v:Value):jg (w.setCell ⟨wk,5,none⟩ v) wk b mb D c3 c4 v c6 c7 c8 c9 S g:=⟨h.aD.set 5 v,h.Mh 5 v⟩
theorem jg.C5(h:jg w wk b mb D c3 c4 c5 c6 c7 c8 c9 S g)(v:Value):jg (w.setCell ⟨wk,6,none⟩ v) wk b mb D c3 c4 c5 v c7 c8 c9 S g:=⟨h.aD.set 6 v,h.Mh 6 v⟩
theorem jg.set7(h:jg w wk b mb D c3 c4 c5 c6 c7 c8 c9 S g)(v:Value):jg (w.setCell ⟨wk,7,none⟩ v) wk b mb D c3 c4 c5 c6 v c8 c9 S g:=⟨h.aD.set 7 v,h.Mh 7 v⟩
theorem jg.wj(h:jg w wk b mb D c3 c4 c5 c6 c7 c8 c9 S g)(v:Value):jg (w.setCell ⟨wk,8,none⟩ v) wk b mb D c3 c4 c5 c6 c7 v c9 S g:=⟨h.aD.set 8 v,h.Mh 8 v⟩
theorem jg.set9(h:jg w wk b mb D c3 c4 c5 c6 c7 c8 c9 S g)(v:Value):jg (w.setCell ⟨wk,9,none⟩ v) wk b mb D c3 c4 c5 c6 c7 c8 v S g:=⟨h.aD.set 9 v,h.Mh 9 v⟩
theorem jg.put(h:jg w wk b mb D c3 c4 c5 c6 c7 c8 c9 S g){g':Nat}{f:Nat->Bool}{S':jd}(hg:ah w g' (ar (3+D.nodes.length) f) 4)(hf:SF D.nodes.length f=S'):jg (w.setCell ⟨wk,2,none⟩ (.slice (some ⟨g',0,none⟩) (3+D.nodes.length) (3+D.nodes.length))) wk b mb D c3 c4 c5 c6 c7 c8 c9 S' g':=by
 have h2:jg w wk b mb D c3 c4 c5 c6 c7 c8 c9 S g:=h;refine⟨h.aD.set 2 _,f,hg.other _ _ (fun hc=>?_),hf⟩;subst hc;have hb:=h.aD;unfold ah at hb hg;rw[hb]at hg;simp only[Option.some.injEq,Obj.cells.injEq]at hg;exact absurd hg.2.1 (by decide)
theorem jg.lt(h:jg w wk b mb D c3 c4 c5 c6 c7 c8 c9 S g):wk<w.heap.size:=h.aD.lt
end
inductive oI (w':World)(wk b mb:Nat)(D:fo)(At iC ir Told:Nat)(Out:ByteArray)(mx:Int)(y:Bool)(O2:ByteArray):Prop
 | no:y=false->mh w' wk b mb D (.int .i64 (At:Int)) (.int .i64 (iC:Int)) (.int .i64 ((ir:Int)+1)) (.int .i64 (Told:Int)) (.string Out) (.bool false) (.bool false) (l8 0)->oI w' wk b mb D At iC ir Told Out mx y O2
 | full:y=true->2000<O2.size->mh w' wk b mb D (.int .i64 (At:Int)) (.int .i64 (iC:Int)) (.int .i64 ((ir:Int)+1)) (.int .i64 (Told:Int)) (.string Out) (.bool true) (.bool false) (l8 0)->oI w' wk b mb D At iC ir Told Out mx y O2
 | more:y=true->O2.size<=2000->mh w' wk b mb D (.int .i64 (At:Int)) (.int .i64 (iC:Int)) (.int .i64 ((ir:Int)+1)) (.int .i64 ((Told:Int)+1)) (.string O2) (.bool false) (.bool ((Told:Int)+1==mx)) (l8 0)->oI w' wk b mb D At iC ir Told Out mx y O2
section
variable {w w':World}{b mb gn cap:Nat}{kv nv rv tv pv:Value}{rl top:List Nat}{U:Nat->Nat->Value}{T:List (List Nat)}{D:fo}{sel:List Nat->Bool}{aj:List Nat}{F:Nat->Prop}{num:Bool}{mx:Int}{R:gz}{X:List Nat}
theorem nw.bytes(h:nw w b mb gn cap kv nv rv tv pv rl top U T D sel aj F num mx R X){fr dst:Nat}(h1:fr<=dst)(h2:dst<=1099511627776):
 Calls Tryz.prog 68 #[.pointer (some ⟨b,0,none⟩),.int .i64 (fr:Int),.int .i64 (dst:Int)] w fun e w'=>e=.returned (.string (dH (fs X fr dst 0)))/\Kept [] w w':=by
 have hx:=h.Jh;have hb:=h.byte;have ht:=h.text;rw[ht]at hx hb;refine(Md (ps:=T.map aq) h.rs h.T1 h.syms hx h.TZ hb h1 h2 w ⟨h.G,h.L.kn⟩).mono ?_;rintro e w' ⟨rfl,bb⟩;refine⟨?_,gZ bb⟩;rw[BC,ht];rfl
end
theorem UC{num:Bool}{n:Nat}(hn:n<=1099511627777):(Nt num n).size<=22:=by
 unfold Nt;cases num
 ·show(⟨#[]⟩:ByteArray).size<=22;decide
 ·have:=uL hn;rw[if_pos rfl,ByteArray.size_append];have:(⟨#[58]⟩:ByteArray).size=1:=rfl;omega
theorem Eu{w:World}{wk b mb gn cap:Nat}{kv nv rv tv pv:Value}{rl top:List Nat}{U:Nat->Nat->Value}{T:List (List Nat)}{D:fo}{sel:List Nat->Bool}{aj:List Nat}{F:Nat->Prop}{num:Bool}{mx:Int}{R:gz}{X:List Nat}
 (hI:nw w b mb gn cap kv nv rv tv pv rl top U T D sel aj F num mx R X) (ft:∀w',Kept [wk] w w'->mj w') {At iC ir Told:Nat} {Out:ByteArray} {l:List Nat} (hl:∀c,c∈l->c<256)
 (hW:mh w wk b mb D (.int .i64 (At:Int)) (.int .i64 (iC:Int)) (.int .i64 (ir:Int)) (.int .i64 (Told:Int)) (.string Out) (.bool false) (.bool false) (gh D l (l8 0)))
 (h1:iC<=At) (h2:At<=X.length) (h3:ir<=1099511627776) (h4:Told<=2000) (h5:Out.size<=2000):
 Calls Tryz.prog 34 #[.pointer (some ⟨wk,0,none⟩)] w fun e w'=>e=.returned (.tuple #[])/\Kept [wk] w w'/\oI w' wk b mb D At iC ir Told Out mx (sel l) (Out++zT num X ⟨ir+1,iC,At⟩):=by
 obtain⟨gv,hB⟩:=hW.bb;have hx:=hI.Jh;obtain⟨hls,hlb⟩:=Jo (num:=num) (X:=X) (x:=⟨ir+1,iC,At⟩) h1 h2;simp only[]at hls hlb;have hhd:=UC (num:=num) (n:=ir+1) (by omega);have Nv:Hid ((Out++zT num X ⟨ir+1,iC,At⟩).size=Out.size+((Nt num (ir+1)).size+(At-iC)+1)):=by show _=_;rw[ByteArray.size_append,hls]
 have hO3:Hid (Out++zT num X ⟨ir+1,iC,At⟩=Out++Nt num (ir+1)++dH (fs X iC At 0)++⟨#[10]⟩):=by
  show _=_;unfold zT;simp only[ByteArray.append_assoc]
 obtain⟨y,hy⟩:∃y,y=sel l:=⟨_,rfl⟩;have hyH:Hid (y=sel l):=hy;rw[<-hy];have cC:Hid (∀w',Kept [wk] w w'->nw w' b mb gn cap kv nv rv tv pv rl top U T D sel aj F num mx R X):=fun w' k=>hI.gW k hB.aD;have Gs:Hid (jg _ _ _ _ _ _ _ _ _ _ _ _ _ _):=hB;have Mg:Hid (∀w',Kept [wk] w w'->Calls Tryz.prog 43 #[.int .i64 ((ir:Int)+1)] w' fun e qS=>e=.returned (.string (za (ir+1)))/\Kept [] w' qS):=fun w' k=>by
  have h:=Jm (ir+1) (by omega) (ft w' k);exact h
 obtain⟨f0,V',Vi⟩:=hB.row;have sl:Hid (∀w',Kept [wk] w w'->Calls Tryz.prog 67 #[.pointer (some ⟨mb,0,none⟩),.slice (some ⟨gv,0,none⟩) (3+D.nodes.length) (3+D.nodes.length)] w' fun e qS=>e=.returned (.bool y)/\Kept [] w' qS):=fun w' k=>by
  have hI':=hI.gW k hB.aD;refine(mf hI'.M hI'.R1 hI'.n (pO V' k hB.aD (by decide))).mono ?_;rintro e qS ⟨⟨y7,rfl,Up⟩,kk⟩;rw[Vi]at Up;rw[hI.s l hl y7 Up,hy];exact⟨rfl,kk⟩
 clear hI ft hW hB V' Vi hy hls;obtain⟨q0,q1,q2,q3,q4,q5,q6,q7,q8,q9,ql,qf⟩:=fE Gs.out.aD;have qf5:=qf 5;obtain⟨LL,hLL⟩:∃LL,zT num X ⟨ir+1,iC,At⟩=LL:=⟨_,rfl⟩;rw[hLL]at Nv hO3 ⊢;clear hLL;clear qf;go_enter Tryz.func34,Tryz.ntmps34
 go_upto_region 1 with fail
 obtain⟨w1,DA⟩:∃x,x=w.setCell ⟨wk,5,none⟩ (.int .i64 ((ir:Int)+1)):=⟨_,rfl⟩;rw[<-DA];have B1:Hid (jg w1 wk b mb D (.int .i64 (At:Int)) (.int .i64 (iC:Int)) (.int .i64 ((ir:Int)+1)) (.int .i64 (Told:Int)) (.string Out) (.bool false) (.bool false) (gh D l (l8 0)) gv):=by
  show jg _ _ _ _ _ _ _ _ _ _ _ _ _ _;rw[DA];exact Gs.out.set5 _
 have K1:Hid (Kept [wk] w w1):=by
  show Kept _ _ _;rw[DA];exact(Kept.refl _ _).setCell (Or.inl (by simp)) _
 clear q0 q1 q2 q3 q4 q5 q6 q7 q8 q9 ql qf5 DA Gs;obtain⟨q0,q1,q2,q3,q4,q5,q6,q7,q8,q9,ql,qf⟩:=fE B1.out.aD;clear qf q0 q3 q4 q5 q6 q7 q8 q9;go_cut [2] (fun s2 wx=>s2=.bool y/\∃z,z=wx/\Kept [] w1 z)
 case first=>
  have qz:Hid (∀w',Kept [] w1 w'->Calls _ _ _ w' _):=fun w' k=>sl.out w' (K1.out.trans (k.mono (by simp)));go_region_law (go_simp;go_at_call 67;refine(qz.out _ (by first | exact(((Kept.refl [] w1).drewN _).drew) | exact(Kept.refl [] w1).drew | exact Kept.refl _ _)).mono ?_;rintro _ w5 ⟨rfl,kk⟩;have K5:Hid (Kept [] w1 w5):=Kept.trans (by first | exact(((Kept.refl [] w1).drewN _).drew) | exact(Kept.refl [] w1).drew | exact Kept.refl _ _) kk;clear kk)
  all_goals
   go_wp2
   go_meet;exact⟨rfl,_,rfl,K5.out⟩
 case rest=>
  obtain⟨rfl,wx,Lm,kx⟩:=hcut;subst Lm;have B2:Hid (jg wx wk b mb D (.int .i64 (At:Int)) (.int .i64 (iC:Int)) (.int .i64 ((ir:Int)+1)) (.int .i64 (Told:Int)) (.string Out) (.bool false) (.bool false) (gh D l (l8 0)) gv):=B1.out.kept kx;have K2:Hid (Kept [wk] w wx):=K1.out.trans (kx.mono (by simp));clear q1 q2 ql B1 K1 kx sl;obtain⟨q0,q1,q2,q3,q4,q5,q6,q7,q8,q9,ql,qf⟩:=fE B2.out.aD;clear qf q0 q2 q3 q4 q5 q6 q7 q8 q9;have IQ:Hid (Calls _ _ _ wx _):=uI (cC.out wx K2.out).M (cC.out wx K2.out).n;go_wp2_with fail
  refine IQ.out.mono ?_;rintro _ w3 ⟨⟨g3,rfl,_,pS⟩,k3⟩;have B3:=B2.out.kept k3;have B3H:Hid (jg _ _ _ _ _ _ _ _ _ _ _ _ _ _):=B3;have K3:Hid (Kept [wk] w w3):=K2.out.trans (k3.mono (by simp));have hb3H:Hid (ah _ _ _ _):=pS;unfold di;clear q1 ql B2 K2 k3 pS IQ B3;obtain⟨q0,q1,q2,q3,q4,q5,q6,q7,q8,q9,ql,qf⟩:=fE B3H.out.aD;have qf2:=qf 2;clear qf q0 q1 q3 q4 q5 q6 q7 q8 q9;go_upto_region 3 with fail
  obtain⟨w4,Vw⟩:∃x,x=w3.setCell ⟨wk,2,none⟩ (.slice (some ⟨g3,0,none⟩) (3+D.nodes.length) (3+D.nodes.length)):=⟨_,rfl⟩;rw[<-Vw];have B4:Hid (jg w4 wk b mb D (.int .i64 (At:Int)) (.int .i64 (iC:Int)) (.int .i64 ((ir:Int)+1)) (.int .i64 (Told:Int)) (.string Out) (.bool false) (.bool false) (l8 0) g3):=by
   show jg _ _ _ _ _ _ _ _ _ _ _ _ _ _;rw[Vw];exact B3H.out.put hb3H.out (Cg (by omega))
  have K4:Hid (Kept [wk] w w4):=by
   show Kept _ _ _;rw[Vw];exact K3.out.setCell (Or.inl (by simp)) _
  clear q2 ql qf2 Vw B3H K3 hb3H;obtain⟨q0,q1,q2,q3,q4,q5,q6,q7,q8,q9,ql,qf⟩:=fE B4.out.aD;have qf8:=qf 8;clear qf q0 q2;cases y with
  | false=>
    have aA:Hid (oI w4 wk b mb D At iC ir Told Out mx false (Out++LL)):=.no rfl B4.out.F9;clear cC Mg;go_wp2
    exact bodyPost_ret (v:=.tuple #[]) (by simp[results,Tryz.results34,go_sem]) rfl ⟨rfl,K4.out,aA.out⟩
  | true=>
    have Q0:=(cC.out w4 K4.out).M.aD;have m3:w4.cell? ⟨mb,3,none⟩=some (.bool num):=Q0.cell 3;have mbl:=Q0.lt;clear Q0;have hit4:Hid (Calls _ _ _ w4 _):=Mg.out w4 K4.out;go_upto_if 50 with fail
    go_cut [3] (fun s3 wx=>s3=.string (Nt num (ir+1))/\∃z,z=wx/\Kept [] w4 z)
    case first=>
     cases num with
     | false=>
       go_wp2
       go_meet;exact⟨rfl,_,rfl,Kept.refl _ _⟩
     | true=>
       go_wp2_with fail
       refine hit4.out.mono ?_;rintro _ w5 ⟨rfl,k5⟩;have hII:=uL (n:=ir+1) (by omega);have hII2:((za (ir+1)).size:Int)<=21:=by omega
       go_wp2
       go_meet;exact⟨rfl,_,rfl,k5⟩
    case rest=>
     obtain⟨rfl,w5,Lm,k5⟩:=hcut;subst Lm;have B5:Hid (jg _ _ _ _ _ _ _ _ _ _ _ _ _ _):=B4.out.kept k5;have K5:Hid (Kept [wk] w w5):=K4.out.trans (k5.mono (by simp));clear q1 q3 q4 q5 q6 q7 q8 q9 ql qf8 m3 mbl B4 K4 k5 hit4 Mg;obtain⟨hd,hhde⟩:∃hd,hd=Nt num (ir+1):=⟨_,rfl⟩;rw[<-hhde]at hhd Nv hO3 ⊢;clear hhde;obtain⟨q0,q1,q2,q3,q4,q5,q6,q7,q8,q9,ql,qf⟩:=fE B5.out.aD;clear qf q0 q1 q2 q5 q6 q8 q9;obtain⟨c,hc⟩:∃c,c=decide ((2000:Int)<(Out.size:Int)+(hd.size:Int)+(At:Int)-(iC:Int)+1):=⟨_,rfl⟩;have xX:Hid (c=true↔(2000:Int)<(Out.size:Int)+(hd.size:Int)+(At:Int)-(iC:Int)+1):=by show _↔_;rw[hc];exact decide_eq_true_iff
     clear hc;have QL:(iC:Int)<=(At:Int):=by omega
     have An:(At:Int)<=1099511627776:=by omega
     go_upto_region 7 with fail
     go_cut [76] (fun s76 wx=>s76=.bool c/\∃z,z=wx/\Kept [] w5 z)
     case first=>
      have kd:Hid (∀k,Kept [] w5 (w5.drewN k)):=fun k=>(Kept.refl [] w5).drewN k;by_cases hP:(2000:Int)<(Out.size:Int)+(hd.size:Int)+(At:Int)-(iC:Int)+1
      ·have ecH:Hid (c=true):=xX.out.2 hP;clear xX;go_quiet (fail)
       try go_wp2_with fail
       go_meet;exact⟨by rw[ecH.out],_,rfl,by first | exact kd.out _ | exact(Kept.refl [] w5).drew | exact(((Kept.refl [] w5).drewN _).drew)⟩
      ·have ecH:Hid (c=false):=by
        show c=false;cases c with
        | false=>rfl
        | true=>exact absurd (xX.out.1 rfl) hP
       clear xX;go_quiet (fail)
       try go_wp2_with fail
       go_meet;exact⟨by rw[ecH.out],_,rfl,by first | exact kd.out _ | exact(Kept.refl [] w5).drew | exact(((Kept.refl [] w5).drewN _).drew)⟩
     case rest=>
      obtain⟨rfl,w6,Lm,k6⟩:=hcut;subst Lm;have B6:Hid (jg _ _ _ _ _ _ _ _ _ _ _ _ _ _):=B5.out.kept k6;have K6:Hid (Kept [wk] w w6):=K5.out.trans (k6.mono (by simp));clear q3 q4 q7 ql B5 K5 k6;obtain⟨q0,q1,q2,q3,q4,q5,q6,q7,q8,q9,ql,qf⟩:=fE B6.out.aD;have qf8:=qf 8;clear qf q1 q2 q5 q6 q9;cases c with
      | true=>
        have rq:Hid (2000<(Out++LL).size):=by
         have:=xX.out.1 rfl;show 2000<_;rw[Nv.out];omega
        have aA:Hid (oI (w6.setCell ⟨wk,8,none⟩ (.bool true)) wk b mb D At iC ir Told Out mx true (Out++LL)):=.full rfl rq.out (B6.out.wj _).F9;have CG:Hid (Kept [wk] w (w6.setCell ⟨wk,8,none⟩ (.bool true))):=K6.out.setCell (Or.inl (by simp)) _;clear cC xX Nv hO3 rq B6 K6;go_wp2
        exact bodyPost_ret (v:=.tuple #[]) (by simp[results,Tryz.results34,go_sem]) rfl ⟨rfl,CG.out,aA.out⟩
      | false=>
        have iZ:Hid ((Out++LL).size<=2000):=by
         have:¬((2000:Int)<(Out.size:Int)+(hd.size:Int)+(At:Int)-(iC:Int)+1):=fun h=>by have:=xX.out.2 h;cases this
         show _<=2000;rw[Nv.out];omega
        have xi:Hid (∀w',Kept [] w6 w'->Calls Tryz.prog 68 #[.pointer (some ⟨b,0,none⟩),.int .i64 (iC:Int),.int .i64 (At:Int)] w' fun e qS=>e=.returned (.string (dH (fs X iC At 0)))/\Kept [] w' qS):=fun w' k=>(cC.out w' (K6.out.trans (k.mono (by simp)))).bytes h1 (by omega);obtain⟨ln,hln⟩:∃ln,ln=dH (fs X iC At 0):=⟨_,rfl⟩;rw[<-hln]at xi hO3 hlb;clear hln xX;go_upto_region 9 with fail
        go_cut [4] (fun s4 wx=>s4=.string ln/\∃z,z=wx/\Kept [] w6 z)
        case first=>
         go_region_law (go_simp;go_at_call 68;refine(xi.out _ (by first | exact(((Kept.refl [] w6).drewN _).drew) | exact(Kept.refl [] w6).drew | exact Kept.refl _ _)).mono ?_;rintro _ w7 ⟨rfl,kk⟩;have K7:Hid (Kept [] w6 w7):=Kept.trans (by first | exact(((Kept.refl [] w6).drewN _).drew) | exact(Kept.refl [] w6).drew | exact Kept.refl _ _) kk;clear kk)
         all_goals
          go_wp2
          go_meet;exact⟨rfl,_,rfl,K7.out⟩
        case rest=>
         obtain⟨rfl,w7,Lm,k7⟩:=hcut;subst Lm;have B7:Hid (jg _ _ _ _ _ _ _ _ _ _ _ _ _ _):=B6.out.kept k7;have K7:Hid (Kept [wk] w w7):=K6.out.trans (k7.mono (by simp));clear q0 q3 q4 q7 q8 ql qf8 B6 K6 k7 xi;obtain⟨q0,q1,q2,q3,q4,q5,q6,q7,q8,q9,ql,qf⟩:=fE B7.out.aD;have qf7:=qf 7;clear qf q0 q1 q2 q3 q4 q5 q6 q8 q9;go_upto_region 11 with fail
         have hO4:Hid (Out++hd++ln++⟨#[10]⟩=Out++LL):=hO3.out.symm;rw[hO4.out];obtain⟨w8,hw8⟩:∃x,x=w7.setCell ⟨wk,7,none⟩ (.string (Out++LL)):=⟨_,rfl⟩;rw[<-hw8];have B8:Hid (jg w8 wk b mb D (.int .i64 (At:Int)) (.int .i64 (iC:Int)) (.int .i64 ((ir:Int)+1)) (.int .i64 (Told:Int)) (.string (Out++LL)) (.bool false) (.bool false) (l8 0) g3):=by
          show jg _ _ _ _ _ _ _ _ _ _ _ _ _ _;rw[hw8];exact B7.out.set7 _
         have K8:Hid (Kept [wk] w w8):=by
          show Kept _ _ _;rw[hw8];exact K7.out.setCell (Or.inl (by simp)) _
         clear q7 ql qf7 hw8 B7 K7 hO3 hO4;obtain⟨q0,q1,q2,q3,q4,q5,q6,q7,q8,q9,ql,qf⟩:=fE B8.out.aD;have qf6:=qf 6;clear qf q0 q1 q2 q3 q4 q5 q7 q8 q9;go_upto_region 12 with fail
         obtain⟨w9,hw9⟩:∃x,x=w8.setCell ⟨wk,6,none⟩ (.int .i64 ((Told:Int)+1)):=⟨_,rfl⟩;rw[<-hw9];have B9:Hid (jg w9 wk b mb D (.int .i64 (At:Int)) (.int .i64 (iC:Int)) (.int .i64 ((ir:Int)+1)) (.int .i64 ((Told:Int)+1)) (.string (Out++LL)) (.bool false) (.bool false) (l8 0) g3):=by
          show jg _ _ _ _ _ _ _ _ _ _ _ _ _ _;rw[hw9];exact B8.out.C5 _
         have K9:Hid (Kept [wk] w w9):=by
          show Kept _ _ _;rw[hw9];exact K8.out.setCell (Or.inl (by simp)) _
         clear q6 ql qf6 hw9 B8 K8;obtain⟨q0,q1,q2,q3,q4,q5,q6,q7,q8,q9,ql,qf⟩:=fE B9.out.aD;have qf9:=qf 9;clear qf q0 q2 q3 q4 q5 q7 q8;have Q0:=(cC.out w9 K9.out).M.aD;have m4:w9.cell? ⟨mb,4,none⟩=some (.int .i64 mx):=Q0.cell 4;have mbl:=Q0.lt;have aA:Hid (oI (w9.drew.setCell ⟨wk,9,none⟩ (.bool ((Told:Int)+1==mx))) wk b mb D At iC ir Told Out mx true (Out++LL)):=.more rfl iZ.out ((B9.out.kept ((Kept.refl [] w9).drew)).set9 _).F9;have CG:Hid (Kept [wk] w (w9.drew.setCell ⟨wk,9,none⟩ (.bool ((Told:Int)+1==mx)))):=(K9.out.drew).setCell (Or.inl (by simp)) _;clear Q0 cC B9 K9 Nv iZ;go_region
         go_wp2
         go_end0;exact⟨rfl,CG.out,aA.out⟩
theorem Qh{f:ByteArray}(hf:f.size<=maxLen){t:TT}(ht:cA f t)(hl:t.whole.len<=1099511627776)(w:World):
 Calls Tryz.prog 45 #[.string f] w fun e w'=>Below w.heap.size w w'/\∃rv sv,tD w' w.heap.size t rv sv/\e=.returned (.tuple #[.agg (t.cells rv sv),.int .i64 0]):=by
 refine(xN f hf w).mono ?_;rintro e w' ⟨hb,⟨hn,_⟩|⟨t',X7,⟨h3,_⟩|⟨_,rv,sv,h4,h5⟩⟩⟩
 ·exact absurd ht (hn _)
 ·have:=X7.one ht;subst this;omega
 ·have:=X7.one ht;subst this;exact⟨hb,rv,sv,h4,h5⟩
theorem Qi{f:ByteArray}(hf:f.size<=maxLen)(hn:∀t,¬cA f t)(w:World):
 Calls Tryz.prog 45 #[.string f] w fun e w'=>e=.returned (.tuple #[.agg az,.int .i64 4])/\Below w.heap.size w w':=by
 refine(xN f hf w).mono ?_;rintro e w' ⟨hb,⟨_,he⟩|⟨t',X7,_⟩⟩
 ·exact⟨he,hb⟩
 ·exact absurd X7 (hn _)
theorem UD{f:ByteArray}(hf:f.size<=maxLen){t:TT}(ht:cA f t)(hl:1099511627776<t.whole.len)(w:World):
 Calls Tryz.prog 45 #[.string f] w fun e w'=>e=.returned (.tuple #[.agg az,.int .i64 5])/\Below w.heap.size w w':=by
 refine(xN f hf w).mono ?_;rintro e w' ⟨hb,⟨hn,_⟩|⟨t',X7,⟨_,he⟩|⟨h3,_⟩⟩⟩
 ·exact absurd ht (hn _)
 ·exact⟨he,hb⟩
 ·have:=X7.one ht;subst this;omega
def su(O:ByteArray×Bool):ByteArray×Int:=if O.2=true then (O.1,0) else (⟨#[]⟩,7)
theorem Nw{inv fold whole num:Bool}{mx x:Int}{p f:ByteArray}(w:World)(hx:x≠0)(hc:∀w,Calls Tryz.prog 30 #[.agg #[.bool inv,.bool fold,.bool whole,.bool num,.int .i64 mx],.string p,.string f] w fun e w'=>e=.returned (.tuple #[.agg iq,.int .i64 x])/\Below w.heap.size w w'):
 Calls Tryz.prog 9 #[.agg #[.bool inv,.bool fold,.bool whole,.bool num,.int .i64 mx],.string p,.string f] w fun e w'=>e=.returned (.tuple #[.string ⟨#[]⟩,.int .i64 x])/\Below w.heap.size w w':=by
 have xX:Hid (∀w,Calls _ _ _ w _):=hc;clear hc;unfold iq at xX;have h0:Hid (∀o,Below w.heap.size w (w.alloc o)):=fun o=>(Below.refl _ _).alloc (Nat.le_refl _) o;have hxb:(x != 0)=true:=by simp[hx]
 go_enter Tryz.func9,Tryz.ntmps9
 go_wp2_with (go_at_call 30;refine(xX.out _).mono ?_;rintro e w1 ⟨rfl,b1⟩;have B1:Hid (Below w.heap.size w w1):=(h0.out _).trans (b1.mono (by simp)))
 go_ret2;exact⟨rfl,B1.out.alloc B1.out.size _⟩
theorem W8{inv fold whole num:Bool}{mx:Int}{M:MP}{p f:ByteArray}{t:TT}{T:List (List Nat)}(w:World)(ft:mj w)(P0:-9223372036854775808<=mx)(sZ:mx<=9223372036854775807)(hS:pJ t T)(hl:t.whole.len<=1099511627776)(hc:∀w,Calls Tryz.prog 30 #[.agg #[.bool inv,.bool fold,.bool whole,.bool num,.int .i64 mx],.string p,.string f] w fun e w'=>OpOk w w' inv mx M t T e):
 Calls Tryz.prog 9 #[.agg #[.bool inv,.bool fold,.bool whole,.bool num,.int .i64 mx],.string p,.string f] w fun e w'=>e=.returned (.tuple #[.string (su (jL num (t.start.flatMap (af T)) (Q3 M inv mx (t.start.flatMap (af T))))).1,.int .i64 (su (jL num (t.start.flatMap (af T)) (Q3 M inv mx (t.start.flatMap (af T))))).2])/\Below w.heap.size w w':=by
 have xX:Hid (∀w,Calls _ _ _ w _):=hc;have hlen:Hid ((t.start.flatMap (af T)).length<=1099511627776):=by show _<=_;rw[hS.len hl];exact hl
 have ZP:Hid (pJ t T):=hS;have zw:Hid (mj w):=ft;have Hu:Hid (t.whole.len<=1099511627776):=hl;clear hc hS ft hl;have h0:Hid (∀o,Below w.heap.size w (w.alloc o)):=fun o=>(Below.refl _ _).alloc (Nat.le_refl _) o;obtain⟨O,hO⟩:∃O,Hid (jL num (t.start.flatMap (af T)) (Q3 M inv mx (t.start.flatMap (af T)))=O):=⟨_,rfl⟩;rw[hO.out];obtain⟨G,hG⟩:∃G,G=su O:=⟨_,rfl⟩;rw[<-hG];obtain⟨s,b⟩:=O;have hGt:Hid (b=true->G=(s,0)):=fun h=>by rw[hG];subst h;rfl
 have hGf:Hid (b=false->G=(⟨#[]⟩,7)):=fun h=>by rw[hG];subst h;rfl
 clear hG;go_enter Tryz.func9,Tryz.ntmps9
 go_wp2_with fail
 refine(xX.out _).mono ?_;rintro e w1 ⟨b1,bt,gp,N,L,rv,sv,ps,rfl,WK⟩;have hBb:Below w.heap.size w w1:=(h0.out _).trans (b1.mono (by simp));have B1:Hid (Below w.heap.size w w1):=hBb;have GI:Hid (fD (w1.alloc (.cells (jD bt M.cL inv mx (.slice (some ⟨gp,0,none⟩) (256+t.rules.length) (256+t.rules.length))) 60)) w1.heap.size bt gp N L inv mx M t rv sv T ps):=
  ⟨⟨ah.new w1 _ _,WK.kept ((Kept.refl [] w1).alloc _)⟩,ZP.out,hlen.out⟩
 have Rq:Hid (∀o,mj (w1.alloc o)):=fun o=>zw.out.kept ((gZ hBb).alloc o);have bx:w1.cell? ⟨w.heap.size,3,none⟩=some (.bool num):=by
  have:ah w1 w.heap.size #[.bool inv,.bool fold,.bool whole,.bool num,.int .i64 mx] 23:=ah.kept (ah.new w _ _) (gZ b1) (by simp);exact this.cell 3
 have lx:w.heap.size<w1.heap.size:=by have:=b1.size;simp at this;omega
 clear WK b1 hBb;unfold jD at GI ⊢;go_wp2_with fail
 refine(Mf GI.out P0 sZ Hu.out (Rq.out _) num).mono ?_;rintro e w2 ⟨he,k2⟩;rw[hO.out]at he;subst he;have B2:Hid (Below w.heap.size w w2):=(B1.out.alloc B1.out.size _).trans (k2.below (by have:=B1.out.size;simp;omega) (by simp));clear k2 GI;cases b with
 | true=>
   go_wp2
   go_ret2;rw[hGt.out trivial];exact⟨rfl,B2.out⟩
 | false=>
   go_wp2
   go_ret2;rw[hGf.out trivial];exact⟨rfl,B2.out⟩
abbrev Ent:=Nat×Nat
section
variable {w w':World}{b most V K:Nat}{bP:List Ent}{v jv:Value}
end
structure WS where
 V:Nat
 K:Nat
 bP:List Ent
structure WInv (most q:Nat)(s:WS)(num:Option Nat):Prop where
 len:s.bP.length<=q
 room:s.bP=[]\/257+s.bP.length<=2 ^ most
 bits:s.K<=8+12*q
 num:∀a,num=some a->a<257+s.bP.length/\a≠256
 Vs:∀(i:Nat) (x:Ent),s.bP[i]?=some x->x.1<257+i/\x.1≠256/\x.2<256
end Go.Proofs.YtgifhgnccmnbiabGreatDoor
namespace Go.Proofs.YtgifhgnccmnbiabGreatDoor
structure Cand where
 n:Nat
 a:Nat
 b:Nat
def better(p q:Cand):Prop:=q.n<p.n\/(p.n=q.n/\(p.a<q.a\/(p.a=q.a/\p.b<q.b)))
instance (p q:Cand):Decidable (better p q):=by unfold better;infer_instance
end Go.Proofs.YtgifhgnccmnbiabGreatDoor
namespace Go.Proofs.YtgifhgnccmnbiabGreatDoor
open Go.RowKit Go.IntWalk
def rowF(n:Nat)(f:Nat->Value):Array Value:=((List.range n).map f).toArray
@[simp] theorem rowF_size (n:Nat) (f:Nat->Value):(rowF n f).size=n:=by simp[rowF]
def nx(s:Nat):List Nat->Nat
 | []=>0
 | x :: r=>if x=s then 0 else nx s r+1
def XW(l:List Cand):List Value:=l.flatMap fun p=>[.int .i64 (p.a:Int),.int .i64 (p.b:Int),.int .i64 (p.n:Int)]
end Go.Proofs.YtgifhgnccmnbiabGreatDoor
namespace Go.Proofs.YtgifhgnccmnbiabGreatDoor
end Go.Proofs.YtgifhgnccmnbiabGreatDoor
namespace Go.Proofs.YtgifhgnccmnbiabGreatDoor
open Go.RowKit Go.IntWalk
def Qj(v:Nat):List Nat:=[v % 256,v / 256]
def UE(tx:List Nat)(n:Nat):Nat:=if n=0 then tx.getD 0 0 else 255+n
def secOf(tx:List Nat)(n:Nat):Nat:=if n+1<tx.length then tx.getD (n+1) 0 else UE tx n
def rulesL(tx:List Nat)(n:Nat):List Nat:=(List.range n).flatMap fun i=>Qj (UE tx i)++Qj (secOf tx i)
def fileL(tx:List Nat)(k:Nat)(more:List Nat):List Nat:=
 [83,71,tx.length-1+k]++rulesL tx (tx.length-1+k)++Qj (1+more.length)++Qj (UE tx (tx.length-1+k))++more.flatMap Qj
structure Dbl (f:ByteArray)(tx:List Nat)(k:Nat)(more:List Nat):Prop where
 file:aU f=fileL tx k more
 pos:1<=tx.length
 len:tx.length<=40
 k:k<=40
 mlen:more.length<=600
 byte:∀c,c∈tx->c<256
 mbyte:∀c,c∈more->c<256
section
variable {f:ByteArray}{tx more:List Nat}{k:Nat}(h:Dbl f tx k more)
include h
end
section
variable {f:ByteArray}{tx more:List Nat}{k:Nat}(h:Dbl f tx k more)
include h
end
section
variable {f:ByteArray}{tx more:List Nat}{k:Nat}(h:Dbl f tx k more)
include h
end
section
variable {f:ByteArray}{tx more:List Nat}{k:Nat}(h:Dbl f tx k more)
include h
end
structure zU (f:ByteArray)(kind:Int)(X:List Nat):Prop where
 ex:∃t T,cA f t/\pJ t T/\t.start.flatMap (af T)=X/\t.kind=kind
section
variable {f:ByteArray}{kind:Int}{X:List Nat}(h:zU f kind X)
include h
end
structure GNum (f:ByteArray)(q:Nat)(L:List Nat):Prop where
 file:aU f=[83,71,q]++L.flatMap Qj
section
variable {f:ByteArray}{q:Nat}{L:List Nat}(h:GNum f q L)
include h
end
section
variable {t:ByteArray}{q:Nat}(ht:t.size<=600)(hq:q<=100)
include ht hq
end
def ye(mx:Int)(p:ByteArray)(x:Int):Prop:=(mx<0/\x=1)\/(0<=mx/\zv p x)
theorem Qk(mx:Int)(p:ByteArray):(∃x,ye mx p x)\/(0<=mx/\∃r,iy p r):=by
 by_cases h:mx<0
 ·exact Or.inl ⟨1,Or.inl ⟨h,rfl⟩⟩
 ·rcases O' p with⟨x,hx⟩|⟨r,hr⟩
  ·exact Or.inl ⟨x,Or.inr ⟨by omega,hx⟩⟩
  ·exact Or.inr ⟨by omega,r,hr⟩
theorem zv.nz{p:ByteArray}{x:Int}(h:zv p x):x≠0:=by
 rcases h with⟨_,rfl⟩|⟨_,r,_,⟨_,rfl⟩|⟨_,_,rfl⟩⟩ <;> decide
theorem ye.nz{mx:Int}{p:ByteArray}{x:Int}(h:ye mx p x):x≠0:=by
 rcases h with⟨_,rfl⟩|⟨_,h⟩
 ·decide
 ·exact h.nz
section
variable {inv fold whole num:Bool}{mx x:Int}{p f:ByteArray}
theorem Ql(h:ye mx p x)(hp:p.size<=maxLen)(w:World):
 Calls Tryz.prog 55 #[.agg #[.bool inv,.bool fold,.bool whole,.bool num,.int .i64 mx],.string p] w fun e w'=>e=.returned (.tuple #[.agg #[.slice none 0 0,.int .i64 0],.int .i64 x])/\Below w.heap.size w w':=by
 rcases h with⟨h,rfl⟩|⟨h0,h⟩
 ·exact OI inv fold whole num mx p w h
 ·exact Qa h inv fold whole num mx w h0 hp
end
section
variable {inv fold whole num:Bool}{mx x:Int}{p f:ByteArray}
theorem UF(h:ye mx p x)(hp:p.size<=maxLen)(f:ByteArray)(w:World):
 Calls Tryz.prog 9 #[.agg #[.bool inv,.bool fold,.bool whole,.bool num,.int .i64 mx],.string p,.string f] w fun e w'=>e=.returned (.tuple #[.string ⟨#[]⟩,.int .i64 x])/\Below w.heap.size w w':=
 Nw w h.nz (fun w=>TI w h.nz (fun w=>Ql h hp w))
theorem zU.grep{kind:Int}{X:List Nat}(h:zU f kind X)(hX:X.length<=1099511627776)(hf:f.size<=maxLen){r:Nat×PS}(hr:iy p r)(tV:0<=mx)(sZ:mx<=9223372036854775807)(w:World)(ft:mj w):
 Calls Tryz.prog 9 #[.agg #[.bool inv,.bool fold,.bool whole,.bool num,.int .i64 mx],.string p,.string f] w fun e w'=>e=.returned (.tuple #[.string (su (jL num X (Q3 (lK r fold whole) inv mx X))).1,.int .i64 (su (jL num X (Q3 (lK r fold whole) inv mx X))).2])/\Below w.heap.size w w':=by
 obtain⟨t,T,h1,h2,h3,_⟩:=h.ex;have hw:t.whole.len<=1099511627776:=by rw[h2.whole,h3,gR,jx (by omega)];exact hX
 have:=W8 (inv:=inv) (fold:=fold) (whole:=whole) (num:=num) w ft (by omega) sZ h2 hw (fun w=>TJ hr w tV h2 (fun w=>Qh hf h1 hw w));rwa [h3]at this
end
theorem run_set(M:MP)(l:ByteArray):∀q,q<=l.size->runM M ((aU l).take q) M.cL=xA M l q
 | 0,_=>by rw[List.take_zero];rfl
 | q+1,hq=>by
   have hb:(aU l)[q]?=some l[q].toNat:=by
    unfold aU;rw[List.getElem?_map,Array.getElem?_toList,Array.getElem?_eq_getElem (show q<l.data.size from hq)];rfl
   rw[List.take_add_one,hb,pG,run_set M l q (by omega)];show cn M (M.bn l[q].toNat) (xA M l q)=cn M (M.bn (if h:q<l.size then l[q].toNat else 0)) (xA M l q);rw[dif_pos (by omega)]
theorem W9{p:ByteArray}{r:Nat×PS}(h:iy p r)(fold whole inv:Bool)(l:ByteArray):qQ (lK r fold whole) inv (aU l)=(KU r fold whole l != inv):=by
 have e:KU r fold whole l=rM (lK r fold whole) l:=(Sj p r h.small h.ev h.ej h.size fold whole l).symm;have e2:=run_set (lK r fold whole) l l.size (Nat.le_refl _);rw[List.take_of_length_le (by rw[iR];omega)]at e2;rw[e];unfold qQ rM;rw[e2];generalize decide (xA (lK r fold whole) l l.size&&&(lK r fold whole).en=0#64)=d;cases d <;> cases inv <;> rfl
def sy(T:List (List Nat))(a:Nat):List Nat:=if a<256 then [a] else T.getD (a-257) []
structure ZR (t:ByteArray)(wd:Nat)(B:ByteArray)(q:Nat)(ws:WS)(a n:Nat)(r:ZB)(T:List (List Nat)):Prop where
 it:qj B wd n=some r
 on:∀i,i<n->∃x,qj B wd i=some x/\lJ B wd x=true
 num:r.n=n
 inv:Vr B r
 p:ws.K=8+r.p
 bd:ws.V<2 ^ ws.K
 ZS:T.length=ws.bP.length
 Vs:∀(i:Nat) (y:Ent),ws.bP[i]?=some y->T.getD i []=sy T y.1++[y.2]
 rt:∀i,i<r.bP.length->aU (r.bP.getD i ByteArray.empty)=T.getD i []
 out:aU r.out++sy T a=(aU t).take q
 st:(r.last.size=0/\r.bP=[]/\ws.bP=[])\/(r.last.size≠0 /\
  ((r.bP.length+1=ws.bP.length/\257+r.bP.length<2 ^ wd/\T.getD r.bP.length []=aU r.last++[(sy T a).headD 0]) \/
   (r.bP.length=ws.bP.length/\2 ^ wd=257+r.bP.length)))
 ne:sy T a≠[]
section
variable {t:ByteArray}{wd:Nat}{B:ByteArray}{q:Nat}{ws:WS}{a n:Nat}{r:ZB}{T:List (List Nat)}(h:ZR t wd B q ws a n r T)(hI:WInv wd q ws (some a))(XC:9<=wd/\wd<=12)
include h hI XC
end
section
variable {t:ByteArray}{wd:Nat}(ht:t.size<=600)(XC:9<=wd/\wd<=12)
include ht XC
end
end Go.Proofs.YtgifhgnccmnbiabGreatDoor
namespace Go.Proofs.YtgifhgnccmnbiabGreatDoor
def fp(mx:Int)(l:List FL):List FL:=if mx=0 then l else l.take mx.toNat
end Go.Proofs.YtgifhgnccmnbiabGreatDoor
namespace Go.Proofs.YtgifhgnccmnbiabGreatDoor
open Go.RowKit Go.IntWalk
theorem yg:∀(X u:List Nat),(fv u X).2.length=if oL X=0 then u.length+X.length else lf X
 | [],u=>by rw[eW];simp[oL]
 | c :: X,u=>by
   have ha:=Fp [c] X;have ht:=DY [c] X;have e1:([c]:List Nat)++X=c :: X:=rfl;rw[e1]at ha ht;by_cases h:c=10
   ·subst h;have h1:oL [10]=1:=rfl;rw[fU,yg X [],ha,h1,if_neg (show ¬ 1+oL X=0 by omega),ht];by_cases hn:oL X=0
    ·rw[if_pos hn,if_pos hn];show 0+X.length=lf [10]+X.length;rfl
    ·rw[if_neg hn,if_neg hn]
   ·have h1:oL [c]=0:=by unfold oL;simp[h]
    rw[pF h,yg X (u++[c]),ha,h1,Nat.zero_add];by_cases hn:oL X=0
    ·rw[if_pos hn,if_pos hn];simp;omega
    ·rw[if_neg hn,if_neg hn,ht,if_neg hn]
section
variable (sel:List Nat->Bool)
def lC(Y:List Nat):List FL:=lu sel 0 0 (ax Y)
def tJ(X:List Nat):List FL:=lu sel 0 0 (jA X)
end
section
variable {sel:List Nat->Bool}{num:Bool}{mx:Int}
theorem zV(Y x:List Nat):lC sel (Y++x)=lC sel Y++lu sel (dW (ax Y)) (ax Y).length (wU (aH Y) x):=by
 unfold lC wU;rw[gx,Cd,Nat.zero_add,Nat.zero_add]
theorem UG{Y x:List Nat}(h:((wU (aH Y) x).filter sel).length=0):lC sel (Y++x)=lC sel Y:=by
 rw[zV];have:(lu sel (dW (ax Y)) (ax Y).length (wU (aH Y) x)).length=0:=by rw[pK];exact h
 rw[List.eq_nil_of_length_eq_zero this,List.append_nil]
theorem ny(Y:List Nat):dW (ax Y)+(aH Y).length=Y.length:=by
 have:=wO Y [];simpa [ax,aH] using this
theorem UH(Y:List Nat):lC sel (Y++[10])=lC sel Y++if sel (aH Y)=true then [⟨(ax Y).length+1,dW (ax Y),Y.length⟩] else []:=by
 rw[zV];congr 1
 have e:wU (aH Y) [10]=[aH Y]:=by unfold wU;rw[fU,eW]
 rw[e];unfold lu;have:=ny Y;split
 ·rw[this];rfl
 ·rfl
theorem Cp(X:List Nat):tJ sel X=if aH X=[] then lC sel X else lC sel (X++[10]):=by
 unfold tJ lC;rw[mD];by_cases h:aH X=[]
 ·rw[if_pos h,if_pos h,List.append_nil]
 ·rw[if_neg h,if_neg h,gx,fU,eW]
theorem Xa(P Z:List Nat):∃M,tJ sel (P++Z)=lC sel P++M:=by
 rw[Cp];split
 ·exact⟨_,zV P Z⟩
 ·rw[List.append_assoc];exact⟨_,zV P _⟩
theorem Qm{A M:List FL}(h:mx=0\/(A.length:Int)<=mx)(h0:0<=mx):(fp mx (A++M)).take A.length=A:=by
 unfold fp;split
 ·rw[List.take_left]
 ·rw[List.take_take,Nat.min_eq_left (by omega),List.take_left]
theorem Qn{A M:List FL}(h:(A.length:Int)=mx)(h0:0<mx):fp mx (A++M)=A:=by
 unfold fp;rw[if_neg (by omega),show mx.toNat=A.length by omega,List.take_left]
theorem Jq{X:List Nat}{A M:List FL}(hX:tJ sel X=A++M)(h:mx=0\/(A.length:Int)<=mx)(h0:0<=mx)(hb:2000<(nC num X A).size):jL num X (fp mx (tJ sel X))=(⟨#[]⟩,false):=by
 refine Gd ?_;have h1:=Uy num X (fp mx (tJ sel X)) A.length;rw[hX,Qm h h0]at h1;rw[hX];omega
theorem Mi{X:List Nat}{A M:List FL}(hX:tJ sel X=A++M)(h:(A.length:Int)=mx)(h0:0<mx)(hb:(nC num X A).size<=2000):jL num X (fp mx (tJ sel X))=(nC num X A,true):=by
 rw[hX,Qn h h0];exact Gc hb
theorem Ge{X:List Nat}(h:mx=0\/((tJ sel X).length:Int)<=mx)(hb:(nC num X (tJ sel X)).size<=2000):jL num X (fp mx (tJ sel X))=(nC num X (tJ sel X),true):=by
 have e:fp mx (tJ sel X)=tJ sel X:=by
  unfold fp;split
  ·rfl
  ·exact List.take_of_length_le (by omega)
 rw[e];exact Gc hb
theorem Ny(Y x:List Nat):(ax (Y++x)).length=(ax Y).length+oL x/\dW (ax (Y++x))=if oL x=0 then dW (ax Y) else Y.length+x.length-lf x:=by
 have hc:=iY x (aH Y);refine⟨by rw[gx,List.length_append,hc],?_⟩;have h1:=ny (Y++x);have h2:=ny Y;rw[pH,yg x (aH Y),List.length_append]at h1;by_cases h:oL x=0
 ·rw[if_pos h]at h1 ⊢;omega
 ·rw[if_neg h]at h1 ⊢;omega
end
structure dN (w:World)(wk b mb:Nat)(D:fo)(sel:List Nat->Bool)(num:Bool)(mx:Int)(X Y:List Nat):Prop where
 F9:mh w wk b mb D (.int .i64 (Y.length:Int)) (.int .i64 ((dW (ax Y):Nat):Int)) (.int .i64 (((ax Y).length:Nat):Int)) (.int .i64 (((lC sel Y).length:Nat):Int)) (.string (nC num X (lC sel Y))) (.bool false) (.bool false) (gh D (aH Y) (l8 0))
 small:(nC num X (lC sel Y)).size<=2000
 X8:mx=0\/((lC sel Y).length:Int)<mx
inductive yh (w:World)(wk b mb:Nat)(D:fo)(O:ByteArray×Bool):Prop
 | full {a3 a4:Int} {c5 c6 c7:Value} {S:jd}:O=(⟨#[]⟩,false)->mh w wk b mb D (.int .i64 a3) (.int .i64 a4) c5 c6 c7 (.bool true) (.bool false) S->yh w wk b mb D O
 | Gf {a3 a4:Int} {c5 c6:Value} {B:ByteArray} {S:jd}:O=(B,true)->mh w wk b mb D (.int .i64 a3) (.int .i64 a4) c5 c6 (.string B) (.bool false) (.bool true) S->yh w wk b mb D O
section
variable {w w':World}{wk b mb:Nat}{D:fo}{sel:List Nat->Bool}{num:Bool}{mx:Int}{X Y:List Nat}{O:ByteArray×Bool}
theorem Gg(num:Bool)(X:List Nat)(l:List FL)(h:(nC num X l).size<=2000):l.length<=2000:=Nat.le_trans (Nu num X l) h
theorem oI.next(h0:0<=mx)(hA:dN w wk b mb D sel num mx X Y){Z:List Nat}(hX:X=Y++[10]++Z)
 (h:oI w' wk b mb D Y.length (dW (ax Y)) (ax Y).length (lC sel Y).length (nC num X (lC sel Y)) mx (sel (aH Y)) (nC num X (lC sel Y)++zT num X ⟨(ax Y).length+1,dW (ax Y),Y.length⟩)):
 ∃c5 c6 c7 c8 c9,mh w' wk b mb D (.int .i64 (Y.length:Int)) (.int .i64 ((dW (ax Y):Nat):Int)) c5 c6 c7 c8 c9 (l8 0) /\
  ∀w2,mh w2 wk b mb D (.int .i64 ((Y.length:Int)+1)) (.int .i64 ((Y.length:Int)+1)) c5 c6 c7 c8 c9 (l8 0)->dN w2 wk b mb D sel num mx X (Y++[10])\/yh w2 wk b mb D (jL num X (fp mx (tJ sel X))):=by
 obtain⟨l1,l2⟩:=Ny Y [10];have n1:oL [10]=1:=rfl;have n2:lf [10]=0:=rfl;rw[n1]at l1 l2;rw[if_neg (by decide),n2]at l2;have l3:(Y++[10]).length=Y.length+1:=by simp
 have l4:dW (ax (Y++[10]))=Y.length+1:=by rw[l2];simp
 have l5:aH (Y++[10])=[]:=by rw[pH,fU,eW]
 have e1:(.int .i64 ((Y.length:Int)+1):Value)=.int .i64 ((Y++[10]).length:Int):=by rw[l3];rfl
 have e2:(.int .i64 ((Y.length:Int)+1):Value)=.int .i64 ((dW (ax (Y++[10])):Nat):Int):=by rw[l4];rfl
 have e3:(.int .i64 (((ax Y).length:Int)+1):Value)=.int .i64 (((ax (Y++[10])).length:Nat):Int):=by rw[l1];rfl
 have pM:=UH (sel:=sel) Y;obtain⟨M,hM⟩:=Xa (sel:=sel) (Y++[10]) Z;rw[<-hX]at hM;have e4:l8 0=gh D (aH (Y++[10])) (l8 0):=by rw[l5];rfl
 cases h with
 | no hy hw=>
   rw[if_neg (by rw[hy];decide),List.append_nil]at pM;refine⟨_,_,_,_,_,hw,fun w2 h2=>Or.inl ⟨?_,by rw[pM];exact hA.small,by rw[pM];exact hA.X8⟩⟩;rw[<-e1,<-e2,<-e3,<-e4,pM];exact h2
 | full hy hb hw=>
   rw[if_pos hy]at pM;have hs:nC num X (lC sel (Y++[10]))=nC num X (lC sel Y)++zT num X ⟨(ax Y).length+1,dW (ax Y),Y.length⟩:=by rw[pM];exact ss _ _ _ _
   have hl:(lC sel (Y++[10])).length=(lC sel Y).length+1:=by rw[pM];simp
   have hf:=hA.X8;refine⟨_,_,_,_,_,hw,fun w2 h2=>Or.inr (.full (Jq hM (by rw[hl];omega) h0 (by rw[hs];exact hb)) h2)⟩
 | more hy hb hw=>
   rw[if_pos hy]at pM;have hs:nC num X (lC sel (Y++[10]))=nC num X (lC sel Y)++zT num X ⟨(ax Y).length+1,dW (ax Y),Y.length⟩:=by rw[pM];exact ss _ _ _ _
   have hl:(lC sel (Y++[10])).length=(lC sel Y).length+1:=by rw[pM];simp
   have hf:=hA.X8;rw[<-hs]at hw hb;refine⟨_,_,_,_,_,hw,fun w2 h2=>?_⟩;by_cases hq:((lC sel Y).length:Int)+1=mx
   ·rw[show(((lC sel Y).length:Int)+1==mx)=true from beq_iff_eq.2 hq]at h2;exact Or.inr (.Gf (Mi hM (by rw[hl];omega) (by omega) hb) h2)
   ·rw[show(((lC sel Y).length:Int)+1==mx)=false from beq_eq_false_iff_ne.2 hq]at h2;refine Or.inl ⟨?_,hb,by rw[hl];omega⟩;rw[<-e1,<-e2,<-e3,<-e4,hl];exact h2
theorem dN.over(hA:dN w wk b mb D sel num mx X Y){x:List Nat}(hn:((wU (aH Y) x).filter sel).length=0)
 (h:mh w' wk b mb D (.int .i64 ((Y.length:Int)+(x.length:Int))) (.int .i64 (if oL x=0 then ((dW (ax Y):Nat):Int) else (Y.length:Int)+(x.length:Int)-(lf x:Int))) (.int .i64 (((ax Y).length:Int)+(oL x:Int))) (.int .i64 (((lC sel Y).length:Nat):Int)) (.string (nC num X (lC sel Y))) (.bool false) (.bool false) (gh D (fv (aH Y) x).2 (l8 0))):
 dN w' wk b mb D sel num mx X (Y++x):=by
 obtain⟨l1,l2⟩:=Ny Y x;have hg:=UG hn;have ht:=Ia x;refine⟨?_,by rw[hg];exact hA.small,by rw[hg];exact hA.X8⟩;have e1:(((Y++x).length:Nat):Int)=(Y.length:Int)+(x.length:Int):=by rw[List.length_append];omega
 have e2:((dW (ax (Y++x)):Nat):Int)=if oL x=0 then ((dW (ax Y):Nat):Int) else (Y.length:Int)+(x.length:Int)-(lf x:Int):=by
  rw[l2];split
  ·rfl
  ·omega
 have e3:(((ax (Y++x)).length:Nat):Int)=((ax Y).length:Int)+(oL x:Int):=by rw[l1];omega
 rw[e1,e2,e3,hg,pH];exact h
end
def UI(b mb gn cap:Nat)(kv nv rv tv pv:Value)(rl top:List Nat)(U:Nat->Nat->Value)(T:List (List Nat))(D:fo)(sel:List Nat->Bool)(aj:List Nat)(F:Nat->Prop)(num:Bool)(mx:Int)(R:gz)(X:List Nat)(wk s:Nat):Prop:=
 ∀(w:World) (Y Z:List Nat),nw w b mb gn cap kv nv rv tv pv rl top U T D sel aj F num mx R X->X=Y++af T s++Z->(dN w wk b mb D sel num mx X Y\/yh w wk b mb D (jL num X (fp mx (tJ sel X))))->(∀w',Kept [wk] w w'->mj w') ->
  Calls Tryz.prog 33 #[.pointer (some ⟨wk,0,none⟩),.int .i64 (s:Int)] w fun e w'=>e=.returned (.tuple #[])/\Kept [wk] w w'/\(dN w' wk b mb D sel num mx X (Y++af T s)\/yh w' wk b mb D (jL num X (fp mx (tJ sel X))))
section
variable {w:World}{b mb gn cap:Nat}{kv nv rv tv pv:Value}{rl top:List Nat}{U:Nat->Nat->Value}{T:List (List Nat)}{D:fo}{sel:List Nat->Bool}{aj:List Nat}{F:Nat->Prop}{num:Bool}{mx:Int}{R:gz}{X Y Z:List Nat}{wk:Nat}
theorem Mj{O:ByteArray×Bool}(h:yh w wk b mb D O)(sv:Value):Calls Tryz.prog 33 #[.pointer (some ⟨wk,0,none⟩),sv] w fun e w'=>e=.returned (.tuple #[])/\w'=w:=by
 cases h with
 | full _ hw=>
   obtain⟨g,hb⟩:=hw.bb;obtain⟨q0,q1,q2,q3,q4,q5,q6,q7,q8,q9,ql,qf⟩:=fE hb.aD;clear qf q0 q1 q2 q3 q4 q5 q6 q7 hb hw;go_enter Tryz.func33,Tryz.ntmps33
   go_wp2
   exact bodyPost_ret (v:=.tuple #[]) (by simp[results,Tryz.results33,go_sem]) rfl ⟨rfl,rfl⟩
 | Gf _ hw=>
   obtain⟨g,hb⟩:=hw.bb;obtain⟨q0,q1,q2,q3,q4,q5,q6,q7,q8,q9,ql,qf⟩:=fE hb.aD;clear qf q0 q1 q2 q3 q4 q5 q6 q7 hb hw;go_enter Tryz.func33,Tryz.ntmps33
   go_wp2
   exact bodyPost_ret (v:=.tuple #[]) (by simp[results,Tryz.results33,go_sem]) rfl ⟨rfl,rfl⟩
theorem UJ(h0:0<=mx)(hI:nw w b mb gn cap kv nv rv tv pv rl top U T D sel aj F num mx R X)(hX:X=Y++[10]++Z)(hA:dN w wk b mb D sel num mx X Y)(ft:∀w',Kept [wk] w w'->mj w'):
 Calls Tryz.prog 33 #[.pointer (some ⟨wk,0,none⟩),.int .i64 10] w fun e w'=>e=.returned (.tuple #[])/\Kept [wk] w w'/\(dN w' wk b mb D sel num mx X (Y++[10])\/yh w' wk b mb D (jL num X (fp mx (tJ sel X)))):=by
 have hlen:=hI.Jh;have hYX:Y.length+1<=X.length:=by rw[hX];simp
 have cY:=ny Y;have ix:=me Y;have pL:Hid (Calls Tryz.prog 34 #[.pointer (some ⟨wk,0,none⟩)] w _):=Eu hI ft (l:=aH Y) (fun c hc=>hI.byte c (by rw[hX];simp[wT hc])) hA.F9 (by omega) (by omega) (by omega) (Gg num X _ hA.small) hA.small;have wZ:Hid (dN _ _ _ _ _ _ _ _ _ _):=hA;obtain⟨g,hb⟩:=hA.F9.bb;obtain⟨q0,q1,q2,q3,q4,q5,q6,q7,q8,q9,ql,qf⟩:=fE hb.aD;clear qf q0 q1 q2 q3 q4 q5 q6 q7 hb hA hI ft;have wW:Hid (X=_):=hX;clear hX;go_enter Tryz.func33,Tryz.ntmps33
 go_wp2_with fail
 refine pL.out.mono ?_;rintro _ w1 ⟨rfl,k1,he⟩;obtain⟨c5,c6,c7,c8,c9,DA,oz⟩:=he.next h0 wZ.out wW.out;have W7:Hid (∀w2,mh w2 wk b mb D _ _ _ _ _ _ _ _->_):=oz;have K1:Hid (Kept [wk] w w1):=k1;obtain⟨g1,ck⟩:=DA.bb;have B1:Hid (jg _ _ _ _ _ _ _ _ _ _ _ _ _ _):=ck;clear k1 he DA oz ck pL wZ q8 q9 ql;obtain⟨q0,q1,q2,q3,q4,q5,q6,q7,q8,q9,ql,qf⟩:=fE B1.out.aD;have qf3:=qf 3;clear qf q0 q1 q2 q4 q5 q6 q7 q8 q9;go_upto_region 4 with fail
 obtain⟨w2,E8⟩:∃x,x=w1.setCell ⟨wk,3,none⟩ (.int .i64 ((Y.length:Int)+1)):=⟨_,rfl⟩;rw[<-E8];have B2:Hid (jg w2 wk b mb D (.int .i64 ((Y.length:Int)+1)) (.int .i64 ((dW (ax Y):Nat):Int)) c5 c6 c7 c8 c9 (l8 0) g1):=by
  show jg _ _ _ _ _ _ _ _ _ _ _ _ _ _;rw[E8];exact B1.out.set3 _
 have K2:Hid (Kept [wk] w w2):=by
  show Kept _ _ _;rw[E8];exact K1.out.setCell (Or.inl (by simp)) _
 clear q3 ql qf3 E8 B1 K1;obtain⟨q0,q1,q2,q3,q4,q5,q6,q7,q8,q9,ql,qf⟩:=fE B2.out.aD;have qf4:=qf 4;clear qf q0 q1 q2 q5 q6 q7 q8 q9;have aA:=W7.out (w2.setCell ⟨wk,4,none⟩ (.int .i64 ((Y.length:Int)+1))) (B2.out.So _).F9;have Ew:Hid (_\/_):=aA;have CG:Hid (Kept [wk] w (w2.setCell ⟨wk,4,none⟩ (.int .i64 ((Y.length:Int)+1)))):=K2.out.setCell (Or.inl (by simp)) _;clear W7 B2 K2 aA;go_wp2
 exact bodyPost_ret (v:=.tuple #[]) (by simp[results,Tryz.results33,go_sem]) rfl ⟨rfl,CG.out,Ew.out⟩
end
end Go.Proofs.YtgifhgnccmnbiabGreatDoor
