/- Part of the proof. -/
import Derived.Test.YtgifhgnccmnbiabGreatDoorG21
import Derived.Test.YtgifhgnccmnbiabGreatDoorG18
import Derived.Test.YtgifhgnccmnbiabGreatDoorG20
set_option linter.unusedVariables false
set_option linter.unusedSimpArgs false
set_option maxHeartbeats 4000000
set_option maxRecDepth 100000
namespace Go.Proofs.YtgifhgnccmnbiabGreatDoor
open Go.RowKit Go.IntWalk
section
variable (D:fo)(o:Nat->Bool)(f:Nat->Bool)
def isDone(j:Nat):Bool:=match D.nodes[j]? with
 | some x=>x.kind==8
 | none=>false
def F6:Nat->Bool
 | 0=>f 2
 | i+1=>F6 i || (o i&&isDone D i)
end
section
variable {D:fo}{o f:Nat->Bool}
theorem Ja:∀i,F6 D o f i=true↔f 2=true\/∃j,j<i/\o j=true/\isDone D j=true
 | 0=>⟨Or.inl,fun h=>by
    rcases h with h|⟨j,h,_⟩
    ·exact h
    ·omega⟩
 | i+1=>by
   show(F6 D o f i || (o i&&isDone D i))=true↔_
   rw[Bool.or_eq_true,Bool.and_eq_true,Ja i];constructor
   ·rintro((h|⟨j,h1,h2⟩)|h)
    ·exact Or.inl h
    ·exact Or.inr ⟨j,by omega,h2⟩
    ·exact Or.inr ⟨i,by omega,h⟩
   ·rintro(h|⟨j,h1,h2⟩)
    ·exact Or.inl (Or.inl h)
    ·by_cases hj:j=i
     ·subst hj;exact Or.inr h2
     ·exact Or.inl (Or.inr ⟨j,by omega,h2⟩)
theorem TU{R:gz}(hM:gX D R)(ho:∀i,(i<D.nodes.length/\o i=true)↔pB D (SF D.nodes.length f) (f 0=true) True i):F6 D o f D.nodes.length=true↔FJ D (SF D.nodes.length f):=by
 have e0:(SF D.nodes.length f 0)=(f 0=true):=propext ⟨fun h=>h.2,fun h=>⟨by omega,h⟩⟩;rw[Ja];unfold FJ FI;rw[e0];constructor
 ·rintro(h|⟨j,h1,h2,h3⟩)
  ·exact Or.inl ⟨by omega,h⟩
  ·right;unfold isDone at h3;cases hx:D.nodes[j]? with
   | none=>rw[hx]at h3;cases h3
   | some x=>
     rw[hx]at h3;exact⟨j,x,(ho j).1 ⟨h1,h2⟩,hx,by simpa using h3⟩
 ·rintro(h|⟨j,x,h1,h2,h3⟩)
  ·exact Or.inl h.2
  ·obtain⟨g1,g2⟩:=(ho j).2 h1;exact Or.inr ⟨j,g1,g2,by unfold isDone;rw[h2];simpa using h3⟩
theorem Cg{n i:Nat}(h:i<3+n):SF n (fun k=>k==i)=l8 i:=by
 funext k
 apply propext;show(k<3+n/\(k==i)=true)↔k=i;constructor
 ·rintro⟨_,h2⟩;simpa using h2
 ·rintro rfl;exact⟨h,by simp⟩
end
structure WW (w w':World)(e:Ending)(inv:Bool)(D:fo)(S:jd):Prop where
 ex:∃y:Bool,e=.returned (.bool (y != inv))/\(y=true↔FJ D S)
 kept:Kept [] w w'
theorem mf{w:World}{mb gn cap:Nat}{D:fo}{aj:List Nat}{F:Nat->Prop}{num:Bool}{mx:Int}{R:gz}(h:gC w mb D aj F num mx gn cap)(hR:gX D R)(hn:D.nodes.length<=10000){gv:Nat}{f:Nat->Bool}(hv:ah w gv (ar (3+D.nodes.length) f) 4):
 Calls Tryz.prog 67 #[.pointer (some ⟨mb,0,none⟩),di (3+D.nodes.length) gv] w fun e' w'=>WW w w' e' D.inv D (SF D.nodes.length f):=by
 have hH:Hid (gC _ _ _ _ _ _ _ _ _):=h;have XI:Hid (ah _ _ _ _):=hv;have Ek:Hid (gX _ _):=hR;have GI:Hid (Calls _ _ _ w _):=y9 h hR hn hv (f 0) true;obtain⟨n,lS⟩:∃n,n=D.nodes.length:=⟨_,rfl⟩;have v0:w.cell? ⟨gv,0,none⟩=some (.bool (f 0)):=by rw[hv.cell,aW _ (by omega)]
 have hvl:=hv.lt;have nP:Hid (n=D.nodes.length):=lS;rw[<-lS]at hn GI;rw[<-lS];clear lS h hv hR;unfold di at GI ⊢;go_enter Tryz.func67,Tryz.ntmps67
 go_wp2_with fail
 refine GI.out.mono ?_;rintro e w3 ⟨o,⟨⟨gr,rfl,jK,qD⟩,k3⟩,ho⟩;have M0:Hid (∀i,_):=ho;have QY:Hid (Kept [] w w3):=k3;have hr3:Hid (ah w3 gr (ar n o) 4):=qD;have WQ:=XI.out.kept k3 (by simp);rw[<-nP.out]at WQ;have u2:w3.cell? ⟨gv,2,none⟩=some (.bool (f 2)):=by rw[WQ.cell,aW _ (by omega)]
 have hvl3:=WQ.lt;have hM:=hH.out.kept k3;have m5:w3.cell? ⟨mb,5,none⟩=some (.slice (some ⟨gn,0,none⟩) n cap):=by rw[nP.out];exact hM.aD.cell 5
 have m0:w3.cell? ⟨mb,0,none⟩=some (.bool D.inv):=hM.aD.cell 0;have WM:=hM.aD.lt;have yT:Hid (gC _ _ _ _ _ _ _ _ _):=hM;clear GI ho qD k3 WQ hM v0 hvl jK;unfold di;go_wp2_with fail
 go_loop [6,7] (fun yv iv=>∃i:Nat,iv=.int .i64 (i:Int)/\i<=n/\yv=.bool (F6 D o f i)) (fun _ iv=>((n:Int)-intOf iv).toNat)
 case atStart=>exact⟨0,rfl,Nat.zero_le _,rfl⟩
 case round=>
  obtain⟨i,rfl,hi,rfl⟩:=hrel;by_cases bO:(i:Int)<(n:Int)
  ·have oC:i<n:=by omega
   have r1:w3.cell? ⟨gr,i,none⟩=some (.bool (o i)):=by rw[hr3.out.cell,aW _ oC]
   have wv:=hr3.out.lt;obtain⟨x,hx⟩:∃x,D.nodes[i]?=some x:=⟨_,List.getElem?_eq_getElem (by rw[<-nP.out];exact oC)⟩;have d0:w3.cell? ⟨gn,i*4,none⟩=some (.int .i64 x.kind):=yT.out.node hx (j:=0) (by omega);have hgn:=yT.out.lt;have dy:Hid (F6 D o f (i+1)=(F6 D o f i || (o i&&(x.kind==8)))):=by
    show(F6 D o f i || (o i&&isDone D i))=_
    unfold isDone;rw[hx]
   obtain⟨T8,LV⟩:∃T,(x.kind==8)=T:=⟨_,rfl⟩;rw[LV]at dy;clear hx m0 u2 hvl3;generalize F6 D o f i=S0 at *;generalize o i=O at *;cases S0 with
   | true=>
     go_wp2
     refine⟨⟨i+1,by go_num,by omega,by rw[dy.out];rfl⟩,by simp only[intOf];omega⟩
   | false=>
     cases O with
     | false=>
       go_wp2
       refine⟨⟨i+1,by go_num,by omega,by rw[dy.out];rfl⟩,by simp only[intOf];omega⟩
     | true=>
       cases T8 <;>
       ·go_wp2
        refine⟨⟨i+1,by go_num,by omega,by rw[dy.out];rfl⟩,by simp only[intOf];omega⟩
  ·have oC:i=n:=by omega
   subst oC;go_wp2
   go_ret;refine⟨⟨_,rfl,?_⟩,QY.out⟩;have:=TU Ek.out (f:=f) (o:=o) (by rw[<-nP.out];exact M0.out);rw[<-nP.out]at this;exact this
def og(D:fo)(u:List Nat)(W:Nat->Nat->Bool):Prop:=∀i,i<3+D.nodes.length->SF D.nodes.length (W i)=gh D u (l8 i)
theorem TV{w:World}{mb gn cap:Nat}{D:fo}{aj:List Nat}{F:Nat->Prop}{num:Bool}{mx:Int}{R:gz}(h:gC w mb D aj F num mx gn cap)(hR:gX D R)(hn:D.nodes.length<=10000)(c:Nat)(hc:c<256):
 Calls Tryz.prog 156 #[.pointer (some ⟨mb,0,none⟩),.int .i64 (c:Int)] w fun e' w'=>∃W,Lv w w' e' (3+D.nodes.length) W/\og D [c] W:=by
 obtain⟨i0,kQ,jh,dP,dB⟩:=info_parts EO;have hH:Hid (gC _ _ _ _ _ _ _ _ _):=h;have GI:Hid (∀w' gv f,Kept [] w w'->ah w' gv (ar (3+D.nodes.length) f) 4->Calls _ _ _ w' _):=fun w' gv f k hv=>Er (h.kept k) hR hn hv c hc;obtain⟨n,lS⟩:∃n,n=D.nodes.length:=⟨_,rfl⟩;have zd:=oW (3+n) (by omega);have e3:((3+n:Nat):Int)=3+(n:Int):=by omega
 rw[e3]at zd;have c1:w.cell? ⟨mb,5,none⟩=some (.slice (some ⟨gn,0,none⟩) n cap):=by rw[lS];exact h.aD.cell 5
 have Q0:=h.aD.lt;have nP:Hid (n=D.nodes.length):=lS;rw[<-lS]at hn GI;rw[<-lS];clear lS h hR e3;unfold di at GI;go_enter Tryz.func156,Tryz.ntmps156
 go_wp2_with fail
 go_loopw [6,7,8,9] (fun tv iv _ _ wr=>∃(rs:List Nat) (W:Nat->Nat->Bool),iv=.int .i64 (rs.length:Int)/\rs.length<=3+n/\kR wr w.heap.size tv (3+n) rs W/\(∀i,i<rs.length->SF n (W i)=nX D (l8 i) c)/\Kept [] w wr) (fun _ iv _ _ _=>(3+(n:Int)-intOf iv).toNat)
 case atStart=>exact⟨[],fun _ _=>false,rfl,Nat.zero_le _,kR.nil _ _ _ _,fun i hi=>absurd hi (Nat.not_lt_zero _),Kept.refl _ _⟩
 case round=>
  obtain⟨rs,W,rfl,hle,ht,hw,fG⟩:=hrel;have zw:Hid (kR _ _ _ _ _ _):=ht;have dj:Hid (Kept _ _ _):=fG;have hwH:Hid (∀i,_):=hw;by_cases bO:(rs.length:Int)<3+(n:Int)
  ·have oC:rs.length<3+n:=by omega
   have hq:(ar (3+n) (fun _=>false))[rs.length]?=some (.bool false):=aW _ oC;have dd:=fG.size;have hV:Hid (ah (wr.alloc (.cells ((ar (3+n) (fun _=>false)).setIfInBounds rs.length (.bool true)) 4)) wr.heap.size (ar (3+n) (fun k=>k==rs.length)) 4/\Kept [] w (wr.alloc (.cells ((ar (3+n) (fun _=>false)).setIfInBounds rs.length (.bool true)) 4))):=by
    rw[eu (fun _=>false) (fun k=>k==rs.length) rs.length true (fun j hj=>by
     by_cases h:j=rs.length
     ·subst h;simp
     ·rw[if_neg h];simpa using h)]
    exact⟨ah.new wr _ _,fG.alloc _⟩
   have LX:Hid (∀o,Kept [] wr (wr.alloc o)):=fun o=>(Kept.refl [] wr).alloc o;clear ht hw fG;go_wp2_with fail
   refine(GI.out _ _ _ hV.out.2 hV.out.1).mono ?_;rintro e w2 ⟨f',⟨⟨g2,rfl,jK,jm⟩,k2⟩,hf'⟩;have QZ:Hid (SF n f'=nX D (l8 rs.length) c):=by
    show _=_;rw[hf',Cg oC]
   have Zs:Hid (ah w2 g2 _ _):=jm;have Ws:Hid (kR w2 _ _ _ _ _):=zw.out.kept ((LX.out _).trans k2) (by simp);have DG:Hid (Kept [] w w2):=hV.out.2.trans k2;have IB:Hid (∀o,(w2.alloc o).ownsRow _ _ _ _ _ _):=fun o=>Ws.out.own.alloc o;have Wt:Hid (¬g2∈rs):=fun hc=>by have:=zw.out.lt hc;simp at jK;omega
   have Zt:Hid (w.heap.size<=g2):=by show w.heap.size<=g2;simp at jK;omega
   have Px:=DG.out.size;unfold di;clear k2 jm zw dj hV LX hf' jK;go_wp2_with (at_builtin;go_loud (refine cx rfl (.tmp 30) (.tmp 32) 120 rfl w.heap.size 40 i0 _ 1 24 Tryz.underlying120 kQ jh dP dB rfl (by decide) _ rs.length (rs.map (di (3+n))) rfl ?own ⟨w2.heap.size,0,none⟩ 1 1 [di (3+n) g2] (by simp[Act.eval,Act.put]) rfl ?n1 ?n2 ?b1 ?b2 ?b3 ?kk))
   case own=>exact IB.out _
   case n1=>exact bM _ _ _ _ rfl
   case n2=>simp[Value.oneCell',di]
   case b1=>unfold maxLen;omega
   case b2=>omega
   case b3=>simp;omega
   case kk=>
    intro v' w5 aG ay _;obtain⟨ht5,mN⟩:=Ws.out.S9 (M':=fun i=>if i=rs.length then f' else W i) Zs.out Zt.out Wt.out aG ay (fun i j hi hj=>by
     by_cases h:i=rs.length
     ·simp only[if_pos h]
     ·simp only[if_neg h])
    have mN:=mN w DG.out (Nat.le_refl _);have Q1:Hid (∀i,i<(rs++[g2]).length->SF n ((fun i=>if i=rs.length then f' else W i) i)=nX D (l8 i) c):=fun i hi=>by
     by_cases h:i=rs.length
     ·subst h;simp only[if_pos];exact QZ.out
     ·simp only[if_neg h];exact hwH.out i (by rw[List.length_append]at hi;simp at hi;omega)
    clear aG ay;go_wp2
    refine⟨⟨_,_,?_,?_,ht5,Q1.out,mN⟩,?_⟩
    ·simp
    ·simp;omega
    ·simp only[intOf];omega
  ·have wv:rs.length=3+n:=by omega
   clear ht hw fG;go_wp2
   go_ret;exact⟨W,⟨⟨_,_,rfl,wv,zw.out⟩,dj.out⟩,fun i hi=>by rw[<-nP.out];exact hwH.out i (by rw[wv,nP.out];exact hi)⟩
theorem LY{w:World}{mb gn cap:Nat}{D:fo}{aj:List Nat}{F:Nat->Prop}{num:Bool}{mx:Int}(h:gC w mb D aj F num mx gn cap)(hn:D.nodes.length<=10000):
 Calls Tryz.prog 155 #[.pointer (some ⟨mb,0,none⟩)] w fun e' w'=>Lv w w' e' (3+D.nodes.length) (fun i k=>k==i):=by
 obtain⟨i0,kQ,jh,dP,dB⟩:=info_parts EO;obtain⟨n,lS⟩:∃n,n=D.nodes.length:=⟨_,rfl⟩;have zd:=oW (3+n) (by omega);have e3:((3+n:Nat):Int)=3+(n:Int):=by omega
 rw[e3]at zd;have c1:w.cell? ⟨mb,5,none⟩=some (.slice (some ⟨gn,0,none⟩) n cap):=by rw[lS];exact h.aD.cell 5
 have Q0:=h.aD.lt;rw[<-lS]at hn;rw[<-lS];clear lS h e3;go_enter Tryz.func155,Tryz.ntmps155
 go_wp2_with fail
 go_loopw [4,5,6] (fun tv iv _ wr=>∃(rs:List Nat),iv=.int .i64 (rs.length:Int)/\rs.length<=3+n/\kR wr w.heap.size tv (3+n) rs (fun i k=>k==i)/\Kept [] w wr) (fun _ iv _ _=>(3+(n:Int)-intOf iv).toNat)
 case atStart=>exact⟨[],rfl,Nat.zero_le _,kR.nil _ _ _ _,Kept.refl _ _⟩
 case round=>
  obtain⟨rs,rfl,hle,ht,fG⟩:=hrel;have zw:Hid (kR _ _ _ _ _ _):=ht;have dj:Hid (Kept _ _ _):=fG;by_cases bO:(rs.length:Int)<3+(n:Int)
  ·have oC:rs.length<3+n:=by omega
   have hq:(ar (3+n) (fun _=>false))[rs.length]?=some (.bool false):=aW _ oC;have dd:=fG.size;have hV:Hid (ah (wr.alloc (.cells ((ar (3+n) (fun _=>false)).setIfInBounds rs.length (.bool true)) 4)) wr.heap.size (ar (3+n) (fun k=>k==rs.length)) 4/\Kept [] w (wr.alloc (.cells ((ar (3+n) (fun _=>false)).setIfInBounds rs.length (.bool true)) 4))):=by
    rw[eu (fun _=>false) (fun k=>k==rs.length) rs.length true (fun j hj=>by
     by_cases h:j=rs.length
     ·subst h;simp
     ·rw[if_neg h];simpa using h)]
    exact⟨ah.new wr _ _,fG.alloc _⟩
   clear ht fG;go_upto_region 8 with fail
   obtain⟨w2,E8⟩:∃w2,w2=wr.alloc (.cells ((ar (3+n) (fun _=>false)).setIfInBounds rs.length (.bool true)) 4):=⟨_,rfl⟩;rw[<-E8]at hV;rw[<-E8];have Ws:Hid (kR w2 _ _ _ _ _):=zw.out.kept (by rw[E8];exact(Kept.refl [] wr).alloc _) (by simp);have IB:Hid (∀o,(w2.alloc o).ownsRow _ _ _ _ _ _):=fun o=>Ws.out.own.alloc o;have Wt:Hid (¬wr.heap.size∈rs):=fun hc=>by have:=zw.out.lt hc;omega
   have Px:=hV.out.2.size;clear zw dj E8;go_wp2_with (at_builtin;go_loud (refine cx rfl (.tmp 23) (.tmp 25) 120 rfl w.heap.size 40 i0 _ 1 24 Tryz.underlying120 kQ jh dP dB rfl (by decide) _ rs.length (rs.map (di (3+n))) rfl ?own ⟨w2.heap.size,0,none⟩ 1 1 [di (3+n) wr.heap.size] (by simp[Act.eval,Act.put]) rfl ?n1 ?n2 ?b1 ?b2 ?b3 ?kk))
   case own=>exact IB.out _
   case n1=>exact bM _ _ _ _ rfl
   case n2=>simp[Value.oneCell',di]
   case b1=>unfold maxLen;omega
   case b2=>omega
   case b3=>simp;omega
   case kk=>
    intro v' w5 aG ay _;obtain⟨ht5,mN⟩:=Ws.out.S9 (M':=fun i k=>k==i) hV.out.1 dd Wt.out aG ay (fun i j hi hj=>by
     by_cases h:i=rs.length
     ·rw[if_pos h,h]
     ·rw[if_neg h])
    have mN:=mN w hV.out.2 (Nat.le_refl _);clear aG ay;go_wp2
    refine⟨⟨_,?_,?_,ht5,mN⟩,?_⟩
    ·simp
    ·simp;omega
    ·simp only[intOf];omega
  ·have wv:rs.length=3+n:=by omega
   clear ht fG;go_wp2
   go_ret;exact⟨⟨_,_,rfl,wv,zw.out⟩,dj.out⟩
def cV(x:List Nat):List Nat:=if ax x=[] then x else (ax x).headD []
def oH(x:List Nat):List (List Nat):=(ax x).tail
def x8(sel:List Nat->Bool)(x:List Nat):Nat:=fT ((oH x).filter sel).length
theorem x9{x:List Nat}(h:ax x=[]):aH x=x:=by
 have:=xS x [] h;rwa [List.nil_append]at this
theorem ks{x:List Nat}(h:ax x≠[]):ax x=cV x :: oH x:=by
 unfold cV oH;rw[if_neg h];cases hc:ax x with
 | nil=>exact absurd hc h
 | cons a l=>rfl
theorem wS(u x:List Nat):fv u x=if ax x=[] then ([],u++aH x) else ((u++cV x) :: oH x,aH x):=by
 rw[jB];unfold cV oH ax aH;by_cases h:(fv [] x).1=[]
 ·rw[if_pos h,if_pos h]
 ·rw[if_neg h,if_neg h,if_neg h]
theorem mF(x:List Nat):(aq x).ends=0↔ax x=[]:=by
 show fT (oL x)=0↔_;rw[pg,<-iY x []];exact List.length_eq_zero_iff
section
variable {x y:List Nat}
theorem tp(hx:ax x=[]):ax (x++y)=if ax y=[] then [] else (x++cV y) :: oH y:=by
 rw[gx,hx,List.nil_append,x9 hx,wS];split <;> rfl
theorem tq(hx:ax x≠[]):ax (x++y)=if ax y=[] then ax x else cV x :: (oH x++(aH x++cV y) :: oH y):=by
 rw[gx,wS];split
 ·rw[List.append_nil]
 ·rw[ks hx];rfl
theorem Ch:cV (x++y)=if ax x=[] then x++cV y else cV x:=by
 by_cases hx:ax x=[]
 ·rw[if_pos hx];by_cases hy:ax y=[]
  ·have e:ax (x++y)=[]:=by rw[tp hx,if_pos hy]
   unfold cV;rw[if_pos e,if_pos hy]
  ·have e:ax (x++y)=(x++cV y) :: oH y:=by rw[tp hx,if_neg hy]
   show(if ax (x++y)=[] then x++y else (ax (x++y)).headD [])=_;rw[e];rfl
 ·rw[if_neg hx];show(if ax (x++y)=[] then x++y else (ax (x++y)).headD [])=_;rw[tq hx];by_cases hy:ax y=[]
  ·rw[if_pos hy,ks hx];rfl
  ·rw[if_neg hy];rfl
theorem Ci:aH (x++y)=if ax y=[] then aH x++y else aH y:=by
 rw[pH,wS];by_cases hy:ax y=[]
 ·rw[if_pos hy,if_pos hy,x9 hy]
 ·rw[if_neg hy,if_neg hy]
theorem kM:ax (x++y)=[]↔ax x=[]/\ax y=[]:=by
 by_cases hx:ax x=[]
 ·rw[tp hx];by_cases hy:ax y=[]
  ·simp[hx,hy]
  ·simp[hy]
 ·rw[tq hx];by_cases hy:ax y=[]
  ·simp[hx,hy]
  ·simp[hx,hy]
theorem TW{sel:List Nat->Bool}(hx:ax x=[]):x8 sel x=0:=by
 unfold x8 oH;rw[hx];rfl
theorem uJ{sel:List Nat->Bool}(h:ax x=[]\/ax y=[]\/sel (aH x++cV y)=false):x8 sel (x++y)=cU (x8 sel x) (x8 sel y):=by
 rw[nU];unfold x8;rw[ld];congr 1
 unfold oH;by_cases hx:ax x=[]
 ·rw[tp hx,hx];by_cases hy:ax y=[]
  ·rw[if_pos hy,hy];simp
  ·rw[if_neg hy,ks hy];simp
 ·rw[tq hx];by_cases hy:ax y=[]
  ·rw[if_pos hy,hy];simp
  ·rw[if_neg hy,ks hx,ks hy];have hs:sel (aH x++cV y)=false:=by
    rcases h with h|h|h
    ·exact absurd h hx
    ·exact absurd h hy
    ·exact h
   simp only[List.tail_cons];rw[List.filter_append,List.length_append,List.filter_cons,if_neg (by rw[hs];decide)]
theorem Jb{sel:List Nat->Bool}(hx:ax x≠[])(hy:ax y≠[])(hs:sel (aH x++cV y)=true):x8 sel (x++y)=cU (cU (x8 sel x) (x8 sel y)) 1:=by
 rw[nU,nU];unfold x8;have h1:(1:Nat)=fT 1:=by decide
 rw[ld];conv=>rhs;rw[h1]
 rw[ld];congr 1
 unfold oH;rw[tq hx,if_neg hy,ks hx,ks hy];simp only[List.tail_cons];rw[List.filter_append,List.length_append,List.filter_cons,if_pos hs,List.length_cons];omega
end
section
variable {D:fo}{f:Nat->Bool}{A W:Nat->Nat->Bool}{u v:List Nat}{S:jd}
theorem zS(hS:SF D.nodes.length f=S)(hv:Valid S)(hW:og D v W):SF D.nodes.length (se f W (3+D.nodes.length))=gh D v S:=by
 funext k
 apply propext;rw[te v S hv k];show(k<3+D.nodes.length/\se f W (3+D.nodes.length) k=true)↔_;rw[Wr];constructor
 ·rintro⟨h1,m,h2,h3,h4⟩;refine⟨m,by rw[<-hS];exact⟨h2,h3⟩,?_⟩;rw[<-hW m h2];exact⟨h1,h4⟩
 ·rintro⟨m,h1,h2⟩;rw[<-hS]at h1;rw[<-hW m h1.1]at h2;exact⟨h2.1,m,h1.1,h1.2,h2.2⟩
theorem og.then(hA:og D u A)(hW:og D v W):og D (u++v) (fun i=>se (A i) W (3+D.nodes.length)):=fun i hi=>by
 rw[pC];exact zS (hA i hi) (pD D u _ (s9 i)) hW
theorem og.still:og D [] (fun i k=>k==i):=fun i hi=>Cg hi
end
def Jc(D:fo)(sel:List Nat->Bool):Prop:=∀l,(∀c,c∈l->c<256)->∀y:Bool,(y=true↔FJ D (gh D l (l8 0)))->(y != D.inv)=sel l
structure gi (w:World)(D:fo)(sel:List Nat->Bool)(x:List Nat)(u3 u4:Value)(c:Nat):Prop where
 PC:∃rows W,rows.length=3+D.nodes.length/\kR w 0 u3 (3+D.nodes.length) rows W/\og D (cV x) W
 rest:(ax x=[]/\u4=.slice none 0 0)\/(ax x≠[]/\∃g f,u4=di (3+D.nodes.length) g/\ah w g (ar (3+D.nodes.length) f) 4/\SF D.nodes.length f=gh D (aH x) (l8 0))
 count:c=x8 sel x
theorem gi.kept{w w':World}{D:fo}{sel:List Nat->Bool}{x:List Nat}{u3 u4:Value}{c:Nat}(h:gi w D sel x u3 u4 c)(k:Kept [] w w'):gi w' D sel x u3 u4 c:=by
 obtain⟨⟨rows,W,h1,h2,h3⟩,h4,h5⟩:=h;refine⟨⟨rows,W,h1,h2.kept k (by simp),h3⟩,?_,h5⟩;rcases h4 with h4|⟨h4,g,f,h6,h7,h8⟩
 ·exact Or.inl h4
 ·exact Or.inr ⟨h4,g,f,h6,h7.kept k (by simp),h8⟩
structure aN (w w':World):Prop where
 size:w.heap.size<=w'.heap.size
 aD:∀k cs e,e≠122->e≠75->ah w k cs e->ah w' k cs e
theorem aN.of{w w':World}(k:Kept [] w w'):aN w w':=⟨k.size,fun _ _ _ _ _ h=>h.kept k (by simp)⟩
theorem aN.trans{w w' qS:World}(h:aN w w')(h':aN w' qS):aN w qS:=⟨Nat.le_trans h.size h'.size,fun k cs e h1 h2 hb=>h'.aD k cs e h1 h2 (h.aD k cs e h1 h2 hb)⟩
theorem aN.refl(w:World):aN w w:=⟨Nat.le_refl _,fun _ _ _ _ _ h=>h⟩
theorem aN.set{w w':World}(h:aN w w'){g:Nat}{cs:Array Value}{t:TypeId}(hb:ah w' g cs t)(ht:t=122\/t=75)(i:Nat)(v:Value):aN w (w'.setCell ⟨g,i,none⟩ v):=by
 refine⟨by simpa [World.setCell] using h.size,fun k cs' e h1 h2 hk=>?_⟩;have gH:=h.aD k cs' e h1 h2 hk;by_cases hkg:k=g
 ·subst hkg;unfold ah at gH hb;rw[hb]at gH;simp only[Option.some.injEq,Obj.cells.injEq]at gH;obtain⟨_,he,_⟩:=gH;rcases ht with ht|ht
  ·exact absurd (he.symm.trans ht) h1
  ·exact absurd (he.symm.trans ht) h2
 ·exact gH.other _ _ hkg
theorem kt{w w':World}{base e z n:Nat}{v:Value}{xs:List Value}(h:w.ownsRow base e z v n xs)(s:aN w w')(h1:e≠122)(h2:e≠75):w'.ownsRow base e z v n xs:=by
 refine⟨h.1,?_⟩;rcases h.2 with h3|⟨g,cap,cur,h3,h4,h5,r⟩
 ·exact Or.inl h3
 ·exact Or.inr ⟨g,cap,cur,h3,h4,s.aD g cur e h1 h2 h5,r⟩
section
variable {w w':World}
theorem kR.bV{B n:Nat}{v:Value}{rows:List Nat}{M:Nat->Nat->Bool}(h:kR w B v n rows M)(s:aN w w'):kR w' B v n rows M:=
 ⟨kt h.own s (by decide) (by decide),fun i g hg=>s.aD g _ _ (by decide) (by decide) (h.row i g hg),h.base,h.nodup⟩
theorem gi.bV{D:fo}{sel:List Nat->Bool}{x:List Nat}{u3 u4:Value}{c:Nat}(h:gi w D sel x u3 u4 c)(s:aN w w'):gi w' D sel x u3 u4 c:=by
 obtain⟨⟨rows,W,h1,h2,h3⟩,h4,h5⟩:=h;refine⟨⟨rows,W,h1,h2.bV s,h3⟩,?_,h5⟩;rcases h4 with h4|⟨h4,g,f,h6,h7,h8⟩
 ·exact Or.inl h4
 ·exact Or.inr ⟨h4,g,f,h6,s.aD _ _ _ (by decide) (by decide) h7,h8⟩
theorem AZ.bV{ps:List PN}{aj:List Nat}{F:Nat->Prop}(h:AZ w ps aj F)(s:aN w w'):AZ w' ps aj F:=by
 refine⟨fun i p hp=>?_,fun j hj=>Nat.lt_of_lt_of_le (h.Ac j hj) s.size⟩;obtain⟨h1,iv,kv,hk⟩:=h.part i p hp;refine⟨h1,iv,kv,⟨s.aD _ _ _ (by decide) (by decide) hk.aD,hk.Rb,?_,kt hk.kids s (by decide) (by decide),hk.G1⟩⟩;rcases hk.ins with⟨h2,g,h3,h4,h5⟩|h5
 ·exact Or.inl ⟨h2,g,h3,h4,s.aD _ _ _ (by decide) (by decide) h5⟩
 ·exact Or.inr h5
theorem gC.bV{mb gn cap:Nat}{D:fo}{aj:List Nat}{F:Nat->Prop}{num:Bool}{mx:Int}(h:gC w mb D aj F num mx gn cap)(s:aN w w'):gC w' mb D aj F num mx gn cap:=
 ⟨s.aD _ _ _ (by decide) (by decide) h.aD,kt h.row s (by decide) (by decide),h.parts.bV s⟩
end
def gK(x:List Nat)(fr nB:Int):List Nat:=(x.take nB.toNat).drop fr.toNat
theorem x'{x:List Nat}{fr nB:Int}(h:nB<=fr\/nB<=0\/(x.length:Int)<=fr):gK x fr nB=[]:=by
 unfold gK;apply List.drop_eq_nil_of_le;rw[List.length_take];omega
theorem TX{c:Nat}{fr nB:Int}(h1:fr<=0)(h2:0<nB):gK [c] fr nB=[c]:=by
 unfold gK;obtain⟨k,hk⟩:∃k,nB.toNat=k+1:=⟨nB.toNat-1,by omega⟩;rw[hk,show fr.toNat=0 by omega];simp
theorem Jd(x:List Nat)(fr nB:Int):(gK x fr nB).length<=x.length:=by
 unfold gK;rw[List.length_drop,List.length_take];omega
theorem Cj(x y:List Nat)(fr nB:Int):gK (x++y) fr nB=gK x fr nB++gK y (fr-x.length) (nB-x.length):=by
 unfold gK;rw[List.take_append,List.drop_append,List.length_take];congr 1
 by_cases h:x.length<=nB.toNat
 ·rw[Nat.min_eq_right h,show(nB-(x.length:Int)).toNat=nB.toNat-x.length by omega,show(fr-(x.length:Int)).toNat=fr.toNat-x.length by omega]
 ·rw[show nB.toNat-x.length=0 by omega,show(nB-(x.length:Int)).toNat=0 by omega];simp
theorem LZ{x:List Nat}{fr nB F D:Int}(h1:fr<0->F=0)(h2:0<=fr->F=fr)(h3:(x.length:Int)<nB->D=(x.length:Int))(h4:nB<=(x.length:Int)->D=nB):gK x fr nB=gK x F D:=by
 unfold gK;have e1:fr.toNat=F.toNat:=by
  by_cases h:fr<0
  ·have:=h1 h;omega
  ·have:=h2 (by omega);omega
 rw[e1];by_cases h:(x.length:Int)<nB
 ·have:=h3 h;rw[List.take_of_length_le (by omega),List.take_of_length_le (by omega)]
 ·have:=h4 (by omega);rw[this]
structure gD (rl:List Nat)(ps:List PI)(T:List (List Nat)):Prop where
 len:rl.length=2*T.length
 ps:ps=T.map aq
 uy:∀i,i<T.length->rl.getD (2*i) 0<256+i/\rl.getD (2*i+1) 0<256+i/\T.getD i []=af T (rl.getD (2*i) 0)++af T (rl.getD (2*i+1) 0)
theorem Je{w w':World}{base e z k:Nat}{v:Value}{xs:List Value}(h:w.ownsRow base e z v k xs)(he:e≠5)(hs:∀k cs e,e≠5->ah w k cs e->ah w' k cs e):w'.ownsRow base e z v k xs:=by
 refine⟨h.1,?_⟩;rcases h.2 with h1|⟨g,cap,cur,h1,h2,h3,h4⟩
 ·exact Or.inl h1
 ·exact Or.inr ⟨g,cap,cur,h1,h2,hs g cur e he h3,h4⟩
section
variable {w w':World}{b:Nat}{kv nv rv tv pv:Value}{rl top:List Nat}{ps:List PI}
end
structure oh (w w':World)(base:Nat)(v:Value)(out:List Nat):Prop where
 below:Below base w w'
 stay:∀k cs e,e≠5->ah w k cs e->ah w' k cs e
 row:w'.ownsRow base 5 1 v out.length (byteCells out)
theorem Jf{f:ByteArray}{n:Nat}(hr:xM f n)(hk:JN (l7 (z0 f) n)=true):∀i,i<=n->∃r T,qj (f.extract 3 f.size) (bt f 2) i=some r/\OnB f i/\ZZ (f.extract 3 f.size) (bt f 2) (l7 (z0 f) i) r T
 | 0,_=>⟨{},[],rfl,fun _ h=>by omega,zz0 f⟩
 | i+1,hi=>by
   obtain⟨r,T,h1,h2,h3⟩:=Jf hr hk i (by omega);have hg:lJ (f.extract 3 f.size) (bt f 2) r=true:=by rw[<-h3.go];exact hr.on i (by omega)
   have iw:OnB f (i+1):=fun j hj=>by
    by_cases Vb:j=i
    ·subst Vb;exact⟨r,h1,hg⟩
    ·exact h2 j (by omega)
   have Hc:qj (f.extract 3 f.size) (bt f 2) (i+1)=Vq (f.extract 3 f.size) (bt f 2) r:=by
    show(qj (f.extract 3 f.size) (bt f 2) i).bind (Vq (f.extract 3 f.size) (bt f 2))=_;rw[h1];rfl
   cases hz:Vq (f.extract 3 f.size) (bt f 2) r with
   | none=>
     exfalso;have hb:=(h3.step hg).1 hz;have Vc:(l7 (z0 f) (i+1)).1.bad=true:=hb;by_cases oC:i+1=n
     ·rw[oC]at Vc;unfold JN at hk;rw[Vc]at hk;cases hk
     ·have:=hr.on (i+1) (by omega);unfold JM at this;rw[Vc]at this;cases this
   | some r'=>
     obtain⟨T',hT'⟩:=(h3.step hg).2 r' hz;exact⟨r',T',by rw[Hc,hz],iw,hT'⟩
theorem Jg{f:ByteArray}{t:TT}(h:cA f t):∃T,pJ t T:=by
 cases h with
 | rules a b c d=>
   have hG:=Tp c b d;obtain⟨e1,e2,e3,e4,e5⟩:=hG.read;refine⟨uW f (bt f 2),?_,?_,?_,?_,?_⟩
   ·show Sound (Cz f).1 _;rw[e2];exact hG.sound _ (Nat.le_refl _)
   ·show ∀s,s∈(CY f).1->s<256+(Cz f).1.length;rw[e2,e5];intro s hs;rw[qs];exact hG.top _ (Nat.le_refl _) s hs
   ·show rZ (Cz f).1 (CY f).1=ik ((CY f).1.flatMap _);rw[e2,e5];exact wL (hG.sound _ (Nat.le_refl _)) _ (fun s hs=>by rw[jG];exact hG.top _ (Nat.le_refl _) s hs) []
   ·show(Cz f).1.length<=9000;rw[e2,qs];have:=hG.r;omega
   ·show(CY f).1.length<=9000;rw[e5,uG];simp;have:=hG.n1;unfold gN;omega
 | yV a b c d x y=>
   obtain⟨r,T,h1,h2,h3⟩:=Jf x y _ (Nat.le_refl _);have hI:=zM x.on;have hp:=hI.p;have XA:=hI.pb;have dd:(f.extract 3 f.size).size<=4000:=by simp[ByteArray.size_extract];omega
   have:=hI.rules;have:=hI.start;refine⟨T,h3.sound,fun s hs=>by rw[h3.sound.len];exact h3.start s hs,by rw[h3.whole,h3.out],by omega,by omega⟩
theorem Sound.one{rs:List RU}{T U:List (List Nat)}(h:Sound rs T)(h':Sound rs U):∀(k s:Nat),s<k->s<256+rs.length->af T s=af U s:=by
 intro k;induction k with
 | zero=>intro s hs;omega
 | succ k ih=>
   intro s hs ji;by_cases h1:s<256
   ·unfold af;rw[if_pos h1,if_pos h1]
   ·obtain⟨x,hx⟩:∃x,rs[s-256]?=some x:=⟨_,List.getElem?_eq_getElem (by omega)⟩;obtain⟨u1,u2,u3,_⟩:=h.uy _ _ hx;obtain⟨_,_,v3,_⟩:=h'.uy _ _ hx;have e:af T s=af T x.l++af T x.r:=by rw[<-u3];unfold af;rw[if_neg h1]
    have e':af U s=af U x.l++af U x.r:=by rw[<-v3];unfold af;rw[if_neg h1]
    rw[e,e',ih x.l (by omega) (by omega),ih x.r (by omega) (by omega)]
theorem gD.nil:gD [] [] []:=⟨rfl,rfl,fun i h=>by simp at h⟩
theorem gD.push{rl:List Nat}{ps:List PI}{T:List (List Nat)}(h:gD rl ps T){l r:Nat}(hl:l<256+T.length)(hr:r<256+T.length):
 gD (rl++[l,r]) (ps++[aq (af T l++af T r)]) (T++[af T l++af T r]):=by
 have hlen:=h.len;refine⟨by simp[hlen];omega,by rw[h.ps];simp,fun i hi=>?_⟩;simp at hi;by_cases CI:i<T.length
 ·obtain⟨a,b,c⟩:=h.uy i CI;have e1:(rl++[l,r]).getD (2*i) 0=rl.getD (2*i) 0:=by simp only[List.getD];rw[List.getElem?_append_left (by omega)]
  have e2:(rl++[l,r]).getD (2*i+1) 0=rl.getD (2*i+1) 0:=by simp only[List.getD];rw[List.getElem?_append_left (by omega)]
  have e3:(T++[af T l++af T r]).getD i []=T.getD i []:=by simp only[List.getD];rw[List.getElem?_append_left CI]
  rw[e1,e2,e3,gT (by omega),gT (by omega)];exact⟨a,b,c⟩
 ·have hi3:i=T.length:=by omega
  subst hi3;have e1:(rl++[l,r]).getD (2*T.length) 0=l:=by simp only[List.getD];rw[List.getElem?_append_right (by omega),hlen];simp
  have e2:(rl++[l,r]).getD (2*T.length+1) 0=r:=by simp only[List.getD];rw[List.getElem?_append_right (by omega),hlen,show 2*T.length+1-2*T.length=1 by omega];simp
  have e3:(T++[af T l++af T r]).getD T.length []=af T l++af T r:=by simp[List.getD]
  rw[e1,e2,e3,gT (by omega),gT (by omega)];exact⟨hl,hr,rfl⟩
theorem lD.TY{f:ByteArray}(h:lD f):∀k,k<=bt f 2->gD (kp f k) ((uW f k).map aq) (uW f k)
 | 0,_=>gD.nil
 | k+1,hk=>by
   have ih:=(h.TY k (by omega)).push (l:=gA f k) (r:=gB f k) (by rw[jG];exact(h.a (by omega)).2) (by rw[jG];exact(h.b (by omega)).2);show gD (kp f k++[gA f k,gB f k]) ((uW f k++[af (uW f k) (gA f k)++af (uW f k) (gB f k)]).map aq) (uW f k++[af (uW f k) (gA f k)++af (uW f k) (gB f k)]);rw[List.map_append];exact ih
theorem Nq{f:ByteArray}(h:lD f):zy f=aq ((jE f (gN f)).flatMap (af (uW f (bt f 2)))):=by
 have hb:∀s,s∈jE f (gN f)->s<256+(uW f (bt f 2)).length:=fun s hs=>by rw[jG];exact h.top _ (Nat.le_refl _) s hs
 unfold zy dV;rw[h.ps _ (Nat.le_refl _)];exact BY _ hb []
structure Nr (w:World)(b B C:Nat)(kind:Int)(n:Nat)(rl top:List Nat)(ps:List PI)(rv tv pv:Value)(T:List (List Nat))(X:List Nat):Prop where
 gm:GM w b B C kind n rl top ps rv tv pv
 sound:gD rl ps T
 ZS:T.length<=1000
 TZ:top.length<=100000000
 syms:∀s,s∈top->s<256+T.length
 text:X=top.flatMap (af T)
 Jh:X.length<=1099511627776
 byte:∀c,c∈X->c<256
def XV(p:PI)(v3 v4:IV)(c:Nat):Nat->Value
 | 0=>.int .i64 (p.aV:Int)
 | 1=>.int .i64 (p.ends:Int)
 | 2=>.int .i64 (p.tail:Int)
 | 3=>fF v3
 | 4=>fF v4
 | _=>.int .i64 (c:Int)
def nt(p:PI)(v3 v4:IV)(c:Nat):Array Value:=#[.int .i64 (p.aV:Int),.int .i64 (p.ends:Int),.int .i64 (p.tail:Int),fF v3,fF v4,.int .i64 (c:Int)]
structure uX (w:World)(b:Nat)(kv nv rv tv pv:Value)(rl top:List Nat)(m:Nat)(U:Nat->Nat->Value):Prop where
 aD:ah w b #[kv,nv,rv,tv,pv] 71
 rules:w.ownsRow 0 3 1 rv rl.length (aF rl)
 top:w.ownsRow 0 3 1 tv top.length (aF top)
 XW:0<m->∃gp cap cur,pv=.slice (some ⟨gp,0,none⟩) m cap/\ah w gp cur 122/\∀i,i<m->∀j,j<6->cur[i*6+j]?=some (U i j)
theorem uX.kept{w w':World}{b m:Nat}{kv nv rv tv pv:Value}{rl top:List Nat}{U:Nat->Nat->Value}(h:uX w b kv nv rv tv pv rl top m U)(k:Kept [] w w'):uX w' b kv nv rv tv pv rl top m U:=
 ⟨h.aD.kept k (by simp),aQ (S:=[]) h.rules k (fun _ _=>by simp),aQ (S:=[]) h.top k (fun _ _=>by simp),fun hm=>by
  obtain⟨gp,cap,cur,h1,h2,h3⟩:=h.XW hm;exact⟨gp,cap,cur,h1,h2.kept k (by simp),h3⟩⟩
def dJ(w:World)(D:fo)(sel:List Nat->Bool)(T:List (List Nat))(U:Nat->Nat->Value)(k:Nat):Prop:=
 ∀i,i<T.length->∃v3 v4 c,(∀j,j<6->U i j=XV (aq (T.getD i [])) v3 v4 c j)/\(i<k->gi w D sel (T.getD i []) (fF v3) (fF v4) c)
theorem dJ.kept{w w':World}{D:fo}{sel:List Nat->Bool}{T:List (List Nat)}{U:Nat->Nat->Value}{k:Nat}(h:dJ w D sel T U k)(kk:Kept [] w w'):dJ w' D sel T U k:=fun i hi=>by
 obtain⟨v3,v4,c,h1,h2⟩:=h i hi;exact⟨v3,v4,c,h1,fun hk=>(h2 hk).kept kk⟩
structure Ns (w w':World)(e:Ending)(D:fo)(sel:List Nat->Bool)(x:List Nat):Prop where
 ex:∃v3 v4 c,e=.returned (.agg (nt (aq x) v3 v4 c))/\gi w' D sel x (fF v3) (fF v4) c
 kept:Kept [] w w'
theorem uK{fn:Func}{r:Tmp}(h:fn.results=#[.cell r 122])(tmps:Array Value)(w:World)(g:Nat)(p:PI)(v3 v4:IV)(c:Nat)
 (hp:tmps.getD r undef=.pointer (some ⟨g,0,none⟩)) (hg:ah w g (nt p v3 v4 c) 122):(results fn tmps).run Tryz.prog w=.ok (.agg (nt p v3 v4 c)) w:=
 results_cell_row h tmps w g _ _ _ _ hp hg Tryz.underlying122 rfl Bm
theorem yc{w:World}{b m:Nat}{kv nv rv tv pv:Value}{rl top:List Nat}{U:Nat->Nat->Value}(h:uX w b kv nv rv tv pv rl top m U)(hl:m<=1000){i:Nat}(hi:i<m){p:PI}{v3 v4:IV}{c:Nat}(hU:∀j,j<6->U i j=XV p v3 v4 c j):
 Calls Tryz.prog 66 #[.pointer (some ⟨b,0,none⟩),.int .i64 ((i+256:Nat):Int)] w fun e w'=>e=.returned (.agg (nt p v3 v4 c))/\Kept [] w w':=by
 obtain⟨gp,cap,cur,rfl,h2,h3⟩:=h.XW (by omega);have hc:∀j,j<6->w.cell? ⟨gp,i*6+j,none⟩=some (XV p v3 v4 c j):=fun j hj=>by rw[h2.cell,h3 i hi j hj,hU j hj]
 exact Bn h.aD hi h2.lt hl (hc 0 (by omega)) (hc 1 (by omega)) (hc 2 (by omega)) (hc 3 (by omega)) (hc 4 (by omega)) (hc 5 (by omega))
theorem ts(b:Nat){s:Nat}(hs:s<256)(w:World):
 Calls Tryz.prog 66 #[.pointer (some ⟨b,0,none⟩),.int .i64 (s:Int)] w fun e w'=>e=.returned (.agg (nt (aq [s]) (none,0,0) (none,0,0) 0))/\Kept [] w w':=by
 have e0:aq [s]=fm [] s:=by
  have h1:fm (([]:List (List Nat)).map aq) s=aq (af [] s):=zR (T:=[]) (s:=s) (by simp;omega);have h2:af [] s=[s]:=if_pos hs;rw[h2]at h1;exact h1.symm
 rw[e0];have hk:Hid (∀o1,Kept [] w (w.alloc o1)):=fun o1=>(Kept.refl [] w).alloc _;unfold fm;by_cases h1:s=10
 ·subst h1;rw[if_pos rfl];unfold nt fF;simp only[];go_enter Tryz.func66,Tryz.ntmps66
  go_wp2
  refine bodyPost_ret (v:=.agg #[.int .i64 1,.int .i64 1,.int .i64 0,.slice none 0 0,.slice none 0 0,.int .i64 0]) (by simp[results,Tryz.results66,go_sem]) rfl ⟨rfl,hk.out _⟩
 ·rw[if_neg h1,if_pos hs];have e1:((s:Int)==10)=false:=beq_eq_false_iff_ne.2 (by omega);have h2:(s:Int)<256:=by omega
  unfold nt fF;simp only[];clear h1;go_enter Tryz.func66,Tryz.ntmps66
  go_wp2
  refine bodyPost_ret (v:=.agg #[.int .i64 1,.int .i64 0,.int .i64 1,.slice none 0 0,.slice none 0 0,.int .i64 0]) (by simp[results,Tryz.results66,go_sem]) rfl ⟨rfl,hk.out _⟩
structure mg (w y:World)(g1:Nat)(cs:Array Value):Prop where
 k:Kept [] w y
 r:ah y w.heap.size #[.int .i64 0,.int .i64 0,.int .i64 0,.slice none 0 0,.slice none 0 0,.int .i64 0] 122
 p:ah y g1 cs 122
 lt:w.heap.size<g1
theorem mg.more{w y z:World}{g1:Nat}{cs:Array Value}(h:mg w y g1 cs)(k:Kept [] y z):mg w z g1 cs:=⟨h.k.trans k,h.r.kept k (by simp),h.p.kept k (by simp),h.lt⟩
theorem mg.set{w y:World}{g1:Nat}{cs:Array Value}(h:mg w y g1 cs)(j:Nat)(v:Value):mg w (y.setCell ⟨g1,j,none⟩ v) g1 (cs.setIfInBounds j v):=
 ⟨h.k.setCell (Or.inr (by have:=h.lt;show w.heap.size<=g1;omega)) _,h.r.other _ _ (by have:=h.lt;omega),h.p.set j v,h.lt⟩
theorem mg.fin{w y:World}{g1:Nat}{a0 a1 a2 a3 a4 a5:Value}(h:mg w y g1 #[a0,a1,a2,a3,a4,a5])(u0 u1 u2 u3 u4 u5:Value):
 Kept [] w (iG y w.heap.size u0 u1 u2 u3 u4 u5)/\ah (iG y w.heap.size u0 u1 u2 u3 u4 u5) w.heap.size #[u0,u1,u2,u3,u4,u5] 122/\Kept [w.heap.size] y (iG y w.heap.size u0 u1 u2 u3 u4 u5):=
 ⟨D' h.k (Nat.le_refl _) _ _ _ _ _ _,C5 h.r _ _ _ _ _ _,Ir y _ _ _ _ _ _ _⟩
theorem bB{w:World}{g:Nat}{c0 c1 c2 c3 c4 c5:Value}{t:TypeId}(h:ah w g #[c0,c1,c2,c3,c4,c5] t):
 w.cell? ⟨g,0,none⟩=some c0/\w.cell? ⟨g,1,none⟩=some c1/\w.cell? ⟨g,2,none⟩=some c2/\w.cell? ⟨g,3,none⟩=some c3/\w.cell? ⟨g,4,none⟩=some c4/\w.cell? ⟨g,5,none⟩=some c5/\g<w.heap.size:=
 ⟨h.cell 0,h.cell 1,h.cell 2,h.cell 3,h.cell 4,h.cell 5,h.lt⟩
theorem ee{w:World}{g:Nat}{cs:Array Value}{t:TypeId}(h:ah w g cs t):
 w.frozen? ⟨g,0,none⟩=false/\w.frozen? ⟨g,1,none⟩=false/\w.frozen? ⟨g,2,none⟩=false/\w.frozen? ⟨g,3,none⟩=false/\w.frozen? ⟨g,4,none⟩=false/\w.frozen? ⟨g,5,none⟩=false:=
 ⟨h.frozen 0,h.frozen 1,h.frozen 2,h.frozen 3,h.frozen 4,h.frozen 5⟩
theorem aN.six{w y:World}{g1:Nat}{cs:Array Value}(h:mg w y g1 cs)(u0 u1 u2 u3 u4 u5:Value):aN y (iG y w.heap.size u0 u1 u2 u3 u4 u5):=by
 have st:∀{z:World} {cs:Array Value} (_:aN y z) (_:ah z w.heap.size cs 122) (i:Nat) (v:Value),aN y (z.setCell ⟨w.heap.size,i,none⟩ v)/\ah (z.setCell ⟨w.heap.size,i,none⟩ v) w.heap.size (cs.setIfInBounds i v) 122:=fun s b i v=>⟨s.set b (Or.inl rfl) i v,b.set i v⟩;have h0:=st (aN.refl y) h.r 0 u0;have h1:=st h0.1 h0.2 1 u1;have h2:=st h1.1 h1.2 2 u2;have h3:=st h2.1 h2.2 3 u3;have h4:=st h3.1 h3.2 4 u4;exact(st h4.1 h4.2 5 u5).1
theorem L5{w:World}{b m:Nat}{kv nv rv tv pv:Value}{rl top:List Nat}{U:Nat->Nat->Value}(h:uX w b kv nv rv tv pv rl top m U)(hl:m<=1000){i:Nat}(hi:i<m){D:fo}{sel:List Nat->Bool}{x:List Nat}{v3 v4:IV}{c:Nat}(hU:∀j,j<6->U i j=XV (aq x) v3 v4 c j)(hP:gi w D sel x (fF v3) (fF v4) c)(mv:Value):
 Calls Tryz.prog 111 #[.pointer (some ⟨b,0,none⟩),mv,.int .i64 ((i+256:Nat):Int)] w fun e w'=>Ns w w' e D sel x:=by
 have LX:Kept [] w (w.alloc (.cells #[.int .i64 0,.int .i64 0,.int .i64 0,.slice none 0 0,.slice none 0 0,.int .i64 0] 122)):=(Kept.refl [] w).alloc _;have hc:Hid (Calls _ _ _ (w.alloc (.cells #[.int .i64 0,.int .i64 0,.int .i64 0,.slice none 0 0,.slice none 0 0,.int .i64 0] 122)) _):=yc (h.kept LX) hl hi hU;have hr:Hid (ah (w.alloc (.cells #[.int .i64 0,.int .i64 0,.int .i64 0,.slice none 0 0,.slice none 0 0,.int .i64 0] 122)) w.heap.size #[.int .i64 0,.int .i64 0,.int .i64 0,.slice none 0 0,.slice none 0 0,.int .i64 0] 122):=ah.new w _ _;have Ck:Hid (Kept [] w _):=LX;have xz:Hid (gi _ _ _ _ _ _ _):=hP;have e1:(((i+256:Nat):Int)==10)=false:=beq_eq_false_iff_ne.2 (by omega);have h2:¬((i+256:Nat):Int)<256:=by omega
 clear LX h hU hP;obtain⟨x4,m4,k4⟩:=v3;obtain⟨x5,m5,k5⟩:=v4;generalize ((i+256:Nat):Int)=s at *;unfold nt fF at hc;simp only[]at hc;go_enter Tryz.func111,Tryz.ntmps111
 go_wp2_with fail
 refine hc.out.mono ?_;rintro e w1 ⟨rfl,k1⟩;have hT:mg w (w1.alloc (.cells #[.int .i64 ((aq x).aV:Int),.int .i64 ((aq x).ends:Int),.int .i64 ((aq x).tail:Int),.slice x4 m4 k4,.slice x5 m5 k5,.int .i64 (c:Int)] 122)) w1.heap.size #[.int .i64 ((aq x).aV:Int),.int .i64 ((aq x).ends:Int),.int .i64 ((aq x).tail:Int),.slice x4 m4 k4,.slice x5 m5 k5,.int .i64 (c:Int)]:=
  ⟨(Ck.out.trans k1).alloc _,(hr.out.kept k1 (by simp)).alloc _,ah.new w1 _ _,by have:=k1.size;simp at this;omega⟩
 have pq:Hid (mg _ _ _ _):=hT;clear hc hr hT Ck k1;go_upto_region 2 with fail
 obtain⟨y,hy⟩:∃y,y=w1.alloc (.cells #[.int .i64 ((aq x).aV:Int),.int .i64 ((aq x).ends:Int),.int .i64 ((aq x).tail:Int),.slice x4 m4 k4,.slice x5 m5 k5,.int .i64 (c:Int)] 122):=⟨_,rfl⟩;rw[<-hy]at pq;rw[<-hy];clear hy;obtain⟨z0,z1,z2,z3,z4,z5,zl⟩:=bB pq.out.p;obtain⟨q0,q1,q2,q3,q4,q5,ql⟩:=bB pq.out.r;obtain⟨f0,f1,f2,f3,f4,f5⟩:=ee pq.out.r;have fx:w1.heap.size≠w.heap.size:=by have:=pq.out.lt;omega
 go_wp2
 have aA:=pq.out.fin (.int .i64 ((aq x).aV:Int)) (.int .i64 ((aq x).ends:Int)) (.int .i64 ((aq x).tail:Int)) (.slice x4 m4 k4) (.slice x5 m5 k5) (.int .i64 (c:Int));have dy:=aN.six pq.out (.int .i64 ((aq x).aV:Int)) (.int .i64 ((aq x).ends:Int)) (.int .i64 ((aq x).tail:Int)) (.slice x4 m4 k4) (.slice x5 m5 k5) (.int .i64 (c:Int));exact bodyPost_ret (v:=.agg (nt (aq x) (x4,m4,k4) (x5,m5,k5) c)) (uK Tryz.results111 _ _ w.heap.size (aq x) (x4,m4,k4) (x5,m5,k5) c rfl aA.2.1) rfl ⟨⟨(x4,m4,k4),(x5,m5,k5),c,rfl,(xz.out.kept pq.out.k).bV dy⟩,aA.1⟩
theorem WX:ax [10]=[[]]:=rfl
theorem pc_nl{w:World}{D:fo}{sel:List Nat->Bool}{rows:List Nat}{v:Value}{g:Nat}{f:Nat->Bool}(h1:rows.length=3+D.nodes.length)(h2:kR w 0 v (3+D.nodes.length) rows (fun i k=>k==i))(h3:ah w g (ar (3+D.nodes.length) f) 4)(h4:SF D.nodes.length f=l8 0):gi w D sel [10] v (di (3+D.nodes.length) g) 0:=
 ⟨⟨rows,_,h1,h2,og.still⟩,Or.inr ⟨by rw[WX];simp,g,f,rfl,h3,h4⟩,rfl⟩
theorem yd{s:Nat}(h:s≠10):ax [s]=[]:=by unfold ax;rw[FM h]
theorem WY{w:World}{D:fo}{sel:List Nat->Bool}{rows:List Nat}{v:Value}{W:Nat->Nat->Bool}{s:Nat}(hs:s≠10)(h1:rows.length=3+D.nodes.length)(h2:kR w 0 v (3+D.nodes.length) rows W)(h3:og D [s] W):gi w D sel [s] v (.slice none 0 0) 0:=by
 have hc:=yd hs;refine⟨⟨rows,W,h1,h2,?_⟩,Or.inl ⟨hc,rfl⟩,(TW hc).symm⟩;unfold cV;rw[if_pos hc];exact h3
theorem T4{w:World}{mb gn cap:Nat}{D:fo}{aj:List Nat}{F:Nat->Prop}{num:Bool}{mx:Int}(hM:gC w mb D aj F num mx gn cap)(hn:D.nodes.length<=10000)(sel:List Nat->Bool)(b:Nat):
 Calls Tryz.prog 111 #[.pointer (some ⟨b,0,none⟩),.pointer (some ⟨mb,0,none⟩),.int .i64 10] w fun e w'=>Ns w w' e D sel [10]:=by
 have LX:Kept [] w (w.alloc (.cells #[.int .i64 0,.int .i64 0,.int .i64 0,.slice none 0 0,.slice none 0 0,.int .i64 0] 122)):=(Kept.refl [] w).alloc _;have hc:Hid (Calls Tryz.prog 66 #[.pointer (some ⟨b,0,none⟩),.int .i64 10] (w.alloc (.cells #[.int .i64 0,.int .i64 0,.int .i64 0,.slice none 0 0,.slice none 0 0,.int .i64 0] 122)) _):=ts b (s:=10) (by omega) _;have hr:Hid (ah (w.alloc (.cells #[.int .i64 0,.int .i64 0,.int .i64 0,.slice none 0 0,.slice none 0 0,.int .i64 0] 122)) w.heap.size #[.int .i64 0,.int .i64 0,.int .i64 0,.slice none 0 0,.slice none 0 0,.int .i64 0] 122):=ah.new w _ _;have Ck:Hid (Kept [] w _):=LX;have T9:Hid (∀w',Kept [] w w'->Calls _ _ _ w' _):=fun w' k=>LY (hM.kept k) hn;have Ua:Hid (∀w',Kept [] w w'->Calls _ _ _ w' _):=fun w' k=>uI (hM.kept k) hn;clear LX hM;unfold nt fF at hc;simp only[]at hc;go_enter Tryz.func111,Tryz.ntmps111
 go_wp2_with fail
 refine hc.out.mono ?_;rintro e w1 ⟨rfl,k1⟩;have hT:mg w (w1.alloc (.cells #[.int .i64 ((aq [10]).aV:Int),.int .i64 ((aq [10]).ends:Int),.int .i64 ((aq [10]).tail:Int),.slice none 0 0,.slice none 0 0,.int .i64 ((0:Nat):Int)] 122)) w1.heap.size #[.int .i64 ((aq [10]).aV:Int),.int .i64 ((aq [10]).ends:Int),.int .i64 ((aq [10]).tail:Int),.slice none 0 0,.slice none 0 0,.int .i64 ((0:Nat):Int)]:=
  ⟨(Ck.out.trans k1).alloc _,(hr.out.kept k1 (by simp)).alloc _,ah.new w1 _ _,by have:=k1.size;simp at this;omega⟩
 have pq:Hid (mg _ _ _ _):=hT;clear k1 hc hr hT Ck;go_wp2_with fail
 refine(T9.out _ pq.out.k).mono ?_;rintro e w2 ⟨⟨v,rows,rfl,wv,ft⟩,k2⟩;obtain⟨vg,ku,rfl,_,_⟩:=ft.head (by omega);rw[wv]at ft ⊢;have kf:Hid (mg _ _ _ _):=pq.out.more k2;have zw:Hid (kR w2 0 _ _ _ _):=ft.mono (Nat.zero_le _);have Ub:Hid (_=_):=wv;obtain⟨z0,z1,z2,z3,z4,z5,zl⟩:=bB kf.out.p;obtain⟨f0,f1,f2,f3,f4,f5⟩:=ee kf.out.p;clear k2 ft pq T9 wv;go_upto_region 4 with fail
 obtain⟨y,hy⟩:∃y,y=w2.setCell ⟨w1.heap.size,3,none⟩ (.slice (some ⟨vg,0,none⟩) (3+D.nodes.length) ku):=⟨_,rfl⟩;rw[<-hy];have Gw:Hid (mg w y w1.heap.size #[.int .i64 ((aq [10]).aV:Int),.int .i64 ((aq [10]).ends:Int),.int .i64 ((aq [10]).tail:Int),.slice (some ⟨vg,0,none⟩) (3+D.nodes.length) ku,.slice none 0 0,.int .i64 ((0:Nat):Int)]):=by
  show mg _ _ _ _;rw[hy];exact kf.out.set 3 _
 have ht3:Hid (kR y 0 _ _ _ _):=zw.out.bV (by rw[hy];exact(aN.refl w2).set kf.out.p (Or.inl rfl) _ _);clear hy kf zw z0 z1 z2 z3 z4 z5 zl f0 f1 f2 f3 f4 f5;go_wp2_with fail
 refine(Ua.out _ Gw.out.k).mono ?_;rintro e w3 ⟨⟨g3,rfl,_,pS⟩,k3⟩;have hT4:Hid (mg _ _ _ _):=Gw.out.more k3;have ht4:Hid (kR w3 0 _ _ _ _):=ht3.out.kept k3 (by simp);have Ou:Hid (ah _ _ _ _):=pS;obtain⟨z0,z1,z2,z3,z4,z5,zl⟩:=bB hT4.out.p;obtain⟨f0,f1,f2,f3,f4,f5⟩:=ee hT4.out.p;unfold di;clear k3 pS Gw ht3 Ua;go_upto_region 7 with fail
 obtain⟨y2,hy2⟩:∃y,y=w3.setCell ⟨w1.heap.size,4,none⟩ (.slice (some ⟨g3,0,none⟩) (3+D.nodes.length) (3+D.nodes.length)):=⟨_,rfl⟩;rw[<-hy2];have st5:aN w3 y2:=by rw[hy2];exact(aN.refl w3).set hT4.out.p (Or.inl rfl) _ _
 have wY:Hid (mg w y2 w1.heap.size #[.int .i64 ((aq [10]).aV:Int),.int .i64 ((aq [10]).ends:Int),.int .i64 ((aq [10]).tail:Int),.slice (some ⟨vg,0,none⟩) (3+D.nodes.length) ku,.slice (some ⟨g3,0,none⟩) (3+D.nodes.length) (3+D.nodes.length),.int .i64 ((0:Nat):Int)]):=by
  show mg _ _ _ _;rw[hy2];exact hT4.out.set 4 _
 have hP5:Hid (gi y2 D sel [10] (.slice (some ⟨vg,0,none⟩) (3+D.nodes.length) ku) (.slice (some ⟨g3,0,none⟩) (3+D.nodes.length) (3+D.nodes.length)) 0):=pc_nl Ub.out (ht4.out.bV st5) (st5.aD _ _ _ (by decide) (by decide) Ou.out) (Cg (by omega));clear hy2 st5 hT4 ht4 Ou z0 z1 z2 z3 z4 z5 zl f0 f1 f2 f3 f4 f5;obtain⟨z0,z1,z2,z3,z4,z5,zl⟩:=bB wY.out.p;obtain⟨q0,q1,q2,q3,q4,q5,ql⟩:=bB wY.out.r;obtain⟨f0,f1,f2,f3,f4,f5⟩:=ee wY.out.r;have fx:w1.heap.size≠w.heap.size:=by have:=wY.out.lt;omega
 go_wp2
 have aA:=wY.out.fin (.int .i64 ((aq [10]).aV:Int)) (.int .i64 ((aq [10]).ends:Int)) (.int .i64 ((aq [10]).tail:Int)) (.slice (some ⟨vg,0,none⟩) (3+D.nodes.length) ku) (.slice (some ⟨g3,0,none⟩) (3+D.nodes.length) (3+D.nodes.length)) (.int .i64 ((0:Nat):Int));have dy:=aN.six wY.out (.int .i64 ((aq [10]).aV:Int)) (.int .i64 ((aq [10]).ends:Int)) (.int .i64 ((aq [10]).tail:Int)) (.slice (some ⟨vg,0,none⟩) (3+D.nodes.length) ku) (.slice (some ⟨g3,0,none⟩) (3+D.nodes.length) (3+D.nodes.length)) (.int .i64 ((0:Nat):Int));exact bodyPost_ret (v:=.agg (nt (aq [10]) (some ⟨vg,0,none⟩,3+D.nodes.length,ku) (some ⟨g3,0,none⟩,3+D.nodes.length,3+D.nodes.length) 0)) (uK Tryz.results111 _ _ w.heap.size (aq [10]) (some ⟨vg,0,none⟩,3+D.nodes.length,ku) (some ⟨g3,0,none⟩,3+D.nodes.length,3+D.nodes.length) 0 rfl aA.2.1) rfl ⟨⟨(some ⟨vg,0,none⟩,3+D.nodes.length,ku),(some ⟨g3,0,none⟩,3+D.nodes.length,3+D.nodes.length),0,rfl,hP5.out.bV dy⟩,aA.1⟩
theorem L7{w:World}{mb gn cap:Nat}{D:fo}{aj:List Nat}{F:Nat->Prop}{num:Bool}{mx:Int}{R:gz}(hM:gC w mb D aj F num mx gn cap)(hR:gX D R)(hn:D.nodes.length<=10000)(sel:List Nat->Bool)(b:Nat){s:Nat}(hs:s<256)(QW:s≠10):
 Calls Tryz.prog 111 #[.pointer (some ⟨b,0,none⟩),.pointer (some ⟨mb,0,none⟩),.int .i64 (s:Int)] w fun e w'=>Ns w w' e D sel [s]:=by
 have LX:Kept [] w (w.alloc (.cells #[.int .i64 0,.int .i64 0,.int .i64 0,.slice none 0 0,.slice none 0 0,.int .i64 0] 122)):=(Kept.refl [] w).alloc _;have hc:Hid (Calls Tryz.prog 66 #[.pointer (some ⟨b,0,none⟩),.int .i64 (s:Int)] (w.alloc (.cells #[.int .i64 0,.int .i64 0,.int .i64 0,.slice none 0 0,.slice none 0 0,.int .i64 0] 122)) _):=ts b hs _;have hr:Hid (ah (w.alloc (.cells #[.int .i64 0,.int .i64 0,.int .i64 0,.slice none 0 0,.slice none 0 0,.int .i64 0] 122)) w.heap.size #[.int .i64 0,.int .i64 0,.int .i64 0,.slice none 0 0,.slice none 0 0,.int .i64 0] 122):=ah.new w _ _;have Ck:Hid (Kept [] w _):=LX;have hway:Hid (∀w',Kept [] w w'->Calls _ _ _ w' _):=fun w' k=>TV (hM.kept k) hR hn s hs;have e1:((s:Int)==10)=false:=beq_eq_false_iff_ne.2 (by omega);have h2:(s:Int)<256:=by omega
 have ZT:Hid (s≠10):=QW;clear LX hM hR QW hs;unfold nt fF at hc;simp only[]at hc;go_enter Tryz.func111,Tryz.ntmps111
 go_wp2_with fail
 refine hc.out.mono ?_;rintro e w1 ⟨rfl,k1⟩;have hT:mg w (w1.alloc (.cells #[.int .i64 ((aq [s]).aV:Int),.int .i64 ((aq [s]).ends:Int),.int .i64 ((aq [s]).tail:Int),.slice none 0 0,.slice none 0 0,.int .i64 ((0:Nat):Int)] 122)) w1.heap.size #[.int .i64 ((aq [s]).aV:Int),.int .i64 ((aq [s]).ends:Int),.int .i64 ((aq [s]).tail:Int),.slice none 0 0,.slice none 0 0,.int .i64 ((0:Nat):Int)]:=
  ⟨(Ck.out.trans k1).alloc _,(hr.out.kept k1 (by simp)).alloc _,ah.new w1 _ _,by have:=k1.size;simp at this;omega⟩
 have pq:Hid (mg _ _ _ _):=hT;clear k1 hc hr hT Ck;go_wp2_with fail
 refine(hway.out _ pq.out.k).mono ?_;rintro e w2 ⟨W,⟨⟨v,rows,rfl,wv,ft⟩,k2⟩,hW⟩;obtain⟨vg,ku,rfl,_,_⟩:=ft.head (by omega);rw[wv]at ft ⊢;have kf:Hid (mg _ _ _ _):=pq.out.more k2;have zw:Hid (kR w2 0 _ _ _ _):=ft.mono (Nat.zero_le _);have Ub:Hid (_=_):=wv;have hWH:Hid (og _ _ _):=hW;obtain⟨z0,z1,z2,z3,z4,z5,zl⟩:=bB kf.out.p;obtain⟨f0,f1,f2,f3,f4,f5⟩:=ee kf.out.p;clear k2 ft pq hway wv hW;go_upto_region 7 with fail
 obtain⟨y,hy⟩:∃y,y=w2.setCell ⟨w1.heap.size,3,none⟩ (.slice (some ⟨vg,0,none⟩) (3+D.nodes.length) ku):=⟨_,rfl⟩;rw[<-hy];have wY:Hid (mg w y w1.heap.size #[.int .i64 ((aq [s]).aV:Int),.int .i64 ((aq [s]).ends:Int),.int .i64 ((aq [s]).tail:Int),.slice (some ⟨vg,0,none⟩) (3+D.nodes.length) ku,.slice none 0 0,.int .i64 ((0:Nat):Int)]):=by
  show mg _ _ _ _;rw[hy];exact kf.out.set 3 _
 have hP5:Hid (gi y D sel [s] (.slice (some ⟨vg,0,none⟩) (3+D.nodes.length) ku) (.slice none 0 0) 0):=WY ZT.out Ub.out (zw.out.bV (by rw[hy];exact(aN.refl w2).set kf.out.p (Or.inl rfl) _ _)) hWH.out;clear hy kf zw z0 z1 z2 z3 z4 z5 zl f0 f1 f2 f3 f4 f5;obtain⟨z0,z1,z2,z3,z4,z5,zl⟩:=bB wY.out.p;obtain⟨q0,q1,q2,q3,q4,q5,ql⟩:=bB wY.out.r;obtain⟨f0,f1,f2,f3,f4,f5⟩:=ee wY.out.r;have fx:w1.heap.size≠w.heap.size:=by have:=wY.out.lt;omega
 go_wp2
 have aA:=wY.out.fin (.int .i64 ((aq [s]).aV:Int)) (.int .i64 ((aq [s]).ends:Int)) (.int .i64 ((aq [s]).tail:Int)) (.slice (some ⟨vg,0,none⟩) (3+D.nodes.length) ku) (.slice none 0 0) (.int .i64 ((0:Nat):Int));have dy:=aN.six wY.out (.int .i64 ((aq [s]).aV:Int)) (.int .i64 ((aq [s]).ends:Int)) (.int .i64 ((aq [s]).tail:Int)) (.slice (some ⟨vg,0,none⟩) (3+D.nodes.length) ku) (.slice none 0 0) (.int .i64 ((0:Nat):Int));exact bodyPost_ret (v:=.agg (nt (aq [s]) (some ⟨vg,0,none⟩,3+D.nodes.length,ku) (none,0,0) 0)) (uK Tryz.results111 _ _ w.heap.size (aq [s]) (some ⟨vg,0,none⟩,3+D.nodes.length,ku) (none,0,0) 0 rfl aA.2.1) rfl ⟨⟨(some ⟨vg,0,none⟩,3+D.nodes.length,ku),(none,0,0),0,rfl,hP5.out.bV dy⟩,aA.1⟩
theorem Es{w:World}{b mb gn cap k:Nat}{kv nv rv tv pv:Value}{rl top:List Nat}{U:Nat->Nat->Value}{T:List (List Nat)}{D:fo}{sel:List Nat->Bool}{aj:List Nat}{F:Nat->Prop}{num:Bool}{mx:Int}{R:gz}
 (hG:uX w b kv nv rv tv pv rl top T.length U) (hL:dJ w D sel T U k) (hk:k<=T.length) (hT:T.length<=1000) (hM:gC w mb D aj F num mx gn cap) (hR:gX D R) (hn:D.nodes.length<=10000) {s:Nat} (hs:s<256+k):
 Calls Tryz.prog 111 #[.pointer (some ⟨b,0,none⟩),.pointer (some ⟨mb,0,none⟩),.int .i64 (s:Int)] w fun e w'=>Ns w w' e D sel (af T s):=by
 by_cases h1:s<256
 ·have e:af T s=[s]:=if_pos h1;rw[e];by_cases h2:s=10
  ·subst h2;exact T4 hM hn sel b
  ·exact L7 hM hR hn sel b h1 h2
 ·obtain⟨i,rfl⟩:∃i,s=i+256:=⟨s-256,by omega⟩;have e:af T (i+256)=T.getD i []:=by unfold af;rw[if_neg h1,Nat.add_sub_cancel]
  rw[e];obtain⟨v3,v4,c,g1,g2⟩:=hL i (by omega);exact L5 hG hT (by omega) g1 (g2 (by omega)) _
structure qu (w y:World)(ga gb gc:Nat)(ca cb cc:Array Value):Prop where
 k:Kept [] w y
 a:ah y ga ca 122
 b:ah y gb cb 122
 c:ah y gc cc 122
 la:w.heap.size<=ga
 lb:ga<gb
 lc:gb<gc
section
variable {w y z:World}{ga gb gc:Nat}{ca cb cc:Array Value}
theorem qu.more(h:qu w y ga gb gc ca cb cc)(k:Kept [] y z):qu w z ga gb gc ca cb cc:=⟨h.k.trans k,h.a.kept k (by simp),h.b.kept k (by simp),h.c.kept k (by simp),h.la,h.lb,h.lc⟩
theorem qu.set(h:qu w y ga gb gc ca cb cc)(j:Nat)(v:Value):qu w (y.setCell ⟨gc,j,none⟩ v) ga gb gc ca cb (cc.setIfInBounds j v)/\aN y (y.setCell ⟨gc,j,none⟩ v):=
 ⟨⟨h.k.setCell (Or.inr (by have:=h.la;have:=h.lb;have:=h.lc;show w.heap.size<=gc;omega)) _,h.a.other _ _ (by have:=h.lb;have:=h.lc;omega),h.b.other _ _ (by have:=h.lc;omega),h.c.set j v,h.la,h.lb,h.lc⟩,(aN.refl y).set h.c (Or.inl rfl) _ _⟩
end
def Cl(w:World)(g o:Nat)(u0 u1 u2 u3 u4 u5:Value):World:=((((((w.setCell ⟨g,o,none⟩ u0).setCell ⟨g,o+1,none⟩ u1).setCell ⟨g,o+2,none⟩ u2).setCell ⟨g,o+3,none⟩ u3).setCell ⟨g,o+4,none⟩ u4).setCell ⟨g,o+5,none⟩ u5)
def L8(cur:Array Value)(o:Nat)(u0 u1 u2 u3 u4 u5:Value):Array Value:=(((((cur.setIfInBounds o u0).setIfInBounds (o+1) u1).setIfInBounds (o+2) u2).setIfInBounds (o+3) u3).setIfInBounds (o+4) u4).setIfInBounds (o+5) u5
theorem ZU{w:World}{g:Nat}{cur:Array Value}{t:TypeId}(h:ah w g cur t)(o:Nat)(u0 u1 u2 u3 u4 u5:Value):ah (Cl w g o u0 u1 u2 u3 u4 u5) g (L8 cur o u0 u1 u2 u3 u4 u5) t:=
 (((((h.set o u0).set (o+1) u1).set (o+2) u2).set (o+3) u3).set (o+4) u4).set (o+5) u5
theorem Uc(cur:Array Value)(o:Nat)(u0 u1 u2 u3 u4 u5:Value)(hb:o+5<cur.size)(q:Nat):(L8 cur o u0 u1 u2 u3 u4 u5)[q]? =
 if q=o then some u0 else if q=o+1 then some u1 else if q=o+2 then some u2 else if q=o+3 then some u3 else if q=o+4 then some u4 else if q=o+5 then some u5 else cur[q]?:=by
 unfold L8;simp only[Array.getElem?_setIfInBounds,Array.size_setIfInBounds];by_cases h0:q=o
 ·subst h0;rw[if_pos rfl,if_neg (by omega),if_neg (by omega),if_neg (by omega),if_neg (by omega),if_neg (by omega),if_pos rfl,if_pos (by omega)]
 ·rw[if_neg h0];by_cases h1:q=o+1
  ·subst h1;rw[if_pos rfl,if_neg (by omega),if_neg (by omega),if_neg (by omega),if_neg (by omega),if_pos rfl,if_pos (by omega)]
  ·rw[if_neg h1];by_cases h2:q=o+2
   ·subst h2;rw[if_pos rfl,if_neg (by omega),if_neg (by omega),if_neg (by omega),if_pos rfl,if_pos (by omega)]
   ·rw[if_neg h2];by_cases h3:q=o+3
    ·subst h3;rw[if_pos rfl,if_neg (by omega),if_neg (by omega),if_pos rfl,if_pos (by omega)]
    ·rw[if_neg h3];by_cases h4:q=o+4
     ·subst h4;rw[if_pos rfl,if_neg (by omega),if_pos rfl,if_pos (by omega)]
     ·rw[if_neg h4];by_cases h5:q=o+5
      ·subst h5;rw[if_pos rfl,if_pos rfl,if_pos (by omega)]
      ·rw[if_neg h5,if_neg (by omega),if_neg (by omega),if_neg (by omega),if_neg (by omega),if_neg (by omega),if_neg (by omega)]
theorem uX.put{w:World}{b m gp cap:Nat}{kv nv rv tv:Value}{rl top:List Nat}{U:Nat->Nat->Value}(h:uX w b kv nv rv tv (.slice (some ⟨gp,0,none⟩) m cap) rl top m U){k:Nat}(hk:k<m)(p:PI)(v3 v4:IV)(c:Nat):
 (∀j,j<6->w.cell? ⟨gp,k*6+j,none⟩=some (U k j))/\(∀j,w.frozen? ⟨gp,j,none⟩=false)/\gp<w.heap.size /\
 uX (Cl w gp (k*6) (.int .i64 (p.aV:Int)) (.int .i64 (p.ends:Int)) (.int .i64 (p.tail:Int)) (fF v3) (fF v4) (.int .i64 (c:Int))) b kv nv rv tv (.slice (some ⟨gp,0,none⟩) m cap) rl top m (fun i j=>if i=k then XV p v3 v4 c j else U i j) /\
 aN w (Cl w gp (k*6) (.int .i64 (p.aV:Int)) (.int .i64 (p.ends:Int)) (.int .i64 (p.tail:Int)) (fF v3) (fF v4) (.int .i64 (c:Int))) /\
 ∀base,base<=gp->Below base w (Cl w gp (k*6) (.int .i64 (p.aV:Int)) (.int .i64 (p.ends:Int)) (.int .i64 (p.tail:Int)) (fF v3) (fF v4) (.int .i64 (c:Int))):=by
 obtain⟨gp',qM,cur,he,h2,h3⟩:=h.XW (by omega);cases he;have dd:k*6+5<cur.size:=(Array.getElem?_eq_some_iff.1 (h3 k hk 5 (by omega))).1;have st:∀{z:World} {cs:Array Value} (_:aN w z) (_:ah z gp cs 122) (i:Nat) (v:Value),aN w (z.setCell ⟨gp,i,none⟩ v)/\ah (z.setCell ⟨gp,i,none⟩ v) gp (cs.setIfInBounds i v) 122:=fun s b i v=>⟨s.set b (Or.inl rfl) i v,b.set i v⟩;have dy:aN w (Cl w gp (k*6) (.int .i64 (p.aV:Int)) (.int .i64 (p.ends:Int)) (.int .i64 (p.tail:Int)) (fF v3) (fF v4) (.int .i64 (c:Int))):=by
  have s0:=st (aN.refl w) h2 (k*6) (.int .i64 (p.aV:Int));have s1:=st s0.1 s0.2 (k*6+1) (.int .i64 (p.ends:Int));have s2:=st s1.1 s1.2 (k*6+2) (.int .i64 (p.tail:Int));have s3:=st s2.1 s2.2 (k*6+3) (fF v3);have s4:=st s3.1 s3.2 (k*6+4) (fF v4);exact(st s4.1 s4.2 (k*6+5) (.int .i64 (c:Int))).1
 refine⟨fun j hj=>by rw[h2.cell,h3 k hk j hj],fun j=>h2.frozen j,h2.lt,⟨dy.aD _ _ _ (by decide) (by decide) h.aD,kt h.rules dy (by decide) (by decide),kt h.top dy (by decide) (by decide),fun _=>⟨gp,cap,_,rfl,ZU h2 _ _ _ _ _ _ _,fun i hi j hj=>?_⟩⟩,dy,fun base hb=>?_⟩
 ·rw[Uc _ _ _ _ _ _ _ _ dd];by_cases CH:i=k
  ·subst CH;simp only[if_pos];match j,hj with
   | 0,_=>rw[if_pos (by omega)];rfl
   | 1,_=>rw[if_neg (by omega),if_pos rfl];rfl
   | 2,_=>rw[if_neg (by omega),if_neg (by omega),if_pos rfl];rfl
   | 3,_=>rw[if_neg (by omega),if_neg (by omega),if_neg (by omega),if_pos rfl];rfl
   | 4,_=>rw[if_neg (by omega),if_neg (by omega),if_neg (by omega),if_neg (by omega),if_pos rfl];rfl
   | 5,_=>rw[if_neg (by omega),if_neg (by omega),if_neg (by omega),if_neg (by omega),if_neg (by omega),if_pos rfl];rfl
  ·simp only[if_neg CH];rw[if_neg (by omega),if_neg (by omega),if_neg (by omega),if_neg (by omega),if_neg (by omega),if_neg (by omega)];exact h3 i hi j hj
 ·exact((((((Below.refl base w).setCell hb _).setCell hb _).setCell hb _).setCell hb _).setCell hb _).setCell hb _
end Go.Proofs.YtgifhgnccmnbiabGreatDoor
