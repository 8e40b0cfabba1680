/- Part of the proof. -/
import Derived.Test.YtgifhgnccmnbiabGreatDoorG26
import Derived.Test.YtgifhgnccmnbiabGreatDoorG24
import Derived.Test.YtgifhgnccmnbiabGreatDoorG11
import Derived.Test.YtgifhgnccmnbiabGreatDoorG25
import Derived.Test.YtgifhgnccmnbiabGreatDoorG10
set_option linter.unusedVariables false
set_option linter.unusedSimpArgs false
set_option maxHeartbeats 4000000
set_option maxRecDepth 100000
namespace Go.Proofs.YtgifhgnccmnbiabGreatDoor
open Go.RowKit Go.IntWalk
section
variable {ps:List PN}{aj:List Nat}{F:Nat->Prop}{base mb:Nat}{oc:Qr}{st:Int}
theorem Mq(hF:∀i,F i->i<base){j:Nat}{p:PN}(hp:ps[j]?=some p)(hk:p.kind=1\/p.kind=2\/p.kind=3):qv ps aj F base mb oc st j:=by
 intro f hf w N nv nx hM hP hn hb;obtain⟨f,rfl⟩:∃f',f=f'+1:=⟨f-1,by omega⟩;rw[fj hp,if_neg (by omega),if_neg (by omega),if_neg (by omega)]at hb ⊢;have hl:N.length<=1000000:=by simp at hb;omega
 obtain⟨ka,c,qw⟩:=hP.pfc hF hM.up hp;obtain⟨a,ha⟩:∃a,a=aj.getD j 0:=⟨_,rfl⟩;have Mn:ptrTo aj j=.pointer (some ⟨a,0,none⟩):=by rw[ha];rfl
 rw[<-ha]at qw;have c0:=qw.c0;have W0:a<w.heap.size:=Nat.lt_of_lt_of_le qw.la qw.lw;have hx:=yi hM hl { kind:=p.kind,part:=j,next:=nx};have J':Cq aj { kind:=p.kind,part:=j,next:=nx}=.pointer (some ⟨a,0,none⟩):=by
  unfold Cq;rw[if_pos (by show p.kind<=3;omega)];exact Mn
 rw[J']at hx;rw[Mn];have hc:Hid (Calls Tryz.prog 109 #[.pointer (some ⟨mb,0,none⟩),.agg #[.int .i64 p.kind,.pointer (some ⟨a,0,none⟩),.int .i64 (nx:Int),.int .i64 0]] w _):=hx;clear hx J' qw Mn ha hP hM hb;rcases hk with hk|hk|hk <;>
 ·rw[hk]at c0 hc ⊢;go_enter Tryz.func110,Tryz.ntmps110
  go_wp2_with fail
  refine hc.out.mono ?_;rintro e w2 ⟨rfl,b2,m2⟩;have GJ:Hid (_/\_):=⟨b2,m2⟩;clear b2 m2;go_wp2
  go_ret;exact⟨rfl,GJ.out.1,GJ.out.2⟩
theorem Qu(hw:mT ps)(h5:gQ ps)(hF:∀i,F i->i<base){j:Nat}{p:PN}(hp:ps[j]?=some p)(hk:p.kind=4)(zN:∀k,k∈p.kids->dq ps k)(ih:∀k,k∈p.kids->qv ps aj F base mb oc st k):qv ps aj F base mb oc st j:=by
 intro f hf w N nv nx hM hP hn hb;obtain⟨f,rfl⟩:∃f',f=f'+1:=⟨f-1,by omega⟩;rw[fj hp,if_pos hk]at hb ⊢;have CG:∀k,k∈p.kids->k<f:=fun k hk=>by have:=hw j p hp k hk;omega
 have zW:∀k,k∈p.kids->cS ps (aT ps f k) (fun fold t=>j6 ps fold t k):=fun k hk=>vV hw h5 (zN k hk) f (CG k hk);have bO:Hid (∀m,(lX (aT ps f) (p.kids.drop m) (nx,N)).1<(lX (aT ps f) (p.kids.drop m) (nx,N)).2.length):=fun m=>(zJ (Q:=fun k fold t=>j6 ps fold t k) hn (p.kids.drop m) (fun k hk=>zW k (List.mem_of_mem_drop hk))).lt;have hlen:Hid (∀m,(lX (aT ps f) (p.kids.drop m) (nx,N)).2.length<=1000000):=fun m=>Nat.le_trans (UQ (ps:=ps) (Q:=fun k fold t=>j6 ps fold t k) hn p.kids zW m) hb;have fJ:Hid (∀k,k∈p.kids->∀w' N' JR wX,Below base w w'->MC w' base mb oc st aj N' JR->wX<N'.length->(aT ps f k wX N').2.length<=1000000->Calls _ _ _ w' _):=fun k hk w' N' JR wX b m h1 h2=>ih k hk f (CG k hk) w' N' JR wX m (hP.below hF b) h1 h2;obtain⟨ka,c,qw⟩:=hP.pfc hF hM.up hp;obtain⟨a,ha⟩:∃a,a=aj.getD j 0:=⟨_,rfl⟩;have Mn:ptrTo aj j=.pointer (some ⟨a,0,none⟩):=by rw[ha];rfl
 rw[<-ha]at qw;have Mm:Hid (PFc _ _ _ _ _ _ _):=qw;have c0:=qw.c0;have c3:=qw.c3;have W0:a<w.heap.size:=Nat.lt_of_lt_of_le qw.la qw.lw;have oX:Hid (Below base w w):=Below.refl _ _;have yT:Hid (MC _ _ _ _ _ _ _ _):=hM;have UU:Hid (p.kids.length<=maxLen):=by
  show _<=_;obtain⟨_,iv,kv,po⟩:=hP.part j p hp;rcases po.kids.2 with⟨_,h2⟩|⟨g,cap,cu,_,_,_,h4,h6,_⟩
  ·rw[h2];exact Nat.zero_le _
  ·omega
 have Qv:=UU.out;unfold maxLen at Qv;rw[Mn];rw[hk]at c0;have jz:Hid (∀m,m<p.kids.length->p.kids.getD m 0∈p.kids/\p.kids.drop m=p.kids.getD m 0 :: p.kids.drop (m+1)):=fun m hm=>by
  have e:p.kids.getD m 0=p.kids[m]:=by simp[List.getD,hm]
  rw[e];exact⟨List.getElem_mem _,List.drop_eq_getElem_cons hm⟩
 clear qw Mn ha hP hM hb ih zN zW CG hw h5;obtain⟨kn,xv⟩:∃kn,kn=p.kids.length:=⟨_,rfl⟩;have UW:Hid (kn=p.kids.length):=xv;rw[<-xv]at c3 Qv;clear xv;go_enter Tryz.func110,Tryz.ntmps110
 go_wp2_with fail
 go_loopw [2,7] (fun av iv wr=>∃(m:Nat) (NF:Value),iv=.int .i64 ((m:Int)-1)/\m<=kn/\av=.int .i64 ((lX (aT ps f) (p.kids.drop m) (nx,N)).1:Int)/\MC wr base mb oc st aj (lX (aT ps f) (p.kids.drop m) (nx,N)).2 NF/\Below base w wr) (fun _ iv _=>(intOf iv+1).toNat)
 case atStart=>
  refine⟨kn,nv,rfl,Nat.le_refl _,?_,?_,oX.out⟩
  ·rw[UW.out,List.drop_length];rfl
  ·rw[UW.out,List.drop_length];exact yT.out
 case round=>
  obtain⟨m,NF,rfl,hm,rfl,mq,bq⟩:=hrel;have NG:Hid (MC _ _ _ _ _ _ _ _):=mq;have Mp:Hid (Below base w _):=bq;have q:=Mm.out.below bq;have c3':=q.c3;rw[<-UW.out]at c3';have hal':a<wr.heap.size:=Nat.lt_of_lt_of_le q.la q.lw;clear yT oX mq bq;by_cases h0:0<=(m:Int)-1
  ·obtain⟨m,rfl⟩:∃m',m=m'+1:=⟨m-1,by omega⟩;have e1:((m+1:Nat):Int)-1=(m:Int):=by omega
   rw[e1]at *;obtain⟨gk,rfl,hgk,hkc⟩:=q.Xr m (by rw[<-UW.out];omega);have hgkl:gk<wr.heap.size:=Nat.lt_of_lt_of_le hgk q.lw;obtain⟨Br,Yf⟩:=jz.out m (by rw[<-UW.out];omega);have hs:Hid (lX (aT ps f) (p.kids.drop m) (nx,N)=aT ps f (p.kids.getD m 0) (lX (aT ps f) (p.kids.drop (m+1)) (nx,N)).1 (lX (aT ps f) (p.kids.drop (m+1)) (nx,N)).2):=by
    show _=_;rw[Yf];rfl
   have pM:=hlen.out m;rw[hs.out]at pM;have KJ:=bO.out (m+1);have nL:=fJ.out _ Br;have Da:Hid (∀w' N' JR wX,_):=nL;obtain⟨a0,UT⟩:∃a0,ptrTo aj (p.kids.getD m 0)=.pointer (some ⟨a0,0,none⟩):=⟨_,rfl⟩;rw[UT]at hkc Da;clear nL q UT Br Yf e1;go_wp2_with fail
   refine(Da.out _ _ NF _ Mp.out NG.out KJ pM).mono ?_;rintro e w2 ⟨rfl,b2,Ya,m2⟩;have Jw:Hid (Below base w w2):=Mp.out.trans b2;have GJ:Hid (MC _ _ _ _ _ _ _ _):=m2;clear b2 m2 hkc c3' NG Mp;go_wp2
   refine⟨⟨m,Ya,by go_num,by omega,by rw[hs.out];rfl,by rw[hs.out];exact GJ.out,Jw.out⟩,?_⟩;simp only[intOf];omega
  ·obtain rfl:m=0:=by omega
   clear q;go_wp2
   go_ret;rw[List.drop_zero]at NG;exact⟨rfl,Mp.out,_,NG.out⟩
theorem Qw(hw:mT ps)(h5:gQ ps)(hF:∀i,F i->i<base){j:Nat}{p:PN}(hp:ps[j]?=some p)(hk:p.kind=5)(zN:∀k,k∈p.kids->dq ps k)(ih:∀k,k∈p.kids->qv ps aj F base mb oc st k):qv ps aj F base mb oc st j:=by
 intro f hf w N nv nx hM hP hn hb;obtain⟨f,rfl⟩:∃f',f=f'+1:=⟨f-1,by omega⟩;rw[fj hp,if_neg (by omega),if_pos hk]at hb ⊢;have CG:∀k,k∈p.kids->k<f:=fun k hk=>by have:=hw j p hp k hk;omega
 have zW:∀k,k∈p.kids->cS ps (aT ps f k) (fun fold t=>j6 ps fold t k):=fun k hk=>vV hw h5 (zN k hk) f (CG k hk);have fJ:Hid (∀k,k∈p.kids->∀w' N' JR wX,Below base w w'->MC w' base mb oc st aj N' JR->wX<N'.length->(aT ps f k wX N').2.length<=1000000->Calls _ _ _ w' _):=fun k hk w' N' JR wX b m h1 h2=>ih k hk f (CG k hk) w' N' JR wX m (hP.below hF b) h1 h2;obtain⟨ka,c,qw⟩:=hP.pfc hF hM.up hp;obtain⟨a,ha⟩:∃a,a=aj.getD j 0:=⟨_,rfl⟩;have Mn:ptrTo aj j=.pointer (some ⟨a,0,none⟩):=by rw[ha];rfl
 rw[<-ha]at qw;have Mm:Hid (PFc _ _ _ _ _ _ _):=qw;have UU:Hid (p.kids.length<=maxLen):=by
  show _<=_;obtain⟨_,iv,kv,po⟩:=hP.part j p hp;rcases po.kids.2 with⟨_,h2⟩|⟨g,cap,cu,_,_,_,h4,h6,_⟩
  ·rw[h2];exact Nat.zero_le _
  ·omega
 have Qv:=UU.out;unfold maxLen at Qv;obtain⟨k0,l,zt⟩:∃k0 l,p.kids=k0 :: l:=by
  cases hx:p.kids with
  | nil=>exact absurd hx (h5 j p hp hk)
  | cons k0 l=>exact⟨k0,l,rfl⟩
 have c0:=qw.c0;have c3:=qw.c3;have W0:a<w.heap.size:=Nat.lt_of_lt_of_le qw.la qw.lw;obtain⟨gk,rfl,hgk,rJ⟩:=qw.Xr 0 (by rw[zt];simp);have hgkl:gk<w.heap.size:=Nat.lt_of_lt_of_le hgk qw.lw;have tS:∀q,q<l.length->p.kids.getD (q+1) 0=l.getD q 0/\l.getD q 0∈p.kids:=fun q hq=>by
  refine⟨by rw[zt];rfl,?_⟩;have e:l.getD q 0=l[q]:=by simp[List.getD,hq]
  rw[e,zt];exact List.mem_cons_of_mem _ (List.getElem_mem _)
 have hkdH:Hid (∀q,q<l.length->p.kids.getD (q+1) 0=l.getD q 0/\l.getD q 0∈p.kids):=tS;have NH:Hid (p.kids.length=l.length+1):=by show _=_;rw[zt];rfl
 have tV:k0∈p.kids:=by rw[zt];exact List.mem_cons_self ..
 have hg0:p.kids.getD 0 0=k0:=by rw[zt];rfl
 rw[hg0]at rJ;have sJ:Hid (qg ps N nx (aT ps f k0 nx N) _):=zW k0 tV nx N hn;have CQ:∀k,k∈l->cS ps (aT ps f k) (fun fold t=>j6 ps fold t k):=fun k hk=>zW k (by rw[zt];exact List.mem_cons_of_mem _ hk);have Z':Hid (∀q,∃S,qg ps N nx ((l.take q).foldl (lY (aT ps f) nx) (aT ps f k0 nx N)) S):=fun q=>⟨_,Fh (Q:=fun k fold t=>j6 ps fold t k) (l.take q) _ _ sJ.out (fun k hk=>CQ k (List.mem_of_mem_take hk))⟩;have Cv:Hid (∀q,((l.take q).foldl (lY (aT ps f) nx) (aT ps f k0 nx N)).2.length<=1000000):=fun q=>by
  obtain⟨S,hS⟩:=Z'.out q;have h1:=Ju (ps:=ps) (Q:=fun k fold t=>j6 ps fold t k) hn (l.drop q) _ S hS (fun k hk=>CQ k (List.mem_of_mem_drop hk));rw[<-List.foldl_append,List.take_append_drop]at h1;rw[zt]at hb;exact Nat.le_trans h1 hb
 have aA:Hid (YP (aT ps f) nx N p.kids=(l.take l.length).foldl (lY (aT ps f) nx) (aT ps f k0 nx N)):=by
  show _=_;rw[zt,List.take_length];rfl
 have hbd0:=Cv.out 0;rw[List.take_zero]at hbd0;have hbd0':(aT ps f k0 nx N).2.length<=1000000:=hbd0;have yT:Hid (MC _ _ _ _ _ _ _ _):=hM;have oX:Hid (Below base w w):=Below.refl _ _;have Da:Hid (∀w' N' JR wX,_):=fJ.out k0 tV;have nP:Hid (nx<N.length):=hn;have hmax2:l.length+1<=9223372036854775807:=by rw[<-NH.out];exact Qv
 rw[NH.out]at c3;obtain⟨a0,UT⟩:∃a0,ptrTo aj k0=.pointer (some ⟨a0,0,none⟩):=⟨_,rfl⟩;rw[UT]at rJ Da;rw[Mn,aA.out];rw[hk]at c0;clear qw Mn ha hP hM hb ih zN zW CG hw h5 tS zt tV hg0 CQ hbd0 Qv sJ UT aA;go_enter Tryz.func110,Tryz.ntmps110
 go_wp2_with fail
 refine(Da.out w N nv nx oX.out yT.out hn hbd0').mono ?_;rintro e w1 ⟨rfl,b1,nv1,m1⟩;have Tk:Hid (Below base w w1):=b1;have X':Hid (MC _ _ _ _ _ _ _ _):=m1;clear b1 m1 rJ c3 c0 W0 hgkl Da yT oX;go_wp2_with fail
 go_loopw [8,9,10] (fun av iv _ wr=>∃(q:Nat) (NF:Value),iv=.int .i64 ((q:Int)+1)/\q<=l.length/\av=.int .i64 (((l.take q).foldl (lY (aT ps f) nx) (aT ps f k0 nx N)).1:Int)/\MC wr base mb oc st aj ((l.take q).foldl (lY (aT ps f) nx) (aT ps f k0 nx N)).2 NF/\Below base w wr) (fun _ iv _ _=>((l.length:Int)+1-intOf iv).toNat)
 case atStart=>
  refine⟨0,nv1,by simp,Nat.zero_le _,?_,?_,Tk.out⟩
  ·rw[List.take_zero];rfl
  ·rw[List.take_zero];exact X'.out
 case round=>
  obtain⟨q,NF,rfl,hq,rfl,mq,bq⟩:=hrel;have NG:Hid (MC _ _ _ _ _ _ _ _):=mq;have Mp:Hid (Below base w _):=bq;have qf:=Mm.out.below bq;have c3':=qf.c3;rw[NH.out]at c3';have hal':a<wr.heap.size:=Nat.lt_of_lt_of_le qf.la qf.lw;have hgkl':gk<wr.heap.size:=Nat.lt_of_lt_of_le hgk qf.lw;clear X' Tk mq bq;by_cases h0:(q:Int)+1<(l.length:Int)+1
  ·obtain⟨hd1,YM⟩:=hkdH.out q (by omega);obtain⟨gk',he,_,hkc⟩:=qf.Xr (q+1) (by rw[NH.out];omega);cases he;rw[hd1]at hkc;have cy:Hid ((l.take (q+1)).foldl (lY (aT ps f) nx) (aT ps f k0 nx N)=lY (aT ps f) nx ((l.take q).foldl (lY (aT ps f) nx) (aT ps f k0 nx N)) (l.getD q 0)):=by
    show _=_;rw[OU (show q<l.length by omega),List.foldl_append];rfl
   have pM:=Cv.out (q+1);rw[cy.out]at pM;obtain⟨S,hS⟩:=Z'.out q;have Zg:nx<((l.take q).foldl (lY (aT ps f) nx) (aT ps f k0 nx N)).2.length:=by have:=hS.grow;have:=nP.out;omega
   have nL:=fJ.out _ YM;have Da:Hid (∀w' N' JR wX,_):=nL;generalize (l.take q).foldl (lY (aT ps f) nx) (aT ps f k0 nx N)=s at *;have hal2:Hid (lY (aT ps f) nx s (l.getD q 0)=((aT ps f (l.getD q 0) nx s.2).2.length,(aT ps f (l.getD q 0) nx s.2).2++[bK s.1 (aT ps f (l.getD q 0) nx s.2).1])):=rfl;have hgl2:(aT ps f (l.getD q 0) nx s.2).2.length<=1000000:=by
    rw[hal2.out]at pM;simp at pM;simp only[List.getD];omega
   obtain⟨a1,YY⟩:∃a1,ptrTo aj (l.getD q 0)=.pointer (some ⟨a1,0,none⟩):=⟨_,rfl⟩;rw[YY]at hkc Da;clear nL qf YY hd1 YM hS pM;generalize l.getD q 0=kq at *;go_wp2_with fail
   refine(Da.out _ _ NF nx Mp.out NG.out Zg hgl2).mono ?_;rintro e w2 ⟨rfl,b2,Ya,m2⟩;have Jw:Hid (Below base w w2):=Mp.out.trans b2;have GJ:Hid (MC _ _ _ _ _ _ _ _):=m2;clear b2 m2 hkc c3' NG Mp Da;go_wp2_with fail
   refine(yj GJ.out hgl2 _ _).mono ?_;rintro e w3 ⟨rfl,b3,nv3,m3⟩;have b3H:Hid (Below base w w3):=Jw.out.trans b3;have m3H:Hid (MC _ _ _ _ _ _ _ _):=m3;clear b3 m3 Jw GJ;go_wp2
   refine⟨⟨q+1,nv3,by go_num,by omega,by rw[cy.out,hal2.out],by rw[cy.out,hal2.out];exact m3H.out,b3H.out⟩,?_⟩;simp only[intOf];omega
  ·obtain rfl:l.length=q:=by omega
   rw[List.take_length]at NG;clear qf;go_wp2
   go_ret;exact⟨rfl,Mp.out,_,NG.out⟩
theorem Jx(hw:mT ps)(h5:gQ ps)(hF:∀i,F i->i<base){j k0:Nat}{p:PN}(hp:ps[j]?=some p)(hk:p.kind=6)(iT:p.kids=[k0])(hg:dq ps k0)(l0:0<=p.least)(l9:p.least<=9)(m0:-1<=p.most)(m9:p.most<=9)(ih:qv ps aj F base mb oc st k0):qv ps aj F base mb oc st j:=by
 intro f hf w N nv nx hM hP hn hb;obtain⟨f,rfl⟩:∃f',f=f'+1:=⟨f-1,by omega⟩;have CG:k0<f:=by have:=hw j p hp k0 (by rw[iT];exact List.mem_cons_self ..);omega
 rw[fj hp,if_neg (by omega),if_neg (by omega),if_pos hk,iT,List.headD_cons]at hb ⊢;have hc:Hid (Calls _ _ _ w _):=Ml hw h5 hp iT hg l0 l9 m0 m9 hF ih CG hM hP hn hb;obtain⟨ka,c,qw⟩:=hP.pfc hF hM.up hp;obtain⟨a,ha⟩:∃a,a=aj.getD j 0:=⟨_,rfl⟩;have Mn:ptrTo aj j=.pointer (some ⟨a,0,none⟩):=by rw[ha];rfl
 rw[<-ha]at qw;have c0:=qw.c0;have W0:a<w.heap.size:=Nat.lt_of_lt_of_le qw.la qw.lw;rw[Mn]at hc ⊢;rw[hk]at c0;clear qw Mn ha hP hM hb ih hg hw h5;go_enter Tryz.func110,Tryz.ntmps110
 go_wp2_with fail
 refine hc.out.mono ?_;rintro e w2 ⟨rfl,b2,m2⟩;have GJ:Hid (_/\_):=⟨b2,m2⟩;clear b2 m2;go_wp2
 go_ret;exact⟨rfl,GJ.out.1,GJ.out.2⟩
theorem Qx(hw:mT ps)(h5:gQ ps)(hF:∀i,F i->i<base){k:Nat}(h:dq ps k):qv ps aj F base mb oc st k:=by
 induction h with
 | leaf h1 h2=>exact Mq hF h1 h2
 | many h1 h2 h3 ih=>
   rcases h2 with h2|h2
   ·exact Qu hw h5 hF h1 h2 h3 ih
   ·exact Qw hw h5 hF h1 h2 h3 ih
 | times h1 h2 h3 h4 h6 h7 h8 h9 ih=>exact Jx hw h5 hF h1 h2 h3 h4 h6 h7 h8 h9 ih
end
def uM(ps:List PN)(k:Nat):jO:=aT ps (k+1) k 0 [{kind:=8}]
structure Xc (w w':World)(e:Ending)(oc:Qr)(aj:List Nat)(s:jO):Prop where
 below:Below w.heap.size w w'
 ex:∃mb nv,e=.returned (.pointer (some ⟨mb,0,none⟩))/\MC w' w.heap.size mb oc (s.1:Int) aj s.2 nv
theorem MC.start{w:World}{base mb:Nat}{oc:Qr}{st:Int}{aj:List Nat}{N:List DN}{nv:Value}(h:MC w base mb oc st aj N nv)(v:Int):
 w.frozen? ⟨mb,6,none⟩=false/\w.cell? ⟨mb,6,none⟩=some (.int .i64 st)/\mb<w.heap.size/\MC (w.setCell ⟨mb,6,none⟩ (.int .i64 v)) base mb oc v aj N nv/\Below base w (w.setCell ⟨mb,6,none⟩ (.int .i64 v)):=
 ⟨h.aD.frozen 6,h.aD.cell 6,h.aD.lt,⟨h.aD.set 6 _,h.low,ownsRow_setCell_other h.row (fun hc=>absurd (lk h.row h.aD hc) (by decide)) _⟩,(Below.refl _ _).setCell h.low _⟩
theorem UX{ps:List PN}{aj:List Nat}{F:Nat->Prop}(hw:mT ps)(h5:gQ ps){k:Nat}(hg:dq ps k)(oc:Qr){w:World}(hP:AZ w ps aj F)(hb:(uM ps k).2.length<=1000000):
 Calls Tryz.prog 62 #[.agg #[.bool oc.inv,.bool oc.fold,.bool oc.whole,.bool oc.num,.int .i64 oc.mx],ptrTo aj k] w fun e w'=>Xc w w' e oc aj (uM ps k):=by
 have Vt:MC ((w.alloc (.cells #[.bool oc.inv,.bool oc.fold,.bool oc.whole,.bool oc.num,.int .i64 oc.mx] 23)).alloc (.cells #[.bool oc.inv,.bool oc.fold,.bool oc.whole,.bool oc.num,.int .i64 oc.mx,.slice none 0 0,.int .i64 0] 127)) w.heap.size (w.heap.size+1) oc 0 aj [] (.slice none 0 0):=
  ⟨ah.oy w _ _ _,by omega,World.ownsRow_nil _ _ _ 4⟩
 have sJ:Below w.heap.size w ((w.alloc (.cells #[.bool oc.inv,.bool oc.fold,.bool oc.whole,.bool oc.num,.int .i64 oc.mx] 23)).alloc (.cells #[.bool oc.inv,.bool oc.fold,.bool oc.whole,.bool oc.num,.int .i64 oc.mx,.slice none 0 0,.int .i64 0] 127)):=((Below.refl _ _).alloc (Nat.le_refl _) _).alloc (by simp) _;have HA:=yi Vt (by simp) { kind:=8};have J':Cq aj { kind:=8}=.pointer none:=if_neg (by show ¬(8:Int)<=3;decide);rw[J']at HA;have hndH:Hid (Calls Tryz.prog 109 #[.pointer (some ⟨w.heap.size+1,0,none⟩),.agg #[.int .i64 8,.pointer none,.int .i64 0,.int .i64 0]] _ _):=HA;have Pl:Hid (Below _ _ _):=sJ;have Eh:Hid (∀w' nv,MC w' w.heap.size (w.heap.size+1) oc 0 aj [{kind:=8}] nv->Below w.heap.size w w'->Calls Tryz.prog 110 #[.pointer (some ⟨w.heap.size+1,0,none⟩),ptrTo aj k,.int .i64 0] w' fun e qS=>Js w' qS e w.heap.size (w.heap.size+1) oc 0 aj (uM ps k)):=fun w' nv m b=>
  Qx hw h5 (fun i hi=>hP.Ac i hi) hg (k+1) (Nat.lt_succ_self _) w' _ nv 0 m (hP.below (fun i hi=>hP.Ac i hi) b) (by simp) hb
 obtain⟨a0,UT⟩:∃a0,ptrTo aj k=.pointer (some ⟨a0,0,none⟩):=⟨_,rfl⟩;rw[UT]at Eh ⊢;generalize uM ps k=s at *;clear Vt sJ HA J' hP hb UT hw h5 hg;obtain⟨oi,of,ow,on,om⟩:=oc;simp only[]at hndH Pl ⊢;go_enter Tryz.func62,Tryz.ntmps62
 go_wp2_with fail
 refine hndH.out.mono ?_;rintro e w2 ⟨rfl,b2,Ya,m2⟩;have Jw:Hid (Below w.heap.size w w2):=Pl.out.trans b2;have GJ:Hid (MC _ _ _ _ _ _ _ _):=m2;clear b2 m2 hndH Pl;go_wp2_with fail
 refine(Eh.out _ Ya GJ.out Jw.out).mono ?_;rintro e w3 ⟨rfl,b3,nv3,m3⟩;obtain⟨p1,p2,p3,p4,p5⟩:=m3.start (s.1:Int);have p4H:Hid (MC _ _ _ _ _ _ _ _):=p4;have p5H:Hid (Below w.heap.size w _):=(Jw.out.trans b3).trans p5;clear b3 m3 p4 p5 GJ Jw Eh;go_wp2
 go_ret;exact⟨p5H.out,_,_,rfl,p4H.out⟩
theorem Qy{l:List Nat}(h:∀c,c∈l->c<256):aU (dH l)=l:=by
 unfold aU dH;simp only[List.map_map];conv=>rhs;rw[<-List.map_id l]
 refine List.map_congr_left fun c hc=>?_;have:=h c hc;simp only[Function.comp,id];rw[Nat.toUInt8_eq,UInt8.toNat_ofNat',show c % 2 ^ 8=c by omega]
def dOf(q:Nat×RP)(fold whole inv:Bool):fo:={nodes:=(uM q.2.2 q.1).2,start:=(uM q.2.2 q.1).1,ps:=q.2.2,fold:=fold,whole:=whole,inv:=inv}
theorem UY{q:Nat×RP}(hw:mT q.2.2)(h5:gQ q.2.2)(hg:dq q.2.2 q.1)(fold whole inv:Bool):gX (dOf q fold whole inv) (fun fold t=>j6 q.2.2 fold t q.1):=by
 have h:=vV hw h5 hg (q.1+1) (Nat.lt_succ_self _) (nx:=0) (N:=[{kind:=8}]) (by simp);obtain⟨⟨ext,he⟩,hf⟩:=h;refine⟨?_,hf⟩;refine⟨{kind:=8},?_,rfl⟩;show(uM q.2.2 q.1).2[0]?=_;unfold uM;rw[he];rfl
theorem Xd{p:ByteArray}{r:Nat×PS}(h:iy p r){q:Nat×RP}(hq:db p 0 [] CJ q)(hw:mT q.2.2)(h5:gQ q.2.2)(hg:dq q.2.2 q.1)(fold whole inv:Bool):Jc (dOf q fold whole inv) (qQ (lK r fold whole) inv):=by
 intro l hl y hy;obtain⟨t,ht⟩:∃t:ByteArray,aU t=l:=⟨_,Qy hl⟩;subst ht;rw[S5 (UY hw h5 hg fold whole inv)]at hy;rw[W9 h fold whole inv t];have hs:Xu whole t.size (j6 q.2.2 fold t q.1) y:=by
  refine⟨fun GD=>?_,fun GD=>?_⟩
  ·rw[hy,if_pos (show(dOf q fold whole inv).whole=true from GD)];rfl
  ·rw[hy,if_neg (show ¬(dOf q fold whole inv).whole=true by show ¬whole=true;rw[GD];decide)];rfl
 rw[Sk h hq hs];rfl
end Go.Proofs.YtgifhgnccmnbiabGreatDoor
namespace Go.Proofs.YtgifhgnccmnbiabGreatDoor
theorem gQ.push{ps:List PN}(h:gQ ps){p:PN}(hp:p.kind=5->p.kids≠[]):gQ (ps++[p]):=by
 intro j x hx hk;by_cases hj:j<ps.length
 ·rw[List.getElem?_append_left hj]at hx;exact h j x hx hk
 ·rw[List.getElem?_append_right (by omega)]at hx;have h0:j-ps.length=0:=by
   have:=(List.getElem?_eq_some_iff.1 hx).1;simp at this;omega
  rw[h0]at hx;simp at hx;subst hx;exact hp hk
theorem Jy{t:ByteArray}{c:Int}{st:RP}(h:gQ st.2):gQ (bY t c st).2.2:=by
 unfold bY;repeat' split
 all_goals
  refine gQ.push h (fun hc=>?_);first
  | exact absurd (show(1:Int)=5 from hc) (by decide)
  | exact absurd (show(2:Int)=5 from hc) (by decide)
  | exact absurd (show(3:Int)=5 from hc) (by decide)
theorem Jz(t:ByteArray):∀(f tag:Nat) (cur:List Nat) (st:RP),gQ st.2->gQ (ot t f tag cur st).2.2
 | 0,_,_,_,h=>h
 | f+1,tag,cur,st,h=>by
   have ih:=fun tag cur st h=>Jz t f tag cur st h;rw[ot];split
   ·simp only[];split
    ·exact gQ.push (ih _ _ _ h) (fun _=>by simp)
    ·exact ih _ _ _ (ih _ _ _ h)
   ·split
    ·split
     ·exact ih _ _ _ (ih _ _ _ h)
     ·exact gQ.push h (fun hc=>absurd hc (by show ¬((4:Int)=5);decide))
    ·split
     ·exact ih _ _ _ (ih _ _ _ h)
     ·split
      ·split
       ·exact ih 0 [] _ h
       ·exact Jy h
      ·split
       ·exact h
       ·exact ih _ _ _ (gQ.push h (fun hc=>absurd hc (by show ¬((6:Int)=5);decide)))
theorem db.JA{t:ByteArray}{q:Nat×RP}(h:db t 0 [] CJ q):gQ q.2.2:=by
 obtain⟨f0,hf⟩:=h;rw[<-hf f0 (Nat.le_refl _)];exact Jz t f0 0 [] CJ (fun j p hp=>by simp[CJ]at hp)
end Go.Proofs.YtgifhgnccmnbiabGreatDoor
namespace Go.Proofs.YtgifhgnccmnbiabGreatDoor
open Go.RowKit Go.IntWalk
theorem Cr{w:World}{base e z n:Nat}{v:Value}{xs:List Value}(h:w.ownsRow base e z v n xs):w.ownsRow 0 e z v n xs:=by
 refine⟨h.1,?_⟩;rcases h.2 with h1|⟨g,cap,cur,h1,h2,r⟩
 ·exact Or.inl h1
 ·exact Or.inr ⟨g,cap,cur,h1,Nat.zero_le _,r⟩
theorem Ez{w w':World}{base e z n:Nat}{v:Value}{xs:List Value}(h:w.ownsRow base e z v n xs)(b:Below w.heap.size w w'):w'.ownsRow base e z v n xs:=by
 refine⟨h.1,?_⟩;rcases h.2 with h1|⟨g,cap,cur,h1,h2,h3,r⟩
 ·exact Or.inl h1
 ·exact Or.inr ⟨g,cap,cur,h1,h2,(b.block g (Array.getElem?_eq_some_iff.1 h3).1).trans h3,r⟩
theorem uX.under{w w':World}{b m:Nat}{kv nv rv tv pv:Value}{rl top:List Nat}{U:Nat->Nat->Value}(h:uX w b kv nv rv tv pv rl top m U)(k:Below w.heap.size w w'):uX w' b kv nv rv tv pv rl top m U:=
 ⟨(k.block _ h.aD.lt).trans h.aD,Ez h.rules k,Ez h.top k,fun hm=>by
  obtain⟨gp,cap,cur,h1,h2,h3⟩:=h.XW hm;exact⟨gp,cap,cur,h1,(k.block _ h2.lt).trans h2,h3⟩⟩
def uNew(T:List (List Nat))(i j:Nat):Value:=XV (aq (T.getD i [])) (none,0,0) (none,0,0) 0 j
theorem Gj(w:World)(D:fo)(sel:List Nat->Bool)(T:List (List Nat)):dJ w D sel T (uNew T) 0:=fun i hi=>⟨_,_,0,fun j hj=>rfl,fun h=>absurd h (Nat.not_lt_zero _)⟩
theorem UZ(p:PI){j:Nat}(hj:j<6):p.cells[j]?=some (XV p (none,0,0) (none,0,0) 0 j):=by
 match j,hj with
 | 0,_=>rfl
 | 1,_=>rfl
 | 2,_=>rfl
 | 3,_=>rfl
 | 4,_=>rfl
 | 5,_=>rfl
theorem GM.gln{w:World}{b B C n:Nat}{kind:Int}{rl top:List Nat}{ps:List PI}{rv tv pv:Value}{T:List (List Nat)}(h:GM w b B C kind n rl top ps rv tv pv)(hp:ps=T.map aq):
 uX w b (.int .i64 kind) (.int .i64 (n:Int)) rv tv pv rl top T.length (uNew T)/\∀gp m c,pv=.slice (some ⟨gp,0,none⟩) m c->B<=gp:=by
 have hl:ps.length=T.length:=by rw[hp,List.length_map]
 refine⟨⟨h.aD,Cr h.rules,Cr h.top,fun hm=>?_⟩,fun gp m c he=>(h.pieces.lt gp (by rw[he];rfl)).1⟩;rcases h.pieces.2 with⟨_,h0⟩|⟨g,cap,cur,h1,h2,h3,h4,h5,h6,h7⟩
 ·omega
 ·refine⟨g,cap,cur,by rw[h1,hl],h3,fun i hi j hj=>?_⟩;have hx:ps[i]?=some (aq (T.getD i [])):=by
   rw[hp,List.getElem?_map,List.getD_eq_getElem?_getD,List.getElem?_eq_getElem hi];rfl
  have:=sb ps i j _ hx hj;rw[<-h7,List.getElem?_take_of_lt (by rw[hl];omega),Array.getElem?_toList]at this;exact this.trans (UZ _ hj)
theorem NJ{p:ByteArray}{r:Nat×PS}(hr:iy p r){q:Nat×RP}(hq:db p 0 [] CJ q)(w:World):
 Calls Tryz.prog 60 #[.string p] w fun e w'=>Below w.heap.size w w'/\∃aj F,AZ w' q.2.2 aj F/\e=.returned (.tuple #[ptrTo aj q.1,.int .i64 (Xn q),.int .i64 0]):=by
 refine(Dp p w hr.small).mono ?_;rintro e w1 ⟨b1,q',sP,lF,HC⟩;obtain rfl:=hq.one sP;obtain⟨s1,s2,_,_⟩:=nc hr.small hr.ev hq;have CK:¬vn p q:=fun hc=>hr.ej (s1.2 hc);have dd:=hr.size;have h2:=s2 CK;rcases HC with⟨hb,_⟩|⟨_,hz,_⟩|⟨_,hz,aj,F,b,HE,hn,rfl⟩
 ·exact absurd hb CK
 ·exfalso;unfold fA at h2;rw[if_pos (by omega)]at h2;omega
 ·exact⟨b1,aj,F,hn.pms,rfl⟩
theorem gD.bytes{rl:List Nat}{ps:List PI}{T:List (List Nat)}(h:gD rl ps T):∀i,i<T.length->∀c,c∈T.getD i []->c<256:=by
 intro i;induction i using Nat.strongRecOn with
 | ind i ih=>
   intro hi c hc;obtain⟨h1,h2,h3⟩:=h.uy i hi;have key:∀s,s<256+i->c∈af T s->c<256:=fun s hs hm=>by
    unfold af at hm;split at hm
    ·rename_i hl
     obtain rfl:=List.mem_singleton.1 hm;exact hl
    ·exact ih (s-256) (by omega) (by omega) c hm
   rw[h3]at hc;rcases List.mem_append.1 hc with h4|h4
   ·exact key _ h1 h4
   ·exact key _ h2 h4
theorem MC.dm{w:World}{base mb:Nat}{inv fold whole num:Bool}{mx:Int}{q:Nat×RP}{aj:List Nat}{F:Nat->Prop}{nv:Value}{oc:Qr}(h:MC w base mb oc (((uM q.2.2 q.1).1:Nat):Int) aj (uM q.2.2 q.1).2 nv)(h1:oc.inv=inv)(h2:oc.fold=fold)(h3:oc.whole=whole)(h4:oc.num=num)(h5:oc.mx=mx)(zu:0<(uM q.2.2 q.1).2.length)(hP:AZ w q.2.2 aj F):
 ∃gn cap,gC w mb (dOf q fold whole inv) aj F num mx gn cap:=by
 obtain⟨gn,cap,rfl⟩:=aO h.row zu;subst h1 h2 h3 h4 h5;exact⟨gn,cap,h.aD,Cr h.row,hP⟩
theorem U0{p f:ByteArray}{r:Nat×PS}(hr:iy p r){q:Nat×RP}(hq:db p 0 [] CJ q)(hg:dq q.2.2 q.1)(U1:(uM q.2.2 q.1).2.length<=10000){inv fold whole num:Bool}{mx:Int}(tV:0<=mx)(hf:f.size<=maxLen){X:List Nat}
 (Yn:∀w' qS e,jF f w' qS e->∃b B C kind n rl top ps rv tv pv T,Nr qS b B C kind n rl top ps rv tv pv T X/\e=.returned (.tuple #[.pointer (some ⟨b,0,none⟩),.int .i64 0])) (w:World):
 Calls Tryz.prog 32 #[.agg #[.bool inv,.bool fold,.bool whole,.bool num,.int .i64 mx],.string p,.string f] w fun e w'=>Uu w w' e (dOf q fold whole inv) (qQ (lK r fold whole) inv) num mx X:=by
 have qC:Hid (∀w',Calls _ _ _ w' _):=fun w'=>NJ hr hq w';have U2:Hid (∀w',Calls _ _ _ w' _):=fun w'=>BV f hf w';have U3:Hid (∀w' qS e,_):=Yn;have hO:Hid (ah (w.alloc (.cells #[.bool inv,.bool fold,.bool whole,.bool num,.int .i64 mx] 23)) w.heap.size #[.bool inv,.bool fold,.bool whole,.bool num,.int .i64 mx] 23):=ah.new w _ _;have sJ:Hid (Below w.heap.size w (w.alloc (.cells #[.bool inv,.bool fold,.bool whole,.bool num,.int .i64 mx] 23))):=(Below.refl _ w).alloc (Nat.le_refl _) _;clear Yn;go_enter Tryz.func32,Tryz.ntmps32
 go_wp2_with fail
 refine(qC.out _).mono ?_;rintro e w1 ⟨b1,aj,F,hP,rfl⟩;have hO1:Hid (ah w1 w.heap.size #[.bool inv,.bool fold,.bool whole,.bool num,.int .i64 mx] 23):=(b1.block _ hO.out.lt).trans hO.out;have lR:Hid (Below w.heap.size w w1):=sJ.out.trans (b1.mono (by simp));have QQ:Hid (AZ w1 q.2.2 aj F):=hP;obtain⟨x,hx⟩:∃x,ptrTo aj q.1=.pointer (some ⟨x,0,none⟩):=⟨_,rfl⟩;rw[hx];have hxH:Hid (_=_):=hx;clear b1 hP hO sJ qC hx;generalize Xn q=zz;go_wp2_with fail
 refine(U2.out _).mono ?_;rintro e w2 kj;have k2:Hid (Kept [] w1 w2):=kj.kept;obtain⟨b,B,C,kind,n,rl,top,ps,rv,tv,pv,T,hRO,rfl⟩:=U3.out _ _ _ kj;have nd:Hid (w1.heap.size<=b):=kj.low b rfl;have tK:Hid (Nr w2 b B C kind n rl top ps rv tv pv T X):=hRO;have Nv:Hid (ah w2 w.heap.size #[.bool inv,.bool fold,.bool whole,.bool num,.int .i64 mx] 23):=hO1.out.kept k2.out (by simp);have Dy:Hid (AZ w2 q.2.2 aj F):=QQ.out.kept k2.out;have o0:w2.cell? ⟨w.heap.size,0,none⟩=some (.bool inv):=Nv.out.cell 0;have o1:w2.cell? ⟨w.heap.size,1,none⟩=some (.bool fold):=Nv.out.cell 1;have o2:w2.cell? ⟨w.heap.size,2,none⟩=some (.bool whole):=Nv.out.cell 2;have o3:w2.cell? ⟨w.heap.size,3,none⟩=some (.bool num):=Nv.out.cell 3;have o4:w2.cell? ⟨w.heap.size,4,none⟩=some (.int .i64 mx):=Nv.out.cell 4;have ol:=Nv.out.lt;have lE:Hid (Below w.heap.size w w2):=lR.out.trans (k2.out.below lR.out.size (by simp));have Wt:Hid (Calls _ _ _ w2 _):=UX Dy.out.wf hq.JA hg ⟨inv,fold,whole,num,mx⟩ Dy.out (by omega);rw[hxH.out]at Wt;clear U2 U3 kj hRO QQ hO1;go_wp2_with fail
 refine Wt.out.mono ?_;rintro e w3 ⟨b3,mb,nv,rfl,hMC⟩;have hma:=UY Dy.out.wf hq.JA hg fold whole inv;have zu:0<(uM q.2.2 q.1).2.length:=by
  obtain⟨x0,OR,_⟩:=hma.done;exact(List.getElem?_eq_some_iff.1 OR).1 |> fun h=>Nat.lt_of_le_of_lt (Nat.zero_le _) h
 have hP3:AZ w3 q.2.2 aj F:=Dy.out.below Dy.out.Ac b3;obtain⟨gn,cap,hD⟩:=hMC.dm (inv:=inv) (fold:=fold) (whole:=whole) (num:=num) (mx:=mx) rfl rfl rfl rfl rfl zu hP3;obtain⟨hGL,hBg⟩:=tK.out.gm.gln tK.out.sound.ps;have sl:=Xd hr hq Dy.out.wf hq.JA hg fold whole inv;have Gq:∃a c,pv=.slice a T.length c:=by
  obtain⟨a,c,h⟩:=qm tK.out.gm.pieces;exact⟨a,c,by rw[h,tK.out.sound.ps,List.length_map]⟩
 have hle:Hid (Calls _ _ _ w3 _):=L9 (base:=w1.heap.size) (hGL.under b3) (Gj w3 (dOf q fold whole inv) (qQ (lK r fold whole) inv) T) tK.out.sound tK.out.ZS hD hma (by exact U1) sl tK.out.sound.bytes Gq (fun gp n c h=>by have h1:=hBg gp n c h;have h2:=tK.out.gm.lt;have h3:=nd.out;omega) (by have h1:=k2.out.size;have h2:=b3.size;omega);have hDH:Hid (gC _ _ _ _ _ _ _ _ _):=hD;have hmaH:Hid (gX _ _):=hma;have Et:Hid (Jc _ _):=sl;have JJ:Hid (Below w.heap.size w w3):=lE.out.trans (b3.mono lE.out.size);clear hMC Wt b3 hD hma sl hGL hBg Gq hP3 Dy Nv o0 o1 o2 o3 o4 ol;go_wp2_with fail
 refine hle.out.mono ?_;rintro e w4 ⟨rfl,U',hG4,Vg,V2,bel4⟩;have hG4H:Hid (uX _ _ _ _ _ _ _ _ _ _ _):=hG4;have hL4H:Hid (dJ _ _ _ _ _ _):=Vg;have hD4:Hid (gC w4 _ _ _ _ _ _ _ _):=hDH.out.bV V2;have uS:Hid (Below w.heap.size w w4):=JJ.out.trans (bel4.mono lR.out.size);have IQ:Hid (Calls _ _ _ w4 _):=uI hD4.out (by exact U1);clear hG4 Vg V2 bel4 hle hDH;go_wp2_with fail
 refine IQ.out.mono ?_;rintro e w5 ⟨⟨g5,rfl,_,eY⟩,k5⟩;unfold di;have hb5H:Hid (ah _ _ _ _):=eY;have LP:Hid (Kept [] w4 w5):=k5;clear eY k5 IQ;go_wp2
 go_ret2;have kz:∀o,Kept [] w4 (w5.alloc o):=fun o=>LP.out.alloc o;refine⟨⟨w5.heap.size,b,mb,gn,cap,_,_,rv,tv,pv,rl,top,U',T,aj,F,_,rfl,⟨hG4H.out.kept (kz _),hL4H.out.kept (kz _),tK.out.ZS,hD4.out.kept (kz _),hmaH.out,by exact U1,Et.out,tK.out.syms,tK.out.text,tK.out.Jh,tK.out.TZ,tK.out.byte,⟨tK.out.sound.len,rfl,tK.out.sound.uy⟩⟩,⟨g5,_,ah.new w5 _ _,hb5H.out.alloc _,Cg (by omega)⟩,?_⟩,?_⟩
 ·have h1:=uS.out.size;have h2:=LP.out.size;omega
 ·exact uS.out.trans ((kz _).below uS.out.size (by simp))
theorem U4{p:ByteArray}{x:Int}(h:zv p x)(hp:p.size<=maxLen)(w:World):
 Calls Tryz.prog 60 #[.string p] w fun e w'=>Below w.heap.size w w'/\e=.returned (.tuple #[.pointer none,.int .i64 0,.int .i64 x]):=by
 rcases h with⟨h1,rfl⟩|⟨h1,r,sP,h2⟩
 ·refine(Kc p w h1 hp).mono ?_;rintro e w1 ⟨rfl,rfl⟩;exact⟨Below.refl _ _,rfl⟩
 ·refine(Dp p w h1).mono ?_;rintro e w1 ⟨b1,q,hq,lF,HC⟩;obtain⟨s1,s2,_,_⟩:=nc h1 sP hq;rcases HC with⟨hb,rfl⟩|⟨hb,hz,rfl⟩|⟨hb,hz,aj,F,b,HE,hn,rfl⟩
  ·rcases h2 with⟨g1,rfl⟩|⟨g1,g2,rfl⟩
   ·exact⟨b1,rfl⟩
   ·exact absurd (s1.2 hb) g1
  ·rcases h2 with⟨g1,rfl⟩|⟨g1,g2,rfl⟩
   ·exact absurd (s1.1 g1) hb
   ·exact⟨b1,rfl⟩
  ·rcases h2 with⟨g1,rfl⟩|⟨g1,g2,rfl⟩
   ·exact absurd (s1.1 g1) hb
   ·exfalso;have h3:=s2 hb;unfold fA at h3;split at h3 <;> omega
theorem Qz{p f:ByteArray}{x:Int}{inv fold whole num:Bool}{mx:Int}(h:ye mx p x)(hp:p.size<=maxLen)(w:World):
 Calls Tryz.prog 32 #[.agg #[.bool inv,.bool fold,.bool whole,.bool num,.int .i64 mx],.string p,.string f] w fun e w'=>e=.returned (.tuple #[.pointer none,.int .i64 x])/\Below w.heap.size w w':=by
 have sJ:Hid (Below w.heap.size w (w.alloc (.cells #[.bool inv,.bool fold,.bool whole,.bool num,.int .i64 mx] 23))):=(Below.refl _ w).alloc (Nat.le_refl _) _;rcases h with⟨hm,rfl⟩|⟨hm,hx⟩
 ·go_enter Tryz.func32,Tryz.ntmps32
  go_wp2
  go_ret2;exact⟨rfl,sJ.out⟩
 ·have qC:Hid (∀w',Calls _ _ _ w' _):=fun w'=>U4 hx hp w';have cne:(x != 0)=true:=by rcases hx.ne with rfl|rfl <;> rfl
  clear hx;go_enter Tryz.func32,Tryz.ntmps32
  go_wp2_with fail
  refine(qC.out _).mono ?_;rintro e w1 ⟨b1,rfl⟩;have lR:Hid (Below w.heap.size w w1):=sJ.out.trans (b1.mono (by simp));clear b1 sJ qC;go_wp2
  go_ret2;exact⟨rfl,lR.out⟩
theorem Mr{p f:ByteArray}{r:Nat×PS}(hr:iy p r){q:Nat×RP}(hq:db p 0 [] CJ q){inv fold whole num:Bool}{mx:Int}(tV:0<=mx)(hf:f.size<=maxLen){c:Int}(hc:c≠0)
 (Yn:∀w' qS e,jF f w' qS e->e=.returned (.tuple #[.pointer none,.int .i64 c])) (w:World):
 Calls Tryz.prog 32 #[.agg #[.bool inv,.bool fold,.bool whole,.bool num,.int .i64 mx],.string p,.string f] w fun e w'=>e=.returned (.tuple #[.pointer none,.int .i64 c])/\Below w.heap.size w w':=by
 have qC:Hid (∀w',Calls _ _ _ w' _):=fun w'=>NJ hr hq w';have U2:Hid (∀w',Calls _ _ _ w' _):=fun w'=>BV f hf w';have U3:Hid (∀w' qS e,_):=Yn;have sJ:Hid (Below w.heap.size w (w.alloc (.cells #[.bool inv,.bool fold,.bool whole,.bool num,.int .i64 mx] 23))):=(Below.refl _ w).alloc (Nat.le_refl _) _;have cne:(c != 0)=true:=by simp[hc]
 clear Yn hc;go_enter Tryz.func32,Tryz.ntmps32
 go_wp2_with fail
 refine(qC.out _).mono ?_;rintro e w1 ⟨b1,aj,F,hP,rfl⟩;have lR:Hid (Below w.heap.size w w1):=sJ.out.trans (b1.mono (by simp));obtain⟨x,hx⟩:∃x,ptrTo aj q.1=.pointer (some ⟨x,0,none⟩):=⟨_,rfl⟩;rw[hx];clear b1 hP sJ qC hx;generalize Xn q=zz;go_wp2_with fail
 refine(U2.out _).mono ?_;rintro e w2 kj;have k2:Hid (Kept [] w1 w2):=kj.kept;obtain rfl:=U3.out _ _ _ kj;have lE:Hid (Below w.heap.size w w2):=lR.out.trans (k2.out.below lR.out.size (by simp));clear kj U3 U2 k2;go_wp2
 go_ret2;exact⟨rfl,lE.out⟩
def pP(f:ByteArray)(c:Int):Prop:=((∀t,¬cA f t)/\c=4)\/(∃t,cA f t/\1099511627776<t.whole.len/\c=5)
def sx(f:ByteArray)(X:List Nat):Prop:=∃t T,cA f t/\Sound t.rules T/\(∀s,s∈t.start->s<256+t.rules.length)/\t.whole=ik (t.start.flatMap (af T))/\t.start.flatMap (af T)=X/\t.whole.len<=1099511627776
structure OpX (f:ByteArray)(w':World)(e:Ending)(X:List Nat):Prop where
 file:sx f X
 ex:∃b B C kind n rl top ps rv tv pv T,Nr w' b B C kind n rl top ps rv tv pv T X/\e=.returned (.tuple #[.pointer (some ⟨b,0,none⟩),.int .i64 0])
theorem jF.both{f:ByteArray}{w w':World}{e:Ending}(h:jF f w w' e):
 (∃c:Int,c≠0/\pP f c/\e=.returned (.tuple #[.pointer none,.int .i64 c]))\/∃X,OpX f w' e X:=by
 rcases h.out with⟨n,r,b,B,C,tv,hz,hG,he⟩|⟨kJ,hg,he⟩|⟨kJ,hg,hb,he⟩|⟨kJ,hg,hb,b,B,C,rv,tv,pv,hG,he⟩
 ·have hfl:=Em (aU r.out) (tj r.out);obtain⟨hf,hk,CB,hw⟩:=hz.file';obtain⟨T,hT⟩:=xW n r hz.it hz.on;have dd:=hz.size;have hlen:(l7 (z0 f) n).2.whole.len<=1099511627776:=by
   rw[hw,gR,iR,jx (by omega)];omega
  refine Or.inr ⟨aU r.out,⟨_,T,hf,hT.sound,fun s hs=>by rw[hT.sound.len];exact hT.start s hs,by rw[hT.whole,hT.out],hT.out.symm,hlen⟩,b,B,C,90,n,[],_,[],_,_,_,[],⟨hG,gD.nil,by simp,by rw[iR];omega,fun s hs=>by have:=tj _ s hs;simp;omega,hfl.symm,by rw[iR];omega,tj r.out⟩,he⟩
 ·refine Or.inl ⟨4,by omega,Or.inl ⟨fun t ht=>?_,rfl⟩,he⟩;cases ht with
  | rules a b c d=>exact hg (Tp c b d)
  | yV a b c d x y=>exact kJ.none b c d x y
 ·have hf:cA f (M1 f):=cA.rules (by have:=hg.SK;omega) hg.most hg.sg hg.ok;obtain⟨t0,q1,q2⟩:=hg.whole;exact Or.inl ⟨5,by omega,Or.inr ⟨_,hf,by rw[q1,IJ,<-q2];exact hb,rfl⟩,he⟩
 ·have hf:cA f (M1 f):=cA.rules (by have:=hg.SK;omega) hg.most hg.sg hg.ok;obtain⟨e1,e2,e3,e4,e5⟩:=hg.read;have hR:(M1 f).rules=Vu f (bt f 2):=by show(Cz f).1=_;rw[e2]
  have GG:(M1 f).start=jE f (gN f):=e5;have hW:(M1 f).whole=ik ((jE f (gN f)).flatMap (af (uW f (bt f 2)))):=by
   show rZ (Cz f).1 (CY f).1=_;rw[e2,e5];exact wL (hg.sound _ (Nat.le_refl _)) _ (fun s hs=>by rw[jG];exact hg.top _ (Nat.le_refl _) s hs) []
  have hl:(M1 f).whole.len<=1099511627776:=by rw[hW,IJ,<-Nq hg];exact hb
  have hFX:sx f ((jE f (gN f)).flatMap (af (uW f (bt f 2)))):=⟨_,uW f (bt f 2),hf,by rw[hR];exact hg.sound _ (Nat.le_refl _),by rw[hR,GG,qs];exact fun s hs=>hg.top _ (Nat.le_refl _) s hs,by rw[GG];exact hW,by rw[GG],hl⟩;have OS:(aq ((jE f (gN f)).flatMap (af (uW f (bt f 2))))).aV<=1099511627776:=by rw[<-Nq hg];exact hb
  have hs:∀s,s∈jE f (gN f)->s<256+(uW f (bt f 2)).length:=fun s hs=>by rw[jG];exact hg.top _ (Nat.le_refl _) s hs
  have hRS:=hg.TY _ (Nat.le_refl _);rw[<-hg.ps _ (Nat.le_refl _)]at hRS;have hx:((jE f (gN f)).flatMap (af (uW f (bt f 2)))).length<=1099511627776:=by
   have:=ux (n:=((jE f (gN f)).flatMap (af (uW f (bt f 2)))).length) OS;have h2:fT ((jE f (gN f)).flatMap (af (uW f (bt f 2)))).length<=1099511627776:=OS;omega
  refine Or.inr ⟨_,hFX,b,B,C,71,gN f,_,_,_,rv,tv,pv,uW f (bt f 2),⟨hG,hRS,by rw[jG];have:=hg.r;omega,by rw[wJ];have:=hg.n;omega,hs,rfl,hx,fun z hz=>?_⟩,he⟩;obtain⟨s,h1,h2⟩:=List.mem_flatMap.1 hz;have hS:=hg.sound _ (Nat.le_refl _);exact hS.byte (s+1) s (by omega) (by rw[qs];exact hg.top _ (Nat.le_refl _) s h1) z h2
theorem sx.one{f:ByteArray}{X Y:List Nat}(h:sx f X)(h':sx f Y):X=Y:=by
 obtain⟨t,T,h1,h2,h3,h4,h5,h6⟩:=h;obtain⟨u,U,g1,g2,g3,g4,g5,g6⟩:=h';have e:=h1.one g1;subst e;rw[<-h5,<-g5,List.flatMap_def,List.flatMap_def];congr 1
 exact List.map_congr_left (fun s hs=>h2.one g2 (s+1) s (Nat.lt_succ_self _) (h3 s hs))
theorem sx.not{f:ByteArray}{X:List Nat}{c:Int}(h:sx f X)(h':pP f c):False:=by
 obtain⟨t,T,h1,h2,h3,h4,h5,h6⟩:=h;rcases h' with⟨g,_⟩|⟨u,g1,g2,_⟩
 ·exact g t h1
 ·have e:=h1.one g1;subst e;omega
theorem pP.one{f:ByteArray}{c d:Int}(h:pP f c)(h':pP f d):c=d:=by
 rcases h with⟨g,rfl⟩|⟨u,g1,g2,rfl⟩ <;> rcases h' with⟨g',rfl⟩|⟨u',YO,g2',rfl⟩
 ·rfl
 ·exact absurd YO (g _)
 ·exact absurd g1 (g' _)
 ·rfl
theorem jF.ej{f:ByteArray}{X:List Nat}(hX:sx f X)(w' qS:World)(e:Ending)(h:jF f w' qS e):∃b B C kind n rl top ps rv tv pv T,Nr qS b B C kind n rl top ps rv tv pv T X/\e=.returned (.tuple #[.pointer (some ⟨b,0,none⟩),.int .i64 0]):=by
 rcases h.both with⟨c,_,hE,_⟩|⟨Y,hY⟩
 ·exact(hX.not hE).elim
 ·rw[hX.one hY.file];exact hY.ex
theorem jF.bad{f:ByteArray}{c:Int}(hE:pP f c)(w' qS:World)(e:Ending)(h:jF f w' qS e):e=.returned (.tuple #[.pointer none,.int .i64 c]):=by
 rcases h.both with⟨d,_,hD,he⟩|⟨Y,hY⟩
 ·rw[hE.one hD];exact he
 ·exact(hY.file.not hE).elim
theorem pP.nz{f:ByteArray}{c:Int}(h:pP f c):c≠0:=by
 rcases h with⟨_,rfl⟩|⟨_,_,_,rfl⟩ <;> decide
theorem pP.read{f:ByteArray}{c:Int}(h:pP f c)(hf:f.size<=maxLen)(w:World):
 Calls Tryz.prog 45 #[.string f] w fun e w'=>e=.returned (.tuple #[.agg az,.int .i64 c])/\Below w.heap.size w w':=by
 rcases h with⟨h,rfl⟩|⟨t,h1,h2,rfl⟩
 ·exact Qi hf h w
 ·exact UD hf h1 h2 w
theorem Ms(f:ByteArray):(∃c,pP f c)\/∃X,sx f X:=by
 by_cases h:∃t,cA f t
 ·obtain⟨t,ht⟩:=h;by_cases hl:t.whole.len<=1099511627776
  ·obtain⟨T,hT⟩:=Jg ht;exact Or.inr ⟨_,t,T,ht,hT.sound,hT.start,hT.whole,rfl,hl⟩
  ·exact Or.inl ⟨5,Or.inr ⟨t,ht,by omega,rfl⟩⟩
 ·exact Or.inl ⟨4,Or.inl ⟨fun t ht=>h ⟨t,ht⟩,rfl⟩⟩
theorem sx.text{f:ByteArray}{X:List Nat}(h:sx f X):(∃kind,zU f kind X)/\X.length<=1099511627776:=by
 obtain⟨t,T,h1,h2,h3,h4,h5,h6⟩:=h;obtain⟨T',hST⟩:=Jg h1;have hS:pJ t T:=⟨h2,h3,h4,hST.WD,hST.WE⟩;refine⟨⟨t.kind,t,T,h1,hS,h5,rfl⟩,?_⟩;rw[<-h5,hS.len h6];exact h6
def NodOk(p:ByteArray):Prop:=∀r,iy p r->∃q,db p 0 [] CJ q/\dq q.2.2 q.1/\(uM q.2.2 q.1).2.length<=10000
end Go.Proofs.YtgifhgnccmnbiabGreatDoor
namespace Go.Proofs.YtgifhgnccmnbiabGreatDoor
def hK(p:PN)(n:Int):Int:=
 if p.kind=1\/p.kind=2\/p.kind=3 then 1
 else if p.kind=4 then (if n<1 then 1 else n)
 else if p.kind=6 then n*aY p.least p.most
 else n
def qT(g:Nat->Int):List Nat->Int
 | []=>0
 | k :: l=>g k+qT g l
def hG(ps:List PN):Nat->Nat->Int
 | 0,_=>0
 | f+1,i=>match ps[i]? with
   | none=>0
   | some p=>hK p (qT (hG ps f) p.kids)
def hT(ps:List PN)(j:Nat):Int:=hG ps (j+1) j
def hS(ps:List PN)(l:List Nat):Int:=qT (hT ps) l
theorem pQ{g h:Nat->Int}:∀(l:List Nat),(∀k,k∈l->g k=h k)->qT g l=qT h l
 | [],_=>rfl
 | k :: l,e=>by
   unfold qT;rw[e k (by simp),pQ l (fun j hj=>e j (by simp[hj]))]
theorem EA{g:Nat->Int}:∀(l:List Nat) (k:Nat),qT g (l++[k])=qT g l+g k
 | [],k=>by show g k+0=0+g k;omega
 | x :: l,k=>by
   show g x+qT g (l++[k])=g x+qT g l+g k;rw[EA l k];omega
theorem NK{ps:List PN}(hw:mT ps):∀(f g i:Nat),i<f->i<g->hG ps f i=hG ps g i
 | 0,_,_,h,_=>by omega
 | _+1,0,_,_,h=>by omega
 | f+1,g+1,i,h1,h2=>by
   rw[hG,hG];cases hp:ps[i]? with
   | none=>rfl
   | some p=>
     simp only[];congr 1
     exact pQ _ (fun k hk=>NK hw f g k (by have:=hw i p hp k hk;omega) (by have:=hw i p hp k hk;omega))
theorem U5{ps more:List PN}(hw:mT ps):∀(f i:Nat),i<ps.length->hG (ps++more) f i=hG ps f i
 | 0,_,_=>rfl
 | f+1,i,hi=>by
   rw[hG,hG,List.getElem?_append_left hi];cases hp:ps[i]? with
   | none=>rfl
   | some p=>
     simp only[];congr 1
     exact pQ _ (fun k hk=>U5 hw f k (by have:=hw i p hp k hk;omega))
theorem hT_app{ps more:List PN}(hw:mT ps){i:Nat}(hi:i<ps.length):hT (ps++more) i=hT ps i:=U5 hw _ _ hi
theorem U6{ps more:List PN}(hw:mT ps){l:List Nat}(hl:∀k,k∈l->k<ps.length):hS (ps++more) l=hS ps l:=pQ _ (fun k hk=>hT_app hw (hl k hk))
theorem Cs{ps:List PN}(hw:mT ps){j:Nat}{p:PN}(hp:ps[j]?=some p):hT ps j=hK p (hS ps p.kids):=by
 unfold hT;rw[hG,hp];simp only[];congr 1
 exact pQ _ (fun k hk=>NK hw _ _ k (hw j p hp k hk) (Nat.lt_succ_self _))
theorem U7{ps:List PN}{p:PN}(hw:mT ps)(hl:∀k,k∈p.kids->k<ps.length):hT (ps++[p]) ps.length=hK p (hS ps p.kids):=by
 rw[Cs (hw.push hl) (show(ps++[p])[ps.length]?=some p by rw[List.getElem?_append_right (Nat.le_refl _),Nat.sub_self];rfl),U6 hw hl]
def Mt(ps:List PN):Prop:=∀(j:Nat) (p:PN),ps[j]?=some p->p.kind=6->p.most = -1\/p.least<=p.most
theorem Mt.push{ps:List PN}(h:Mt ps){p:PN}(hp:p.kind=6->p.most = -1\/p.least<=p.most):Mt (ps++[p]):=by
 intro j x hx hk;by_cases hj:j<ps.length
 ·rw[List.getElem?_append_left hj]at hx;exact h j x hx hk
 ·rw[List.getElem?_append_right (by omega)]at hx;have h0:j-ps.length=0:=by
   have:=(List.getElem?_eq_some_iff.1 hx).1;simp at this;omega
  rw[h0]at hx;simp at hx;subst hx;exact hp hk
theorem zb(t:ByteArray)(c:Int)(st:RP):∃x s',bY t c st=a8 x (s',st.2)/\x.kids=[]/\(x.kind=1\/x.kind=2\/x.kind=3)/\st.1.1<=s'.1/\(st.1.1<=t.size->s'.1<=t.size)/\(st.1.2=true->s'.2=true):=by
 unfold bY;split
 ·refine⟨_,_,rfl,rfl,Or.inl rfl,Nat.le_trans cr xm,fun h=>?_,fun h=>?_⟩
  ·have:∀(n:Nat) (s:RS) (f:Nat->Bool),Fits t s->Fits t (fO t n s f).1:=by
    intro n;induction n with
    | zero=>intro s f h;exact h
    | succ n ih=>
      intro s f h;rw[fO];split
      ·exact h
      ·split
       ·exact bh (by omega) (iM h)
       ·exact ih _ _ (bh (by omega) (iM h))
   exact this _ _ _ (bh (c:=94) (by omega) h)
  ·rw[mJ (bR h)];exact bR h
 ·split
  ·exact⟨_,_,rfl,rfl,Or.inr (Or.inl rfl),Nat.le_refl _,fun h=>h,fun h=>h⟩
  ·split
   ·exact⟨_,_,rfl,rfl,Or.inr (Or.inr rfl),Nat.le_refl _,fun h=>h,fun h=>h⟩
   ·split
    ·exact⟨_,_,rfl,rfl,Or.inl rfl,Nat.le_refl _,fun h=>h,fun h=>h⟩
    ·split
     ·exact⟨_,_,rfl,rfl,Or.inl rfl,yo,fun h=>pT (s:=st.1) h,fun h=>xg h⟩
     ·exact⟨_,_,rfl,rfl,Or.inl rfl,Nat.le_refl _,fun h=>h,fun h=>h⟩
theorem EC{t:ByteArray}{s:RS}(h:s.2=true):(bF t s).2=true:=by
 unfold bF;split
 ·rfl
 ·exact h
theorem Ct{t:ByteArray}{r:Nat×RP}(h:r.2.1.2=true):(cW t r).2.1.2=true:=by
 unfold cW;simp only[];split
 ·exact bR h
 ·rfl
theorem tt(t:ByteArray):∀(f tag:Nat) (cur:List Nat) (st:RP),st.1.2=true->(ot t f tag cur st).2.1.2=true
 | 0,_,_,_,h=>h
 | f+1,tag,cur,st,h=>by
   have ih:=fun tag cur st h=>tt t f tag cur st h;rw[ot];split
   ·simp only[];split
    ·exact bR (ih _ _ _ h)
    ·exact ih _ _ _ (bR (ih _ _ _ h))
   ·split
    ·split
     ·exact ih _ _ _ (ih _ _ _ h)
     ·exact h
    ·split
     ·exact ih _ _ _ (ih _ _ _ h)
     ·split
      ·split
       ·exact Ct (ih 0 [] _ (xg (EC h)))
       ·obtain⟨x,s',e,_,_,_,_,hb⟩:=zb t (cd t (bF t st.1)).1 ((cd t (bF t st.1)).2,st.2);rw[e];exact hb (xg (EC h))
      ·rw[if_pos (Or.inl h)];exact h
theorem tu{b:Bool}(h:b=true->False):b=false:=by
 cases b with
 | true=>exact(h rfl).elim
 | false=>rfl
def Xe(tag:Nat)(cur:List Nat)(ps:List PN)(d0:Nat):Prop:=
 (∀k,k∈cur->k<ps.length) /\
 (tag=0->(cur=[]/\d0=0)\/∃e,d0=e+1/\Bd (hS ps cur) e) /\
 (tag=1->(cur=[]/\d0=0)\/(1<=d0/\Bd (hS ps cur) d0)) /\
 (tag=2\/tag=3->d0=0) /\
 (tag=4->∃k,cur=[k]/\Bd (hT ps k) d0)
def qL(tag r:Nat):Nat:=if tag=0 then 4*r+2 else if tag=1 then 4*r+1 else if tag=2 then 4*r else if tag=3 then 4*r-1 else r+1
def uN(tag:Nat):Nat:=if tag=0 then 2 else if tag=1 then 1 else 0
structure JB (t:ByteArray)(tag d0:Nat)(st:RP)(r:Nat×RP):Prop where
 wf:mT r.2.2
 ord:Mt r.2.2
 more:∃m,r.2.2=st.2++m
 lt:r.1<r.2.2.length
 ge:st.1.1<=r.2.1.1
 fit:r.2.1.1<=t.size
 len:r.2.2.length<=st.2.length+2*(r.2.1.1-st.1.1)+uN tag
 bd:Bd (hT r.2.2 r.1) (d0+(r.2.1.1-st.1.1))
 on:tag=2\/tag=3->st.1.1<r.2.1.1
theorem JB.push{t:ByteArray}{tag d0 d1:Nat}{st:RP}{s':RS}{ps:List PN}{x:PN}(hw:mT ps)(ho:Mt ps)(hm:∃m,ps=st.2++m)(hk:∀k,k∈x.kids->k<ps.length)(hx:x.kind=6->x.most = -1\/x.least<=x.most)
 (ge:st.1.1<=s'.1) (fit:s'.1<=t.size) (hl:ps.length+1<=st.2.length+2*(s'.1-st.1.1)+uN tag) (hb:Bd (hK x (hS ps x.kids)) d1) (hd:d1<=d0+(s'.1-st.1.1)) (on:tag=2\/tag=3->st.1.1<s'.1):
 JB t tag d0 st (a8 x (s',ps)):=by
 obtain⟨m,hm⟩:=hm;refine⟨hw.push hk,ho.push hx,⟨m++[x],by show ps++[x]=_;rw[hm,List.append_assoc]⟩,by simp[a8],ge,fit,by simp[a8];omega,?_,on⟩;show Bd (hT (ps++[x]) ps.length) _;rw[U7 hw hk];have:=hb.more (c:=d0+(s'.1-st.1.1)-d1);rwa [show d1+(d0+(s'.1-st.1.1)-d1)=d0+(s'.1-st.1.1) by omega]at this
theorem Xe.snoc{tag d0:Nat}{t:ByteArray}{cur:List Nat}{st:RP}{r:Nat×RP}(hc:∀k,k∈cur->k<st.2.length)(hw:mT st.2)(hr:JB t tag d0 st r):
 (∀k,k∈cur++[r.1]->k<r.2.2.length)/\hS r.2.2 (cur++[r.1])=hS st.2 cur+hT r.2.2 r.1:=by
 obtain⟨m,hm⟩:=hr.more;refine⟨fun k hk=>?_,?_⟩
 ·rcases List.mem_append.1 hk with hk|hk
  ·have:=hc k hk;rw[hm,List.length_append];omega
  ·simp at hk;subst hk;exact hr.lt
 ·unfold hS;rw[EA];congr 1
  show hS r.2.2 cur=hS st.2 cur;rw[hm];exact U6 hw hc
theorem NM(t:ByteArray):∀(f tag d0:Nat) (cur:List Nat) (st:RP),tag<=4->qL tag (t.size-st.1.1)<=f->st.1.2=false->mT st.2->Mt st.2->st.1.1<=t.size->(tag=2\/tag=3->st.1.1<t.size)->Xe tag cur st.2 d0 ->
 (ot t f tag cur st).2.1.2=false->JB t tag d0 st (ot t f tag cur st)
 | 0,tag,d0,cur,st,ht,hn,hb,hw,ho,dD,bO,hc,hg=>by
   exfalso;unfold qL at hn;repeat' split at hn
   all_goals first | omega | (rename_i h;have:=bO (by omega);omega)
 | f+1,tag,d0,cur,st,ht,hn,hb,hw,ho,dD,bO,hc,hg=>by
   have ih:=fun tag d0 cur st=>NM t f tag d0 cur st;obtain⟨hk,c0,c1,c2,c4⟩:=hc;rw[ot]at hg ⊢;by_cases t0:tag=0
   ·subst t0;rw[if_pos rfl]at hg ⊢;simp only[]at hg ⊢;simp only[qL,if_true,if_pos]at hn;have HE:(ot t f 1 [] st).2.1.2=false:=tu (fun hx=>by
     split at hg
     ·have:(ak t 124 (ot t f 1 [] st).2.1).2.2=true:=bR hx;have hg:(ak t 124 (ot t f 1 [] st).2.1).2.2=false:=hg;rw[this]at hg;cases hg
     ·rw[tt t f 0 _ _ (bR hx)]at hg;cases hg)
    have h1:=ih 1 0 [] st (by omega) (by simp[qL];omega) hb hw ho dD (by omega) ⟨fun k hk=>(by cases hk),by omega,fun _=>Or.inl ⟨rfl,rfl⟩,by omega,by omega⟩ HE;generalize ot t f 1 [] st=b at *;obtain⟨e1,e2⟩:=Xe.snoc hk hw h1;obtain⟨m1,P0⟩:=h1.more;have jK:=h1.ge;have Cv:=h1.bd;have AS:=h1.fit;have hlen:=h1.len;have Az:=h1.lt;have hlen:b.2.2.length<=st.2.length+2*(b.2.1.1-st.1.1)+1:=hlen;have hB:Bd (hS b.2.2 (cur++[b.1])) (d0+(b.2.1.1-st.1.1)):=by
     rw[e2];rcases c0 rfl with⟨rfl,rfl⟩|⟨e,rfl,he⟩
     ·rw[show hS st.2 []=0 from rfl,Int.zero_add];exact Cv
     ·have:=he.or Cv;rwa [show e+(0+(b.2.1.1-st.1.1))+1=e+1+(b.2.1.1-st.1.1) by omega]at this
    by_cases vj:pk t b.2.1.1=124
    ·have et:=fy (t:=t) (s:=b.2.1) vj;have kY:b.2.1.1<t.size:=kC (by omega);rw[et]at hg ⊢;rw[if_neg (by rw[HE];simp)]at hg ⊢;have h2:=ih 0 (d0+(b.2.1.1-st.1.1)+1) (cur++[b.1]) ((b.2.1.1+1,b.2.1.2),b.2.2) (by omega) (by simp[qL];omega) HE h1.wf h1.ord kY (by omega)
      ⟨e1,fun _=>Or.inr ⟨_,rfl,hB⟩,by omega,by omega,by omega⟩ hg
     generalize ot t f 0 (cur++[b.1]) ((b.2.1.1+1,b.2.1.2),b.2.2)=r at *;obtain⟨m2,sZ⟩:=h2.more;have g2:=h2.ge;have l2:=h2.len;have b2:=h2.bd;have l2:r.2.2.length<=b.2.2.length+2*(r.2.1.1-(b.2.1.1+1))+2:=l2;simp only[]at g2 sZ b2;refine⟨h2.wf,h2.ord,⟨m1++m2,by rw[sZ,P0,List.append_assoc]⟩,h2.lt,by omega,h2.fit,by show _<=_+2;omega,?_,by omega⟩;rwa [show d0+(b.2.1.1-st.1.1)+1+(r.2.1.1-(b.2.1.1+1))=d0+(r.2.1.1-st.1.1) by omega]at b2
    ·have et:=ct (t:=t) (s:=b.2.1) vj;rw[et]at hg ⊢;rw[if_pos (Or.inl rfl)]at hg ⊢;refine JB.push h1.wf h1.ord h1.more e1 (fun h=>absurd (show(5:Int)=6 from h) (by decide)) jK AS (by show _<=_+2;simp only[];omega) ?_ (Nat.le_refl _) (by omega);exact hB
   rw[if_neg t0]at hg ⊢;by_cases t1:tag=1
   ·subst t1;rw[if_pos rfl]at hg ⊢;have hn:4*(t.size-st.1.1)+1<=f+1:=hn;by_cases uQ:iu t st.1=true
    ·rw[if_pos uQ]at hg ⊢;have hp:st.1.1<t.size:=Ah uQ;have HE:(ot t f 2 [] st).2.1.2=false:=tu (fun hx=>by rw[tt t f 1 _ _ hx]at hg;cases hg);have h1:=ih 2 0 [] st (by omega) (by show 4*(t.size-st.1.1)<=f;omega) hb hw ho dD (fun _=>hp) ⟨fun k hk=>(by cases hk),by omega,by omega,fun _=>rfl,by omega⟩ HE;generalize ot t f 2 [] st=b at *;obtain⟨e1,e2⟩:=Xe.snoc hk hw h1;obtain⟨m1,P0⟩:=h1.more;have jK:=h1.ge;have Cv:=h1.bd;have AS:=h1.fit;have hlen:=h1.len;have iw:=h1.on (Or.inl rfl);simp only[uN]at hlen;have hB:Bd (hS b.2.2 (cur++[b.1])) (d0+(b.2.1.1-st.1.1)):=by
      rw[e2];rcases c1 rfl with⟨rfl,rfl⟩|⟨h0,he⟩
      ·rw[show hS st.2 []=0 from rfl,Int.zero_add];exact Cv
      ·have:=he.add Cv h0 (by omega);rwa [show d0+(0+(b.2.1.1-st.1.1))=d0+(b.2.1.1-st.1.1) by omega]at this
     have h2:=ih 1 (d0+(b.2.1.1-st.1.1)) (cur++[b.1]) b.2 (by omega) (by show 4*(t.size-b.2.1.1)+1<=f;omega) HE h1.wf h1.ord AS (by omega)
      ⟨e1,by omega,fun _=>Or.inr ⟨by omega,hB⟩,by omega,by omega⟩ hg
     generalize ot t f 1 (cur++[b.1]) b.2=r at *;obtain⟨m2,sZ⟩:=h2.more;have g2:=h2.ge;have l2:=h2.len;have b2:=h2.bd;simp only[uN]at l2 g2 sZ b2;refine⟨h2.wf,h2.ord,⟨m1++m2,by rw[sZ,P0,List.append_assoc]⟩,h2.lt,by omega,h2.fit,by simp only[uN];simp at l2 hlen ⊢;omega,?_,by omega⟩;rwa [show d0+(b.2.1.1-st.1.1)+(r.2.1.1-b.2.1.1)=d0+(r.2.1.1-st.1.1) by omega]at b2
    ·rw[if_neg uQ]at hg ⊢;obtain⟨s,ps⟩:=st;refine JB.push (d1:=d0) hw ho ⟨[],by simp⟩ hk (fun h=>absurd (show(4:Int)=6 from h) (by decide)) (Nat.le_refl _) dD (by simp[uN]) ?_ (by omega) (by omega);show Bd (if hS ps cur<1 then 1 else hS ps cur) d0;rcases c1 rfl with⟨rfl,rfl⟩|⟨h0,he⟩
     ·exact Bd.one 0
     ·have:=he.1;rw[if_neg (by simp only[]at this;omega)];exact he
   rw[if_neg t1]at hg ⊢;by_cases t2:tag=2
   ·subst t2;rw[if_pos rfl]at hg ⊢;simp only[qL]at hn;have hp:=bO (Or.inl rfl);have hd0:=c2 (Or.inl rfl);subst hd0;have HE:(ot t f 3 [] st).2.1.2=false:=tu (fun hx=>by rw[tt t f 4 _ _ hx]at hg;cases hg);have h1:=ih 3 0 [] st (by omega) (by simp[qL];simp at hn;omega) hb hw ho dD (fun _=>hp) ⟨fun k hk=>(by cases hk),by omega,by omega,fun _=>rfl,by omega⟩ HE;generalize ot t f 3 [] st=b at *;obtain⟨m1,P0⟩:=h1.more;have jK:=h1.ge;have Cv:=h1.bd;have AS:=h1.fit;have hlen:=h1.len;have Az:=h1.lt;have iw:=h1.on (Or.inr rfl);simp only[uN]at hlen;have h2:=ih 4 (0+(b.2.1.1-st.1.1)) [b.1] b.2 (by omega) (by simp[qL];simp at hn;omega) HE h1.wf h1.ord AS (by omega)
     ⟨fun k hk=>by simp at hk;subst hk;exact Az,by omega,by omega,by omega,fun _=>⟨_,rfl,Cv⟩⟩ hg
    generalize ot t f 4 [b.1] b.2=r at *;obtain⟨m2,sZ⟩:=h2.more;have g2:=h2.ge;have l2:=h2.len;have b2:=h2.bd;simp only[uN]at l2 g2 sZ b2;refine⟨h2.wf,h2.ord,⟨m1++m2,by rw[sZ,P0,List.append_assoc]⟩,h2.lt,by omega,h2.fit,by simp only[uN];simp at l2 hlen ⊢;omega,?_,fun _=>by omega⟩;rwa [show 0+(b.2.1.1-st.1.1)+(r.2.1.1-b.2.1.1)=0+(r.2.1.1-st.1.1) by omega]at b2
   rw[if_neg t2]at hg ⊢;by_cases t3:tag=3
   ·subst t3;rw[if_pos rfl]at hg ⊢;simp only[qL]at hn;have hp:=bO (Or.inr rfl);have hd0:=c2 (Or.inr rfl);subst hd0;have eO:(bF t st.1).1=st.1.1:=vh t st.1;have eT:(cd t (bF t st.1)).2=(st.1.1+1,(bF t st.1).2):=by unfold cd;rw[if_pos (by rw[eO];exact hp),eO]
    by_cases h40:(cd t (bF t st.1)).1=40
    ·rw[if_pos h40]at hg ⊢;have HE:(ot t f 0 [] ((cd t (bF t st.1)).2,st.2)).2.1.2=false:=tu (fun hx=>by rw[Ct hx]at hg;cases hg);have hob:(cd t (bF t st.1)).2.2=false:=tu (fun hx=>by rw[tt t f 0 [] ((cd t (bF t st.1)).2,st.2) hx]at HE;cases HE);have h1:=ih 0 0 [] ((cd t (bF t st.1)).2,st.2) (by omega) (by rw[eT];simp[qL];simp at hn;omega) hob hw ho (by rw[eT];exact hp) (by omega) ⟨fun k hk=>(by cases hk),fun _=>Or.inl ⟨rfl,rfl⟩,by omega,by omega,by omega⟩ HE;rw[eT]at h1 hg ⊢;generalize ot t f 0 [] ((st.1.1+1,(bF t st.1).2),st.2)=b at *;have jK:=h1.ge;have Cv:=h1.bd;have AS:=h1.fit;have hlen:=h1.len;simp only[uN]at hlen jK Cv;have ix:(ak t 41 b.2.1).1=true:=by
      cases hx:(ak t 41 b.2.1).1 with
      | true=>rfl
      | false=>
        exfalso;unfold cW at hg;simp only[]at hg;rw[if_neg (by rw[hx];decide)]at hg;cases hg
     have eC:cW t b=(b.1,((ak t 41 b.2.1).2,b.2.2)):=by unfold cW;rw[if_pos ix]
     have h3:=nI ix;have h4:=bh (c:=41) (by omega) (show Fits t b.2.1 from AS);simp only[Fits]at h4;rw[eC];refine⟨h1.wf,h1.ord,h1.more,h1.lt,by show st.1.1<=(ak t 41 b.2.1).2.1;omega,h4,by simp only[uN];simp at hlen ⊢;omega,?_,fun _=>by show st.1.1<(ak t 41 b.2.1).2.1;omega⟩;have:=Cv.more (c:=(ak t 41 b.2.1).2.1-b.2.1.1+1);show Bd (hT b.2.2 b.1) (0+((ak t 41 b.2.1).2.1-st.1.1));rwa [show 0+(b.2.1.1-(st.1.1+1))+((ak t 41 b.2.1).2.1-b.2.1.1+1)=0+((ak t 41 b.2.1).2.1-st.1.1) by omega]at this
    ·rw[if_neg h40]at hg ⊢;obtain⟨x,s',e,xk,xkd,xge,xfit,_⟩:=zb t (cd t (bF t st.1)).1 ((cd t (bF t st.1)).2,st.2);rw[e];rw[eT]at xge xfit;simp only[]at xge xfit;refine JB.push (d1:=0) hw ho ⟨[],by simp⟩ (by rw[xk];exact fun k hk=>by cases hk) (fun h=>by omega) (by omega) (xfit hp) (by simp only[uN];simp;omega) ?_ (by omega) (fun _=>by omega);unfold hK;rw[if_pos xkd];exact Bd.one 0
   rw[if_neg t3]at hg ⊢;obtain rfl:tag=4:=by omega
   simp only[qL]at hn;obtain⟨k,rfl,Wo⟩:=c4 rfl;have hklt:=hk k (by simp);by_cases hs:oq t st.1 [42,43,63,123]=false
   ·rw[if_pos (Or.inr hs)];exact⟨hw,ho,⟨[],by simp⟩,hklt,Nat.le_refl _,dD,by show st.2.length<=st.2.length+2*(st.1.1-st.1.1)+0;omega,by simpa using Wo,by omega⟩
   ·have hs:oq t st.1 [42,43,63,123]=true:=by simpa using hs
    obtain⟨⟨p,b⟩,ps⟩:=st;simp only[]at hb hs dD hn Wo hklt hw ho hg ⊢;subst hb;rw[if_neg (by rw[hs];simp)]at hg ⊢;have hr:kN t (p,false)=true:=by rw[<-V2];exact hs
    have hp:=lQ hr;simp only[]at hp;rcases yH hr with⟨g1,g2⟩|⟨g1,g2⟩
    ·exfalso;rw[tt t f 4 _ _ (show(a8 { kind:=6,kids:=[k],least:=(fX t (p,false)).1.1,most:=(fX t (p,false)).1.2} ((fX t (p,false)).2,ps)).2.1.2=true from g2)]at hg;cases hg
    ·have H2:=HY hr g2;have Sc:=DU hr g2;obtain⟨l0,l9,m0,m9⟩:=sB t (p,false);have vd:=kO (t:=t) (s:=(p,false)) (Nat.le_of_lt hp);rw[<-g1]at hg ⊢;generalize hR:aC t (p,false)=R at *;obtain⟨⟨least,most⟩,⟨p2,b2⟩⟩:=R;simp only[Fits]at g2 H2 l0 l9 m0 m9 vd Sc hg ⊢;subst g2;obtain⟨n1,n9⟩:=vX (a:=least) (b:=most) l9 m9;have JL:∀j,j∈[k]->j<ps.length:=fun j hj=>by simp at hj;subst hj;exact hklt
     have hpp:p+1<=p2:=by omega
     have KA:hT (ps++[{kind:=6,kids:=[k],least:=least,most:=most}]) ps.length=hT ps k*aY least most:=by
      rw[U7 hw JL];show(hT ps k+0)*aY least most=_;rw[Int.add_zero]
     have Cv:Bd (hT ps k*aY least most) (d0+(p2-p)):=by
      rcases H2 with⟨k1,k2⟩|k2
      ·rw[k1,Int.mul_one];exact Wo.more
      ·have:=(Wo.mul (Bd.nine n1 n9)).more (c:=p2-(p+3));rwa [show d0+3+(p2-(p+3))=d0+(p2-p) by omega]at this
     have h2:=ih 4 (d0+(p2-p)) [ps.length] ((p2,false),ps++[({kind:=6,kids:=[k],least:=least,most:=most}:PN)]) (by omega) (by simp[qL];simp at hn;omega) rfl (mT.push hw JL) (ho.push (fun _=>Sc)) vd (by omega)
      ⟨fun j hj=>by simp at hj;subst hj;simp,by omega,by omega,by omega,fun _=>⟨_,rfl,by rw[KA];exact Cv⟩⟩ hg
     have e2:ot t f 4 [(a8 { kind:=6,kids:=[k],least:=least,most:=most} ((p2,false),ps)).1] (a8 { kind:=6,kids:=[k],least:=least,most:=most} ((p2,false),ps)).2=ot t f 4 [ps.length] ((p2,false),ps++[{kind:=6,kids:=[k],least:=least,most:=most}]):=rfl;rw[e2];generalize ot t f 4 [ps.length] ((p2,false),ps++[{kind:=6,kids:=[k],least:=least,most:=most}])=r at *;obtain⟨m2,sZ⟩:=h2.more;have gg:=h2.ge;have l2:=h2.len;have b2:=h2.bd;simp only[uN]at l2 gg sZ b2;refine⟨h2.wf,h2.ord,⟨_ :: m2,by rw[sZ,List.append_assoc];rfl⟩,h2.lt,by show p<=_;omega,h2.fit,by simp only[uN];simp at l2 ⊢;omega,?_,by omega⟩;show Bd _ (d0+(r.2.1.1-p));rwa [show d0+(p2-p)+(r.2.1.1-p2)=d0+(r.2.1.1-p) by omega]at b2
theorem db.nod{t:ByteArray}{q:Nat×RP}(h:db t 0 [] CJ q)(hb:q.2.1.2=false):JB t 0 0 CJ q:=by
 obtain⟨f0,hf⟩:=h;have e:=hf (f0+(4*t.size+2)) (by omega);have h:=NM t (f0+(4*t.size+2)) 0 0 [] CJ (by omega) (by show 4*(t.size-0)+2<=_;omega) rfl (fun i p hp=>by simp[CJ]at hp) (fun j p hp=>by simp[CJ]at hp) (Nat.zero_le _) (by omega)
  ⟨fun k hk=>(by cases hk),fun _=>Or.inl ⟨rfl,rfl⟩,by omega,by omega,by omega⟩ (by rw[e];exact hb)
 rwa [e]at h
end Go.Proofs.YtgifhgnccmnbiabGreatDoor
