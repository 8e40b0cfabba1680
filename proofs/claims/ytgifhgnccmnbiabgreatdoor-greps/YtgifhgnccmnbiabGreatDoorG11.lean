/- Part of the proof. -/
import Derived.Test.YtgifhgnccmnbiabGreatDoorG10
import Derived.Test.YtgifhgnccmnbiabGreatDoorG04
import Derived.Test.YtgifhgnccmnbiabGreatDoorG08
import Derived.Test.YtgifhgnccmnbiabGreatDoorG09
import Derived.Test.YtgifhgnccmnbiabGreatDoorG07
import Derived.Test.YtgifhgnccmnbiabGreatDoorG01
import Derived.Test.YtgifhgnccmnbiabGreatDoorG02
set_option linter.unusedVariables false
set_option linter.unusedSimpArgs false
set_option maxHeartbeats 4000000
set_option maxRecDepth 100000
namespace Go.Proofs.YtgifhgnccmnbiabGreatDoor
open Go.RowKit Go.IntWalk
theorem A6{t:ByteArray}(iZ:t.size<=40){m p:Nat}{ns:List AN}{ps:List PN}(H:HQ t m)(hw:mT ps)(hp:p<t.size)(he:jj t (p,false)=false)(hm:t.size-p<=m):
 ∃r q,Ev t 2 0 ((p,false),ns) r/\db t 2 [] ((p,false),ps) q/\PO t p ns ps r q/\(q.2.1.2=false->p<q.2.1.1):=by
 simp only[jj,Bool.or_eq_false_iff,beq_eq_false_iff_ne]at he;obtain⟨r1,q1,a1,a2,a3,a4⟩:=OY (ns:=ns) H hw hp he.1.2 he.2 hm;obtain⟨r,q,b1,b2,b3,b4⟩:=HZ iZ _ r1 q1 (Nat.le_refl _) a3 a4;exact⟨r,q,Ev.piece a1 b1,db.piece a2 b2,b3,b4⟩
structure RO (t:ByteArray)(p:Nat)(ns:List AN)(ps:List PN)(kind:Int)(i:Nat)(vY:List AN)(l:List Nat)(iE:List PN)(d:Nat):Prop where
 en:∃more,vY=ns++more
 ep:∃more,iE=ps++more
 wf:mT iE
 kids:∀k,k∈l->k<iE.length
 idx:i<vY.length
 sz:au vY i=fA (mU iE l)
 bd:Bd (mU iE l) d
 sm:nS kind vY i iE l
theorem V3{ps:List PN}{j d:Nat}(h:Bd (T ps j) d)(hd:d<=40):mU ps [j]=T ps j:=by
 have hs:=h.small hd;have:=h.1;show wrap64 (0+T ps j)=_;rw[Int.zero_add];exact wrap64_in _ (by omega)
theorem RO.one{kind:Int}{t:ByteArray}{p p0:Nat}{ns0 ns:List AN}{ps0 ps:List PN}{r:Nat×PS}{q:Nat×RP}(h:PO t p ns ps r q)(hb:q.2.1.2=false)(hd:q.2.1.1-p<=40)(hn:∃more,ns=ns0++more)(hq:∃more,ps=ps0++more):
 RO t p0 ns0 ps0 kind r.1 r.2.2 [q.1] q.2.2 (q.2.1.1-p):=by
 have hs:=h.sz hb;have e:=V3 hs.2.2.2.1 hd;refine⟨?_,?_,h.wf,fun k hk=>by simp at hk;subst hk;exact hs.2.1,hs.1,by rw[e];exact hs.2.2.1,by rw[e];exact hs.2.2.2.1,nS.one hs.2.2.2.2⟩
 ·obtain⟨a,ha⟩:=h.en;obtain⟨c,hc⟩:=hn;exact⟨c++a,by rw[ha,hc,List.append_assoc]⟩
 ·obtain⟨a,ha⟩:=h.ep;obtain⟨c,hc⟩:=hq;exact⟨c++a,by rw[ha,hc,List.append_assoc]⟩
theorem RO.next{t:ByteArray}{p p4 i d:Nat}{ns vY:List AN}{ps iE:List PN}{l:List Nat}{r:Nat×PS}{q:Nat×RP}(kind:Int)(tS:kind=4\/kind=5)(h:RO t p ns ps kind i vY l iE d)(po:PO t p4 vY iE r q)(hb:q.2.1.2=false)(s:RS)
 (d2:Nat) (YM:d2<=40) (Cv:Bd (mU iE l+T q.2.2 q.1) d2):
 RO t p ns ps kind (bk kind i r.1 (s,r.2.2)).1 (bk kind i r.1 (s,r.2.2)).2.2 (l++[q.1]) q.2.2 d2:=by
 have hs:=po.sz hb;obtain⟨an,hn⟩:=po.en;obtain⟨ap,hp⟩:=po.ep;have HF:mU q.2.2 l=mU iE l:=by rw[hp];exact R4 h.wf h.kids
 have iZ:=Cv.small YM;have h1:=h.bd.1;have h2:=hs.2.2.2.1.1;have e:mU q.2.2 (l++[q.1])=mU iE l+T q.2.2 q.1:=by
  rw[OO,HF];exact wrap64_in _ (by omega)
 refine⟨?_,?_,po.wf,?_,by simp[bk,bL],?_,by rw[e];exact Cv,?_⟩
 ·obtain⟨c,hc⟩:=h.en;exact⟨c++an++[_],by show r.2.2++[_]=_;rw[hn,hc];simp[List.append_assoc];rfl⟩
 ·obtain⟨c,hc⟩:=h.ep;exact⟨c++ap,by rw[hp,hc,List.append_assoc]⟩
 ·intro k hk;rcases List.mem_append.1 hk with hk|hk
  ·have:=h.kids k hk;rw[hp];simp;omega
  ·simp at hk;subst hk;exact hs.2.1
 ·show au (r.2.2++[gL _]) r.2.2.length=_;rw[uu,e];show fA (au r.2.2 i+au r.2.2 r.1)=_;rw[hs.2.2.1,show au r.2.2 i=fA (mU iE l) by rw[hn,KK h.idx,h.sz],VY _ _ h1 h2]
 ·have h0:=h.sm.app an ap;rw[<-hn,<-hp]at h0;exact nS.next tS h0 hs.2.2.2.2 rfl rfl rfl
theorem RO.fin{t:ByteArray}{p i d:Nat}{ns vY:List AN}{ps iE:List PN}{l:List Nat}(kind:Int)(h:RO t p ns ps kind i vY l iE d)(hk:kind=4\/kind=5)(s:RS)(hs:s.2=false)(hd:d=s.1-p)(jK:p<=s.1)(dD:s.1<=t.size):
 PO t p ns ps (i,(s,vY)) (a8 { kind:=kind,kids:=l} (s,iE)):=by
 have eT:T (iE++[{kind:=kind,kids:=l}]) iE.length=mU iE l:=by
  rw[MR h.wf h.kids];have h1:=h.bd.1;rcases hk with rfl|rfl
  ·show dK { kind:=4,kids:=l} (mU iE l)=_;unfold dK;rw[if_neg (by simp),if_pos rfl,if_neg (by omega)]
  ·show dK { kind:=5,kids:=l} (mU iE l)=_;unfold dK;rw[if_neg (by simp),if_neg (by simp),if_neg (by simp)]
 refine⟨Or.inr ⟨rfl,hs⟩,h.en,?_,mT.push h.wf h.kids,jK,dD,by simp[a8],fun _=>⟨h.idx,by simp[a8],?_,?_,nS.fin hk h.sm rfl rfl⟩⟩
 ·obtain⟨c,hc⟩:=h.ep;exact⟨c++[_],by show iE++[_]=_;rw[hc,List.append_assoc]⟩
 ·show au vY i=fA (T (iE++[_]) iE.length);rw[eT];exact h.sz
 ·show Bd (T (iE++[_]) iE.length) (s.1-p);rw[eT,<-hd];exact h.bd
theorem Fj{t:ByteArray}{p p4:Nat}{ns vY:List AN}{ps iE:List PN}{l:List Nat}{r:Nat×PS}{q:Nat×RP}(po:PO t p4 vY iE r q)(hn:∃more,vY=ns++more)(hq:∃more,iE=ps++more)(hb:q.2.1.2=true)(jK:p<=p4)
 (kind:Int) (hl:∀k,k∈l->k<q.2.2.length) (s2:RS) (h2:s2.2=true) (qz:q.2.1.1<=s2.1) (ji:s2.1<=t.size) (r':Nat×PS) (h1:r'.2.1=(t.size,true)) (h3:∃more,r'.2.2=r.2.2++more):
 PO t p ns ps r' (a8 { kind:=kind,kids:=l} (s2,q.2.2)):=by
 refine⟨Or.inl ⟨h1,h2⟩,?_,?_,mT.push po.wf hl,?_,ji,by simp[a8],fun hc=>?_⟩
 ·obtain⟨a,ha⟩:=po.en;obtain⟨c,hc⟩:=hn;obtain⟨e,he⟩:=h3;exact⟨c++a++e,by rw[he,ha,hc];simp[List.append_assoc]⟩
 ·obtain⟨a,ha⟩:=po.ep;obtain⟨c,hc⟩:=hq;exact⟨c++a++[_],by show q.2.2++[_]=_;rw[ha,hc];simp[List.append_assoc];rfl⟩
 ·have:=po.ge;show p<=s2.1;omega
 ·have hc:s2.2=false:=hc;rw[h2]at hc;cases hc
theorem H3{t:ByteArray}(iZ:t.size<=40){m p:Nat}{ns:List AN}{ps:List PN}(H:HQ t m)(Af:t.size-p<=m):∀(n i:Nat) (p1:Nat) (vY:List AN) (l:List Nat) (iE:List PN),t.size-p1<=n->RO t p ns ps 4 i vY l iE (p1-p)->p<p1->p1<=t.size ->
 ∃r q,Ev t 5 i ((p1,false),vY) r/\db t 1 l ((p1,false),iE) q/\PO t p ns ps r q
 | n,i,p1,vY,l,iE,hn,h,bO,dD=>by
   have uQ:=HU (t:=t) (p:=p1) dD;cases he:jj t (p1,false) with
   | true=>
     rw[he]at uQ;exact⟨_,_,Ev.mM (st:=((p1,false),vY)) he,db.oQ (st:=((p1,false),iE)) uQ,h.fin 4 (Or.inl rfl) _ rfl rfl (by show p<=p1;omega) dD⟩
   | false=>
     rw[he]at uQ;have yw:=nJ he;obtain⟨r4,q4,a1,a2,a3,a4⟩:=A6 (ns:=vY) iZ H h.wf yw he (by simp only[]at yw ⊢;omega);cases hb:q4.2.1.2 with
     | true=>
       have e1:=na a3.sync hb;refine⟨bk 4 i r4.1 r4.2,_,Ev.and (st:=((p1,false),vY)) he a1 (Ev.mM (by show jj t r4.2.1=true;rw[e1];exact HT)),db.ri (st:=((p1,false),iE)) uQ a2 (db.oQ (HV hb)),?_⟩;have E4:∀k,k∈l++[q4.1]->k<q4.2.2.length:=by
        intro k hk;rcases List.mem_append.1 hk with hk|hk
        ·have:=h.kids k hk;obtain⟨ap,hp⟩:=a3.ep;rw[hp];simp;omega
        ·simp at hk;subst hk;exact a3.YR
       exact Fj (p:=p) a3 h.en h.ep hb (by omega) 4 E4 q4.2.1 hb (Nat.le_refl _) a3.fit _ e1 ⟨_,rfl⟩
     | false=>
       have e1:=j8 a3.sync hb;have hs:=a3.sz hb;have lN:=a4 hb;have ru:=a3.fit;have Gv:=h.next 4 (Or.inl rfl) a3 hb r4.2.1 (q4.2.1.1-p) (by omega) (by
        have:=h.bd.add hs.2.2.2.1 (by omega) (by omega);rwa [show p1-p+(q4.2.1.1-p1)=q4.2.1.1-p by omega]at this)
       obtain⟨⟨p2,b2⟩,Cy⟩:∃s,q4.2.1=s:=⟨_,rfl⟩;rw[Cy]at e1 hb lN ru Gv;simp only[]at hb lN ru Gv;subst hb;match n,hn with
       | 0,hn=>simp only[]at yw;omega
       | n+1,hn=>
         obtain⟨r,q,b1,b2,b3⟩:=H3 iZ H Af n _ p2 _ _ _ (by omega) Gv (by omega) ru;refine⟨r,q,Ev.and (st:=((p1,false),vY)) he a1 ?_,db.ri (st:=((p1,false),iE)) uQ a2 ?_,b3⟩
         ·show Ev t 5 (bk 4 i r4.1 r4.2).1 (bk 4 i r4.1 r4.2).2 r;have:(bk 4 i r4.1 r4.2).2=((p2,false),(bk 4 i r4.1 (r4.2.1,r4.2.2)).2.2):=by
           show(r4.2.1,_)=_;rw[e1];rfl
          rw[this];exact b1
         ·have:q4.2=((p2,false),q4.2.2):=by rw[<-Cy]
          rw[this];exact b2
theorem yJ{t:ByteArray}(iZ:t.size<=40){m p:Nat}{ns:List AN}{ps:List PN}(H:HQ t m)(hw:mT ps)(hp:p<=t.size)(Af:t.size-p<=m):
 ∃r q,Ev t 1 0 ((p,false),ns) r/\db t 1 [] ((p,false),ps) q/\PO t p ns ps r q:=by
 have uQ:=HU (t:=t) (p:=p) hp;cases he:jj t (p,false) with
 | true=>
   rw[he]at uQ;exact⟨_,_,Ev.empty (st:=((p,false),ns)) he,db.oQ (cur:=[]) (st:=((p,false),ps)) uQ,nT hw (Or.inr ⟨rfl,rfl⟩) rfl rfl rfl (Nat.le_refl _) hp (fun _=>Or.inr (Or.inr (Or.inr ⟨rfl,rfl,rfl⟩)))⟩
 | false=>
   rw[he]at uQ;have yw:=nJ he;simp only[]at yw;obtain⟨r1,q1,a1,a2,a3,a4⟩:=A6 (ns:=ns) iZ H hw yw he Af;cases hb:q1.2.1.2 with
   | true=>
     have e1:=na a3.sync hb;refine⟨r1,_,Ev.branch (st:=((p,false),ns)) he a1 (Ev.mM (by rw[e1];exact HT)),db.ri (st:=((p,false),ps)) uQ a2 (db.oQ (HV hb)),?_⟩;exact Fj (p:=p) a3 ⟨[],by simp⟩ ⟨[],by simp⟩ hb (Nat.le_refl _) 4 (fun k hk=>by simp at hk;subst hk;exact a3.YR) q1.2.1 hb (Nat.le_refl _) a3.fit _ e1 ⟨[],by simp⟩
   | false=>
     have e1:=j8 a3.sync hb;have lN:=a4 hb;have A7:=a3.fit;have Gv:RO t p ns ps 4 r1.1 r1.2.2 [q1.1] q1.2.2 (q1.2.1.1-p):=RO.one a3 hb (by omega) ⟨[],by simp⟩ ⟨[],by simp⟩;obtain⟨⟨p2,b2⟩,Cy⟩:∃s,q1.2.1=s:=⟨_,rfl⟩;rw[Cy]at e1 hb lN A7 Gv;simp only[]at hb lN A7 Gv;subst hb;obtain⟨r,q,b1,b2,b3⟩:=H3 iZ H Af _ _ p2 _ _ _ (Nat.le_refl _) Gv lN A7;refine⟨r,q,Ev.branch (st:=((p,false),ns)) he a1 ?_,db.ri (st:=((p,false),ps)) uQ a2 ?_,b3⟩
     ·have:r1.2=((p2,false),r1.2.2):=by rw[<-e1]
      rw[this];exact b1
     ·have:q1.2=((p2,false),q1.2.2):=by rw[<-Cy]
      rw[this];exact b2
theorem H4{t:ByteArray}{c:Int}(hc:0<=c){b:Bool}:ak t c (t.size,b)=(false,(t.size,b)):=ct (s:=(t.size,b)) (by rw[mG (p:=t.size) (by omega)];omega)
theorem MW{t:ByteArray}(iZ:t.size<=40){m p:Nat}{ns:List AN}{ps:List PN}(H:HQ t m)(Af:t.size-p<=m):∀(n i:Nat) (p1:Nat) (vY:List AN) (l:List Nat) (iE:List PN),t.size-p1<=n->RO t p ns ps 5 i vY l iE (p1-1-p)->p<p1->p1<=t.size ->
 ∃r q,(∀s0,ak t 124 s0=(true,(p1,false))->Ev t 4 i (s0,vY) r)/\db t 0 l ((p1,false),iE) q/\PO t p ns ps r q
 | n,i,p1,vY,l,iE,hn,h,bO,dD=>by
   obtain⟨r4,q4,a1,a2,a3⟩:=yJ (ns:=vY) iZ H h.wf dD (by omega);have E4:∀k,k∈l++[q4.1]->k<q4.2.2.length:=by
    intro k hk;rcases List.mem_append.1 hk with hk|hk
    ·have:=h.kids k hk;obtain⟨ap,hp⟩:=a3.ep;rw[hp];simp;omega
    ·simp at hk;subst hk;exact a3.YR
   have Sd:∀r,Ev t 4 (bk 5 i r4.1 r4.2).1 (bk 5 i r4.1 r4.2).2 r->∀s0,ak t 124 s0=(true,(p1,false))->Ev t 4 i (s0,vY) r:=fun r hr s0 Oz=>
    Ev.or (st:=(s0,vY)) (r1:=r4) (by rw[Oz]) (by rw[Oz];exact a1) hr
   cases hb:q4.2.1.2 with
   | true=>
     have e1:=na a3.sync hb;refine⟨bk 5 i r4.1 r4.2,_,Sd _ (Ev.oP (by show(ak t 124 r4.2.1).1=false;rw[e1,H4 (by omega)])),db.oR (st:=((p1,false),iE)) a2 (Or.inr (bR hb)),?_⟩;exact Fj (p:=p) a3 h.en h.ep hb (by omega) 5 E4 (ak t 124 q4.2.1).2 (bR hb) cr (Fi (by omega) a3.fit) _ e1 ⟨_,rfl⟩
   | false=>
     have e1:=j8 a3.sync hb;have hs:=a3.sz hb;have jK:=a3.ge;have ru:=a3.fit;have Gv:=h.next 5 (Or.inr rfl) a3 hb r4.2.1 (q4.2.1.1-p) (by omega) (by
      have:=h.bd.or hs.2.2.2.1;rwa [show p1-1-p+(q4.2.1.1-p1)+1=q4.2.1.1-p by omega]at this)
     obtain⟨⟨p2,b2⟩,Cy⟩:∃s,q4.2.1=s:=⟨_,rfl⟩;rw[Cy]at e1 hb jK ru Gv;simp only[]at hb jK ru Gv;subst hb;by_cases hc:pk t p2=124
     ·have et:=fy (t:=t) (s:=(p2,false)) hc;have kY:p2<t.size:=kC (by omega);match n,hn with
      | 0,hn=>omega
      | n+1,hn=>
        obtain⟨r,q,b1,b2,b3⟩:=MW iZ H Af n _ (p2+1) _ _ _ (by omega) (by rwa [show p2+1-1-p=p2-p by omega]) (by omega) kY;refine⟨r,q,Sd r ?_,db.Ad (st:=((p1,false),iE)) a2 (by rw[Cy,et];simp) (by rw[Cy,et];exact b2),b3⟩;have:(bk 5 i r4.1 r4.2).2=((p2,false),(bk 5 i r4.1 (r4.2.1,r4.2.2)).2.2):=by
         show(r4.2.1,_)=_;rw[e1];rfl
        rw[this];exact b1 (p2,false) et
     ·have et:=ct (t:=t) (s:=(p2,false)) hc;refine⟨bk 5 i r4.1 r4.2,_,Sd _ (Ev.oP (by show(ak t 124 r4.2.1).1=false;rw[e1,et])),db.oR (st:=((p1,false),iE)) a2 (by rw[Cy,et];simp),?_⟩;have aA:=Gv.fin 5 (Or.inr rfl) (p2,false) rfl rfl (by show p<=p2;omega) ru;rw[Cy,et];have:bk 5 i r4.1 r4.2=((bk 5 i r4.1 (r4.2.1,r4.2.2)).1,((p2,false),(bk 5 i r4.1 (r4.2.1,r4.2.2)).2.2)):=by
       show(_,(r4.2.1,_))=_;rw[e1];rfl
      rw[this];exact aA
theorem Se{t:ByteArray}(iZ:t.size<=40){m:Nat}(H:HQ t m):HQ t (m+1):=by
 intro p ns ps hw hp hm;obtain⟨r1,q1,a1,a2,a3⟩:=yJ (ns:=ns) iZ H hw hp (by omega);cases hb:q1.2.1.2 with
 | true=>
   have e1:=na a3.sync hb;refine⟨r1,_,Ev.pattern a1 (Ev.oP (by rw[e1,H4 (by omega)])),db.oR (cur:=[]) (st:=((p,false),ps)) a2 (Or.inr (bR hb)),?_⟩;exact Fj (p:=p) a3 ⟨[],by simp⟩ ⟨[],by simp⟩ hb (Nat.le_refl _) 5 (fun k hk=>by simp at hk;subst hk;exact a3.YR) (ak t 124 q1.2.1).2 (bR hb) cr (Fi (by omega) a3.fit) _ e1 ⟨[],by simp⟩
 | false=>
   have e1:=j8 a3.sync hb;have jK:=a3.ge;have A7:=a3.fit;have Gv:RO t p ns ps 5 r1.1 r1.2.2 [q1.1] q1.2.2 (q1.2.1.1-p):=RO.one a3 hb (by omega) ⟨[],by simp⟩ ⟨[],by simp⟩;obtain⟨⟨p2,b2⟩,Cy⟩:∃s,q1.2.1=s:=⟨_,rfl⟩;rw[Cy]at e1 hb jK A7 Gv;simp only[]at hb jK A7 Gv;subst hb;have er:r1.2=((p2,false),r1.2.2):=by rw[<-e1]
   by_cases hc:pk t p2=124
   ·have et:=fy (t:=t) (s:=(p2,false)) hc;have kY:p2<t.size:=kC (by omega);obtain⟨r,q,b1,b2,b3⟩:=MW (p:=p) (m:=m) (ns:=ns) (ps:=ps) iZ H (by omega) _ _ (p2+1) _ _ _ (Nat.le_refl _) (by rwa [show p2+1-1-p=p2-p by omega]) (by omega) kY;refine⟨r,q,Ev.pattern a1 (by rw[er];exact b1 (p2,false) et),db.Ad (cur:=[]) (st:=((p,false),ps)) a2 (by rw[Cy,et];simp) (by rw[Cy,et];exact b2),b3⟩
   ·have et:=ct (t:=t) (s:=(p2,false)) hc;refine⟨r1,_,Ev.pattern a1 (Ev.oP (by rw[er,et])),db.oR (cur:=[]) (st:=((p,false),ps)) a2 (by rw[Cy,et];simp),?_⟩;have aA:=Gv.fin 5 (Or.inr rfl) (p2,false) rfl rfl (by show p<=p2;omega) A7;rw[Cy,et];rw[show r1=(r1.1,((p2,false),r1.2.2)) by rw[<-er]];exact aA
theorem Fk{t:ByteArray}(iZ:t.size<=40):∀m,HQ t m
 | 0=>fun _ _ _ _ _ h=>by omega
 | m+1=>Se iZ (Fk iZ m)
theorem db.one{t:ByteArray}{tag:Nat}{cur:List Nat}{st:RP}{r r':Nat×RP}(h:db t tag cur st r)(h':db t tag cur st r'):r=r':=by
 obtain⟨a,ha⟩:=h;obtain⟨c,hc⟩:=h';rw[<-ha (a+c) (by omega),hc (a+c) (by omega)]
theorem nc{t:ByteArray}(iZ:t.size<=40){r:Nat×PS}{q:Nat×RP}(hr:Ev t 0 0 Oi r)(hq:db t 0 [] CJ q):
 (vq t r↔vn t q)/\(¬vn t q->au r.2.2 r.1=fA (Xn q))/\mT q.2.2/\(¬vn t q->nF r.2.2 r.1 q.2.2 q.1):=by
 obtain⟨r',q',h1,h2,po⟩:=Fk iZ (t.size+1) 0 [] [] (fun i p hp=>by simp at hp) (Nat.zero_le _) (by omega);have er:=hr.one h1;have eq:=hq.one h2;subst er eq;unfold vq vn;cases hb:q.2.1.2 with
 | true=>
   have e1:=na po.sync hb;rw[e1];exact⟨by simp,fun h=>(h (Or.inl rfl)).elim,po.wf,fun h=>(h (Or.inl rfl)).elim⟩
 | false=>
   have e1:=j8 po.sync hb;rw[e1,hb];exact⟨Iff.rfl,fun _=>(po.sz hb).2.2.1,po.wf,fun _=>(po.sz hb).2.2.2.2⟩
structure Xu (whole:Bool)(n:Nat)(R:Rel)(y:Bool):Prop where
 all:whole=true->(y=true↔R 0 n)
 part:whole=false->(y=true↔∃a b,a<=b/\b<=n/\R a b)
end Go.Proofs.YtgifhgnccmnbiabGreatDoor
namespace Go.Proofs.YtgifhgnccmnbiabGreatDoor
def Nx(P:GP)(s b:Nat):Prop:=(s=60/\P.first.getLsbD b=true)\/(s<P.count/\(P.next s).getLsbD b=true)
def jw(P:GP):Nat->List Nat->Prop
 | s,[]=>(s<P.count/\P.last.getLsbD s=true)\/(s=60/\P.empty=true)
 | s,b :: r=>Nx P s b/\jw P b r
section
variable {P:GP}(hP:P.Fit)
include hP
theorem Nx.lt{s b:Nat}(h:Nx P s b):b<P.count:=by
 rcases h with⟨_,h⟩|⟨_,h⟩
 ·exact hP.first _ h
 ·exact hP.next _ _ h
theorem vZ:∀{l:List Nat} {s:Nat},s<P.count->(jw P s l↔P.qV s l)
 | [],s,hs=>by
   have:=hP.room;simp only[jw,GP.qV];constructor
   ·rintro(⟨_,h⟩|⟨h,_⟩)
    ·exact h
    ·omega
   ·intro h;exact Or.inl ⟨hs,h⟩
 | b :: r,s,hs=>by
   have:=hP.room;simp only[jw,GP.qV];constructor
   ·rintro⟨h1|h1,h2⟩
    ·omega
    ·exact⟨h1.2,(vZ (hP.next _ _ h1.2)).1 h2⟩
   ·rintro⟨h1,h2⟩;exact⟨Or.inr ⟨hs,h1⟩,(vZ (hP.next _ _ h1)).2 h2⟩
theorem wb{l:List Nat}:jw P 60 l↔P.Acc l:=by
 have:=hP.room;cases l with
 | nil=>
   simp only[jw,GP.Acc];constructor
   ·rintro(⟨h,_⟩|⟨_,h⟩)
    ·omega
    ·exact h
   ·intro h;exact Or.inr ⟨trivial,h⟩
 | cons b r=>
   simp only[jw,GP.Acc];constructor
   ·rintro⟨h1|h1,h2⟩
    ·exact⟨h1.2,(vZ hP (hP.first _ h1.2)).1 h2⟩
    ·omega
   ·rintro⟨h1,h2⟩;exact⟨Or.inl ⟨rfl,h1⟩,(vZ hP (hP.first _ h1)).2 h2⟩
end
section
variable {m:MP}{ns:List AN}{P:GP}{fold whole:Bool}{t:ByteArray}(hm:MF m ns P fold whole)
include hm
def Sub(P:GP)(S:aZ):Prop:=∀b,S.getLsbD b=true->b<P.count\/b=60\/b=61
omit hm in
theorem runX_no{l:List Nat}(hP:P.Fit):¬jw P 61 l:=by
 have:=hP.room;cases l with
 | nil=>rintro(⟨h,_⟩|⟨h,_⟩) <;> omega
 | cons b r=>rintro⟨⟨h,_⟩|⟨h,_⟩,_⟩ <;> omega
theorem j9{S:aZ}(hS:Sub P S){b:Nat}:(cI m S).getLsbD b=true↔∃s,S.getLsbD s=true/\Nx P s b:=by
 have hr:=hm.fit.room;unfold cI;rw[fh];constructor
 ·rintro⟨s,h1,h2,h3⟩;refine⟨s,h2,?_⟩;rcases hS s h2 with h|h|h
  ·rw[hm.next s h]at h3;exact Or.inr ⟨h,h3⟩
  ·subst h;rw[hm.start]at h3;exact Or.inl ⟨rfl,h3⟩
  ·omega
 ·rintro⟨s,h1,⟨h2,h3⟩|⟨h2,h3⟩⟩
  ·subst h2;exact⟨60,by omega,h1,by rw[hm.start];exact h3⟩
  ·exact⟨s,by omega,h1,by rw[hm.next s h2];exact h3⟩
theorem A8{s:Nat}(h:m.last.getLsbD s=true):jw P s []:=by
 rcases (hm.last s).1 h with h|h
 ·exact Or.inl ⟨hm.fit.last _ h,h⟩
 ·exact Or.inr h
theorem A9{s:Nat}(h:jw P s []):m.last.getLsbD s=true:=by
 rcases h with h|h
 ·exact(hm.last s).2 (Or.inl h.2)
 ·exact(hm.last s).2 (Or.inr h)
theorem we{e:Bool}{b:Nat}(h:(iV m e).getLsbD b=true):b<P.count:=by
 unfold iV at h;split at h
 ·rw[bD,Bool.or_eq_true]at h;rcases h with h|h
  ·exact((hm.ends b).1 h).1
  ·exact((hm.aE b).1 h).1
 ·exact((hm.ends b).1 h).1
theorem O3{S free:aZ}(hS:Sub P S)(hf:∀b,free.getLsbD b=true->b<P.count):Sub P (lG m S free):=fun b h=>
 have _:=hm;fM (Q:=fun b=>b<P.count\/b=60\/b=61) hS (fun _ _ b _ h2=>Or.inl (hf b h2)) 60 b h
theorem rS:(∀b,(uk m).getLsbD b=true->b<P.count\/b=60)/\(uk m).getLsbD 60=true /\
 (∀b,(uk m).getLsbD b=true->∀l j,jw P b l->Tr ns fold t (l.map P.node) 0 j->∃l',jw P 60 l'/\Tr ns fold t (l'.map P.node) 0 j) /\
 (∀b,(cI m (uk m)).getLsbD b=true->m.aE.getLsbD b=true->(uk m).getLsbD b=true):=by
 have hr:=hm.fit.room;have hf:∀b,m.aE.getLsbD b=true->b<P.count:=fun b h=>((hm.aE b).1 h).1;have h1:∀b,(uk m).getLsbD b=true->b<P.count\/b=60:=fun b h=>
  fM (Q:=fun b=>b<P.count\/b=60) (fun b h=>Or.inr (jX.1 h)) (fun _ _ b _ h2=>Or.inl (hf b h2)) 60 b h
 refine⟨h1,rP (jX.2 rfl) 60,?_,fun b h2 h3=>vM (fun b h=>by have:=hf b h;omega) h2 h3⟩;intro b hb;have h2:=fM (m:=m) (S:=cq) (free:=m.aE) (Q:=fun b=>(b<P.count\/b=60)/\∀l j,jw P b l->Tr ns fold t (l.map P.node) 0 j->∃l',jw P 60 l'/\Tr ns fold t (l'.map P.node) 0 j)
  (fun b h=>by
    have:=jX.1 h;subst this;exact⟨Or.inr rfl,fun l j h1 h2=>⟨l,h1,h2⟩⟩)
  (fun S' hS' b h2 h3=>by
    refine⟨Or.inl (hf b h3),fun l j h4 h5=>?_⟩;obtain⟨s,hs,hn⟩:=(j9 hm (fun b h=>(hS' b h).1.elim Or.inl (fun h=>Or.inr (Or.inl h)))).1 h2;obtain⟨_,n,sW,uU⟩:=(hm.aE b).1 h3;exact(hS' s hs).2 (b :: l) j ⟨hn,h4⟩ ⟨0,⟨n,sW,Or.inr (Or.inl ⟨uU,rfl,rfl⟩)⟩,h5⟩)
  60 b hb
 exact h2.2
omit hm in
theorem Sf{q b:Nat}(hm:MF m ns P fold whole)(hq:q<t.size):(m.bn t[q].toNat).getLsbD b=true↔b<P.count/\∃n,ns[P.node b]?=some n/\n.kind=1/\eh n fold t[q].toNat=true:=by
 rw[hm.bn];exact⟨fun h=>h.2,fun h=>⟨t[q].toNat_lt,h⟩⟩
theorem j'{S:aZ}(hS:Sub P S){q b:Nat}(hq:q<t.size):(mR m S t[q].toNat).getLsbD b=true↔∃s,S.getLsbD s=true/\Nx P s b/\∃n,ns[P.node b]?=some n/\n.kind=1/\eh n fold t[q].toNat=true:=by
 unfold mR;rw[dp,Bool.and_eq_true,j9 hm hS,Sf hm hq];constructor
 ·rintro⟨⟨s,h1,h2⟩,_,h3⟩;exact⟨s,h1,h2,h3⟩
 ·rintro⟨s,h1,h2,h3⟩;exact⟨⟨s,h1,h2⟩,h2.lt hm.fit,h3⟩
theorem DV{S:aZ}{X:Prop}(hS:Sub P S)(h0:∀b l j,S.getLsbD b=true->jw P b l->Tr ns fold t (l.map P.node) t.size j->X):
 ∀b,(lG m S (iV m (t.size==0))).getLsbD b=true->∀l j,jw P b l->Tr ns fold t (l.map P.node) t.size j->X:=by
 intro b hb;have h2:=fM (m:=m) (S:=S) (free:=iV m (t.size==0)) (Q:=fun b=>(b<P.count\/b=60\/b=61)/\∀l j,jw P b l->Tr ns fold t (l.map P.node) t.size j->X)
  (fun b h=>⟨hS b h,fun l j=>h0 b l j h⟩)
  (fun S' hS' b h2 h3=>by
    refine⟨Or.inl (we hm h3),fun l j h4 h5=>?_⟩;obtain⟨s,hs,hn⟩:=(j9 hm (fun b h=>(hS' b h).1)).1 h2;refine(hS' s hs).2 (b :: l) j ⟨hn,h4⟩ ⟨t.size,?_,h5⟩;unfold iV at h3;split at h3
    ·rename_i hz
     have hz:t.size=0:=by simpa using hz
     rw[bD,Bool.or_eq_true]at h3;rcases h3 with h3|h3
     ·obtain⟨_,n,sW,uU⟩:=(hm.ends b).1 h3;exact⟨n,sW,Or.inr (Or.inr ⟨uU,rfl,rfl⟩)⟩
     ·obtain⟨_,n,sW,uU⟩:=(hm.aE b).1 h3;exact⟨n,sW,Or.inr (Or.inl ⟨uU,hz,hz⟩)⟩
    ·obtain⟨_,n,sW,uU⟩:=(hm.ends b).1 h3;exact⟨n,sW,Or.inr (Or.inr ⟨uU,rfl,rfl⟩)⟩)
  60 b hb
 exact h2.2
theorem sX{S:aZ}(hS:Sub P S):∀(l:List Nat) (b:Nat),(lG m S (iV m (t.size==0))).getLsbD b=true->jw P b l->(∃j,Tr ns fold t (l.map P.node) t.size j)->∃s,(lG m S (iV m (t.size==0))).getLsbD s=true/\m.last.getLsbD s=true
 | [],b,hb,hr,_=>⟨b,hb,A9 hm hr⟩
 | c :: r,b,hb,hr,⟨j,k,⟨n,hn,hg⟩,h2⟩=>by
   have iS:=hm.fit.room;have hc:=hr.1.lt hm.fit;have hfl:(cI m (lG m S (iV m (t.size==0)))).getLsbD c=true:=(j9 hm (O3 hm hS (fun b h=>we hm h))).2 ⟨b,hb,hr.1⟩;have Sg:(iV m (t.size==0)).getLsbD c=true->(lG m S (iV m (t.size==0))).getLsbD c=true:=fun h=>vM (fun b h=>by have:=we hm h;omega) hfl h;rcases hg with⟨_,_,h3,_⟩|⟨hk,hz,rfl⟩|⟨hk,_,rfl⟩
   ·omega
   ·refine sX hS r c (Sg ?_) hr.2 ⟨j,by rw[hz];exact h2⟩;unfold iV;rw[if_pos (by simp[hz]),bD,Bool.or_eq_true];exact Or.inr ((hm.aE c).2 ⟨hc,n,hn,hk⟩)
   ·refine sX hS r c (Sg ?_) hr.2 ⟨j,h2⟩;have he:m.ends.getLsbD c=true:=(hm.ends c).2 ⟨hc,n,hn,hk⟩;unfold iV;split
    ·rw[bD,Bool.or_eq_true];exact Or.inl he
    ·exact he
theorem yK{S:aZ}:rK m S (t.size==0)=true↔∃b,(lG m S (iV m (t.size==0))).getLsbD b=true/\(m.last.getLsbD b=true\/b=61):=by
 have _:=hm;unfold rK;rw[Bool.not_eq_true',decide_eq_false_iff_not,RB];constructor
 ·intro h;apply Classical.byContradiction;intro hc;apply h;intro i;cases hi:(lG m S (iV m (t.size==0))&&&(m.last|||cX)).getLsbD i with
  | false=>rfl
  | true=>
    exfalso;rw[dp,bD,Bool.and_eq_true,Bool.or_eq_true,my]at hi;exact hc ⟨i,hi.1,hi.2⟩
 ·rintro⟨b,h1,h2⟩ hc;have:=hc b;rw[dp,bD,h1]at this;rcases h2 with h2|h2
  ·rw[h2]at this;simp at this
  ·rw[my.2 h2]at this;simp at this
end
section
variable {m:MP}{ns:List AN}{P:GP}{fold:Bool}{t:ByteArray}(hm:MF m ns P fold true)
include hm
def Fl(P:GP)(ns:List AN)(fold:Bool)(t:ByteArray):Prop:=∃l,jw P 60 l/\Tr ns fold t (l.map P.node) 0 t.size
structure InvW (m:MP)(ns:List AN)(P:GP)(fold:Bool)(t:ByteArray)(q:Nat)(S:aZ):Prop where
 sub:∀b,S.getLsbD b=true->b<P.count\/b=60
 sound:∀b l j,S.getLsbD b=true->jw P b l->Tr ns fold t (l.map P.node) q j->j=t.size->Fl P ns fold t
 H5:Fl P ns fold t->∃b l,S.getLsbD b=true/\jw P b l/\Tr ns fold t (l.map P.node) q t.size
 closed:q=0->∀b,(cI m S).getLsbD b=true->m.aE.getLsbD b=true->S.getLsbD b=true
theorem Xv{S:aZ}{q:Nat}(hS:Sub P S)(hq:q<t.size)(ix:q=0->∀b,(cI m S).getLsbD b=true->m.aE.getLsbD b=true->S.getLsbD b=true):
 ∀(l:List Nat) (b:Nat) (j:Nat),S.getLsbD b=true->jw P b l->Tr ns fold t (l.map P.node) q j->(∃s,S.getLsbD s=true/\m.last.getLsbD s=true/\j=q)\/∃c r,(mR m S t[q].toNat).getLsbD c=true/\jw P c r/\Tr ns fold t (r.map P.node) (q+1) j
 | [],b,j,hb,hr,qC=>Or.inl ⟨b,hb,A9 hm hr,qC.1.symm⟩
 | c :: r,b,j,hb,hr,⟨k,⟨n,hn,hg⟩,h2⟩=>by
   have hc:=hr.1.lt hm.fit;rcases hg with⟨hk,rfl,h3,h4⟩|⟨hk,hz,rfl⟩|⟨hk,hz,_⟩
   ·exact Or.inr ⟨c,r,(j' hm hS hq).2 ⟨b,hb,hr.1,n,hn,hk,h4⟩,hr.2,h2⟩
   ·subst hz;exact Xv hS hq ix r c j (ix rfl c ((j9 hm hS).2 ⟨b,hb,hr.1⟩) ((hm.aE c).2 ⟨hc,n,hn,hk⟩)) hr.2 h2
   ·omega
theorem YW:∀q,q<=t.size->InvW m ns P fold t q (jV m t q)
 | 0,_=>by
   obtain⟨h1,h2,h3,h4⟩:=rS (t:=t) hm;refine⟨h1,fun b l j hb hr qC hj=>?_,?_,fun _=>h4⟩
   ·subst hj;exact h3 b hb l _ hr qC
   ·rintro⟨l,hl,qC⟩;exact⟨60,l,h2,hl,qC⟩
 | q+1,hq=>by
   have ih:=YW q (by omega);have hS:Sub P (jV m t q):=fun b h=>(ih.sub b h).elim Or.inl (fun h=>Or.inr (Or.inl h));have MX:q<t.size:=by omega
   have e:jV m t (q+1)=mR m (jV m t q) t[q].toNat:=by
    rw[jV,dif_pos MX];unfold sU;rw[if_pos hm.whole]
   rw[e];refine⟨fun b h=>?_,fun b l j hb hr qC hj=>?_,fun hM=>?_,fun h=>by omega⟩
   ·obtain⟨s,_,hn,_⟩:=(j' hm hS MX).1 h;exact Or.inl (hn.lt hm.fit)
   ·obtain⟨s,hs,hn,n,sW,uU,hn3⟩:=(j' hm hS MX).1 hb;exact ih.sound s (b :: l) j hs ⟨hn,hr⟩ ⟨q+1,⟨n,sW,Or.inl ⟨uU,rfl,MX,hn3⟩⟩,qC⟩ hj
   ·obtain⟨b,l,hb,hr,qC⟩:=ih.H5 hM;rcases Xv hm hS MX ih.closed l b _ hb hr qC with⟨_,_,_,h⟩|⟨c,r,h1,h2,h3⟩
    ·omega
    ·exact⟨c,r,h1,h2,h3⟩
theorem O4:kU m t=true↔Fl P ns fold t:=by
 have inv:=YW (t:=t) hm t.size (Nat.le_refl _);have hS:Sub P (jV m t t.size):=fun b h=>(inv.sub b h).elim Or.inl (fun h=>Or.inr (Or.inl h));have iS:=hm.fit.room;unfold kU;rw[yK hm];constructor
 ·rintro⟨b,hb,h|h⟩
  ·refine DV hm hS (X:=Fl P ns fold t) (fun b l j h1 h2 h3=>inv.sound b l j h1 h2 h3 (by have:=h3.le;omega)) b hb [] t.size (A8 hm h) ⟨rfl,Nat.le_refl _⟩
  ·subst h;exfalso;have h1:=fM (m:=m) (S:=jV m t t.size) (free:=iV m (t.size==0)) (Q:=fun b=>b<P.count\/b=60) inv.sub (fun _ _ b _ h2=>Or.inl (we hm h2)) 60 61 hb;omega
 ·intro h;obtain⟨b,l,hb,hr,qC⟩:=inv.H5 h;obtain⟨s,h1,h2⟩:=sX hm hS l b (rP hb 60) hr ⟨_,qC⟩;exact⟨s,h1,Or.inl h2⟩
end
section
variable {m:MP}{ns:List AN}{P:GP}{fold:Bool}{t:ByteArray}(hm:MF m ns P fold false)
include hm
def xG(P:GP)(ns:List AN)(fold:Bool)(t:ByteArray):Prop:=∃i j l,jw P 60 l/\Tr ns fold t (l.map P.node) i j
structure InvA (m:MP)(ns:List AN)(P:GP)(fold:Bool)(t:ByteArray)(q:Nat)(S:aZ):Prop where
 sub:Sub P S
 found:S.getLsbD 61=true->xG P ns fold t
 sound:∀b l j,S.getLsbD b=true->jw P b l->Tr ns fold t (l.map P.node) q j->xG P ns fold t
 H5:xG P ns fold t->S.getLsbD 61=true\/(∃b l j,S.getLsbD b=true/\jw P b l/\Tr ns fold t (l.map P.node) q j)\/∃i l j,q<i/\jw P 60 l/\Tr ns fold t (l.map P.node) i j
 closed:q=0->∀b,(cI m S).getLsbD b=true->m.aE.getLsbD b=true->S.getLsbD b=true
theorem Sh{S:aZ}{q:Nat}(hS:Sub P S)(hq:q<t.size)(ix:q=0->∀b,(cI m S).getLsbD b=true->m.aE.getLsbD b=true->S.getLsbD b=true):
 ∀(l:List Nat) (b:Nat) (j:Nat),S.getLsbD b=true->jw P b l->Tr ns fold t (l.map P.node) q j->(∃s,S.getLsbD s=true/\m.last.getLsbD s=true)\/∃c r,(mR m S t[q].toNat).getLsbD c=true/\jw P c r/\Tr ns fold t (r.map P.node) (q+1) j
 | [],b,j,hb,hr,qC=>Or.inl ⟨b,hb,A9 hm hr⟩
 | c :: r,b,j,hb,hr,⟨k,⟨n,hn,hg⟩,h2⟩=>by
   have hc:=hr.1.lt hm.fit;rcases hg with⟨hk,rfl,h3,h4⟩|⟨hk,hz,rfl⟩|⟨hk,hz,_⟩
   ·exact Or.inr ⟨c,r,(j' hm hS hq).2 ⟨b,hb,hr.1,n,hn,hk,h4⟩,hr.2,h2⟩
   ·subst hz;exact Sh hS hq ix r c j (ix rfl c ((j9 hm hS).2 ⟨b,hb,hr.1⟩) ((hm.aE c).2 ⟨hc,n,hn,hk⟩)) hr.2 h2
   ·omega
omit hm in
theorem rT{A B:aZ}:A&&&B=0#64↔¬ ∃s,A.getLsbD s=true/\B.getLsbD s=true:=by
 rw[RB];constructor
 ·rintro h ⟨s,h1,h2⟩;have:=h s;rw[dp,h1,h2]at this;simp at this
 ·intro h i;rw[dp];cases h1:A.getLsbD i with
  | false=>rfl
  | true=>
    cases h2:B.getLsbD i with
    | false=>rfl
    | true=>exact absurd ⟨i,h1,h2⟩ h
theorem fS{S:aZ}{c b:Nat}:(sU m S c).getLsbD b=true↔(mR m S c).getLsbD b=true\/(b=61/\∃s,S.getLsbD s=true/\m.last.getLsbD s=true)\/(b=61/\S.getLsbD 61=true)\/b=60:=by
 unfold sU;rw[if_neg (by rw[hm.whole];decide),bD,bD,dp,Bool.or_eq_true,Bool.or_eq_true,Bool.and_eq_true,jX,my];have hF:(S.getLsbD b=true/\b=61)↔(b=61/\S.getLsbD 61=true):=by
  constructor
  ·rintro⟨h1,rfl⟩;exact⟨rfl,h1⟩
  ·rintro⟨rfl,h1⟩;exact⟨h1,rfl⟩
 rw[hF];by_cases hz:S&&&m.last=0#64
 ·rw[if_pos hz];have:=rT.1 hz;constructor
  ·rintro((h|h)|h)
   ·exact Or.inl h
   ·exact Or.inr (Or.inr (Or.inl h))
   ·exact Or.inr (Or.inr (Or.inr h))
  ·rintro(h|⟨_,h⟩|h|h)
   ·exact Or.inl (Or.inl h)
   ·exact absurd h this
   ·exact Or.inl (Or.inr h)
   ·exact Or.inr h
 ·rw[if_neg hz,bD,Bool.or_eq_true,my];have hex:∃s,S.getLsbD s=true/\m.last.getLsbD s=true:=Classical.byContradiction fun hc=>hz (rT.2 hc);constructor
  ·rintro(((h|h)|h)|h)
   ·exact Or.inl h
   ·exact Or.inr (Or.inl ⟨h,hex⟩)
   ·exact Or.inr (Or.inr (Or.inl h))
   ·exact Or.inr (Or.inr (Or.inr h))
  ·rintro(h|⟨h,_⟩|h|h)
   ·exact Or.inl (Or.inl (Or.inl h))
   ·exact Or.inl (Or.inl (Or.inr h))
   ·exact Or.inl (Or.inr h)
   ·exact Or.inr h
theorem YX:∀q,q<=t.size->InvA m ns P fold t q (jV m t q)
 | 0,_=>by
   have iS:=hm.fit.room;obtain⟨h1,h2,h3,h4⟩:=rS (t:=t) hm;refine⟨fun b h=>(h1 b h).elim Or.inl (fun h=>Or.inr (Or.inl h)),fun h=>?_,fun b l j hb hr qC=>?_,?_,fun _=>h4⟩
   ·have:=h1 _ h;omega
   ·obtain⟨l',h5,h6⟩:=h3 b hb l _ hr qC;exact⟨0,j,l',h5,h6⟩
   ·rintro⟨i,j,l,hl,qC⟩;by_cases hi:i=0
    ·subst hi;exact Or.inr (Or.inl ⟨60,l,j,h2,hl,qC⟩)
    ·exact Or.inr (Or.inr ⟨i,l,j,by omega,hl,qC⟩)
 | q+1,hq=>by
   have iS:=hm.fit.room;have ih:=YX q (by omega);have MX:q<t.size:=by omega
   have e:jV m t (q+1)=sU m (jV m t q) t[q].toNat:=by rw[jV,dif_pos MX]
   rw[e];have fnd:(∃s,(jV m t q).getLsbD s=true/\m.last.getLsbD s=true)->xG P ns fold t:=by
    rintro⟨s,h1,h2⟩;exact ih.sound s [] q h1 (A8 hm h2) ⟨rfl,by omega⟩
   refine⟨fun b h=>?_,fun h=>?_,fun b l j hb hr qC=>?_,fun hM=>?_,fun h=>by omega⟩
   ·rcases (fS hm).1 h with h|h|h|h
    ·obtain⟨s,_,hn,_⟩:=(j' hm ih.sub MX).1 h;exact Or.inl (hn.lt hm.fit)
    ·exact Or.inr (Or.inr h.1)
    ·exact Or.inr (Or.inr h.1)
    ·exact Or.inr (Or.inl h)
   ·rcases (fS hm).1 h with h|h|h|h
    ·obtain⟨s,_,hn,_⟩:=(j' hm ih.sub MX).1 h;have:=hn.lt hm.fit;omega
    ·exact fnd h.2
    ·exact ih.found h.2
    ·omega
   ·rcases (fS hm).1 hb with h|h|h|h
    ·obtain⟨s,hs,hn,n,sW,uU,hn3⟩:=(j' hm ih.sub MX).1 h;exact ih.sound s (b :: l) j hs ⟨hn,hr⟩ ⟨q+1,⟨n,sW,Or.inl ⟨uU,rfl,MX,hn3⟩⟩,qC⟩
    ·exact fnd h.2
    ·exact ih.found h.2
    ·subst h;exact⟨q+1,j,l,hr,qC⟩
   ·rcases ih.H5 hM with h|⟨b,l,j,hb,hr,qC⟩|⟨i,l,j,hi,hr,qC⟩
    ·exact Or.inl ((fS hm).2 (Or.inr (Or.inr (Or.inl ⟨rfl,h⟩))))
    ·rcases Sh hm ih.sub MX ih.closed l b j hb hr qC with h|⟨c,r,h1,h2,h3⟩
     ·exact Or.inl ((fS hm).2 (Or.inr (Or.inl ⟨rfl,h⟩)))
     ·exact Or.inr (Or.inl ⟨c,r,j,(fS hm).2 (Or.inl h1),h2,h3⟩)
    ·by_cases hi1:i=q+1
     ·subst hi1;exact Or.inr (Or.inl ⟨60,l,j,(fS hm).2 (Or.inr (Or.inr (Or.inr rfl))),hr,qC⟩)
     ·exact Or.inr (Or.inr ⟨i,l,j,by omega,hr,qC⟩)
theorem V4:kU m t=true↔xG P ns fold t:=by
 have inv:=YX (t:=t) hm t.size (Nat.le_refl _);have iS:=hm.fit.room;unfold kU;rw[yK hm];constructor
 ·rintro⟨b,hb,h|h⟩
  ·exact DV hm inv.sub (X:=xG P ns fold t) (fun b l j h1 h2 h3=>inv.sound b l j h1 h2 h3) b hb [] t.size (A8 hm h) ⟨rfl,Nat.le_refl _⟩
  ·subst h;have h1:=fM (m:=m) (S:=jV m t t.size) (free:=iV m (t.size==0)) (Q:=fun b=>b<P.count\/b=60\/(b=61/\(jV m t t.size).getLsbD 61=true))
    (fun b h=>by
      rcases inv.sub b h with h1|h1|h1
      ·exact Or.inl h1
      ·exact Or.inr (Or.inl h1)
      ·subst h1;exact Or.inr (Or.inr ⟨rfl,h⟩)) (fun _ _ b _ h2=>Or.inl (we hm h2)) 60 61 hb
   rcases h1 with h1|h1|h1
   ·omega
   ·omega
   ·exact inv.found h1.2
 ·intro h;rcases inv.H5 h with h|⟨b,l,j,hb,hr,qC⟩|⟨i,l,j,hi,hr,qC⟩
  ·exact⟨61,rP h 60,Or.inr rfl⟩
  ·obtain⟨s,h1,h2⟩:=sX hm inv.sub l b (rP hb 60) hr ⟨_,qC⟩;exact⟨s,h1,Or.inl h2⟩
  ·have:=qC.le;omega
end
def V5(m:MP):Prop:=∀s,61<=s->m.next s=0#64
def xH(A B:aZ):Prop:=∃s,A.getLsbD s=true/\B.getLsbD s=true
theorem xI{b:Nat}:mS.getLsbD b=true↔b=62:=by
 have e:mS=1#64 <<< 62:=by decide
 rw[e];exact qa (by decide)
theorem H6{A B:aZ}:(!decide (A&&&B=0#64))=true↔xH A B:=by
 rw[Bool.not_eq_true',decide_eq_false_iff_not,rT];exact Classical.not_not
theorem H7{A B:aZ}:A&&&B=0#64↔¬xH A B:=rT
theorem yL{m:MP}{S S':aZ}(hz:V5 m)(h:∀b,b<61->(S'.getLsbD b=true↔S.getLsbD b=true)):bo m S' 63=cI m S:=by
 apply BitVec.eq_of_getLsbD_eq;intro b hb;rw[Bool.eq_iff_iff];unfold cI;rw[fh,fh];constructor
 ·rintro⟨s,h1,h2,h3⟩;have hs:s<61:=by
   apply Classical.byContradiction;intro hc;rw[hz s (by omega)]at h3;simp at h3
  exact⟨s,hs,(h s hs).1 h2,h3⟩
 ·rintro⟨s,h1,h2,h3⟩;exact⟨s,by omega,(h s h1).2 h2,h3⟩
theorem pf(m:MP)(tk S:aZ):∀q,q<=63->∀b,(gf m tk S q).getLsbD b=true↔b<q/\∃i,(m.next b).getLsbD i=true/\tk.getLsbD i=true/\S.getLsbD i=true
 | 0,_,b=>by simp[gf]
 | q+1,hq,b=>by
   have ih:=pf m tk S q (by omega) b;have key:m.next q&&&tk&&&S=0#64↔¬ ∃i,(m.next q).getLsbD i=true/\tk.getLsbD i=true/\S.getLsbD i=true:=by
    rw[rT];simp only[dp,Bool.and_eq_true,and_assoc]
   rw[gf];by_cases hz:m.next q&&&tk&&&S=0#64
   ·rw[if_pos hz,ih];constructor
    ·rintro⟨h1,h2⟩;exact⟨by omega,h2⟩
    ·rintro⟨h1,h2⟩;by_cases hb:b=q
     ·subst hb;exact absurd h2 (key.1 hz)
     ·exact⟨by omega,h2⟩
   ·rw[if_neg hz,bD,Bool.or_eq_true,ih,qa (by omega)];constructor
    ·rintro(⟨h1,h2⟩|h1)
     ·exact⟨by omega,h2⟩
     ·subst h1;exact⟨by omega,Classical.byContradiction fun hc=>hz (key.2 hc)⟩
    ·rintro⟨h1,h2⟩;by_cases hb:b=q
     ·exact Or.inr hb
     ·exact Or.inl ⟨by omega,h2⟩
section
variable {m:MP}{free S X:aZ}
theorem O8(hz:V5 m):xH (S|||(cI m S&&&free)) X↔xH S (X|||fK m free X):=by
 unfold xH fK;constructor
 ·rintro⟨b,h1,h2⟩;rw[bD,dp,Bool.or_eq_true,Bool.and_eq_true]at h1;rcases h1 with h1|⟨h1,h3⟩
  ·exact⟨b,h1,by rw[bD,h2];rfl⟩
  ·unfold cI at h1;obtain⟨s,h4,h5,h6⟩:=(fh m S 61 b).1 h1;exact⟨s,h5,by rw[bD,Bool.or_eq_true];exact Or.inr ((pf m free X 63 (by omega) s).2 ⟨by omega,b,h6,h3,h2⟩)⟩
 ·rintro⟨s,h1,h2⟩;rw[bD,Bool.or_eq_true]at h2;rcases h2 with h2|h2
  ·exact⟨s,by rw[bD,h1];rfl,h2⟩
  ·obtain⟨h3,i,h4,h5,h6⟩:=(pf m free X 63 (by omega) s).1 h2;have hs:s<61:=by
    apply Classical.byContradiction;intro hc;rw[hz s (by omega)]at h4;simp at h4
   refine⟨i,?_,h6⟩;rw[bD,dp,Bool.or_eq_true,Bool.and_eq_true];exact Or.inr ⟨(fh m S 61 i).2 ⟨s,hs,h1,h4⟩,h5⟩
theorem wg:∀k,bG m free (X|||fK m free X) k=bG m free X (k+1)
 | 0=>rfl
 | k+1=>by
   show bG m free (X|||fK m free X) k|||fK m free (bG m free (X|||fK m free X) k)=_
   rw[wg k];rfl
theorem Ba(hz:V5 m):∀(k:Nat) (X:aZ),xH (bE m free S k) X↔xH S (bG m free X k)
 | 0,X=>Iff.rfl
 | k+1,X=>by
   show xH (bE m free S k|||(cI m (bE m free S k)&&&free)) X↔_
   rw[O8 hz,Ba hz k,wg]
theorem KR(hz:V5 m)(e:Bool):rK m S e=true↔xH S (bA m (iV m e)):=by
 unfold rK;rw[H6];exact Ba hz 60 _
theorem xJ{Xw:aZ}(h:∀b,free.getLsbD b=true->Xw.getLsbD b=true):∀q b,(bG m free X q).getLsbD b=true->(bG m Xw X q).getLsbD b=true
 | 0,b,hb=>hb
 | q+1,b,hb=>by
   rw[bG,bD,Bool.or_eq_true]at hb ⊢;rcases hb with hb|hb
   ·exact Or.inl (xJ h q b hb)
   ·unfold fK at hb ⊢;obtain⟨h1,i,h2,h3,h4⟩:=(pf _ _ _ 63 (by omega) b).1 hb;exact Or.inr ((pf _ _ _ 63 (by omega) b).2 ⟨h1,i,h2,h _ h3,xJ h q i h4⟩)
theorem DW(hz:V5 m)(hX:X.getLsbD 62=false):∀q,(bG m free X q).getLsbD 62=false
 | 0=>hX
 | q+1=>by
   rw[bG,bD,DW hz hX q,Bool.false_or];cases h:(fK m free (bG m free X q)).getLsbD 62 with
   | false=>rfl
   | true=>
     unfold fK at h;obtain⟨_,i,h2,_⟩:=(pf _ _ _ 63 (by omega) 62).1 h;rw[hz 62 (by omega)]at h2;simp at h2
theorem KS(hz:V5 m):∀q,jW m q=bE m m.aE cq q|||mS
 | 0=>rfl
 | q+1=>by
   have e:bo m (jW m q) 63=cI m (bE m m.aE cq q):=yL hz fun b hb=>by
    rw[KS hz q,bD,Bool.or_eq_true,xI];constructor
    ·rintro(h|h)
     ·exact h
     ·omega
    ·exact Or.inl
   show jW m q|||(bo m (jW m q) 63&&&m.aE)=(bE m m.aE cq q|||(cI m (bE m m.aE cq q)&&&m.aE))|||mS
   rw[e,KS hz q,BitVec.or_assoc,BitVec.or_assoc,BitVec.or_comm mS]
end
section
variable {m:MP}{ns:List AN}{P:GP}{fold whole:Bool}{t:ByteArray}
theorem rU{s b:Nat}(hs:s<63):((vC (lU m)).next s).getLsbD b=true↔(m.next s).getLsbD b=true\/(s=60/\b=60)\/(b=61/\(m.last.getLsbD s=true\/s=61)):=by
 have e:(vC (lU m)).next s=if s<63/\(m.last.getLsbD s=true\/s=61) then (if s=60 then m.next s|||cq else m.next s)|||cX else if s=60 then m.next s|||cq else m.next s:=rfl
 have e1:(if s=60 then m.next s|||cq else m.next s).getLsbD b=true↔(m.next s).getLsbD b=true\/(s=60/\b=60):=by
  by_cases h:s=60
  ·rw[if_pos h,bD,Bool.or_eq_true,jX];simp[h]
  ·rw[if_neg h];simp[h]
 rw[e];by_cases h:m.last.getLsbD s=true\/s=61
 ·rw[if_pos ⟨hs,h⟩,bD,Bool.or_eq_true,e1,my,or_assoc];simp only[h,and_true]
 ·rw[if_neg (fun hc=>h hc.2),e1];simp only[h,and_false,or_false]
theorem O9{c b:Nat}(hc:c<256):((vC (lU m)).bn c).getLsbD b=true↔(m.bn c).getLsbD b=true\/b=60\/b=61:=by
 have e:(vC (lU m)).bn c=if c<256 then m.bn c|||(cq|||cX) else m.bn c:=rfl
 rw[e,if_pos hc,bD,bD,Bool.or_eq_true,Bool.or_eq_true,jX,my]
theorem DX(hm:MF m ns P fold whole):m.last.getLsbD 62=false:=by
 cases h:m.last.getLsbD 62 with
 | false=>rfl
 | true=>
   have hr:=hm.fit.room;rcases (hm.last 62).1 h with h|h
   ·have:=hm.fit.last _ h;omega
   ·omega
theorem Si(hm:MF m ns P fold false):∀q,q<=t.size->(jV m t q).getLsbD 60=true
 | 0,_=>(rS (t:=t) hm).2.1
 | q+1,hq=>by
   rw[jV,dif_pos (by omega:q<t.size)];exact(fS hm).2 (Or.inr (Or.inr (Or.inr rfl)))
theorem MY(hm:MF m ns P fold whole)(q:Nat)(hq:q<=t.size):Sub P (jV m t q):=by
 cases whole with
 | true=>exact fun b h=>((YW (t:=t) hm q hq).sub b h).elim Or.inl (fun h=>Or.inr (Or.inl h))
 | false=>exact(YX (t:=t) hm q hq).sub
theorem H8(hm:MF m ns P fold whole)(hz:V5 m):∀q,q<=t.size->∀b,(xA (iO m) t q).getLsbD b=true↔(jV m t q).getLsbD b=true\/(b=62/\q=0)
 | 0,_,b=>by
   have e0:xA (iO m) t 0=jW m 60:=by
    show(iO m).cL=_;unfold iO;split <;> rfl
   rw[e0];show(jW m 60).getLsbD b=true↔(bE m m.aE cq 60).getLsbD b=true\/_;rw[KS hz,bD,Bool.or_eq_true,xI];simp
 | q+1,hq,b=>by
   have ih:=H8 hm hz q (by omega);have MX:q<t.size:=by omega
   have hS:=MY (t:=t) hm q (by omega);have iS:=hm.fit.room;have hc:=t[q].toNat_lt;rw[xA,jV,dif_pos MX];simp only[Nat.add_eq_zero_iff,Nat.one_ne_zero,and_false,or_false];cases whole with
   | true=>
     have e1:iO m=lU m:=by unfold iO;rw[if_pos hm.whole]
     have e2:bo m (xA (iO m) t q) 63=cI m (jV m t q):=yL hz fun b hb=>by
      rw[ih b];constructor
      ·rintro(h|h)
       ·exact h
       ·omega
      ·exact Or.inl
     rw[show cn (iO m) ((iO m).bn t[q].toNat) (xA (iO m) t q)=cn m (m.bn t[q].toNat) (xA (iO m) t q) by rw[AG (m:=m) (by rw[e1];rfl),e1];rfl];unfold cn sU;rw[e2,if_pos hm.whole];exact Iff.rfl
   | false=>
     have e1:iO m=vC (lU m):=by unfold iO;rw[if_neg (by rw[hm.whole];decide)]
     have e2:(iO m).bn t[q].toNat=(vC (lU m)).bn t[q].toNat:=by rw[e1]
     have e3:∀s,(iO m).next s=(vC (lU m)).next s:=fun s=>by rw[e1]
     rw[fS hm];unfold cn;rw[dp,Bool.and_eq_true,fh,e2,O9 hc];simp only[e3];have kJ:=DX hm;constructor
     ·rintro⟨⟨s,h1,h2,h3⟩,h4⟩;rw[rU h1]at h3;have hs:(jV m t q).getLsbD s=true:=by
       rcases (ih s).1 h2 with h|⟨h,_⟩
       ·exact h
       ·subst h;exfalso;rcases h3 with h3|h3|h3
        ·rw[hz 62 (by omega)]at h3;simp at h3
        ·omega
        ·rcases h3.2 with h|h
         ·rw[kJ]at h;exact absurd h (by decide)
         ·omega
      rcases h3 with h3|h3|⟨h5,h3|h3⟩
      ·have hs61:s<61:=by
        apply Classical.byContradiction;intro hc;rw[hz s (by omega)]at h3;simp at h3
       have hf:(cI m (jV m t q)).getLsbD b=true:=(fh m _ 61 b).2 ⟨s,hs61,hs,h3⟩;obtain⟨s',_,hn⟩:=(j9 hm hS).1 hf;have hb:=hn.lt hm.fit;rcases h4 with h4|h4|h4
       ·refine Or.inl ?_;unfold mR;rw[dp,hf,h4];rfl
       ·omega
       ·omega
      ·exact Or.inr (Or.inr (Or.inr h3.2))
      ·exact Or.inr (Or.inl ⟨h5,s,hs,h3⟩)
      ·subst h3;exact Or.inr (Or.inr (Or.inl ⟨h5,hs⟩))
     ·rintro(h|⟨h1,s,h2,h3⟩|⟨h1,h2⟩|h)
      ·unfold mR at h;rw[dp,Bool.and_eq_true]at h;obtain⟨s,h1,h2,h3⟩:=(fh m _ 61 b).1 h.1;exact⟨⟨s,by omega,(ih s).2 (Or.inl h2),(rU (by omega)).2 (Or.inl h3)⟩,Or.inl h.2⟩
      ·have hs:s<63:=by
        rcases hS s h2 with h|h|h <;> omega
       exact⟨⟨s,hs,(ih s).2 (Or.inl h2),(rU hs).2 (Or.inr (Or.inr ⟨h1,Or.inl h3⟩))⟩,Or.inr (Or.inr h1)⟩
      ·exact⟨⟨61,by omega,(ih 61).2 (Or.inl h2),(rU (by omega)).2 (Or.inr (Or.inr ⟨h1,Or.inr rfl⟩))⟩,Or.inr (Or.inr h1)⟩
      ·subst h;exact⟨⟨60,by omega,(ih 60).2 (Or.inl (Si hm q (by omega))),(rU (by omega)).2 (Or.inr (Or.inl ⟨rfl,rfl⟩))⟩,Or.inr (Or.inl rfl)⟩
theorem Fm{b:Nat}:(enP m).getLsbD b=true↔(bA m m.ends).getLsbD b=true\/(b=62/\xH (rL m) (bA m (m.ends|||m.aE))):=by
 unfold enP;by_cases h:rL m&&&bA m (m.ends|||m.aE)=0#64
 ·rw[if_pos h];simp only[H7.1 h,and_false,or_false]
 ·rw[if_neg h,bD,Bool.or_eq_true,xI];have:xH (rL m) (bA m (m.ends|||m.aE)):=Classical.byContradiction fun hc=>h (H7.2 hc)
  simp only[this,and_true]
theorem KT(hm:MF m ns P fold whole):(m.last|||cX).getLsbD 62=false:=by
 rw[bD,DX hm];decide
theorem Fo(hm:MF m ns P fold whole)(hz:V5 m):rM (iO m) t=kU m t:=by
 rw[Bool.eq_iff_iff];have e0:(iO m).en=enP m:=by unfold iO;split <;> rfl
 unfold rM kU;rw[H6,KR hz,e0];have hS:=MY (t:=t) hm t.size (Nat.le_refl _);have iS:=hm.fit.room;have zr:=H8 (t:=t) hm hz t.size (Nat.le_refl _);have no62:∀free,(bA m free).getLsbD 62=false:=fun free=>DW hz (KT hm) 60;by_cases hn:t.size=0
 ·have e:(t.size==0)=true:=by rw[hn];rfl
  have ef:iV m true=m.ends|||m.aE:=rfl
  rw[e,ef];have hb:∀b,(rL m).getLsbD b=true↔(jV m t t.size).getLsbD b=true\/b=62:=fun b=>by
   have:=zr b;rw[hn]at this ⊢;have hbeg:xA (iO m) t 0=rL m:=by
    show(iO m).cL=_;unfold iO;split <;> rfl
   rw[hbeg]at this;rw[this];simp
  have key:xH (rL m) (bA m (m.ends|||m.aE))↔xH (jV m t t.size) (bA m (m.ends|||m.aE)):=by
   constructor
   ·rintro⟨s,h1,h2⟩;rcases (hb s).1 h1 with h|h
    ·exact⟨s,h,h2⟩
    ·subst h;rw[no62]at h2;exact absurd h2 (by decide)
   ·rintro⟨s,h1,h2⟩;exact⟨s,(hb s).2 (Or.inl h1),h2⟩
  constructor
  ·rintro⟨s,h1,h2⟩;rcases Fm.1 h2 with h|h
   ·rcases (zr s).1 h1 with h3|h3
    ·exact⟨s,h3,xJ (fun b h=>by rw[bD,h];rfl) 60 s h⟩
    ·rw[h3.1,no62]at h;exact absurd h (by decide)
   ·exact key.1 h.2
  ·intro h;exact⟨62,(zr 62).2 (Or.inr ⟨rfl,hn⟩),Fm.2 (Or.inr ⟨rfl,key.2 h⟩)⟩
 ·have e:(t.size==0)=false:=by simp[hn]
  have ef:iV m false=m.ends:=rfl;rw[e,ef];constructor
  ·rintro⟨s,h1,h2⟩;have h3:(jV m t t.size).getLsbD s=true:=by
    rcases (zr s).1 h1 with h|h
    ·exact h
    ·exact absurd h.2 hn
   rcases Fm.1 h2 with h|h
   ·exact⟨s,h3,h⟩
   ·rcases hS s h3 with h4|h4|h4 <;> omega
  ·rintro⟨s,h1,h2⟩;exact⟨s,(zr s).2 (Or.inl h1),Fm.2 (Or.inl h2)⟩
theorem H9(ns:List AN)(P:GP)(fold whole:Bool):∀q,q<=60->V5 (bf ns P fold whole q)
 | 0,_,s,hs=>by
   show(if s=60 then P.first else 0#64)=0#64;rw[if_neg (by omega)]
 | q+1,hq,s,hs=>by
   have ih:=H9 ns P fold whole q (by omega) s hs;have e:(dL (bf ns P fold whole q) q (P.next q)).next s=0#64:=by
    show(if s=q then P.next q else (bf ns P fold whole q).next s)=0#64;rw[if_neg (by omega)];exact ih
   rw[bf];cases ns[P.node q]? with
   | none=>exact e
   | some n=>
     show(fg _ _ n fold).next s=0#64;unfold fg dx;repeat' split
     all_goals exact e
end
end Go.Proofs.YtgifhgnccmnbiabGreatDoor
namespace Go.Proofs.YtgifhgnccmnbiabGreatDoor
open Go.RowKit Go.IntWalk
def zv(t:ByteArray)(e:Int):Prop:=
 (40<t.size/\e=3)\/(t.size<=40/\∃r:Nat×PS,Ev t 0 0 Oi r/\((vq t r/\e=2)\/(¬vq t r/\60<au r.2.2 r.1/\e=3)))
structure iy (t:ByteArray)(r:Nat×PS):Prop where
 small:t.size<=40
 ev:Ev t 0 0 Oi r
 ej:¬vq t r
 size:au r.2.2 r.1<=60
theorem O'(t:ByteArray):(∃e,zv t e)\/∃r,iy t r:=by
 by_cases h:40<t.size
 ·exact Or.inl ⟨3,Or.inl ⟨h,rfl⟩⟩
 ·obtain⟨r,d,_⟩:=(sL (t:=t) (t.size+1) Oi (Nat.zero_le _) (by omega)).1 0;have ev:Ev t 0 0 Oi r:=d.ev;by_cases hb:vq t r
  ·exact Or.inl ⟨2,Or.inr ⟨by omega,r,ev,Or.inl ⟨hb,rfl⟩⟩⟩
  ·by_cases hs:60<au r.2.2 r.1
   ·exact Or.inl ⟨3,Or.inr ⟨by omega,r,ev,Or.inr ⟨hb,hs,rfl⟩⟩⟩
   ·exact Or.inr ⟨r,by omega,ev,hb,by omega⟩
theorem zv.ne{t:ByteArray}{e:Int}(h:zv t e):e=2\/e=3:=by
 rcases h with⟨_,rfl⟩|⟨_,r,_,⟨_,rfl⟩|⟨_,_,rfl⟩⟩
 ·exact Or.inr rfl
 ·exact Or.inl rfl
 ·exact Or.inr rfl
theorem zv.one{t:ByteArray}{e e':Int}(h:zv t e)(h':zv t e'):e=e':=by
 rcases h with⟨a,rfl⟩|⟨a,r,ev,hc⟩ <;> rcases h' with⟨b,rfl⟩|⟨b,r',ev',hc'⟩
 ·rfl
 ·omega
 ·omega
 ·have:=ev.one ev';subst this;rcases hc with⟨h1,rfl⟩|⟨h1,h2,rfl⟩ <;> rcases hc' with⟨h3,rfl⟩|⟨h3,h4,rfl⟩
  ·rfl
  ·exact absurd h1 h3
  ·exact absurd h3 h1
  ·rfl
theorem iy.not{t:ByteArray}{e:Int}{r:Nat×PS}(h:iy t r)(h':zv t e):False:=by
 have:=h.small;rcases h' with⟨b,rfl⟩|⟨b,r',ev',hc'⟩
 ·omega
 ·have:=h.ev.one ev';subst this;rcases hc' with⟨h3,_⟩|⟨h3,h4,_⟩
  ·exact h.ej h3
  ·have:=h.size;omega
theorem iy.okay{t:ByteArray}{r:Nat×PS}(h:iy t r):Okay t r:=MM h.small h.ev h.size
def KU(r:Nat×PS)(fold whole:Bool)(l:ByteArray):Bool:=kU (iP r.2.2 (gE r.2.2 r.2.2.length) fold whole) l
theorem xK{t:ByteArray}{r:Nat×PS}(h:iy t r):gE r.2.2 r.2.2.length=dM r.2.2 r.1/\zG r.2.2 r.1:=by
 have o:=h.okay;have htop:=o.top;exact⟨by rw[<-o.top];rfl,vL o.ok o.all o.len (r.1+1) r.1 (by omega) (by omega)⟩
theorem Sj:VT:=fun t r ht ev hb hs fold whole l=>by
 obtain⟨e,p⟩:=xK ⟨ht,ev,hb,hs⟩;rw[e];exact Fo (R0 r.2.2 _ p.fit fold whole) (H9 r.2.2 _ fold whole _ p.fit.room)
theorem Pa{t:ByteArray}{r:Nat×PS}(h:iy t r)(fold:Bool)(l:ByteArray):KU r fold true l=true↔uT r.2.2 fold l r.1 0 l.size:=by
 obtain⟨e,p⟩:=xK h;unfold KU;rw[e,O4 (R0 r.2.2 _ p.fit fold true)];constructor
 ·rintro⟨u,h1,h2⟩;exact⟨_,(p.zp _).1 ⟨u,(wb p.fit).1 h1,rfl⟩,h2⟩
 ·rintro⟨u,h1,h2⟩;obtain⟨v,h3,rfl⟩:=(p.zp _).2 h1;exact⟨v,(wb p.fit).2 h3,h2⟩
theorem V6{t:ByteArray}{r:Nat×PS}(h:iy t r)(fold:Bool)(l:ByteArray):KU r fold false l=true↔∃i j,uT r.2.2 fold l r.1 i j:=by
 obtain⟨e,p⟩:=xK h;unfold KU;rw[e,V4 (R0 r.2.2 _ p.fit fold false)];constructor
 ·rintro⟨i,j,u,h1,h2⟩;exact⟨i,j,_,(p.zp _).1 ⟨u,(wb p.fit).1 h1,rfl⟩,h2⟩
 ·rintro⟨i,j,u,h1,h2⟩;obtain⟨v,h3,rfl⟩:=(p.zp _).2 h1;exact⟨i,j,v,(wb p.fit).2 h3,h2⟩
theorem Sk{t l:ByteArray}{r:Nat×PS}(h:iy t r){fold whole y:Bool}{q:Nat×RP}(hq:db t 0 [] CJ q)(hs:Xu whole l.size (j6 q.2.2 fold l q.1) y):y=KU r fold whole l:=by
 obtain⟨s1,s2,hw,s4⟩:=nc h.small h.ev hq;have CK:¬vn t q:=fun hc=>h.ej (s1.2 hc);have same:=(s4 CK).iff [] [] (by rw[List.append_nil];exact hw) fold l;simp only[List.append_nil]at same;rw[Bool.eq_iff_iff];cases whole with
 | true=>rw[hs.all rfl,Pa h];exact same 0 l.size (by omega) (Nat.le_refl _)
 | false=>
   rw[hs.part rfl,V6 h];constructor
   ·rintro⟨a,b,h1,h2,h3⟩;exact⟨a,b,(same a b (by omega) h2).1 h3⟩
   ·rintro⟨a,b,h3⟩;have hb:=h3.le;exact⟨a,b,hb.2.2,hb.2.1,(same a b hb.1 hb.2.1).2 h3⟩
theorem V7{t:ByteArray}(ht:t.size<=40):∀q,db t 0 [] CJ q->¬vn t q->dq q.2.2 q.1:=fun q hq hb=>by
 obtain⟨r,d,_⟩:=(sL (t:=t) (t.size+1) Oi (Nat.zero_le _) (by omega)).1 0;exact((nc ht d.ev hq).2.2.2 hb).ej
end Go.Proofs.YtgifhgnccmnbiabGreatDoor
namespace Go.Proofs.YtgifhgnccmnbiabGreatDoor
def fT(n:Nat):Nat:=if 1099511627777<n then 1099511627777 else n
theorem iL(n:Nat):fT n<=1099511627777:=by unfold fT;split <;> omega
theorem kb(n:Nat):(n<=1099511627777/\fT n=n)\/(1099511627777<n/\fT n=1099511627777):=by
 unfold fT;by_cases h:1099511627777<n
 ·rw[if_pos h];exact Or.inr ⟨h,rfl⟩
 ·rw[if_neg h];exact Or.inl ⟨by omega,rfl⟩
theorem ld(a b:Nat):fT (fT a+fT b)=fT (a+b):=by
 have h1:=kb a;have h2:=kb b;have h3:=kb (a+b);have h4:=kb (fT a+fT b);omega
theorem pg{n:Nat}:fT n=0↔n=0:=by unfold fT;split <;> omega
theorem ux{n:Nat}(h:fT n<=1099511627776):fT n=n:=by unfold fT at h ⊢;split at h <;> (split <;> omega)
theorem jx{n:Nat}(h:n<=1099511627777):fT n=n:=by unfold fT;rw[if_neg (by omega)]
structure PT where
 len:Nat:=0
 nl:Nat:=0
 first:Nat:=0
 last:Nat:=0
deriving DecidableEq
def oL(t:List Nat):Nat:=(t.filter (·==10)).length
def ik(t:List Nat):PT:=if t=[] then {} else { len:=fT t.length,nl:=fT (oL t),first:=t.headD 0,last:=t.getLastD 0}
def jy(a b:PT):PT:=if a.len=0 then b else if b.len=0 then a else { len:=fT (a.len+b.len),nl:=fT (a.nl+b.nl),first:=a.first,last:=b.last}
def tW(c:Nat):PT:={len:=1,nl:=if c=10 then 1 else 0,first:=c,last:=c}
theorem Fp(a b:List Nat):oL (a++b)=oL a+oL b:=by simp[oL,List.filter_append]
theorem Sl(t:List Nat):oL t<=t.length:=List.length_filter_le _ _
theorem gR(t:List Nat):(ik t).len=fT t.length:=by
 unfold ik;split
 ·rename_i h;subst h;rfl
 ·rfl
theorem Fq(t:List Nat):(ik t).nl=fT (oL t):=by
 unfold ik;split
 ·rename_i h;subst h;rfl
 ·rfl
theorem H'(c:Nat):ik [c]=tW c:=by
 unfold ik tW oL;rw[if_neg (by simp)];by_cases h:c=10
 ·subst h;rfl
 ·simp[h,fT]
theorem xL(a b:List Nat):jy (ik a) (ik b)=ik (a++b):=by
 unfold jy;by_cases ha:a=[]
 ·subst ha;rw[if_pos (show(ik []).len=0 from rfl)];rfl
 ·have h1:(ik a).len≠0:=by rw[gR,Ne,pg];intro h;exact ha (List.eq_nil_of_length_eq_zero h)
  rw[if_neg h1];by_cases hb:b=[]
  ·subst hb;rw[if_pos (show(ik []).len=0 from rfl),List.append_nil]
  ·have h2:(ik b).len≠0:=by rw[gR,Ne,pg];intro h;exact hb (List.eq_nil_of_length_eq_zero h)
   rw[if_neg h2,gR,gR,Fq,Fq,ld,ld];unfold ik;rw[if_neg ha,if_neg hb,if_neg (by simp[ha])];simp only[PT.mk.injEq];refine⟨by rw[List.length_append],by rw[Fp],?_,?_⟩
   ·cases a with
    | nil=>exact absurd rfl ha
    | cons x l=>rfl
   ·cases b with
    | nil=>exact absurd rfl hb
    | cons x l=>rw[List.getLastD_eq_getLast?,List.getLastD_eq_getLast?,List.getLast?_append];rw[List.getLast?_eq_some_getLast (by simp)];rfl
structure RU where
 l:Nat
 r:Nat
 pt:PT
def partAt(rs:List RU)(s:Nat):PT:=if s<256 then tW s else ((rs[s-256]?).map RU.pt).getD {}
def yM(rs:List RU)(l r:Nat):RU:={l:=l,r:=r,pt:=jy (partAt rs l) (partAt rs r)}
def af(T:List (List Nat))(s:Nat):List Nat:=if s<256 then [s] else T.getD (s-256) []
theorem gT{T U:List (List Nat)}{s:Nat}(h:s<256+T.length):af (T++U) s=af T s:=by
 unfold af;split
 ·rfl
 ·simp only[List.getD];rw[List.getElem?_append_left (by omega)]
theorem Sm{T:List (List Nat)}{x:List Nat}:af (T++[x]) (256+T.length)=x:=by
 unfold af;rw[if_neg (by omega),Nat.add_sub_cancel_left];simp[List.getD]
structure Sound (rs:List RU)(T:List (List Nat)):Prop where
 len:rs.length=T.length
 uy:∀i x,rs[i]?=some x->x.l<256+i/\x.r<256+i/\T.getD i []=af T x.l++af T x.r/\x.pt=ik (T.getD i [])
 full:∀i,i<T.length->T.getD i []≠[]
theorem Sound.nil:Sound [] []:=⟨rfl,fun i x h=>by simp at h,fun i h=>by simp at h⟩
theorem Sound.part{rs:List RU}{T:List (List Nat)}(h:Sound rs T){s:Nat}(hs:s<256+rs.length):partAt rs s=ik (af T s):=by
 unfold partAt af;by_cases h1:s<256
 ·rw[if_pos h1,if_pos h1,H']
 ·rw[if_neg h1,if_neg h1];obtain⟨x,hx⟩:∃x,rs[s-256]?=some x:=⟨_,List.getElem?_eq_getElem (by omega)⟩;rw[hx];exact(h.uy _ _ hx).2.2.2
theorem Sound.ne{rs:List RU}{T:List (List Nat)}(h:Sound rs T){s:Nat}(hs:s<256+rs.length):af T s≠[]:=by
 unfold af;split
 ·simp
 ·exact h.full _ (by rw[<-h.len];omega)
theorem Sound.push{rs:List RU}{T:List (List Nat)}(h:Sound rs T){l r:Nat}(hl:l<256+rs.length)(hr:r<256+rs.length):
 Sound (rs++[yM rs l r]) (T++[af T l++af T r]):=by
 have hlen:=h.len;refine⟨by simp[hlen],fun i x hx=>?_,fun i hi=>?_⟩
 ·by_cases hi:i<rs.length
  ·rw[List.getElem?_append_left hi]at hx;obtain⟨a,b,c,d⟩:=h.uy i x hx;have e:(T++[af T l++af T r]).getD i []=T.getD i []:=by simp only[List.getD];rw[List.getElem?_append_left (by omega)]
   rw[e,gT (by omega),gT (by omega)];exact⟨a,b,c,d⟩
  ·have CI:i=rs.length:=by
    have:=(List.getElem?_eq_some_iff.1 hx).1;simp at this;omega
   subst CI;rw[List.getElem?_append_right (Nat.le_refl _),Nat.sub_self]at hx;simp at hx;subst hx;have e:(T++[af T l++af T r]).getD rs.length []=af T l++af T r:=by rw[hlen];simp[List.getD]
   rw[e];simp only[yM];rw[gT (by omega),gT (by omega)];exact⟨hl,hr,rfl,by rw[h.part hl,h.part hr,xL]⟩
 ·simp at hi;by_cases CI:i<T.length
  ·have e:(T++[af T l++af T r]).getD i []=T.getD i []:=by simp only[List.getD];rw[List.getElem?_append_left CI]
   rw[e];exact h.full i CI
  ·have:i=T.length:=by omega
   subst this;have e:(T++[af T l++af T r]).getD T.length []=af T l++af T r:=by simp[List.getD]
   rw[e];simp[h.ne hl]
structure PI where
 aV:Nat:=0
 ends:Nat:=0
 tail:Nat:=0
def lf(t:List Nat):Nat:=(t.reverse.takeWhile (· != 10)).length
theorem Ia(t:List Nat):lf t<=t.length:=by
 unfold lf;have h:=(List.takeWhile_sublist (l:=t.reverse) (· != 10)).length_le;simpa using h
theorem CX{l:List Nat}(h:oL l=0):l.takeWhile (· != 10)=l:=by
 induction l with
 | nil=>rfl
 | cons x l ih=>
   unfold oL at h ih;by_cases hx:x=10
   ·subst hx;simp at h
   ·rw[List.takeWhile_cons_of_pos (by simpa using hx),ih (by simpa [hx] using h)]
theorem MZ(l:List Nat):oL l.reverse=oL l:=by unfold oL;rw[List.filter_reverse,List.length_reverse]
theorem uz{l m:List Nat}(h:oL l≠0):(l++m).takeWhile (· != 10)=l.takeWhile (· != 10):=by
 induction l with
 | nil=>exact absurd rfl h
 | cons x l ih=>
   by_cases hx:x=10
   ·subst hx;simp
   ·rw[List.cons_append,List.takeWhile_cons_of_pos (by simpa using hx),List.takeWhile_cons_of_pos (by simpa using hx),ih (by unfold oL at h ⊢;simpa [hx] using h)]
theorem DY(a b:List Nat):lf (a++b)=if oL b=0 then lf a+b.length else lf b:=by
 unfold lf;rw[List.reverse_append];split
 ·rename_i h
  rw[List.takeWhile_append_of_pos (by
   intro x hx;have:b.reverse.takeWhile (· != 10)=b.reverse:=CX (by rw[MZ];exact h);rw[<-this]at hx;have h2:=List.all_takeWhile (p:=(· != 10)) (l:=b.reverse);rw[List.all_eq_true]at h2;exact h2 x hx)]
  simp;omega
 ·rename_i h
  rw[uz (by rw[MZ];exact h)]
def aq(t:List Nat):PI:={aV:=fT t.length,ends:=fT (oL t),tail:=fT (lf t)}
def cU(a b:Nat):Nat:=if 1099511627776<a+b then 1099511627777 else a+b
theorem nU(a b:Nat):cU a b=fT (a+b):=by
 have h1:=kb (a+b);unfold cU;by_cases h:1099511627776<a+b
 ·rw[if_pos h];omega
 ·rw[if_neg h];omega
def fu(a b:PI):PI:={aV:=cU a.aV b.aV,ends:=cU a.ends b.ends,tail:=if b.ends=0 then cU a.tail b.aV else b.tail}
theorem rV(a b:List Nat):fu (aq a) (aq b)=aq (a++b):=by
 unfold fu aq;simp only[PI.mk.injEq];rw[nU,nU,nU,ld,ld,ld,List.length_append,Fp,DY];refine⟨rfl,rfl,?_⟩;by_cases h:oL b=0
 ·rw[if_pos (pg.2 h),if_pos h]
 ·rw[if_neg (fun hc=>h (pg.1 hc)),if_neg h]
def fm(ps:List PI)(s:Nat):PI:=if s=10 then { aV:=1,ends:=1} else if s<256 then { aV:=1,tail:=1} else ps.getD (s-256) {}
theorem Ib(c:Nat):(if c=10 then ({aV:=1,ends:=1}:PI) else { aV:=1,tail:=1})=aq [c]:=by
 unfold aq;by_cases h:c=10
 ·subst h;rfl
 ·rw[if_neg h];simp[oL,lf,h,fT]
end Go.Proofs.YtgifhgnccmnbiabGreatDoor
namespace Go.Proofs.YtgifhgnccmnbiabGreatDoor
open Go.RowKit Go.IntWalk
def PT.arr(p:PT):Array Value:=#[.int .i64 p.len,.int .i64 p.nl,.int .i64 p.first,.int .i64 p.last]
def PT.val(p:PT):Value:=.agg p.arr
structure ez (p:PT):Prop where
 len:p.len<=1099511627777
 nl:p.nl<=1099511627777
theorem KV(t:List Nat):ez (ik t):=⟨by rw[gR];exact iL _,by rw[Fq];exact iL _⟩
theorem Ic(c:Nat):ez (tW c):=by rw[<-H'];exact KV _
theorem yN{a b:PT}(ha:ez a)(hb:ez b):ez (jy a b):=by
 unfold jy;split
 ·exact hb
 ·split
  ·exact ha
  ·exact⟨iL _,iL _⟩
theorem yO(n:Nat)(hn:n<=3000000000000)(w:World):Calls Tryz.prog 194 #[.int .i64 (n:Int)] w fun e w'=>e=.returned (.int .i64 (fT n:Int))/\w'=w:=by
 unfold fT;by_cases h:(1099511627777:Int)<(n:Int)
 ·rw[if_pos (by omega)];go_enter Tryz.func194,Tryz.ntmps194
  go_wp2
  go_ret;exact⟨rfl,rfl⟩
 ·rw[if_neg (by omega)];go_enter Tryz.func194,Tryz.ntmps194
  go_wp2
  go_ret;exact⟨rfl,rfl⟩
theorem rW(c:Nat)(w:World):Calls Tryz.prog 184 #[.int .i64 (c:Int)] w fun e w'=>e=.returned (tW c).val/\Kept [] w w':=by
 have hk:Hid (∀o1 o2,Kept [] w ((w.alloc o1).alloc o2)):=fun o1 o2=>((Kept.refl [] w).alloc _).alloc _;unfold tW PT.val PT.arr;by_cases h:(c:Int)=10
 ·rw[if_pos (by omega)];have hc:c=10:=by omega
  subst hc;clear h;go_enter Tryz.func184,Tryz.ntmps184
  go_wp2
  refine bodyPost_ret (v:=.agg #[.int .i64 1,.int .i64 1,.int .i64 10,.int .i64 10]) (by simp[results,Tryz.results184,go_sem]) rfl ⟨rfl,hk.out _ _⟩
 ·rw[if_neg (by omega)];have hb:((c:Int)==10)=false:=beq_eq_false_iff_ne.2 h;go_enter Tryz.func184,Tryz.ntmps184
  go_wp2
  refine bodyPost_ret (v:=.agg #[.int .i64 1,.int .i64 0,.int .i64 c,.int .i64 c]) (by simp[results,Tryz.results184,go_sem]) rfl ⟨rfl,hk.out _ _⟩
theorem DZ(a b:PT)(ha:ez a)(hb:ez b)(w:World):Calls Tryz.prog 163 #[a.val,b.val] w fun e w'=>e=.returned (jy a b).val/\Kept [] w w':=by
 have hk:Hid (∀o1 o2 o3,Kept [] w (((w.alloc o1).alloc o2).alloc o3)):=fun o1 o2 o3=>(((Kept.refl [] w).alloc _).alloc _).alloc _;obtain⟨a1,a2,a3,a4⟩:=a;obtain⟨b1,b2,b3,b4⟩:=b;obtain⟨YY,ha2⟩:=ha;obtain⟨ck,jm⟩:=hb;simp only[]at YY ha2 ck jm;unfold jy PT.val PT.arr;simp only[];by_cases h1:a1=0
 ·subst h1;rw[if_pos rfl];go_enter Tryz.func163,Tryz.ntmps163
  go_wp2
  refine bodyPost_ret (v:=.agg #[.int .i64 b1,.int .i64 b2,.int .i64 b3,.int .i64 b4]) (by simp[results,Tryz.results163,go_sem]) rfl ⟨rfl,hk.out _ _ _⟩
 ·rw[if_neg h1];have e1:((a1:Int)==0)=false:=beq_eq_false_iff_ne.2 (by omega);by_cases h2:b1=0
  ·subst h2;rw[if_pos rfl];go_enter Tryz.func163,Tryz.ntmps163
   go_wp2
   refine bodyPost_ret (v:=.agg #[.int .i64 a1,.int .i64 a2,.int .i64 a3,.int .i64 a4]) (by simp[results,Tryz.results163,go_sem]) rfl ⟨rfl,hk.out _ _ _⟩
  ·rw[if_neg h2];have e2:((b1:Int)==0)=false:=beq_eq_false_iff_ne.2 (by omega);have g1:=fun w=>yO (a1+b1) (by omega) w;have g2:=fun w=>yO (a2+b2) (by omega) w;simp only[Int.natCast_add]at g1 g2;have g1:Hid (∀w,_):=g1;have g2:Hid (∀w,_):=g2;clear h1 h2;generalize fT (a1+b1)=L1 at *;generalize fT (a2+b2)=L2 at *;go_enter Tryz.func163,Tryz.ntmps163
   go_wp2_with fail
   refine(g1.out _).mono ?_;rintro e w1 ⟨rfl,rfl⟩;go_wp2_with fail
   refine(g2.out _).mono ?_;rintro e w1 ⟨rfl,rfl⟩;go_wp2
   refine bodyPost_ret (v:=.agg #[.int .i64 L1,.int .i64 L2,.int .i64 a3,.int .i64 b4]) (by simp[results,Tryz.results163,go_sem]) rfl ⟨rfl,hk.out _ _ _⟩
end Go.Proofs.YtgifhgnccmnbiabGreatDoor
