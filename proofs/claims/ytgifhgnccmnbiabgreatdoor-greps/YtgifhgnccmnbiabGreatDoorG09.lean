/- Part of the proof. -/
import Derived.Test.YtgifhgnccmnbiabGreatDoorG08
import Derived.Test.YtgifhgnccmnbiabGreatDoorG03
import Derived.Test.YtgifhgnccmnbiabGreatDoorG01
import Derived.Test.YtgifhgnccmnbiabGreatDoorG02
set_option linter.unusedVariables false
set_option linter.unusedSimpArgs false
set_option maxHeartbeats 4000000
set_option maxRecDepth 100000
namespace Go.Proofs.YtgifhgnccmnbiabGreatDoor
theorem D.fw{t:ByteArray}{tag cur:Nat}{st:PS}{r:Nat×PS}(h:D t tag cur st r):Fits t st.1->Fw t st r:=by
 induction h with
 | pattern _ _ a b=>intro hf;have f1:=a hf;have f2:=b f1.fit;exact⟨f2.fit,Nat.le_trans f1.ge f2.ge⟩
 | empty he=>intro hf;exact⟨hf,Nat.le_refl _⟩
 | branch he _ _ a b=>intro hf;have f1:=a hf;have f2:=b f1.fit;exact⟨f2.fit,Nat.le_trans f1.ge f2.ge⟩
 | piece _ _ a b=>intro hf;have f1:=a hf;have f2:=b f1.fit;exact⟨f2.fit,Nat.le_trans f1.ge f2.ge⟩
 | @group cur st r1 he _ a=>
   intro hf;have f1:=vo (a (bU hf));exact⟨f1.fit,Nat.le_trans (kD hf) f1.ge⟩
 | @list cur st he=>
   intro hf;have f1:=ER (t:=t) (st:=((aw t st.1).2,st.2)) (bU hf);exact⟨f1.fit,Nat.le_trans (kD hf) f1.ge⟩
 | @plain cur st h1 h2=>
   intro hf;have f1:=Aj (t:=t) (c:=(aw t st.1).1) (st:=((aw t st.1).2,st.2)) (bU hf);exact⟨f1.fit,Nat.le_trans (kD hf) f1.ge⟩
 | @or cur st r1 r he _ _ a b=>
   intro hf;have f1:=a (bh (by omega) hf);have f2:=b f1.fit;exact⟨f2.fit,Nat.le_trans (cr (t:=t) (c:=124) (s:=st.1)) (Nat.le_trans f1.ge f2.ge)⟩
 | oP he=>intro hf;exact⟨hf,Nat.le_refl _⟩
 | and he _ _ a b=>intro hf;have f1:=a hf;have f2:=b f1.fit;exact⟨f2.fit,Nat.le_trans f1.ge f2.ge⟩
 | mM he=>intro hf;exact⟨hf,Nat.le_refl _⟩
 | @rep cur st r he _ a=>
   intro hf;have f2:=a (kO hf);exact⟨f2.fit,Nat.le_trans (Nat.le_of_lt (sE (lQ he))) f2.ge⟩
 | gM he=>intro hf;exact⟨hf,Nat.le_refl _⟩
theorem OL(t:ByteArray)(r:Nat×PS):(dv t r).2.2=r.2.2:=by unfold dv;rfl
theorem OM(t:ByteArray)(c:Int)(st:PS):(de t c st).2.2.length=st.2.length+1:=by
 unfold de jR bL;repeat' split
 all_goals simp
theorem D.nodes{t:ByteArray}{tag cur:Nat}{st:PS}{r:Nat×PS}(h:D t tag cur st r):Fits t st.1->(tag=2\/tag=3->st.1.1<t.size) ->
 r.2.2.length+4*(t.size-r.2.1.1)+(if tag=2\/tag=3 then 3 else 0)<=st.2.length+4*(t.size-st.1.1)+(if tag=0\/tag=1 then 1 else 0):=by
 induction h with
 | pattern d1 _ a b=>
   intro hf _;have h1:=a hf (by omega);have h2:=b (d1.fw hf).fit (by omega);simp at h1 h2 ⊢;omega
 | empty he=>intro hf _;simp[bL];omega
 | branch he d1 _ a b=>
   intro hf _;have h1:=a hf (fun _=>nJ he);have h2:=b (d1.fw hf).fit (by omega);simp at h1 h2 ⊢;omega
 | piece d1 _ a b=>
   intro hf hl;have h1:=a hf (fun _=>hl (Or.inl rfl));have h2:=b (d1.fw hf).fit (by omega);simp at h1 h2 ⊢;omega
 | @group cur st r1 he d a=>
   intro hf hl;have bO:=hl (Or.inr rfl);have lN:=nH bO;have Xo:(aw t st.1).2.1<=t.size:=bU hf;have h1:=a (bU hf) (by omega);have f0:=d.fw (bU hf);have f1:=(vo f0).ge;have hcf:(dv t r1).2.1.1<=t.size:=(vo f0).fit;have jK:r1.2.1.1<=(dv t r1).2.1.1:=by
    have g3:=cr (t:=t) (c:=41) (s:=r1.2.1);have:r1.2.1.1<=t.size:=f0.fit;unfold dv;simp only[];split
    ·exact g3
    ·exact this
   rw[OL];simp at h1 ⊢;omega
 | @list cur st he=>
   intro hf hl;have bO:=hl (Or.inr rfl);have lN:=nH bO;have f1:=(ER (t:=t) (st:=((aw t st.1).2,st.2)) (bU hf)).ge;have hlen:(nK t ((aw t st.1).2,st.2)).2.2.length=st.2.length+1:=by unfold nK;simp[bL]
   rw[hlen];simp at f1 ⊢;omega
 | @plain cur st h1 h2=>
   intro hf hl;have bO:=hl (Or.inr rfl);have lN:=nH bO;have f1:=(Aj (t:=t) (c:=(aw t st.1).1) (st:=((aw t st.1).2,st.2)) (bU hf)).ge;rw[OM];simp at f1 ⊢;omega
 | @or cur st r1 r he d1 _ a b=>
   intro hf _;have lN:=nI he;have QM:(ak t 124 st.1).2.1<=t.size:=bh (by omega) hf;have h1:=a QM (by omega);have h2:=b (d1.fw QM).fit (by omega);simp[bk,bL]at h1 h2 ⊢;omega
 | oP he=>intro hf _;simp
 | @and cur st r1 r he d1 _ a b=>
   intro hf _;have h1:=a hf (fun _=>nJ he);have h2:=b (d1.fw hf).fit (by omega);simp[bk,bL]at h1 h2 ⊢;omega
 | mM he=>intro hf _;simp
 | @rep cur st r he _ a=>
   intro hf _;have lN:=sE (lQ he);have QL:(aC t st.1).2.1<=t.size:=kO hf;have h2:=a QL (by omega);simp[ch,bL]at h2 ⊢;omega
 | gM he=>intro hf _;simp
structure Okay (t:ByteArray)(r:Nat×PS):Prop where
 ok:dX r.2.2
 len:r.2.2.length<=900
 top:r.1+1=r.2.2.length
 all:∀i,i<r.2.2.length->au r.2.2 i<=60
theorem MM{t:ByteArray}{r:Nat×PS}(ht:t.size<=40)(h:Ev t 0 0 Oi r)(hs:au r.2.2 r.1<=60):Okay t r:=by
 have hf:Fits t Oi.1:=Nat.zero_le _;have d:=h.deriv hf;have g:=d.gr (by omega) (fun q n hn=>by simp[Oi]at hn) (fun h=>by omega);have hn:=d.nodes hf (by omega);simp[Oi]at hn;exact⟨g.ok,by omega,g.top,fun i hi=>Int.le_trans (g.big i (Nat.zero_le _) hi) hs⟩
theorem ON:RZ:=fun t r ht h _ hs=>by
 have o:=MM ht h hs;have hl:gE r.2.2 r.2.2.length=dM r.2.2 r.1:=by rw[<-o.top];rfl
 have p:=vL o.ok o.all o.len (r.1+1) r.1 (by omega) (by have:=o.top;omega);have hlen:=o.len;have htop:=o.top;refine⟨o.len,OK o.ok o.all o.len,fun n hn=>?_,by rw[hl];exact p.fit.room,fun i=>by rw[hl];have:=p.node i;omega⟩;obtain⟨q,hq⟩:=List.mem_iff_getElem?.1 hn;exact(o.ok q n hq).2.2.1
def Go1(ns:List AN)(fold:Bool)(t:ByteArray)(k i j:Nat):Prop:=
 ∃n,ns[k]?=some n/\((n.kind=1/\j=i+1/\∃h:i<t.size,eh n fold t[i].toNat=true)\/(n.kind=2/\i=0/\j=0)\/(n.kind=3/\i=t.size/\j=t.size))
def Tr(ns:List AN)(fold:Bool)(t:ByteArray):List Nat->Nat->Nat->Prop
 | [],i,j=>i=j/\i<=t.size
 | k :: u,i,j=>∃m,Go1 ns fold t k i m/\Tr ns fold t u m j
def uT(ns:List AN)(fold:Bool)(t:ByteArray)(k i j:Nat):Prop:=∃u,W ns k u/\Tr ns fold t u i j
section
variable {ns:List AN}{fold:Bool}{t:ByteArray}
theorem Tr.le:∀{u:List Nat} {i j:Nat},Tr ns fold t u i j->i<=t.size/\j<=t.size/\i<=j
 | [],i,j,h=>by obtain⟨rfl,h⟩:=h;exact⟨h,h,Nat.le_refl _⟩
 | k :: u,i,j,h=>by
   obtain⟨m,⟨n,_,hg⟩,h2⟩:=h;have:=Tr.le h2;rcases hg with⟨_,rfl,h3,_⟩|⟨_,rfl,rfl⟩|⟨_,rfl,rfl⟩ <;> omega
theorem Tr.app:∀{u v:List Nat} {i j:Nat},Tr ns fold t (u++v) i j↔∃m,Tr ns fold t u i m/\Tr ns fold t v m j
 | [],v,i,j=>by
   constructor
   ·intro h;exact⟨i,⟨rfl,h.le.1⟩,h⟩
   ·rintro⟨m,⟨rfl,_⟩,h⟩;exact h
 | k :: u,v,i,j=>by
   constructor
   ·rintro⟨m,h1,h2⟩;obtain⟨m2,h3,h4⟩:=Tr.app.1 h2;exact⟨m2,⟨m,h1,h3⟩,h4⟩
   ·rintro⟨m2,⟨m,h1,h3⟩,h4⟩;exact⟨m,h1,Tr.app.2 ⟨m2,h3,h4⟩⟩
end
theorem fh(m:MP)(S:aZ):∀q b,(bo m S q).getLsbD b=true↔∃s,s<q/\S.getLsbD s=true/\(m.next s).getLsbD b=true
 | 0,b=>by simp[bo]
 | q+1,b=>by
   rw[bo];split
   ·rename_i h
    rw[bD,Bool.or_eq_true,fh m S q b];constructor
    ·rintro(⟨s,h1,h2⟩|h1)
     ·exact⟨s,by omega,h2⟩
     ·exact⟨q,by omega,h,h1⟩
    ·rintro⟨s,h1,h2,h3⟩;by_cases hs:s=q
     ·subst hs;exact Or.inr h3
     ·exact Or.inl ⟨s,by omega,h2,h3⟩
   ·rename_i h
    rw[fh m S q b];constructor
    ·rintro⟨s,h1,h2⟩;exact⟨s,by omega,h2⟩
    ·rintro⟨s,h1,h2,h3⟩;refine⟨s,?_,h2,h3⟩;by_cases hs:s=q
     ·subst hs;exact absurd h2 h
     ·omega
def zq:Nat->aZ->Nat
 | 0,_=>0
 | n+1,S=>zq n S+if S.getLsbD n=true then 1 else 0
theorem MN(S:aZ):∀n,zq n S<=n
 | 0=>Nat.le_refl _
 | n+1=>by have:=MN S n;rw[zq];split <;> omega
theorem DL{A B:aZ}(h:∀b,A.getLsbD b=true->B.getLsbD b=true):∀n,zq n A<=zq n B
 | 0=>Nat.le_refl _
 | n+1=>by
   have:=DL h n;rw[zq,zq];by_cases h1:A.getLsbD n=true
   ·rw[if_pos h1,if_pos (h n h1)];omega
   ·rw[if_neg h1];omega
theorem MO{A B:aZ}(h:∀b,A.getLsbD b=true->B.getLsbD b=true){c:Nat}(hA:¬A.getLsbD c=true)(hB:B.getLsbD c=true):∀n,c<n->zq n A<zq n B
 | 0,hc=>by omega
 | n+1,hc=>by
   rw[zq,zq];by_cases hcn:c=n
   ·subst hcn;have:=DL h c;rw[if_neg hA,if_pos hB];omega
   ·have:=MO h hA hB n (by omega);by_cases h1:A.getLsbD n=true
    ·rw[if_pos h1,if_pos (h n h1)];omega
    ·rw[if_neg h1];omega
section
variable {m:MP}{S free:aZ}
theorem o9{q b:Nat}:(bE m free S (q+1)).getLsbD b=true↔(bE m free S q).getLsbD b=true\/((cI m (bE m free S q)).getLsbD b=true/\free.getLsbD b=true):=by
 rw[bE,bD,dp,Bool.or_eq_true,Bool.and_eq_true]
theorem rP{b:Nat}(h:S.getLsbD b=true):∀q,(bE m free S q).getLsbD b=true
 | 0=>h
 | q+1=>o9.2 (Or.inl (rP h q))
theorem AR{q:Nat}(h:bE m free S (q+1)=bE m free S q):∀k,bE m free S (q+k+1)=bE m free S (q+k)
 | 0=>h
 | k+1=>by
   have ih:=AR h k;show bE m free S (q+k+1)|||(cI m (bE m free S (q+k+1))&&&free)=bE m free S (q+k+1)
   rw[ih];exact ih
theorem yG(jN:∀b,free.getLsbD b=true->b<60)(fx:bE m free S 61≠bE m free S 60):∀q,q<=61->q<=zq 60 (bE m free S q)
 | 0,_=>Nat.zero_le _
 | q+1,hq=>by
   have ih:=yG jN fx q (by omega);have hn:bE m free S (q+1)≠bE m free S q:=fun hc=>fx (by
    have:=AR hc (60-q);rwa [show q+(60-q)=60 by omega]at this)
   obtain⟨b,hb⟩:∃b,¬((bE m free S (q+1)).getLsbD b=(bE m free S q).getLsbD b):=by
    apply Classical.byContradiction;intro hc;apply hn;apply BitVec.eq_of_getLsbD_eq;intro i hi;apply Classical.byContradiction;intro h;exact hc ⟨i,h⟩
   have VW:∀b,(bE m free S q).getLsbD b=true->(bE m free S (q+1)).getLsbD b=true:=fun b h=>o9.2 (Or.inl h);have h1:¬(bE m free S q).getLsbD b=true:=fun h=>hb (by rw[h,VW b h]);have h2:(bE m free S (q+1)).getLsbD b=true:=by
    cases h:(bE m free S (q+1)).getLsbD b with
    | true=>rfl
    | false=>exfalso;apply hb;rw[h];cases h3:(bE m free S q).getLsbD b with
      | true=>exact absurd h3 h1
      | false=>rfl
   have AS:free.getLsbD b=true:=by
    rcases o9.1 h2 with h|h
    ·exact absurd h h1
    ·exact h.2
   have:=MO VW h1 h2 60 (jN b AS);omega
theorem vM(jN:∀b,free.getLsbD b=true->b<60){b:Nat}(h1:(cI m (lG m S free)).getLsbD b=true)(h2:free.getLsbD b=true):(lG m S free).getLsbD b=true:=by
 apply Classical.byContradiction;intro hc;have fx:bE m free S 61≠bE m free S 60:=fun he=>by
  apply hc;show(bE m free S 60).getLsbD b=true;rw[<-he];exact o9.2 (Or.inr ⟨h1,h2⟩)
 have:=yG jN fx 61 (Nat.le_refl _);have:=MN (bE m free S 61) 60;omega
theorem fM{Q:Nat->Prop}(h0:∀b,S.getLsbD b=true->Q b)(h1:∀S':aZ,(∀b,S'.getLsbD b=true->Q b)->∀b,(cI m S').getLsbD b=true->free.getLsbD b=true->Q b):∀q b,(bE m free S q).getLsbD b=true->Q b
 | 0,b,h=>h0 b h
 | q+1,b,h=>by
   rcases o9.1 h with h|⟨h2,h3⟩
   ·exact fM h0 h1 q b h
   ·exact h1 _ (fM h0 h1 q) b h2 h3
end
structure MF (m:MP)(ns:List AN)(P:GP)(fold whole:Bool):Prop where
 fit:P.Fit
 whole:m.whole=whole
 next:∀s,s<P.count->m.next s=P.next s
 start:m.next 60=P.first
 bn:∀c b,(m.bn c).getLsbD b=true↔c<256/\b<P.count/\∃n,ns[P.node b]?=some n/\n.kind=1/\eh n fold c=true
 aE:∀b,m.aE.getLsbD b=true↔b<P.count/\∃n,ns[P.node b]?=some n/\n.kind=2
 ends:∀b,m.ends.getLsbD b=true↔b<P.count/\∃n,ns[P.node b]?=some n/\n.kind=3
 last:∀b,m.last.getLsbD b=true↔P.last.getLsbD b=true\/(b=60/\P.empty=true)
theorem qa{q b:Nat}(hq:q<64):(1#64 <<< q:aZ).getLsbD b=true↔b=q:=by
 rw[EU,BitVec.getLsbD_one];simp only[Bool.and_eq_true,decide_eq_true_eq,Bool.not_eq_true',decide_eq_false_iff_not];omega
theorem jX{b:Nat}:cq.getLsbD b=true↔b=60:=by
 have e:cq=1#64 <<< 60:=by decide
 rw[e];exact qa (by decide)
theorem my{b:Nat}:cX.getLsbD b=true↔b=61:=by
 have e:cX=1#64 <<< 61:=by decide
 rw[e];exact qa (by decide)
structure MFq (m:MP)(ns:List AN)(P:GP)(fold whole:Bool)(q:Nat):Prop where
 whole:m.whole=whole
 next:∀s,s<q->m.next s=P.next s
 start:m.next 60=P.first
 bn:∀c b,(m.bn c).getLsbD b=true↔c<256/\b<q/\∃n,ns[P.node b]?=some n/\n.kind=1/\eh n fold c=true
 aE:∀b,m.aE.getLsbD b=true↔b<q/\∃n,ns[P.node b]?=some n/\n.kind=2
 ends:∀b,m.ends.getLsbD b=true↔b<q/\∃n,ns[P.node b]?=some n/\n.kind=3
 last:∀b,m.last.getLsbD b=true↔P.last.getLsbD b=true\/(b=60/\P.empty=true)
theorem jY{b q:Nat}{X:Nat->Prop}:(b<q+1/\X b)↔(b<q/\X b)\/(b=q/\X q):=by
 constructor
 ·rintro⟨h1,h2⟩;by_cases h:b=q
  ·subst h;exact Or.inr ⟨rfl,h2⟩
  ·exact Or.inl ⟨by omega,h2⟩
 ·rintro(⟨h1,h2⟩|⟨rfl,h2⟩)
  ·exact⟨by omega,h2⟩
  ·exact⟨by omega,h2⟩
theorem built(ns:List AN)(P:GP)(fold whole:Bool):∀q,q<=60->MFq (bf ns P fold whole q) ns P fold whole q
 | 0,_=>by
   refine⟨rfl,fun s h=>by omega,rfl,fun c b=>?_,fun b=>?_,fun b=>?_,fun b=>?_⟩
   ·simp[bf,uq,dL]
   ·simp[bf,uq,dL]
   ·simp[bf,uq,dL]
   ·simp only[bf,uq];split
    ·rename_i h;rw[bD,Bool.or_eq_true,jX];simp[h]
    ·rename_i h;simp[h]
 | q+1,hq=>by
   have ih:=built ns P fold whole q (by omega);have oz:∀s,s<q+1->(dL (bf ns P fold whole q) q (P.next q)).next s=P.next s:=fun s hs=>by
    simp only[dL];by_cases h:s=q
    ·subst h;rw[if_pos rfl]
    ·rw[if_neg h];exact ih.next s (by omega)
   have dy:(dL (bf ns P fold whole q) q (P.next q)).next 60=P.first:=by
    simp only[dL];rw[if_neg (by omega)];exact ih.start
   rw[bf];cases hn:ns[P.node q]? with
   | none=>
     refine⟨ih.whole,oz,dy,fun c b=>?_,fun b=>?_,fun b=>?_,ih.last⟩
     ·refine(ih.bn c b).trans ?_;rw[jY (X:=fun b=>∃n,ns[P.node b]?=some n/\n.kind=1/\eh n fold c=true)];simp[hn]
     ·refine(ih.aE b).trans ?_;rw[jY (X:=fun b=>∃n,ns[P.node b]?=some n/\n.kind=2)];simp[hn]
     ·refine(ih.ends b).trans ?_;rw[jY (X:=fun b=>∃n,ns[P.node b]?=some n/\n.kind=3)];simp[hn]
   | some n=>
     have T:∀c b,(c<256/\b<q+1/\∃n,ns[P.node b]?=some n/\n.kind=1/\eh n fold c=true)↔(((bf ns P fold whole q).bn c).getLsbD b=true\/(b=q/\c<256/\n.kind=1/\eh n fold c=true)):=fun c b=>by
      rw[ih.bn c b,jY (X:=fun b=>∃n,ns[P.node b]?=some n/\n.kind=1/\eh n fold c=true)];simp only[hn,Option.some.injEq,exists_eq_left'];constructor
      ·rintro⟨h1,h2|h2⟩
       ·exact Or.inl ⟨h1,h2⟩
       ·exact Or.inr ⟨h2.1,h1,h2.2⟩
      ·rintro(⟨h1,h2⟩|⟨h1,h2,h3⟩)
       ·exact⟨h1,Or.inl h2⟩
       ·exact⟨h2,Or.inr ⟨h1,h3⟩⟩
     have B:∀b,(b<q+1/\∃n,ns[P.node b]?=some n/\n.kind=2)↔((bf ns P fold whole q).aE.getLsbD b=true\/(b=q/\n.kind=2)):=fun b=>by
      rw[ih.aE b,jY (X:=fun b=>∃n,ns[P.node b]?=some n/\n.kind=2)];simp only[hn,Option.some.injEq,exists_eq_left']
     have E:∀b,(b<q+1/\∃n,ns[P.node b]?=some n/\n.kind=3)↔((bf ns P fold whole q).ends.getLsbD b=true\/(b=q/\n.kind=3)):=fun b=>by
      rw[ih.ends b,jY (X:=fun b=>∃n,ns[P.node b]?=some n/\n.kind=3)];simp only[hn,Option.some.injEq,exists_eq_left']
     simp only[];unfold fg;by_cases k2:n.kind=2
     ·rw[if_pos k2];refine⟨ih.whole,oz,dy,fun c b=>?_,fun b=>?_,fun b=>?_,ih.last⟩
      ·rw[T];simp[k2,dL]
      ·rw[B];simp only[dL];rw[bD,Bool.or_eq_true,qa (by omega)];simp[k2]
      ·rw[E];simp[k2,dL]
     ·rw[if_neg k2];by_cases k3:n.kind=3
      ·rw[if_pos k3];refine⟨ih.whole,oz,dy,fun c b=>?_,fun b=>?_,fun b=>?_,ih.last⟩
       ·rw[T];simp[k3,dL]
       ·rw[B];simp[k3,dL]
       ·rw[E];simp only[dL];rw[bD,Bool.or_eq_true,qa (by omega)];simp[k3]
      ·rw[if_neg k3];by_cases k1:n.kind=1
       ·rw[if_pos k1];refine⟨ih.whole,oz,dy,fun c b=>?_,fun b=>?_,fun b=>?_,ih.last⟩
        ·rw[T];simp only[dx,dL];split
         ·rename_i h;rw[bD,Bool.or_eq_true,qa (by omega)];simp[h.1,h.2,k1]
         ·rename_i h
          constructor
          ·intro h1;exact Or.inl h1
          ·rintro(h1|⟨_,h2,_,h3⟩)
           ·exact h1
           ·exact absurd ⟨h2,h3⟩ h
        ·rw[B];simp[k1,dL,dx]
        ·rw[E];simp[k1,dL,dx]
       ·rw[if_neg k1];refine⟨ih.whole,oz,dy,fun c b=>?_,fun b=>?_,fun b=>?_,ih.last⟩
        ·rw[T];simp[k1,dL]
        ·rw[B];simp[k2,dL]
        ·rw[E];simp[k3,dL]
theorem R0(ns:List AN)(P:GP)(hP:P.Fit)(fold whole:Bool):MF (iP ns P fold whole) ns P fold whole:=by
 have h:=built ns P fold whole P.count hP.room;exact⟨hP,h.whole,h.next,h.start,h.bn,h.aE,h.ends,h.last⟩
structure Emb (p t:ByteArray)(a:Nat):Prop where
 byte:∀i,i<p.size->pk t (a+i)=pk p i
 stop:pk t (a+p.size)=41
section
variable {p t:ByteArray}{a:Nat}(e:Emb p t a)
include e
end
section
variable {p t:ByteArray}{a:Nat}(e:Emb p t a)
include e
end
def shN(k:Nat)(n:AN):AN:=
 { n with left:=if n.kind=4\/n.kind=5\/n.kind=6 then n.left+(k:Int) else n.left,right:=if n.kind=4\/n.kind=5 then n.right+(k:Int) else n.right}
section
variable {p t:ByteArray}{a:Nat}(e:Emb p t a)(pre:List AN)
include e
end
def ey(n:Nat)(R:Nat->Nat->Prop):Nat->Nat->Nat->Prop
 | 0,i,j=>i=j/\i<=n
 | c+1,i,j=>∃m,ey n R c i m/\R m j
theorem ey.congr{n:Nat}{R R':Nat->Nat->Prop}(h:∀i j,R i j↔R' i j):∀c i j,ey n R c i j↔ey n R' c i j
 | 0,i,j=>Iff.rfl
 | c+1,i,j=>by
   simp only[ey];constructor
   ·rintro⟨m,h1,h2⟩;exact⟨m,(ey.congr h c i m).1 h1,(h m j).1 h2⟩
   ·rintro⟨m,h1,h2⟩;exact⟨m,(ey.congr h c i m).2 h1,(h m j).2 h2⟩
section
variable {ns:List AN}{fold:Bool}{t:ByteArray}{k:Nat}{n:AN}{i j:Nat}
theorem uT.le(h:uT ns fold t k i j):i<=t.size/\j<=t.size/\i<=j:=by
 obtain⟨u,_,h⟩:=h;exact h.le
theorem uT.zero(hn:ns[k]?=some n)(hk:n.kind=0):uT ns fold t k i j↔i=j/\i<=t.size:=by
 constructor
 ·rintro⟨u,h1,h2⟩;have:=(W.zero hn hk).1 h1;subst this;exact h2
 ·rintro h;exact⟨[],(W.zero hn hk).2 rfl,h⟩
theorem uT.one(hn:ns[k]?=some n)(hk:n.kind=1\/n.kind=2\/n.kind=3):uT ns fold t k i j↔Go1 ns fold t k i j:=by
 constructor
 ·rintro⟨u,h1,h2⟩;have:=(W.one hn hk).1 h1;subst this;obtain⟨m,h3,rfl,_⟩:=h2;exact h3
 ·intro h;refine⟨[k],(W.one hn hk).2 rfl,j,h,rfl,?_⟩;obtain⟨n',_,⟨_,rfl,h3,_⟩|⟨_,rfl,rfl⟩|⟨_,rfl,rfl⟩⟩:=h <;> omega
theorem uT.two(hn:ns[k]?=some n)(hk:n.kind=4){l r:Nat}(hl:n.left=(l:Int))(hr:n.right=(r:Int)):uT ns fold t k i j↔∃m,uT ns fold t l i m/\uT ns fold t r m j:=by
 constructor
 ·rintro⟨u,h1,h2⟩;obtain⟨x,y,rfl,h3,h4⟩:=(W.two hn hk hl hr).1 h1;obtain⟨m,h5,h6⟩:=Tr.app.1 h2;exact⟨m,⟨x,h3,h5⟩,⟨y,h4,h6⟩⟩
 ·rintro⟨m,⟨x,h3,h5⟩,⟨y,h4,h6⟩⟩;exact⟨x++y,(W.two hn hk hl hr).2 ⟨x,y,rfl,h3,h4⟩,Tr.app.2 ⟨m,h5,h6⟩⟩
theorem uT.alt(hn:ns[k]?=some n)(hk:n.kind=5){l r:Nat}(hl:n.left=(l:Int))(hr:n.right=(r:Int)):uT ns fold t k i j↔uT ns fold t l i j\/uT ns fold t r i j:=by
 constructor
 ·rintro⟨u,h1,h2⟩;rcases (W.alt hn hk hl hr).1 h1 with h|h
  ·exact Or.inl ⟨u,h,h2⟩
  ·exact Or.inr ⟨u,h,h2⟩
 ·rintro(⟨u,h1,h2⟩|⟨u,h1,h2⟩)
  ·exact⟨u,(W.alt hn hk hl hr).2 (Or.inl h1),h2⟩
  ·exact⟨u,(W.alt hn hk hl hr).2 (Or.inr h1),h2⟩
theorem vN(l:Nat):∀c i j,(∃u,xu (W ns l) c u/\Tr ns fold t u i j)↔ey t.size (uT ns fold t l) c i j
 | 0,i,j=>by
   simp only[ey];constructor
   ·rintro⟨u,h1,h2⟩;have:=(sR _ _).1 h1;subst this;exact h2
   ·intro h;exact⟨[],(sR _ _).2 rfl,h⟩
 | c+1,i,j=>by
   simp only[ey];constructor
   ·rintro⟨u,h1,h2⟩;obtain⟨x,y,rfl,h3,h4⟩:=(sS _ _ _).1 h1;obtain⟨m,h5,h6⟩:=Tr.app.1 h2;exact⟨m,(vN l c i m).1 ⟨x,h3,h5⟩,⟨y,h4,h6⟩⟩
   ·rintro⟨m,h1,⟨y,h4,h6⟩⟩;obtain⟨x,h3,h5⟩:=(vN l c i m).2 h1;exact⟨x++y,(sS _ _ _).2 ⟨x,y,rfl,h3,h4⟩,Tr.app.2 ⟨m,h5,h6⟩⟩
theorem uT.many(hn:ns[k]?=some n)(hk:n.kind=6){l:Nat}(hl:n.left=(l:Int)):uT ns fold t k i j↔∃c,n.least<=((c:Nat):Int)/\(n.most = -1\/(c:Int)<=n.most)/\ey t.size (uT ns fold t l) c i j:=by
 constructor
 ·rintro⟨u,h1,h2⟩;obtain⟨c,h3,h4,h5⟩:=(W.many hn hk hl).1 h1;exact⟨c,h3,h4,(vN l c i j).1 ⟨u,h5,h2⟩⟩
 ·rintro⟨c,h3,h4,h5⟩;obtain⟨u,h6,h7⟩:=(vN l c i j).2 h5;exact⟨u,(W.many hn hk hl).2 ⟨c,h3,h4,h6⟩,h7⟩
end
def In(ns ms:List AN)(k:Nat):Prop:=∀i n,ns[i]?=some n->ms[k+i]?=some (shN k n)
def Sync(t:ByteArray)(a b:RS):Prop:=(a=(t.size,true)/\b.2=true)\/(a=b/\a.2=false)
theorem fR{t:ByteArray}{s:RS}(h:s.1<t.size):aw t s=(pk t s.1,(s.1+1,s.2)):=by
 unfold aw;rw[if_neg (by rw[kB];omega)]
theorem AU{t:ByteArray}{s:RS}(h:¬s.1<t.size):aw t s=(0,cN t):=by
 unfold aw;rw[if_pos (by rw[kB];exact h)]
theorem pd{t:ByteArray}{s:RS}(h:s.1<t.size):cd t s=(pk t s.1,(s.1+1,s.2)):=if_pos h
theorem xD{t:ByteArray}{s:RS}(h:¬s.1<t.size):cd t s=(0,(s.1,true)):=if_neg h
theorem fy{t:ByteArray}{s:RS}{c:Int}(h:pk t s.1=c):ak t c s=(true,(s.1+1,s.2)):=if_pos h
theorem ct{t:ByteArray}{s:RS}{c:Int}(h:¬pk t s.1=c):ak t c s=(false,s):=if_neg h
theorem st1{t:ByteArray}{s:RS}{c:UInt8}:oq t s [c]=(pk t s.1==(c.toNat:Int)):=by simp[oq]
theorem vO{t:ByteArray}{p:Nat}(hp:p<t.size)(Gu:pk t p≠93):
 (dC t (p,false)=cp t (p,false)/\(dC t (p,false)).2.2=false/\(dC t (p,false)).2.1<=t.size) \/
 ((dC t (p,false))=(0,cN t)/\(cp t (p,false)).2=(t.size,true)/\(cp t (p,false)).1=0):=by
 have e93:oq t (p,false) [93]=false:=by rw[st1];simpa using Gu
 have eR:cp t (p,false)=cd t (ak t 92 (p,false)).2:=by unfold cp;rw[if_neg (by rw[e93];decide)]
 have eN:=fR (s:=(p,false)) hp;rw[eR];unfold dC;rw[eN];simp only[];by_cases h:pk t p=92
 ·rw[if_pos h,fy (s:=(p,false)) h];simp only[];by_cases kY:p+1<t.size
  ·left;rw[fR (s:=(p+1,false)) kY,pd (s:=(p+1,false)) kY];exact⟨rfl,rfl,kY⟩
  ·right;rw[AU (s:=(p+1,false)) kY,xD (s:=(p+1,false)) kY];have:p+1=t.size:=by omega
   exact⟨rfl,by simp[this],rfl⟩
 ·left;rw[if_neg h,ct (s:=(p,false)) h,pd (s:=(p,false)) hp];exact⟨rfl,rfl,hp⟩
theorem MQ{t:ByteArray}{b:Bool}:oo t (t.size,b)=false:=by
 unfold oo;rw[mG (p:=t.size) (by omega)];rfl
theorem DM{t:ByteArray}{p:Nat}{f:Nat->Bool}(hp:p<t.size)(Gu:pk t p≠93):Sync t (dn t (p,false)).2 (bS t (p,false) f).1:=by
 rcases vO hp Gu with⟨h1,h2,h3⟩|⟨h1,h2,h4⟩
 ·obtain⟨c,s1,hm⟩:∃c s1,dC t (p,false)=(c,s1):=⟨_,_,rfl⟩;rw[hm]at h1 h2 h3;obtain⟨p1,b1⟩:=s1;simp only[]at h2 h3;subst h2;by_cases hs:oo t (p1,false)=true
  ·have ji:=hs;simp only[oo,Bool.and_eq_true,beq_iff_eq,bne_iff_ne]at ji;obtain⟨⟨_,g1⟩,g2⟩:=ji;have yw:p1+1<t.size:=by rw[Ne,kB]at g1;omega
   have eH:fV t (p,false)=dC t (p1+1,false):=by unfold fV;rw[hm];exact if_pos hs
   have eT:oJ t (p,false)=cp t (p1+1,false):=by
    unfold oJ;rw[<-h1];simp only[];rw[if_pos hs,pd (s:=(p1,false)) (by omega)]
   have eI:(dn t (p,false)).2=if (fV t (p,false)).1<c then cN t else (fV t (p,false)).2:=by unfold dn;rw[hm]
   have eJ:(bS t (p,false) f).1=if (oJ t (p,false)).1<c then fW (oJ t (p,false)).2 else (oJ t (p,false)).2:=by unfold bS;rw[<-h1]
   rw[eI,eJ,eH,eT];rcases vO yw g2 with⟨k1,k2,k3⟩|⟨k1,k2,k4⟩
   ·rw[<-k1];by_cases hl:(dC t (p1+1,false)).1<c
    ·rw[if_pos hl,if_pos hl];left;exact⟨rfl,rfl⟩
    ·rw[if_neg hl,if_neg hl];right;exact⟨rfl,k2⟩
   ·left;rw[k1];refine⟨by simp only[];split <;> rfl,?_⟩
    split
    ·rfl
    ·rw[k2]
  ·have eH:fV t (p,false)=dC t (p,false):=by unfold fV;rw[hm];exact if_neg hs
   have eT:oJ t (p,false)=cp t (p,false):=by unfold oJ;rw[<-h1];simp only[];rw[if_neg hs]
   have eI:(dn t (p,false)).2=(p1,false):=by unfold dn;rw[eH,hm];simp
   have eJ:(bS t (p,false) f).1=(p1,false):=by unfold bS;rw[eT,<-h1];simp
   rw[eI,eJ];right;exact⟨rfl,rfl⟩
 ·left;have eH:fV t (p,false)=dC t (p,false):=by unfold fV;rw[h1];exact if_neg (by simp only[cN];rw[MQ];decide)
  have eT:oJ t (p,false)=cp t (p,false):=by unfold oJ;rw[h2,MQ];simp
  refine⟨?_,?_⟩
  ·unfold dn;rw[eH,h1];simp[cN]
  ·unfold bS;rw[eT];simp[h2]
theorem HG{t:ByteArray}{p:Nat}{f:Nat->Bool}(h:¬p<t.size\/pk t p=93):(bS t (p,false) f).1.2=true:=by
 have hm:(cp t (p,false)).2.2=true:=by
  unfold cp;rcases h with h|h
  ·have e93:oq t (p,false) [93]=false:=by rw[st1,mG h];decide
   rw[if_neg (by rw[e93];decide),ct (s:=(p,false)) (by rw[mG h];decide),xD (s:=(p,false)) h]
  ·have e93:oq t (p,false) [93]=true:=by rw[st1,h];decide
   rw[if_pos e93];exact xg (bR rfl)
 have ht:=EJ hm;unfold bS;simp only[];split
 ·rfl
 ·exact ht
theorem vP{t:ByteArray}{p:Nat}{f:Nat->Bool}(hf:p<=t.size)(h:¬p<t.size\/pk t p=93):(da t (p,false) f).1.2=true:=by
 have h1:=HG (f:=f) h;cases hc:(ak t 93 (bS t (p,false) f).1).1 with
 | true=>rw[jS rfl hc];exact bR h1
 | false=>rw[ml (s:=(p,false)) hf rfl hc,mJ (bR h1)];exact bR h1
def vQ(t:ByteArray)(I:List (Int×Int)×RS):RS:=if (ak t 93 I.2).1=false\/I.1.length=0 then cN t else (ak t 93 I.2).2
theorem jZ{t:ByteArray}{p:Nat}{b:Bool}:lL t (p,b)=true↔p<t.size/\pk t p≠93:=by
 simp only[lL,Bool.and_eq_true,bne_iff_ne];constructor
 ·intro h;exact⟨by have:=h.1;rw[Ne,kB]at this;omega,h.2⟩
 ·intro h;exact⟨by rw[Ne,kB];omega,h.2⟩
theorem AV{t:ByteArray}:∀(n p:Nat) (acc:List (Int×Int)) (f:Nat->Bool),t.size-p<=n->p<=t.size->(acc=[]\/pk t p≠93) ->
 Sync t (vQ t (fe t (p,false) acc)) (da t (p,false) f).1
 | n,p,acc,f,hn,hf,VX=>by
   by_cases hq:lL t (p,false)=true
   ·obtain⟨hp,Gu⟩:=jZ.1 hq;rw[xe hq];have lN:=sD (t:=t) (s:=(p,false)) hp;rcases DM (f:=f) hp Gu with⟨h1,h2⟩|⟨h1,h2⟩
    ·left;refine⟨?_,?_⟩
     ·rw[h1,mI (by cases h:lL t (t.size,true) with|false=>rfl|true=>have:=(jZ.1 h).1;omega)];unfold vQ;rw[ct (s:=(t.size,true)) (by rw[mG (by omega)];decide)];exact if_pos (Or.inl rfl)
     ·cases hc:(ak t 93 (bS t (p,false) f).1).1 with
      | true=>rw[jS rfl hc];exact bR h2
      | false=>rw[ml (s:=(p,false)) hf rfl hc,mJ (bR h2)];exact bR h2
    ·obtain⟨⟨p1,b1⟩,qz⟩:∃s1,(dn t (p,false)).2=s1:=⟨_,rfl⟩;rw[qz]at h1 h2 lN;simp only[]at h2 lN;subst h2;have Vk:=xd (t:=t) (s:=(p,false)) hf;rw[qz]at Vk;simp only[Fits]at Vk;rw[qz];by_cases Fb:pk t p1=93
     ·right;have hc:ak t 93 (bS t (p,false) f).1=(true,(p1+1,false)):=by rw[<-h1];exact fy (s:=(p1,false)) Fb
      rw[jS rfl (by rw[hc]),hc,mI (by cases h:lL t (p1,false) with|false=>rfl|true=>exact absurd Fb (jZ.1 h).2)];unfold vQ;rw[fy (s:=(p1,false)) Fb];simp
     ·have hc:ak t 93 (bS t (p,false) f).1=(false,(p1,false)):=by rw[<-h1];exact ct (s:=(p1,false)) Fb
      rw[ml (s:=(p,false)) hf rfl (by rw[hc]),hc];match n,hn with
      | 0,hn=>omega
      | n+1,hn=>exact AV n p1 _ _ (by omega) Vk (Or.inr Fb)
   ·have kJ:¬p<t.size\/pk t p=93:=by
     by_cases hp:p<t.size
     ·right;by_cases Gu:pk t p=93
      ·exact Gu
      ·exact absurd (jZ.2 ⟨hp,Gu⟩) hq
     ·exact Or.inl hp
    left;refine⟨?_,vP hf kJ⟩;rw[mI (by simpa using hq)];unfold vQ;rcases VX with rfl|Gu
    ·exact if_pos (Or.inr rfl)
    ·rw[ct (s:=(p,false)) Gu];exact if_pos (Or.inl rfl)
theorem AW{t:ByteArray}{p:Nat}(hp:p<t.size)(h1:48<=pk t p)(h2:pk t p<=57):eg t (p,false)=(pk t p-48,(p+1,false)):=by
 unfold eg;rw[fR (s:=(p,false)) hp];exact if_neg (by simp only[];omega)
theorem Fc{t:ByteArray}{s:RS}(h:¬(s.1<t.size/\48<=pk t s.1/\pk t s.1<=57)):eg t s=(0,cN t):=by
 unfold eg;by_cases hp:s.1<t.size
 ·rw[fR hp];exact if_pos (by simp only[];omega)
 ·rw[AU hp];exact if_pos (by simp only[];omega)
theorem pe{t:ByteArray}{c:Int}(hc:0<=c):ak t c (cN t)=(false,cN t):=
 ct (s:=cN t) (by simp only[cN];rw[mG (by omega)];omega)
theorem HH{t:ByteArray}{p:Nat}(hf:p<=t.size):
 ((bH t (p,false)).2=(t.size,true)/\(nD t (p,false)).2.2=true)\/(bH t (p,false)=nD t (p,false)/\(bH t (p,false)).2.2=false):=by
 by_cases hd:p<t.size/\48<=pk t p/\pk t p<=57
 ·obtain⟨hp,g1,g2⟩:=hd;have eD:=AW hp g1 g2;have eK:=pd (s:=(p,false)) hp;have YK:(nD t (p,false)).2=if (bu t (p,false)).2.1=false then fW (bu t (p,false)).2.2 else (bu t (p,false)).2.2:=by
   unfold nD;rw[eK];simp only[];by_cases hx:(bu t (p,false)).2.1=false
   ·rw[if_pos (Or.inr (Or.inr hx)),if_pos hx]
   ·rw[if_neg (by rintro(h|h|h);omega;omega;exact hx h),if_neg hx]
  have eB2:(nD t (p,false)).1=(pk t p-48,(bu t (p,false)).1):=by unfold nD;rw[eK]
  by_cases hc:pk t (p+1)=44
  ·have eC:=fy (t:=t) (s:=(p+1,false)) hc;have yw:p+1<t.size:=kC (by omega);by_cases hq:pk t (p+2)=125
   ·right;have eQ:=fy (t:=t) (s:=(p+2,false)) hq;have eM:bJ t (p,false)=(-1,(p+2,false)):=by
     unfold bJ;rw[eD];simp only[];rw[eC];simp only[if_true];unfold JS;exact if_pos hq
    have eS:bH t (p,false)=((pk t p-48,-1),(p+3,false)):=by
     unfold bH;rw[eM,eD];simp only[];rw[eQ];simp
    have eN:bu t (p,false)=(-1,(true,(p+3,false))):=by
     unfold bu;rw[eK];simp only[];rw[eC];simp only[];rw[eQ];simp
    rw[eS];refine⟨?_,rfl⟩;rw[Prod.ext_iff];rw[YK,eB2,eN];exact⟨rfl,rfl⟩
   ·have eQ:=ct (t:=t) (s:=(p+2,false)) hq;have eM:bJ t (p,false)=eg t (p+2,false):=by
     unfold bJ;rw[eD];simp only[];rw[eC];simp only[if_true];unfold JS;exact if_neg hq
    have eN:bu t (p,false)=((cd t (p+2,false)).1-48,((ak t 125 (cd t (p+2,false)).2).1,if (cd t (p+2,false)).1<48\/57<(cd t (p+2,false)).1\/(cd t (p+2,false)).1-48<pk t p-48 then fW (ak t 125 (cd t (p+2,false)).2).2 else (ak t 125 (cd t (p+2,false)).2).2)):=by
     unfold bu;rw[eK];simp only[];rw[eC];simp only[];rw[eQ];simp
    by_cases YM:p+2<t.size/\48<=pk t (p+2)/\pk t (p+2)<=57
    ·obtain⟨kY,l1,l2⟩:=YM;have eD2:=AW kY l1 l2;have eK2:=pd (s:=(p+2,false)) kY;rw[eD2]at eM;rw[eK2]at eN;simp only[]at eN;by_cases hz:pk t (p+3)=125
     ·have eZ:=fy (t:=t) (s:=(p+3,false)) hz;rw[eZ]at eN;simp only[]at eN;by_cases hl:pk t (p+2)-48<pk t p-48
      ·left;rw[if_pos (Or.inr (Or.inr hl))]at eN;refine⟨?_,?_⟩
       ·unfold bH;rw[eM,eD];simp only[];rw[if_pos (Or.inr ⟨by omega,hl⟩)];rfl
       ·rw[YK,eN];rfl
      ·right;rw[if_neg (by omega)]at eN;have eS:bH t (p,false)=((pk t p-48,pk t (p+2)-48),(p+4,false)):=by
        unfold bH;rw[eM,eD];simp only[];rw[eZ];rw[if_neg (by simp;omega)]
       rw[eS];refine⟨?_,rfl⟩;rw[Prod.ext_iff,YK,eB2,eN];exact⟨rfl,rfl⟩
     ·left;have eZ:=ct (t:=t) (s:=(p+3,false)) hz;refine⟨?_,?_⟩
      ·unfold bH;rw[eM,eD];simp only[];rw[eZ];rw[if_pos (Or.inl rfl)];rfl
      ·rw[YK,eN,eZ];rfl
    ·left;have eD2:=Fc (t:=t) (s:=(p+2,false)) YM;rw[eD2]at eM;refine⟨?_,?_⟩
     ·unfold bH;rw[eM];simp only[];rw[pe (by omega)];rw[if_pos (Or.inl rfl)];rfl
     ·have zd:(bu t (p,false)).2.2.2=true:=by
       rw[eN];simp only[];by_cases kY:p+2<t.size
       ·rw[pd (s:=(p+2,false)) kY];simp only[];rw[if_pos (by omega)];rfl
       ·rw[xD (s:=(p+2,false)) kY];simp;rfl
      rw[YK];split
      ·rfl
      ·exact zd
  ·have eC:=ct (t:=t) (s:=(p+1,false)) hc;have eM:bJ t (p,false)=(pk t p-48,(p+1,false)):=by
    unfold bJ;rw[eD];simp only[];rw[eC];simp
   have eN:bu t (p,false)=(pk t p-48,ak t 125 (p+1,false)):=by
    unfold bu;rw[eK];simp only[];rw[eC];simp
   by_cases hz:pk t (p+1)=125
   ·right;have eZ:=fy (t:=t) (s:=(p+1,false)) hz;have eS:bH t (p,false)=((pk t p-48,pk t p-48),(p+2,false)):=by
     unfold bH;rw[eM,eD];simp only[];rw[eZ];rw[if_neg (by simp)]
    rw[eS];refine⟨?_,rfl⟩;rw[Prod.ext_iff,YK,eB2,eN,eZ];exact⟨rfl,rfl⟩
   ·left;have eZ:=ct (t:=t) (s:=(p+1,false)) hz;refine⟨?_,?_⟩
    ·unfold bH;rw[eM,eD];simp only[];rw[eZ];rw[if_pos (Or.inl rfl)];rfl
    ·rw[YK,eN,eZ];rfl
 ·left;have eD:=Fc (t:=t) (s:=(p,false)) hd;refine⟨?_,?_⟩
  ·have eM:(bJ t (p,false)).2=cN t:=by
    unfold bJ;rw[eD];simp only[];rw[pe (by omega)];simp
   unfold bH;rw[eM,pe (by omega),if_pos (Or.inl rfl)];rfl
  ·by_cases hp:p<t.size
   ·have eK:=pd (s:=(p,false)) hp;unfold nD;rw[eK];simp only[];rw[if_pos (by omega)];rfl
   ·have eK:=xD (s:=(p,false)) hp;unfold nD;rw[eK];simp only[];rw[if_pos (by omega)];rfl
theorem yH{t:ByteArray}{p:Nat}(h:kN t (p,false)=true):
 ((aC t (p,false)).2=(t.size,true)/\(fX t (p,false)).2.2=true)\/(aC t (p,false)=fX t (p,false)/\(aC t (p,false)).2.2=false):=by
 have hp:=lQ h;have e1:=fR (s:=(p,false)) hp;have e2:=pd (s:=(p,false)) hp;simp only[kN,Bool.or_eq_true,beq_iff_eq]at h;unfold aC fX;rw[e1,e2];simp only[];by_cases h1:pk t p=42
 ·right;rw[h1];exact⟨rfl,rfl⟩
 by_cases h2:pk t p=43
 ·right;rw[h2];exact⟨rfl,rfl⟩
 by_cases h3:pk t p=63
 ·right;rw[h3];exact⟨rfl,rfl⟩
 ·have h4:pk t p=123:=by omega
  rw[if_neg h1,if_neg h2,if_neg h3,if_neg h2,if_neg h3,if_pos h4];exact HH hp
end Go.Proofs.YtgifhgnccmnbiabGreatDoor
namespace Go.Proofs.YtgifhgnccmnbiabGreatDoor
open Go.RowKit Go.IntWalk
def fA(x:Int):Int:=if 61<x then 61 else x
def mT(ps:List PN):Prop:=∀(i:Nat) (p:PN),ps[i]?=some p->∀k,k∈p.kids->k<i
def T(ps:List PN)(j:Nat):Int:=eo ps (j+1) j
def mU(ps:List PN)(l:List Nat):Int:=l.foldl (fun n k=>wrap64 (n+T ps k)) 0
theorem KK{ns more:List AN}{i:Nat}(h:i<ns.length):au (ns++more) i=au ns i:=by
 unfold au;rw[List.getElem?_append_left h]
theorem uu{ns:List AN}{n:AN}:au (ns++[gL n]) ns.length=fA n.size:=by
 unfold au fA;simp[gL]
theorem mV{f g:Nat->Int}:∀(l:List Nat) (n:Int),(∀k,k∈l->f k=g k)->l.foldl (fun n k=>wrap64 (n+f k)) n=l.foldl (fun n k=>wrap64 (n+g k)) n
 | [],_,_=>rfl
 | x :: r,n,h=>by
   rw[List.foldl_cons,List.foldl_cons,h x (by simp)];exact mV r _ (fun k hk=>h k (by simp[hk]))
theorem xE{ps more:List PN}(hw:mT ps):∀(f i:Nat),i<ps.length->eo (ps++more) f i=eo ps f i
 | 0,_,_=>rfl
 | f+1,i,hi=>by
   rw[eo,eo,List.getElem?_append_left hi];cases hp:ps[i]? with
   | none=>rfl
   | some p=>
     simp only[];congr 1
     exact mV _ _ (fun k hk=>xE hw f k (by have:=hw i p hp k hk;omega))
theorem T_app{ps more:List PN}(hw:mT ps){i:Nat}(hi:i<ps.length):T (ps++more) i=T ps i:=xE hw _ _ hi
theorem R4{ps more:List PN}(hw:mT ps){l:List Nat}(hl:∀k,k∈l->k<ps.length):mU (ps++more) l=mU ps l:=
 mV _ _ (fun k hk=>T_app hw (hl k hk))
theorem mT.push{ps:List PN}{p:PN}(hw:mT ps)(hl:∀k,k∈p.kids->k<ps.length):mT (ps++[p]):=by
 intro i q hq k hk;by_cases hi:i<ps.length
 ·rw[List.getElem?_append_left hi]at hq;exact hw i q hq k hk
 ·have CI:i=ps.length:=by
   have:=(List.getElem?_eq_some_iff.1 hq).1;simp at this;omega
  subst CI;rw[List.getElem?_append_right (Nat.le_refl _),Nat.sub_self]at hq;simp at hq;subst hq;exact hl k hk
theorem MR{ps:List PN}{p:PN}(hw:mT ps)(hl:∀k,k∈p.kids->k<ps.length):T (ps++[p]) ps.length=dK p (mU ps p.kids):=by
 unfold T;rw[eo];simp only[List.getElem?_append_right (Nat.le_refl _),Nat.sub_self,List.getElem?_cons_zero];congr 1
 exact mV _ _ (fun k hk=>by
  rw[xE hw _ _ (hl k hk)];exact pW ps hw _ _ k (hl k hk) (Nat.lt_succ_self _))
theorem OO{ps:List PN}{l:List Nat}{k:Nat}:mU ps (l++[k])=wrap64 (mU ps l+T ps k):=by
 unfold mU;rw[List.foldl_append];rfl
def Bd(x:Int)(d:Nat):Prop:=1<=x/\x*2 ^ d<=5 ^ d
theorem gP(d:Nat):(0:Int)<5 ^ d:=Int.pow_pos (by omega)
theorem mW(d:Nat):(0:Int)<2 ^ d:=Int.pow_pos (by omega)
theorem rQ(d:Nat):(2:Int) ^ d<=5 ^ d:=by
 induction d with
 | zero=>decide
 | succ n ih=>rw[Int.pow_succ,Int.pow_succ];have:=gP n;have:=mW n;omega
theorem DO(d:Nat)(h:1<=d):5*(2:Int) ^ d<=2*5 ^ d:=by
 obtain⟨n,rfl⟩:∃n,d=n+1:=⟨d-1,by omega⟩;rw[Int.pow_succ,Int.pow_succ];have:=rQ n;omega
theorem Bd.one(d:Nat):Bd 1 d:=⟨Int.le_refl _,by rw[Int.one_mul];exact rQ d⟩
theorem Bd.small{x:Int}{d:Nat}(h:Bd x d)(hd:d<=40):x<=8271806125530276:=by
 obtain⟨h1,h2⟩:=h;obtain⟨c,hc⟩:∃c,40=d+c:=⟨40-d,by omega⟩;have e:x*2 ^ 40<=5 ^ 40:=by
  rw[hc,Int.pow_add,Int.pow_add,<-Int.mul_assoc];exact Int.mul_le_mul h2 (rQ c) (Int.le_of_lt (mW c)) (Int.le_of_lt (gP d))
 have e2:(2:Int) ^ 40=1099511627776:=by decide
 have e5:(5:Int) ^ 40=9094947017729282379150390625:=by decide
 rw[e2,e5]at e;omega
theorem Bd.mul{x k:Int}{d c:Nat}(h:Bd x d)(hk:Bd k c):Bd (x*k) (d+c):=by
 obtain⟨h1,h2⟩:=h;obtain⟨h3,h4⟩:=hk;refine⟨?_,?_⟩
 ·have:=Int.mul_le_mul h1 h3 (by omega) (by omega:(0:Int)<=x);omega
 ·have e:x*k*2 ^ (d+c)=(x*2 ^ d)*(k*2 ^ c):=by rw[Int.pow_add];ac_rfl
  rw[e,Int.pow_add];exact Int.mul_le_mul h2 h4 (Int.mul_nonneg (by omega) (Int.le_of_lt (mW c))) (Int.le_of_lt (gP d))
theorem R5{x y A B C D:Int}(hx:x*C<=A)(hy:y*D<=B)(hC:0<C)(hD:0<D):(x+y)*(C*D)<=A*D+B*C:=by
 have e:(x+y)*(C*D)=(x*C)*D+(y*D)*C:=by rw[Int.add_mul];congr 1 <;> ac_rfl
 rw[e];have h1:=Int.mul_le_mul_of_nonneg_right hx (Int.le_of_lt hD);have h2:=Int.mul_le_mul_of_nonneg_right hy (Int.le_of_lt hC);omega
theorem Bd.add{x y:Int}{a b:Nat}(hx:Bd x a)(hy:Bd y b)(ha:1<=a)(hb:1<=b):Bd (x+y) (a+b):=by
 refine⟨by have:=hx.1;have:=hy.1;omega,?_⟩;rw[Int.pow_add,Int.pow_add];have h:=R5 hx.2 hy.2 (mW a) (mW b);have h1:=Int.mul_le_mul_of_nonneg_left (DO b hb) (Int.le_of_lt (gP a));have h2:=Int.mul_le_mul_of_nonneg_left (DO a ha) (Int.le_of_lt (gP b));have e1:(5:Int) ^ a*(5*2 ^ b)=5*(5 ^ a*2 ^ b):=by ac_rfl
 have e2:(5:Int) ^ a*(2*5 ^ b)=2*(5 ^ a*5 ^ b):=by ac_rfl
 have e3:(5:Int) ^ b*(5*2 ^ a)=5*(5 ^ b*2 ^ a):=by ac_rfl
 have e4:(5:Int) ^ b*(2*5 ^ a)=2*(5 ^ a*5 ^ b):=by ac_rfl
 rw[e1,e2]at h1;rw[e3,e4]at h2;have h3:=Int.mul_pos (gP a) (gP b);omega
theorem Bd.or{x y:Int}{a b:Nat}(hx:Bd x a)(hy:Bd y b):Bd (x+y) (a+b+1):=by
 refine⟨by have:=hx.1;have:=hy.1;omega,?_⟩;rw[Int.pow_succ,Int.pow_succ,Int.pow_add,Int.pow_add];have h:=R5 hx.2 hy.2 (mW a) (mW b);have h1:=Int.mul_le_mul_of_nonneg_left (rQ b) (Int.le_of_lt (gP a));have h2:=Int.mul_le_mul_of_nonneg_left (rQ a) (Int.le_of_lt (gP b));have e4:(5:Int) ^ b*5 ^ a=5 ^ a*5 ^ b:=by ac_rfl
 rw[e4]at h2;have h3:=Int.mul_pos (gP a) (gP b);have e5:(x+y)*(2 ^ a*2 ^ b*2)=2*((x+y)*(2 ^ a*2 ^ b)):=by ac_rfl
 rw[e5];omega
theorem Bd.more{x:Int}{d c:Nat}(h:Bd x d):Bd x (d+c):=by have:=h.mul (Bd.one c);rwa [Int.mul_one]at this
theorem VY(x y:Int)(hx:1<=x)(hy:1<=y):fA (fA x+fA y)=fA (x+y):=by
 unfold fA;repeat' split
 all_goals omega
theorem VZ(x k:Int)(hx:1<=x)(hk:1<=k):fA (fA x*k)=fA (x*k):=by
 by_cases h:61<x
 ·have e:fA x=61:=if_pos h;rw[e];have h1:x<=x*k:=by have:=Int.mul_le_mul_of_nonneg_left hk (by omega:(0:Int)<=x);omega
  have h2:61<=61*k:=by omega
  unfold fA;rw[if_pos (show 61<x*k by omega)];split
  ·rfl
  ·omega
 ·have e:fA x=x:=if_neg h;rw[e]
abbrev Rel:=Nat->Nat->Prop
def YN(p:PN)(fold:Bool)(t:ByteArray):Rel:=fun i j=>j=i+1/\∃h:i<t.size,Ro p fold t[i].toNat=true
def AX(n:Nat)(R S:Rel):Rel:=fun i j=>∃p,p<n+1/\i<=p/\p<=j/\R i p/\S p j
def AY(R S:Rel):Rel:=fun i j=>i<=j/\(R i j\/S i j)
def HI(n:Nat)(R:Nat->Rel)(l:List Nat):Rel:=l.foldl (fun S k=>AX n S (R k)) (fun i j=>i=j)
def HJ(R:Nat->Rel)(l:List Nat):Rel:=l.foldl (fun S k=>AY S (R k)) (fun _ _=>False)
def xF(n:Nat)(R:Nat->Rel)(p:PN):Rel:=
 match p.kids with
 | []=>fun _ _=>False
 | k :: _=>Ai (R k) (n+1) p.least.toNat p.most
def qB(fold:Bool)(t:ByteArray)(R:Nat->Rel)(p:PN):Rel:=
 if p.kind=1 then YN p fold t
 else if p.kind=2 then fun i j=>i=0/\j=0
 else if p.kind=3 then fun i j=>i=t.size/\j=t.size
 else if p.kind=4 then HI t.size R p.kids
 else if p.kind=5 then HJ R p.kids
 else xF t.size R p
def HK(ps:List PN)(fold:Bool)(t:ByteArray):Nat->Nat->Rel
 | 0,_=>fun _ _=>False
 | f+1,k=>match ps[k]? with
   | none=>fun _ _=>False
   | some p=>qB fold t (HK ps fold t f) p
def j6(ps:List PN)(fold:Bool)(t:ByteArray)(k:Nat):Rel:=HK ps fold t (k+1) k
theorem uv{α β:Type}{f g:α->β->α}:∀(l:List β) (a:α),(∀x,x∈l->∀y,f y x=g y x)->l.foldl f a=l.foldl g a
 | [],_,_=>rfl
 | x :: l,a,h=>by
   rw[List.foldl_cons,List.foldl_cons,h x (by simp)];exact uv l _ (fun z hz y=>h z (by simp[hz]) y)
theorem KL{n:Nat}{R R':Nat->Rel}{l:List Nat}(h:∀k,k∈l->R k=R' k):HI n R l=HI n R' l:=
 uv l _ (fun k hk S=>by rw[h k hk])
theorem KM{R R':Nat->Rel}{l:List Nat}(h:∀k,k∈l->R k=R' k):HJ R l=HJ R' l:=
 uv l _ (fun k hk S=>by rw[h k hk])
theorem yI{fold:Bool}{t:ByteArray}{R R':Nat->Rel}{p:PN}(h:∀k,k∈p.kids->R k=R' k):qB fold t R p=qB fold t R' p:=by
 unfold qB;rw[KL h,KM h];have:xF t.size R p=xF t.size R' p:=by
  unfold xF;cases hk:p.kids with
  | nil=>rfl
  | cons k l=>simp only[];rw[h k (by rw[hk];simp)]
 rw[this]
theorem DP{ps:List PN}{fold:Bool}{t:ByteArray}(hw:mT ps):∀(f g i:Nat),i<f->i<g->HK ps fold t f i=HK ps fold t g i
 | 0,_,_,h,_=>by omega
 | _+1,0,_,_,h=>by omega
 | f+1,g+1,i,h1,h2=>by
   rw[HK,HK];cases hp:ps[i]? with
   | none=>rfl
   | some p=>
     simp only[];exact yI (fun k hk=>by have:=hw i p hp k hk;exact DP hw f g k (by omega) (by omega))
theorem qb{ps:List PN}{fold:Bool}{t:ByteArray}(hw:mT ps){k:Nat}{p:PN}(hp:ps[k]?=some p):j6 ps fold t k=qB fold t (j6 ps fold t) p:=by
 show HK ps fold t (k+1) k=_;rw[HK,hp];simp only[];refine yI (fun j hj=>?_);have:=hw k p hp j hj;exact DP hw k (j+1) j this (Nat.lt_succ_self _)
theorem OP{n:Nat}{R:Nat->Rel}{l:List Nat}{k:Nat}:HI n R (l++[k])=AX n (HI n R l) (R k):=by
 unfold HI;rw[List.foldl_append];rfl
theorem OQ{R:Nat->Rel}{l:List Nat}{k:Nat}:HJ R (l++[k])=AY (HJ R l) (R k):=by
 unfold HJ;rw[List.foldl_append];rfl
section
variable {N:Nat}{M R:Rel}
theorem ey.bd(hM:∀a b,M a b->a<=N/\b<=N/\a<=b):∀{c i j:Nat},ey N M c i j->i<=N/\j<=N/\i<=j
 | 0,i,j,h=>by simp only[ey]at h;omega
 | c+1,i,j,h=>by
   simp only[ey]at h;obtain⟨m,h1,h2⟩:=h;have:=ey.bd hM h1;have:=hM _ _ h2;omega
theorem ey.add(hM:∀a b,M a b->a<=N/\b<=N/\a<=b){a:Nat}:∀{b i j:Nat},ey N M (a+b) i j↔∃p,ey N M a i p/\ey N M b p j
 | 0,i,j=>by
   constructor
   ·intro h;exact⟨j,h,rfl,(ey.bd hM h).2.1⟩
   ·rintro⟨p,h1,rfl,_⟩;exact h1
 | b+1,i,j=>by
   show(∃m,ey N M (a+b) i m/\M m j)↔∃p,ey N M a i p/\∃m,ey N M b p m/\M m j;constructor
   ·rintro⟨m,h1,h2⟩;obtain⟨p,h3,h4⟩:=(ey.add hM).1 h1;exact⟨p,h3,m,h4,h2⟩
   ·rintro⟨p,h3,m,h4,h2⟩;exact⟨m,(ey.add hM).2 ⟨p,h3,h4⟩,h2⟩
theorem ey.cons(hM:∀a b,M a b->a<=N/\b<=N/\a<=b){c i p j:Nat}(h1:M i p)(h2:ey N M c p j):ey N M (c+1) i j:=by
 rw[Nat.add_comm];exact(ey.add hM).2 ⟨p,⟨i,⟨rfl,(hM _ _ h1).1⟩,h1⟩,h2⟩
theorem mX(hM:∀a b,M a b->a<=N/\b<=N/\a<=b)(hR:∀a b,a<=N->b<=N->(R a b↔M a b)):∀(c i j:Nat),i<=N->j<=N->(Ha R (N+1) c i j↔ey N M c i j)
 | 0,i,j,hi,hj=>by
   simp only[Ha,ey];constructor
   ·intro h;exact⟨h,hi⟩
   ·intro h;exact h.1
 | c+1,i,j,hi,hj=>by
   simp only[Ha,ey];constructor
   ·rintro⟨p,h1,_,_,h2,h3⟩;exact⟨p,(mX hM hR c i p hi (by omega)).1 h2,(hR p j (by omega) hj).1 h3⟩
   ·rintro⟨p,h2,h3⟩;have b1:=ey.bd hM h2;have b2:=hM _ _ h3;exact⟨p,by omega,b1.2.2,b2.2.2,(mX hM hR c i p hi b1.2.1).2 h2,(hR p j b1.2.1 hj).2 h3⟩
theorem DQ(hM:∀a b,M a b->a<=N/\b<=N/\a<=b)(hR:∀a b,a<=N->b<=N->(R a b↔M a b)){i j:Nat}(hi:i<=N)(hj:j<=N):EP R (N+1) i j↔∃c,ey N M c i j:=by
 constructor
 ·rintro⟨k,h⟩;have:∀{k i j:Nat},qN R (N+1) k i j->i<=N->∃c,ey N M c i j:=by
   intro k i j h;induction h with
   | refl h=>intro hi;exact⟨0,rfl,hi⟩
   | @step k i m j h0 h1 h2 ih=>
     intro hi;have:=h2.bound;obtain⟨c,hc⟩:=ih (by omega);exact⟨c+1,ey.cons hM ((hR i m hi (by omega)).1 h0) hc⟩
  exact this h hi
 ·rintro⟨c,h⟩;have:∀(c:Nat) {j:Nat},j<=N->ey N M c i j->EP R (N+1) i j:=by
   intro c;induction c with
   | zero=>rintro j hj ⟨rfl,_⟩;exact⟨0,qN.refl (by omega)⟩
   | succ c ih=>
     rintro j hj ⟨m,h1,h2⟩;have b1:=ey.bd hM h1;have b2:=hM _ _ h2;have s1:=ih b1.2.1 h1;by_cases hmj:m=j
     ·rw[<-hmj];exact s1
     ·exact s1.app ⟨1,qN.step ((hR m j b1.2.1 hj).2 h2) (by omega) (qN.refl (by omega))⟩
  exact this c hj h
theorem KN(hM:∀a b,M a b->a<=N/\b<=N/\a<=b)(hR:∀a b,a<=N->b<=N->(R a b↔M a b)){least most:Int}(h0:0<=least)(hm:most = -1\/least<=most){i j:Nat}(hi:i<=N)(hj:j<=N):
 Ai R (N+1) least.toNat most i j↔∃c:Nat,least<=(c:Int)/\(most = -1\/(c:Int)<=most)/\ey N M c i j:=by
 unfold Ai;constructor
 ·rintro(⟨h1,p,h2,h3,h4,h5,h6⟩|⟨h1,h2⟩)
  ·obtain⟨c,hc⟩:=(DQ hM hR (by omega) hj).1 h6;exact⟨least.toNat+c,by omega,Or.inl (by omega),(ey.add hM).2 ⟨p,(mX hM hR _ i p hi (by omega)).1 h5,hc⟩⟩
  ·rcases h2 with h2|⟨m,h2,h3,h4⟩
   ·exact⟨least.toNat,by omega,by omega,(mX hM hR _ i j hi hj).1 h2⟩
   ·exact⟨m,by omega,by omega,(mX hM hR _ i j hi hj).1 h4⟩
 ·rintro⟨c,h1,h2,h3⟩;by_cases Hs:most<0
  ·left;refine⟨Hs,?_⟩;obtain⟨d,rfl⟩:∃d,c=least.toNat+d:=⟨c-least.toNat,by omega⟩;obtain⟨p,h4,h5⟩:=(ey.add hM).1 h3;have b1:=ey.bd hM h4;have b2:=ey.bd hM h5;exact⟨p,by omega,b1.2.2,b2.2.2,(mX hM hR _ i p hi b1.2.1).2 h4,(DQ hM hR b1.2.1 hj).2 ⟨d,h5⟩⟩
  ·right;refine⟨by omega,?_⟩;have h4:=(mX hM hR c i j hi hj).2 h3;by_cases hc:c=least.toNat
   ·left;rw[<-hc];exact h4
   ·right;exact⟨c,by omega,by omega,h4⟩
end
inductive dq (ps:List PN):Nat->Prop
 | leaf {j:Nat} {p:PN}:ps[j]?=some p->(p.kind=1\/p.kind=2\/p.kind=3)->dq ps j
 | many {j:Nat} {p:PN}:ps[j]?=some p->(p.kind=4\/p.kind=5)->(∀k,k∈p.kids->dq ps k)->dq ps j
 | times {j k:Nat} {p:PN}:ps[j]?=some p->p.kind=6->p.kids=[k]->dq ps k->0<=p.least->p.least<=9->-1<=p.most->p.most<=9->dq ps j
theorem Fe{α:Type}{l m:List α}{i:Nat}{x:α}(h:l[i]?=some x):(l++m)[i]?=some x:=by
 rw[List.getElem?_append_left (List.getElem?_eq_some_iff.1 h).1];exact h
theorem dq.app{ps:List PN}{j:Nat}(h:dq ps j)(mp:List PN):dq (ps++mp) j:=by
 induction h with
 | leaf h1 h2=>exact dq.leaf (Fe h1) h2
 | many h1 h2 _ ih=>exact dq.many (Fe h1) h2 ih
 | times h1 h2 h3 _ h4 h5 h6 h7 ih=>exact dq.times (Fe h1) h2 h3 ih h4 h5 h6 h7
theorem qd{α:Type}{l m:List α}{x:α}:(l++[x]++m)[l.length]?=some x:=by
 rw[List.append_assoc,List.getElem?_append_right (Nat.le_refl _),Nat.sub_self];rfl
structure nF (ns:List AN)(i:Nat)(ps:List PN)(j:Nat):Prop where
 iff:∀(mn:List AN) (mp:List PN),mT (ps++mp)->∀(fold:Bool) (t:ByteArray) (a b:Nat),a<=t.size->b<=t.size->(j6 (ps++mp) fold t j a b↔uT (ns++mn) fold t i a b)
 ej:dq ps j
def MS(kind:Int)(n:Nat)(R:Nat->Rel)(l:List Nat):Rel:=if kind=4 then HI n R l else HJ R l
structure nS (kind:Int)(ns:List AN)(i:Nat)(ps:List PN)(l:List Nat):Prop where
 iff:∀(mn:List AN) (mp:List PN),mT (ps++mp)->∀(fold:Bool) (t:ByteArray) (a b:Nat),a<=t.size->b<=t.size->(MS kind t.size (j6 (ps++mp) fold t) l a b↔uT (ns++mn) fold t i a b)
 ej:∀k,k∈l->dq ps k
theorem nF.app{ns:List AN}{i:Nat}{ps:List PN}{j:Nat}(h:nF ns i ps j)(mn:List AN)(mp:List PN):nF (ns++mn) i (ps++mp) j:=⟨fun mn2 mp2 hw fold t a b ha hb=>by
 rw[List.append_assoc]at hw ⊢;rw[List.append_assoc];exact h.iff _ _ hw fold t a b ha hb,h.ej.app mp⟩
theorem nS.app{kind:Int}{ns:List AN}{i:Nat}{ps:List PN}{l:List Nat}(h:nS kind ns i ps l)(mn:List AN)(mp:List PN):nS kind (ns++mn) i (ps++mp) l:=⟨fun mn2 mp2 hw fold t a b ha hb=>by
 rw[List.append_assoc]at hw ⊢;rw[List.append_assoc];exact h.iff _ _ hw fold t a b ha hb,fun k hk=>(h.ej k hk).app mp⟩
def zI(n:AN)(x:PN):Prop:=
 (n.kind=1/\x.kind=1/\∀(fold:Bool) (c:Nat),c<256->eh n fold c=Ro x fold c)\/(n.kind=2/\x.kind=2)\/(n.kind=3/\x.kind=3)\/(n.kind=0/\x.kind=4/\x.kids=[])
theorem nF.leaf{ns:List AN}{ps:List PN}{n:AN}{x:PN}(h:zI n x):nF (ns++[gL n]) ns.length (ps++[x]) ps.length:=by
 refine⟨?_,?ej⟩;case ej=>
  have OR:(ps++[x])[ps.length]?=some x:=by have:=qd (l:=ps) (x:=x) (m:=[]);rwa [List.append_nil]at this
  rcases h with⟨_,h,_⟩|⟨_,h⟩|⟨_,h⟩|⟨_,h,h2⟩
  ·exact dq.leaf OR (Or.inl h)
  ·exact dq.leaf OR (Or.inr (Or.inl h))
  ·exact dq.leaf OR (Or.inr (Or.inr h))
  ·exact dq.many OR (Or.inl h) (fun k hk=>by rw[h2]at hk;cases hk)
 intro mn mp hw fold t a b ha hb;have hn:(ns++[gL n]++mn)[ns.length]?=some (gL n):=qd;have hx:(ps++[x]++mp)[ps.length]?=some x:=qd;have oT:(gL n).kind=n.kind:=rfl;rw[qb hw hx];unfold qB;rcases h with⟨h1,h2,h3⟩|⟨h1,h2⟩|⟨h1,h2⟩|⟨h1,h2,h3⟩
 ·rw[if_pos h2,uT.one hn (by rw[oT];omega)];unfold Go1 YN;constructor
  ·rintro⟨h4,h5,h6⟩;exact⟨_,hn,Or.inl ⟨h1,h4,h5,(h3 fold _ t[a].toNat_lt).trans h6⟩⟩
  ·rintro⟨n',h4,h5⟩;rw[hn]at h4;simp only[Option.some.injEq]at h4;subst h4;rcases h5 with⟨_,h5,h6,h7⟩|⟨h5,_⟩|⟨h5,_⟩
   ·exact⟨h5,h6,(h3 fold _ t[a].toNat_lt).symm.trans h7⟩
   ·rw[oT]at h5;omega
   ·rw[oT]at h5;omega
 ·rw[if_neg (by omega),if_pos h2,uT.one hn (by rw[oT];omega)];unfold Go1;constructor
  ·rintro h4;exact⟨_,hn,Or.inr (Or.inl ⟨h1,h4⟩)⟩
  ·rintro⟨n',h4,h5⟩;rw[hn]at h4;simp only[Option.some.injEq]at h4;subst h4;rcases h5 with⟨h5,_⟩|⟨_,h5⟩|⟨h5,_⟩
   ·rw[oT]at h5;omega
   ·exact h5
   ·rw[oT]at h5;omega
 ·rw[if_neg (by omega),if_neg (by omega),if_pos h2,uT.one hn (by rw[oT];omega)];unfold Go1;constructor
  ·rintro h4;exact⟨_,hn,Or.inr (Or.inr ⟨h1,h4⟩)⟩
  ·rintro⟨n',h4,h5⟩;rw[hn]at h4;simp only[Option.some.injEq]at h4;subst h4;rcases h5 with⟨h5,_⟩|⟨h5,_⟩|⟨_,h5⟩
   ·rw[oT]at h5;omega
   ·rw[oT]at h5;omega
   ·exact h5
 ·rw[if_neg (by omega),if_neg (by omega),if_neg (by omega),if_pos h2,h3,uT.zero hn h1];show a=b↔_;exact⟨fun h=>⟨h,ha⟩,fun h=>h.1⟩
theorem nF.times{ns:List AN}{ps:List PN}{i j:Nat}(h:nF ns i ps j){n:AN}{x:PN}(hn:n.kind=6)(hl:n.left=(i:Int))(hx:x.kind=6)(hk:x.kids=[j])(e1:n.least=x.least)(e2:n.most=x.most)(h0:0<=x.least)(h9:x.least<=9)(m0:-1<=x.most)(m9:x.most<=9)(hm:x.most = -1\/x.least<=x.most):
 nF (ns++[gL n]) ns.length (ps++[x]) ps.length:=by
 refine⟨?_,?ej⟩;case ej=>
  have OR:(ps++[x])[ps.length]?=some x:=by have:=qd (l:=ps) (x:=x) (m:=[]);rwa [List.append_nil]at this
  exact dq.times OR hx hk (h.ej.app _) h0 h9 m0 m9
 intro mn mp hw fold t a b ha hb;have uU:(ns++[gL n]++mn)[ns.length]?=some (gL n):=qd;have hx2:(ps++[x]++mp)[ps.length]?=some x:=qd;rw[qb hw hx2,uT.many uU hn hl];unfold qB;rw[if_neg (by omega),if_neg (by omega),if_neg (by omega),if_neg (by omega),if_neg (by omega)];unfold xF;rw[hk];simp only[];have hh:=(h.app [gL n] [x]).iff mn mp hw fold t;have:=KN (N:=t.size) (M:=uT (ns++[gL n]++mn) fold t i) (R:=j6 (ps++[x]++mp) fold t j) (fun a b h=>h.le) (fun a b ha hb=>hh a b ha hb) h0 hm ha hb;rw[this];show _↔∃c:Nat,n.least<=(c:Int)/\(n.most = -1\/(c:Int)<=n.most)/\_;rw[e1,e2]
theorem nS.one{kind:Int}{ns:List AN}{i:Nat}{ps:List PN}{j:Nat}(h:nF ns i ps j):nS kind ns i ps [j]:=by
 refine⟨?_,fun k hk=>by simp at hk;subst hk;exact h.ej⟩;intro mn mp hw fold t a b ha hb;have hh:=h.iff mn mp hw fold t a b ha hb;unfold MS;split
 ·show AX t.size (fun i j=>i=j) (j6 (ps++mp) fold t j) a b↔_;unfold AX;constructor
  ·rintro⟨p,h1,_,_,rfl,h2⟩;exact hh.1 h2
  ·intro h1;exact⟨a,by omega,Nat.le_refl _,h1.le.2.2,rfl,hh.2 h1⟩
 ·show AY (fun _ _=>False) (j6 (ps++mp) fold t j) a b↔_;unfold AY;constructor
  ·rintro⟨_,h1|h1⟩
   ·exact h1.elim
   ·exact hh.1 h1
  ·intro h1;exact⟨h1.le.2.2,Or.inr (hh.2 h1)⟩
theorem nS.next{kind:Int}(tS:kind=4\/kind=5){ns:List AN}{i:Nat}{ps:List PN}{l:List Nat}{r:Nat}{j:Nat}(h:nS kind ns i ps l)(h2:nF ns r ps j){n:AN}(hn:n.kind=kind)(hl:n.left=(i:Int))(hr:n.right=(r:Int)):
 nS kind (ns++[gL n]) ns.length ps (l++[j]):=by
 refine⟨?_,fun k hk=>by
  rcases List.mem_append.1 hk with hk|hk
  ·exact h.ej k hk
  ·simp at hk;subst hk;exact h2.ej⟩
 intro mn mp hw fold t a b ha hb;have uU:(ns++[gL n]++mn)[ns.length]?=some (gL n):=qd;have x1:=fun a b ha hb=>h.iff ([gL n]++mn) mp hw fold t a b ha hb;have x2:=fun a b ha hb=>h2.iff ([gL n]++mn) mp hw fold t a b ha hb;rw[<-List.append_assoc]at x1 x2;unfold MS at x1 ⊢;rcases tS with rfl|rfl
 ·rw[if_pos rfl]at x1 ⊢;rw[OP,uT.two uU hn hl hr];unfold AX;constructor
  ·rintro⟨p,h1,_,_,h3,h4⟩;exact⟨p,(x1 a p ha (by omega)).1 h3,(x2 p b (by omega) hb).1 h4⟩
  ·rintro⟨p,h3,h4⟩;have b1:=h3.le;have b2:=h4.le;exact⟨p,by omega,b1.2.2,b2.2.2,(x1 a p ha b1.2.1).2 h3,(x2 p b b1.2.1 hb).2 h4⟩
 ·rw[if_neg (by decide)]at x1 ⊢;rw[OQ,uT.alt uU hn hl hr];unfold AY;constructor
  ·rintro⟨_,h1|h1⟩
   ·exact Or.inl ((x1 a b ha hb).1 h1)
   ·exact Or.inr ((x2 a b ha hb).1 h1)
  ·rintro(h1|h1)
   ·exact⟨h1.le.2.2,Or.inl ((x1 a b ha hb).2 h1)⟩
   ·exact⟨h1.le.2.2,Or.inr ((x2 a b ha hb).2 h1)⟩
theorem nS.fin{kind:Int}(tS:kind=4\/kind=5){ns:List AN}{i:Nat}{ps:List PN}{l:List Nat}(h:nS kind ns i ps l){x:PN}(hx:x.kind=kind)(hk:x.kids=l):nF ns i (ps++[x]) ps.length:=by
 refine⟨?_,?ej⟩;case ej=>
  have OR:(ps++[x])[ps.length]?=some x:=by have:=qd (l:=ps) (x:=x) (m:=[]);rwa [List.append_nil]at this
  exact dq.many OR (by rw[hx];exact tS) (fun k JL=>by rw[hk]at JL;exact(h.ej k JL).app _)
 intro mn mp hw fold t a b ha hb;have hx2:(ps++[x]++mp)[ps.length]?=some x:=qd;rw[qb hw hx2];have x1:=h.iff mn ([x]++mp) (by rw[<-List.append_assoc];exact hw) fold t a b ha hb;rw[<-List.append_assoc]at x1;unfold MS at x1;unfold qB;rcases tS with rfl|rfl
 ·rw[if_pos rfl]at x1;rw[if_neg (by omega),if_neg (by omega),if_neg (by omega),if_pos hx,hk];exact x1
 ·rw[if_neg (by decide)]at x1;rw[if_neg (by omega),if_neg (by omega),if_neg (by omega),if_neg (by omega),if_pos hx,hk];exact x1
end Go.Proofs.YtgifhgnccmnbiabGreatDoor
