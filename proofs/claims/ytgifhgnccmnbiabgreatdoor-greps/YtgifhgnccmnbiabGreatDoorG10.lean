/- Part of the proof. -/
import Derived.Test.YtgifhgnccmnbiabGreatDoorG09
import Derived.Test.YtgifhgnccmnbiabGreatDoorG03
import Derived.Deep.RegionLaw
import Derived.Test.YtgifhgnccmnbiabGreatDoorG02
set_option linter.unusedVariables false
set_option linter.unusedSimpArgs false
set_option maxHeartbeats 4000000
set_option maxRecDepth 100000
namespace Go.Proofs.YtgifhgnccmnbiabGreatDoor
structure DN where
 kind:Int
 part:Nat:=0
 next:Nat:=0
 other:Nat:=0
def bK(a b:Nat):DN:={kind:=7,next:=a,other:=b}
def vR(ps:List PN)(fold:Bool)(t:ByteArray)(x:DN)(a j b:Nat):Prop:=
 (x.kind=7/\(j=x.next\/j=x.other)/\b=a)\/(x.kind=2/\j=x.next/\a=0/\b=0)\/(x.kind=3/\j=x.next/\a=t.size/\b=t.size) \/
 (x.kind=1/\j=x.next/\∃p,ps[x.part]?=some p/\YN p fold t a b)
theorem vR.bd{ps:List PN}{fold:Bool}{t:ByteArray}{x:DN}{a j b:Nat}(h:vR ps fold t x a j b)(ha:a<=t.size):a<=b/\b<=t.size:=by
 rcases h with⟨_,_,rfl⟩|⟨_,_,rfl,rfl⟩|⟨_,_,rfl,rfl⟩|⟨_,_,p,_,rfl,h,_⟩ <;> omega
inductive bT (ps:List PN)(fold:Bool)(t:ByteArray)(N:List DN)(lo hi nx:Nat):Nat->Nat->Nat->Prop
 | done (a:Nat):bT ps fold t N lo hi nx nx a a
 | step {i a j b m:Nat} {x:DN}:lo<=i->i<hi->N[i]?=some x->vR ps fold t x a j b->bT ps fold t N lo hi nx j b m->bT ps fold t N lo hi nx i a m
section
variable {ps:List PN}{fold:Bool}{t:ByteArray}{N N':List DN}{lo hi nx i a m:Nat}
theorem bT.bd(h:bT ps fold t N lo hi nx i a m):a<=t.size->a<=m/\m<=t.size:=by
 induction h with
 | done a=>intro h;exact⟨Nat.le_refl _,h⟩
 | step h1 h2 h3 h4 _ ih=>
   intro ha;have:=h4.bd ha;have:=ih this.2;omega
theorem bT.agree(h:bT ps fold t N lo hi nx i a m)(e:∀k,lo<=k->k<hi->N'[k]?=N[k]?):bT ps fold t N' lo hi nx i a m:=by
 induction h with
 | done a=>exact bT.done a
 | step h1 h2 h3 h4 _ ih=>exact bT.step h1 h2 ((e _ h1 h2).trans h3) h4 ih
theorem bT.join{QS Vl wX p:Nat}(h:bT ps fold t N lo hi nx i a p)(h1:QS<=lo)(h2:hi<=Vl)(h3:bT ps fold t N QS Vl wX nx p m):bT ps fold t N QS Vl wX i a m:=by
 induction h with
 | done a=>exact h3
 | step g1 g2 g3 g4 _ ih=>exact bT.step (by omega) (by omega) g3 g4 (ih h3)
theorem bT.out(h:bT ps fold t N lo hi nx i a m)(hn:nx<lo)(hi:i=nx):a=m:=by
 cases h with
 | done=>rfl
 | step h1 h2=>omega
def uw(x:DN)(lo hi nx:Nat):Prop:=
 (x.next=nx\/(lo<=x.next/\x.next<hi))/\(x.kind=7->x.other=nx\/(lo<=x.other/\x.other<hi))
theorem uw.edge{x:DN}{j b:Nat}(h:uw x lo hi nx)(he:vR ps fold t x a j b):j=nx\/(lo<=j/\j<hi):=by
 rcases he with⟨hk,h1|h1,_⟩|⟨_,h1,_⟩|⟨_,h1,_⟩|⟨_,h1,_⟩
 ·rw[h1];exact h.1
 ·rw[h1];exact h.2 hk
 ·rw[h1];exact h.1
 ·rw[h1];exact h.1
 ·rw[h1];exact h.1
theorem uw.wide{x:DN}{QS Vl wX:Nat}(h:uw x lo hi nx)(h1:QS<=lo)(h2:hi<=Vl)(h3:nx=wX\/(QS<=nx/\nx<Vl)):uw x QS Vl wX:=by
 refine⟨?_,fun hk=>?_⟩
 ·rcases h.1 with h4|h4
  ·rw[h4];exact h3
  ·right;omega
 ·rcases h.2 hk with h4|h4
  ·rw[h4];exact h3
  ·right;omega
theorem bT.narrow{QS Vl wX:Nat}(h:bT ps fold t N QS Vl wX i a m)(h1:QS<=lo)(hn:wX<QS)(hc:∀k x,lo<=k->k<hi->N[k]?=some x->uw x lo hi nx):
 (i=nx\/(lo<=i/\i<hi))->∃p,bT ps fold t N lo hi nx i a p/\bT ps fold t N QS Vl wX nx p m:=by
 induction h with
 | done a=>
   intro hi;obtain rfl:wX=nx:=by omega
   exact⟨a,bT.done a,bT.done a⟩
 | @step i a j b m x g1 g2 g3 g4 g5 ih=>
   intro hi;rcases hi with rfl|⟨hi1,CI⟩
   ·exact⟨a,bT.done a,bT.step g1 g2 g3 g4 g5⟩
   ·obtain⟨p,h3,h4⟩:=ih ((hc i x hi1 CI g3).edge g4);exact⟨p,bT.step hi1 CI g3 g4 h3,h4⟩
end
def NodeD(ps:List PN)(x:DN):Prop:=x.kind=7\/((x.kind=1\/x.kind=2\/x.kind=3)/\∃p,ps[x.part]?=some p/\p.kind=x.kind)
structure gI (ps:List PN)(N:List DN)(lo hi nx at_:Nat)(R:Bool->ByteArray->Rel):Prop where
 le:lo<=hi
 len:hi<=N.length
 low:nx<lo
 first:at_=nx\/(lo<=at_/\at_<hi)
 goes:∀k x,lo<=k->k<hi->N[k]?=some x->uw x lo hi nx
 ok:∀k x,lo<=k->k<hi->N[k]?=some x->NodeD ps x
 iff:∀(fold:Bool) (t:ByteArray) (a m:Nat),a<=t.size->(bT ps fold t N lo hi nx at_ a m↔R fold t a m)
section
variable {ps:List PN}{N N':List DN}{lo mid hi nx HM vS:Nat}{R R1 R2:Bool->ByteArray->Rel}
theorem gI.agree(h:gI ps N lo hi nx HM R)(e:∀k,lo<=k->k<hi->N'[k]?=N[k]?)(hl:hi<=N'.length):gI ps N' lo hi nx HM R:=
 ⟨h.le,hl,h.low,h.first,fun k x a b c=>h.goes k x a b ((e k a b).symm.trans c),fun k x a b c=>h.ok k x a b ((e k a b).symm.trans c),
  fun fold t a m ha=>⟨fun g=>(h.iff fold t a m ha).1 (g.agree (fun k c d=>(e k c d).symm)),fun g=>((h.iff fold t a m ha).2 g).agree e⟩⟩
theorem gI.more(h:gI ps N lo hi nx HM R)(M:List DN):gI ps (N++M) lo hi nx HM R:=
 h.agree (fun k _ hk=>List.getElem?_append_left (Nat.lt_of_lt_of_le hk h.len)) (by rw[List.length_append];have:=h.len;omega)
theorem gI.vT(h:gI ps N lo hi nx HM R)(e:∀fold t a m,a<=t.size->(R fold t a m↔R2 fold t a m)):gI ps N lo hi nx HM R2:=
 ⟨h.le,h.len,h.low,h.first,h.goes,h.ok,fun fold t a m ha=>(h.iff fold t a m ha).trans (e fold t a m ha)⟩
theorem gI.bd(h:gI ps N lo hi nx HM R){fold:Bool}{t:ByteArray}{a m:Nat}(ha:a<=t.size)(hr:R fold t a m):a<=m/\m<=t.size:=((h.iff fold t a m ha).2 hr).bd ha
theorem gI.none(hn:nx<lo)(hl:lo<=N.length):gI ps N lo lo nx nx (fun _ _ a m=>a=m):=
 ⟨Nat.le_refl _,hl,hn,Or.inl rfl,fun k x a b=>by omega,fun k x a b=>by omega,fun fold t a m ha=>⟨fun h=>h.out hn rfl,fun h=>by rw[h];exact bT.done _⟩⟩
theorem gI.one{x:DN}(hn:nx<N.length)(hx:x.next=nx)(hk:x.kind=1\/x.kind=2\/x.kind=3){p:PN}(hp:ps[x.part]?=some p)(hpk:p.kind=x.kind):
 gI ps (N++[x]) N.length (N.length+1) nx N.length (fun fold t a m=>vR ps fold t x a nx m):=by
 have hN:(N++[x])[N.length]?=some x:=by rw[List.getElem?_append_right (Nat.le_refl _),Nat.sub_self];rfl
 have get:∀k y,N.length<=k->k<N.length+1->(N++[x])[k]?=some y->y=x:=fun k y a b c=>by
  obtain rfl:k=N.length:=by omega
  rw[hN]at c;exact(Option.some.inj c).symm
 refine⟨by omega,by simp,hn,Or.inr ⟨by omega,by omega⟩,fun k y a b c=>?_,fun k y a b c=>?_,fun fold t a m ha=>⟨fun h=>?_,fun h=>?_⟩⟩
 ·rw[get k y a b c];exact⟨Or.inl hx,fun h=>by omega⟩
 ·rw[get k y a b c];exact Or.inr ⟨hk,p,hp,hpk⟩
 ·cases h with
  | done=>omega
  | @step i a j b m y h1 h2 h3 h4 h5=>
    rw[hN]at h3;obtain rfl:=Option.some.inj h3;have hj:j=nx:=by
     rcases h4 with⟨Vf,_⟩|⟨_,h4,_⟩|⟨_,h4,_⟩|⟨_,h4,_⟩ <;> omega
    subst hj;have:=h5.out (by omega) rfl;subst this;exact h4
 ·exact bT.step (Nat.le_refl _) (by omega) hN h (bT.done m)
theorem gI.seq(h2:gI ps N lo mid nx vS R2)(h1:gI ps N mid hi vS HM R1):gI ps N lo hi nx HM (fun fold t a m=>∃p,R1 fold t a p/\R2 fold t p m):=by
 have l1:=h1.le;have l2:=h2.le;have n2:=h2.low;refine⟨by omega,h1.len,n2,?_,fun k x a b c=>?_,fun k x a b c=>?_,fun fold t a m ha=>⟨fun h=>?_,?_⟩⟩
 ·rcases h1.first with h | h
  ·rw[h];rcases h2.first with h | h
   ·exact Or.inl h
   ·right;omega
  ·right;omega
 ·by_cases hk:k<mid
  ·exact(h2.goes k x a hk c).wide (Nat.le_refl _) l1 (Or.inl rfl)
  ·refine(h1.goes k x (by omega) b c).wide l2 (Nat.le_refl _) ?_;rcases h2.first with h | h
   ·exact Or.inl h
   ·right;omega
 ·by_cases hk:k<mid
  ·exact h2.ok k x a hk c
  ·exact h1.ok k x (by omega) b c
 ·obtain⟨p,g1,g2⟩:=h.narrow l2 n2 h1.goes h1.first;obtain⟨q,g3,g4⟩:=g2.narrow (Nat.le_refl _) n2 h2.goes h2.first;have:=g4.out n2 rfl;subst this;exact⟨p,(h1.iff fold t a p ha).1 g1,(h2.iff fold t p q (g1.bd ha).2).1 g3⟩
 ·rintro⟨p,g1,g2⟩;have YO:=(h1.iff fold t a p ha).2 g1;have g2':=(h2.iff fold t p m (YO.bd ha).2).2 g2;exact YO.join l2 (Nat.le_refl _) (g2'.join (Nat.le_refl _) l1 (bT.done m))
theorem gI.fork(h1:gI ps N lo mid nx HM R1)(h2:gI ps N mid N.length nx vS R2){b1 b2:Nat}(hb:(b1=HM/\b2=vS)\/(b1=vS/\b2=HM)):
 gI ps (N++[bK b1 b2]) lo (N.length+1) nx N.length (fun fold t a m=>R1 fold t a m\/R2 fold t a m):=by
 have l1:=h1.le;have l2:=h2.le;have n1:=h1.low;have hN:(N++[bK b1 b2])[N.length]?=some (bK b1 b2):=by rw[List.getElem?_append_right (Nat.le_refl _),Nat.sub_self];rfl
 have e1:=h1.more [bK b1 b2];have e2:=h2.more [bK b1 b2];have f1:HM=nx\/(lo<=HM/\HM<N.length+1):=by
  rcases h1.first with h | h
  ·exact Or.inl h
  ·right;omega
 have f2:vS=nx\/(lo<=vS/\vS<N.length+1):=by
  rcases h2.first with h | h
  ·exact Or.inl h
  ·right;omega
 refine⟨by omega,by simp,n1,Or.inr ⟨by omega,by omega⟩,fun k x a b c=>?_,fun k x a b c=>?_,fun fold t a m ha=>⟨fun h=>?_,?_⟩⟩
 ·by_cases hk:k<mid
  ·exact(e1.goes k x a hk c).wide (Nat.le_refl _) (by omega) (Or.inl rfl)
  ·by_cases gH:k<N.length
   ·exact(e2.goes k x (by omega) gH c).wide l1 (by omega) (Or.inl rfl)
   ·obtain rfl:k=N.length:=by omega
    rw[hN]at c;obtain rfl:=Option.some.inj c;rcases hb with⟨rfl,rfl⟩|⟨rfl,rfl⟩
    ·exact⟨f1,fun _=>f2⟩
    ·exact⟨f2,fun _=>f1⟩
 ·by_cases hk:k<mid
  ·exact e1.ok k x a hk c
  ·by_cases gH:k<N.length
   ·exact e2.ok k x (by omega) gH c
   ·obtain rfl:k=N.length:=by omega
    rw[hN]at c;obtain rfl:=Option.some.inj c;exact Or.inl rfl
 ·cases h with
  | done=>omega
  | @step i a j b m y g1 g2 g3 g4 g5=>
    rw[hN]at g3;obtain rfl:=Option.some.inj g3;obtain⟨hj,rfl⟩:(j=HM\/j=vS)/\b=a:=by
     rcases g4 with⟨_,h,h'⟩|⟨hk,_⟩|⟨hk,_⟩|⟨hk,_⟩
     ·refine⟨?_,h'⟩;rcases hb with⟨rfl,rfl⟩|⟨rfl,rfl⟩
      ·exact h
      ·exact h.symm
     ·exact absurd hk (by show ¬(7:Int)=_;decide)
     ·exact absurd hk (by show ¬(7:Int)=_;decide)
     ·exact absurd hk (by show ¬(7:Int)=_;decide)
    rcases hj with rfl|rfl
    ·obtain⟨p,q1,q2⟩:=g5.narrow (Nat.le_refl _) n1 e1.goes e1.first;have:=q2.out n1 rfl;subst this;exact Or.inl ((e1.iff fold t b p ha).1 q1)
    ·obtain⟨p,q1,q2⟩:=g5.narrow l1 n1 e2.goes e2.first;have:=q2.out n1 rfl;subst this;exact Or.inr ((e2.iff fold t b p ha).1 q1)
 ·have ed:∀j,(j=HM\/j=vS)->vR ps fold t (bK b1 b2) a j a:=fun j hj=>Or.inl ⟨rfl,by
   rcases hb with⟨rfl,rfl⟩|⟨rfl,rfl⟩
   ·exact hj
   ·exact hj.symm,rfl⟩
  rintro(h|h)
  ·exact bT.step (by omega) (by omega) hN (ed _ (Or.inl rfl)) (((e1.iff fold t a m ha).2 h).join (Nat.le_refl _) (by omega) (bT.done m))
  ·exact bT.step (by omega) (by omega) hN (ed _ (Or.inr rfl)) (((e2.iff fold t a m ha).2 h).join l1 (by omega) (bT.done m))
inductive Ff (R:Rel):Rel
 | refl (a:Nat):Ff R a a
 | step {a p m:Nat}:R a p->Ff R p m->Ff R a m
theorem gI.loop{k:Nat}(hn:nx<lo)(h:gI ps N (lo+1) hi lo k R)(hf:N[lo]?=some (bK nx k)):gI ps N lo hi nx lo (fun fold t=>Ff (R fold t)):=by
 have l1:=h.le;have hlh:lo<hi:=by omega
 have hk:k=nx\/(lo<=k/\k<hi):=by
  rcases h.first with h | h
  ·right;omega
  ·right;omega
 refine⟨by omega,h.len,hn,Or.inr ⟨Nat.le_refl _,by omega⟩,fun q x a b c=>?_,fun q x a b c=>?_,fun fold t a m ha=>⟨fun g=>?_,fun g=>?_⟩⟩
 ·by_cases hq:q=lo
  ·subst hq;rw[hf]at c;obtain rfl:=Option.some.inj c;exact⟨Or.inl rfl,fun _=>hk⟩
  ·exact(h.goes q x (by omega) b c).wide (by omega) (Nat.le_refl _) (Or.inr ⟨Nat.le_refl _,by omega⟩)
 ·by_cases hq:q=lo
  ·subst hq;rw[hf]at c;obtain rfl:=Option.some.inj c;exact Or.inl rfl
  ·exact h.ok q x (by omega) b c
 ·have key:∀i a m,bT ps fold t N lo hi nx i a m->a<=t.size->(i=nx->a=m)/\(i=lo->Ff (R fold t) a m)/\(lo+1<=i->i<hi->∃p,bT ps fold t N (lo+1) hi lo i a p/\Ff (R fold t) p m):=by
   intro i a m g;induction g with
   | done a=>intro ha;exact⟨fun _=>rfl,fun _=>Ff.refl a,fun h _=>by omega⟩
   | @step i a j b m x g1 g2 g3 g4 g5 ih=>
     intro ha;have hb:=g4.bd ha;obtain⟨i1,i2,i3⟩:=ih hb.2;refine⟨fun h=>by omega,fun hi=>?_,fun q1 q2=>?_⟩
     ·subst hi;rw[hf]at g3;obtain rfl:=Option.some.inj g3;rcases g4 with⟨_,hj,rfl⟩|⟨hk,_⟩|⟨hk,_⟩|⟨hk,_⟩
      ·rcases hj with hj|hj
       ·rw[i1 hj];exact Ff.refl m
       ·rcases h.first with rJ | rJ
        ·exact i2 (hj.trans rJ)
        ·obtain⟨p,q1,q2⟩:=i3 (by rw[hj];exact rJ.1) (by rw[hj];exact rJ.2);have hj':j=k:=hj;rw[hj']at q1;exact Ff.step ((h.iff fold t b p ha).1 q1) q2
      ·exact absurd hk (by show ¬(7:Int)=_;decide)
      ·exact absurd hk (by show ¬(7:Int)=_;decide)
      ·exact absurd hk (by show ¬(7:Int)=_;decide)
     ·rcases (h.goes i x q1 q2 g3).edge g4 with hj|hj
      ·exact⟨b,bT.step q1 q2 g3 g4 (by rw[hj];exact bT.done b),i2 hj⟩
      ·obtain⟨p,q3,q4⟩:=i3 hj.1 hj.2;exact⟨p,bT.step q1 q2 g3 g4 q3,q4⟩
  exact(key lo a m g ha).2.1 rfl
 ·have key:∀a m,Ff (R fold t) a m->a<=t.size->bT ps fold t N lo hi nx lo a m:=by
   intro a m g;induction g with
   | refl a=>intro _;exact bT.step (Nat.le_refl _) (by omega) hf (Or.inl ⟨rfl,Or.inl rfl,rfl⟩) (bT.done a)
   | @step a p m g1 _ ih=>
     intro ha;have YO:=(h.iff fold t a p ha).2 g1;exact bT.step (Nat.le_refl _) (by omega) hf (Or.inl ⟨rfl,Or.inr rfl,rfl⟩) (YO.join (by omega) (Nat.le_refl _) (ih (YO.bd ha).2))
  exact key a m g ha
end
abbrev jO:=Nat×List DN
def lX(f:Nat->Nat->List DN->jO):List Nat->jO->jO
 | [],s=>s
 | k :: l,s=>f k (lX f l s).1 (lX f l s).2
def lY(f:Nat->Nat->List DN->jO)(nx:Nat)(s:jO)(k:Nat):jO:=((f k nx s.2).2.length,(f k nx s.2).2++[bK s.1 (f k nx s.2).1])
def YP(f:Nat->Nat->List DN->jO)(nx:Nat)(N:List DN):List Nat->jO
 | []=>(nx,N)
 | k :: l=>l.foldl (lY f nx) (f k nx N)
def Fg(g:Nat->List DN->jO)(nx:Nat)(s:jO):jO:=((g s.1 s.2).2.length,(g s.1 s.2).2++[bK (g s.1 s.2).1 nx])
def j7(g:Nat->List DN->jO)(nx:Nat):Nat->jO->jO
 | 0,s=>s
 | c+1,s=>Fg g nx (j7 g nx c s)
def fN(g:Nat->List DN->jO):Nat->jO->jO
 | 0,s=>s
 | c+1,s=>g (fN g c s).1 (fN g c s).2
def kZ(g:Nat->List DN->jO)(nx:Nat)(N:List DN):jO:=
 ((g N.length (N++[bK nx nx])).1,(g N.length (N++[bK nx nx])).2.set N.length (bK nx (g N.length (N++[bK nx nx])).1))
def qe(g:Nat->List DN->jO)(least most:Int)(nx:Nat)(N:List DN):jO:=
 if most<0 then (if 0<least then fN g (least.toNat-1) (kZ g nx N) else (N.length,(kZ g nx N).2))
 else fN g least.toNat (j7 g nx (most-least).toNat (nx,N))
def aT(ps:List PN):Nat->Nat->Nat->List DN->jO
 | 0,_,nx,N=>(nx,N)
 | f+1,k,nx,N=>match ps[k]? with
   | none=>(nx,N)
   | some p=>
     if p.kind=4 then lX (aT ps f) p.kids (nx,N)
     else if p.kind=5 then YP (aT ps f) nx N p.kids
     else if p.kind=6 then qe (aT ps f (p.kids.headD 0)) p.least p.most nx N
     else (N.length,N++[{kind:=p.kind,part:=k,next:=nx}])
abbrev gz:=Bool->ByteArray->Rel
structure qg (ps:List PN)(N:List DN)(nx:Nat)(s:jO)(R:gz):Prop where
 more:∃M,s.2=N++M
 mY:gI ps s.2 N.length s.2.length nx s.1 R
def cS(ps:List PN)(g:Nat->List DN->jO)(R:gz):Prop:=∀(nx:Nat) (N:List DN),nx<N.length->qg ps N nx (g nx N) R
section
variable {ps:List PN}{N:List DN}{nx:Nat}{s:jO}{R S:gz}{g:Nat->List DN->jO}
theorem qg.lt(h:qg ps N nx s R):s.1<s.2.length:=by
 have h1:=h.mY.low;have h2:=h.mY.le;rcases h.mY.first with h3 | h3
 ·omega
 ·exact h3.2
theorem qg.vT(h:qg ps N nx s R)(e:∀fold t a m,a<=t.size->(R fold t a m↔S fold t a m)):qg ps N nx s S:=⟨h.more,h.mY.vT e⟩
theorem qg.none(hn:nx<N.length):qg ps N nx (nx,N) (fun _ _ a m=>a=m):=⟨⟨[],by simp⟩,gI.none hn (Nat.le_refl _)⟩
theorem qg.front(h:qg ps N nx s S)(hg:cS ps g R):qg ps N nx (g s.1 s.2) (fun fold t a m=>∃p,R fold t a p/\S fold t p m):=by
 have h2:=hg s.1 s.2 h.lt;obtain⟨M,hM⟩:=h.more;obtain⟨M2,MT⟩:=h2.more;refine⟨⟨M++M2,by rw[MT,hM,List.append_assoc]⟩,?_⟩;have f1:=h.mY.more M2;rw[<-MT]at f1;exact gI.seq f1 h2.mY
theorem qg.either{f:Nat->Nat->List DN->jO}{k:Nat}(h:qg ps N nx s S)(hg:cS ps (f k) R):qg ps N nx (lY f nx s k) (fun fold t a m=>S fold t a m\/R fold t a m):=by
 have hn:=h.mY.low;obtain⟨M,hM⟩:=h.more;have hl:N.length<=s.2.length:=by rw[hM,List.length_append];omega
 have h2:=hg nx s.2 (by omega);obtain⟨M2,MT⟩:=h2.more;have f1:=h.mY.more M2;rw[<-MT]at f1;have f2:=gI.fork f1 h2.mY (Or.inl ⟨rfl,rfl⟩);refine⟨⟨M++M2++[bK s.1 (f k nx s.2).1],by unfold lY;simp only[];rw[MT,hM];simp⟩,?_⟩;unfold lY;simp only[List.length_append,List.length_cons,List.length_nil,Nat.zero_add];exact f2
theorem qg.maybe(h:qg ps N nx s S)(hg:cS ps g R):qg ps N nx (Fg g nx s) (fun fold t a m=>(∃p,R fold t a p/\S fold t p m)\/a=m):=by
 have h2:=h.front hg;obtain⟨M,hM⟩:=h2.more;have hn:=h.mY.low;have hl:N.length<=(g s.1 s.2).2.length:=by rw[hM,List.length_append];omega
 have f2:=gI.fork h2.mY (gI.none (ps:=ps) (N:=(g s.1 s.2).2) (lo:=(g s.1 s.2).2.length) (nx:=nx) (by omega) (Nat.le_refl _)) (Or.inl ⟨rfl,rfl⟩);refine⟨⟨M++[bK (g s.1 s.2).1 nx],by unfold Fg;simp only[];rw[hM];simp⟩,?_⟩;unfold Fg;simp only[List.length_append,List.length_cons,List.length_nil,Nat.zero_add];exact f2
theorem get_set_other{l:List DN}{i k:Nat}{x:DN}(h:i≠k):(l.set i x)[k]?=l[k]?:=by rw[List.getElem?_set_ne h]
theorem qg.loop(hn:nx<N.length)(hg:cS ps g R):qg ps N nx (N.length,(kZ g nx N).2) (fun fold t=>Ff (R fold t))/\qg ps N nx (kZ g nx N) (fun fold t a m=>∃p,R fold t a p/\Ff (R fold t) p m):=by
 have h:=hg N.length (N++[bK nx nx]) (by simp);obtain⟨M,hM⟩:=h.more;have hlen:(g N.length (N++[bK nx nx])).2.length=N.length+1+M.length:=by rw[hM];simp;omega
 have hf:=h.mY;simp only[List.length_append,List.length_cons,List.length_nil,Nat.zero_add]at hf;unfold kZ;generalize (g N.length (N++[bK nx nx])).1=k at *;generalize (g N.length (N++[bK nx nx])).2=P at *;have G8:P.set N.length (bK nx k)=N++(bK nx k :: M):=by
  rw[hM,List.append_assoc,List.set_append_right _ _ (Nat.le_refl _),Nat.sub_self];rfl
 have zr:(P.set N.length (bK nx k)).length=P.length:=List.length_set;have G0:(P.set N.length (bK nx k))[N.length]?=some (bK nx k):=by rw[List.getElem?_set_self (by omega)]
 have DR:gI ps (P.set N.length (bK nx k)) (N.length+1) P.length N.length k R:=hf.agree (fun q a b=>get_set_other (by omega)) (by rw[zr];exact Nat.le_refl _);have hl:=gI.loop hn DR G0;refine⟨⟨⟨_,G8⟩,by rw[zr];exact hl⟩,⟨⟨_,G8⟩,?_⟩⟩;simp only[];rw[zr];have OS:=DR.le;refine⟨hl.le,by rw[zr];exact Nat.le_refl _,hn,?_,hl.goes,hl.ok,fun fold t a m ha=>⟨fun q=>?_,?_⟩⟩
 ·rcases DR.first with h1 | h1
  ·right;omega
  ·right;omega
 ·obtain⟨p,q1,q2⟩:=q.narrow (Nat.le_succ _) hn DR.goes DR.first;exact⟨p,(DR.iff fold t a p ha).1 q1,(hl.iff fold t p m (q1.bd ha).2).1 q2⟩
 ·rintro⟨p,q1,q2⟩;have q1':=(DR.iff fold t a p ha).2 q1;exact q1'.join (Nat.le_succ _) (Nat.le_refl _) ((hl.iff fold t p m (q1'.bd ha).2).2 q2)
end
def YQ(R:Nat->Rel):List Nat->Rel
 | []=>fun a m=>a=m
 | k :: l=>fun a m=>∃p,R k a p/\YQ R l p m
def ju(R:Rel):Nat->Rel
 | 0=>fun a m=>a=m
 | c+1=>fun a m=>∃p,R a p/\ju R c p m
section
variable {ps:List PN}{N:List DN}{nx:Nat}{s:jO}{R S:gz}{f:Nat->Nat->List DN->jO}{g:Nat->List DN->jO}{Q:Nat->gz}
theorem zJ(hn:nx<N.length):∀l:List Nat,(∀k,k∈l->cS ps (f k) (Q k))->qg ps N nx (lX f l (nx,N)) (fun fold t=>YQ (fun k=>Q k fold t) l)
 | [],_=>qg.none hn
 | k :: l,h=>(zJ hn l (fun j hj=>h j (List.mem_cons_of_mem _ hj))).front (h k (List.mem_cons_self ..))
theorem Fh:∀(l:List Nat) (s:jO) (S:gz),qg ps N nx s S->(∀k,k∈l->cS ps (f k) (Q k))->qg ps N nx (l.foldl (lY f nx) s) (fun fold t a m=>S fold t a m\/∃k,k∈l/\Q k fold t a m)
 | [],s,S,h,_=>h.vT (fun fold t a m _=>⟨Or.inl,fun h=>by
    rcases h with h|⟨k,hk,_⟩
    ·exact h
    ·cases hk⟩)
 | k :: l,s,S,h,hl=>(Fh l _ _ (h.either (hl k (List.mem_cons_self ..))) (fun j hj=>hl j (List.mem_cons_of_mem _ hj))).vT (fun fold t a m _=>by
    constructor
    ·rintro((h|h)|⟨j,hj,h⟩)
     ·exact Or.inl h
     ·exact Or.inr ⟨k,List.mem_cons_self ..,h⟩
     ·exact Or.inr ⟨j,List.mem_cons_of_mem _ hj,h⟩
    ·rintro(h|⟨j,hj,h⟩)
     ·exact Or.inl (Or.inl h)
     ·rcases List.mem_cons.1 hj with rfl|hj
      ·exact Or.inl (Or.inr h)
      ·exact Or.inr ⟨j,hj,h⟩)
theorem rR(h:qg ps N nx s S)(hg:cS ps g R):∀c,qg ps N nx (fN g c s) (fun fold t a m=>∃p,ju (R fold t) c a p/\S fold t p m)
 | 0=>h.vT (fun fold t a m _=>⟨fun h=>⟨a,rfl,h⟩,fun ⟨p,h1,h2⟩=>by
    have h1:a=p:=h1;rw[h1];exact h2⟩)
 | c+1=>((rR h hg c).front hg).vT (fun fold t a m _=>⟨fun ⟨p,h1,q,h2,h3⟩=>⟨q,⟨p,h1,h2⟩,h3⟩,fun ⟨q,⟨p,h1,h2⟩,h3⟩=>⟨p,h1,q,h2,h3⟩⟩)
theorem vU(hn:nx<N.length)(hg:cS ps g R):∀c,qg ps N nx (j7 g nx c (nx,N)) (fun fold t a m=>∃d,d<=c/\ju (R fold t) d a m)
 | 0=>(qg.none hn).vT (fun fold t a m _=>⟨fun h=>⟨0,Nat.le_refl _,h⟩,fun ⟨d,h1,h2⟩=>by
    obtain rfl:d=0:=by omega
    exact h2⟩)
 | c+1=>((vU hn hg c).maybe hg).vT (fun fold t a m _=>by
    constructor
    ·rintro(⟨p,h1,d,h2,h3⟩|h)
     ·exact⟨d+1,by omega,p,h1,h3⟩
     ·exact⟨0,by omega,h⟩
    ·rintro⟨d,h1,h2⟩;cases d with
     | zero=>exact Or.inr h2
     | succ d=>
       obtain⟨p,h3,h4⟩:=h2;exact Or.inl ⟨p,h3,d,by omega,h4⟩)
end
section
variable {n:Nat}{R:Rel}
def OT(n:Nat)(R:Rel):Prop:=∀a m,a<=n->R a m->a<=m/\m<=n
theorem ju.fwd(h:OT n R):∀{c a m:Nat},a<=n->ju R c a m->a<=m/\m<=n
 | 0,a,m,ha,h1=>by have:a=m:=h1;omega
 | c+1,a,m,ha,⟨p,h1,h2⟩=>by
   have:=h a p ha h1;have:=ju.fwd h this.2 h2;omega
theorem ju.snoc:∀{c a p m:Nat},ju R c a p->R p m->ju R (c+1) a m
 | 0,a,p,m,h1,h2=>by
   have:a=p:=h1;rw[this];exact⟨m,h2,rfl⟩
 | c+1,a,p,m,⟨q,h1,h2⟩,h3=>⟨q,h1,ju.snoc h2 h3⟩
theorem ju.KO:∀{c a m:Nat},ju R (c+1) a m->∃p,ju R c a p/\R p m
 | 0,a,m,⟨p,h1,h2⟩=>⟨a,rfl,by
   have:p=m:=h2;rw[<-this];exact h1⟩
 | c+1,a,m,⟨q,h1,h2⟩=>by
   obtain⟨p,h3,h4⟩:=ju.KO h2;exact⟨p,⟨q,h1,h3⟩,h4⟩
theorem mZ(h:OT n R):∀{c a m:Nat},a<=n->(ju R c a m↔Ha R (n+1) c a m)
 | 0,a,m,_=>Iff.rfl
 | c+1,a,m,ha=>by
   constructor
   ·intro g;obtain⟨p,h1,h2⟩:=g.KO;have b1:=h1.fwd h ha;have b2:=h p m b1.2 h2;exact⟨p,by omega,b1.1,b2.1,(mZ h ha).1 h1,h2⟩
   ·rintro⟨p,h1,h2,h3,h4,h5⟩;exact((mZ h ha).2 h4).snoc h5
theorem Ff.fwd(h:OT n R){a m:Nat}(g:Ff R a m):a<=n->a<=m/\m<=n:=by
 induction g with
 | refl a=>intro h;omega
 | step g1 _ ih=>
   intro ha;have b1:=h _ _ ha g1;have b2:=ih b1.2;omega
theorem MU(h:OT n R){a m:Nat}(ha:a<=n):Ff R a m↔EP R (n+1) a m:=by
 constructor
 ·intro g;induction g with
  | refl a=>exact⟨0,qN.refl (by omega)⟩
  | @step a p m g1 _ ih=>
    have b:=h _ _ ha g1;by_cases hap:a=p
    ·rw[hap];exact ih b.2
    ·exact EP.app ⟨1,qN.step g1 (by omega) (qN.refl (by omega))⟩ (ih b.2)
 ·rintro⟨k,g⟩;induction g with
  | refl=>exact Ff.refl _
  | step g1 g2 _ ih=>exact Ff.step g1 (ih (h _ _ ha g1).2)
theorem ju.add:∀{c d a p m:Nat},ju R c a p->ju R d p m->ju R (c+d) a m
 | 0,d,a,p,m,h1,h2=>by
   have:a=p:=h1;rw[this,Nat.zero_add];exact h2
 | c+1,d,a,p,m,⟨q,h1,h3⟩,h2=>by
   rw[Nat.succ_add];exact⟨q,h1,ju.add h3 h2⟩
theorem ju.split:∀{c d a m:Nat},ju R (c+d) a m->∃p,ju R c a p/\ju R d p m
 | 0,d,a,m,h=>⟨a,rfl,by rwa [Nat.zero_add]at h⟩
 | c+1,d,a,m,h=>by
   rw[Nat.succ_add]at h;obtain⟨q,h1,h2⟩:=h;obtain⟨p,h3,h4⟩:=ju.split h2;exact⟨p,⟨q,h1,h3⟩,h4⟩
theorem HN{Q:Nat->Rel}:∀(l:List Nat),(∀k,k∈l->OT n (Q k))->∀(S:Rel),OT n S->∀a m,a<=n->(l.foldl (fun S k=>AX n S (Q k)) S a m↔∃p,S a p/\YQ Q l p m)
 | [],_,S,hS,a,m,ha=>⟨fun h=>⟨m,h,rfl⟩,fun ⟨p,h1,h2⟩=>by
    have:p=m:=h2;rw[<-this];exact h1⟩
 | k :: l,hl,S,hS,a,m,ha=>by
   have hk:=hl k (List.mem_cons_self ..);have hT:OT n (AX n S (Q k)):=fun a m ha ⟨p,h1,h2,h3,h4,h5⟩=>⟨by omega,(hk p m (hS a p ha h4).2 h5).2⟩;rw[List.foldl_cons,HN l (fun j hj=>hl j (List.mem_cons_of_mem _ hj)) _ hT a m ha];constructor
   ·rintro⟨q,⟨p,h1,h2,h3,h4,h5⟩,h6⟩;exact⟨p,h4,q,h5,h6⟩
   ·rintro⟨p,h4,q,h5,h6⟩;have b1:=hS a p ha h4;have b2:=hk p q b1.2 h5;exact⟨q,⟨p,by omega,b1.1,b2.1,h4,h5⟩,h6⟩
theorem HO{Q:Nat->Rel}:∀(l:List Nat),(∀k,k∈l->OT n (Q k))->∀(S:Rel),OT n S->∀a m,a<=n->(l.foldl (fun S k=>AY S (Q k)) S a m↔S a m\/∃k,k∈l/\Q k a m)
 | [],_,S,hS,a,m,ha=>⟨Or.inl,fun h=>by
    rcases h with h|⟨k,hk,_⟩
    ·exact h
    ·cases hk⟩
 | k :: l,hl,S,hS,a,m,ha=>by
   have hk:=hl k (List.mem_cons_self ..);have hT:OT n (AY S (Q k)):=fun a m ha ⟨h1,h2⟩=>by
    rcases h2 with h2|h2
    ·exact hS a m ha h2
    ·exact hk a m ha h2
   rw[List.foldl_cons,HO l (fun j hj=>hl j (List.mem_cons_of_mem _ hj)) _ hT a m ha];constructor
   ·rintro(⟨_,h|h⟩|⟨j,hj,h⟩)
    ·exact Or.inl h
    ·exact Or.inr ⟨k,List.mem_cons_self ..,h⟩
    ·exact Or.inr ⟨j,List.mem_cons_of_mem _ hj,h⟩
   ·rintro(h|⟨j,hj,h⟩)
    ·exact Or.inl ⟨(hS a m ha h).1,Or.inl h⟩
    ·rcases List.mem_cons.1 hj with rfl|hj
     ·exact Or.inl ⟨(hk a m ha h).1,Or.inr h⟩
     ·exact Or.inr ⟨j,hj,h⟩
theorem KP(h:OT n R){least most:Int}(h0:0<=least){a m:Nat}(ha:a<=n):
 Ai R (n+1) least.toNat most a m↔(most<0/\∃p,ju R least.toNat a p/\Ff R p m)\/(0<=most/\∃d,d<=(most-least).toNat/\ju R (least.toNat+d) a m):=by
 unfold Ai;constructor
 ·rintro(⟨h1,p,h2,h3,h4,h5,h6⟩|⟨h1,h2⟩)
  ·exact Or.inl ⟨h1,p,(mZ h ha).2 h5,(MU h (by omega)).2 h6⟩
  ·right;refine⟨h1,?_⟩;rcases h2 with h2|⟨c,h3,h4,h5⟩
   ·exact⟨0,Nat.zero_le _,(mZ h ha).2 h2⟩
   ·exact⟨c-least.toNat,by omega,by rw[show least.toNat+(c-least.toNat)=c by omega];exact(mZ h ha).2 h5⟩
 ·rintro(⟨h1,p,h2,h3⟩|⟨h1,d,h2,h3⟩)
  ·have b1:=h2.fwd h ha;have b2:=h3.fwd h b1.2;exact Or.inl ⟨h1,p,by omega,b1.1,b2.1,(mZ h ha).1 h2,(MU h b1.2).1 h3⟩
  ·refine Or.inr ⟨h1,?_⟩;have g:=(mZ h ha).1 h3;by_cases hd:d=0
   ·left;rw[hd]at g;exact g
   ·exact Or.inr ⟨least.toNat+d,by omega,by omega,g⟩
end
def gQ(ps:List PN):Prop:=∀(j:Nat) (p:PN),ps[j]?=some p->p.kind=5->p.kids≠[]
theorem fj{ps:List PN}{f k nx:Nat}{N:List DN}{p:PN}(h:ps[k]?=some p):aT ps (f+1) k nx N =
 if p.kind=4 then lX (aT ps f) p.kids (nx,N) else if p.kind=5 then YP (aT ps f) nx N p.kids
 else if p.kind=6 then qe (aT ps f (p.kids.headD 0)) p.least p.most nx N else (N.length,N++[{kind:=p.kind,part:=k,next:=nx}]):=by
 rw[aT,h]
theorem vV{ps:List PN}(hw:mT ps)(h5:gQ ps){k:Nat}(h:dq ps k):∀f,k<f->cS ps (aT ps f k) (fun fold t=>j6 ps fold t k):=by
 induction h with
 | @leaf j p h1 h2=>
   intro f hf nx N hn;obtain⟨f,rfl⟩:∃f',f=f'+1:=⟨f-1,by omega⟩;rw[fj h1,if_neg (by omega),if_neg (by omega),if_neg (by omega)];refine⟨⟨_,rfl⟩,?_⟩;have:=gI.one (ps:=ps) (x:={kind:=p.kind,part:=j,next:=nx}) hn rfl h2 h1 rfl;simp only[List.length_append,List.length_cons,List.length_nil,Nat.zero_add];refine this.vT (fun fold t a m ha=>?_);rw[qb hw h1];unfold qB vR;simp only[];rcases h2 with h2|h2|h2
   ·rw[if_pos h2];constructor
    ·rintro(⟨h,_⟩|⟨h,_⟩|⟨h,_⟩|⟨_,_,q,h3,h4⟩)
     ·omega
     ·omega
     ·omega
     ·rw[h1]at h3;obtain rfl:=Option.some.inj h3;exact h4
    ·intro h;exact Or.inr (Or.inr (Or.inr ⟨h2,trivial,p,h1,h⟩))
   ·rw[if_neg (by omega),if_pos h2];constructor
    ·rintro(⟨h,_⟩|⟨_,_,h⟩|⟨h,_⟩|⟨h,_⟩)
     ·omega
     ·exact h
     ·omega
     ·omega
    ·intro h;exact Or.inr (Or.inl ⟨h2,trivial,h⟩)
   ·rw[if_neg (by omega),if_neg (by omega),if_pos h2];constructor
    ·rintro(⟨h,_⟩|⟨h,_⟩|⟨_,_,h⟩|⟨h,_⟩)
     ·omega
     ·omega
     ·exact h
     ·omega
    ·intro h;exact Or.inr (Or.inr (Or.inl ⟨h2,trivial,h⟩))
 | @many j p h1 h2 h3 ih=>
   intro f hf nx N hn;obtain⟨f,rfl⟩:∃f',f=f'+1:=⟨f-1,by omega⟩;have hk:∀k,k∈p.kids->cS ps (aT ps f k) (fun fold t=>j6 ps fold t k):=fun k hk=>ih k hk f (by have:=hw j p h1 k hk;omega);have hfw:∀k,k∈p.kids->∀fold (t:ByteArray),OT t.size (j6 ps fold t k):=fun k Gn fold t a m ha hm=>by
    have hb:=hk k Gn nx N hn;exact hb.mY.bd ha hm
   rw[fj h1];rcases h2 with h2|h2
   ·rw[if_pos h2];refine(zJ hn p.kids (Q:=fun k fold t=>j6 ps fold t k) hk).vT (fun fold t a m ha=>?_);rw[qb hw h1];unfold qB;rw[if_neg (by omega),if_neg (by omega),if_neg (by omega),if_pos h2];unfold HI;rw[HN p.kids (fun k hk=>hfw k hk fold t) (fun i j=>i=j) (fun a m ha h=>by omega) a m ha];exact⟨fun h=>⟨a,rfl,h⟩,fun ⟨p,h1,h2⟩=>by rw[h1];exact h2⟩
   ·rw[if_neg (by omega),if_pos h2];obtain⟨k0,l,zt⟩:∃k0 l,p.kids=k0 :: l:=by
     cases hx:p.kids with
     | nil=>exact absurd hx (h5 j p h1 h2)
     | cons k0 l=>exact⟨k0,l,rfl⟩
    rw[zt]at hk hfw ⊢;refine(Fh l _ _ (hk k0 (List.mem_cons_self ..) nx N hn) (fun k Gn=>hk k (List.mem_cons_of_mem _ Gn))).vT (fun fold t a m ha=>?_);rw[qb hw h1];unfold qB;rw[if_neg (by omega),if_neg (by omega),if_neg (by omega),if_neg (by omega),if_pos h2,zt];unfold HJ;rw[HO (k0 :: l) (fun k hk=>hfw k hk fold t) (fun _ _=>False) (fun a m ha h=>h.elim) a m ha];constructor
    ·rintro(h|⟨k,Gn,h⟩)
     ·exact Or.inr ⟨k0,List.mem_cons_self ..,h⟩
     ·exact Or.inr ⟨k,List.mem_cons_of_mem _ Gn,h⟩
    ·rintro(h|⟨k,Gn,h⟩)
     ·exact h.elim
     ·rcases List.mem_cons.1 Gn with rfl|Gn
      ·exact Or.inl h
      ·exact Or.inr ⟨k,Gn,h⟩
 | @times j k p h1 h2 h3 h4 h6 h7 h8 h9 ih=>
   intro f hf nx N hn;obtain⟨f,rfl⟩:∃f',f=f'+1:=⟨f-1,by omega⟩;have hkj:k<j:=hw j p h1 k (by rw[h3];exact List.mem_cons_self ..);have hk:=ih f (by omega);have hfw:∀fold (t:ByteArray),OT t.size (j6 ps fold t k):=fun fold t a m ha hm=>(hk nx N hn).mY.bd ha hm;rw[fj h1,if_neg (by omega),if_neg (by omega),if_pos h2,h3];simp only[List.headD_cons];have hR:∀fold (t:ByteArray) a m,a<=t.size->(j6 ps fold t j a m↔(p.most<0/\∃q,ju (j6 ps fold t k) p.least.toNat a q/\Ff (j6 ps fold t k) q m)\/(0<=p.most/\∃d,d<=(p.most-p.least).toNat/\ju (j6 ps fold t k) (p.least.toNat+d) a m)):=fun fold t a m ha=>by
    rw[qb hw h1];unfold qB;rw[if_neg (by omega),if_neg (by omega),if_neg (by omega),if_neg (by omega),if_neg (by omega)];unfold xF;rw[h3];exact KP (hfw fold t) h6 ha
   unfold qe;by_cases hm:p.most<0
   ·rw[if_pos hm];obtain⟨l1,l2⟩:=qg.loop hn hk;by_cases hl:0<p.least
    ·rw[if_pos hl];refine(rR l2 hk (p.least.toNat-1)).vT (fun fold t a m ha=>?_);rw[hR fold t a m ha];constructor
     ·rintro⟨q,g1,r,g2,g3⟩;have:=g1.snoc g2;rw[show p.least.toNat-1+1=p.least.toNat by omega]at this;exact Or.inl ⟨hm,r,this,g3⟩
     ·rintro(⟨_,q,g1,g2⟩|⟨g,_⟩)
      ·rw[show p.least.toNat=p.least.toNat-1+1 by omega]at g1;obtain⟨r,g3,g4⟩:=g1.KO;exact⟨r,g3,q,g4,g2⟩
      ·omega
    ·rw[if_neg hl];refine l1.vT (fun fold t a m ha=>?_);rw[hR fold t a m ha,show p.least.toNat=0 by omega];constructor
     ·intro h;exact Or.inl ⟨hm,a,rfl,h⟩
     ·rintro(⟨_,q,g1,g2⟩|⟨g,_⟩)
      ·have g1:a=q:=g1;rw[g1];exact g2
      ·omega
   ·rw[if_neg hm];refine(rR (vU hn hk _) hk p.least.toNat).vT (fun fold t a m ha=>?_);rw[hR fold t a m ha];constructor
    ·rintro⟨q,g1,d,g2,g3⟩;exact Or.inr ⟨by omega,d,g2,g1.add g3⟩
    ·rintro(⟨g,_⟩|⟨_,d,g1,g2⟩)
     ·omega
     ·obtain⟨q,g3,g4⟩:=g2.split;exact⟨q,g3,d,g1,g4⟩
end Go.Proofs.YtgifhgnccmnbiabGreatDoor
namespace Go.Proofs.YtgifhgnccmnbiabGreatDoor
open Go.RowKit Go.IntWalk
structure AZ (w:World)(ps:List PN)(aj:List Nat)(F:Nat->Prop):Prop where
 part:∀(i:Nat) (p:PN),ps[i]?=some p->(∀k,k∈p.kids->k<i)/\∃iv kv,jT w F aj p (aj.getD i 0) iv kv
 Ac:∀k,F k->k<w.heap.size
theorem RM.pms{w:World}{b:Nat}{t:ByteArray}{s:RS}{ps:List PN}{aj:List Nat}{F:Nat->Prop}(h:RM w b t s ps aj F):AZ w ps aj F:=⟨h.part,fun k hk=>(h.Ac k hk).1⟩
theorem AZ.kept{w w':World}{ps:List PN}{aj:List Nat}{F:Nat->Prop}(h:AZ w ps aj F)(k:Kept [] w w'):AZ w' ps aj F:=
 ⟨fun i p hp=>⟨(h.part i p hp).1,by obtain⟨iv,kv,hk⟩:=(h.part i p hp).2;exact⟨iv,kv,hk.frame (fun j hj=>k.block j (h.Ac j hj) (by simp))⟩⟩,fun j hj=>Nat.lt_of_lt_of_le (h.Ac j hj) k.size⟩
theorem AZ.wf{w:World}{ps:List PN}{aj:List Nat}{F:Nat->Prop}(h:AZ w ps aj F):mT ps:=fun i p hp=>(h.part i p hp).1
theorem jT.Xr{w:World}{F:Nat->Prop}{aj:List Nat}{p:PN}{a:Nat}{iv kv:IV}(h:jT w F aj p a iv kv):
 kv.2.1=p.kids.length/\∀j,j<p.kids.length->∃g,kv.1=some ⟨g,0,none⟩/\w.cell? ⟨g,j,none⟩=some (ptrTo aj (p.kids.getD j 0))/\j<kv.2.2:=by
 obtain⟨ko,kl,kc⟩:=kv;have hlen:kl=p.kids.length:=by
  rcases h.kids.2 with⟨h1,h2⟩|⟨g,cap,cu,h1,_⟩
  ·simp[fF]at h1;rw[h1.2.1,h2]
  ·simp[fF]at h1;exact h1.2.1
 refine⟨hlen,fun j hj=>?_⟩;rcases h.kids.2 with⟨h1,h2⟩|⟨g,cap,cu,h1,h2,h3,h4,_⟩
 ·omega
 ·simp[fF]at h1;have hc:=h.kids.cells (g:=g) (by simp[fF,h1.1,Value.ownBlock]) j (ptrTo aj (p.kids.getD j 0)) (by simp[List.getD,hj]);refine⟨g,h1.1,?_,by have:=h1.2.2;show j<kc;omega⟩;rwa [show(⟨g,0,none⟩:Addr).add j=⟨g,j,none⟩ by unfold Addr.add;split <;> simp_all]at hc
theorem OU{l:List Nat}{c:Nat}(h:c<l.length):l.take (c+1)=l.take c++[l.getD c 0]:=by
 rw[List.take_succ_eq_append_getElem h];simp[List.getD,h]
theorem OV{n:AN}{x:PN}(Hs:n.neg=x.neg)(h:∀c:Nat,c<256->dG n.cM (c:Int)=x.ins c)(fold:Bool)(c:Nat)(hc:c<256):eh n fold c=Ro x fold c:=by
 unfold eh Ro gO;rw[h c hc,Hs];by_cases h1:65<=c/\c<=90
 ·rw[if_pos h1,h (c+32) (by omega)];simp[h1.1,h1.2,show ¬ 97<=c by omega]
 ·rw[if_neg h1];have a1:(decide (65<=c)&&decide (c<=90))=false:=by rw[<-Bool.decide_and];exact decide_eq_false h1
  rw[a1];by_cases h2:97<=c/\c<=122
  ·rw[if_pos h2,h (c-32) (by omega)];simp[h2.1,h2.2]
  ·rw[if_neg h2,h c hc];have a2:(decide (97<=c)&&decide (c<=122))=false:=by rw[<-Bool.decide_and];exact decide_eq_false h2
   rw[a2];cases x.ins c <;> cases fold <;> rfl
theorem A0{n:AN}{x:PN}(hk:n.kind=1)(gH:x.kind=1)(Hs:n.neg=x.neg)(h:∀c:Nat,c<256->dG n.cM (c:Int)=x.ins c):zI n x:=
 Or.inl ⟨hk,gH,OV Hs h⟩
theorem DS(c:Int)(i:Nat):dG [(c,c)] (i:Int)=one c i:=by
 simp only[dG,one,List.any_cons,List.any_nil,Bool.or_false];rw[<-Bool.decide_and];exact decide_eq_decide.2 (by omega)
theorem V0(n:AN)(x:PN)(hk:n.kind=1)(gH:x.kind=1)(h1:n.cM=[(0,255)])(h2:n.neg=false)(h3:x.ins=fun _=>false)(h4:x.neg=true):zI n x:=by
 refine Or.inl ⟨hk,gH,fun fold c hc=>?_⟩;unfold eh Ro;rw[h1,h2,h3,h4];have:dG [(0,255)] (c:Int)=true:=by
  simp only[dG,List.any_cons,List.any_nil,Bool.or_false];rw[<-Bool.decide_and];exact decide_eq_true (by omega)
 rw[this];cases fold <;> simp
theorem OX{t:ByteArray}{p:Nat}{f:Nat->Bool}(hp:p<t.size)(Gu:pk t p≠93)(hb:(bS t (p,false) f).1.2=false):
 (dn t (p,false)).1=((cp t (p,false)).1,(oJ t (p,false)).1):=by
 have kJ:(oJ t (p,false)).2.2=true->False:=fun h=>by
  unfold bS at hb;simp only[]at hb;split at hb
  ·cases hb
  ·rw[h]at hb;cases hb
 rcases vO hp Gu with⟨h1,h2,h3⟩|⟨h1,h2,h4⟩
 ·obtain⟨c,s1,hm⟩:∃c s1,dC t (p,false)=(c,s1):=⟨_,_,rfl⟩;rw[hm]at h1 h2 h3;obtain⟨p1,b1⟩:=s1;simp only[]at h2 h3;subst h2;by_cases hs:oo t (p1,false)=true
  ·have ji:=hs;simp only[oo,Bool.and_eq_true,beq_iff_eq,bne_iff_ne]at ji;obtain⟨⟨_,g1⟩,g2⟩:=ji;have yw:p1+1<t.size:=by rw[Ne,kB]at g1;omega
   have eH:fV t (p,false)=dC t (p1+1,false):=by unfold fV;rw[hm];exact if_pos hs
   have eT:oJ t (p,false)=cp t (p1+1,false):=by
    unfold oJ;rw[<-h1];simp only[];rw[if_pos hs,pd (s:=(p1,false)) (by omega)]
   rcases vO yw g2 with⟨k1,k2,k3⟩|⟨k1,k2,k4⟩
   ·unfold dn;rw[eH,eT,hm,<-h1,<-k1]
   ·exact(kJ (by rw[eT,k2])).elim
  ·have eH:fV t (p,false)=dC t (p,false):=by unfold fV;rw[hm];exact if_neg hs
   have eT:oJ t (p,false)=cp t (p,false):=by unfold oJ;rw[<-h1];simp only[];rw[if_neg hs]
   unfold dn;rw[eH,eT,hm,<-h1]
 ·exact(kJ (EJ (by rw[h2]))).elim
theorem KQ(acc:List (Int×Int))(lo hi:Int)(f:Nat->Bool)(h:∀c:Nat,c<256->dG acc (c:Int)=f c):∀c:Nat,c<256->dG (acc++[(lo,hi)]) (c:Int)=oO f lo hi c:=fun c hc=>by
 have:=h c hc;unfold dG at this ⊢;rw[List.any_append,this];simp only[oO,List.any_cons,List.any_nil,Bool.or_false];rw[<-Bool.decide_and]
theorem DT{t:ByteArray}:∀(n p:Nat) (acc:List (Int×Int)) (f:Nat->Bool),t.size-p<=n->p<=t.size->(∀c:Nat,c<256->dG acc (c:Int)=f c)->(da t (p,false) f).1.2=false ->
 ∀c:Nat,c<256->dG (fe t (p,false) acc).1 (c:Int)=(da t (p,false) f).2 c
 | n,p,acc,f,hn,hf,VX,hb=>by
   by_cases hq:lL t (p,false)=true
   ·obtain⟨hp,Gu⟩:=jZ.1 hq;have lN:=sD (t:=t) (s:=(p,false)) hp;have dO:(bS t (p,false) f).1.2=true->False:=fun h2=>by
     have:(da t (p,false) f).1.2=true:=by
      cases hc:(ak t 93 (bS t (p,false) f).1).1 with
      | true=>rw[jS rfl hc];exact bR h2
      | false=>rw[ml (s:=(p,false)) hf rfl hc,mJ (bR h2)];exact bR h2
     rw[this]at hb;cases hb
    rcases DM (f:=f) hp Gu with⟨h1,h2⟩|⟨h1,h2⟩
    ·exact(dO h2).elim
    ·have V1:(bS t (p,false) f).1.2=false:=by
      cases h:(bS t (p,false) f).1.2 with
      | false=>rfl
      | true=>exact(dO h).elim
     have hpair:=OX hp Gu V1;have e2:(bS t (p,false) f).2=oO f (cp t (p,false)).1 (oJ t (p,false)).1:=rfl;have Sa:=KQ acc (cp t (p,false)).1 (oJ t (p,false)).1 f VX;rw[xe hq,hpair];rw[<-e2]at Sa;obtain⟨⟨p1,b1⟩,qz⟩:∃s1,(dn t (p,false)).2=s1:=⟨_,rfl⟩;rw[qz]at h1 h2 lN ⊢;simp only[]at h2 lN;subst h2;have Vk:=xd (t:=t) (s:=(p,false)) hf;rw[qz]at Vk;simp only[Fits]at Vk;by_cases Fb:pk t p1=93
     ·have hc:ak t 93 (bS t (p,false) f).1=(true,(p1+1,false)):=by rw[<-h1];exact fy (s:=(p1,false)) Fb
      rw[jS rfl (by rw[hc]),mI (by cases h:lL t (p1,false) with|false=>rfl|true=>exact absurd Fb (jZ.1 h).2)];exact Sa
     ·have hc:ak t 93 (bS t (p,false) f).1=(false,(p1,false)):=by rw[<-h1];exact ct (s:=(p1,false)) Fb
      have e3:=ml (s:=(p,false)) (f:=f) hf rfl (by rw[hc]);rw[e3,hc]at hb ⊢;match n,hn with
      | 0,hn=>omega
      | n+1,hn=>exact DT n p1 _ _ (by omega) Vk Sa hb
   ·have kJ:¬p<t.size\/pk t p=93:=by
     by_cases hp:p<t.size
     ·right;by_cases Gu:pk t p=93
      ·exact Gu
      ·exact absurd (jZ.2 ⟨hp,Gu⟩) hq
     ·exact Or.inl hp
    have:=vP (f:=f) hf kJ;rw[this]at hb;cases hb
theorem DU{t:ByteArray}{p:Nat}(hr:kN t (p,false)=true)(h:(aC t (p,false)).2.2=false):(aC t (p,false)).1.2 = -1\/(aC t (p,false)).1.1<=(aC t (p,false)).1.2:=by
 have e1:∃c s,aw t (p,false)=(c,s):=⟨_,_,rfl⟩;obtain⟨c,s,e1⟩:=e1;unfold aC at h ⊢;rw[e1]at h ⊢;simp only[]at h ⊢;by_cases h1:c=42
 ·rw[if_pos h1];exact Or.inl rfl
 rw[if_neg h1]at h ⊢;by_cases h2:c=43
 ·rw[if_pos h2];exact Or.inl rfl
 rw[if_neg h2]at h ⊢;by_cases h3:c=63
 ·rw[if_pos h3];exact Or.inr (show(0:Int)<=1 by decide)
 rw[if_neg h3]at h ⊢;unfold bH at h ⊢;by_cases hc:(ak t 125 (bJ t s).2).1=false\/((bJ t s).1≠-1/\(bJ t s).1<(eg t s).1)
 ·rw[if_pos hc]at h;cases h
 ·rw[if_neg hc];simp only[];omega
def Sz(ns:List AN)(i:Nat)(ps:List PN)(j d:Nat):Prop:=i<ns.length/\j<ps.length/\au ns i=fA (T ps j)/\Bd (T ps j) d/\nF ns i ps j
structure PO (t:ByteArray)(p:Nat)(ns:List AN)(ps:List PN)(r:Nat×PS)(q:Nat×RP):Prop where
 sync:Sync t r.2.1 q.2.1
 en:∃more,r.2.2=ns++more
 ep:∃more,q.2.2=ps++more
 wf:mT q.2.2
 ge:p<=q.2.1.1
 fit:q.2.1.1<=t.size
 YR:q.1<q.2.2.length
 sz:q.2.1.2=false->Sz r.2.2 r.1 q.2.2 q.1 (q.2.1.1-p)
theorem nT{t:ByteArray}{p:Nat}{ns:List AN}{ps:List PN}{n:AN}{x:PN}{a b:RS}(hw:mT ps)(hs:Sync t a b)(hn:n.size=1)(hk:x.kids=[])(hx:dK x 0=1)(h1:p<=b.1)(h2:b.1<=t.size)(hx2:b.2=false->zI n x):
 PO t p ns ps (bL n (a,ns)) (a8 x (b,ps)):=by
 have JL:∀k,k∈x.kids->k<ps.length:=fun k Gn=>by rw[hk]at Gn;cases Gn
 refine⟨hs,⟨_,rfl⟩,⟨_,rfl⟩,hw.push JL,h1,h2,by simp[a8],fun jm=>⟨by simp[bL],by simp[a8],?_,?_,nF.leaf (hx2 jm)⟩⟩
 ·show au (ns++[gL n]) ns.length=fA (T (ps++[x]) ps.length);rw[uu,MR hw JL,hk,hn];show _=fA (dK x 0);rw[hx]
 ·show Bd (T (ps++[x]) ps.length) _;rw[MR hw JL,hk];show Bd (dK x 0) _;rw[hx];exact Bd.one _
theorem j8{t:ByteArray}{a b:RS}(h:Sync t a b)(hb:b.2=false):a=b:=by
 rcases h with⟨_,h⟩|⟨h,_⟩
 ·rw[hb]at h;cases h
 ·exact h
theorem na{t:ByteArray}{a b:RS}(h:Sync t a b)(hb:b.2=true):a=(t.size,true):=by
 rcases h with⟨h,_⟩|⟨h,h2⟩
 ·exact h
 ·rw[h,hb]at h2;cases h2
theorem Sync.fail{t:ByteArray}{b:RS}(hb:b.2=true):Sync t (cN t) b:=Or.inl ⟨rfl,hb⟩
theorem Fi{t:ByteArray}{c:Int}{s:RS}(hc:0<=c)(h:s.1<=t.size):(ak t c s).2.1<=t.size:=bh (s:=s) hc h
theorem Sb{t:ByteArray}{p:Nat}{ns:List AN}{ps:List PN}{r:Nat×PS}{q:Nat×RP}(h:PO t (p+1) ns ps r q)(hp:p<t.size):
 PO t p ns ps (dv t r) (cW t q)/\((cW t q).2.1.2=false->p<(cW t q).2.1.1):=by
 have jK:=h.ge;have QH:=cr (t:=t) (c:=41) (s:=q.2.1);have YS:=Fi (c:=41) (by omega) h.fit;have zu:(cW t q).2.1.1=(ak t 41 q.2.1).2.1:=by unfold cW;simp only[];split <;> rfl
 cases hb:q.2.1.2 with
 | true=>
   have e1:=na h.sync hb;have dO:(cW t q).2.1.2=true:=by unfold cW;simp only[];split;exact bR hb;rfl
   refine⟨⟨Or.inl ⟨?_,dO⟩,h.en,h.ep,h.wf,by rw[zu];omega,by rw[zu];exact YS,h.YR,fun hc=>by rw[dO]at hc;cases hc⟩,fun hc=>by rw[dO]at hc;cases hc⟩;unfold dv;simp only[];rw[e1,ct (s:=(t.size,true)) (by rw[mG (by omega)];decide)];rfl
 | false=>
   have e1:=j8 h.sync hb;have dd:=h.sz hb;by_cases hc:pk t q.2.1.1=41
   ·have et:=fy (t:=t) (s:=q.2.1) hc;have eS:dv t r=(r.1,((q.2.1.1+1,q.2.1.2),r.2.2)):=by unfold dv;rw[e1,et];rfl
    have eR:cW t q=(q.1,((q.2.1.1+1,q.2.1.2),q.2.2)):=by unfold cW;rw[et];rfl
    rw[et]at YS;rw[eS,eR];refine⟨⟨Or.inr ⟨rfl,hb⟩,h.en,h.ep,h.wf,by simp only[];omega,YS,h.YR,fun _=>⟨dd.1,dd.2.1,dd.2.2.1,?_,dd.2.2.2.2⟩⟩,fun _=>by simp only[];omega⟩;have:=dd.2.2.2.1.more (c:=2);simp only[];rwa [show q.2.1.1-(p+1)+2=q.2.1.1+1-p by omega]at this
   ·have et:=ct (t:=t) (s:=q.2.1) hc;have eS:dv t r=(r.1,(cN t,r.2.2)):=by unfold dv;rw[e1,et];rfl
    have eR:cW t q=(q.1,(fW q.2.1,q.2.2)):=by unfold cW;rw[et];rfl
    rw[eS,eR];exact⟨⟨Sync.fail rfl,h.en,h.ep,h.wf,by simp only[fW];omega,h.fit,h.YR,fun hc=>by cases hc⟩,fun hc=>by cases hc⟩
def HQ(t:ByteArray)(m:Nat):Prop:=
 ∀(p:Nat) (ns:List AN) (ps:List PN),mT ps->p<=t.size->t.size-p<m->∃r q,Ev t 0 0 ((p,false),ns) r/\db t 0 [] ((p,false),ps) q/\PO t p ns ps r q
theorem V2{t:ByteArray}{s:RS}:oq t s [42,43,63,123]=kN t s:=by
 simp only[oq,kN,List.any_cons,List.any_nil,Bool.or_false,Bool.or_assoc];rfl
theorem qh{x:PN}(h:x.kind=1\/x.kind=2\/x.kind=3)(n:Int):dK x n=1:=if_pos h
theorem OY{t:ByteArray}{m p:Nat}{ns:List AN}{ps:List PN}(H:HQ t m)(hw:mT ps)(hp:p<t.size)(h124:pk t p≠124)(h41:pk t p≠41)(hm:t.size-p<=m):
 ∃r q,Ev t 3 0 ((p,false),ns) r/\db t 3 [] ((p,false),ps) q/\PO t p ns ps r q/\(q.2.1.2=false->p<q.2.1.1):=by
 have eN:=fR (s:=(p,false)) hp;by_cases hr:kN t (p,false)=true
 ·have YG:=hr;simp only[kN,Bool.or_eq_true,beq_iff_eq]at YG;have eO:bF t (p,false)=(p,true):=by unfold bF;rw[V2];exact if_pos hr
  have eT:cd t (bF t (p,false))=(pk t p,(p+1,true)):=by rw[eO];exact pd (s:=(p,true)) hp
  have e1:=Ev.plain (t:=t) (st:=((p,false),ns)) (by rw[eN];simp only[];omega) (by rw[eN];simp only[];omega);have e2:=db.plain (t:=t) (st:=((p,false),ps)) (by rw[eT];simp only[];omega);rw[eN]at e1;rw[eT]at e2;have p1:de t (pk t p) ((p+1,false),ns)=bL { kind:=1,cM:=[(pk t p,pk t p)],size:=1} (cN t,ns):=by
   unfold de;rw[if_neg (by omega),if_neg (by omega),if_neg (by omega),if_neg (by omega),if_pos (by omega)];rfl
  have p2:bY t (pk t p) ((p+1,true),ps)=a8 { kind:=1,ins:=one (pk t p)} ((p+1,true),ps):=by
   unfold bY;rw[if_neg (by omega),if_neg (by omega),if_neg (by omega),if_neg (by omega),if_neg (by omega)]
  simp only[]at e1 e2;rw[p1]at e1;rw[p2]at e2;exact⟨_,_,e1,e2,nT hw (Sync.fail rfl) rfl rfl (qh (Or.inl rfl) 0) (by simp only[];omega) hp (fun h=>by cases h),fun hc=>by cases hc⟩
 have eO:bF t (p,false)=(p,false):=by unfold bF;rw[V2];exact if_neg hr
 have eT:cd t (bF t (p,false))=(pk t p,(p+1,false)):=by rw[eO];exact pd (s:=(p,false)) hp
 have hr3:pk t p≠42/\pk t p≠43/\pk t p≠63/\pk t p≠123:=by
  simp only[kN,Bool.or_eq_true,beq_iff_eq]at hr;omega
 by_cases c40:pk t p=40
 ·obtain⟨r,q,hr1,MV,po⟩:=H (p+1) ns ps hw hp (by omega);have e1:=Ev.group (t:=t) (st:=((p,false),ns)) (r1:=r) (by rw[eN];exact c40) (by rw[eN];exact hr1);have e2:=db.group (t:=t) (st:=((p,false),ps)) (r1:=q) (by rw[eT];exact c40) (by rw[eT];exact MV);obtain⟨h1,h2⟩:=Sb po hp;exact⟨_,_,e1,e2,h1,h2⟩
 have e2:=db.plain (t:=t) (st:=((p,false),ps)) (by rw[eT];exact c40);rw[eT]at e2;simp only[]at e2;by_cases YT:pk t p=91
 ·have e1:=Ev.list (t:=t) (st:=((p,false),ns)) (by rw[eN];exact YT);rw[eN]at e1;simp only[]at e1;have p1:nK t ((p+1,false),ns)=bL { kind:=1,cM:=(fe t (ak t 94 (p+1,false)).2 []).1,neg:=(ak t 94 (p+1,false)).1,size:=1} (vQ t (fe t (ak t 94 (p+1,false)).2 []),ns):=rfl;have p2:bY t (pk t p) ((p+1,false),ps)=a8 { kind:=1,ins:=(da t (ak t 94 (p+1,false)).2 (fun _=>false)).2,neg:=(ak t 94 (p+1,false)).1} ((da t (ak t 94 (p+1,false)).2 (fun _=>false)).1,ps):=by unfold bY;rw[if_pos YT]
  rw[p1]at e1;rw[p2]at e2;have uP:∃p1,(ak t 94 (p+1,false)).2=(p1,false)/\p+1<=p1/\p1<=t.size:=by
   by_cases hc:pk t (p+1)=94
   ·refine⟨p+2,by rw[fy (s:=(p+1,false)) hc],by omega,kC (by omega)⟩
   ·exact⟨p+1,by rw[ct (s:=(p+1,false)) hc],Nat.le_refl _,hp⟩
  obtain⟨YU,yw,kY,YV⟩:=uP;have hs:=AV (t:=t) (t.size-YU) YU [] (fun _=>false) (Nat.le_refl _) YV (Or.inl rfl);rw[yw]at e1 e2;have jK:=xm (t:=t) (s:=(YU,false)) (f:=fun _=>false);have dD:(da t (YU,false) (fun _=>false)).1.1<=t.size:=by
   have:∀(n:Nat) (s:RS) (f:Nat->Bool),Fits t s->Fits t (fO t n s f).1:=by
    intro n;induction n with
    | zero=>intro s f h;exact h
    | succ n ih=>
      intro s f h;rw[fO];split
      ·exact h
      ·split
       ·exact bh (by omega) (iM h)
       ·exact ih _ _ (bh (by omega) (iM h))
   exact this _ _ _ YV
  exact⟨_,_,e1,e2,nT hw hs rfl rfl (qh (Or.inl rfl) 0) (by simp only[]at jK;omega) dD (fun hb=>A0 rfl rfl rfl (DT (t.size-YU) YU [] (fun _=>false) (Nat.le_refl _) YV (fun c hc=>rfl) hb)),fun _=>by simp only[a8];simp only[]at jK;omega⟩
 have e1:=Ev.plain (t:=t) (st:=((p,false),ns)) (by rw[eN];exact c40) (by rw[eN];exact YT);rw[eN]at e1;simp only[]at e1;have ej:Sync t (p+1,false) (p+1,false):=Or.inr ⟨rfl,rfl⟩;by_cases Xs:pk t p=46
 ·have p1:de t (pk t p) ((p+1,false),ns)=bL { kind:=1,cM:=[(0,255)],size:=1} ((p+1,false),ns):=by unfold de;rw[if_pos Xs];rfl
  have p2:bY t (pk t p) ((p+1,false),ps)=a8 { kind:=1,neg:=true} ((p+1,false),ps):=by unfold bY;rw[if_neg (by omega),if_neg (by omega),if_neg (by omega),if_pos Xs]
  rw[p1]at e1;rw[p2]at e2;exact⟨_,_,e1,e2,nT hw ej rfl rfl (qh (Or.inl rfl) 0) (by simp only[];omega) hp (fun _=>V0 _ _ rfl rfl rfl rfl rfl rfl),fun _=>by simp only[a8];omega⟩
 by_cases Xt:pk t p=94
 ·have p1:de t (pk t p) ((p+1,false),ns)=bL { kind:=2,size:=1} ((p+1,false),ns):=by unfold de;rw[if_neg Xs,if_pos Xt]
  have p2:bY t (pk t p) ((p+1,false),ps)=a8 { kind:=2,ins:=one 94} ((p+1,false),ps):=by unfold bY;rw[if_neg YT,if_pos Xt]
  rw[p1]at e1;rw[p2]at e2;exact⟨_,_,e1,e2,nT hw ej rfl rfl (qh (Or.inr (Or.inl rfl)) 0) (by simp only[];omega) hp (fun _=>Or.inr (Or.inl ⟨rfl,rfl⟩)),fun _=>by simp only[a8];omega⟩
 by_cases c36:pk t p=36
 ·have p1:de t (pk t p) ((p+1,false),ns)=bL { kind:=3,size:=1} ((p+1,false),ns):=by unfold de;rw[if_neg Xs,if_neg Xt,if_pos c36]
  have p2:bY t (pk t p) ((p+1,false),ps)=a8 { kind:=3,ins:=one 36} ((p+1,false),ps):=by unfold bY;rw[if_neg YT,if_neg Xt,if_pos c36]
  rw[p1]at e1;rw[p2]at e2;exact⟨_,_,e1,e2,nT hw ej rfl rfl (qh (Or.inr (Or.inr rfl)) 0) (by simp only[];omega) hp (fun _=>Or.inr (Or.inr (Or.inl ⟨rfl,rfl⟩))),fun _=>by simp only[a8];omega⟩
 by_cases c92:pk t p=92
 ·have p1:de t (pk t p) ((p+1,false),ns)=bL { kind:=1,cM:=[((aw t (p+1,false)).1,(aw t (p+1,false)).1)],size:=1} ((aw t (p+1,false)).2,ns):=by
   unfold de;rw[if_neg Xs,if_neg Xt,if_neg c36,if_pos c92];rfl
  have p2:bY t (pk t p) ((p+1,false),ps)=a8 { kind:=1,ins:=one (cd t (p+1,false)).1} ((cd t (p+1,false)).2,ps):=by
   unfold bY;rw[if_neg YT,if_neg Xt,if_neg c36,if_neg Xs,if_pos c92]
  rw[p1]at e1;rw[p2]at e2;have hs:Sync t (aw t (p+1,false)).2 (cd t (p+1,false)).2:=by
   by_cases kY:p+1<t.size
   ·rw[fR (s:=(p+1,false)) kY,pd (s:=(p+1,false)) kY];exact Or.inr ⟨rfl,rfl⟩
   ·rw[AU (s:=(p+1,false)) kY,xD (s:=(p+1,false)) kY];exact Sync.fail rfl
  have MH:(cd t (p+1,false)).2.2=false->(aw t (p+1,false)).1=(cd t (p+1,false)).1:=fun hb=>by
   by_cases kY:p+1<t.size
   ·rw[fR (s:=(p+1,false)) kY,pd (s:=(p+1,false)) kY]
   ·rw[xD (s:=(p+1,false)) kY]at hb;cases hb
  have jK:=yo (t:=t) (s:=(p+1,false));have QM:(cd t (p+1,false)).2.1<=t.size:=pT (s:=(p+1,false)) hp;simp only[]at jK;exact⟨_,_,e1,e2,nT hw hs rfl rfl (qh (Or.inl rfl) 0) (by omega) QM (fun hb=>A0 rfl rfl rfl (fun c hc=>by rw[<-MH hb];exact DS _ c)),fun _=>by simp only[a8];omega⟩
 ·have p1:de t (pk t p) ((p+1,false),ns)=bL { kind:=1,cM:=[(pk t p,pk t p)],size:=1} ((p+1,false),ns):=by
   unfold de;rw[if_neg Xs,if_neg Xt,if_neg c36,if_neg c92,if_neg (by omega)];rfl
  have p2:bY t (pk t p) ((p+1,false),ps)=a8 { kind:=1,ins:=one (pk t p)} ((p+1,false),ps):=by
   unfold bY;rw[if_neg YT,if_neg Xt,if_neg c36,if_neg Xs,if_neg c92]
  rw[p1]at e1;rw[p2]at e2;exact⟨_,_,e1,e2,nT hw ej rfl rfl (qh (Or.inl rfl) 0) (by simp only[];omega) hp (fun _=>A0 rfl rfl rfl (fun c hc=>DS _ c)),fun _=>by simp only[a8];omega⟩
theorem HR{t:ByteArray}{b:Bool}:kN t (t.size,b)=false:=by
 cases h:kN t (t.size,b) with
 | false=>rfl
 | true=>have:=lQ h;simp at this
theorem HT{t:ByteArray}{b:Bool}:jj t (t.size,b)=true:=by
 unfold jj;rw[mG (p:=t.size) (by omega)];rfl
theorem HU{t:ByteArray}{p:Nat}(hp:p<=t.size):iu t (p,false) = !jj t (p,false):=by
 unfold iu jj;simp only[oq,List.any_cons,List.any_nil,Bool.or_false];by_cases h:p<t.size
 ·have e:(pk t p==-1)=false:=by have:=uY h;simp;omega
  rw[e,decide_eq_true h];simp
 ·rw[decide_eq_false h,mG h];simp
theorem HV{t:ByteArray}{s:RS}(h:s.2=true):iu t s=false:=by unfold iu;rw[h];simp
theorem HW{x:PN}{n:Int}(hk:x.kind=6)(hm:-1<=x.most):dK x n=if 1<aY x.least x.most then wrap64 (n*aY x.least x.most) else n:=by
 have e:dK x n=if 1<x.most then wrap64 (n*x.most) else if x.most<0/\1<x.least then wrap64 (n*x.least) else n:=by
  unfold dK;rw[if_neg (by omega),if_neg (by omega),if_pos hk]
 rw[e];by_cases h1:x.most = -1
 ·have ht:aY x.least x.most=if x.least<1 then 1 else x.least:=by unfold aY;rw[if_pos h1]
  rw[if_neg (by omega)];by_cases h2:1<x.least
  ·rw[if_neg (by omega)]at ht;rw[if_pos ⟨by omega,h2⟩,ht,if_pos h2]
  ·rw[if_neg (by omega),if_neg ?_];rw[ht];split <;> omega
 ·have ht:aY x.least x.most=if x.most<1 then 1 else x.most:=by unfold aY;rw[if_neg h1]
  by_cases h2:1<x.most
  ·rw[if_neg (by omega)]at ht;rw[if_pos h2,ht,if_pos h2]
  ·rw[if_neg h2,if_neg (by omega),if_neg ?_];rw[ht];split <;> omega
theorem vX{a b:Int}(ha:a<=9)(hb:b<=9):1<=aY a b/\aY a b<=9:=by
 unfold aY;repeat' split
 all_goals omega
theorem HX{t:ByteArray}{p:Nat}(h:(bH t (p,false)).2.2=false):p+2<=(bH t (p,false)).2.1:=by
 unfold bH at h ⊢;by_cases hc:(ak t 125 (bJ t (p,false)).2).1=false\/((bJ t (p,false)).1≠-1/\(bJ t (p,false)).1<(eg t (p,false)).1)
 ·rw[if_pos hc]at h;cases h
 ·rw[if_neg hc]at h ⊢;have ix:(ak t 125 (bJ t (p,false)).2).1=true:=by
   cases hx:(ak t 125 (bJ t (p,false)).2).1 with
   | true=>rfl
   | false=>exact absurd (Or.inl hx) hc
  have h1:=nI ix;by_cases hd:p<t.size/\48<=pk t p/\pk t p<=57
  ·have eD:=AW hd.1 hd.2.1 hd.2.2;have hm:p+1<=(bJ t (p,false)).2.1:=by
    unfold bJ;rw[eD];have h3:=cr (t:=t) (c:=44) (s:=(p+1,false));have h4:=bh (t:=t) (c:=44) (s:=(p+1,false)) (by omega) hd.1;split
    ·exact Nat.le_trans h3 (Xf h4)
    ·exact h3
   simp only[];omega
  ·have eD:=Fc (t:=t) (s:=(p,false)) hd;have eM:(bJ t (p,false)).2=cN t:=by
    unfold bJ;rw[eD];simp only[];rw[pe (by omega)];simp
   rw[eM,pe (by omega)]at ix;cases ix
theorem HY{t:ByteArray}{p:Nat}(hr:kN t (p,false)=true)(h:(aC t (p,false)).2.2=false):
 (aY (aC t (p,false)).1.1 (aC t (p,false)).1.2=1/\p+1<=(aC t (p,false)).2.1)\/p+3<=(aC t (p,false)).2.1:=by
 have hp:=lQ hr;have e1:=fR (s:=(p,false)) hp;unfold aC at h ⊢;rw[e1]at h ⊢;simp only[]at h ⊢;by_cases h1:pk t p=42
 ·rw[if_pos h1];left;exact⟨rfl,Nat.le_refl _⟩
 rw[if_neg h1]at h ⊢;by_cases h2:pk t p=43
 ·rw[if_pos h2];left;exact⟨rfl,Nat.le_refl _⟩
 rw[if_neg h2]at h ⊢;by_cases h3:pk t p=63
 ·rw[if_pos h3];left;exact⟨rfl,Nat.le_refl _⟩
 rw[if_neg h3]at h ⊢;right;have:=HX h;omega
theorem Bd.nine{k:Int}(h1:1<=k)(h9:k<=9):Bd k 3:=by
 refine⟨h1,?_⟩;have e2:(2:Int) ^ 3=8:=by decide
 have e5:(5:Int) ^ 3=125:=by decide
 rw[e2,e5];omega
theorem OZ{t:ByteArray}{s:RS}(h:s.1<=t.size):(nD t s).2.1<=t.size:=by
 have f1:=pT (t:=t) (s:=s) h;have f2:=bh (t:=t) (c:=44) (by omega) f1;have f3:=bh (t:=t) (c:=125) (by omega) f2;have f4:=pT f3;have f5:=bh (t:=t) (c:=125) (by omega) f4;simp only[Fits]at f1 f2 f3 f4 f5;have hm:(bu t s).2.2.1<=t.size:=by
  unfold bu;simp only[];split
  ·exact f3
  ·split
   ·simp only[];split
    ·exact f5
    ·exact f5
   ·exact f3
 unfold nD;simp only[];split
 ·exact hm
 ·exact hm
theorem O0{t:ByteArray}{s:RS}(h:s.1<=t.size):(fX t s).2.1<=t.size:=by
 have f1:=pT (t:=t) (s:=s) h;unfold fX;repeat' split
 all_goals first | exact f1 | exact OZ f1
theorem HZ{t:ByteArray}(iZ:t.size<=40){p:Nat}{ns:List AN}{ps:List PN}:∀(n:Nat) (r1:Nat×PS) (q1:Nat×RP),t.size-q1.2.1.1<=n->PO t p ns ps r1 q1->(q1.2.1.2=false->p<q1.2.1.1) ->
 ∃r q,Ev t 6 r1.1 r1.2 r/\db t 4 [q1.1] q1.2 q/\PO t p ns ps r q/\(q.2.1.2=false->p<q.2.1.1)
 | n,r1,q1,hn,h,lN=>by
   cases hb:q1.2.1.2 with
   | true=>
     have e1:=na h.sync hb;exact⟨r1,q1,Ev.gM (st:=r1.2) (by rw[e1];exact HR),db.gM (st:=q1.2) (Or.inl hb),h,lN⟩
   | false=>
     have e1:=j8 h.sync hb;have dd:=h.sz hb;have hgt1:=lN hb;obtain⟨i,⟨sa,Vm⟩⟩:=r1;obtain⟨j,⟨⟨pb,bb⟩,iE⟩⟩:=q1;simp only[]at hb e1 dd hgt1 hn;subst hb e1;cases hr:kN t (pb,false) with
     | false=>exact⟨_,_,Ev.gM (st:=((pb,false),Vm)) hr,db.gM (st:=((pb,false),iE)) (Or.inr (by rw[V2];exact hr)),h,lN⟩
     | true=>
       have bO:=lQ hr;obtain⟨more,hen⟩:=h.en;obtain⟨MD,hep⟩:=h.ep;simp only[]at hen hep;have JL:∀k,k∈[j]->k<iE.length:=fun k hk=>by simp at hk;subst hk;exact dd.2.1
       rcases yH hr with⟨g1,g2⟩|⟨g1,g2⟩
       ·have eA:=Ev.rep (t:=t) (cur:=i) (st:=((pb,false),Vm)) hr (Ev.gM (st:=(ch i (aC t (pb,false)).1 ((aC t (pb,false)).2,Vm)).2) (by show kN t (aC t (pb,false)).2=false;rw[g1];exact HR));have eB:=db.rep (t:=t) (x:=j) (st:=((pb,false),iE)) rfl (by rw[V2];exact hr) (db.gM (st:=((fX t (pb,false)).2,iE++[{kind:=6,kids:=[j],least:=(fX t (pb,false)).1.1,most:=(fX t (pb,false)).1.2}])) (Or.inl g2));refine⟨_,_,eA,eB,⟨Or.inl ⟨g1,g2⟩,⟨more++[_],by show Vm++[_]=_;rw[hen,List.append_assoc]⟩,⟨MD++[_],by show iE++[_]=_;rw[hep,List.append_assoc]⟩,mT.push h.wf JL,?_,?_,by simp[a8],fun hc=>?_⟩,fun hc=>?_⟩
        ·show p<=(fX t (pb,false)).2.1;have h1:pb<=(fX t (pb,false)).2.1:=by
          unfold fX;have:=yo (t:=t) (s:=(pb,false));repeat' split
          all_goals first | exact this | exact Nat.le_trans this Mz
         have:=h.ge;simp only[]at this;omega
        ·show(fX t (pb,false)).2.1<=t.size;exact O0 (Nat.le_of_lt bO)
        ·have hc:(fX t (pb,false)).2.2=false:=hc;rw[g2]at hc;cases hc
        ·have hc:(fX t (pb,false)).2.2=false:=hc;rw[g2]at hc;cases hc
       ·have H2:=HY hr g2;have Sc:=DU hr g2;obtain⟨l0,l9,m0,m9⟩:=sB t (pb,false);have vd:=kO (t:=t) (s:=(pb,false)) (Nat.le_of_lt bO);generalize hR:aC t (pb,false)=R at *;obtain⟨⟨least,most⟩,⟨p2,b2⟩⟩:=R;simp only[Fits]at g2 H2 l0 l9 m0 m9 vd Sc;subst g2;obtain⟨t1,t9⟩:=vX (a:=least) (b:=most) l9 m9;have hTn:T (iE++[{kind:=6,kids:=[j],least:=least,most:=most}]) iE.length=T iE j*aY least most:=by
         rw[MR h.wf JL];have qz:mU iE [j]=T iE j:=by
          have A4:=dd.2.2.2.1.small (by have:=h.fit;simp only[]at this;omega);have:=dd.2.2.2.1.1;show wrap64 (0+T iE j)=_;rw[Int.zero_add];exact wrap64_in _ (by omega)
         rw[HW rfl m0,qz];simp only[];split
         ·have hprod:Bd (T iE j*aY least most) (pb-p+3):=dd.2.2.2.1.mul (Bd.nine t1 t9);have jm:=hprod.1;have h40:T iE j*aY least most<=74446255130*1000000:=by
           have A4:=dd.2.2.2.1.small (by have:=h.fit;simp only[]at this;omega);have h2:=Int.mul_le_mul A4 t9 (by omega) (by omega);omega
          exact wrap64_in _ (by omega)
         ·have:aY least most=1:=by omega
          rw[this,Int.mul_one]
        have Cv:Bd (T iE j*aY least most) (p2-p):=by
         rcases H2 with⟨k1,k2⟩|k2
         ·rw[k1,Int.mul_one];have:=dd.2.2.2.1.more (c:=p2-pb);rwa [show pb-p+(p2-pb)=p2-p by omega]at this
         ·have:=(dd.2.2.2.1.mul (Bd.nine t1 t9)).more (c:=p2-(pb+3));rwa [show pb-p+3+(p2-(pb+3))=p2-p by omega]at this
        have po2:PO t p ns ps (ch i (least,most) ((p2,false),Vm)) (a8 { kind:=6,kids:=[j],least:=least,most:=most} ((p2,false),iE)):=by
         refine⟨Or.inr ⟨rfl,rfl⟩,⟨more++[_],by show Vm++[_]=_;rw[hen,List.append_assoc]⟩,⟨MD++[_],by show iE++[_]=_;rw[hep,List.append_assoc]⟩,mT.push h.wf JL,by show p<=p2;omega,vd,by simp[a8],fun _=>⟨by simp[ch,bL],by simp[a8],?_,?_,nF.times dd.2.2.2.2 rfl rfl rfl rfl rfl rfl l0 l9 m0 m9 Sc⟩⟩
         ·show au (Vm++[gL _]) Vm.length=fA (T (iE++[_]) iE.length);rw[uu,hTn];show fA (au Vm i*aY least most)=_;rw[dd.2.2.1,VZ _ _ dd.2.2.2.1.1 t1]
         ·show Bd (T (iE++[_]) iE.length) (p2-p);rw[hTn];exact Cv
        match n,hn with
        | 0,hn=>omega
        | n+1,hn=>
          obtain⟨r,q,a1,a2,a3,a4⟩:=HZ iZ n _ _ (by show t.size-p2<=n;omega) po2 (fun _=>by show p<p2;omega);refine⟨r,q,Ev.rep (st:=((pb,false),Vm)) hr (by rw[hR];exact a1),db.rep (st:=((pb,false),iE)) rfl (by rw[V2];exact hr) ?_,a3,a4⟩;rw[<-g1];exact a2
end Go.Proofs.YtgifhgnccmnbiabGreatDoor
