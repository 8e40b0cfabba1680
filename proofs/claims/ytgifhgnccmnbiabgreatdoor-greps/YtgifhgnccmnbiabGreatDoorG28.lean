/- Part of the proof. -/
import Derived.Test.YtgifhgnccmnbiabGreatDoorG27
import Derived.Test.YtgifhgnccmnbiabGreatDoorG11
import Derived.Test.YtgifhgnccmnbiabGreatDoorG26
import Derived.Test.YtgifhgnccmnbiabGreatDoorG25
import Derived.Test.YtgifhgnccmnbiabGreatDoorG01
import Derived.ProofKit
import Derived.OpenShut
import Derived.ShutString
import Derived.ChangeSame
import Derived.Test.YtgifhgnccmnbiabGreatDoorG24
import Derived.LaidHandle
import Derived.Lib.LaidTab
set_option linter.unusedVariables false
set_option linter.unusedSimpArgs false
set_option maxHeartbeats 4000000
set_option maxRecDepth 100000
namespace Go.Proofs.YtgifhgnccmnbiabGreatDoor
open Go.RowKit Go.IntWalk
theorem T_at{ps:List PN}(hw:mT ps){j:Nat}{p:PN}(hp:ps[j]?=some p):T ps j=dK p (mU ps p.kids):=by
 unfold T;rw[eo,hp];simp only[];congr 1
 exact mV _ _ (fun k hk=>pW ps hw _ _ k (hw j p hp k hk) (Nat.lt_succ_self _))
theorem JC{ps:List PN}{B:Int}(hB:B<=4611686018427387904):∀(l:List Nat) (n:Int),0<=n->n+hS ps l<=B->(∀k,k∈l->1<=hT ps k/\(hT ps k<=B->T ps k=hT ps k)) ->
 l.foldl (fun n k=>wrap64 (n+T ps k)) n=n+hS ps l
 | [],n,_,_,_=>by show n=n+0;omega
 | k :: l,n,h0,h1,h=>by
   have hs:hS ps (k :: l)=hT ps k+hS ps l:=rfl;have zu:∀l:List Nat,(∀k,k∈l->1<=hT ps k/\(hT ps k<=B->T ps k=hT ps k))->0<=hS ps l:=by
    intro l;induction l with
    | nil=>intro _;exact Int.le_refl _
    | cons x r ih=>
      intro hh;have a:=(hh x (by simp)).1;have b:=ih (fun k hk=>hh k (by simp[hk]));show 0<=hT ps x+hS ps r;omega
   have hl:=zu l (fun j hj=>h j (by simp[hj]));obtain⟨k1,k2⟩:=h k (by simp);rw[hs]at h1 ⊢;rw[List.foldl_cons,k2 (by omega),wrap64_in _ (by omega),JC hB l _ (by omega) (by omega) (fun j hj=>h j (by simp[hj]))];omega
theorem Mu{ps:List PN}:∀l:List Nat,(∀k,k∈l->1<=hT ps k)->(l.length:Int)<=hS ps l
 | [],_=>Int.le_refl _
 | k :: l,h=>by
   have a:=h k (by simp);have b:=Mu l (fun j hj=>h j (by simp[hj]));show((l.length+1:Nat):Int)<=hT ps k+hS ps l;omega
theorem ym{ps:List PN}(hw:mT ps)(h5:gQ ps){j:Nat}(h:dq ps j):1<=hT ps j/\(hT ps j<=4611686018427387904->T ps j=hT ps j):=by
 induction h with
 | @leaf j p hp hk=>
   rw[Cs hw hp,T_at hw hp];unfold hK dK;rw[if_pos hk,if_pos hk];exact⟨Int.le_refl _,fun _=>rfl⟩
 | @many j p hp hk iT ih=>
   have WK:=Mu p.kids (fun k hk=>(ih k hk).1);rw[Cs hw hp,T_at hw hp];have key:hS ps p.kids<=4611686018427387904->mU ps p.kids=hS ps p.kids:=fun hle=>by
    have:=JC (ps:=ps) (B:=4611686018427387904) (Int.le_refl _) p.kids 0 (Int.le_refl _) (by omega) ih;unfold mU;rw[this,Int.zero_add]
   rcases hk with hk|hk
   ·have e1:∀n,hK p n=if n<1 then 1 else n:=fun n=>by unfold hK;rw[if_neg (by omega),if_pos hk]
    have e2:∀n,dK p n=if n<1 then 1 else n:=fun n=>by unfold dK;rw[if_neg (by omega),if_pos hk]
    rw[e1,e2];refine⟨by split <;> omega,fun hle=>?_⟩
    have:hS ps p.kids<=4611686018427387904:=by
     split at hle <;> omega
    rw[key this]
   ·have e1:∀n,hK p n=n:=fun n=>by unfold hK;rw[if_neg (by omega),if_neg (by omega),if_neg (by omega)]
    have e2:∀n,dK p n=n:=fun n=>by unfold dK;rw[if_neg (by omega),if_neg (by omega),if_neg (by omega)]
    rw[e1,e2];have fx:=h5 j p hp hk;have:1<=p.kids.length:=by
     cases hl:p.kids with
     | nil=>exact absurd hl fx
     | cons x r=>simp
    exact⟨by omega,key⟩
 | @times j k p hp hk iT hg l0 l9 m0 m9 ih=>
   obtain⟨n1,n9⟩:=vX (a:=p.least) (b:=p.most) l9 m9;rw[Cs hw hp,T_at hw hp];have e1:hK p (hS ps p.kids)=hT ps k*aY p.least p.most:=by
    unfold hK;rw[if_neg (by omega),if_neg (by omega),if_pos hk,iT];show(hT ps k+0)*_=_;rw[Int.add_zero]
   rw[e1];generalize hc:aY p.least p.most=c at *;have h1:hT ps k<=hT ps k*c:=by
    have:=Int.mul_le_mul_of_nonneg_left n1 (show(0:Int)<=hT ps k by omega);omega
   refine⟨by omega,fun hle=>?_⟩;have hTk:=ih.2 (by omega);have hs:mU ps p.kids=hT ps k:=by
    rw[iT];show wrap64 (0+T ps k)=_;rw[Int.zero_add,hTk];exact wrap64_in _ (by omega)
   rw[HW hk m0,hs,hc];split
   ·exact wrap64_in _ (by omega)
   ·have:c=1:=by omega
    rw[this,Int.mul_one]
theorem NO{f:Nat->Nat->List DN->jO}{B:Nat->Int}:∀(l:List Nat) (s:jO),(∀k,k∈l->∀nx N,((f k nx N).2.length:Int)<=N.length+B k)->((lX f l s).2.length:Int)<=s.2.length+qT B l
 | [],s,_=>by show(s.2.length:Int)<=s.2.length+0;omega
 | k :: l,s,h=>by
   have a:=NO l s (fun j hj=>h j (by simp[hj]));have b:=h k (by simp) (lX f l s).1 (lX f l s).2;show((f k (lX f l s).1 (lX f l s).2).2.length:Int)<=s.2.length+(B k+qT B l);omega
theorem NP{f:Nat->Nat->List DN->jO}{B:Nat->Int}{nx:Nat}:∀(l:List Nat) (s:jO),(∀k,k∈l->∀nx N,((f k nx N).2.length:Int)<=N.length+B k)->((l.foldl (lY f nx) s).2.length:Int)<=s.2.length+qT B l+l.length
 | [],s,_=>by show(s.2.length:Int)<=s.2.length+0+((0:Nat):Int);omega
 | k :: l,s,h=>by
   have b:=h k (by simp) nx s.2;have a:=NP (nx:=nx) l (lY f nx s k) (fun j hj=>h j (by simp[hj]));have e:(lY f nx s k).2.length=(f k nx s.2).2.length+1:=by unfold lY;simp
   rw[List.foldl_cons];show _<=(s.2.length:Int)+(B k+qT B l)+((l.length+1:Nat):Int);rw[e]at a;omega
theorem Cu{g:Nat->List DN->jO}{a:Int}(h:∀nx N,((g nx N).2.length:Int)<=N.length+a)(s:jO):∀c:Nat,((fN g c s).2.length:Int)<=s.2.length+c*a
 | 0=>by show(s.2.length:Int)<=s.2.length+((0:Nat):Int)*a;simp
 | c+1=>by
   have i:=Cu h s c;have b:=h (fN g c s).1 (fN g c s).2;show((g (fN g c s).1 (fN g c s).2).2.length:Int)<=s.2.length+((c+1:Nat):Int)*a;have e:((c+1:Nat):Int)*a=c*a+a:=by rw[Int.natCast_add,Int.add_mul];simp
   omega
theorem NQ{g:Nat->List DN->jO}{a:Int}{nx:Nat}(h:∀nx N,((g nx N).2.length:Int)<=N.length+a)(s:jO):∀c:Nat,((j7 g nx c s).2.length:Int)<=s.2.length+c*(a+1)
 | 0=>by show(s.2.length:Int)<=s.2.length+((0:Nat):Int)*(a+1);simp
 | c+1=>by
   have i:=NQ (nx:=nx) h s c;have b:=h (j7 g nx c s).1 (j7 g nx c s).2;have e0:(j7 g nx (c+1) s).2.length=(g (j7 g nx c s).1 (j7 g nx c s).2).2.length+1:=by
    show(Fg g nx (j7 g nx c s)).2.length=_;unfold Fg;simp
   rw[e0];have e:((c+1:Nat):Int)*(a+1)=c*(a+1)+(a+1):=by rw[Int.natCast_add,Int.add_mul];simp
   omega
theorem QA{g:Nat->List DN->jO}{a:Int}{nx:Nat}(h:∀nx N,((g nx N).2.length:Int)<=N.length+a)(N:List DN):((kZ g nx N).2.length:Int)<=N.length+a+1:=by
 have b:=h N.length (N++[bK nx nx]);unfold kZ;simp only[List.length_set];simp only[List.length_append,List.length_cons,List.length_nil]at b;omega
theorem QB{g:Nat->List DN->jO}{a x:Int}(h:∀nx N,((g nx N).2.length:Int)<=N.length+a)(ha:0<=a)(hx:1<=x){least most:Int}(l0:0<=least)(m0:-1<=most)(ho:most = -1\/least<=most)(nx:Nat)(N:List DN):
 ((qe g least most nx N).2.length:Int)<=N.length+aY least most*(a+x):=by
 have hax:0<=a+x:=by omega
 unfold qe;by_cases hm:most<0
 ·have P0:most = -1:=by omega
  have ht:aY least most=if least<1 then 1 else least:=by unfold aY;rw[if_pos P0]
  rw[if_pos hm,ht];have b:=QA (nx:=nx) h N;by_cases hl:0<least
  ·rw[if_pos hl,if_neg (by omega)];have c:=Cu h (kZ g nx N) (least.toNat-1);have e:(((least.toNat-1:Nat)):Int)=least-1:=by omega
   rw[e]at c;have e2:(least-1)*a=least*a-a:=by rw[Int.sub_mul,Int.one_mul]
   have e3:least*(a+x)=least*a+least*x:=Int.mul_add _ _ _;have e4:least*1<=least*x:=Int.mul_le_mul_of_nonneg_left hx l0;omega
  ·rw[if_neg hl,if_pos (by omega)];show((kZ g nx N).2.length:Int)<=_;omega
 ·have ht:aY least most=if most<1 then 1 else most:=by unfold aY;rw[if_neg (show ¬most = -1 by omega)]
  rw[if_neg hm,ht];have c:=NQ (nx:=nx) h (nx,N) (most-least).toNat;have d:=Cu h (j7 g nx (most-least).toNat (nx,N)) least.toNat;have e1:(((most-least).toNat:Nat):Int)=most-least:=by omega
  have e2:((least.toNat:Nat):Int)=least:=by omega
  rw[e1]at c;rw[e2]at d;simp only[]at c;have e3:(most-least)*(a+1)=most*a+most-least*a-least:=by rw[Int.sub_mul,Int.mul_add,Int.mul_add,Int.mul_one,Int.mul_one];omega
  have key:((fN g least.toNat (j7 g nx (most-least).toNat (nx,N))).2.length:Int)<=N.length+(most*a+most):=by omega
  by_cases h1:most<1
  ·have:most=0:=by omega
   subst this;rw[if_pos h1];simp only[Int.zero_mul]at key;omega
  ·rw[if_neg h1];have e5:most*(a+x)=most*a+most*x:=Int.mul_add _ _ _;have e6:most*1<=most*x:=Int.mul_le_mul_of_nonneg_left hx (by omega);omega
theorem NR{ps:List PN}{j:Nat}:∀l:List Nat,(∀k,k∈l->k<j/\1<=hT ps k)->qT (fun k=>hT ps k*((k:Int)+1)) l<=hS ps l*j
 | [],_=>by show(0:Int)<=0*j;simp
 | k :: l,h=>by
   obtain⟨a,b⟩:=h k (by simp);have c:=NR (j:=j) l (fun i hi=>h i (by simp[hi]));show hT ps k*((k:Int)+1)+qT _ l<=(hT ps k+hS ps l)*j;rw[Int.add_mul];have:=Int.mul_le_mul_of_nonneg_left (show(k:Int)+1<=j by omega) (show(0:Int)<=hT ps k by omega);omega
theorem U8{ps:List PN}(hw:mT ps)(h5:gQ ps)(ho:Mt ps){j:Nat}(h:dq ps j):∀f,j<f->∀nx N,((aT ps f j nx N).2.length:Int)<=N.length+hT ps j*((j:Int)+1):=by
 induction h with
 | @leaf j p hp hk=>
   intro f hf nx N;obtain⟨g,rfl⟩:∃g,f=g+1:=⟨f-1,by omega⟩;rw[fj hp,if_neg (by omega),if_neg (by omega),if_neg (by omega),Cs hw hp];unfold hK;rw[if_pos hk];simp;omega
 | @many j p hp hk iT ih=>
   intro f hf nx N;obtain⟨g,rfl⟩:∃g,f=g+1:=⟨f-1,by omega⟩;have zu:=fun k hk=>(ym hw h5 (iT k hk)).1;have WK:=Mu p.kids zu;have bO:=hw j p hp;have hB:∀k,k∈p.kids->∀nx N,((aT ps g k nx N).2.length:Int)<=N.length+(fun k=>hT ps k*((k:Int)+1)) k:=fun k JL nx N=>ih k JL g (by have:=bO k JL;omega) nx N;have iZ:=NR (ps:=ps) (j:=j) p.kids (fun k hk=>⟨bO k hk,zu k hk⟩);have Oz:0<=hS ps p.kids:=by omega
   have e0:hS ps p.kids*((j:Int)+1)=hS ps p.kids*j+hS ps p.kids:=by rw[Int.mul_add,Int.mul_one]
   rw[fj hp,Cs hw hp];rcases hk with hk|hk
   ·have e1:hK p (hS ps p.kids)=if hS ps p.kids<1 then 1 else hS ps p.kids:=by unfold hK;rw[if_neg (by omega),if_pos hk]
    rw[if_pos hk,e1];have:=NO p.kids (nx,N) hB;simp only[]at this;split
    ·have hz:hS ps p.kids=0:=by omega
     rw[hz,Int.zero_mul]at iZ;omega
    ·omega
   ·have e1:hK p (hS ps p.kids)=hS ps p.kids:=by unfold hK;rw[if_neg (by omega),if_neg (by omega),if_neg (by omega)]
    rw[if_neg (by omega),if_pos hk,e1];cases hl:p.kids with
    | nil=>exact absurd hl (h5 j p hp hk)
    | cons k l=>
      rw[hl]at hB iZ WK e0;have a:=hB k (by simp) nx N;have b:=NP (nx:=nx) l (aT ps g k nx N) (fun i hi=>hB i (by simp[hi]));show((l.foldl (lY (aT ps g) nx) (aT ps g k nx N)).2.length:Int)<=_;have e2:qT (fun k=>hT ps k*((k:Int)+1)) (k :: l)=hT ps k*((k:Int)+1)+qT (fun k=>hT ps k*((k:Int)+1)) l:=rfl;simp only[]at a;simp only[List.length_cons]at WK;omega
 | @times j k p hp hk iT hg l0 l9 m0 m9 ih=>
   intro f hf nx N;obtain⟨g,rfl⟩:∃g,f=g+1:=⟨f-1,by omega⟩;have bO:=hw j p hp k (by rw[iT];simp);have h1:=(ym hw h5 hg).1;obtain⟨n1,n9⟩:=vX (a:=p.least) (b:=p.most) l9 m9;rw[fj hp,if_neg (by omega),if_neg (by omega),if_pos hk,Cs hw hp];have e1:hK p (hS ps p.kids)=hT ps k*aY p.least p.most:=by
    unfold hK;rw[if_neg (by omega),if_neg (by omega),if_pos hk,iT];show(hT ps k+0)*_=_;rw[Int.add_zero]
   have ek:p.kids.headD 0=k:=by rw[iT];rfl
   rw[e1,ek];have hm:hT ps k*((k:Int)+1)<=hT ps k*j:=Int.mul_le_mul_of_nonneg_left (by omega) (by omega);have h0:0<=hT ps k*((k:Int)+1):=Int.mul_nonneg (by omega) (by omega);have b:=QB (g:=aT ps g k) (a:=hT ps k*j) (x:=hT ps k) (fun nx N=>by have:=ih g (by omega) nx N;omega) (by omega) h1 l0 m0 (ho j p hp hk) nx N;have e2:hT ps k*aY p.least p.most*((j:Int)+1)=aY p.least p.most*(hT ps k*j+hT ps k):=by
    rw[Int.mul_comm (hT ps k) (aY p.least p.most),Int.mul_assoc,Int.mul_add,Int.mul_one]
   rw[e2];exact b
theorem nod_ok(p:ByteArray):NodOk p:=fun r hr=>by
 obtain⟨r',q,h1,hq,_⟩:=Fk hr.small (p.size+1) 0 [] [] (fun i p hp=>by simp at hp) (Nat.zero_le _) (by omega);have hq:db p 0 [] CJ q:=hq;obtain⟨s1,s2,_,_⟩:=nc hr.small hr.ev hq;have CK:¬vn p q:=fun hc=>hr.ej (s1.2 hc);have U9:dq q.2.2 q.1:=V7 hr.small q hq CK;have hb:q.2.1.2=false:=tu (fun h=>CK (Or.inl h));have N:=hq.nod hb;have iZ:=hr.small;have dd:=hr.size;have h2:au r.2.2 r.1=fA (T q.2.2 q.1):=s2 CK;have dD:=N.fit;have hlen:=N.len;have bO:=N.lt;simp only[uN,CJ,List.length_nil]at hlen;obtain⟨t1,t2⟩:=ym N.wf hq.JA U9;have hbs:=N.bd.small (by simp only[CJ];omega);rw[t2 (by omega)]at h2;have Vj:hT q.2.2 q.1<=60:=by
  unfold fA at h2;split at h2 <;> omega
 have hl:=U8 N.wf hq.JA N.ord U9 (q.1+1) (by omega) 0 [{kind:=8}];have hm:=Int.mul_le_mul_of_nonneg_right Vj (show(0:Int)<=(q.1:Int)+1 by omega);refine⟨q,hq,U9,?_⟩;unfold uM;simp at hlen;simp only[List.length_cons,List.length_nil]at hl;omega
theorem QC{M:MP}{inv:Bool}{mx:Int}(h0:0<=mx)(X:List Nat):fp mx (tJ (qQ M inv) X)=Q3 M inv mx X:=by
 have hn:=No M inv X;show fp mx (FV M inv X)=Q3 M inv mx X;unfold Q3 fp uE;rw[<-hn];by_cases h:mx=0
 ·rw[if_pos h,if_neg (by omega)];rw[show((FV M inv X).length:Int).toNat=(FV M inv X).length from rfl,List.take_length]
 ·rw[if_neg h];by_cases h2:mx<((FV M inv X).length:Int)
  ·rw[if_pos ⟨by omega,h2⟩]
  ·rw[if_neg (fun hc=>h2 hc.2),show((FV M inv X).length:Int).toNat=(FV M inv X).length from rfl,List.take_length,List.take_of_length_le (by omega)]
theorem pP.grep{inv fold whole num:Bool}{mx c:Int}{p f:ByteArray}(h:pP f c)(hf:f.size<=maxLen){r:Nat×PS}(hr:iy p r)(tV:0<=mx)(w:World):
 Calls Tryz.prog 9 #[.agg #[.bool inv,.bool fold,.bool whole,.bool num,.int .i64 mx],.string p,.string f] w fun e w'=>e=.returned (.tuple #[.string ⟨#[]⟩,.int .i64 c])/\Below w.heap.size w w':=
 Nw w h.nz (fun w=>LR hr w tV h.nz (fun w=>h.read hf w))
theorem QD{p f:ByteArray}(hp:p.size<=maxLen)(hf:f.size<=maxLen)(inv fold whole num:Bool){mx:Int}(sZ:mx<=9223372036854775807):∃(s:ByteArray) (x:Int),
 (∀w,mj w->Calls Tryz.prog 9 #[.agg #[.bool inv,.bool fold,.bool whole,.bool num,.int .i64 mx],.string p,.string f] w fun e w'=>e=.returned (.tuple #[.string s,.int .i64 x])/\Below w.heap.size w w') /\
 (∀w,mj w->Calls Tryz.prog 10 #[.agg #[.bool inv,.bool fold,.bool whole,.bool num,.int .i64 mx],.string p,.string f] w fun e w'=>e=.returned (.tuple #[.string s,.int .i64 x])/\Below w.heap.size w w'):=by
 rcases Qk mx p with⟨x,hx⟩|⟨tV,r,hr⟩
 ·exact⟨⟨#[]⟩,x,fun w _=>UF hx hp f w,fun w _=>Jr hx.nz (fun w'=>Qz hx hp w') w⟩
 ·obtain⟨q,hq,hg,U1⟩:=nod_ok p r hr;rcases Ms f with⟨c,hc⟩|⟨X,hX⟩
  ·exact⟨⟨#[]⟩,c,fun w _=>hc.grep hf hr tV w,fun w _=>Jr hc.nz (fun w'=>Mr hr hq tV hf hc.nz (jF.bad hc) w') w⟩
  ·obtain⟨⟨kind,hT⟩,hl⟩:=hX.text;refine⟨_,_,fun w ht=>hT.grep hl hf hr tV sZ w ht,fun w ht=>?_⟩;rw[<-QC tV];exact UO tV ht (fun w'=>U0 hr hq hg U1 tV hf (jF.ej hX) w')
theorem QE(inv fold whole num:Bool)(mx:Int)(p f:ByteArray)(w:World)(ft:mj w)(P0:-9223372036854775808<=mx)(sZ:mx<=9223372036854775807)(hp:p.size<=maxLen)(hf:f.size<=maxLen):
 Calls Tryz.prog 3 #[.agg #[.bool inv,.bool fold,.bool whole,.bool num,.int .i64 mx],.string p,.string f] w fun e w'=>e=.returned (.bool true)/\Below w.heap.size w w':=by
 obtain⟨s,x,hc,hr⟩:=QD hp hf inv fold whole num sZ;have xX:Hid (∀w,mj w->Calls _ _ _ w _):=hc;have ug:Hid (∀w,mj w->Calls _ _ _ w _):=hr;have h0:Hid (∀o,Below w.heap.size w (w.alloc o)):=fun o=>(Below.refl _ _).alloc (Nat.le_refl _) o;have Rq:Hid (∀w',Below w.heap.size w w'->mj w'):=fun w' b=>ft.kept (gZ b);clear hc hr ft;go_enter Tryz.func3,Tryz.ntmps3
 go_wp2_with fail
 refine(xX.out _ (Rq.out _ (h0.out _))).mono ?_;rintro e w1 ⟨rfl,b1⟩;have B1:Hid (ah w1 w.heap.size #[.bool inv,.bool fold,.bool whole,.bool num,.int .i64 mx] 23):=ah.kept (ah.new w _ _) (gZ b1) (by simp);have b1:Hid (Below w.heap.size w w1):=(h0.out _).trans (b1.mono (by simp));clear h0 xX;obtain⟨o0,o1,o2,o3,o4,ol⟩:=C8 B1.out;go_wp2_with fail
 refine(ug.out _ (Rq.out _ b1.out)).mono ?_;rintro e w2 ⟨rfl,b2⟩;have b2:Hid (Below w.heap.size w w2):=b1.out.trans (b2.mono b1.out.size);clear b1 B1 o0 o1 o2 o3 o4 ol ug Rq;go_wp2
 go_ret;exact⟨rfl,b2.out⟩
end Go.Proofs.YtgifhgnccmnbiabGreatDoor
namespace Go.Proofs.YtgifhgnccmnbiabGreatDoor
open Go.ChangeShapes Go.WideShapes Go.ChangeAt Go.RowKit
theorem JD:Tryz.prog.cellsOf 23=5:=by kernel_rfl
theorem sA:Tryz.prog.cellsOf 4=1:=by kernel_rfl
theorem NT:Tryz.prog.cellsOf 3=1:=by kernel_rfl
section
variable {H:Type}{enc:TypeId×Value->H}{w:World}{base:Nat}{spare:Nat->Bool}{held:Bool}
theorem Gk{r:Reach}{b0:Nat}{v:Value}{d:DataW H}{ps:List MemPlace}(QF:Value.okWide Tryz.prog w r b0 23 v)(hd:DataW.Trod enc Tryz.prog w base spare held 23 v d ps):
 ∃(i f wh nu:Bool) (mx:Int),v=.agg #[.bool i,.bool f,.bool wh,.bool nu,.int .i64 mx]/\d=.agg [.lit (.bool i),.lit (.bool f),.lit (.bool wh),.lit (.bool nu),.lit (.int .i64 mx)]/\ps=[]/\(Lit.int .i64 mx).wf=true:=by
 obtain⟨cs,rfl,dd⟩:=okWide_struct Tryz.underlying23 QF;rw[JD]at dd;obtain⟨l⟩:=cs;match l,dd with
 | [c0,c1,c2,c3,c4],_=>
 obtain⟨fuel,hf⟩:=hd;obtain⟨xs,n,_,hx,_,hlen,iA⟩:=DataW.trod_struct Tryz.underlying23 hf;match xs,hlen with
 | [y0,y1,y2,y3,y4],_=>
 have g0:DataW.trod enc Tryz.prog w base spare held n 4 [c0]=some y0:=by
  have h:DataW.trod enc Tryz.prog w base spare held n 4 (([c0,c1,c2,c3,c4].drop 0).take (Tryz.prog.cellsOf 4))=some y0:=iA 0 _ rfl;rw[sA]at h;exact h
 have g1:DataW.trod enc Tryz.prog w base spare held n 4 [c1]=some y1:=by
  have h:DataW.trod enc Tryz.prog w base spare held n 4 (([c0,c1,c2,c3,c4].drop 1).take (Tryz.prog.cellsOf 4))=some y1:=iA 1 _ rfl;rw[sA]at h;exact h
 have g2:DataW.trod enc Tryz.prog w base spare held n 4 [c2]=some y2:=by
  have h:DataW.trod enc Tryz.prog w base spare held n 4 (([c0,c1,c2,c3,c4].drop 2).take (Tryz.prog.cellsOf 4))=some y2:=iA 2 _ rfl;rw[sA]at h;exact h
 have g3:DataW.trod enc Tryz.prog w base spare held n 4 [c3]=some y3:=by
  have h:DataW.trod enc Tryz.prog w base spare held n 4 (([c0,c1,c2,c3,c4].drop 3).take (Tryz.prog.cellsOf 4))=some y3:=iA 3 _ rfl;rw[sA]at h;exact h
 have g4:DataW.trod enc Tryz.prog w base spare held n 3 [c4]=some y4:=by
  have h:DataW.trod enc Tryz.prog w base spare held n 3 (([c0,c1,c2,c3,c4].drop 4).take (Tryz.prog.cellsOf 3))=some y4:=iA 4 _ rfl;rw[NT]at h;exact h
 obtain⟨b0',e0,rfl⟩:=DataW.trod_bool Tryz.underlying4 g0;obtain⟨b1',e1,rfl⟩:=DataW.trod_bool Tryz.underlying4 g1;obtain⟨b2',e2,rfl⟩:=DataW.trod_bool Tryz.underlying4 g2;obtain⟨b3',e3,rfl⟩:=DataW.trod_bool Tryz.underlying4 g3;obtain⟨m,e4,rfl,wm⟩:=DataW.trod_int Tryz.underlying3 g4;simp only[List.cons.injEq,and_true]at e0 e1 e2 e3 e4;subst e0 e1 e2 e3 e4;simp only[Prod.mk.injEq]at hx;obtain⟨rfl,rfl⟩:=hx;exact⟨_,_,_,_,_,rfl,rfl,rfl,wm⟩
theorem Gl(i f wh nu:Bool){mx:Int}(hm:(Lit.int .i64 mx).wf=true):
 DataW.Trod enc Tryz.prog w base spare held 23 (.agg #[.bool i,.bool f,.bool wh,.bool nu,.int .i64 mx]) (.agg [.lit (.bool i),.lit (.bool f),.lit (.bool wh),.lit (.bool nu),.lit (.int .i64 mx)]) []:=⟨2,by
 have fb:∀b:Bool,DataW.trod enc Tryz.prog w base spare held 1 4 [.bool b]=some (.lit (.bool b),[]):=fun b=>by simp[DataW.trod,Tryz.underlying4]
 have fi:DataW.trod enc Tryz.prog w base spare held 1 3 [.int .i64 mx]=some (.lit (.int .i64 mx),[]):=by simp[DataW.trod,Tryz.underlying3,hm]
 have:=trod_struct_mk (enc:=enc) (w:=w) (base:=base) (spare:=spare) (held:=held) (n:=1) (cs:=[.bool i,.bool f,.bool wh,.bool nu,.int .i64 mx])
  (xs:=[(.lit (.bool i),[]),(.lit (.bool f),[]),(.lit (.bool wh),[]),(.lit (.bool nu),[]),(.lit (.int .i64 mx),[])]) Tryz.underlying23 (by simp[JD]) (by simp[sA,NT,fb,fi])
 simpa [Value.cells] using this⟩
end
end Go.Proofs.YtgifhgnccmnbiabGreatDoor
namespace Go.Proofs.YtgifhgnccmnbiabGreatDoor
open Go
theorem JE{P:Program}{W:World}{name:String}{k:IntKind}{zs:List Int}{rest:List (String×DataW Unit)}{ps:List MemPlace}{g:Nat}{t e:TypeId}{n:Nat}
 (hg:P.globalNamed name=some g) (hty:(P.globals[g]?).map (·.type)=some t) (ht:P.underlying t=some (.array n e)) (he:P.underlying e=some (.int k)) (C3:P.cellsOf e=1) (hct:P.cellsOf t=n)
 (h:DataW.LaidVars P W ((name,Lib.tabData k zs) :: rest) ps):Lib.TabIs P W name k zs:=by
 obtain⟨g',t',cs,fuel,p,q,JF,X7,hvar,hd,_,_⟩:=h;obtain rfl:=Option.some.inj (hg.symm.trans JF);obtain rfl:=Option.some.inj (hty.symm.trans X7);unfold Lib.TabIs;rw[hvar,<-Lib.cells_of_tab ht he C3 hct hd]
theorem ED{P:Program}{W:World}{x:String×DataW Unit}{rest:List (String×DataW Unit)}{ps:List MemPlace}(h:DataW.LaidVars P W (x :: rest) ps):∃q,DataW.LaidVars P W rest q:=by
 obtain⟨g',t',cs,fuel,p,q,_,_,_,_,h5,_⟩:=h;exact⟨q,h5⟩
noncomputable def powG:Nat:=(Tryz.prog.globalNamed aab).getD 0
noncomputable def powT:TypeId:=((Tryz.prog.globals[powG]?).map (·.type)).getD 0
theorem Gm{W:World}(h:laidMetH Tryz.prog Rows.alikeRow.laid W):mj W:=by
 have h':laidMet Tryz.prog Rows.alikeRow.laid W:=h;obtain⟨ps,hv,_⟩:=h';obtain⟨q1,h1⟩:=ED hv;obtain⟨q2,h2⟩:=ED h1;exact JE (g:=powG) (t:=powT) (n:=20) (e:=56) (by kernel_rfl) (by kernel_rfl) (by kernel_rfl) (by kernel_rfl) (by kernel_rfl) (by kernel_rfl) h2
def cellsD:DataW Unit->Array Value
 | .agg l=>(l.filterMap fun d=>match d with|.lit (.int k n)=>some (.int k n)|_=>none).toArray
 | _=>#[]
noncomputable def EE (os:Os):World:=
 let w0:=World.holding Tryz.prog os ⟨#[],#[],[]⟩
 { w0 with heap:=Rows.alikeRow.laid.foldl (fun h x=>h.modify ((Tryz.prog.globalNamed x.1).getD 0) fun
    | .cells _ t frozen=>.cells (cellsD x.2) t frozen
    | o=>o) w0.heap}
theorem Db(os:Os)(args:Array Value):laidMetH Tryz.prog Rows.alikeRow.laid ((EE os).forCall (fun _ _=>0) ⟨#[],args,[]⟩).memory:=
 laidMetH_of_parts (laidMet_of_run' 8 (by kernel_rfl) (by kernel_rfl)) (by kernel_rfl)
end Go.Proofs.YtgifhgnccmnbiabGreatDoor
