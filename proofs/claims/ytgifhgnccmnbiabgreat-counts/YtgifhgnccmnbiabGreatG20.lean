/- The document's machine, plain: how it is made of a pattern's parts, and that it matches what they match. No Go in it. -/
import Derived.Test.YtgifhgnccmnbiabGreatG19
import Derived.Test.YtgifhgnccmnbiabGreatG06
import Derived.Deep.RegionLaw
import Derived.Test.YtgifhgnccmnbiabGreatG18
set_option linter.unusedVariables false
set_option linter.unusedSimpArgs false
set_option maxHeartbeats 4000000
set_option maxRecDepth 100000
namespace Go.Proofs.YtgifhgnccmnbiabGreat
abbrev DSt:=Nat×List DN
def rowD (f:Nat→Nat→List DN→DSt):List Nat→DSt→DSt
 | [],s=>s
 | k :: l,s=>f k (rowD f l s).1 (rowD f l s).2
def altS (f:Nat→Nat→List DN→DSt) (nx:Nat) (s:DSt) (k:Nat):DSt:=((f k nx s.2).2.length,(f k nx s.2).2++[forkN s.1 (f k nx s.2).1])
def altD (f:Nat→Nat→List DN→DSt) (nx:Nat) (N:List DN):List Nat→DSt
 | []=>(nx,N)
 | k :: l=>l.foldl (altS f nx) (f k nx N)
def optS (g:Nat→List DN→DSt) (nx:Nat) (s:DSt):DSt:=((g s.1 s.2).2.length,(g s.1 s.2).2++[forkN (g s.1 s.2).1 nx])
def optD (g:Nat→List DN→DSt) (nx:Nat):Nat→DSt→DSt
 | 0,s=>s
 | c+1,s=>optS g nx (optD g nx c s)
def manyD (g:Nat→List DN→DSt):Nat→DSt→DSt
 | 0,s=>s
 | c+1,s=>g (manyD g c s).1 (manyD g c s).2
def loopD (g:Nat→List DN→DSt) (nx:Nat) (N:List DN):DSt:=
 ((g N.length (N++[forkN nx nx])).1,(g N.length (N++[forkN nx nx])).2.set N.length (forkN nx (g N.length (N++[forkN nx nx])).1))
def timesD (g:Nat→List DN→DSt) (least most:Int) (nx:Nat) (N:List DN):DSt:=
 if most<0 then (if 0<least then manyD g (least.toNat-1) (loopD g nx N) else (N.length,(loopD g nx N).2))
 else manyD g least.toNat (optD g nx (most-least).toNat (nx,N))
def partD (ps:List PN):Nat→Nat→Nat→List DN→DSt
 | 0,_,nx,N=>(nx,N)
 | f+1,k,nx,N=>match ps[k]? with
   | none=>(nx,N)
   | some p=>
     if p.kind=4 then rowD (partD ps f) p.kids (nx,N)
     else if p.kind=5 then altD (partD ps f) nx N p.kids
     else if p.kind=6 then timesD (partD ps f (p.kids.headD 0)) p.least p.most nx N
     else (N.length,N++[{ kind:=p.kind,part:=k,next:=nx }])
abbrev RelT:=Bool→ByteArray→Rel
structure Bld (ps:List PN) (N:List DN) (nx:Nat) (s:DSt) (R:RelT):Prop where
 more:∃M,s.2=N++M
 frag:Frag ps s.2 N.length s.2.length nx s.1 R
def BuildOk (ps:List PN) (g:Nat→List DN→DSt) (R:RelT):Prop:=∀(nx:Nat) (N:List DN),nx<N.length→Bld ps N nx (g nx N) R
section
variable {ps:List PN} {N:List DN} {nx:Nat} {s:DSt} {R S:RelT} {g:Nat→List DN→DSt}
theorem Bld.lt (h:Bld ps N nx s R):s.1<s.2.length:=by
 have h1:=h.frag.low
 have h2:=h.frag.le
 rcases h.frag.first with h3 | h3
 · omega
 · exact h3.2
theorem Bld.turn (h:Bld ps N nx s R) (e:∀fold t a m,a≤t.size→(R fold t a m↔S fold t a m)):Bld ps N nx s S:=⟨h.more,h.frag.turn e⟩
theorem Bld.none (hn:nx<N.length):Bld ps N nx (nx,N) (fun _ _ a m=>a=m):=⟨⟨[],by simp⟩,Frag.none hn (Nat.le_refl _)⟩
theorem Bld.front (h:Bld ps N nx s S) (hg:BuildOk ps g R):Bld ps N nx (g s.1 s.2) (fun fold t a m=>∃p,R fold t a p∧S fold t p m):=by
 have h2:=hg s.1 s.2 h.lt
 obtain ⟨M,hM⟩:=h.more
 obtain ⟨M2,hM2⟩:=h2.more
 refine ⟨⟨M++M2,by rw [hM2,hM,List.append_assoc]⟩,?_⟩
 have f1:=h.frag.more M2
 rw [←hM2] at f1
 exact Frag.seq f1 h2.frag
theorem Bld.either {f:Nat→Nat→List DN→DSt} {k:Nat} (h:Bld ps N nx s S) (hg:BuildOk ps (f k) R):Bld ps N nx (altS f nx s k) (fun fold t a m=>S fold t a m∨R fold t a m):=by
 have hn:=h.frag.low
 obtain ⟨M,hM⟩:=h.more
 have hl:N.length≤s.2.length:=by rw [hM,List.length_append];omega
 have h2:=hg nx s.2 (by omega)
 obtain ⟨M2,hM2⟩:=h2.more
 have f1:=h.frag.more M2
 rw [←hM2] at f1
 have f2:=Frag.fork f1 h2.frag (Or.inl ⟨rfl,rfl⟩)
 refine ⟨⟨M++M2++[forkN s.1 (f k nx s.2).1],by unfold altS;simp only [];rw [hM2,hM];simp⟩,?_⟩
 unfold altS
 simp only [List.length_append,List.length_cons,List.length_nil,Nat.zero_add]
 exact f2
theorem Bld.maybe (h:Bld ps N nx s S) (hg:BuildOk ps g R):Bld ps N nx (optS g nx s) (fun fold t a m=>(∃p,R fold t a p∧S fold t p m)∨a=m):=by
 have h2:=h.front hg
 obtain ⟨M,hM⟩:=h2.more
 have hn:=h.frag.low
 have hl:N.length≤(g s.1 s.2).2.length:=by rw [hM,List.length_append];omega
 have f2:=Frag.fork h2.frag (Frag.none (ps:=ps) (N:=(g s.1 s.2).2) (lo:=(g s.1 s.2).2.length) (nx:=nx) (by omega) (Nat.le_refl _)) (Or.inl ⟨rfl,rfl⟩)
 refine ⟨⟨M++[forkN (g s.1 s.2).1 nx],by unfold optS;simp only [];rw [hM];simp⟩,?_⟩
 unfold optS
 simp only [List.length_append,List.length_cons,List.length_nil,Nat.zero_add]
 exact f2
theorem get_set_other {l:List DN} {i k:Nat} {x:DN} (h:i≠k):(l.set i x)[k]?=l[k]?:=by rw [List.getElem?_set_ne h]
theorem Bld.loop (hn:nx<N.length) (hg:BuildOk ps g R):Bld ps N nx (N.length,(loopD g nx N).2) (fun fold t=>Rtc (R fold t))∧Bld ps N nx (loopD g nx N) (fun fold t a m=>∃p,R fold t a p∧Rtc (R fold t) p m):=by
 have h:=hg N.length (N++[forkN nx nx]) (by simp)
 obtain ⟨M,hM⟩:=h.more
 have hlen:(g N.length (N++[forkN nx nx])).2.length=N.length+1+M.length:=by rw [hM];simp;omega
 have hf:=h.frag
 simp only [List.length_append,List.length_cons,List.length_nil,Nat.zero_add] at hf
 unfold loopD
 generalize (g N.length (N++[forkN nx nx])).1=k at *
 generalize (g N.length (N++[forkN nx nx])).2=P at *
 have hmore:P.set N.length (forkN nx k)=N++(forkN nx k :: M):=by
  rw [hM,List.append_assoc,List.set_append_right _ _ (Nat.le_refl _),Nat.sub_self];rfl
 have hset:(P.set N.length (forkN nx k)).length=P.length:=List.length_set
 have hget:(P.set N.length (forkN nx k))[N.length]?=some (forkN nx k):=by rw [List.getElem?_set_self (by omega)]
 have hf2:Frag ps (P.set N.length (forkN nx k)) (N.length+1) P.length N.length k R:=hf.agree (fun q a b=>get_set_other (by omega)) (by rw [hset];exact Nat.le_refl _)
 have hl:=Frag.loop hn hf2 hget
 refine ⟨⟨⟨_,hmore⟩,by rw [hset];exact hl⟩,⟨⟨_,hmore⟩,?_⟩⟩
 simp only []
 rw [hset]
 have hll:=hf2.le
 refine ⟨hl.le,by rw [hset];exact Nat.le_refl _,hn,?_,hl.goes,hl.ok,fun fold t a m ha=>⟨fun q=>?_,?_⟩⟩
 · rcases hf2.first with h1 | h1
   · right;omega
   · right;omega
 · obtain ⟨p,q1,q2⟩:=q.narrow (Nat.le_succ _) hn hf2.goes hf2.first
   exact ⟨p,(hf2.iff fold t a p ha).1 q1,(hl.iff fold t p m (q1.bd ha).2).1 q2⟩
 · rintro ⟨p,q1,q2⟩
   have q1':=(hf2.iff fold t a p ha).2 q1
   exact q1'.join (Nat.le_succ _) (Nat.le_refl _) ((hl.iff fold t p m (q1'.bd ha).2).2 q2)
end
def rowC (R:Nat→Rel):List Nat→Rel
 | []=>fun a m=>a=m
 | k :: l=>fun a m=>∃p,R k a p∧rowC R l p m
def PowC (R:Rel):Nat→Rel
 | 0=>fun a m=>a=m
 | c+1=>fun a m=>∃p,R a p∧PowC R c p m
section
variable {ps:List PN} {N:List DN} {nx:Nat} {s:DSt} {R S:RelT} {f:Nat→Nat→List DN→DSt} {g:Nat→List DN→DSt} {Q:Nat→RelT}
theorem bld_row (hn:nx<N.length):∀l:List Nat,(∀k,k∈l→BuildOk ps (f k) (Q k))→Bld ps N nx (rowD f l (nx,N)) (fun fold t=>rowC (fun k=>Q k fold t) l)
 | [],_=>Bld.none hn
 | k :: l,h=>(bld_row hn l (fun j hj=>h j (List.mem_cons_of_mem _ hj))).front (h k (List.mem_cons_self ..))
theorem bld_alt:∀(l:List Nat) (s:DSt) (S:RelT),Bld ps N nx s S→(∀k,k∈l→BuildOk ps (f k) (Q k))→Bld ps N nx (l.foldl (altS f nx) s) (fun fold t a m=>S fold t a m∨∃k,k∈l∧Q k fold t a m)
 | [],s,S,h,_=>h.turn (fun fold t a m _=>⟨Or.inl,fun h=>by
    rcases h with h | ⟨k,hk,_⟩
    · exact h
    · cases hk⟩)
 | k :: l,s,S,h,hl=>(bld_alt l _ _ (h.either (hl k (List.mem_cons_self ..))) (fun j hj=>hl j (List.mem_cons_of_mem _ hj))).turn (fun fold t a m _=>by
    constructor
    · rintro ((h | h) | ⟨j,hj,h⟩)
      · exact Or.inl h
      · exact Or.inr ⟨k,List.mem_cons_self ..,h⟩
      · exact Or.inr ⟨j,List.mem_cons_of_mem _ hj,h⟩
    · rintro (h | ⟨j,hj,h⟩)
      · exact Or.inl (Or.inl h)
      · rcases List.mem_cons.1 hj with rfl | hj
        · exact Or.inl (Or.inr h)
        · exact Or.inr ⟨j,hj,h⟩)
theorem bld_many (h:Bld ps N nx s S) (hg:BuildOk ps g R):∀c,Bld ps N nx (manyD g c s) (fun fold t a m=>∃p,PowC (R fold t) c a p∧S fold t p m)
 | 0=>h.turn (fun fold t a m _=>⟨fun h=>⟨a,rfl,h⟩,fun ⟨p,h1,h2⟩=>by
    have h1:a=p:=h1
    rw [h1];exact h2⟩)
 | c+1=>((bld_many h hg c).front hg).turn (fun fold t a m _=>⟨fun ⟨p,h1,q,h2,h3⟩=>⟨q,⟨p,h1,h2⟩,h3⟩,fun ⟨q,⟨p,h1,h2⟩,h3⟩=>⟨p,h1,q,h2,h3⟩⟩)
theorem bld_opt (hn:nx<N.length) (hg:BuildOk ps g R):∀c,Bld ps N nx (optD g nx c (nx,N)) (fun fold t a m=>∃d,d≤c∧PowC (R fold t) d a m)
 | 0=>(Bld.none hn).turn (fun fold t a m _=>⟨fun h=>⟨0,Nat.le_refl _,h⟩,fun ⟨d,h1,h2⟩=>by
    obtain rfl:d=0:=by omega
    exact h2⟩)
 | c+1=>((bld_opt hn hg c).maybe hg).turn (fun fold t a m _=>by
    constructor
    · rintro (⟨p,h1,d,h2,h3⟩ | h)
      · exact ⟨d+1,by omega,p,h1,h3⟩
      · exact ⟨0,by omega,h⟩
    · rintro ⟨d,h1,h2⟩
      cases d with
      | zero=>exact Or.inr h2
      | succ d=>
        obtain ⟨p,h3,h4⟩:=h2
        exact Or.inl ⟨p,h3,d,by omega,h4⟩)
end
section
variable {n:Nat} {R:Rel}
def Fwd (n:Nat) (R:Rel):Prop:=∀a m,a≤n→R a m→a≤m∧m≤n
theorem PowC.fwd (h:Fwd n R):∀{c a m:Nat},a≤n→PowC R c a m→a≤m∧m≤n
 | 0,a,m,ha,h1=>by have:a=m:=h1;omega
 | c+1,a,m,ha,⟨p,h1,h2⟩=>by
   have:=h a p ha h1
   have:=PowC.fwd h this.2 h2
   omega
theorem PowC.snoc:∀{c a p m:Nat},PowC R c a p→R p m→PowC R (c+1) a m
 | 0,a,p,m,h1,h2=>by
   have:a=p:=h1
   rw [this];exact ⟨m,h2,rfl⟩
 | c+1,a,p,m,⟨q,h1,h2⟩,h3=>⟨q,h1,PowC.snoc h2 h3⟩
theorem PowC.unsnoc:∀{c a m:Nat},PowC R (c+1) a m→∃p,PowC R c a p∧R p m
 | 0,a,m,⟨p,h1,h2⟩=>⟨a,rfl,by
   have:p=m:=h2
   rw [←this];exact h1⟩
 | c+1,a,m,⟨q,h1,h2⟩=>by
   obtain ⟨p,h3,h4⟩:=PowC.unsnoc h2
   exact ⟨p,⟨q,h1,h3⟩,h4⟩
theorem powC_iff (h:Fwd n R):∀{c a m:Nat},a≤n→(PowC R c a m↔PowR R (n+1) c a m)
 | 0,a,m,_=>Iff.rfl
 | c+1,a,m,ha=>by
   constructor
   · intro g
     obtain ⟨p,h1,h2⟩:=g.unsnoc
     have b1:=h1.fwd h ha
     have b2:=h p m b1.2 h2
     exact ⟨p,by omega,b1.1,b2.1,(powC_iff h ha).1 h1,h2⟩
   · rintro ⟨p,h1,h2,h3,h4,h5⟩
     exact ((powC_iff h ha).2 h4).snoc h5
theorem Rtc.fwd (h:Fwd n R) {a m:Nat} (g:Rtc R a m):a≤n→a≤m∧m≤n:=by
 induction g with
 | refl a=>intro h;omega
 | step g1 _ ih=>
   intro ha
   have b1:=h _ _ ha g1
   have b2:=ih b1.2
   omega
theorem rtc_iff (h:Fwd n R) {a m:Nat} (ha:a≤n):Rtc R a m↔Star R (n+1) a m:=by
 constructor
 · intro g
   induction g with
   | refl a=>exact ⟨0,Hops.refl (by omega)⟩
   | @step a p m g1 _ ih=>
     have b:=h _ _ ha g1
     by_cases hap:a=p
     · rw [hap];exact ih b.2
     · exact Star.app ⟨1,Hops.step g1 (by omega) (Hops.refl (by omega))⟩ (ih b.2)
 · rintro ⟨k,g⟩
   induction g with
   | refl=>exact Rtc.refl _
   | step g1 g2 _ ih=>exact Rtc.step g1 (ih (h _ _ ha g1).2)
theorem PowC.add:∀{c d a p m:Nat},PowC R c a p→PowC R d p m→PowC R (c+d) a m
 | 0,d,a,p,m,h1,h2=>by
   have:a=p:=h1
   rw [this,Nat.zero_add];exact h2
 | c+1,d,a,p,m,⟨q,h1,h3⟩,h2=>by
   rw [Nat.succ_add]
   exact ⟨q,h1,PowC.add h3 h2⟩
theorem PowC.split:∀{c d a m:Nat},PowC R (c+d) a m→∃p,PowC R c a p∧PowC R d p m
 | 0,d,a,m,h=>⟨a,rfl,by rwa [Nat.zero_add] at h⟩
 | c+1,d,a,m,h=>by
   rw [Nat.succ_add] at h
   obtain ⟨q,h1,h2⟩:=h
   obtain ⟨p,h3,h4⟩:=PowC.split h2
   exact ⟨p,⟨q,h1,h3⟩,h4⟩
theorem rowC_seq {Q:Nat→Rel}:∀(l:List Nat),(∀k,k∈l→Fwd n (Q k))→∀(S:Rel),Fwd n S→∀a m,a≤n→(l.foldl (fun S k=>thenR n S (Q k)) S a m↔∃p,S a p∧rowC Q l p m)
 | [],_,S,hS,a,m,ha=>⟨fun h=>⟨m,h,rfl⟩,fun ⟨p,h1,h2⟩=>by
    have:p=m:=h2
    rw [←this];exact h1⟩
 | k :: l,hl,S,hS,a,m,ha=>by
   have hk:=hl k (List.mem_cons_self ..)
   have hT:Fwd n (thenR n S (Q k)):=fun a m ha ⟨p,h1,h2,h3,h4,h5⟩=>⟨by omega,(hk p m (hS a p ha h4).2 h5).2⟩
   rw [List.foldl_cons,rowC_seq l (fun j hj=>hl j (List.mem_cons_of_mem _ hj)) _ hT a m ha]
   constructor
   · rintro ⟨q,⟨p,h1,h2,h3,h4,h5⟩,h6⟩
     exact ⟨p,h4,q,h5,h6⟩
   · rintro ⟨p,h4,q,h5,h6⟩
     have b1:=hS a p ha h4
     have b2:=hk p q b1.2 h5
     exact ⟨q,⟨p,by omega,b1.1,b2.1,h4,h5⟩,h6⟩
theorem altC_alt {Q:Nat→Rel}:∀(l:List Nat),(∀k,k∈l→Fwd n (Q k))→∀(S:Rel),Fwd n S→∀a m,a≤n→(l.foldl (fun S k=>eithR S (Q k)) S a m↔S a m∨∃k,k∈l∧Q k a m)
 | [],_,S,hS,a,m,ha=>⟨Or.inl,fun h=>by
    rcases h with h | ⟨k,hk,_⟩
    · exact h
    · cases hk⟩
 | k :: l,hl,S,hS,a,m,ha=>by
   have hk:=hl k (List.mem_cons_self ..)
   have hT:Fwd n (eithR S (Q k)):=fun a m ha ⟨h1,h2⟩=>by
    rcases h2 with h2 | h2
    · exact hS a m ha h2
    · exact hk a m ha h2
   rw [List.foldl_cons,altC_alt l (fun j hj=>hl j (List.mem_cons_of_mem _ hj)) _ hT a m ha]
   constructor
   · rintro (⟨_,h | h⟩ | ⟨j,hj,h⟩)
     · exact Or.inl h
     · exact Or.inr ⟨k,List.mem_cons_self ..,h⟩
     · exact Or.inr ⟨j,List.mem_cons_of_mem _ hj,h⟩
   · rintro (h | ⟨j,hj,h⟩)
     · exact Or.inl ⟨(hS a m ha h).1,Or.inl h⟩
     · rcases List.mem_cons.1 hj with rfl | hj
       · exact Or.inl ⟨(hk a m ha h).1,Or.inr h⟩
       · exact Or.inr ⟨j,hj,h⟩
theorem timesC_iff (h:Fwd n R) {least most:Int} (h0:0≤least) {a m:Nat} (ha:a≤n):
 TimesR R (n+1) least.toNat most a m↔(most<0∧∃p,PowC R least.toNat a p∧Rtc R p m)∨(0≤most∧∃d,d≤(most-least).toNat∧PowC R (least.toNat+d) a m):=by
 unfold TimesR
 constructor
 · rintro (⟨h1,p,h2,h3,h4,h5,h6⟩ | ⟨h1,h2⟩)
   · exact Or.inl ⟨h1,p,(powC_iff h ha).2 h5,(rtc_iff h (by omega)).2 h6⟩
   · right
     refine ⟨h1,?_⟩
     rcases h2 with h2 | ⟨c,h3,h4,h5⟩
     · exact ⟨0,Nat.zero_le _,(powC_iff h ha).2 h2⟩
     · exact ⟨c-least.toNat,by omega,by rw [show least.toNat+(c-least.toNat)=c by omega];exact (powC_iff h ha).2 h5⟩
 · rintro (⟨h1,p,h2,h3⟩ | ⟨h1,d,h2,h3⟩)
   · have b1:=h2.fwd h ha
     have b2:=h3.fwd h b1.2
     exact Or.inl ⟨h1,p,by omega,b1.1,b2.1,(powC_iff h ha).1 h2,(rtc_iff h b1.2).1 h3⟩
   · refine Or.inr ⟨h1,?_⟩
     have g:=(powC_iff h ha).1 h3
     by_cases hd:d=0
     · left;rw [hd] at g;exact g
     · exact Or.inr ⟨least.toNat+d,by omega,by omega,g⟩
end
def Kids5 (ps:List PN):Prop:=∀(j:Nat) (p:PN),ps[j]?=some p→p.kind=5→p.kids≠[]
theorem partD_some {ps:List PN} {f k nx:Nat} {N:List DN} {p:PN} (h:ps[k]?=some p):partD ps (f+1) k nx N =
 if p.kind=4 then rowD (partD ps f) p.kids (nx,N) else if p.kind=5 then altD (partD ps f) nx N p.kids
 else if p.kind=6 then timesD (partD ps f (p.kids.headD 0)) p.least p.most nx N else (N.length,N++[{ kind:=p.kind,part:=k,next:=nx }]):=by
 rw [partD,h]
theorem partD_ok {ps:List PN} (hw:WfP ps) (h5:Kids5 ps) {k:Nat} (h:GoodT ps k):∀f,k<f→BuildOk ps (partD ps f k) (fun fold t=>MatR ps fold t k):=by
 induction h with
 | @leaf j p h1 h2=>
   intro f hf nx N hn
   obtain ⟨f,rfl⟩:∃f',f=f'+1:=⟨f-1,by omega⟩
   rw [partD_some h1,if_neg (by omega),if_neg (by omega),if_neg (by omega)]
   refine ⟨⟨_,rfl⟩,?_⟩
   have:=Frag.one (ps:=ps) (x:={ kind:=p.kind,part:=j,next:=nx }) hn rfl h2 h1 rfl
   simp only [List.length_append,List.length_cons,List.length_nil,Nat.zero_add]
   refine this.turn (fun fold t a m ha=>?_)
   rw [MatR_eq hw h1]
   unfold bodyR EdgeD
   simp only []
   rcases h2 with h2 | h2 | h2
   · rw [if_pos h2]
     constructor
     · rintro (⟨h,_⟩ | ⟨h,_⟩ | ⟨h,_⟩ | ⟨_,_,q,h3,h4⟩)
       · omega
       · omega
       · omega
       · rw [h1] at h3
         obtain rfl:=Option.some.inj h3
         exact h4
     · intro h;exact Or.inr (Or.inr (Or.inr ⟨h2,trivial,p,h1,h⟩))
   · rw [if_neg (by omega),if_pos h2]
     constructor
     · rintro (⟨h,_⟩ | ⟨_,_,h⟩ | ⟨h,_⟩ | ⟨h,_⟩)
       · omega
       · exact h
       · omega
       · omega
     · intro h;exact Or.inr (Or.inl ⟨h2,trivial,h⟩)
   · rw [if_neg (by omega),if_neg (by omega),if_pos h2]
     constructor
     · rintro (⟨h,_⟩ | ⟨h,_⟩ | ⟨_,_,h⟩ | ⟨h,_⟩)
       · omega
       · omega
       · exact h
       · omega
     · intro h;exact Or.inr (Or.inr (Or.inl ⟨h2,trivial,h⟩))
 | @many j p h1 h2 h3 ih=>
   intro f hf nx N hn
   obtain ⟨f,rfl⟩:∃f',f=f'+1:=⟨f-1,by omega⟩
   have hk:∀k,k∈p.kids→BuildOk ps (partD ps f k) (fun fold t=>MatR ps fold t k):=fun k hk=>ih k hk f (by have:=hw j p h1 k hk;omega)
   have hfw:∀k,k∈p.kids→∀fold (t:ByteArray),Fwd t.size (MatR ps fold t k):=fun k hk' fold t a m ha hm=>by
    have hb:=hk k hk' nx N hn
    exact hb.frag.bd ha hm
   rw [partD_some h1]
   rcases h2 with h2 | h2
   · rw [if_pos h2]
     refine (bld_row hn p.kids (Q:=fun k fold t=>MatR ps fold t k) hk).turn (fun fold t a m ha=>?_)
     rw [MatR_eq hw h1]
     unfold bodyR
     rw [if_neg (by omega),if_neg (by omega),if_neg (by omega),if_pos h2]
     unfold seqR
     rw [rowC_seq p.kids (fun k hk=>hfw k hk fold t) (fun i j=>i=j) (fun a m ha h=>by omega) a m ha]
     exact ⟨fun h=>⟨a,rfl,h⟩,fun ⟨p,h1,h2⟩=>by rw [h1];exact h2⟩
   · rw [if_neg (by omega),if_pos h2]
     obtain ⟨k0,l,hkl⟩:∃k0 l,p.kids=k0 :: l:=by
      cases hx:p.kids with
      | nil=>exact absurd hx (h5 j p h1 h2)
      | cons k0 l=>exact ⟨k0,l,rfl⟩
     rw [hkl] at hk hfw ⊢
     refine (bld_alt l _ _ (hk k0 (List.mem_cons_self ..) nx N hn) (fun k hk'=>hk k (List.mem_cons_of_mem _ hk'))).turn (fun fold t a m ha=>?_)
     rw [MatR_eq hw h1]
     unfold bodyR
     rw [if_neg (by omega),if_neg (by omega),if_neg (by omega),if_neg (by omega),if_pos h2,hkl]
     unfold altR
     rw [altC_alt (k0 :: l) (fun k hk=>hfw k hk fold t) (fun _ _=>False) (fun a m ha h=>h.elim) a m ha]
     constructor
     · rintro (h | ⟨k,hk',h⟩)
       · exact Or.inr ⟨k0,List.mem_cons_self ..,h⟩
       · exact Or.inr ⟨k,List.mem_cons_of_mem _ hk',h⟩
     · rintro (h | ⟨k,hk',h⟩)
       · exact h.elim
       · rcases List.mem_cons.1 hk' with rfl | hk'
         · exact Or.inl h
         · exact Or.inr ⟨k,hk',h⟩
 | @times j k p h1 h2 h3 h4 h6 h7 h8 h9 ih=>
   intro f hf nx N hn
   obtain ⟨f,rfl⟩:∃f',f=f'+1:=⟨f-1,by omega⟩
   have hkj:k<j:=hw j p h1 k (by rw [h3];exact List.mem_cons_self ..)
   have hk:=ih f (by omega)
   have hfw:∀fold (t:ByteArray),Fwd t.size (MatR ps fold t k):=fun fold t a m ha hm=>(hk nx N hn).frag.bd ha hm
   rw [partD_some h1,if_neg (by omega),if_neg (by omega),if_pos h2,h3]
   simp only [List.headD_cons]
   have hR:∀fold (t:ByteArray) a m,a≤t.size→(MatR ps fold t j a m↔(p.most<0∧∃q,PowC (MatR ps fold t k) p.least.toNat a q∧Rtc (MatR ps fold t k) q m)∨(0≤p.most∧∃d,d≤(p.most-p.least).toNat∧PowC (MatR ps fold t k) (p.least.toNat+d) a m)):=fun fold t a m ha=>by
    rw [MatR_eq hw h1]
    unfold bodyR
    rw [if_neg (by omega),if_neg (by omega),if_neg (by omega),if_neg (by omega),if_neg (by omega)]
    unfold timesB
    rw [h3]
    exact timesC_iff (hfw fold t) h6 ha
   unfold timesD
   by_cases hm:p.most<0
   · rw [if_pos hm]
     obtain ⟨l1,l2⟩:=Bld.loop hn hk
     by_cases hl:0<p.least
     · rw [if_pos hl]
       refine (bld_many l2 hk (p.least.toNat-1)).turn (fun fold t a m ha=>?_)
       rw [hR fold t a m ha]
       constructor
       · rintro ⟨q,g1,r,g2,g3⟩
         have:=g1.snoc g2
         rw [show p.least.toNat-1+1=p.least.toNat by omega] at this
         exact Or.inl ⟨hm,r,this,g3⟩
       · rintro (⟨_,q,g1,g2⟩ | ⟨g,_⟩)
         · rw [show p.least.toNat=p.least.toNat-1+1 by omega] at g1
           obtain ⟨r,g3,g4⟩:=g1.unsnoc
           exact ⟨r,g3,q,g4,g2⟩
         · omega
     · rw [if_neg hl]
       refine l1.turn (fun fold t a m ha=>?_)
       rw [hR fold t a m ha,show p.least.toNat=0 by omega]
       constructor
       · intro h;exact Or.inl ⟨hm,a,rfl,h⟩
       · rintro (⟨_,q,g1,g2⟩ | ⟨g,_⟩)
         · have g1:a=q:=g1
           rw [g1];exact g2
         · omega
   · rw [if_neg hm]
     refine (bld_many (bld_opt hn hk _) hk p.least.toNat).turn (fun fold t a m ha=>?_)
     rw [hR fold t a m ha]
     constructor
     · rintro ⟨q,g1,d,g2,g3⟩
       exact Or.inr ⟨by omega,d,g2,g1.add g3⟩
     · rintro (⟨g,_⟩ | ⟨_,d,g1,g2⟩)
       · omega
       · obtain ⟨q,g3,g4⟩:=g2.split
         exact ⟨q,g3,d,g1,g4⟩
end Go.Proofs.YtgifhgnccmnbiabGreat
namespace Go.Proofs.YtgifhgnccmnbiabGreat
open Go.RowKit Go.IntWalk
structure PMs (w:World) (ps:List PN) (adrs:List Nat) (F:Nat→Prop):Prop where
 part:∀(i:Nat) (p:PN),ps[i]?=some p→(∀k,k∈p.kids→k<i)∧∃iv kv,PartOk w F adrs p (adrs.getD i 0) iv kv
 old:∀k,F k→k<w.heap.size
theorem RM.pms {w:World} {b:Nat} {t:ByteArray} {s:RS} {ps:List PN} {adrs:List Nat} {F:Nat→Prop} (h:RM w b t s ps adrs F):PMs w ps adrs F:=⟨h.part,fun k hk=>(h.old k hk).1⟩
theorem PMs.kept {w w':World} {ps:List PN} {adrs:List Nat} {F:Nat→Prop} (h:PMs w ps adrs F) (k:Kept [] w w'):PMs w' ps adrs F:=
 ⟨fun i p hp=>⟨(h.part i p hp).1,by obtain ⟨iv,kv,hk⟩:=(h.part i p hp).2;exact ⟨iv,kv,hk.frame (fun j hj=>k.block j (h.old j hj) (by simp))⟩⟩,fun j hj=>Nat.lt_of_lt_of_le (h.old j hj) k.size⟩
theorem PMs.wf {w:World} {ps:List PN} {adrs:List Nat} {F:Nat→Prop} (h:PMs w ps adrs F):WfP ps:=fun i p hp=>(h.part i p hp).1
theorem PartOk.kid {w:World} {F:Nat→Prop} {adrs:List Nat} {p:PN} {a:Nat} {iv kv:IV} (h:PartOk w F adrs p a iv kv):
 kv.2.1=p.kids.length∧∀j,j<p.kids.length→∃g,kv.1=some ⟨g,0,none⟩∧w.cell? ⟨g,j,none⟩=some (ptrTo adrs (p.kids.getD j 0))∧j<kv.2.2:=by
 obtain ⟨ko,kl,kc⟩:=kv
 have hlen:kl=p.kids.length:=by
  rcases h.kids.2 with ⟨h1,h2⟩ | ⟨g,cap,cu,h1,_⟩
  · simp [ivV] at h1;rw [h1.2.1,h2]
  · simp [ivV] at h1;exact h1.2.1
 refine ⟨hlen,fun j hj=>?_⟩
 rcases h.kids.2 with ⟨h1,h2⟩ | ⟨g,cap,cu,h1,h2,h3,h4,_⟩
 · omega
 · simp [ivV] at h1
   have hc:=h.kids.cells (g:=g) (by simp [ivV,h1.1,Value.ownBlock]) j (ptrTo adrs (p.kids.getD j 0)) (by simp [List.getD,hj])
   refine ⟨g,h1.1,?_,by have:=h1.2.2;show j<kc;omega⟩
   rwa [show (⟨g,0,none⟩:Addr).add j=⟨g,j,none⟩ by unfold Addr.add;split <;> simp_all] at hc
theorem take_next {l:List Nat} {c:Nat} (h:c<l.length):l.take (c+1)=l.take c++[l.getD c 0]:=by
 rw [List.take_succ_eq_append_getElem h];simp [List.getD,h]
theorem takes_tie {n:AN} {x:PN} (hneg:n.neg=x.neg) (h:∀c:Nat,c<256→holdsP n.its (c:Int)=x.ins c) (fold:Bool) (c:Nat) (hc:c<256):takesP n fold c=inB x fold c:=by
 unfold takesP inB otherC
 rw [h c hc,hneg]
 by_cases h1:65≤c∧c≤90
 · rw [if_pos h1,h (c+32) (by omega)]
   simp [h1.1,h1.2,show ¬ 97≤c by omega]
 · rw [if_neg h1]
   have a1:(decide (65≤c)&&decide (c≤90))=false:=by rw [←Bool.decide_and];exact decide_eq_false h1
   rw [a1]
   by_cases h2:97≤c∧c≤122
   · rw [if_pos h2,h (c-32) (by omega)]
     simp [h2.1,h2.2]
   · rw [if_neg h2,h c hc]
     have a2:(decide (97≤c)&&decide (c≤122))=false:=by rw [←Bool.decide_and];exact decide_eq_false h2
     rw [a2]
     cases x.ins c <;> cases fold <;> rfl
theorem leaf_tie {n:AN} {x:PN} (hk:n.kind=1) (hk2:x.kind=1) (hneg:n.neg=x.neg) (h:∀c:Nat,c<256→holdsP n.its (c:Int)=x.ins c):LeafTie n x:=
 Or.inl ⟨hk,hk2,takes_tie hneg h⟩
theorem holds_one (c:Int) (i:Nat):holdsP [(c,c)] (i:Int)=one c i:=by
 simp only [holdsP,one,List.any_cons,List.any_nil,Bool.or_false]
 rw [←Bool.decide_and]
 exact decide_eq_decide.2 (by omega)
theorem dot_tie (n:AN) (x:PN) (hk:n.kind=1) (hk2:x.kind=1) (h1:n.its=[(0,255)]) (h2:n.neg=false) (h3:x.ins=fun _=>false) (h4:x.neg=true):LeafTie n x:=by
 refine Or.inl ⟨hk,hk2,fun fold c hc=>?_⟩
 unfold takesP inB
 rw [h1,h2,h3,h4]
 have:holdsP [(0,255)] (c:Int)=true:=by
  simp only [holdsP,List.any_cons,List.any_nil,Bool.or_false]
  rw [←Bool.decide_and]
  exact decide_eq_true (by omega)
 rw [this]
 cases fold <;> simp
theorem item_pair {t:ByteArray} {p:Nat} {f:Nat→Bool} (hp:p<t.size) (h93:pk t p≠93) (hb:(itemR t (p,false) f).1.2=false):
 (itemS t (p,false)).1=((memR t (p,false)).1,(toR t (p,false)).1):=by
 have hno:(toR t (p,false)).2.2=true→False:=fun h=>by
  unfold itemR at hb
  simp only [] at hb
  split at hb
  · cases hb
  · rw [h] at hb;cases hb
 rcases sync_mem hp h93 with ⟨h1,h2,h3⟩ | ⟨h1,h2,h4⟩
 · obtain ⟨c,s1,hm⟩:∃c s1,memS t (p,false)=(c,s1):=⟨_,_,rfl⟩
   rw [hm] at h1 h2 h3
   obtain ⟨p1,b1⟩:=s1
   simp only [] at h2 h3
   subst h2
   by_cases hs:secS t (p1,false)=true
   · have hs2:=hs
     simp only [secS,Bool.and_eq_true,beq_iff_eq,bne_iff_ne] at hs2
     obtain ⟨⟨_,g1⟩,g2⟩:=hs2
     have hp1:p1+1<t.size:=by rw [Ne,pk_none] at g1;omega
     have eH:highS t (p,false)=memS t (p1+1,false):=by unfold highS;rw [hm];exact if_pos hs
     have eT:toR t (p,false)=memR t (p1+1,false):=by
      unfold toR;rw [←h1];simp only [];rw [if_pos hs,tk_lt (s:=(p1,false)) (by omega)]
     rcases sync_mem hp1 g2 with ⟨k1,k2,k3⟩ | ⟨k1,k2,k4⟩
     · unfold itemS
       rw [eH,eT,hm,←h1,←k1]
     · exact (hno (by rw [eT,k2])).elim
   · have eH:highS t (p,false)=memS t (p,false):=by unfold highS;rw [hm];exact if_neg hs
     have eT:toR t (p,false)=memR t (p,false):=by unfold toR;rw [←h1];simp only [];rw [if_neg hs]
     unfold itemS
     rw [eH,eT,hm,←h1]
 · exact (hno (toR_bad (by rw [h2]))).elim
theorem holds_push (acc:List (Int×Int)) (lo hi:Int) (f:Nat→Bool) (h:∀c:Nat,c<256→holdsP acc (c:Int)=f c):∀c:Nat,c<256→holdsP (acc++[(lo,hi)]) (c:Int)=fillB f lo hi c:=fun c hc=>by
 have:=h c hc
 unfold holdsP at this ⊢
 rw [List.any_append,this]
 simp only [fillB,List.any_cons,List.any_nil,Bool.or_false]
 rw [←Bool.decide_and]
theorem items_tie {t:ByteArray}:∀(n p:Nat) (acc:List (Int×Int)) (f:Nat→Bool),t.size-p≤n→p≤t.size→(∀c:Nat,c<256→holdsP acc (c:Int)=f c)→(itemsR t (p,false) f).1.2=false →
 ∀c:Nat,c<256→holdsP (itemsS t (p,false) acc).1 (c:Int)=(itemsR t (p,false) f).2 c
 | n,p,acc,f,hn,hf,hacc,hb=>by
   by_cases hq:itemQ t (p,false)=true
   · obtain ⟨hp,h93⟩:=itemQ_iff.1 hq
     have hgt:=item_gt (t:=t) (s:=(p,false)) hp
     have hbad:(itemR t (p,false) f).1.2=true→False:=fun h2=>by
      have:(itemsR t (p,false) f).1.2=true:=by
       cases hc:(takeS t 93 (itemR t (p,false) f).1).1 with
       | true=>rw [itemsR_end rfl hc];exact take_bad h2
       | false=>rw [itemsR_on (s:=(p,false)) hf rfl hc,itemsR_bad (take_bad h2)];exact take_bad h2
      rw [this] at hb;cases hb
     rcases sync_item (f:=f) hp h93 with ⟨h1,h2⟩ | ⟨h1,h2⟩
     · exact (hbad h2).elim
     · have hib:(itemR t (p,false) f).1.2=false:=by
        cases h:(itemR t (p,false) f).1.2 with
        | false=>rfl
        | true=>exact (hbad h).elim
       have hpair:=item_pair hp h93 hib
       have e2:(itemR t (p,false) f).2=fillB f (memR t (p,false)).1 (toR t (p,false)).1:=rfl
       have hacc2:=holds_push acc (memR t (p,false)).1 (toR t (p,false)).1 f hacc
       rw [itemsS_on hq,hpair]
       rw [←e2] at hacc2
       obtain ⟨⟨p1,b1⟩,hs1⟩:∃s1,(itemS t (p,false)).2=s1:=⟨_,rfl⟩
       rw [hs1] at h1 h2 hgt ⊢
       simp only [] at h2 hgt
       subst h2
       have hf1:=fits_item (t:=t) (s:=(p,false)) hf
       rw [hs1] at hf1
       simp only [Fits] at hf1
       by_cases h931:pk t p1=93
       · have hc:takeS t 93 (itemR t (p,false) f).1=(true,(p1+1,false)):=by rw [←h1];exact take_hit (s:=(p1,false)) h931
         rw [itemsR_end rfl (by rw [hc]),itemsS_off (by cases h:itemQ t (p1,false) with | false=>rfl | true=>exact absurd h931 (itemQ_iff.1 h).2)]
         exact hacc2
       · have hc:takeS t 93 (itemR t (p,false) f).1=(false,(p1,false)):=by rw [←h1];exact take_miss (s:=(p1,false)) h931
         have e3:=itemsR_on (s:=(p,false)) (f:=f) hf rfl (by rw [hc])
         rw [e3,hc] at hb ⊢
         match n,hn with
         | 0,hn=>omega
         | n+1,hn=>exact items_tie n p1 _ _ (by omega) hf1 hacc2 hb
   · have hno:¬p<t.size∨pk t p=93:=by
      by_cases hp:p<t.size
      · right
        by_cases h93:pk t p=93
        · exact h93
        · exact absurd (itemQ_iff.2 ⟨hp,h93⟩) hq
      · exact Or.inl hp
     have:=itemsR_noMem (f:=f) hf hno
     rw [this] at hb;cases hb
theorem rep_order {t:ByteArray} {p:Nat} (hr:repS t (p,false)=true) (h:(repeatS t (p,false)).2.2=false):(repeatS t (p,false)).1.2 = -1∨(repeatS t (p,false)).1.1≤(repeatS t (p,false)).1.2:=by
 have e1:∃c s,nextS t (p,false)=(c,s):=⟨_,_,rfl⟩
 obtain ⟨c,s,e1⟩:=e1
 unfold repeatS at h ⊢
 rw [e1] at h ⊢
 simp only [] at h ⊢
 by_cases h1:c=42
 · rw [if_pos h1];exact Or.inl rfl
 rw [if_neg h1] at h ⊢
 by_cases h2:c=43
 · rw [if_pos h2];exact Or.inl rfl
 rw [if_neg h2] at h ⊢
 by_cases h3:c=63
 · rw [if_pos h3];exact Or.inr (show (0:Int)≤1 by decide)
 rw [if_neg h3] at h ⊢
 unfold bracesS at h ⊢
 by_cases hc:(takeS t 125 (mostS t s).2).1=false∨((mostS t s).1≠-1∧(mostS t s).1<(digS t s).1)
 · rw [if_pos hc] at h;cases h
 · rw [if_neg hc]
   simp only []
   omega
end Go.Proofs.YtgifhgnccmnbiabGreat
