/- Both readers side by side: branches and patterns; what Check comes to on both sides. No walk in it. -/
import Derived.Test.YtgifhgnccmnbiabGreatG21
import Derived.Test.YtgifhgnccmnbiabGreatG08
import Derived.Test.YtgifhgnccmnbiabGreatG20
import Derived.Test.YtgifhgnccmnbiabGreatG16
import Derived.Test.YtgifhgnccmnbiabGreatG17
set_option linter.unusedVariables false
set_option linter.unusedSimpArgs false
set_option maxHeartbeats 4000000
set_option maxRecDepth 100000
namespace Go.Proofs.YtgifhgnccmnbiabGreat
open Go.RowKit Go.IntWalk
theorem piece_sync {t:ByteArray} (hsm:t.size≤40) {m p:Nat} {ns:List AN} {ps:List PN} (H:PatS t m) (hw:WfP ps) (hp:p<t.size) (he:endS t (p,false)=false) (hm:t.size-p≤m):
 ∃r q,Ev t 2 0 ((p,false),ns) r∧EvR t 2 [] ((p,false),ps) q∧PO t p ns ps r q∧(q.2.1.2=false→p<q.2.1.1):=by
 simp only [endS,Bool.or_eq_false_iff,beq_eq_false_iff_ne] at he
 obtain ⟨r1,q1,a1,a2,a3,a4⟩:=atom_sync (ns:=ns) H hw hp he.1.2 he.2 hm
 obtain ⟨r,q,b1,b2,b3,b4⟩:=rep_sync hsm _ r1 q1 (Nat.le_refl _) a3 a4
 exact ⟨r,q,Ev.piece a1 b1,EvR.piece a2 b2,b3,b4⟩
structure RO (t:ByteArray) (p:Nat) (ns:List AN) (ps:List PN) (kind:Int) (i:Nat) (nsb:List AN) (l:List Nat) (psb:List PN) (d:Nat):Prop where
 en:∃more,nsb=ns++more
 ep:∃more,psb=ps++more
 wf:WfP psb
 kids:∀k,k∈l→k<psb.length
 idx:i<nsb.length
 sz:sizeAt nsb i=cap61 (sumT psb l)
 bd:Bd (sumT psb l) d
 sm:SameL kind nsb i psb l
theorem sum_one {ps:List PN} {j d:Nat} (h:Bd (T ps j) d) (hd:d≤40):sumT ps [j]=T ps j:=by
 have hs:=h.small hd
 have:=h.1
 show wrap64 (0+T ps j)=_
 rw [Int.zero_add]
 exact wrap64_in _ (by omega)
theorem RO.one {kind:Int} {t:ByteArray} {p p0:Nat} {ns0 ns:List AN} {ps0 ps:List PN} {r:Nat×PS} {q:Nat×RP} (h:PO t p ns ps r q) (hb:q.2.1.2=false) (hd:q.2.1.1-p≤40) (hn:∃more,ns=ns0++more) (hq:∃more,ps=ps0++more):
 RO t p0 ns0 ps0 kind r.1 r.2.2 [q.1] q.2.2 (q.2.1.1-p):=by
 have hs:=h.sz hb
 have e:=sum_one hs.2.2.2.1 hd
 refine ⟨?_,?_,h.wf,fun k hk=>by simp at hk;subst hk;exact hs.2.1,hs.1,by rw [e];exact hs.2.2.1,by rw [e];exact hs.2.2.2.1,SameL.one hs.2.2.2.2⟩
 · obtain ⟨a,ha⟩:=h.en;obtain ⟨c,hc⟩:=hn;exact ⟨c++a,by rw [ha,hc,List.append_assoc]⟩
 · obtain ⟨a,ha⟩:=h.ep;obtain ⟨c,hc⟩:=hq;exact ⟨c++a,by rw [ha,hc,List.append_assoc]⟩
theorem RO.next {t:ByteArray} {p p4 i d:Nat} {ns nsb:List AN} {ps psb:List PN} {l:List Nat} {r:Nat×PS} {q:Nat×RP} (kind:Int) (hkd:kind=4∨kind=5) (h:RO t p ns ps kind i nsb l psb d) (po:PO t p4 nsb psb r q) (hb:q.2.1.2=false) (s:RS)
 (d2:Nat) (hd2:d2≤40) (hbd:Bd (sumT psb l+T q.2.2 q.1) d2):
 RO t p ns ps kind (joinS kind i r.1 (s,r.2.2)).1 (joinS kind i r.1 (s,r.2.2)).2.2 (l++[q.1]) q.2.2 d2:=by
 have hs:=po.sz hb
 obtain ⟨an,hn⟩:=po.en
 obtain ⟨ap,hp⟩:=po.ep
 have hsum:sumT q.2.2 l=sumT psb l:=by rw [hp];exact sumT_app h.wf h.kids
 have hsm:=hbd.small hd2
 have h1:=h.bd.1
 have h2:=hs.2.2.2.1.1
 have e:sumT q.2.2 (l++[q.1])=sumT psb l+T q.2.2 q.1:=by
  rw [sumT_snoc,hsum];exact wrap64_in _ (by omega)
 refine ⟨?_,?_,po.wf,?_,by simp [joinS,addS],?_,by rw [e];exact hbd,?_⟩
 · obtain ⟨c,hc⟩:=h.en;exact ⟨c++an++[_],by show r.2.2++[_]=_;rw [hn,hc];simp [List.append_assoc];rfl⟩
 · obtain ⟨c,hc⟩:=h.ep;exact ⟨c++ap,by rw [hp,hc,List.append_assoc]⟩
 · intro k hk
   rcases List.mem_append.1 hk with hk | hk
   · have:=h.kids k hk;rw [hp];simp;omega
   · simp at hk;subst hk;exact hs.2.1
 · show sizeAt (r.2.2++[capN _]) r.2.2.length=_
   rw [sizeAt_new,e]
   show cap61 (sizeAt r.2.2 i+sizeAt r.2.2 r.1)=_
   rw [hs.2.2.1,show sizeAt r.2.2 i=cap61 (sumT psb l) by rw [hn,sizeAt_app h.idx,h.sz],cap_add _ _ h1 h2]
 · have h0:=h.sm.app an ap
   rw [←hn,←hp] at h0
   exact SameL.next hkd h0 hs.2.2.2.2 rfl rfl rfl
theorem RO.fin {t:ByteArray} {p i d:Nat} {ns nsb:List AN} {ps psb:List PN} {l:List Nat} (kind:Int) (h:RO t p ns ps kind i nsb l psb d) (hk:kind=4∨kind=5) (s:RS) (hs:s.2=false) (hd:d=s.1-p) (hge:p≤s.1) (hfit:s.1≤t.size):
 PO t p ns ps (i,(s,nsb)) (pushP { kind:=kind,kids:=l } (s,psb)):=by
 have eT:T (psb++[{ kind:=kind,kids:=l }]) psb.length=sumT psb l:=by
  rw [T_new h.wf h.kids]
  have h1:=h.bd.1
  rcases hk with rfl | rfl
  · show sizeK { kind:=4,kids:=l } (sumT psb l)=_
    unfold sizeK;rw [if_neg (by simp),if_pos rfl,if_neg (by omega)]
  · show sizeK { kind:=5,kids:=l } (sumT psb l)=_
    unfold sizeK;rw [if_neg (by simp),if_neg (by simp),if_neg (by simp)]
 refine ⟨Or.inr ⟨rfl,hs⟩,h.en,?_,WfP.push h.wf h.kids,hge,hfit,by simp [pushP],fun _=>⟨h.idx,by simp [pushP],?_,?_,SameL.fin hk h.sm rfl rfl⟩⟩
 · obtain ⟨c,hc⟩:=h.ep;exact ⟨c++[_],by show psb++[_]=_;rw [hc,List.append_assoc]⟩
 · show sizeAt nsb i=cap61 (T (psb++[_]) psb.length)
   rw [eT];exact h.sz
 · show Bd (T (psb++[_]) psb.length) (s.1-p)
   rw [eT,←hd];exact h.bd
theorem bad_po {t:ByteArray} {p p4:Nat} {ns nsb:List AN} {ps psb:List PN} {l:List Nat} {r:Nat×PS} {q:Nat×RP} (po:PO t p4 nsb psb r q) (hn:∃more,nsb=ns++more) (hq:∃more,psb=ps++more) (hb:q.2.1.2=true) (hge:p≤p4)
 (kind:Int) (hl:∀k,k∈l→k<q.2.2.length) (s2:RS) (h2:s2.2=true) (hs1:q.2.1.1≤s2.1) (hs2:s2.1≤t.size) (r':Nat×PS) (h1:r'.2.1=(t.size,true)) (h3:∃more,r'.2.2=r.2.2++more):
 PO t p ns ps r' (pushP { kind:=kind,kids:=l } (s2,q.2.2)):=by
 refine ⟨Or.inl ⟨h1,h2⟩,?_,?_,WfP.push po.wf hl,?_,hs2,by simp [pushP],fun hc=>?_⟩
 · obtain ⟨a,ha⟩:=po.en;obtain ⟨c,hc⟩:=hn;obtain ⟨e,he⟩:=h3
   exact ⟨c++a++e,by rw [he,ha,hc];simp [List.append_assoc]⟩
 · obtain ⟨a,ha⟩:=po.ep;obtain ⟨c,hc⟩:=hq
   exact ⟨c++a++[_],by show q.2.2++[_]=_;rw [ha,hc];simp [List.append_assoc];rfl⟩
 · have:=po.ge;show p≤s2.1;omega
 · have hc:s2.2=false:=hc
   rw [h2] at hc;cases hc
theorem and_sync {t:ByteArray} (hsm:t.size≤40) {m p:Nat} {ns:List AN} {ps:List PN} (H:PatS t m) (hpm:t.size-p≤m):∀(n i:Nat) (p1:Nat) (nsb:List AN) (l:List Nat) (psb:List PN),t.size-p1≤n→RO t p ns ps 4 i nsb l psb (p1-p)→p<p1→p1≤t.size →
 ∃r q,Ev t 5 i ((p1,false),nsb) r∧EvR t 1 l ((p1,false),psb) q∧PO t p ns ps r q
 | n,i,p1,nsb,l,psb,hn,h,hlt,hfit=>by
   have hmo:=end_more (t:=t) (p:=p1) hfit
   cases he:endS t (p1,false) with
   | true=>
     rw [he] at hmo
     exact ⟨_,_,Ev.andEnd (st:=((p1,false),nsb)) he,EvR.branchEnd (st:=((p1,false),psb)) hmo,h.fin 4 (Or.inl rfl) _ rfl rfl (by show p≤p1;omega) hfit⟩
   | false=>
     rw [he] at hmo
     have hp1:=endS_lt he
     obtain ⟨r4,q4,a1,a2,a3,a4⟩:=piece_sync (ns:=nsb) hsm H h.wf hp1 he (by simp only [] at hp1 ⊢;omega)
     cases hb:q4.2.1.2 with
     | true=>
       have e1:=sync_bad a3.sync hb
       refine ⟨joinS 4 i r4.1 r4.2,_,Ev.and (st:=((p1,false),nsb)) he a1 (Ev.andEnd (by show endS t r4.2.1=true;rw [e1];exact endS_end)),EvR.branchOn (st:=((p1,false),psb)) hmo a2 (EvR.branchEnd (more_bad hb)),?_⟩
       have hk4:∀k,k∈l++[q4.1]→k<q4.2.2.length:=by
        intro k hk
        rcases List.mem_append.1 hk with hk | hk
        · have:=h.kids k hk
          obtain ⟨ap,hp⟩:=a3.ep
          rw [hp];simp;omega
        · simp at hk;subst hk;exact a3.jdx
       exact bad_po (p:=p) a3 h.en h.ep hb (by omega) 4 hk4 q4.2.1 hb (Nat.le_refl _) a3.fit _ e1 ⟨_,rfl⟩
     | false=>
       have e1:=sync_good a3.sync hb
       have hs:=a3.sz hb
       have hgt:=a4 hb
       have hfit4:=a3.fit
       have hro:=h.next 4 (Or.inl rfl) a3 hb r4.2.1 (q4.2.1.1-p) (by omega) (by
        have:=h.bd.add hs.2.2.2.1 (by omega) (by omega)
        rwa [show p1-p+(q4.2.1.1-p1)=q4.2.1.1-p by omega] at this)
       obtain ⟨⟨p2,b2⟩,hq2⟩:∃s,q4.2.1=s:=⟨_,rfl⟩
       rw [hq2] at e1 hb hgt hfit4 hro
       simp only [] at hb hgt hfit4 hro
       subst hb
       match n,hn with
       | 0,hn=>simp only [] at hp1;omega
       | n+1,hn=>
         obtain ⟨r,q,b1,b2,b3⟩:=and_sync hsm H hpm n _ p2 _ _ _ (by omega) hro (by omega) hfit4
         refine ⟨r,q,Ev.and (st:=((p1,false),nsb)) he a1 ?_,EvR.branchOn (st:=((p1,false),psb)) hmo a2 ?_,b3⟩
         · show Ev t 5 (joinS 4 i r4.1 r4.2).1 (joinS 4 i r4.1 r4.2).2 r
           have:(joinS 4 i r4.1 r4.2).2=((p2,false),(joinS 4 i r4.1 (r4.2.1,r4.2.2)).2.2):=by
            show (r4.2.1,_)=_
            rw [e1];rfl
           rw [this];exact b1
         · have:q4.2=((p2,false),q4.2.2):=by rw [←hq2]
           rw [this];exact b2
theorem branch_sync {t:ByteArray} (hsm:t.size≤40) {m p:Nat} {ns:List AN} {ps:List PN} (H:PatS t m) (hw:WfP ps) (hp:p≤t.size) (hpm:t.size-p≤m):
 ∃r q,Ev t 1 0 ((p,false),ns) r∧EvR t 1 [] ((p,false),ps) q∧PO t p ns ps r q:=by
 have hmo:=end_more (t:=t) (p:=p) hp
 cases he:endS t (p,false) with
 | true=>
   rw [he] at hmo
   exact ⟨_,_,Ev.empty (st:=((p,false),ns)) he,EvR.branchEnd (cur:=[]) (st:=((p,false),ps)) hmo,leaf_po hw (Or.inr ⟨rfl,rfl⟩) rfl rfl rfl (Nat.le_refl _) hp (fun _=>Or.inr (Or.inr (Or.inr ⟨rfl,rfl,rfl⟩)))⟩
 | false=>
   rw [he] at hmo
   have hp1:=endS_lt he
   simp only [] at hp1
   obtain ⟨r1,q1,a1,a2,a3,a4⟩:=piece_sync (ns:=ns) hsm H hw hp1 he hpm
   cases hb:q1.2.1.2 with
   | true=>
     have e1:=sync_bad a3.sync hb
     refine ⟨r1,_,Ev.branch (st:=((p,false),ns)) he a1 (Ev.andEnd (by rw [e1];exact endS_end)),EvR.branchOn (st:=((p,false),ps)) hmo a2 (EvR.branchEnd (more_bad hb)),?_⟩
     exact bad_po (p:=p) a3 ⟨[],by simp⟩ ⟨[],by simp⟩ hb (Nat.le_refl _) 4 (fun k hk=>by simp at hk;subst hk;exact a3.jdx) q1.2.1 hb (Nat.le_refl _) a3.fit _ e1 ⟨[],by simp⟩
   | false=>
     have e1:=sync_good a3.sync hb
     have hgt:=a4 hb
     have hfit1:=a3.fit
     have hro:RO t p ns ps 4 r1.1 r1.2.2 [q1.1] q1.2.2 (q1.2.1.1-p):=RO.one a3 hb (by omega) ⟨[],by simp⟩ ⟨[],by simp⟩
     obtain ⟨⟨p2,b2⟩,hq2⟩:∃s,q1.2.1=s:=⟨_,rfl⟩
     rw [hq2] at e1 hb hgt hfit1 hro
     simp only [] at hb hgt hfit1 hro
     subst hb
     obtain ⟨r,q,b1,b2,b3⟩:=and_sync hsm H hpm _ _ p2 _ _ _ (Nat.le_refl _) hro hgt hfit1
     refine ⟨r,q,Ev.branch (st:=((p,false),ns)) he a1 ?_,EvR.branchOn (st:=((p,false),ps)) hmo a2 ?_,b3⟩
     · have:r1.2=((p2,false),r1.2.2):=by rw [←e1]
       rw [this];exact b1
     · have:q1.2=((p2,false),q1.2.2):=by rw [←hq2]
       rw [this];exact b2
theorem take_end {t:ByteArray} {c:Int} (hc:0≤c) {b:Bool}:takeS t c (t.size,b)=(false,(t.size,b)):=take_miss (s:=(t.size,b)) (by rw [pk_ge (p:=t.size) (by omega)];omega)
theorem or_sync {t:ByteArray} (hsm:t.size≤40) {m p:Nat} {ns:List AN} {ps:List PN} (H:PatS t m) (hpm:t.size-p≤m):∀(n i:Nat) (p1:Nat) (nsb:List AN) (l:List Nat) (psb:List PN),t.size-p1≤n→RO t p ns ps 5 i nsb l psb (p1-1-p)→p<p1→p1≤t.size →
 ∃r q,(∀s0,takeS t 124 s0=(true,(p1,false))→Ev t 4 i (s0,nsb) r)∧EvR t 0 l ((p1,false),psb) q∧PO t p ns ps r q
 | n,i,p1,nsb,l,psb,hn,h,hlt,hfit=>by
   obtain ⟨r4,q4,a1,a2,a3⟩:=branch_sync (ns:=nsb) hsm H h.wf hfit (by omega)
   have hk4:∀k,k∈l++[q4.1]→k<q4.2.2.length:=by
    intro k hk
    rcases List.mem_append.1 hk with hk | hk
    · have:=h.kids k hk
      obtain ⟨ap,hp⟩:=a3.ep
      rw [hp];simp;omega
    · simp at hk;subst hk;exact a3.jdx
   have hevOr:∀r,Ev t 4 (joinS 5 i r4.1 r4.2).1 (joinS 5 i r4.1 r4.2).2 r→∀s0,takeS t 124 s0=(true,(p1,false))→Ev t 4 i (s0,nsb) r:=fun r hr s0 hs0=>
    Ev.or (st:=(s0,nsb)) (r1:=r4) (by rw [hs0]) (by rw [hs0];exact a1) hr
   cases hb:q4.2.1.2 with
   | true=>
     have e1:=sync_bad a3.sync hb
     refine ⟨joinS 5 i r4.1 r4.2,_,hevOr _ (Ev.orEnd (by show (takeS t 124 r4.2.1).1=false;rw [e1,take_end (by omega)])),EvR.choiceEnd (st:=((p1,false),psb)) a2 (Or.inr (take_bad hb)),?_⟩
     exact bad_po (p:=p) a3 h.en h.ep hb (by omega) 5 hk4 (takeS t 124 q4.2.1).2 (take_bad hb) take_ge (take_le (by omega) a3.fit) _ e1 ⟨_,rfl⟩
   | false=>
     have e1:=sync_good a3.sync hb
     have hs:=a3.sz hb
     have hge:=a3.ge
     have hfit4:=a3.fit
     have hro:=h.next 5 (Or.inr rfl) a3 hb r4.2.1 (q4.2.1.1-p) (by omega) (by
      have:=h.bd.or hs.2.2.2.1
      rwa [show p1-1-p+(q4.2.1.1-p1)+1=q4.2.1.1-p by omega] at this)
     obtain ⟨⟨p2,b2⟩,hq2⟩:∃s,q4.2.1=s:=⟨_,rfl⟩
     rw [hq2] at e1 hb hge hfit4 hro
     simp only [] at hb hge hfit4 hro
     subst hb
     by_cases hc:pk t p2=124
     · have et:=take_hit (t:=t) (s:=(p2,false)) hc
       have hp2:p2<t.size:=pk_some (by omega)
       match n,hn with
       | 0,hn=>omega
       | n+1,hn=>
         obtain ⟨r,q,b1,b2,b3⟩:=or_sync hsm H hpm n _ (p2+1) _ _ _ (by omega) (by rwa [show p2+1-1-p=p2-p by omega]) (by omega) hp2
         refine ⟨r,q,hevOr r ?_,EvR.choiceOn (st:=((p1,false),psb)) a2 (by rw [hq2,et];simp) (by rw [hq2,et];exact b2),b3⟩
         have:(joinS 5 i r4.1 r4.2).2=((p2,false),(joinS 5 i r4.1 (r4.2.1,r4.2.2)).2.2):=by
          show (r4.2.1,_)=_
          rw [e1];rfl
         rw [this]
         exact b1 (p2,false) et
     · have et:=take_miss (t:=t) (s:=(p2,false)) hc
       refine ⟨joinS 5 i r4.1 r4.2,_,hevOr _ (Ev.orEnd (by show (takeS t 124 r4.2.1).1=false;rw [e1,et])),EvR.choiceEnd (st:=((p1,false),psb)) a2 (by rw [hq2,et];simp),?_⟩
       have hfin:=hro.fin 5 (Or.inr rfl) (p2,false) rfl rfl (by show p≤p2;omega) hfit4
       rw [hq2,et]
       have:joinS 5 i r4.1 r4.2=((joinS 5 i r4.1 (r4.2.1,r4.2.2)).1,((p2,false),(joinS 5 i r4.1 (r4.2.1,r4.2.2)).2.2)):=by
        show (_,(r4.2.1,_))=_
        rw [e1];rfl
       rw [this]
       exact hfin
theorem pat_step {t:ByteArray} (hsm:t.size≤40) {m:Nat} (H:PatS t m):PatS t (m+1):=by
 intro p ns ps hw hp hm
 obtain ⟨r1,q1,a1,a2,a3⟩:=branch_sync (ns:=ns) hsm H hw hp (by omega)
 cases hb:q1.2.1.2 with
 | true=>
   have e1:=sync_bad a3.sync hb
   refine ⟨r1,_,Ev.pattern a1 (Ev.orEnd (by rw [e1,take_end (by omega)])),EvR.choiceEnd (cur:=[]) (st:=((p,false),ps)) a2 (Or.inr (take_bad hb)),?_⟩
   exact bad_po (p:=p) a3 ⟨[],by simp⟩ ⟨[],by simp⟩ hb (Nat.le_refl _) 5 (fun k hk=>by simp at hk;subst hk;exact a3.jdx) (takeS t 124 q1.2.1).2 (take_bad hb) take_ge (take_le (by omega) a3.fit) _ e1 ⟨[],by simp⟩
 | false=>
   have e1:=sync_good a3.sync hb
   have hge:=a3.ge
   have hfit1:=a3.fit
   have hro:RO t p ns ps 5 r1.1 r1.2.2 [q1.1] q1.2.2 (q1.2.1.1-p):=RO.one a3 hb (by omega) ⟨[],by simp⟩ ⟨[],by simp⟩
   obtain ⟨⟨p2,b2⟩,hq2⟩:∃s,q1.2.1=s:=⟨_,rfl⟩
   rw [hq2] at e1 hb hge hfit1 hro
   simp only [] at hb hge hfit1 hro
   subst hb
   have er:r1.2=((p2,false),r1.2.2):=by rw [←e1]
   by_cases hc:pk t p2=124
   · have et:=take_hit (t:=t) (s:=(p2,false)) hc
     have hp2:p2<t.size:=pk_some (by omega)
     obtain ⟨r,q,b1,b2,b3⟩:=or_sync (p:=p) (m:=m) (ns:=ns) (ps:=ps) hsm H (by omega) _ _ (p2+1) _ _ _ (Nat.le_refl _) (by rwa [show p2+1-1-p=p2-p by omega]) (by omega) hp2
     refine ⟨r,q,Ev.pattern a1 (by rw [er];exact b1 (p2,false) et),EvR.choiceOn (cur:=[]) (st:=((p,false),ps)) a2 (by rw [hq2,et];simp) (by rw [hq2,et];exact b2),b3⟩
   · have et:=take_miss (t:=t) (s:=(p2,false)) hc
     refine ⟨r1,_,Ev.pattern a1 (Ev.orEnd (by rw [er,et])),EvR.choiceEnd (cur:=[]) (st:=((p,false),ps)) a2 (by rw [hq2,et];simp),?_⟩
     have hfin:=hro.fin 5 (Or.inr rfl) (p2,false) rfl rfl (by show p≤p2;omega) hfit1
     rw [hq2,et]
     rw [show r1=(r1.1,((p2,false),r1.2.2)) by rw [←er]]
     exact hfin
theorem pat_any {t:ByteArray} (hsm:t.size≤40):∀m,PatS t m
 | 0=>fun _ _ _ _ _ h=>by omega
 | m+1=>pat_step hsm (pat_any hsm m)
theorem EvR.one {t:ByteArray} {tag:Nat} {cur:List Nat} {st:RP} {r r':Nat×RP} (h:EvR t tag cur st r) (h':EvR t tag cur st r'):r=r':=by
 obtain ⟨a,ha⟩:=h
 obtain ⟨c,hc⟩:=h'
 rw [←ha (a+c) (by omega),hc (a+c) (by omega)]
theorem check_same {t:ByteArray} (hsm:t.size≤40) {r:Nat×PS} {q:Nat×RP} (hr:Ev t 0 0 st0 r) (hq:EvR t 0 [] rp0 q):
 (BadR t r↔BadT t q)∧(¬BadT t q→sizeAt r.2.2 r.1=cap61 (szT q))∧WfP q.2.2∧(¬BadT t q→Same r.2.2 r.1 q.2.2 q.1):=by
 obtain ⟨r',q',h1,h2,po⟩:=pat_any hsm (t.size+1) 0 [] [] (fun i p hp=>by simp at hp) (Nat.zero_le _) (by omega)
 have er:=hr.one h1
 have eq:=hq.one h2
 subst er eq
 unfold BadR BadT
 cases hb:q.2.1.2 with
 | true=>
   have e1:=sync_bad po.sync hb
   rw [e1]
   exact ⟨by simp,fun h=>(h (Or.inl rfl)).elim,po.wf,fun h=>(h (Or.inl rfl)).elim⟩
 | false=>
   have e1:=sync_good po.sync hb
   rw [e1,hb]
   exact ⟨Iff.rfl,fun _=>(po.sz hb).2.2.1,po.wf,fun _=>(po.sz hb).2.2.2.2⟩
structure SelOk (whole:Bool) (n:Nat) (R:Rel) (y:Bool):Prop where
 all:whole=true→(y=true↔R 0 n)
 part:whole=false→(y=true↔∃a b,a≤b∧b≤n∧R a b)
end Go.Proofs.YtgifhgnccmnbiabGreat
namespace Go.Proofs.YtgifhgnccmnbiabGreat
def Nx (P:GP) (s b:Nat):Prop:=(s=60∧P.first.getLsbD b=true)∨(s<P.count∧(P.next s).getLsbD b=true)
def RunX (P:GP):Nat→List Nat→Prop
 | s,[]=>(s<P.count∧P.last.getLsbD s=true)∨(s=60∧P.empty=true)
 | s,b :: r=>Nx P s b∧RunX P b r
section
variable {P:GP} (hP:P.Fit)
include hP
theorem Nx.lt {s b:Nat} (h:Nx P s b):b<P.count:=by
 rcases h with ⟨_,h⟩ | ⟨_,h⟩
 · exact hP.first _ h
 · exact hP.next _ _ h
theorem runX_run:∀{l:List Nat} {s:Nat},s<P.count→(RunX P s l↔P.Run s l)
 | [],s,hs=>by
   have:=hP.room
   simp only [RunX,GP.Run]
   constructor
   · rintro (⟨_,h⟩ | ⟨h,_⟩)
     · exact h
     · omega
   · intro h;exact Or.inl ⟨hs,h⟩
 | b :: r,s,hs=>by
   have:=hP.room
   simp only [RunX,GP.Run]
   constructor
   · rintro ⟨h1 | h1,h2⟩
     · omega
     · exact ⟨h1.2,(runX_run (hP.next _ _ h1.2)).1 h2⟩
   · rintro ⟨h1,h2⟩
     exact ⟨Or.inr ⟨hs,h1⟩,(runX_run (hP.next _ _ h1)).2 h2⟩
theorem runX_acc {l:List Nat}:RunX P 60 l↔P.Acc l:=by
 have:=hP.room
 cases l with
 | nil=>
   simp only [RunX,GP.Acc]
   constructor
   · rintro (⟨h,_⟩ | ⟨_,h⟩)
     · omega
     · exact h
   · intro h;exact Or.inr ⟨trivial,h⟩
 | cons b r=>
   simp only [RunX,GP.Acc]
   constructor
   · rintro ⟨h1 | h1,h2⟩
     · exact ⟨h1.2,(runX_run hP (hP.first _ h1.2)).1 h2⟩
     · omega
   · rintro ⟨h1,h2⟩
     exact ⟨Or.inl ⟨rfl,h1⟩,(runX_run hP (hP.first _ h1)).2 h2⟩
end
section
variable {m:MP} {ns:List AN} {P:GP} {fold whole:Bool} {t:ByteArray} (hm:MF m ns P fold whole)
include hm
def Sub (P:GP) (S:B64):Prop:=∀b,S.getLsbD b=true→b<P.count∨b=60∨b=61
omit hm in
theorem runX_no {l:List Nat} (hP:P.Fit):¬RunX P 61 l:=by
 have:=hP.room
 cases l with
 | nil=>rintro (⟨h,_⟩ | ⟨h,_⟩) <;> omega
 | cons b r=>rintro ⟨⟨h,_⟩ | ⟨h,_⟩,_⟩ <;> omega
theorem follow_nx {S:B64} (hS:Sub P S) {b:Nat}:(followP m S).getLsbD b=true↔∃s,S.getLsbD s=true∧Nx P s b:=by
 have hr:=hm.fit.room
 unfold followP
 rw [follow_bit]
 constructor
 · rintro ⟨s,h1,h2,h3⟩
   refine ⟨s,h2,?_⟩
   rcases hS s h2 with h | h | h
   · rw [hm.next s h] at h3;exact Or.inr ⟨h,h3⟩
   · subst h;rw [hm.start] at h3;exact Or.inl ⟨rfl,h3⟩
   · omega
 · rintro ⟨s,h1,⟨h2,h3⟩ | ⟨h2,h3⟩⟩
   · subst h2;exact ⟨60,by omega,h1,by rw [hm.start];exact h3⟩
   · exact ⟨s,by omega,h1,by rw [hm.next s h2];exact h3⟩
theorem last_run {s:Nat} (h:m.last.getLsbD s=true):RunX P s []:=by
 rcases (hm.last s).1 h with h | h
 · exact Or.inl ⟨hm.fit.last _ h,h⟩
 · exact Or.inr h
theorem run_last {s:Nat} (h:RunX P s []):m.last.getLsbD s=true:=by
 rcases h with h | h
 · exact (hm.last s).2 (Or.inl h.2)
 · exact (hm.last s).2 (Or.inr h)
theorem free_lt {e:Bool} {b:Nat} (h:(freeP m e).getLsbD b=true):b<P.count:=by
 unfold freeP at h
 split at h
 · rw [bit_or,Bool.or_eq_true] at h
   rcases h with h | h
   · exact ((hm.ends b).1 h).1
   · exact ((hm.begins b).1 h).1
 · exact ((hm.ends b).1 h).1
theorem still_sub {S free:B64} (hS:Sub P S) (hf:∀b,free.getLsbD b=true→b<P.count):Sub P (stillP m S free):=fun b h=>
 have _:=hm
 still_sound (Q:=fun b=>b<P.count∨b=60∨b=61) hS (fun _ _ b _ h2=>Or.inl (hf b h2)) 60 b h
theorem begin_facts:(∀b,(beginP m).getLsbD b=true→b<P.count∨b=60)∧(beginP m).getLsbD 60=true ∧
 (∀b,(beginP m).getLsbD b=true→∀l j,RunX P b l→Tr ns fold t (l.map P.node) 0 j→∃l',RunX P 60 l'∧Tr ns fold t (l'.map P.node) 0 j) ∧
 (∀b,(followP m (beginP m)).getLsbD b=true→m.begins.getLsbD b=true→(beginP m).getLsbD b=true):=by
 have hr:=hm.fit.room
 have hf:∀b,m.begins.getLsbD b=true→b<P.count:=fun b h=>((hm.begins b).1 h).1
 have h1:∀b,(beginP m).getLsbD b=true→b<P.count∨b=60:=fun b h=>
  still_sound (Q:=fun b=>b<P.count∨b=60) (fun b h=>Or.inr (start_bit.1 h)) (fun _ _ b _ h2=>Or.inl (hf b h2)) 60 b h
 refine ⟨h1,still_up (start_bit.2 rfl) 60,?_,fun b h2 h3=>still_closed (fun b h=>by have:=hf b h;omega) h2 h3⟩
 intro b hb
 have h2:=still_sound (m:=m) (S:=startB) (free:=m.begins) (Q:=fun b=>(b<P.count∨b=60)∧∀l j,RunX P b l→Tr ns fold t (l.map P.node) 0 j→∃l',RunX P 60 l'∧Tr ns fold t (l'.map P.node) 0 j)
  (fun b h=>by
    have:=start_bit.1 h
    subst this
    exact ⟨Or.inr rfl,fun l j h1 h2=>⟨l,h1,h2⟩⟩)
  (fun S' hS' b h2 h3=>by
    refine ⟨Or.inl (hf b h3),fun l j h4 h5=>?_⟩
    obtain ⟨s,hs,hn⟩:=(follow_nx hm (fun b h=>(hS' b h).1.elim Or.inl (fun h=>Or.inr (Or.inl h)))).1 h2
    obtain ⟨_,n,hn1,hn2⟩:=(hm.begins b).1 h3
    exact (hS' s hs).2 (b :: l) j ⟨hn,h4⟩ ⟨0,⟨n,hn1,Or.inr (Or.inl ⟨hn2,rfl,rfl⟩)⟩,h5⟩)
  60 b hb
 exact h2.2
omit hm in
theorem takes_go {q b:Nat} (hm:MF m ns P fold whole) (hq:q<t.size):(m.takes t[q].toNat).getLsbD b=true↔b<P.count∧∃n,ns[P.node b]?=some n∧n.kind=1∧takesP n fold t[q].toNat=true:=by
 rw [hm.takes]
 exact ⟨fun h=>h.2,fun h=>⟨t[q].toNat_lt,h⟩⟩
theorem after_bit {S:B64} (hS:Sub P S) {q b:Nat} (hq:q<t.size):(afterP m S t[q].toNat).getLsbD b=true↔∃s,S.getLsbD s=true∧Nx P s b∧∃n,ns[P.node b]?=some n∧n.kind=1∧takesP n fold t[q].toNat=true:=by
 unfold afterP
 rw [bit_and,Bool.and_eq_true,follow_nx hm hS,takes_go hm hq]
 constructor
 · rintro ⟨⟨s,h1,h2⟩,_,h3⟩;exact ⟨s,h1,h2,h3⟩
 · rintro ⟨s,h1,h2,h3⟩;exact ⟨⟨s,h1,h2⟩,h2.lt hm.fit,h3⟩
theorem end_sound {S:B64} {X:Prop} (hS:Sub P S) (h0:∀b l j,S.getLsbD b=true→RunX P b l→Tr ns fold t (l.map P.node) t.size j→X):
 ∀b,(stillP m S (freeP m (t.size==0))).getLsbD b=true→∀l j,RunX P b l→Tr ns fold t (l.map P.node) t.size j→X:=by
 intro b hb
 have h2:=still_sound (m:=m) (S:=S) (free:=freeP m (t.size==0)) (Q:=fun b=>(b<P.count∨b=60∨b=61)∧∀l j,RunX P b l→Tr ns fold t (l.map P.node) t.size j→X)
  (fun b h=>⟨hS b h,fun l j=>h0 b l j h⟩)
  (fun S' hS' b h2 h3=>by
    refine ⟨Or.inl (free_lt hm h3),fun l j h4 h5=>?_⟩
    obtain ⟨s,hs,hn⟩:=(follow_nx hm (fun b h=>(hS' b h).1)).1 h2
    refine (hS' s hs).2 (b :: l) j ⟨hn,h4⟩ ⟨t.size,?_,h5⟩
    unfold freeP at h3
    split at h3
    · rename_i hz
      have hz:t.size=0:=by simpa using hz
      rw [bit_or,Bool.or_eq_true] at h3
      rcases h3 with h3 | h3
      · obtain ⟨_,n,hn1,hn2⟩:=(hm.ends b).1 h3
        exact ⟨n,hn1,Or.inr (Or.inr ⟨hn2,rfl,rfl⟩)⟩
      · obtain ⟨_,n,hn1,hn2⟩:=(hm.begins b).1 h3
        exact ⟨n,hn1,Or.inr (Or.inl ⟨hn2,hz,hz⟩)⟩
    · obtain ⟨_,n,hn1,hn2⟩:=(hm.ends b).1 h3
      exact ⟨n,hn1,Or.inr (Or.inr ⟨hn2,rfl,rfl⟩)⟩)
  60 b hb
 exact h2.2
theorem end_compl {S:B64} (hS:Sub P S):∀(l:List Nat) (b:Nat),(stillP m S (freeP m (t.size==0))).getLsbD b=true→RunX P b l→(∃j,Tr ns fold t (l.map P.node) t.size j)→∃s,(stillP m S (freeP m (t.size==0))).getLsbD s=true∧m.last.getLsbD s=true
 | [],b,hb,hr,_=>⟨b,hb,run_last hm hr⟩
 | c :: r,b,hb,hr,⟨j,k,⟨n,hn,hg⟩,h2⟩=>by
   have hroom:=hm.fit.room
   have hc:=hr.1.lt hm.fit
   have hfl:(followP m (stillP m S (freeP m (t.size==0)))).getLsbD c=true:=(follow_nx hm (still_sub hm hS (fun b h=>free_lt hm h))).2 ⟨b,hb,hr.1⟩
   have hclose:(freeP m (t.size==0)).getLsbD c=true→(stillP m S (freeP m (t.size==0))).getLsbD c=true:=fun h=>still_closed (fun b h=>by have:=free_lt hm h;omega) hfl h
   rcases hg with ⟨_,_,h3,_⟩ | ⟨hk,hz,rfl⟩ | ⟨hk,_,rfl⟩
   · omega
   · refine end_compl hS r c (hclose ?_) hr.2 ⟨j,by rw [hz];exact h2⟩
     unfold freeP
     rw [if_pos (by simp [hz]),bit_or,Bool.or_eq_true]
     exact Or.inr ((hm.begins c).2 ⟨hc,n,hn,hk⟩)
   · refine end_compl hS r c (hclose ?_) hr.2 ⟨j,h2⟩
     have he:m.ends.getLsbD c=true:=(hm.ends c).2 ⟨hc,n,hn,hk⟩
     unfold freeP
     split
     · rw [bit_or,Bool.or_eq_true];exact Or.inl he
     · exact he
theorem accepts_iff {S:B64}:acceptsP m S (t.size==0)=true↔∃b,(stillP m S (freeP m (t.size==0))).getLsbD b=true∧(m.last.getLsbD b=true∨b=61):=by
 have _:=hm
 unfold acceptsP
 rw [Bool.not_eq_true',decide_eq_false_iff_not,u_none]
 constructor
 · intro h
   apply Classical.byContradiction
   intro hc
   apply h
   intro i
   cases hi:(stillP m S (freeP m (t.size==0))&&&(m.last|||foundB)).getLsbD i with
   | false=>rfl
   | true=>
     exfalso
     rw [bit_and,bit_or,Bool.and_eq_true,Bool.or_eq_true,found_bit] at hi
     exact hc ⟨i,hi.1,hi.2⟩
 · rintro ⟨b,h1,h2⟩ hc
   have:=hc b
   rw [bit_and,bit_or,h1] at this
   rcases h2 with h2 | h2
   · rw [h2] at this;simp at this
   · rw [found_bit.2 h2] at this;simp at this
end
section
variable {m:MP} {ns:List AN} {P:GP} {fold:Bool} {t:ByteArray} (hm:MF m ns P fold true)
include hm
def MatchW (P:GP) (ns:List AN) (fold:Bool) (t:ByteArray):Prop:=∃l,RunX P 60 l∧Tr ns fold t (l.map P.node) 0 t.size
structure InvW (m:MP) (ns:List AN) (P:GP) (fold:Bool) (t:ByteArray) (q:Nat) (S:B64):Prop where
 sub:∀b,S.getLsbD b=true→b<P.count∨b=60
 sound:∀b l j,S.getLsbD b=true→RunX P b l→Tr ns fold t (l.map P.node) q j→j=t.size→MatchW P ns fold t
 compl:MatchW P ns fold t→∃b l,S.getLsbD b=true∧RunX P b l∧Tr ns fold t (l.map P.node) q t.size
 closed:q=0→∀b,(followP m S).getLsbD b=true→m.begins.getLsbD b=true→S.getLsbD b=true
theorem go_on {S:B64} {q:Nat} (hS:Sub P S) (hq:q<t.size) (hcl:q=0→∀b,(followP m S).getLsbD b=true→m.begins.getLsbD b=true→S.getLsbD b=true):
 ∀(l:List Nat) (b:Nat) (j:Nat),S.getLsbD b=true→RunX P b l→Tr ns fold t (l.map P.node) q j→(∃s,S.getLsbD s=true∧m.last.getLsbD s=true∧j=q)∨∃c r,(afterP m S t[q].toNat).getLsbD c=true∧RunX P c r∧Tr ns fold t (r.map P.node) (q+1) j
 | [],b,j,hb,hr,htr=>Or.inl ⟨b,hb,run_last hm hr,htr.1.symm⟩
 | c :: r,b,j,hb,hr,⟨k,⟨n,hn,hg⟩,h2⟩=>by
   have hc:=hr.1.lt hm.fit
   rcases hg with ⟨hk,rfl,h3,h4⟩ | ⟨hk,hz,rfl⟩ | ⟨hk,hz,_⟩
   · exact Or.inr ⟨c,r,(after_bit hm hS hq).2 ⟨b,hb,hr.1,n,hn,hk,h4⟩,hr.2,h2⟩
   · subst hz
     exact go_on hS hq hcl r c j (hcl rfl c ((follow_nx hm hS).2 ⟨b,hb,hr.1⟩) ((hm.begins c).2 ⟨hc,n,hn,hk⟩)) hr.2 h2
   · omega
theorem invW:∀q,q≤t.size→InvW m ns P fold t q (setQ m t q)
 | 0,_=>by
   obtain ⟨h1,h2,h3,h4⟩:=begin_facts (t:=t) hm
   refine ⟨h1,fun b l j hb hr htr hj=>?_,?_,fun _=>h4⟩
   · subst hj;exact h3 b hb l _ hr htr
   · rintro ⟨l,hl,htr⟩;exact ⟨60,l,h2,hl,htr⟩
 | q+1,hq=>by
   have ih:=invW q (by omega)
   have hS:Sub P (setQ m t q):=fun b h=>(ih.sub b h).elim Or.inl (fun h=>Or.inr (Or.inl h))
   have hqt:q<t.size:=by omega
   have e:setQ m t (q+1)=afterP m (setQ m t q) t[q].toNat:=by
    rw [setQ,dif_pos hqt];unfold behindP;rw [if_pos hm.whole]
   rw [e]
   refine ⟨fun b h=>?_,fun b l j hb hr htr hj=>?_,fun hM=>?_,fun h=>by omega⟩
   · obtain ⟨s,_,hn,_⟩:=(after_bit hm hS hqt).1 h
     exact Or.inl (hn.lt hm.fit)
   · obtain ⟨s,hs,hn,n,hn1,hn2,hn3⟩:=(after_bit hm hS hqt).1 hb
     exact ih.sound s (b :: l) j hs ⟨hn,hr⟩ ⟨q+1,⟨n,hn1,Or.inl ⟨hn2,rfl,hqt,hn3⟩⟩,htr⟩ hj
   · obtain ⟨b,l,hb,hr,htr⟩:=ih.compl hM
     rcases go_on hm hS hqt ih.closed l b _ hb hr htr with ⟨_,_,_,h⟩ | ⟨c,r,h1,h2,h3⟩
     · omega
     · exact ⟨c,r,h1,h2,h3⟩
theorem whole_iff:matchesP m t=true↔MatchW P ns fold t:=by
 have inv:=invW (t:=t) hm t.size (Nat.le_refl _)
 have hS:Sub P (setQ m t t.size):=fun b h=>(inv.sub b h).elim Or.inl (fun h=>Or.inr (Or.inl h))
 have hroom:=hm.fit.room
 unfold matchesP
 rw [accepts_iff hm]
 constructor
 · rintro ⟨b,hb,h | h⟩
   · refine end_sound hm hS (X:=MatchW P ns fold t) (fun b l j h1 h2 h3=>inv.sound b l j h1 h2 h3 (by have:=h3.le;omega)) b hb [] t.size (last_run hm h) ⟨rfl,Nat.le_refl _⟩
   · subst h
     exfalso
     have h1:=still_sound (m:=m) (S:=setQ m t t.size) (free:=freeP m (t.size==0)) (Q:=fun b=>b<P.count∨b=60) inv.sub (fun _ _ b _ h2=>Or.inl (free_lt hm h2)) 60 61 hb
     omega
 · intro h
   obtain ⟨b,l,hb,hr,htr⟩:=inv.compl h
   obtain ⟨s,h1,h2⟩:=end_compl hm hS l b (still_up hb 60) hr ⟨_,htr⟩
   exact ⟨s,h1,Or.inl h2⟩
end
section
variable {m:MP} {ns:List AN} {P:GP} {fold:Bool} {t:ByteArray} (hm:MF m ns P fold false)
include hm
def MatchA (P:GP) (ns:List AN) (fold:Bool) (t:ByteArray):Prop:=∃i j l,RunX P 60 l∧Tr ns fold t (l.map P.node) i j
structure InvA (m:MP) (ns:List AN) (P:GP) (fold:Bool) (t:ByteArray) (q:Nat) (S:B64):Prop where
 sub:Sub P S
 found:S.getLsbD 61=true→MatchA P ns fold t
 sound:∀b l j,S.getLsbD b=true→RunX P b l→Tr ns fold t (l.map P.node) q j→MatchA P ns fold t
 compl:MatchA P ns fold t→S.getLsbD 61=true∨(∃b l j,S.getLsbD b=true∧RunX P b l∧Tr ns fold t (l.map P.node) q j)∨∃i l j,q<i∧RunX P 60 l∧Tr ns fold t (l.map P.node) i j
 closed:q=0→∀b,(followP m S).getLsbD b=true→m.begins.getLsbD b=true→S.getLsbD b=true
theorem go_onA {S:B64} {q:Nat} (hS:Sub P S) (hq:q<t.size) (hcl:q=0→∀b,(followP m S).getLsbD b=true→m.begins.getLsbD b=true→S.getLsbD b=true):
 ∀(l:List Nat) (b:Nat) (j:Nat),S.getLsbD b=true→RunX P b l→Tr ns fold t (l.map P.node) q j→(∃s,S.getLsbD s=true∧m.last.getLsbD s=true)∨∃c r,(afterP m S t[q].toNat).getLsbD c=true∧RunX P c r∧Tr ns fold t (r.map P.node) (q+1) j
 | [],b,j,hb,hr,htr=>Or.inl ⟨b,hb,run_last hm hr⟩
 | c :: r,b,j,hb,hr,⟨k,⟨n,hn,hg⟩,h2⟩=>by
   have hc:=hr.1.lt hm.fit
   rcases hg with ⟨hk,rfl,h3,h4⟩ | ⟨hk,hz,rfl⟩ | ⟨hk,hz,_⟩
   · exact Or.inr ⟨c,r,(after_bit hm hS hq).2 ⟨b,hb,hr.1,n,hn,hk,h4⟩,hr.2,h2⟩
   · subst hz
     exact go_onA hS hq hcl r c j (hcl rfl c ((follow_nx hm hS).2 ⟨b,hb,hr.1⟩) ((hm.begins c).2 ⟨hc,n,hn,hk⟩)) hr.2 h2
   · omega
omit hm in
theorem and_none {A B:B64}:A&&&B=0#64↔¬ ∃s,A.getLsbD s=true∧B.getLsbD s=true:=by
 rw [u_none]
 constructor
 · rintro h ⟨s,h1,h2⟩
   have:=h s
   rw [bit_and,h1,h2] at this
   simp at this
 · intro h i
   rw [bit_and]
   cases h1:A.getLsbD i with
   | false=>rfl
   | true=>
     cases h2:B.getLsbD i with
     | false=>rfl
     | true=>exact absurd ⟨i,h1,h2⟩ h
theorem behind_bit {S:B64} {c b:Nat}:(behindP m S c).getLsbD b=true↔(afterP m S c).getLsbD b=true∨(b=61∧∃s,S.getLsbD s=true∧m.last.getLsbD s=true)∨(b=61∧S.getLsbD 61=true)∨b=60:=by
 unfold behindP
 rw [if_neg (by rw [hm.whole];decide),bit_or,bit_or,bit_and,Bool.or_eq_true,Bool.or_eq_true,Bool.and_eq_true,start_bit,found_bit]
 have hF:(S.getLsbD b=true∧b=61)↔(b=61∧S.getLsbD 61=true):=by
  constructor
  · rintro ⟨h1,rfl⟩;exact ⟨rfl,h1⟩
  · rintro ⟨rfl,h1⟩;exact ⟨h1,rfl⟩
 rw [hF]
 by_cases hz:S&&&m.last=0#64
 · rw [if_pos hz]
   have:=and_none.1 hz
   constructor
   · rintro ((h | h) | h)
     · exact Or.inl h
     · exact Or.inr (Or.inr (Or.inl h))
     · exact Or.inr (Or.inr (Or.inr h))
   · rintro (h | ⟨_,h⟩ | h | h)
     · exact Or.inl (Or.inl h)
     · exact absurd h this
     · exact Or.inl (Or.inr h)
     · exact Or.inr h
 · rw [if_neg hz,bit_or,Bool.or_eq_true,found_bit]
   have hex:∃s,S.getLsbD s=true∧m.last.getLsbD s=true:=Classical.byContradiction fun hc=>hz (and_none.2 hc)
   constructor
   · rintro (((h | h) | h) | h)
     · exact Or.inl h
     · exact Or.inr (Or.inl ⟨h,hex⟩)
     · exact Or.inr (Or.inr (Or.inl h))
     · exact Or.inr (Or.inr (Or.inr h))
   · rintro (h | ⟨h,_⟩ | h | h)
     · exact Or.inl (Or.inl (Or.inl h))
     · exact Or.inl (Or.inl (Or.inr h))
     · exact Or.inl (Or.inr h)
     · exact Or.inr h
theorem invA:∀q,q≤t.size→InvA m ns P fold t q (setQ m t q)
 | 0,_=>by
   have hroom:=hm.fit.room
   obtain ⟨h1,h2,h3,h4⟩:=begin_facts (t:=t) hm
   refine ⟨fun b h=>(h1 b h).elim Or.inl (fun h=>Or.inr (Or.inl h)),fun h=>?_,fun b l j hb hr htr=>?_,?_,fun _=>h4⟩
   · have:=h1 _ h;omega
   · obtain ⟨l',h5,h6⟩:=h3 b hb l _ hr htr
     exact ⟨0,j,l',h5,h6⟩
   · rintro ⟨i,j,l,hl,htr⟩
     by_cases hi:i=0
     · subst hi;exact Or.inr (Or.inl ⟨60,l,j,h2,hl,htr⟩)
     · exact Or.inr (Or.inr ⟨i,l,j,by omega,hl,htr⟩)
 | q+1,hq=>by
   have hroom:=hm.fit.room
   have ih:=invA q (by omega)
   have hqt:q<t.size:=by omega
   have e:setQ m t (q+1)=behindP m (setQ m t q) t[q].toNat:=by rw [setQ,dif_pos hqt]
   rw [e]
   have fnd:(∃s,(setQ m t q).getLsbD s=true∧m.last.getLsbD s=true)→MatchA P ns fold t:=by
    rintro ⟨s,h1,h2⟩
    exact ih.sound s [] q h1 (last_run hm h2) ⟨rfl,by omega⟩
   refine ⟨fun b h=>?_,fun h=>?_,fun b l j hb hr htr=>?_,fun hM=>?_,fun h=>by omega⟩
   · rcases (behind_bit hm).1 h with h | h | h | h
     · obtain ⟨s,_,hn,_⟩:=(after_bit hm ih.sub hqt).1 h
       exact Or.inl (hn.lt hm.fit)
     · exact Or.inr (Or.inr h.1)
     · exact Or.inr (Or.inr h.1)
     · exact Or.inr (Or.inl h)
   · rcases (behind_bit hm).1 h with h | h | h | h
     · obtain ⟨s,_,hn,_⟩:=(after_bit hm ih.sub hqt).1 h
       have:=hn.lt hm.fit
       omega
     · exact fnd h.2
     · exact ih.found h.2
     · omega
   · rcases (behind_bit hm).1 hb with h | h | h | h
     · obtain ⟨s,hs,hn,n,hn1,hn2,hn3⟩:=(after_bit hm ih.sub hqt).1 h
       exact ih.sound s (b :: l) j hs ⟨hn,hr⟩ ⟨q+1,⟨n,hn1,Or.inl ⟨hn2,rfl,hqt,hn3⟩⟩,htr⟩
     · exact fnd h.2
     · exact ih.found h.2
     · subst h;exact ⟨q+1,j,l,hr,htr⟩
   · rcases ih.compl hM with h | ⟨b,l,j,hb,hr,htr⟩ | ⟨i,l,j,hi,hr,htr⟩
     · exact Or.inl ((behind_bit hm).2 (Or.inr (Or.inr (Or.inl ⟨rfl,h⟩))))
     · rcases go_onA hm ih.sub hqt ih.closed l b j hb hr htr with h | ⟨c,r,h1,h2,h3⟩
       · exact Or.inl ((behind_bit hm).2 (Or.inr (Or.inl ⟨rfl,h⟩)))
       · exact Or.inr (Or.inl ⟨c,r,j,(behind_bit hm).2 (Or.inl h1),h2,h3⟩)
     · by_cases hi1:i=q+1
       · subst hi1
         exact Or.inr (Or.inl ⟨60,l,j,(behind_bit hm).2 (Or.inr (Or.inr (Or.inr rfl))),hr,htr⟩)
       · exact Or.inr (Or.inr ⟨i,l,j,by omega,hr,htr⟩)
theorem any_iff:matchesP m t=true↔MatchA P ns fold t:=by
 have inv:=invA (t:=t) hm t.size (Nat.le_refl _)
 have hroom:=hm.fit.room
 unfold matchesP
 rw [accepts_iff hm]
 constructor
 · rintro ⟨b,hb,h | h⟩
   · exact end_sound hm inv.sub (X:=MatchA P ns fold t) (fun b l j h1 h2 h3=>inv.sound b l j h1 h2 h3) b hb [] t.size (last_run hm h) ⟨rfl,Nat.le_refl _⟩
   · subst h
     have h1:=still_sound (m:=m) (S:=setQ m t t.size) (free:=freeP m (t.size==0)) (Q:=fun b=>b<P.count∨b=60∨(b=61∧(setQ m t t.size).getLsbD 61=true))
      (fun b h=>by
        rcases inv.sub b h with h1 | h1 | h1
        · exact Or.inl h1
        · exact Or.inr (Or.inl h1)
        · subst h1;exact Or.inr (Or.inr ⟨rfl,h⟩)) (fun _ _ b _ h2=>Or.inl (free_lt hm h2)) 60 61 hb
     rcases h1 with h1 | h1 | h1
     · omega
     · omega
     · exact inv.found h1.2
 · intro h
   rcases inv.compl h with h | ⟨b,l,j,hb,hr,htr⟩ | ⟨i,l,j,hi,hr,htr⟩
   · exact ⟨61,still_up h 60,Or.inr rfl⟩
   · obtain ⟨s,h1,h2⟩:=end_compl hm inv.sub l b (still_up hb 60) hr ⟨_,htr⟩
     exact ⟨s,h1,Or.inl h2⟩
   · have:=htr.le
     omega
end
end Go.Proofs.YtgifhgnccmnbiabGreat
