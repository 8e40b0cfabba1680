/- The document's reader: how many parts there are, and their true sizes. No Go in it. -/
import Derived.Test.YtgifhgnccmnbiabGreatG48
import Derived.Test.YtgifhgnccmnbiabGreatG22
import Derived.Test.YtgifhgnccmnbiabGreatG49
import Derived.Test.YtgifhgnccmnbiabGreatG23
set_option linter.unusedVariables false
set_option linter.unusedSimpArgs false
set_option maxHeartbeats 4000000
set_option maxRecDepth 100000
namespace Go.Proofs.YtgifhgnccmnbiabGreat
def hK (p:PN) (n:Int):Int:=
 if p.kind=1∨p.kind=2∨p.kind=3 then 1
 else if p.kind=4 then (if n<1 then 1 else n)
 else if p.kind=6 then n*timesS p.least p.most
 else n
def sumI (g:Nat→Int):List Nat→Int
 | []=>0
 | k :: l=>g k+sumI g l
def hG (ps:List PN):Nat→Nat→Int
 | 0,_=>0
 | f+1,i=>match ps[i]? with
   | none=>0
   | some p=>hK p (sumI (hG ps f) p.kids)
def hT (ps:List PN) (j:Nat):Int:=hG ps (j+1) j
def hS (ps:List PN) (l:List Nat):Int:=sumI (hT ps) l
theorem sumI_same {g h:Nat→Int}:∀(l:List Nat),(∀k,k∈l→g k=h k)→sumI g l=sumI h l
 | [],_=>rfl
 | k :: l,e=>by
   unfold sumI
   rw [e k (by simp),sumI_same l (fun j hj=>e j (by simp [hj]))]
theorem sumI_snoc {g:Nat→Int}:∀(l:List Nat) (k:Nat),sumI g (l++[k])=sumI g l+g k
 | [],k=>by show g k+0=0+g k;omega
 | x :: l,k=>by
   show g x+sumI g (l++[k])=g x+sumI g l+g k
   rw [sumI_snoc l k];omega
theorem hG_more {ps:List PN} (hw:WfP ps):∀(f g i:Nat),i<f→i<g→hG ps f i=hG ps g i
 | 0,_,_,h,_=>by omega
 | _+1,0,_,_,h=>by omega
 | f+1,g+1,i,h1,h2=>by
   rw [hG,hG]
   cases hp:ps[i]? with
   | none=>rfl
   | some p=>
     simp only []
     congr 1
     exact sumI_same _ (fun k hk=>hG_more hw f g k (by have:=hw i p hp k hk;omega) (by have:=hw i p hp k hk;omega))
theorem hG_app {ps more:List PN} (hw:WfP ps):∀(f i:Nat),i<ps.length→hG (ps++more) f i=hG ps f i
 | 0,_,_=>rfl
 | f+1,i,hi=>by
   rw [hG,hG,List.getElem?_append_left hi]
   cases hp:ps[i]? with
   | none=>rfl
   | some p=>
     simp only []
     congr 1
     exact sumI_same _ (fun k hk=>hG_app hw f k (by have:=hw i p hp k hk;omega))
theorem hT_app {ps more:List PN} (hw:WfP ps) {i:Nat} (hi:i<ps.length):hT (ps++more) i=hT ps i:=hG_app hw _ _ hi
theorem hS_app {ps more:List PN} (hw:WfP ps) {l:List Nat} (hl:∀k,k∈l→k<ps.length):hS (ps++more) l=hS ps l:=sumI_same _ (fun k hk=>hT_app hw (hl k hk))
theorem hT_at {ps:List PN} (hw:WfP ps) {j:Nat} {p:PN} (hp:ps[j]?=some p):hT ps j=hK p (hS ps p.kids):=by
 unfold hT
 rw [hG,hp]
 simp only []
 congr 1
 exact sumI_same _ (fun k hk=>hG_more hw _ _ k (hw j p hp k hk) (Nat.lt_succ_self _))
theorem hT_new {ps:List PN} {p:PN} (hw:WfP ps) (hl:∀k,k∈p.kids→k<ps.length):hT (ps++[p]) ps.length=hK p (hS ps p.kids):=by
 rw [hT_at (hw.push hl) (show (ps++[p])[ps.length]?=some p by rw [List.getElem?_append_right (Nat.le_refl _),Nat.sub_self];rfl),hS_app hw hl]
def OrdP (ps:List PN):Prop:=∀(j:Nat) (p:PN),ps[j]?=some p→p.kind=6→p.most = -1∨p.least≤p.most
theorem OrdP.push {ps:List PN} (h:OrdP ps) {p:PN} (hp:p.kind=6→p.most = -1∨p.least≤p.most):OrdP (ps++[p]):=by
 intro j x hx hk
 by_cases hj:j<ps.length
 · rw [List.getElem?_append_left hj] at hx
   exact h j x hx hk
 · rw [List.getElem?_append_right (by omega)] at hx
   have h0:j-ps.length=0:=by
    have:=(List.getElem?_eq_some_iff.1 hx).1
    simp at this;omega
   rw [h0] at hx
   simp at hx
   subst hx
   exact hp hk
theorem plainR_form (t:ByteArray) (c:Int) (st:RP):∃x s',plainR t c st=pushP x (s',st.2)∧x.kids=[]∧(x.kind=1∨x.kind=2∨x.kind=3)∧st.1.1≤s'.1∧(st.1.1≤t.size→s'.1≤t.size)∧(st.1.2=true→s'.2=true):=by
 unfold plainR
 split
 · refine ⟨_,_,rfl,rfl,Or.inl rfl,Nat.le_trans take_ge itemsR_ge,fun h=>?_,fun h=>?_⟩
   · have:∀(n:Nat) (s:RS) (f:Nat→Bool),Fits t s→Fits t (itemsG t n s f).1:=by
      intro n
      induction n with
      | zero=>intro s f h;exact h
      | succ n ih=>
        intro s f h
        rw [itemsG]
        split
        · exact h
        · split
          · exact fits_take (by omega) (fits_itemR h)
          · exact ih _ _ (fits_take (by omega) (fits_itemR h))
     exact this _ _ _ (fits_take (c:=94) (by omega) h)
   · rw [itemsR_bad (take_bad h)];exact take_bad h
 · split
   · exact ⟨_,_,rfl,rfl,Or.inr (Or.inl rfl),Nat.le_refl _,fun h=>h,fun h=>h⟩
   · split
     · exact ⟨_,_,rfl,rfl,Or.inr (Or.inr rfl),Nat.le_refl _,fun h=>h,fun h=>h⟩
     · split
       · exact ⟨_,_,rfl,rfl,Or.inl rfl,Nat.le_refl _,fun h=>h,fun h=>h⟩
       · split
         · exact ⟨_,_,rfl,rfl,Or.inl rfl,tk_ge,fun h=>fits_tk (s:=st.1) h,fun h=>tk_bad h⟩
         · exact ⟨_,_,rfl,rfl,Or.inl rfl,Nat.le_refl _,fun h=>h,fun h=>h⟩
theorem openR_bad {t:ByteArray} {s:RS} (h:s.2=true):(openR t s).2=true:=by
 unfold openR;split
 · rfl
 · exact h
theorem closeR_bad {t:ByteArray} {r:Nat×RP} (h:r.2.1.2=true):(closeR t r).2.1.2=true:=by
 unfold closeR
 simp only []
 split
 · exact take_bad h
 · rfl
theorem goR_bad (t:ByteArray):∀(f tag:Nat) (cur:List Nat) (st:RP),st.1.2=true→(goR t f tag cur st).2.1.2=true
 | 0,_,_,_,h=>h
 | f+1,tag,cur,st,h=>by
   have ih:=fun tag cur st h=>goR_bad t f tag cur st h
   rw [goR]
   split
   · simp only []
     split
     · exact take_bad (ih _ _ _ h)
     · exact ih _ _ _ (take_bad (ih _ _ _ h))
   · split
     · split
       · exact ih _ _ _ (ih _ _ _ h)
       · exact h
     · split
       · exact ih _ _ _ (ih _ _ _ h)
       · split
         · split
           · exact closeR_bad (ih 0 [] _ (tk_bad (openR_bad h)))
           · obtain ⟨x,s',e,_,_,_,_,hb⟩:=plainR_form t (tkS t (openR t st.1)).1 ((tkS t (openR t st.1)).2,st.2)
             rw [e]
             exact hb (tk_bad (openR_bad h))
         · rw [if_pos (Or.inl h)]
           exact h
theorem not_bad {b:Bool} (h:b=true→False):b=false:=by
 cases b with
 | true=>exact (h rfl).elim
 | false=>rfl
def CurN (tag:Nat) (cur:List Nat) (ps:List PN) (d0:Nat):Prop:=
 (∀k,k∈cur→k<ps.length) ∧
 (tag=0→(cur=[]∧d0=0)∨∃e,d0=e+1∧Bd (hS ps cur) e) ∧
 (tag=1→(cur=[]∧d0=0)∨(1≤d0∧Bd (hS ps cur) d0)) ∧
 (tag=2∨tag=3→d0=0) ∧
 (tag=4→∃k,cur=[k]∧Bd (hT ps k) d0)
def needN (tag r:Nat):Nat:=if tag=0 then 4*r+2 else if tag=1 then 4*r+1 else if tag=2 then 4*r else if tag=3 then 4*r-1 else r+1
def addN (tag:Nat):Nat:=if tag=0 then 2 else if tag=1 then 1 else 0
structure NodR (t:ByteArray) (tag d0:Nat) (st:RP) (r:Nat×RP):Prop where
 wf:WfP r.2.2
 ord:OrdP r.2.2
 more:∃m,r.2.2=st.2++m
 lt:r.1<r.2.2.length
 ge:st.1.1≤r.2.1.1
 fit:r.2.1.1≤t.size
 len:r.2.2.length≤st.2.length+2*(r.2.1.1-st.1.1)+addN tag
 bd:Bd (hT r.2.2 r.1) (d0+(r.2.1.1-st.1.1))
 on:tag=2∨tag=3→st.1.1<r.2.1.1
theorem NodR.push {t:ByteArray} {tag d0 d1:Nat} {st:RP} {s':RS} {ps:List PN} {x:PN} (hw:WfP ps) (ho:OrdP ps) (hm:∃m,ps=st.2++m) (hk:∀k,k∈x.kids→k<ps.length) (hx:x.kind=6→x.most = -1∨x.least≤x.most)
 (ge:st.1.1≤s'.1) (fit:s'.1≤t.size) (hl:ps.length+1≤st.2.length+2*(s'.1-st.1.1)+addN tag) (hb:Bd (hK x (hS ps x.kids)) d1) (hd:d1≤d0+(s'.1-st.1.1)) (on:tag=2∨tag=3→st.1.1<s'.1):
 NodR t tag d0 st (pushP x (s',ps)):=by
 obtain ⟨m,hm⟩:=hm
 refine ⟨hw.push hk,ho.push hx,⟨m++[x],by show ps++[x]=_;rw [hm,List.append_assoc]⟩,by simp [pushP],ge,fit,by simp [pushP];omega,?_,on⟩
 show Bd (hT (ps++[x]) ps.length) _
 rw [hT_new hw hk]
 have:=hb.more (c:=d0+(s'.1-st.1.1)-d1)
 rwa [show d1+(d0+(s'.1-st.1.1)-d1)=d0+(s'.1-st.1.1) by omega] at this
theorem CurN.snoc {tag d0:Nat} {t:ByteArray} {cur:List Nat} {st:RP} {r:Nat×RP} (hc:∀k,k∈cur→k<st.2.length) (hw:WfP st.2) (hr:NodR t tag d0 st r):
 (∀k,k∈cur++[r.1]→k<r.2.2.length)∧hS r.2.2 (cur++[r.1])=hS st.2 cur+hT r.2.2 r.1:=by
 obtain ⟨m,hm⟩:=hr.more
 refine ⟨fun k hk=>?_,?_⟩
 · rcases List.mem_append.1 hk with hk | hk
   · have:=hc k hk
     rw [hm,List.length_append];omega
   · simp at hk;subst hk;exact hr.lt
 · unfold hS
   rw [sumI_snoc]
   congr 1
   show hS r.2.2 cur=hS st.2 cur
   rw [hm]
   exact hS_app hw hc
theorem goR_nod (t:ByteArray):∀(f tag d0:Nat) (cur:List Nat) (st:RP),tag≤4→needN tag (t.size-st.1.1)≤f→st.1.2=false→WfP st.2→OrdP st.2→st.1.1≤t.size→(tag=2∨tag=3→st.1.1<t.size)→CurN tag cur st.2 d0 →
 (goR t f tag cur st).2.1.2=false→NodR t tag d0 st (goR t f tag cur st)
 | 0,tag,d0,cur,st,ht,hn,hb,hw,ho,hfit,hlt,hc,hg=>by
   exfalso
   unfold needN at hn
   repeat' split at hn
   all_goals first | omega | (rename_i h;have:=hlt (by omega);omega)
 | f+1,tag,d0,cur,st,ht,hn,hb,hw,ho,hfit,hlt,hc,hg=>by
   have ih:=fun tag d0 cur st=>goR_nod t f tag d0 cur st
   obtain ⟨hk,c0,c1,c2,c4⟩:=hc
   rw [goR] at hg ⊢
   by_cases t0:tag=0
   · subst t0
     rw [if_pos rfl] at hg ⊢
     simp only [] at hg ⊢
     simp only [needN,if_true,if_pos] at hn
     have hbb:(goR t f 1 [] st).2.1.2=false:=not_bad (fun hx=>by
      split at hg
      · have:(takeS t 124 (goR t f 1 [] st).2.1).2.2=true:=take_bad hx
        have hg:(takeS t 124 (goR t f 1 [] st).2.1).2.2=false:=hg
        rw [this] at hg;cases hg
      · rw [goR_bad t f 0 _ _ (take_bad hx)] at hg;cases hg)
     have h1:=ih 1 0 [] st (by omega) (by simp [needN];omega) hb hw ho hfit (by omega) ⟨fun k hk=>(by cases hk),by omega,fun _=>Or.inl ⟨rfl,rfl⟩,by omega,by omega⟩ hbb
     generalize goR t f 1 [] st=b at *
     obtain ⟨e1,e2⟩:=CurN.snoc hk hw h1
     obtain ⟨m1,hm1⟩:=h1.more
     have hge:=h1.ge
     have hbd:=h1.bd
     have hfb:=h1.fit
     have hlen:=h1.len
     have hlt1:=h1.lt
     have hlen:b.2.2.length≤st.2.length+2*(b.2.1.1-st.1.1)+1:=hlen
     have hB:Bd (hS b.2.2 (cur++[b.1])) (d0+(b.2.1.1-st.1.1)):=by
      rw [e2]
      rcases c0 rfl with ⟨rfl,rfl⟩ | ⟨e,rfl,he⟩
      · rw [show hS st.2 []=0 from rfl,Int.zero_add];exact hbd
      · have:=he.or hbd
        rwa [show e+(0+(b.2.1.1-st.1.1))+1=e+1+(b.2.1.1-st.1.1) by omega] at this
     by_cases hcc:pk t b.2.1.1=124
     · have et:=take_hit (t:=t) (s:=b.2.1) hcc
       have hp2:b.2.1.1<t.size:=pk_some (by omega)
       rw [et] at hg ⊢
       rw [if_neg (by rw [hbb];simp)] at hg ⊢
       have h2:=ih 0 (d0+(b.2.1.1-st.1.1)+1) (cur++[b.1]) ((b.2.1.1+1,b.2.1.2),b.2.2) (by omega) (by simp [needN];omega) hbb h1.wf h1.ord hp2 (by omega)
        ⟨e1,fun _=>Or.inr ⟨_,rfl,hB⟩,by omega,by omega,by omega⟩ hg
       generalize goR t f 0 (cur++[b.1]) ((b.2.1.1+1,b.2.1.2),b.2.2)=r at *
       obtain ⟨m2,hm2⟩:=h2.more
       have g2:=h2.ge
       have l2:=h2.len
       have b2:=h2.bd
       have l2:r.2.2.length≤b.2.2.length+2*(r.2.1.1-(b.2.1.1+1))+2:=l2
       simp only [] at g2 hm2 b2
       refine ⟨h2.wf,h2.ord,⟨m1++m2,by rw [hm2,hm1,List.append_assoc]⟩,h2.lt,by omega,h2.fit,by show _≤_+2;omega,?_,by omega⟩
       rwa [show d0+(b.2.1.1-st.1.1)+1+(r.2.1.1-(b.2.1.1+1))=d0+(r.2.1.1-st.1.1) by omega] at b2
     · have et:=take_miss (t:=t) (s:=b.2.1) hcc
       rw [et] at hg ⊢
       rw [if_pos (Or.inl rfl)] at hg ⊢
       refine NodR.push h1.wf h1.ord h1.more e1 (fun h=>absurd (show (5:Int)=6 from h) (by decide)) hge hfb (by show _≤_+2;simp only [];omega) ?_ (Nat.le_refl _) (by omega)
       exact hB
   rw [if_neg t0] at hg ⊢
   by_cases t1:tag=1
   · subst t1
     rw [if_pos rfl] at hg ⊢
     have hn:4*(t.size-st.1.1)+1≤f+1:=hn
     by_cases hmo:moreR t st.1=true
     · rw [if_pos hmo] at hg ⊢
       have hp:st.1.1<t.size:=moreR_true hmo
       have hbb:(goR t f 2 [] st).2.1.2=false:=not_bad (fun hx=>by rw [goR_bad t f 1 _ _ hx] at hg;cases hg)
       have h1:=ih 2 0 [] st (by omega) (by show 4*(t.size-st.1.1)≤f;omega) hb hw ho hfit (fun _=>hp) ⟨fun k hk=>(by cases hk),by omega,by omega,fun _=>rfl,by omega⟩ hbb
       generalize goR t f 2 [] st=b at *
       obtain ⟨e1,e2⟩:=CurN.snoc hk hw h1
       obtain ⟨m1,hm1⟩:=h1.more
       have hge:=h1.ge
       have hbd:=h1.bd
       have hfb:=h1.fit
       have hlen:=h1.len
       have hon:=h1.on (Or.inl rfl)
       simp only [addN] at hlen
       have hB:Bd (hS b.2.2 (cur++[b.1])) (d0+(b.2.1.1-st.1.1)):=by
        rw [e2]
        rcases c1 rfl with ⟨rfl,rfl⟩ | ⟨h0,he⟩
        · rw [show hS st.2 []=0 from rfl,Int.zero_add];exact hbd
        · have:=he.add hbd h0 (by omega)
          rwa [show d0+(0+(b.2.1.1-st.1.1))=d0+(b.2.1.1-st.1.1) by omega] at this
       have h2:=ih 1 (d0+(b.2.1.1-st.1.1)) (cur++[b.1]) b.2 (by omega) (by show 4*(t.size-b.2.1.1)+1≤f;omega) hbb h1.wf h1.ord hfb (by omega)
        ⟨e1,by omega,fun _=>Or.inr ⟨by omega,hB⟩,by omega,by omega⟩ hg
       generalize goR t f 1 (cur++[b.1]) b.2=r at *
       obtain ⟨m2,hm2⟩:=h2.more
       have g2:=h2.ge
       have l2:=h2.len
       have b2:=h2.bd
       simp only [addN] at l2 g2 hm2 b2
       refine ⟨h2.wf,h2.ord,⟨m1++m2,by rw [hm2,hm1,List.append_assoc]⟩,h2.lt,by omega,h2.fit,by simp only [addN];simp at l2 hlen ⊢;omega,?_,by omega⟩
       rwa [show d0+(b.2.1.1-st.1.1)+(r.2.1.1-b.2.1.1)=d0+(r.2.1.1-st.1.1) by omega] at b2
     · rw [if_neg hmo] at hg ⊢
       obtain ⟨s,ps⟩:=st
       refine NodR.push (d1:=d0) hw ho ⟨[],by simp⟩ hk (fun h=>absurd (show (4:Int)=6 from h) (by decide)) (Nat.le_refl _) hfit (by simp [addN]) ?_ (by omega) (by omega)
       show Bd (if hS ps cur<1 then 1 else hS ps cur) d0
       rcases c1 rfl with ⟨rfl,rfl⟩ | ⟨h0,he⟩
       · exact Bd.one 0
       · have:=he.1
         rw [if_neg (by simp only [] at this;omega)]
         exact he
   rw [if_neg t1] at hg ⊢
   by_cases t2:tag=2
   · subst t2
     rw [if_pos rfl] at hg ⊢
     simp only [needN] at hn
     have hp:=hlt (Or.inl rfl)
     have hd0:=c2 (Or.inl rfl)
     subst hd0
     have hbb:(goR t f 3 [] st).2.1.2=false:=not_bad (fun hx=>by rw [goR_bad t f 4 _ _ hx] at hg;cases hg)
     have h1:=ih 3 0 [] st (by omega) (by simp [needN];simp at hn;omega) hb hw ho hfit (fun _=>hp) ⟨fun k hk=>(by cases hk),by omega,by omega,fun _=>rfl,by omega⟩ hbb
     generalize goR t f 3 [] st=b at *
     obtain ⟨m1,hm1⟩:=h1.more
     have hge:=h1.ge
     have hbd:=h1.bd
     have hfb:=h1.fit
     have hlen:=h1.len
     have hlt1:=h1.lt
     have hon:=h1.on (Or.inr rfl)
     simp only [addN] at hlen
     have h2:=ih 4 (0+(b.2.1.1-st.1.1)) [b.1] b.2 (by omega) (by simp [needN];simp at hn;omega) hbb h1.wf h1.ord hfb (by omega)
      ⟨fun k hk=>by simp at hk;subst hk;exact hlt1,by omega,by omega,by omega,fun _=>⟨_,rfl,hbd⟩⟩ hg
     generalize goR t f 4 [b.1] b.2=r at *
     obtain ⟨m2,hm2⟩:=h2.more
     have g2:=h2.ge
     have l2:=h2.len
     have b2:=h2.bd
     simp only [addN] at l2 g2 hm2 b2
     refine ⟨h2.wf,h2.ord,⟨m1++m2,by rw [hm2,hm1,List.append_assoc]⟩,h2.lt,by omega,h2.fit,by simp only [addN];simp at l2 hlen ⊢;omega,?_,fun _=>by omega⟩
     rwa [show 0+(b.2.1.1-st.1.1)+(r.2.1.1-b.2.1.1)=0+(r.2.1.1-st.1.1) by omega] at b2
   rw [if_neg t2] at hg ⊢
   by_cases t3:tag=3
   · subst t3
     rw [if_pos rfl] at hg ⊢
     simp only [needN] at hn
     have hp:=hlt (Or.inr rfl)
     have hd0:=c2 (Or.inr rfl)
     subst hd0
     have eO:(openR t st.1).1=st.1.1:=openR_1 t st.1
     have eT:(tkS t (openR t st.1)).2=(st.1.1+1,(openR t st.1).2):=by unfold tkS;rw [if_pos (by rw [eO];exact hp),eO]
     by_cases h40:(tkS t (openR t st.1)).1=40
     · rw [if_pos h40] at hg ⊢
       have hbb:(goR t f 0 [] ((tkS t (openR t st.1)).2,st.2)).2.1.2=false:=not_bad (fun hx=>by rw [closeR_bad hx] at hg;cases hg)
       have hob:(tkS t (openR t st.1)).2.2=false:=not_bad (fun hx=>by rw [goR_bad t f 0 [] ((tkS t (openR t st.1)).2,st.2) hx] at hbb;cases hbb)
       have h1:=ih 0 0 [] ((tkS t (openR t st.1)).2,st.2) (by omega) (by rw [eT];simp [needN];simp at hn;omega) hob hw ho (by rw [eT];exact hp) (by omega) ⟨fun k hk=>(by cases hk),fun _=>Or.inl ⟨rfl,rfl⟩,by omega,by omega,by omega⟩ hbb
       rw [eT] at h1 hg ⊢
       generalize goR t f 0 [] ((st.1.1+1,(openR t st.1).2),st.2)=b at *
       have hge:=h1.ge
       have hbd:=h1.bd
       have hfb:=h1.fit
       have hlen:=h1.len
       simp only [addN] at hlen hge hbd
       have hcl:(takeS t 41 b.2.1).1=true:=by
        cases hx:(takeS t 41 b.2.1).1 with
        | true=>rfl
        | false=>
          exfalso
          unfold closeR at hg
          simp only [] at hg
          rw [if_neg (by rw [hx];decide)] at hg
          cases hg
       have eC:closeR t b=(b.1,((takeS t 41 b.2.1).2,b.2.2)):=by unfold closeR;rw [if_pos hcl]
       have h3:=take_gt hcl
       have h4:=fits_take (c:=41) (by omega) (show Fits t b.2.1 from hfb)
       simp only [Fits] at h4
       rw [eC]
       refine ⟨h1.wf,h1.ord,h1.more,h1.lt,by show st.1.1≤(takeS t 41 b.2.1).2.1;omega,h4,by simp only [addN];simp at hlen ⊢;omega,?_,fun _=>by show st.1.1<(takeS t 41 b.2.1).2.1;omega⟩
       have:=hbd.more (c:=(takeS t 41 b.2.1).2.1-b.2.1.1+1)
       show Bd (hT b.2.2 b.1) (0+((takeS t 41 b.2.1).2.1-st.1.1))
       rwa [show 0+(b.2.1.1-(st.1.1+1))+((takeS t 41 b.2.1).2.1-b.2.1.1+1)=0+((takeS t 41 b.2.1).2.1-st.1.1) by omega] at this
     · rw [if_neg h40] at hg ⊢
       obtain ⟨x,s',e,xk,xkd,xge,xfit,_⟩:=plainR_form t (tkS t (openR t st.1)).1 ((tkS t (openR t st.1)).2,st.2)
       rw [e]
       rw [eT] at xge xfit
       simp only [] at xge xfit
       refine NodR.push (d1:=0) hw ho ⟨[],by simp⟩ (by rw [xk];exact fun k hk=>by cases hk) (fun h=>by omega) (by omega) (xfit hp) (by simp only [addN];simp;omega) ?_ (by omega) (fun _=>by omega)
       unfold hK
       rw [if_pos xkd]
       exact Bd.one 0
   rw [if_neg t3] at hg ⊢
   obtain rfl:tag=4:=by omega
   simp only [needN] at hn
   obtain ⟨k,rfl,hkb⟩:=c4 rfl
   have hklt:=hk k (by simp)
   by_cases hs:stB t st.1 [42,43,63,123]=false
   · rw [if_pos (Or.inr hs)]
     exact ⟨hw,ho,⟨[],by simp⟩,hklt,Nat.le_refl _,hfit,by show st.2.length≤st.2.length+2*(st.1.1-st.1.1)+0;omega,by simpa using hkb,by omega⟩
   · have hs:stB t st.1 [42,43,63,123]=true:=by simpa using hs
     obtain ⟨⟨p,b⟩,ps⟩:=st
     simp only [] at hb hs hfit hn hkb hklt hw ho hg ⊢
     subst hb
     rw [if_neg (by rw [hs];simp)] at hg ⊢
     have hr:repS t (p,false)=true:=by rw [←st4];exact hs
     have hp:=repS_lt hr
     simp only [] at hp
     rcases sync_repeat hr with ⟨g1,g2⟩ | ⟨g1,g2⟩
     · exfalso
       rw [goR_bad t f 4 _ _ (show (pushP { kind:=6,kids:=[k],least:=(repR t (p,false)).1.1,most:=(repR t (p,false)).1.2 } ((repR t (p,false)).2,ps)).2.1.2=true from g2)] at hg
       cases hg
     · have hcost:=rep_cost hr g2
       have hord:=rep_order hr g2
       obtain ⟨l0,l9,m0,m9⟩:=repeat_bd t (p,false)
       have hfit2:=fits_repeat (t:=t) (s:=(p,false)) (Nat.le_of_lt hp)
       rw [←g1] at hg ⊢
       generalize hR:repeatS t (p,false)=R at *
       obtain ⟨⟨least,most⟩,⟨p2,b2⟩⟩:=R
       simp only [Fits] at g2 hcost l0 l9 m0 m9 hfit2 hord hg ⊢
       subst g2
       obtain ⟨n1,n9⟩:=times_bd (a:=least) (b:=most) l9 m9
       have hkk:∀j,j∈[k]→j<ps.length:=fun j hj=>by simp at hj;subst hj;exact hklt
       have hpp:p+1≤p2:=by omega
       have hT1:hT (ps++[{ kind:=6,kids:=[k],least:=least,most:=most }]) ps.length=hT ps k*timesS least most:=by
        rw [hT_new hw hkk]
        show (hT ps k+0)*timesS least most=_
        rw [Int.add_zero]
       have hbd:Bd (hT ps k*timesS least most) (d0+(p2-p)):=by
        rcases hcost with ⟨k1,k2⟩ | k2
        · rw [k1,Int.mul_one]
          exact hkb.more
        · have:=(hkb.mul (Bd.nine n1 n9)).more (c:=p2-(p+3))
          rwa [show d0+3+(p2-(p+3))=d0+(p2-p) by omega] at this
       have h2:=ih 4 (d0+(p2-p)) [ps.length] ((p2,false),ps++[({ kind:=6,kids:=[k],least:=least,most:=most }:PN)]) (by omega) (by simp [needN];simp at hn;omega) rfl (WfP.push hw hkk) (ho.push (fun _=>hord)) hfit2 (by omega)
        ⟨fun j hj=>by simp at hj;subst hj;simp,by omega,by omega,by omega,fun _=>⟨_,rfl,by rw [hT1];exact hbd⟩⟩ hg
       have e2:goR t f 4 [(pushP { kind:=6,kids:=[k],least:=least,most:=most } ((p2,false),ps)).1] (pushP { kind:=6,kids:=[k],least:=least,most:=most } ((p2,false),ps)).2=goR t f 4 [ps.length] ((p2,false),ps++[{ kind:=6,kids:=[k],least:=least,most:=most }]):=rfl
       rw [e2]
       generalize goR t f 4 [ps.length] ((p2,false),ps++[{ kind:=6,kids:=[k],least:=least,most:=most }])=r at *
       obtain ⟨m2,hm2⟩:=h2.more
       have gg:=h2.ge
       have l2:=h2.len
       have b2:=h2.bd
       simp only [addN] at l2 gg hm2 b2
       refine ⟨h2.wf,h2.ord,⟨_ :: m2,by rw [hm2,List.append_assoc];rfl⟩,h2.lt,by show p≤_;omega,h2.fit,by simp only [addN];simp at l2 ⊢;omega,?_,by omega⟩
       show Bd _ (d0+(r.2.1.1-p))
       rwa [show d0+(p2-p)+(r.2.1.1-p2)=d0+(r.2.1.1-p) by omega] at b2
theorem EvR.nod {t:ByteArray} {q:Nat×RP} (h:EvR t 0 [] rp0 q) (hb:q.2.1.2=false):NodR t 0 0 rp0 q:=by
 obtain ⟨f0,hf⟩:=h
 have e:=hf (f0+(4*t.size+2)) (by omega)
 have h:=goR_nod t (f0+(4*t.size+2)) 0 0 [] rp0 (by omega) (by show 4*(t.size-0)+2≤_;omega) rfl (fun i p hp=>by simp [rp0] at hp) (fun j p hp=>by simp [rp0] at hp) (Nat.zero_le _) (by omega)
  ⟨fun k hk=>(by cases hk),fun _=>Or.inl ⟨rfl,rfl⟩,by omega,by omega,by omega⟩ (by rw [e];exact hb)
 rwa [e] at h
end Go.Proofs.YtgifhgnccmnbiabGreat
namespace Go.Proofs.YtgifhgnccmnbiabGreat
open Go.RowKit Go.IntWalk
theorem T_at {ps:List PN} (hw:WfP ps) {j:Nat} {p:PN} (hp:ps[j]?=some p):T ps j=sizeK p (sumT ps p.kids):=by
 unfold T
 rw [sizeG,hp]
 simp only []
 congr 1
 exact foldl_same _ _ (fun k hk=>sizeG_more ps hw _ _ k (hw j p hp k hk) (Nat.lt_succ_self _))
theorem sum_same {ps:List PN} {B:Int} (hB:B≤4611686018427387904):∀(l:List Nat) (n:Int),0≤n→n+hS ps l≤B→(∀k,k∈l→1≤hT ps k∧(hT ps k≤B→T ps k=hT ps k)) →
 l.foldl (fun n k=>wrap64 (n+T ps k)) n=n+hS ps l
 | [],n,_,_,_=>by show n=n+0;omega
 | k :: l,n,h0,h1,h=>by
   have hs:hS ps (k :: l)=hT ps k+hS ps l:=rfl
   have hpos:∀l:List Nat,(∀k,k∈l→1≤hT ps k∧(hT ps k≤B→T ps k=hT ps k))→0≤hS ps l:=by
    intro l
    induction l with
    | nil=>intro _;exact Int.le_refl _
    | cons x r ih=>
      intro hh
      have a:=(hh x (by simp)).1
      have b:=ih (fun k hk=>hh k (by simp [hk]))
      show 0≤hT ps x+hS ps r
      omega
   have hl:=hpos l (fun j hj=>h j (by simp [hj]))
   obtain ⟨k1,k2⟩:=h k (by simp)
   rw [hs] at h1 ⊢
   rw [List.foldl_cons,k2 (by omega),wrap64_in _ (by omega),sum_same hB l _ (by omega) (by omega) (fun j hj=>h j (by simp [hj]))]
   omega
theorem hS_pos {ps:List PN}:∀l:List Nat,(∀k,k∈l→1≤hT ps k)→(l.length:Int)≤hS ps l
 | [],_=>Int.le_refl _
 | k :: l,h=>by
   have a:=h k (by simp)
   have b:=hS_pos l (fun j hj=>h j (by simp [hj]))
   show ((l.length+1:Nat):Int)≤hT ps k+hS ps l
   omega
theorem true_size {ps:List PN} (hw:WfP ps) (h5:Kids5 ps) {j:Nat} (h:GoodT ps j):1≤hT ps j∧(hT ps j≤4611686018427387904→T ps j=hT ps j):=by
 induction h with
 | @leaf j p hp hk=>
   rw [hT_at hw hp,T_at hw hp]
   unfold hK sizeK
   rw [if_pos hk,if_pos hk]
   exact ⟨Int.le_refl _,fun _=>rfl⟩
 | @many j p hp hk hkids ih=>
   have hsp:=hS_pos p.kids (fun k hk=>(ih k hk).1)
   rw [hT_at hw hp,T_at hw hp]
   have key:hS ps p.kids≤4611686018427387904→sumT ps p.kids=hS ps p.kids:=fun hle=>by
    have:=sum_same (ps:=ps) (B:=4611686018427387904) (Int.le_refl _) p.kids 0 (Int.le_refl _) (by omega) ih
    unfold sumT
    rw [this,Int.zero_add]
   rcases hk with hk | hk
   · have e1:∀n,hK p n=if n<1 then 1 else n:=fun n=>by unfold hK;rw [if_neg (by omega),if_pos hk]
     have e2:∀n,sizeK p n=if n<1 then 1 else n:=fun n=>by unfold sizeK;rw [if_neg (by omega),if_pos hk]
     rw [e1,e2]
     refine ⟨by split <;> omega,fun hle=>?_⟩
     have:hS ps p.kids≤4611686018427387904:=by
      split at hle <;> omega
     rw [key this]
   · have e1:∀n,hK p n=n:=fun n=>by unfold hK;rw [if_neg (by omega),if_neg (by omega),if_neg (by omega)]
     have e2:∀n,sizeK p n=n:=fun n=>by unfold sizeK;rw [if_neg (by omega),if_neg (by omega),if_neg (by omega)]
     rw [e1,e2]
     have hne:=h5 j p hp hk
     have:1≤p.kids.length:=by
      cases hl:p.kids with
      | nil=>exact absurd hl hne
      | cons x r=>simp
     exact ⟨by omega,key⟩
 | @times j k p hp hk hkids hg l0 l9 m0 m9 ih=>
   obtain ⟨n1,n9⟩:=times_bd (a:=p.least) (b:=p.most) l9 m9
   rw [hT_at hw hp,T_at hw hp]
   have e1:hK p (hS ps p.kids)=hT ps k*timesS p.least p.most:=by
    unfold hK
    rw [if_neg (by omega),if_neg (by omega),if_pos hk,hkids]
    show (hT ps k+0)*_=_
    rw [Int.add_zero]
   rw [e1]
   generalize hc:timesS p.least p.most=c at *
   have h1:hT ps k≤hT ps k*c:=by
    have:=Int.mul_le_mul_of_nonneg_left n1 (show (0:Int)≤hT ps k by omega)
    omega
   refine ⟨by omega,fun hle=>?_⟩
   have hTk:=ih.2 (by omega)
   have hs:sumT ps p.kids=hT ps k:=by
    rw [hkids]
    show wrap64 (0+T ps k)=_
    rw [Int.zero_add,hTk]
    exact wrap64_in _ (by omega)
   rw [times_eq hk m0,hs,hc]
   split
   · exact wrap64_in _ (by omega)
   · have:c=1:=by omega
     rw [this,Int.mul_one]
theorem row_len {f:Nat→Nat→List DN→DSt} {B:Nat→Int}:∀(l:List Nat) (s:DSt),(∀k,k∈l→∀nx N,((f k nx N).2.length:Int)≤N.length+B k)→((rowD f l s).2.length:Int)≤s.2.length+sumI B l
 | [],s,_=>by show (s.2.length:Int)≤s.2.length+0;omega
 | k :: l,s,h=>by
   have a:=row_len l s (fun j hj=>h j (by simp [hj]))
   have b:=h k (by simp) (rowD f l s).1 (rowD f l s).2
   show ((f k (rowD f l s).1 (rowD f l s).2).2.length:Int)≤s.2.length+(B k+sumI B l)
   omega
theorem alt_len {f:Nat→Nat→List DN→DSt} {B:Nat→Int} {nx:Nat}:∀(l:List Nat) (s:DSt),(∀k,k∈l→∀nx N,((f k nx N).2.length:Int)≤N.length+B k)→((l.foldl (altS f nx) s).2.length:Int)≤s.2.length+sumI B l+l.length
 | [],s,_=>by show (s.2.length:Int)≤s.2.length+0+((0:Nat):Int);omega
 | k :: l,s,h=>by
   have b:=h k (by simp) nx s.2
   have a:=alt_len (nx:=nx) l (altS f nx s k) (fun j hj=>h j (by simp [hj]))
   have e:(altS f nx s k).2.length=(f k nx s.2).2.length+1:=by unfold altS;simp
   rw [List.foldl_cons]
   show _≤(s.2.length:Int)+(B k+sumI B l)+((l.length+1:Nat):Int)
   rw [e] at a
   omega
theorem many_len {g:Nat→List DN→DSt} {a:Int} (h:∀nx N,((g nx N).2.length:Int)≤N.length+a) (s:DSt):∀c:Nat,((manyD g c s).2.length:Int)≤s.2.length+c*a
 | 0=>by show (s.2.length:Int)≤s.2.length+((0:Nat):Int)*a;simp
 | c+1=>by
   have i:=many_len h s c
   have b:=h (manyD g c s).1 (manyD g c s).2
   show ((g (manyD g c s).1 (manyD g c s).2).2.length:Int)≤s.2.length+((c+1:Nat):Int)*a
   have e:((c+1:Nat):Int)*a=c*a+a:=by rw [Int.natCast_add,Int.add_mul];simp
   omega
theorem opt_len {g:Nat→List DN→DSt} {a:Int} {nx:Nat} (h:∀nx N,((g nx N).2.length:Int)≤N.length+a) (s:DSt):∀c:Nat,((optD g nx c s).2.length:Int)≤s.2.length+c*(a+1)
 | 0=>by show (s.2.length:Int)≤s.2.length+((0:Nat):Int)*(a+1);simp
 | c+1=>by
   have i:=opt_len (nx:=nx) h s c
   have b:=h (optD g nx c s).1 (optD g nx c s).2
   have e0:(optD g nx (c+1) s).2.length=(g (optD g nx c s).1 (optD g nx c s).2).2.length+1:=by
    show (optS g nx (optD g nx c s)).2.length=_
    unfold optS;simp
   rw [e0]
   have e:((c+1:Nat):Int)*(a+1)=c*(a+1)+(a+1):=by rw [Int.natCast_add,Int.add_mul];simp
   omega
theorem loopD_len {g:Nat→List DN→DSt} {a:Int} {nx:Nat} (h:∀nx N,((g nx N).2.length:Int)≤N.length+a) (N:List DN):((loopD g nx N).2.length:Int)≤N.length+a+1:=by
 have b:=h N.length (N++[forkN nx nx])
 unfold loopD
 simp only [List.length_set]
 simp only [List.length_append,List.length_cons,List.length_nil] at b
 omega
theorem times_len {g:Nat→List DN→DSt} {a x:Int} (h:∀nx N,((g nx N).2.length:Int)≤N.length+a) (ha:0≤a) (hx:1≤x) {least most:Int} (l0:0≤least) (m0:-1≤most) (ho:most = -1∨least≤most) (nx:Nat) (N:List DN):
 ((timesD g least most nx N).2.length:Int)≤N.length+timesS least most*(a+x):=by
 have hax:0≤a+x:=by omega
 unfold timesD
 by_cases hm:most<0
 · have hm1:most = -1:=by omega
   have ht:timesS least most=if least<1 then 1 else least:=by unfold timesS;rw [if_pos hm1]
   rw [if_pos hm,ht]
   have b:=loopD_len (nx:=nx) h N
   by_cases hl:0<least
   · rw [if_pos hl,if_neg (by omega)]
     have c:=many_len h (loopD g nx N) (least.toNat-1)
     have e:(((least.toNat-1:Nat)):Int)=least-1:=by omega
     rw [e] at c
     have e2:(least-1)*a=least*a-a:=by rw [Int.sub_mul,Int.one_mul]
     have e3:least*(a+x)=least*a+least*x:=Int.mul_add _ _ _
     have e4:least*1≤least*x:=Int.mul_le_mul_of_nonneg_left hx l0
     omega
   · rw [if_neg hl,if_pos (by omega)]
     show ((loopD g nx N).2.length:Int)≤_
     omega
 · have ht:timesS least most=if most<1 then 1 else most:=by unfold timesS;rw [if_neg (show ¬most = -1 by omega)]
   rw [if_neg hm,ht]
   have c:=opt_len (nx:=nx) h (nx,N) (most-least).toNat
   have d:=many_len h (optD g nx (most-least).toNat (nx,N)) least.toNat
   have e1:(((most-least).toNat:Nat):Int)=most-least:=by omega
   have e2:((least.toNat:Nat):Int)=least:=by omega
   rw [e1] at c
   rw [e2] at d
   simp only [] at c
   have e3:(most-least)*(a+1)=most*a+most-least*a-least:=by rw [Int.sub_mul,Int.mul_add,Int.mul_add,Int.mul_one,Int.mul_one];omega
   have key:((manyD g least.toNat (optD g nx (most-least).toNat (nx,N))).2.length:Int)≤N.length+(most*a+most):=by omega
   by_cases h1:most<1
   · have:most=0:=by omega
     subst this
     rw [if_pos h1]
     simp only [Int.zero_mul] at key
     omega
   · rw [if_neg h1]
     have e5:most*(a+x)=most*a+most*x:=Int.mul_add _ _ _
     have e6:most*1≤most*x:=Int.mul_le_mul_of_nonneg_left hx (by omega)
     omega
theorem sum_mul {ps:List PN} {j:Nat}:∀l:List Nat,(∀k,k∈l→k<j∧1≤hT ps k)→sumI (fun k=>hT ps k*((k:Int)+1)) l≤hS ps l*j
 | [],_=>by show (0:Int)≤0*j;simp
 | k :: l,h=>by
   obtain ⟨a,b⟩:=h k (by simp)
   have c:=sum_mul (j:=j) l (fun i hi=>h i (by simp [hi]))
   show hT ps k*((k:Int)+1)+sumI _ l≤(hT ps k+hS ps l)*j
   rw [Int.add_mul]
   have:=Int.mul_le_mul_of_nonneg_left (show (k:Int)+1≤j by omega) (show (0:Int)≤hT ps k by omega)
   omega
theorem part_len {ps:List PN} (hw:WfP ps) (h5:Kids5 ps) (ho:OrdP ps) {j:Nat} (h:GoodT ps j):∀f,j<f→∀nx N,((partD ps f j nx N).2.length:Int)≤N.length+hT ps j*((j:Int)+1):=by
 induction h with
 | @leaf j p hp hk=>
   intro f hf nx N
   obtain ⟨g,rfl⟩:∃g,f=g+1:=⟨f-1,by omega⟩
   rw [partD_some hp,if_neg (by omega),if_neg (by omega),if_neg (by omega),hT_at hw hp]
   unfold hK
   rw [if_pos hk]
   simp
   omega
 | @many j p hp hk hkids ih=>
   intro f hf nx N
   obtain ⟨g,rfl⟩:∃g,f=g+1:=⟨f-1,by omega⟩
   have hpos:=fun k hk=>(true_size hw h5 (hkids k hk)).1
   have hsp:=hS_pos p.kids hpos
   have hlt:=hw j p hp
   have hB:∀k,k∈p.kids→∀nx N,((partD ps g k nx N).2.length:Int)≤N.length+(fun k=>hT ps k*((k:Int)+1)) k:=fun k hkk nx N=>ih k hkk g (by have:=hlt k hkk;omega) nx N
   have hsm:=sum_mul (ps:=ps) (j:=j) p.kids (fun k hk=>⟨hlt k hk,hpos k hk⟩)
   have hs0:0≤hS ps p.kids:=by omega
   have e0:hS ps p.kids*((j:Int)+1)=hS ps p.kids*j+hS ps p.kids:=by rw [Int.mul_add,Int.mul_one]
   rw [partD_some hp,hT_at hw hp]
   rcases hk with hk | hk
   · have e1:hK p (hS ps p.kids)=if hS ps p.kids<1 then 1 else hS ps p.kids:=by unfold hK;rw [if_neg (by omega),if_pos hk]
     rw [if_pos hk,e1]
     have:=row_len p.kids (nx,N) hB
     simp only [] at this
     split
     · have hz:hS ps p.kids=0:=by omega
       rw [hz,Int.zero_mul] at hsm
       omega
     · omega
   · have e1:hK p (hS ps p.kids)=hS ps p.kids:=by unfold hK;rw [if_neg (by omega),if_neg (by omega),if_neg (by omega)]
     rw [if_neg (by omega),if_pos hk,e1]
     cases hl:p.kids with
     | nil=>exact absurd hl (h5 j p hp hk)
     | cons k l=>
       rw [hl] at hB hsm hsp e0
       have a:=hB k (by simp) nx N
       have b:=alt_len (nx:=nx) l (partD ps g k nx N) (fun i hi=>hB i (by simp [hi]))
       show ((l.foldl (altS (partD ps g) nx) (partD ps g k nx N)).2.length:Int)≤_
       have e2:sumI (fun k=>hT ps k*((k:Int)+1)) (k :: l)=hT ps k*((k:Int)+1)+sumI (fun k=>hT ps k*((k:Int)+1)) l:=rfl
       simp only [] at a
       simp only [List.length_cons] at hsp
       omega
 | @times j k p hp hk hkids hg l0 l9 m0 m9 ih=>
   intro f hf nx N
   obtain ⟨g,rfl⟩:∃g,f=g+1:=⟨f-1,by omega⟩
   have hlt:=hw j p hp k (by rw [hkids];simp)
   have h1:=(true_size hw h5 hg).1
   obtain ⟨n1,n9⟩:=times_bd (a:=p.least) (b:=p.most) l9 m9
   rw [partD_some hp,if_neg (by omega),if_neg (by omega),if_pos hk,hT_at hw hp]
   have e1:hK p (hS ps p.kids)=hT ps k*timesS p.least p.most:=by
    unfold hK
    rw [if_neg (by omega),if_neg (by omega),if_pos hk,hkids]
    show (hT ps k+0)*_=_
    rw [Int.add_zero]
   have ek:p.kids.headD 0=k:=by rw [hkids];rfl
   rw [e1,ek]
   have hm:hT ps k*((k:Int)+1)≤hT ps k*j:=Int.mul_le_mul_of_nonneg_left (by omega) (by omega)
   have h0:0≤hT ps k*((k:Int)+1):=Int.mul_nonneg (by omega) (by omega)
   have b:=times_len (g:=partD ps g k) (a:=hT ps k*j) (x:=hT ps k) (fun nx N=>by have:=ih g (by omega) nx N;omega) (by omega) h1 l0 m0 (ho j p hp hk) nx N
   have e2:hT ps k*timesS p.least p.most*((j:Int)+1)=timesS p.least p.most*(hT ps k*j+hT ps k):=by
    rw [Int.mul_comm (hT ps k) (timesS p.least p.most),Int.mul_assoc,Int.mul_add,Int.mul_one]
   rw [e2]
   exact b
theorem nod_ok (p:ByteArray):NodOk p:=fun r hr=>by
 obtain ⟨r',q,h1,hq,_⟩:=pat_any hr.small (p.size+1) 0 [] [] (fun i p hp=>by simp at hp) (Nat.zero_le _) (by omega)
 have hq:EvR p 0 [] rp0 q:=hq
 obtain ⟨s1,s2,_,_⟩:=check_same hr.small hr.ev hq
 have hnb:¬BadT p q:=fun hc=>hr.good (s1.2 hc)
 have hgood:GoodT q.2.2 q.1:=good_of hr.small q hq hnb
 have hb:q.2.1.2=false:=not_bad (fun h=>hnb (Or.inl h))
 have N:=hq.nod hb
 have hsm:=hr.small
 have hsz:=hr.size
 have h2:sizeAt r.2.2 r.1=cap61 (T q.2.2 q.1):=s2 hnb
 have hfit:=N.fit
 have hlen:=N.len
 have hlt:=N.lt
 simp only [addN,rp0,List.length_nil] at hlen
 obtain ⟨t1,t2⟩:=true_size N.wf hq.kids5 hgood
 have hbs:=N.bd.small (by simp only [rp0];omega)
 rw [t2 (by omega)] at h2
 have h60:hT q.2.2 q.1≤60:=by
  unfold cap61 at h2
  split at h2 <;> omega
 have hl:=part_len N.wf hq.kids5 N.ord hgood (q.1+1) (by omega) 0 [{ kind:=8 }]
 have hm:=Int.mul_le_mul_of_nonneg_right h60 (show (0:Int)≤(q.1:Int)+1 by omega)
 refine ⟨q,hq,hgood,?_⟩
 unfold newD
 simp at hlen
 simp only [List.length_cons,List.length_nil] at hl
 omega
theorem counts_law (inv fold whole num:Bool) (mx:Int) (p f:ByteArray) (w:World) (hm1:-9223372036854775808≤mx) (hm2:mx≤9223372036854775807) (hp:p.size≤maxLen) (hf:f.size≤maxLen):
 Calls Tryz.prog 3 #[.agg #[.bool inv,.bool fold,.bool whole,.bool num,.int .i64 mx],.string p,.string f] w fun e w'=>e=.returned (.bool true)∧Below w.heap.size w w':=by
 obtain ⟨n,x,hc,hr⟩:=count_both (nod_ok p) hp hf inv fold whole num hm2
 have hcH:Hid (∀w,Calls _ _ _ w _):=hc
 have hrH:Hid (∀w,Calls _ _ _ w _):=hr
 have h0:Hid (∀o,Below w.heap.size w (w.alloc o)):=fun o=>(Below.refl _ _).alloc (Nat.le_refl _) o
 clear hc hr
 go_enter Tryz.func3,Tryz.ntmps3
 go_wp2_with fail
 refine (hcH.out _).mono ?_
 rintro e w1 ⟨rfl,b1⟩
 have B1:Hid (Blk w1 w.heap.size #[.bool inv,.bool fold,.bool whole,.bool num,.int .i64 mx] 23):=Blk.kept (Blk.new w _ _) (below_kept b1) (by simp)
 have b1:Hid (Below w.heap.size w w1):=(h0.out _).trans (b1.mono (by simp))
 clear h0 hcH
 obtain ⟨o0,o1,o2,o3,o4,ol⟩:=all5 B1.out
 go_wp2_with fail
 refine (hrH.out _).mono ?_
 rintro e w2 ⟨rfl,b2⟩
 have b2:Hid (Below w.heap.size w w2):=b1.out.trans (b2.mono b1.out.size)
 clear b1 B1 o0 o1 o2 o3 o4 ol hrH
 go_wp2
 go_ret
 exact ⟨rfl,b2.out⟩
end Go.Proofs.YtgifhgnccmnbiabGreat
