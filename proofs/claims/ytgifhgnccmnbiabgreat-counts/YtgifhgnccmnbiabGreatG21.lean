/- Both readers side by side: whole patterns, and what they match. No walk in it. -/
import Derived.Test.YtgifhgnccmnbiabGreatG20
import Derived.Test.YtgifhgnccmnbiabGreatG04
set_option linter.unusedVariables false
set_option linter.unusedSimpArgs false
set_option maxHeartbeats 4000000
set_option maxRecDepth 100000
namespace Go.Proofs.YtgifhgnccmnbiabGreat
open Go.RowKit Go.IntWalk
def Sz (ns:List AN) (i:Nat) (ps:List PN) (j d:Nat):Prop:=i<ns.length∧j<ps.length∧sizeAt ns i=cap61 (T ps j)∧Bd (T ps j) d∧Same ns i ps j
structure PO (t:ByteArray) (p:Nat) (ns:List AN) (ps:List PN) (r:Nat×PS) (q:Nat×RP):Prop where
 sync:Sync t r.2.1 q.2.1
 en:∃more,r.2.2=ns++more
 ep:∃more,q.2.2=ps++more
 wf:WfP q.2.2
 ge:p≤q.2.1.1
 fit:q.2.1.1≤t.size
 jdx:q.1<q.2.2.length
 sz:q.2.1.2=false→Sz r.2.2 r.1 q.2.2 q.1 (q.2.1.1-p)
theorem leaf_po {t:ByteArray} {p:Nat} {ns:List AN} {ps:List PN} {n:AN} {x:PN} {a b:RS} (hw:WfP ps) (hs:Sync t a b) (hn:n.size=1) (hk:x.kids=[]) (hx:sizeK x 0=1) (h1:p≤b.1) (h2:b.1≤t.size) (hx2:b.2=false→LeafTie n x):
 PO t p ns ps (addS n (a,ns)) (pushP x (b,ps)):=by
 have hkk:∀k,k∈x.kids→k<ps.length:=fun k hk'=>by rw [hk] at hk';cases hk'
 refine ⟨hs,⟨_,rfl⟩,⟨_,rfl⟩,hw.push hkk,h1,h2,by simp [pushP],fun hb2=>⟨by simp [addS],by simp [pushP],?_,?_,Same.leaf (hx2 hb2)⟩⟩
 · show sizeAt (ns++[capN n]) ns.length=cap61 (T (ps++[x]) ps.length)
   rw [sizeAt_new,T_new hw hkk,hk,hn]
   show _=cap61 (sizeK x 0)
   rw [hx]
 · show Bd (T (ps++[x]) ps.length) _
   rw [T_new hw hkk,hk]
   show Bd (sizeK x 0) _
   rw [hx]
   exact Bd.one _
theorem sync_good {t:ByteArray} {a b:RS} (h:Sync t a b) (hb:b.2=false):a=b:=by
 rcases h with ⟨_,h⟩ | ⟨h,_⟩
 · rw [hb] at h;cases h
 · exact h
theorem sync_bad {t:ByteArray} {a b:RS} (h:Sync t a b) (hb:b.2=true):a=(t.size,true):=by
 rcases h with ⟨h,_⟩ | ⟨h,h2⟩
 · exact h
 · rw [h,hb] at h2;cases h2
theorem Sync.fail {t:ByteArray} {b:RS} (hb:b.2=true):Sync t (failS t) b:=Or.inl ⟨rfl,hb⟩
theorem take_le {t:ByteArray} {c:Int} {s:RS} (hc:0≤c) (h:s.1≤t.size):(takeS t c s).2.1≤t.size:=fits_take (s:=s) hc h
theorem close_po {t:ByteArray} {p:Nat} {ns:List AN} {ps:List PN} {r:Nat×PS} {q:Nat×RP} (h:PO t (p+1) ns ps r q) (hp:p<t.size):
 PO t p ns ps (closeS t r) (closeR t q)∧((closeR t q).2.1.2=false→p<(closeR t q).2.1.1):=by
 have hge:=h.ge
 have hg2:=take_ge (t:=t) (c:=41) (s:=q.2.1)
 have hl2:=take_le (c:=41) (by omega) h.fit
 have hpos:(closeR t q).2.1.1=(takeS t 41 q.2.1).2.1:=by unfold closeR;simp only [];split <;> rfl
 cases hb:q.2.1.2 with
 | true=>
   have e1:=sync_bad h.sync hb
   have hbad:(closeR t q).2.1.2=true:=by unfold closeR;simp only [];split;exact take_bad hb;rfl
   refine ⟨⟨Or.inl ⟨?_,hbad⟩,h.en,h.ep,h.wf,by rw [hpos];omega,by rw [hpos];exact hl2,h.jdx,fun hc=>by rw [hbad] at hc;cases hc⟩,fun hc=>by rw [hbad] at hc;cases hc⟩
   unfold closeS
   simp only []
   rw [e1,take_miss (s:=(t.size,true)) (by rw [pk_ge (by omega)];decide)]
   rfl
 | false=>
   have e1:=sync_good h.sync hb
   have hsz:=h.sz hb
   by_cases hc:pk t q.2.1.1=41
   · have et:=take_hit (t:=t) (s:=q.2.1) hc
     have eS:closeS t r=(r.1,((q.2.1.1+1,q.2.1.2),r.2.2)):=by unfold closeS;rw [e1,et];rfl
     have eR:closeR t q=(q.1,((q.2.1.1+1,q.2.1.2),q.2.2)):=by unfold closeR;rw [et];rfl
     rw [et] at hl2
     rw [eS,eR]
     refine ⟨⟨Or.inr ⟨rfl,hb⟩,h.en,h.ep,h.wf,by simp only [];omega,hl2,h.jdx,fun _=>⟨hsz.1,hsz.2.1,hsz.2.2.1,?_,hsz.2.2.2.2⟩⟩,fun _=>by simp only [];omega⟩
     have:=hsz.2.2.2.1.more (c:=2)
     simp only []
     rwa [show q.2.1.1-(p+1)+2=q.2.1.1+1-p by omega] at this
   · have et:=take_miss (t:=t) (s:=q.2.1) hc
     have eS:closeS t r=(r.1,(failS t,r.2.2)):=by unfold closeS;rw [e1,et];rfl
     have eR:closeR t q=(q.1,(markS q.2.1,q.2.2)):=by unfold closeR;rw [et];rfl
     rw [eS,eR]
     exact ⟨⟨Sync.fail rfl,h.en,h.ep,h.wf,by simp only [markS];omega,h.fit,h.jdx,fun hc=>by cases hc⟩,fun hc=>by cases hc⟩
def PatS (t:ByteArray) (m:Nat):Prop:=
 ∀(p:Nat) (ns:List AN) (ps:List PN),WfP ps→p≤t.size→t.size-p<m→∃r q,Ev t 0 0 ((p,false),ns) r∧EvR t 0 [] ((p,false),ps) q∧PO t p ns ps r q
theorem st4 {t:ByteArray} {s:RS}:stB t s [42,43,63,123]=repS t s:=by
 simp only [stB,repS,List.any_cons,List.any_nil,Bool.or_false,Bool.or_assoc]
 rfl
theorem kindOne {x:PN} (h:x.kind=1∨x.kind=2∨x.kind=3) (n:Int):sizeK x n=1:=if_pos h
theorem atom_sync {t:ByteArray} {m p:Nat} {ns:List AN} {ps:List PN} (H:PatS t m) (hw:WfP ps) (hp:p<t.size) (h124:pk t p≠124) (h41:pk t p≠41) (hm:t.size-p≤m):
 ∃r q,Ev t 3 0 ((p,false),ns) r∧EvR t 3 [] ((p,false),ps) q∧PO t p ns ps r q∧(q.2.1.2=false→p<q.2.1.1):=by
 have eN:=next_lt (s:=(p,false)) hp
 by_cases hr:repS t (p,false)=true
 · have hr2:=hr
   simp only [repS,Bool.or_eq_true,beq_iff_eq] at hr2
   have eO:openR t (p,false)=(p,true):=by unfold openR;rw [st4];exact if_pos hr
   have eT:tkS t (openR t (p,false))=(pk t p,(p+1,true)):=by rw [eO];exact tk_lt (s:=(p,true)) hp
   have e1:=Ev.plain (t:=t) (st:=((p,false),ns)) (by rw [eN];simp only [];omega) (by rw [eN];simp only [];omega)
   have e2:=EvR.plain (t:=t) (st:=((p,false),ps)) (by rw [eT];simp only [];omega)
   rw [eN] at e1
   rw [eT] at e2
   have p1:plainS t (pk t p) ((p+1,false),ns)=addS { kind:=1,its:=[(pk t p,pk t p)],size:=1 } (failS t,ns):=by
    unfold plainS
    rw [if_neg (by omega),if_neg (by omega),if_neg (by omega),if_neg (by omega),if_pos (by omega)]
    rfl
   have p2:plainR t (pk t p) ((p+1,true),ps)=pushP { kind:=1,ins:=one (pk t p) } ((p+1,true),ps):=by
    unfold plainR
    rw [if_neg (by omega),if_neg (by omega),if_neg (by omega),if_neg (by omega),if_neg (by omega)]
   simp only [] at e1 e2
   rw [p1] at e1
   rw [p2] at e2
   exact ⟨_,_,e1,e2,leaf_po hw (Sync.fail rfl) rfl rfl (kindOne (Or.inl rfl) 0) (by simp only [];omega) hp (fun h=>by cases h),fun hc=>by cases hc⟩
 have eO:openR t (p,false)=(p,false):=by unfold openR;rw [st4];exact if_neg hr
 have eT:tkS t (openR t (p,false))=(pk t p,(p+1,false)):=by rw [eO];exact tk_lt (s:=(p,false)) hp
 have hr3:pk t p≠42∧pk t p≠43∧pk t p≠63∧pk t p≠123:=by
  simp only [repS,Bool.or_eq_true,beq_iff_eq] at hr;omega
 by_cases c40:pk t p=40
 · obtain ⟨r,q,hr1,hq1,po⟩:=H (p+1) ns ps hw hp (by omega)
   have e1:=Ev.group (t:=t) (st:=((p,false),ns)) (r1:=r) (by rw [eN];exact c40) (by rw [eN];exact hr1)
   have e2:=EvR.group (t:=t) (st:=((p,false),ps)) (r1:=q) (by rw [eT];exact c40) (by rw [eT];exact hq1)
   obtain ⟨h1,h2⟩:=close_po po hp
   exact ⟨_,_,e1,e2,h1,h2⟩
 have e2:=EvR.plain (t:=t) (st:=((p,false),ps)) (by rw [eT];exact c40)
 rw [eT] at e2
 simp only [] at e2
 by_cases c91:pk t p=91
 · have e1:=Ev.list (t:=t) (st:=((p,false),ns)) (by rw [eN];exact c91)
   rw [eN] at e1
   simp only [] at e1
   have p1:listS t ((p+1,false),ns)=addS { kind:=1,its:=(itemsS t (takeS t 94 (p+1,false)).2 []).1,neg:=(takeS t 94 (p+1,false)).1,size:=1 } (listOut t (itemsS t (takeS t 94 (p+1,false)).2 []),ns):=rfl
   have p2:plainR t (pk t p) ((p+1,false),ps)=pushP { kind:=1,ins:=(itemsR t (takeS t 94 (p+1,false)).2 (fun _=>false)).2,neg:=(takeS t 94 (p+1,false)).1 } ((itemsR t (takeS t 94 (p+1,false)).2 (fun _=>false)).1,ps):=by unfold plainR;rw [if_pos c91]
   rw [p1] at e1
   rw [p2] at e2
   have htk:∃p1,(takeS t 94 (p+1,false)).2=(p1,false)∧p+1≤p1∧p1≤t.size:=by
    by_cases hc:pk t (p+1)=94
    · refine ⟨p+2,by rw [take_hit (s:=(p+1,false)) hc],by omega,pk_some (by omega)⟩
    · exact ⟨p+1,by rw [take_miss (s:=(p+1,false)) hc],Nat.le_refl _,hp⟩
   obtain ⟨p1',hp1,hp2,hp3⟩:=htk
   have hs:=sync_items (t:=t) (t.size-p1') p1' [] (fun _=>false) (Nat.le_refl _) hp3 (Or.inl rfl)
   rw [hp1] at e1 e2
   have hge:=itemsR_ge (t:=t) (s:=(p1',false)) (f:=fun _=>false)
   have hfit:(itemsR t (p1',false) (fun _=>false)).1.1≤t.size:=by
    have:∀(n:Nat) (s:RS) (f:Nat→Bool),Fits t s→Fits t (itemsG t n s f).1:=by
     intro n
     induction n with
     | zero=>intro s f h;exact h
     | succ n ih=>
       intro s f h
       rw [itemsG]
       split
       · exact h
       · split
         · exact fits_take (by omega) (fits_itemR h)
         · exact ih _ _ (fits_take (by omega) (fits_itemR h))
    exact this _ _ _ hp3
   exact ⟨_,_,e1,e2,leaf_po hw hs rfl rfl (kindOne (Or.inl rfl) 0) (by simp only [] at hge;omega) hfit (fun hb=>leaf_tie rfl rfl rfl (items_tie (t.size-p1') p1' [] (fun _=>false) (Nat.le_refl _) hp3 (fun c hc=>rfl) hb)),fun _=>by simp only [pushP];simp only [] at hge;omega⟩
 have e1:=Ev.plain (t:=t) (st:=((p,false),ns)) (by rw [eN];exact c40) (by rw [eN];exact c91)
 rw [eN] at e1
 simp only [] at e1
 have good:Sync t (p+1,false) (p+1,false):=Or.inr ⟨rfl,rfl⟩
 by_cases c46:pk t p=46
 · have p1:plainS t (pk t p) ((p+1,false),ns)=addS { kind:=1,its:=[(0,255)],size:=1 } ((p+1,false),ns):=by unfold plainS;rw [if_pos c46];rfl
   have p2:plainR t (pk t p) ((p+1,false),ps)=pushP { kind:=1,neg:=true } ((p+1,false),ps):=by unfold plainR;rw [if_neg (by omega),if_neg (by omega),if_neg (by omega),if_pos c46]
   rw [p1] at e1
   rw [p2] at e2
   exact ⟨_,_,e1,e2,leaf_po hw good rfl rfl (kindOne (Or.inl rfl) 0) (by simp only [];omega) hp (fun _=>dot_tie _ _ rfl rfl rfl rfl rfl rfl),fun _=>by simp only [pushP];omega⟩
 by_cases c94:pk t p=94
 · have p1:plainS t (pk t p) ((p+1,false),ns)=addS { kind:=2,size:=1 } ((p+1,false),ns):=by unfold plainS;rw [if_neg c46,if_pos c94]
   have p2:plainR t (pk t p) ((p+1,false),ps)=pushP { kind:=2,ins:=one 94 } ((p+1,false),ps):=by unfold plainR;rw [if_neg c91,if_pos c94]
   rw [p1] at e1
   rw [p2] at e2
   exact ⟨_,_,e1,e2,leaf_po hw good rfl rfl (kindOne (Or.inr (Or.inl rfl)) 0) (by simp only [];omega) hp (fun _=>Or.inr (Or.inl ⟨rfl,rfl⟩)),fun _=>by simp only [pushP];omega⟩
 by_cases c36:pk t p=36
 · have p1:plainS t (pk t p) ((p+1,false),ns)=addS { kind:=3,size:=1 } ((p+1,false),ns):=by unfold plainS;rw [if_neg c46,if_neg c94,if_pos c36]
   have p2:plainR t (pk t p) ((p+1,false),ps)=pushP { kind:=3,ins:=one 36 } ((p+1,false),ps):=by unfold plainR;rw [if_neg c91,if_neg c94,if_pos c36]
   rw [p1] at e1
   rw [p2] at e2
   exact ⟨_,_,e1,e2,leaf_po hw good rfl rfl (kindOne (Or.inr (Or.inr rfl)) 0) (by simp only [];omega) hp (fun _=>Or.inr (Or.inr (Or.inl ⟨rfl,rfl⟩))),fun _=>by simp only [pushP];omega⟩
 by_cases c92:pk t p=92
 · have p1:plainS t (pk t p) ((p+1,false),ns)=addS { kind:=1,its:=[((nextS t (p+1,false)).1,(nextS t (p+1,false)).1)],size:=1 } ((nextS t (p+1,false)).2,ns):=by
    unfold plainS;rw [if_neg c46,if_neg c94,if_neg c36,if_pos c92];rfl
   have p2:plainR t (pk t p) ((p+1,false),ps)=pushP { kind:=1,ins:=one (tkS t (p+1,false)).1 } ((tkS t (p+1,false)).2,ps):=by
    unfold plainR;rw [if_neg c91,if_neg c94,if_neg c36,if_neg c46,if_pos c92]
   rw [p1] at e1
   rw [p2] at e2
   have hs:Sync t (nextS t (p+1,false)).2 (tkS t (p+1,false)).2:=by
    by_cases hp2:p+1<t.size
    · rw [next_lt (s:=(p+1,false)) hp2,tk_lt (s:=(p+1,false)) hp2];exact Or.inr ⟨rfl,rfl⟩
    · rw [next_end (s:=(p+1,false)) hp2,tk_end (s:=(p+1,false)) hp2];exact Sync.fail rfl
   have hsame:(tkS t (p+1,false)).2.2=false→(nextS t (p+1,false)).1=(tkS t (p+1,false)).1:=fun hb=>by
    by_cases hp2:p+1<t.size
    · rw [next_lt (s:=(p+1,false)) hp2,tk_lt (s:=(p+1,false)) hp2]
    · rw [tk_end (s:=(p+1,false)) hp2] at hb;cases hb
   have hge:=tk_ge (t:=t) (s:=(p+1,false))
   have hft:(tkS t (p+1,false)).2.1≤t.size:=fits_tk (s:=(p+1,false)) hp
   simp only [] at hge
   exact ⟨_,_,e1,e2,leaf_po hw hs rfl rfl (kindOne (Or.inl rfl) 0) (by omega) hft (fun hb=>leaf_tie rfl rfl rfl (fun c hc=>by rw [←hsame hb];exact holds_one _ c)),fun _=>by simp only [pushP];omega⟩
 · have p1:plainS t (pk t p) ((p+1,false),ns)=addS { kind:=1,its:=[(pk t p,pk t p)],size:=1 } ((p+1,false),ns):=by
    unfold plainS;rw [if_neg c46,if_neg c94,if_neg c36,if_neg c92,if_neg (by omega)];rfl
   have p2:plainR t (pk t p) ((p+1,false),ps)=pushP { kind:=1,ins:=one (pk t p) } ((p+1,false),ps):=by
    unfold plainR;rw [if_neg c91,if_neg c94,if_neg c36,if_neg c46,if_neg c92]
   rw [p1] at e1
   rw [p2] at e2
   exact ⟨_,_,e1,e2,leaf_po hw good rfl rfl (kindOne (Or.inl rfl) 0) (by simp only [];omega) hp (fun _=>leaf_tie rfl rfl rfl (fun c hc=>holds_one _ c)),fun _=>by simp only [pushP];omega⟩
theorem repS_end {t:ByteArray} {b:Bool}:repS t (t.size,b)=false:=by
 cases h:repS t (t.size,b) with
 | false=>rfl
 | true=>have:=repS_lt h;simp at this
theorem endS_end {t:ByteArray} {b:Bool}:endS t (t.size,b)=true:=by
 unfold endS;rw [pk_ge (p:=t.size) (by omega)];rfl
theorem end_more {t:ByteArray} {p:Nat} (hp:p≤t.size):moreR t (p,false) = !endS t (p,false):=by
 unfold moreR endS
 simp only [stB,List.any_cons,List.any_nil,Bool.or_false]
 by_cases h:p<t.size
 · have e:(pk t p==-1)=false:=by have:=pk_lt h;simp;omega
   rw [e,decide_eq_true h]
   simp
 · rw [decide_eq_false h,pk_ge h]
   simp
theorem more_bad {t:ByteArray} {s:RS} (h:s.2=true):moreR t s=false:=by unfold moreR;rw [h];simp
theorem times_eq {x:PN} {n:Int} (hk:x.kind=6) (hm:-1≤x.most):sizeK x n=if 1<timesS x.least x.most then wrap64 (n*timesS x.least x.most) else n:=by
 have e:sizeK x n=if 1<x.most then wrap64 (n*x.most) else if x.most<0∧1<x.least then wrap64 (n*x.least) else n:=by
  unfold sizeK;rw [if_neg (by omega),if_neg (by omega),if_pos hk]
 rw [e]
 by_cases h1:x.most = -1
 · have ht:timesS x.least x.most=if x.least<1 then 1 else x.least:=by unfold timesS;rw [if_pos h1]
   rw [if_neg (by omega)]
   by_cases h2:1<x.least
   · rw [if_neg (by omega)] at ht
     rw [if_pos ⟨by omega,h2⟩,ht,if_pos h2]
   · rw [if_neg (by omega),if_neg ?_]
     rw [ht];split <;> omega
 · have ht:timesS x.least x.most=if x.most<1 then 1 else x.most:=by unfold timesS;rw [if_neg h1]
   by_cases h2:1<x.most
   · rw [if_neg (by omega)] at ht
     rw [if_pos h2,ht,if_pos h2]
   · rw [if_neg h2,if_neg (by omega),if_neg ?_]
     rw [ht];split <;> omega
theorem times_bd {a b:Int} (ha:a≤9) (hb:b≤9):1≤timesS a b∧timesS a b≤9:=by
 unfold timesS
 repeat' split
 all_goals omega
theorem braces_cost {t:ByteArray} {p:Nat} (h:(bracesS t (p,false)).2.2=false):p+2≤(bracesS t (p,false)).2.1:=by
 unfold bracesS at h ⊢
 by_cases hc:(takeS t 125 (mostS t (p,false)).2).1=false∨((mostS t (p,false)).1≠-1∧(mostS t (p,false)).1<(digS t (p,false)).1)
 · rw [if_pos hc] at h;cases h
 · rw [if_neg hc] at h ⊢
   have hcl:(takeS t 125 (mostS t (p,false)).2).1=true:=by
    cases hx:(takeS t 125 (mostS t (p,false)).2).1 with
    | true=>rfl
    | false=>exact absurd (Or.inl hx) hc
   have h1:=take_gt hcl
   by_cases hd:p<t.size∧48≤pk t p∧pk t p≤57
   · have eD:=dig_good hd.1 hd.2.1 hd.2.2
     have hm:p+1≤(mostS t (p,false)).2.1:=by
      unfold mostS
      rw [eD]
      have h3:=take_ge (t:=t) (c:=44) (s:=(p+1,false))
      have h4:=fits_take (t:=t) (c:=44) (s:=(p+1,false)) (by omega) hd.1
      split
      · exact Nat.le_trans h3 (up_ge h4)
      · exact h3
     simp only []
     omega
   · have eD:=dig_bad (t:=t) (s:=(p,false)) hd
     have eM:(mostS t (p,false)).2=failS t:=by
      unfold mostS;rw [eD];simp only [];rw [take_fail (by omega)];simp
     rw [eM,take_fail (by omega)] at hcl
     cases hcl
theorem rep_cost {t:ByteArray} {p:Nat} (hr:repS t (p,false)=true) (h:(repeatS t (p,false)).2.2=false):
 (timesS (repeatS t (p,false)).1.1 (repeatS t (p,false)).1.2=1∧p+1≤(repeatS t (p,false)).2.1)∨p+3≤(repeatS t (p,false)).2.1:=by
 have hp:=repS_lt hr
 have e1:=next_lt (s:=(p,false)) hp
 unfold repeatS at h ⊢
 rw [e1] at h ⊢
 simp only [] at h ⊢
 by_cases h1:pk t p=42
 · rw [if_pos h1];left;exact ⟨rfl,Nat.le_refl _⟩
 rw [if_neg h1] at h ⊢
 by_cases h2:pk t p=43
 · rw [if_pos h2];left;exact ⟨rfl,Nat.le_refl _⟩
 rw [if_neg h2] at h ⊢
 by_cases h3:pk t p=63
 · rw [if_pos h3];left;exact ⟨rfl,Nat.le_refl _⟩
 rw [if_neg h3] at h ⊢
 right
 have:=braces_cost h
 omega
theorem Bd.nine {k:Int} (h1:1≤k) (h9:k≤9):Bd k 3:=by
 refine ⟨h1,?_⟩
 have e2:(2:Int) ^ 3=8:=by decide
 have e5:(5:Int) ^ 3=125:=by decide
 rw [e2,e5];omega
theorem bndR_fits {t:ByteArray} {s:RS} (h:s.1≤t.size):(bndR t s).2.1≤t.size:=by
 have f1:=fits_tk (t:=t) (s:=s) h
 have f2:=fits_take (t:=t) (c:=44) (by omega) f1
 have f3:=fits_take (t:=t) (c:=125) (by omega) f2
 have f4:=fits_tk f3
 have f5:=fits_take (t:=t) (c:=125) (by omega) f4
 simp only [Fits] at f1 f2 f3 f4 f5
 have hm:(bndMost t s).2.2.1≤t.size:=by
  unfold bndMost
  simp only []
  split
  · exact f3
  · split
    · simp only [];split
      · exact f5
      · exact f5
    · exact f3
 unfold bndR
 simp only []
 split
 · exact hm
 · exact hm
theorem repR_fits {t:ByteArray} {s:RS} (h:s.1≤t.size):(repR t s).2.1≤t.size:=by
 have f1:=fits_tk (t:=t) (s:=s) h
 unfold repR
 repeat' split
 all_goals first | exact f1 | exact bndR_fits f1
theorem rep_sync {t:ByteArray} (hsm:t.size≤40) {p:Nat} {ns:List AN} {ps:List PN}:∀(n:Nat) (r1:Nat×PS) (q1:Nat×RP),t.size-q1.2.1.1≤n→PO t p ns ps r1 q1→(q1.2.1.2=false→p<q1.2.1.1) →
 ∃r q,Ev t 6 r1.1 r1.2 r∧EvR t 4 [q1.1] q1.2 q∧PO t p ns ps r q∧(q.2.1.2=false→p<q.2.1.1)
 | n,r1,q1,hn,h,hgt=>by
   cases hb:q1.2.1.2 with
   | true=>
     have e1:=sync_bad h.sync hb
     exact ⟨r1,q1,Ev.repEnd (st:=r1.2) (by rw [e1];exact repS_end),EvR.repEnd (st:=q1.2) (Or.inl hb),h,hgt⟩
   | false=>
     have e1:=sync_good h.sync hb
     have hsz:=h.sz hb
     have hgt1:=hgt hb
     obtain ⟨i,⟨sa,nsa⟩⟩:=r1
     obtain ⟨j,⟨⟨pb,bb⟩,psb⟩⟩:=q1
     simp only [] at hb e1 hsz hgt1 hn
     subst hb e1
     cases hr:repS t (pb,false) with
     | false=>exact ⟨_,_,Ev.repEnd (st:=((pb,false),nsa)) hr,EvR.repEnd (st:=((pb,false),psb)) (Or.inr (by rw [st4];exact hr)),h,hgt⟩
     | true=>
       have hlt:=repS_lt hr
       obtain ⟨more,hen⟩:=h.en
       obtain ⟨more2,hep⟩:=h.ep
       simp only [] at hen hep
       have hkk:∀k,k∈[j]→k<psb.length:=fun k hk=>by simp at hk;subst hk;exact hsz.2.1
       rcases sync_repeat hr with ⟨g1,g2⟩ | ⟨g1,g2⟩
       · have eA:=Ev.rep (t:=t) (cur:=i) (st:=((pb,false),nsa)) hr (Ev.repEnd (st:=(againS i (repeatS t (pb,false)).1 ((repeatS t (pb,false)).2,nsa)).2) (by show repS t (repeatS t (pb,false)).2=false;rw [g1];exact repS_end))
         have eB:=EvR.rep (t:=t) (x:=j) (st:=((pb,false),psb)) rfl (by rw [st4];exact hr) (EvR.repEnd (st:=((repR t (pb,false)).2,psb++[{ kind:=6,kids:=[j],least:=(repR t (pb,false)).1.1,most:=(repR t (pb,false)).1.2 }])) (Or.inl g2))
         refine ⟨_,_,eA,eB,⟨Or.inl ⟨g1,g2⟩,⟨more++[_],by show nsa++[_]=_;rw [hen,List.append_assoc]⟩,⟨more2++[_],by show psb++[_]=_;rw [hep,List.append_assoc]⟩,WfP.push h.wf hkk,?_,?_,by simp [pushP],fun hc=>?_⟩,fun hc=>?_⟩
         · show p≤(repR t (pb,false)).2.1
           have h1:pb≤(repR t (pb,false)).2.1:=by
            unfold repR
            have:=tk_ge (t:=t) (s:=(pb,false))
            repeat' split
            all_goals first | exact this | exact Nat.le_trans this bndR_ge
           have:=h.ge;simp only [] at this;omega
         · show (repR t (pb,false)).2.1≤t.size
           exact repR_fits (Nat.le_of_lt hlt)
         · have hc:(repR t (pb,false)).2.2=false:=hc
           rw [g2] at hc;cases hc
         · have hc:(repR t (pb,false)).2.2=false:=hc
           rw [g2] at hc;cases hc
       · have hcost:=rep_cost hr g2
         have hord:=rep_order hr g2
         obtain ⟨l0,l9,m0,m9⟩:=repeat_bd t (pb,false)
         have hfit2:=fits_repeat (t:=t) (s:=(pb,false)) (Nat.le_of_lt hlt)
         generalize hR:repeatS t (pb,false)=R at *
         obtain ⟨⟨least,most⟩,⟨p2,b2⟩⟩:=R
         simp only [Fits] at g2 hcost l0 l9 m0 m9 hfit2 hord
         subst g2
         obtain ⟨t1,t9⟩:=times_bd (a:=least) (b:=most) l9 m9
         have hTn:T (psb++[{ kind:=6,kids:=[j],least:=least,most:=most }]) psb.length=T psb j*timesS least most:=by
          rw [T_new h.wf hkk]
          have hs1:sumT psb [j]=T psb j:=by
           have hsmall:=hsz.2.2.2.1.small (by have:=h.fit;simp only [] at this;omega)
           have:=hsz.2.2.2.1.1
           show wrap64 (0+T psb j)=_
           rw [Int.zero_add]
           exact wrap64_in _ (by omega)
          rw [times_eq rfl m0,hs1]
          simp only []
          split
          · have hprod:Bd (T psb j*timesS least most) (pb-p+3):=hsz.2.2.2.1.mul (Bd.nine t1 t9)
            have hb2:=hprod.1
            have h40:T psb j*timesS least most≤74446255130*1000000:=by
             have hsmall:=hsz.2.2.2.1.small (by have:=h.fit;simp only [] at this;omega)
             have h2:=Int.mul_le_mul hsmall t9 (by omega) (by omega)
             omega
            exact wrap64_in _ (by omega)
          · have:timesS least most=1:=by omega
            rw [this,Int.mul_one]
         have hbd:Bd (T psb j*timesS least most) (p2-p):=by
          rcases hcost with ⟨k1,k2⟩ | k2
          · rw [k1,Int.mul_one]
            have:=hsz.2.2.2.1.more (c:=p2-pb)
            rwa [show pb-p+(p2-pb)=p2-p by omega] at this
          · have:=(hsz.2.2.2.1.mul (Bd.nine t1 t9)).more (c:=p2-(pb+3))
            rwa [show pb-p+3+(p2-(pb+3))=p2-p by omega] at this
         have po2:PO t p ns ps (againS i (least,most) ((p2,false),nsa)) (pushP { kind:=6,kids:=[j],least:=least,most:=most } ((p2,false),psb)):=by
          refine ⟨Or.inr ⟨rfl,rfl⟩,⟨more++[_],by show nsa++[_]=_;rw [hen,List.append_assoc]⟩,⟨more2++[_],by show psb++[_]=_;rw [hep,List.append_assoc]⟩,WfP.push h.wf hkk,by show p≤p2;omega,hfit2,by simp [pushP],fun _=>⟨by simp [againS,addS],by simp [pushP],?_,?_,Same.times hsz.2.2.2.2 rfl rfl rfl rfl rfl rfl l0 l9 m0 m9 hord⟩⟩
          · show sizeAt (nsa++[capN _]) nsa.length=cap61 (T (psb++[_]) psb.length)
            rw [sizeAt_new,hTn]
            show cap61 (sizeAt nsa i*timesS least most)=_
            rw [hsz.2.2.1,cap_mul _ _ hsz.2.2.2.1.1 t1]
          · show Bd (T (psb++[_]) psb.length) (p2-p)
            rw [hTn];exact hbd
         match n,hn with
         | 0,hn=>omega
         | n+1,hn=>
           obtain ⟨r,q,a1,a2,a3,a4⟩:=rep_sync hsm n _ _ (by show t.size-p2≤n;omega) po2 (fun _=>by show p<p2;omega)
           refine ⟨r,q,Ev.rep (st:=((pb,false),nsa)) hr (by rw [hR];exact a1),EvR.rep (st:=((pb,false),psb)) rfl (by rw [st4];exact hr) ?_,a3,a4⟩
           rw [←g1];exact a2
end Go.Proofs.YtgifhgnccmnbiabGreat
