/- Both readers side by side: members, lists, bounds. No Go in it. -/
import Derived.Test.YtgifhgnccmnbiabGreatG01
import Derived.Test.YtgifhgnccmnbiabGreatG03
import Derived.Test.YtgifhgnccmnbiabGreatG06
set_option linter.unusedVariables false
set_option linter.unusedSimpArgs false
set_option maxHeartbeats 4000000
set_option maxRecDepth 100000
namespace Go.Proofs.YtgifhgnccmnbiabGreat
def Sync (t:ByteArray) (a b:RS):Prop:=(a=(t.size,true)∧b.2=true)∨(a=b∧a.2=false)
theorem next_lt {t:ByteArray} {s:RS} (h:s.1<t.size):nextS t s=(pk t s.1,(s.1+1,s.2)):=by
 unfold nextS;rw [if_neg (by rw [pk_none];omega)]
theorem next_end {t:ByteArray} {s:RS} (h:¬s.1<t.size):nextS t s=(0,failS t):=by
 unfold nextS;rw [if_pos (by rw [pk_none];exact h)]
theorem tk_lt {t:ByteArray} {s:RS} (h:s.1<t.size):tkS t s=(pk t s.1,(s.1+1,s.2)):=if_pos h
theorem tk_end {t:ByteArray} {s:RS} (h:¬s.1<t.size):tkS t s=(0,(s.1,true)):=if_neg h
theorem take_hit {t:ByteArray} {s:RS} {c:Int} (h:pk t s.1=c):takeS t c s=(true,(s.1+1,s.2)):=if_pos h
theorem take_miss {t:ByteArray} {s:RS} {c:Int} (h:¬pk t s.1=c):takeS t c s=(false,s):=if_neg h
theorem st1 {t:ByteArray} {s:RS} {c:UInt8}:stB t s [c]=(pk t s.1==(c.toNat:Int)):=by simp [stB]
theorem sync_mem {t:ByteArray} {p:Nat} (hp:p<t.size) (h93:pk t p≠93):
 (memS t (p,false)=memR t (p,false)∧(memS t (p,false)).2.2=false∧(memS t (p,false)).2.1≤t.size) ∨
 ((memS t (p,false))=(0,failS t)∧(memR t (p,false)).2=(t.size,true)∧(memR t (p,false)).1=0):=by
 have e93:stB t (p,false) [93]=false:=by rw [st1];simpa using h93
 have eR:memR t (p,false)=tkS t (takeS t 92 (p,false)).2:=by unfold memR;rw [if_neg (by rw [e93];decide)]
 have eN:=next_lt (s:=(p,false)) hp
 rw [eR]
 unfold memS
 rw [eN]
 simp only []
 by_cases h:pk t p=92
 · rw [if_pos h,take_hit (s:=(p,false)) h]
   simp only []
   by_cases hp2:p+1<t.size
   · left
     rw [next_lt (s:=(p+1,false)) hp2,tk_lt (s:=(p+1,false)) hp2]
     exact ⟨rfl,rfl,hp2⟩
   · right
     rw [next_end (s:=(p+1,false)) hp2,tk_end (s:=(p+1,false)) hp2]
     have:p+1=t.size:=by omega
     exact ⟨rfl,by simp [this],rfl⟩
 · left
   rw [if_neg h,take_miss (s:=(p,false)) h,tk_lt (s:=(p,false)) hp]
   exact ⟨rfl,rfl,hp⟩
theorem sec_end {t:ByteArray} {b:Bool}:secS t (t.size,b)=false:=by
 unfold secS;rw [pk_ge (p:=t.size) (by omega)];rfl
theorem sync_item {t:ByteArray} {p:Nat} {f:Nat→Bool} (hp:p<t.size) (h93:pk t p≠93):Sync t (itemS t (p,false)).2 (itemR t (p,false) f).1:=by
 rcases sync_mem hp h93 with ⟨h1,h2,h3⟩ | ⟨h1,h2,h4⟩
 · obtain ⟨c,s1,hm⟩:∃c s1,memS t (p,false)=(c,s1):=⟨_,_,rfl⟩
   rw [hm] at h1 h2 h3
   obtain ⟨p1,b1⟩:=s1
   simp only [] at h2 h3
   subst h2
   by_cases hs:secS t (p1,false)=true
   · have hs2:=hs
     simp only [secS,Bool.and_eq_true,beq_iff_eq,bne_iff_ne] at hs2
     obtain ⟨⟨_,g1⟩,g2⟩:=hs2
     have hp1:p1+1<t.size:=by rw [Ne,pk_none] at g1;omega
     have eH:highS t (p,false)=memS t (p1+1,false):=by unfold highS;rw [hm];exact if_pos hs
     have eT:toR t (p,false)=memR t (p1+1,false):=by
      unfold toR;rw [←h1];simp only [];rw [if_pos hs,tk_lt (s:=(p1,false)) (by omega)]
     have eI:(itemS t (p,false)).2=if (highS t (p,false)).1<c then failS t else (highS t (p,false)).2:=by unfold itemS;rw [hm]
     have eJ:(itemR t (p,false) f).1=if (toR t (p,false)).1<c then markS (toR t (p,false)).2 else (toR t (p,false)).2:=by unfold itemR;rw [←h1]
     rw [eI,eJ,eH,eT]
     rcases sync_mem hp1 g2 with ⟨k1,k2,k3⟩ | ⟨k1,k2,k4⟩
     · rw [←k1]
       by_cases hl:(memS t (p1+1,false)).1<c
       · rw [if_pos hl,if_pos hl];left;exact ⟨rfl,rfl⟩
       · rw [if_neg hl,if_neg hl];right;exact ⟨rfl,k2⟩
     · left
       rw [k1]
       refine ⟨by simp only [];split <;> rfl,?_⟩
       split
       · rfl
       · rw [k2]
   · have eH:highS t (p,false)=memS t (p,false):=by unfold highS;rw [hm];exact if_neg hs
     have eT:toR t (p,false)=memR t (p,false):=by unfold toR;rw [←h1];simp only [];rw [if_neg hs]
     have eI:(itemS t (p,false)).2=(p1,false):=by unfold itemS;rw [eH,hm];simp
     have eJ:(itemR t (p,false) f).1=(p1,false):=by unfold itemR;rw [eT,←h1];simp
     rw [eI,eJ];right;exact ⟨rfl,rfl⟩
 · left
   have eH:highS t (p,false)=memS t (p,false):=by unfold highS;rw [h1];exact if_neg (by simp only [failS];rw [sec_end];decide)
   have eT:toR t (p,false)=memR t (p,false):=by unfold toR;rw [h2,sec_end];simp
   refine ⟨?_,?_⟩
   · unfold itemS;rw [eH,h1];simp [failS]
   · unfold itemR;rw [eT];simp [h2]
theorem itemR_noMem {t:ByteArray} {p:Nat} {f:Nat→Bool} (h:¬p<t.size∨pk t p=93):(itemR t (p,false) f).1.2=true:=by
 have hm:(memR t (p,false)).2.2=true:=by
  unfold memR
  rcases h with h | h
  · have e93:stB t (p,false) [93]=false:=by rw [st1,pk_ge h];decide
    rw [if_neg (by rw [e93];decide),take_miss (s:=(p,false)) (by rw [pk_ge h];decide),tk_end (s:=(p,false)) h]
  · have e93:stB t (p,false) [93]=true:=by rw [st1,h];decide
    rw [if_pos e93]
    exact tk_bad (take_bad rfl)
 have ht:=toR_bad hm
 unfold itemR
 simp only []
 split
 · rfl
 · exact ht
theorem itemsR_noMem {t:ByteArray} {p:Nat} {f:Nat→Bool} (hf:p≤t.size) (h:¬p<t.size∨pk t p=93):(itemsR t (p,false) f).1.2=true:=by
 have h1:=itemR_noMem (f:=f) h
 cases hc:(takeS t 93 (itemR t (p,false) f).1).1 with
 | true=>rw [itemsR_end rfl hc];exact take_bad h1
 | false=>rw [itemsR_on (s:=(p,false)) hf rfl hc,itemsR_bad (take_bad h1)];exact take_bad h1
def listOut (t:ByteArray) (I:List (Int×Int)×RS):RS:=if (takeS t 93 I.2).1=false∨I.1.length=0 then failS t else (takeS t 93 I.2).2
theorem itemQ_iff {t:ByteArray} {p:Nat} {b:Bool}:itemQ t (p,b)=true↔p<t.size∧pk t p≠93:=by
 simp only [itemQ,Bool.and_eq_true,bne_iff_ne]
 constructor
 · intro h;exact ⟨by have:=h.1;rw [Ne,pk_none] at this;omega,h.2⟩
 · intro h;exact ⟨by rw [Ne,pk_none];omega,h.2⟩
theorem sync_items {t:ByteArray}:∀(n p:Nat) (acc:List (Int×Int)) (f:Nat→Bool),t.size-p≤n→p≤t.size→(acc=[]∨pk t p≠93) →
 Sync t (listOut t (itemsS t (p,false) acc)) (itemsR t (p,false) f).1
 | n,p,acc,f,hn,hf,hacc=>by
   by_cases hq:itemQ t (p,false)=true
   · obtain ⟨hp,h93⟩:=itemQ_iff.1 hq
     rw [itemsS_on hq]
     have hgt:=item_gt (t:=t) (s:=(p,false)) hp
     rcases sync_item (f:=f) hp h93 with ⟨h1,h2⟩ | ⟨h1,h2⟩
     · left
       refine ⟨?_,?_⟩
       · rw [h1,itemsS_off (by cases h:itemQ t (t.size,true) with | false=>rfl | true=>have:=(itemQ_iff.1 h).1;omega)]
         unfold listOut
         rw [take_miss (s:=(t.size,true)) (by rw [pk_ge (by omega)];decide)]
         exact if_pos (Or.inl rfl)
       · cases hc:(takeS t 93 (itemR t (p,false) f).1).1 with
         | true=>rw [itemsR_end rfl hc];exact take_bad h2
         | false=>rw [itemsR_on (s:=(p,false)) hf rfl hc,itemsR_bad (take_bad h2)];exact take_bad h2
     · obtain ⟨⟨p1,b1⟩,hs1⟩:∃s1,(itemS t (p,false)).2=s1:=⟨_,rfl⟩
       rw [hs1] at h1 h2 hgt
       simp only [] at h2 hgt
       subst h2
       have hf1:=fits_item (t:=t) (s:=(p,false)) hf
       rw [hs1] at hf1
       simp only [Fits] at hf1
       rw [hs1]
       by_cases h931:pk t p1=93
       · right
         have hc:takeS t 93 (itemR t (p,false) f).1=(true,(p1+1,false)):=by rw [←h1];exact take_hit (s:=(p1,false)) h931
         rw [itemsR_end rfl (by rw [hc]),hc,itemsS_off (by cases h:itemQ t (p1,false) with | false=>rfl | true=>exact absurd h931 (itemQ_iff.1 h).2)]
         unfold listOut
         rw [take_hit (s:=(p1,false)) h931]
         simp
       · have hc:takeS t 93 (itemR t (p,false) f).1=(false,(p1,false)):=by rw [←h1];exact take_miss (s:=(p1,false)) h931
         rw [itemsR_on (s:=(p,false)) hf rfl (by rw [hc]),hc]
         match n,hn with
         | 0,hn=>omega
         | n+1,hn=>exact sync_items n p1 _ _ (by omega) hf1 (Or.inr h931)
   · have hno:¬p<t.size∨pk t p=93:=by
      by_cases hp:p<t.size
      · right
        by_cases h93:pk t p=93
        · exact h93
        · exact absurd (itemQ_iff.2 ⟨hp,h93⟩) hq
      · exact Or.inl hp
     left
     refine ⟨?_,itemsR_noMem hf hno⟩
     rw [itemsS_off (by simpa using hq)]
     unfold listOut
     rcases hacc with rfl | h93
     · exact if_pos (Or.inr rfl)
     · rw [take_miss (s:=(p,false)) h93]
       exact if_pos (Or.inl rfl)
theorem dig_good {t:ByteArray} {p:Nat} (hp:p<t.size) (h1:48≤pk t p) (h2:pk t p≤57):digS t (p,false)=(pk t p-48,(p+1,false)):=by
 unfold digS;rw [next_lt (s:=(p,false)) hp];exact if_neg (by simp only [];omega)
theorem dig_bad {t:ByteArray} {s:RS} (h:¬(s.1<t.size∧48≤pk t s.1∧pk t s.1≤57)):digS t s=(0,failS t):=by
 unfold digS
 by_cases hp:s.1<t.size
 · rw [next_lt hp];exact if_pos (by simp only [];omega)
 · rw [next_end hp];exact if_pos (by simp only [];omega)
theorem take_fail {t:ByteArray} {c:Int} (hc:0≤c):takeS t c (failS t)=(false,failS t):=
 take_miss (s:=failS t) (by simp only [failS];rw [pk_ge (by omega)];omega)
theorem sync_braces {t:ByteArray} {p:Nat} (hf:p≤t.size):
 ((bracesS t (p,false)).2=(t.size,true)∧(bndR t (p,false)).2.2=true)∨(bracesS t (p,false)=bndR t (p,false)∧(bracesS t (p,false)).2.2=false):=by
 by_cases hd:p<t.size∧48≤pk t p∧pk t p≤57
 · obtain ⟨hp,g1,g2⟩:=hd
   have eD:=dig_good hp g1 g2
   have eK:=tk_lt (s:=(p,false)) hp
   have eB1:(bndR t (p,false)).2=if (bndMost t (p,false)).2.1=false then markS (bndMost t (p,false)).2.2 else (bndMost t (p,false)).2.2:=by
    unfold bndR
    rw [eK]
    simp only []
    by_cases hx:(bndMost t (p,false)).2.1=false
    · rw [if_pos (Or.inr (Or.inr hx)),if_pos hx]
    · rw [if_neg (by rintro (h | h | h);omega;omega;exact hx h),if_neg hx]
   have eB2:(bndR t (p,false)).1=(pk t p-48,(bndMost t (p,false)).1):=by unfold bndR;rw [eK]
   by_cases hc:pk t (p+1)=44
   · have eC:=take_hit (t:=t) (s:=(p+1,false)) hc
     have hp1:p+1<t.size:=pk_some (by omega)
     by_cases hq:pk t (p+2)=125
     · right
       have eQ:=take_hit (t:=t) (s:=(p+2,false)) hq
       have eM:mostS t (p,false)=(-1,(p+2,false)):=by
        unfold mostS;rw [eD];simp only [];rw [eC];simp only [if_true];unfold upS;exact if_pos hq
       have eS:bracesS t (p,false)=((pk t p-48,-1),(p+3,false)):=by
        unfold bracesS;rw [eM,eD];simp only [];rw [eQ];simp
       have eN:bndMost t (p,false)=(-1,(true,(p+3,false))):=by
        unfold bndMost;rw [eK];simp only [];rw [eC];simp only [];rw [eQ];simp
       rw [eS]
       refine ⟨?_,rfl⟩
       rw [Prod.ext_iff]
       rw [eB1,eB2,eN]
       exact ⟨rfl,rfl⟩
     · have eQ:=take_miss (t:=t) (s:=(p+2,false)) hq
       have eM:mostS t (p,false)=digS t (p+2,false):=by
        unfold mostS;rw [eD];simp only [];rw [eC];simp only [if_true];unfold upS;exact if_neg hq
       have eN:bndMost t (p,false)=((tkS t (p+2,false)).1-48,((takeS t 125 (tkS t (p+2,false)).2).1,if (tkS t (p+2,false)).1<48∨57<(tkS t (p+2,false)).1∨(tkS t (p+2,false)).1-48<pk t p-48 then markS (takeS t 125 (tkS t (p+2,false)).2).2 else (takeS t 125 (tkS t (p+2,false)).2).2)):=by
        unfold bndMost;rw [eK];simp only [];rw [eC];simp only [];rw [eQ];simp
       by_cases hd2:p+2<t.size∧48≤pk t (p+2)∧pk t (p+2)≤57
       · obtain ⟨hp2,l1,l2⟩:=hd2
         have eD2:=dig_good hp2 l1 l2
         have eK2:=tk_lt (s:=(p+2,false)) hp2
         rw [eD2] at eM
         rw [eK2] at eN
         simp only [] at eN
         by_cases hz:pk t (p+3)=125
         · have eZ:=take_hit (t:=t) (s:=(p+3,false)) hz
           rw [eZ] at eN
           simp only [] at eN
           by_cases hl:pk t (p+2)-48<pk t p-48
           · left
             rw [if_pos (Or.inr (Or.inr hl))] at eN
             refine ⟨?_,?_⟩
             · unfold bracesS;rw [eM,eD];simp only [];rw [if_pos (Or.inr ⟨by omega,hl⟩)];rfl
             · rw [eB1,eN];rfl
           · right
             rw [if_neg (by omega)] at eN
             have eS:bracesS t (p,false)=((pk t p-48,pk t (p+2)-48),(p+4,false)):=by
              unfold bracesS;rw [eM,eD];simp only [];rw [eZ];rw [if_neg (by simp;omega)]
             rw [eS]
             refine ⟨?_,rfl⟩
             rw [Prod.ext_iff,eB1,eB2,eN]
             exact ⟨rfl,rfl⟩
         · left
           have eZ:=take_miss (t:=t) (s:=(p+3,false)) hz
           refine ⟨?_,?_⟩
           · unfold bracesS;rw [eM,eD];simp only [];rw [eZ];rw [if_pos (Or.inl rfl)];rfl
           · rw [eB1,eN,eZ];rfl
       · left
         have eD2:=dig_bad (t:=t) (s:=(p+2,false)) hd2
         rw [eD2] at eM
         refine ⟨?_,?_⟩
         · unfold bracesS;rw [eM];simp only [];rw [take_fail (by omega)];rw [if_pos (Or.inl rfl)];rfl
         · have hmk:(bndMost t (p,false)).2.2.2=true:=by
            rw [eN]
            simp only []
            by_cases hp2:p+2<t.size
            · rw [tk_lt (s:=(p+2,false)) hp2]
              simp only []
              rw [if_pos (by omega)]
              rfl
            · rw [tk_end (s:=(p+2,false)) hp2]
              simp
              rfl
           rw [eB1]
           split
           · rfl
           · exact hmk
   · have eC:=take_miss (t:=t) (s:=(p+1,false)) hc
     have eM:mostS t (p,false)=(pk t p-48,(p+1,false)):=by
      unfold mostS;rw [eD];simp only [];rw [eC];simp
     have eN:bndMost t (p,false)=(pk t p-48,takeS t 125 (p+1,false)):=by
      unfold bndMost;rw [eK];simp only [];rw [eC];simp
     by_cases hz:pk t (p+1)=125
     · right
       have eZ:=take_hit (t:=t) (s:=(p+1,false)) hz
       have eS:bracesS t (p,false)=((pk t p-48,pk t p-48),(p+2,false)):=by
        unfold bracesS;rw [eM,eD];simp only [];rw [eZ];rw [if_neg (by simp)]
       rw [eS]
       refine ⟨?_,rfl⟩
       rw [Prod.ext_iff,eB1,eB2,eN,eZ]
       exact ⟨rfl,rfl⟩
     · left
       have eZ:=take_miss (t:=t) (s:=(p+1,false)) hz
       refine ⟨?_,?_⟩
       · unfold bracesS;rw [eM,eD];simp only [];rw [eZ];rw [if_pos (Or.inl rfl)];rfl
       · rw [eB1,eN,eZ];rfl
 · left
   have eD:=dig_bad (t:=t) (s:=(p,false)) hd
   refine ⟨?_,?_⟩
   · have eM:(mostS t (p,false)).2=failS t:=by
      unfold mostS;rw [eD];simp only [];rw [take_fail (by omega)];simp
     unfold bracesS;rw [eM,take_fail (by omega),if_pos (Or.inl rfl)];rfl
   · by_cases hp:p<t.size
     · have eK:=tk_lt (s:=(p,false)) hp
       unfold bndR;rw [eK];simp only [];rw [if_pos (by omega)];rfl
     · have eK:=tk_end (s:=(p,false)) hp
       unfold bndR;rw [eK];simp only [];rw [if_pos (by omega)];rfl
theorem sync_repeat {t:ByteArray} {p:Nat} (h:repS t (p,false)=true):
 ((repeatS t (p,false)).2=(t.size,true)∧(repR t (p,false)).2.2=true)∨(repeatS t (p,false)=repR t (p,false)∧(repeatS t (p,false)).2.2=false):=by
 have hp:=repS_lt h
 have e1:=next_lt (s:=(p,false)) hp
 have e2:=tk_lt (s:=(p,false)) hp
 simp only [repS,Bool.or_eq_true,beq_iff_eq] at h
 unfold repeatS repR
 rw [e1,e2]
 simp only []
 by_cases h1:pk t p=42
 · right
   rw [h1]
   exact ⟨rfl,rfl⟩
 by_cases h2:pk t p=43
 · right
   rw [h2]
   exact ⟨rfl,rfl⟩
 by_cases h3:pk t p=63
 · right
   rw [h3]
   exact ⟨rfl,rfl⟩
 · have h4:pk t p=123:=by omega
   rw [if_neg h1,if_neg h2,if_neg h3,if_neg h2,if_neg h3,if_pos h4]
   exact sync_braces hp
end Go.Proofs.YtgifhgnccmnbiabGreat
namespace Go.Proofs.YtgifhgnccmnbiabGreat
open Go.RowKit Go.IntWalk
def cap61 (x:Int):Int:=if 61<x then 61 else x
def WfP (ps:List PN):Prop:=∀(i:Nat) (p:PN),ps[i]?=some p→∀k,k∈p.kids→k<i
def T (ps:List PN) (j:Nat):Int:=sizeG ps (j+1) j
def sumT (ps:List PN) (l:List Nat):Int:=l.foldl (fun n k=>wrap64 (n+T ps k)) 0
theorem sizeAt_app {ns more:List AN} {i:Nat} (h:i<ns.length):sizeAt (ns++more) i=sizeAt ns i:=by
 unfold sizeAt;rw [List.getElem?_append_left h]
theorem sizeAt_new {ns:List AN} {n:AN}:sizeAt (ns++[capN n]) ns.length=cap61 n.size:=by
 unfold sizeAt cap61;simp [capN]
theorem foldl_same {f g:Nat→Int}:∀(l:List Nat) (n:Int),(∀k,k∈l→f k=g k)→l.foldl (fun n k=>wrap64 (n+f k)) n=l.foldl (fun n k=>wrap64 (n+g k)) n
 | [],_,_=>rfl
 | x :: r,n,h=>by
   rw [List.foldl_cons,List.foldl_cons,h x (by simp)]
   exact foldl_same r _ (fun k hk=>h k (by simp [hk]))
theorem sizeG_app {ps more:List PN} (hw:WfP ps):∀(f i:Nat),i<ps.length→sizeG (ps++more) f i=sizeG ps f i
 | 0,_,_=>rfl
 | f+1,i,hi=>by
   rw [sizeG,sizeG,List.getElem?_append_left hi]
   cases hp:ps[i]? with
   | none=>rfl
   | some p=>
     simp only []
     congr 1
     exact foldl_same _ _ (fun k hk=>sizeG_app hw f k (by have:=hw i p hp k hk;omega))
theorem T_app {ps more:List PN} (hw:WfP ps) {i:Nat} (hi:i<ps.length):T (ps++more) i=T ps i:=sizeG_app hw _ _ hi
theorem sumT_app {ps more:List PN} (hw:WfP ps) {l:List Nat} (hl:∀k,k∈l→k<ps.length):sumT (ps++more) l=sumT ps l:=
 foldl_same _ _ (fun k hk=>T_app hw (hl k hk))
theorem WfP.push {ps:List PN} {p:PN} (hw:WfP ps) (hl:∀k,k∈p.kids→k<ps.length):WfP (ps++[p]):=by
 intro i q hq k hk
 by_cases hi:i<ps.length
 · rw [List.getElem?_append_left hi] at hq;exact hw i q hq k hk
 · have hi2:i=ps.length:=by
    have:=(List.getElem?_eq_some_iff.1 hq).1
    simp at this;omega
   subst hi2
   rw [List.getElem?_append_right (Nat.le_refl _),Nat.sub_self] at hq
   simp at hq
   subst hq
   exact hl k hk
theorem T_new {ps:List PN} {p:PN} (hw:WfP ps) (hl:∀k,k∈p.kids→k<ps.length):T (ps++[p]) ps.length=sizeK p (sumT ps p.kids):=by
 unfold T
 rw [sizeG]
 simp only [List.getElem?_append_right (Nat.le_refl _),Nat.sub_self,List.getElem?_cons_zero]
 congr 1
 exact foldl_same _ _ (fun k hk=>by
  rw [sizeG_app hw _ _ (hl k hk)]
  exact sizeG_more ps hw _ _ k (hl k hk) (Nat.lt_succ_self _))
theorem sumT_snoc {ps:List PN} {l:List Nat} {k:Nat}:sumT ps (l++[k])=wrap64 (sumT ps l+T ps k):=by
 unfold sumT;rw [List.foldl_append];rfl
def Bd (x:Int) (d:Nat):Prop:=1≤x∧x*2 ^ d≤5 ^ d
theorem pow_pos5 (d:Nat):(0:Int)<5 ^ d:=Int.pow_pos (by omega)
theorem pow_pos2 (d:Nat):(0:Int)<2 ^ d:=Int.pow_pos (by omega)
theorem two_five (d:Nat):(2:Int) ^ d≤5 ^ d:=by
 induction d with
 | zero=>decide
 | succ n ih=>rw [Int.pow_succ,Int.pow_succ];have:=pow_pos5 n;have:=pow_pos2 n;omega
theorem two_five1 (d:Nat) (h:1≤d):5*(2:Int) ^ d≤2*5 ^ d:=by
 obtain ⟨n,rfl⟩:∃n,d=n+1:=⟨d-1,by omega⟩
 rw [Int.pow_succ,Int.pow_succ]
 have:=two_five n;omega
theorem Bd.one (d:Nat):Bd 1 d:=⟨Int.le_refl _,by rw [Int.one_mul];exact two_five d⟩
theorem Bd.small {x:Int} {d:Nat} (h:Bd x d) (hd:d≤40):x≤8271806125530276:=by
 obtain ⟨h1,h2⟩:=h
 obtain ⟨c,hc⟩:∃c,40=d+c:=⟨40-d,by omega⟩
 have e:x*2 ^ 40≤5 ^ 40:=by
  rw [hc,Int.pow_add,Int.pow_add,←Int.mul_assoc]
  exact Int.mul_le_mul h2 (two_five c) (Int.le_of_lt (pow_pos2 c)) (Int.le_of_lt (pow_pos5 d))
 have e2:(2:Int) ^ 40=1099511627776:=by decide
 have e5:(5:Int) ^ 40=9094947017729282379150390625:=by decide
 rw [e2,e5] at e
 omega
theorem Bd.mul {x k:Int} {d c:Nat} (h:Bd x d) (hk:Bd k c):Bd (x*k) (d+c):=by
 obtain ⟨h1,h2⟩:=h
 obtain ⟨h3,h4⟩:=hk
 refine ⟨?_,?_⟩
 · have:=Int.mul_le_mul h1 h3 (by omega) (by omega:(0:Int)≤x);omega
 · have e:x*k*2 ^ (d+c)=(x*2 ^ d)*(k*2 ^ c):=by rw [Int.pow_add];ac_rfl
   rw [e,Int.pow_add]
   exact Int.mul_le_mul h2 h4 (Int.mul_nonneg (by omega) (Int.le_of_lt (pow_pos2 c))) (Int.le_of_lt (pow_pos5 d))
theorem sum_le {x y A B C D:Int} (hx:x*C≤A) (hy:y*D≤B) (hC:0<C) (hD:0<D):(x+y)*(C*D)≤A*D+B*C:=by
 have e:(x+y)*(C*D)=(x*C)*D+(y*D)*C:=by rw [Int.add_mul];congr 1 <;> ac_rfl
 rw [e]
 have h1:=Int.mul_le_mul_of_nonneg_right hx (Int.le_of_lt hD)
 have h2:=Int.mul_le_mul_of_nonneg_right hy (Int.le_of_lt hC)
 omega
theorem Bd.add {x y:Int} {a b:Nat} (hx:Bd x a) (hy:Bd y b) (ha:1≤a) (hb:1≤b):Bd (x+y) (a+b):=by
 refine ⟨by have:=hx.1;have:=hy.1;omega,?_⟩
 rw [Int.pow_add,Int.pow_add]
 have h:=sum_le hx.2 hy.2 (pow_pos2 a) (pow_pos2 b)
 have h1:=Int.mul_le_mul_of_nonneg_left (two_five1 b hb) (Int.le_of_lt (pow_pos5 a))
 have h2:=Int.mul_le_mul_of_nonneg_left (two_five1 a ha) (Int.le_of_lt (pow_pos5 b))
 have e1:(5:Int) ^ a*(5*2 ^ b)=5*(5 ^ a*2 ^ b):=by ac_rfl
 have e2:(5:Int) ^ a*(2*5 ^ b)=2*(5 ^ a*5 ^ b):=by ac_rfl
 have e3:(5:Int) ^ b*(5*2 ^ a)=5*(5 ^ b*2 ^ a):=by ac_rfl
 have e4:(5:Int) ^ b*(2*5 ^ a)=2*(5 ^ a*5 ^ b):=by ac_rfl
 rw [e1,e2] at h1
 rw [e3,e4] at h2
 have h3:=Int.mul_pos (pow_pos5 a) (pow_pos5 b)
 omega
theorem Bd.or {x y:Int} {a b:Nat} (hx:Bd x a) (hy:Bd y b):Bd (x+y) (a+b+1):=by
 refine ⟨by have:=hx.1;have:=hy.1;omega,?_⟩
 rw [Int.pow_succ,Int.pow_succ,Int.pow_add,Int.pow_add]
 have h:=sum_le hx.2 hy.2 (pow_pos2 a) (pow_pos2 b)
 have h1:=Int.mul_le_mul_of_nonneg_left (two_five b) (Int.le_of_lt (pow_pos5 a))
 have h2:=Int.mul_le_mul_of_nonneg_left (two_five a) (Int.le_of_lt (pow_pos5 b))
 have e4:(5:Int) ^ b*5 ^ a=5 ^ a*5 ^ b:=by ac_rfl
 rw [e4] at h2
 have h3:=Int.mul_pos (pow_pos5 a) (pow_pos5 b)
 have e5:(x+y)*(2 ^ a*2 ^ b*2)=2*((x+y)*(2 ^ a*2 ^ b)):=by ac_rfl
 rw [e5]
 omega
theorem Bd.more {x:Int} {d c:Nat} (h:Bd x d):Bd x (d+c):=by have:=h.mul (Bd.one c);rwa [Int.mul_one] at this
theorem cap_add (x y:Int) (hx:1≤x) (hy:1≤y):cap61 (cap61 x+cap61 y)=cap61 (x+y):=by
 unfold cap61;repeat' split
 all_goals omega
theorem cap_mul (x k:Int) (hx:1≤x) (hk:1≤k):cap61 (cap61 x*k)=cap61 (x*k):=by
 by_cases h:61<x
 · have e:cap61 x=61:=if_pos h
   rw [e]
   have h1:x≤x*k:=by have:=Int.mul_le_mul_of_nonneg_left hk (by omega:(0:Int)≤x);omega
   have h2:61≤61*k:=by omega
   unfold cap61
   rw [if_pos (show 61<x*k by omega)]
   split
   · rfl
   · omega
 · have e:cap61 x=x:=if_neg h
   rw [e]
end Go.Proofs.YtgifhgnccmnbiabGreat
