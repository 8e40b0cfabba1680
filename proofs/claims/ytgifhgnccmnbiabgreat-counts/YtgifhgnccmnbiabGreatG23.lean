/- The code's machine and the simple one find the same lines. No Go in it. -/
import Derived.Test.YtgifhgnccmnbiabGreatG22
import Derived.Test.YtgifhgnccmnbiabGreatG14
import Derived.Test.YtgifhgnccmnbiabGreatG01
import Derived.Test.YtgifhgnccmnbiabGreatG03
set_option linter.unusedVariables false
set_option linter.unusedSimpArgs false
set_option maxHeartbeats 4000000
set_option maxRecDepth 100000
namespace Go.Proofs.YtgifhgnccmnbiabGreat
def HiZ (m:MP):Prop:=∀s,61≤s→m.next s=0#64
def Meet (A B:B64):Prop:=∃s,A.getLsbD s=true∧B.getLsbD s=true
theorem fresh_bit {b:Nat}:freshB.getLsbD b=true↔b=62:=by
 have e:freshB=1#64 <<< 62:=by decide
 rw [e];exact one_bit (by decide)
theorem meet_iff {A B:B64}:(!decide (A&&&B=0#64))=true↔Meet A B:=by
 rw [Bool.not_eq_true',decide_eq_false_iff_not,and_none]
 exact Classical.not_not
theorem meet_not {A B:B64}:A&&&B=0#64↔¬Meet A B:=and_none
theorem follow_more {m:MP} {S S':B64} (hz:HiZ m) (h:∀b,b<61→(S'.getLsbD b=true↔S.getLsbD b=true)):followQ m S' 63=followP m S:=by
 apply BitVec.eq_of_getLsbD_eq
 intro b hb
 rw [Bool.eq_iff_iff]
 unfold followP
 rw [follow_bit,follow_bit]
 constructor
 · rintro ⟨s,h1,h2,h3⟩
   have hs:s<61:=by
    apply Classical.byContradiction
    intro hc
    rw [hz s (by omega)] at h3
    simp at h3
   exact ⟨s,hs,(h s hs).1 h2,h3⟩
 · rintro ⟨s,h1,h2,h3⟩
   exact ⟨s,by omega,(h s h1).2 h2,h3⟩
theorem into_bit (m:MP) (tk S:B64):∀q,q≤63→∀b,(intoQ m tk S q).getLsbD b=true↔b<q∧∃i,(m.next b).getLsbD i=true∧tk.getLsbD i=true∧S.getLsbD i=true
 | 0,_,b=>by simp [intoQ]
 | q+1,hq,b=>by
   have ih:=into_bit m tk S q (by omega) b
   have key:m.next q&&&tk&&&S=0#64↔¬ ∃i,(m.next q).getLsbD i=true∧tk.getLsbD i=true∧S.getLsbD i=true:=by
    rw [and_none]
    simp only [bit_and,Bool.and_eq_true,and_assoc]
   rw [intoQ]
   by_cases hz:m.next q&&&tk&&&S=0#64
   · rw [if_pos hz,ih]
     constructor
     · rintro ⟨h1,h2⟩;exact ⟨by omega,h2⟩
     · rintro ⟨h1,h2⟩
       by_cases hb:b=q
       · subst hb;exact absurd h2 (key.1 hz)
       · exact ⟨by omega,h2⟩
   · rw [if_neg hz,bit_or,Bool.or_eq_true,ih,one_bit (by omega)]
     constructor
     · rintro (⟨h1,h2⟩ | h1)
       · exact ⟨by omega,h2⟩
       · subst h1
         exact ⟨by omega,Classical.byContradiction fun hc=>hz (key.2 hc)⟩
     · rintro ⟨h1,h2⟩
       by_cases hb:b=q
       · exact Or.inr hb
       · exact Or.inl ⟨by omega,h2⟩
section
variable {m:MP} {free S X:B64}
theorem step_dual (hz:HiZ m):Meet (S|||(followP m S&&&free)) X↔Meet S (X|||intoP m free X):=by
 unfold Meet intoP
 constructor
 · rintro ⟨b,h1,h2⟩
   rw [bit_or,bit_and,Bool.or_eq_true,Bool.and_eq_true] at h1
   rcases h1 with h1 | ⟨h1,h3⟩
   · exact ⟨b,h1,by rw [bit_or,h2];rfl⟩
   · unfold followP at h1
     obtain ⟨s,h4,h5,h6⟩:=(follow_bit m S 61 b).1 h1
     exact ⟨s,h5,by rw [bit_or,Bool.or_eq_true];exact Or.inr ((into_bit m free X 63 (by omega) s).2 ⟨by omega,b,h6,h3,h2⟩)⟩
 · rintro ⟨s,h1,h2⟩
   rw [bit_or,Bool.or_eq_true] at h2
   rcases h2 with h2 | h2
   · exact ⟨s,by rw [bit_or,h1];rfl,h2⟩
   · obtain ⟨h3,i,h4,h5,h6⟩:=(into_bit m free X 63 (by omega) s).1 h2
     have hs:s<61:=by
      apply Classical.byContradiction
      intro hc
      rw [hz s (by omega)] at h4
      simp at h4
     refine ⟨i,?_,h6⟩
     rw [bit_or,bit_and,Bool.or_eq_true,Bool.and_eq_true]
     exact Or.inr ⟨(follow_bit m S 61 i).2 ⟨s,hs,h1,h4⟩,h5⟩
theorem enough_shift:∀k,enoughQ m free (X|||intoP m free X) k=enoughQ m free X (k+1)
 | 0=>rfl
 | k+1=>by
   show enoughQ m free (X|||intoP m free X) k|||intoP m free (enoughQ m free (X|||intoP m free X) k)=_
   rw [enough_shift k]
   rfl
theorem still_dual (hz:HiZ m):∀(k:Nat) (X:B64),Meet (stillQ m free S k) X↔Meet S (enoughQ m free X k)
 | 0,X=>Iff.rfl
 | k+1,X=>by
   show Meet (stillQ m free S k|||(followP m (stillQ m free S k)&&&free)) X↔_
   rw [step_dual hz,still_dual hz k,enough_shift]
theorem accept_iff (hz:HiZ m) (e:Bool):acceptsP m S e=true↔Meet S (enoughP m (freeP m e)):=by
 unfold acceptsP
 rw [meet_iff]
 exact still_dual hz 60 _
theorem enough_up {free':B64} (h:∀b,free.getLsbD b=true→free'.getLsbD b=true):∀q b,(enoughQ m free X q).getLsbD b=true→(enoughQ m free' X q).getLsbD b=true
 | 0,b,hb=>hb
 | q+1,b,hb=>by
   rw [enoughQ,bit_or,Bool.or_eq_true] at hb ⊢
   rcases hb with hb | hb
   · exact Or.inl (enough_up h q b hb)
   · unfold intoP at hb ⊢
     obtain ⟨h1,i,h2,h3,h4⟩:=(into_bit _ _ _ 63 (by omega) b).1 hb
     exact Or.inr ((into_bit _ _ _ 63 (by omega) b).2 ⟨h1,i,h2,h _ h3,enough_up h q i h4⟩)
theorem enough_no (hz:HiZ m) (hX:X.getLsbD 62=false):∀q,(enoughQ m free X q).getLsbD 62=false
 | 0=>hX
 | q+1=>by
   rw [enoughQ,bit_or,enough_no hz hX q,Bool.false_or]
   cases h:(intoP m free (enoughQ m free X q)).getLsbD 62 with
   | false=>rfl
   | true=>
     unfold intoP at h
     obtain ⟨_,i,h2,_⟩:=(into_bit _ _ _ 63 (by omega) 62).1 h
     rw [hz 62 (by omega)] at h2
     simp at h2
theorem beg_eq (hz:HiZ m):∀q,begQ m q=stillQ m m.begins startB q|||freshB
 | 0=>rfl
 | q+1=>by
   have e:followQ m (begQ m q) 63=followP m (stillQ m m.begins startB q):=follow_more hz fun b hb=>by
    rw [beg_eq hz q,bit_or,Bool.or_eq_true,fresh_bit]
    constructor
    · rintro (h | h)
      · exact h
      · omega
    · exact Or.inl
   show begQ m q|||(followQ m (begQ m q) 63&&&m.begins)=(stillQ m m.begins startB q|||(followP m (stillQ m m.begins startB q)&&&m.begins))|||freshB
   rw [e,beg_eq hz q,BitVec.or_assoc,BitVec.or_assoc,BitVec.or_comm freshB]
end
section
variable {m:MP} {ns:List AN} {P:GP} {fold whole:Bool} {t:ByteArray}
theorem any_next {s b:Nat} (hs:s<63):((anyP (begM m)).next s).getLsbD b=true↔(m.next s).getLsbD b=true∨(s=60∧b=60)∨(b=61∧(m.last.getLsbD s=true∨s=61)):=by
 have e:(anyP (begM m)).next s=if s<63∧(m.last.getLsbD s=true∨s=61) then (if s=60 then m.next s|||startB else m.next s)|||foundB else if s=60 then m.next s|||startB else m.next s:=rfl
 have e1:(if s=60 then m.next s|||startB else m.next s).getLsbD b=true↔(m.next s).getLsbD b=true∨(s=60∧b=60):=by
  by_cases h:s=60
  · rw [if_pos h,bit_or,Bool.or_eq_true,start_bit];simp [h]
  · rw [if_neg h];simp [h]
 rw [e]
 by_cases h:m.last.getLsbD s=true∨s=61
 · rw [if_pos ⟨hs,h⟩,bit_or,Bool.or_eq_true,e1,found_bit,or_assoc]
   simp only [h,and_true]
 · rw [if_neg (fun hc=>h hc.2),e1]
   simp only [h,and_false,or_false]
theorem any_takes {c b:Nat} (hc:c<256):((anyP (begM m)).takes c).getLsbD b=true↔(m.takes c).getLsbD b=true∨b=60∨b=61:=by
 have e:(anyP (begM m)).takes c=if c<256 then m.takes c|||(startB|||foundB) else m.takes c:=rfl
 rw [e,if_pos hc,bit_or,bit_or,Bool.or_eq_true,Bool.or_eq_true,start_bit,found_bit]
theorem last_no62 (hm:MF m ns P fold whole):m.last.getLsbD 62=false:=by
 cases h:m.last.getLsbD 62 with
 | false=>rfl
 | true=>
   have hr:=hm.fit.room
   rcases (hm.last 62).1 h with h | h
   · have:=hm.fit.last _ h;omega
   · omega
theorem start_in (hm:MF m ns P fold false):∀q,q≤t.size→(setQ m t q).getLsbD 60=true
 | 0,_=>(begin_facts (t:=t) hm).2.1
 | q+1,hq=>by
   rw [setQ,dif_pos (by omega:q<t.size)]
   exact (behind_bit hm).2 (Or.inr (Or.inr (Or.inr rfl)))
theorem sub_all (hm:MF m ns P fold whole) (q:Nat) (hq:q≤t.size):Sub P (setQ m t q):=by
 cases whole with
 | true=>exact fun b h=>((invW (t:=t) hm q hq).sub b h).elim Or.inl (fun h=>Or.inr (Or.inl h))
 | false=>exact (invA (t:=t) hm q hq).sub
theorem set_same (hm:MF m ns P fold whole) (hz:HiZ m):∀q,q≤t.size→∀b,(setN (finP m) t q).getLsbD b=true↔(setQ m t q).getLsbD b=true∨(b=62∧q=0)
 | 0,_,b=>by
   have e0:setN (finP m) t 0=begQ m 60:=by
    show (finP m).beg=_
    unfold finP
    split <;> rfl
   rw [e0]
   show (begQ m 60).getLsbD b=true↔(stillQ m m.begins startB 60).getLsbD b=true∨_
   rw [beg_eq hz,bit_or,Bool.or_eq_true,fresh_bit]
   simp
 | q+1,hq,b=>by
   have ih:=set_same hm hz q (by omega)
   have hqt:q<t.size:=by omega
   have hS:=sub_all (t:=t) hm q (by omega)
   have hroom:=hm.fit.room
   have hc:=t[q].toNat_lt
   rw [setN,setQ,dif_pos hqt]
   simp only [Nat.add_eq_zero_iff,Nat.one_ne_zero,and_false,or_false]
   cases whole with
   | true=>
     have e1:finP m=begM m:=by unfold finP;rw [if_pos hm.whole]
     have e2:followQ m (setN (finP m) t q) 63=followP m (setQ m t q):=follow_more hz fun b hb=>by
      rw [ih b]
      constructor
      · rintro (h | h)
        · exact h
        · omega
      · exact Or.inl
     rw [show fromP (finP m) ((finP m).takes t[q].toNat) (setN (finP m) t q)=fromP m (m.takes t[q].toNat) (setN (finP m) t q) by rw [fromP_next (m:=m) (by rw [e1];rfl),e1];rfl]
     unfold fromP behindP
     rw [e2,if_pos hm.whole]
     exact Iff.rfl
   | false=>
     have e1:finP m=anyP (begM m):=by unfold finP;rw [if_neg (by rw [hm.whole];decide)]
     have e2:(finP m).takes t[q].toNat=(anyP (begM m)).takes t[q].toNat:=by rw [e1]
     have e3:∀s,(finP m).next s=(anyP (begM m)).next s:=fun s=>by rw [e1]
     rw [behind_bit hm]
     unfold fromP
     rw [bit_and,Bool.and_eq_true,follow_bit,e2,any_takes hc]
     simp only [e3]
     have hno:=last_no62 hm
     constructor
     · rintro ⟨⟨s,h1,h2,h3⟩,h4⟩
       rw [any_next h1] at h3
       have hs:(setQ m t q).getLsbD s=true:=by
        rcases (ih s).1 h2 with h | ⟨h,_⟩
        · exact h
        · subst h
          exfalso
          rcases h3 with h3 | h3 | h3
          · rw [hz 62 (by omega)] at h3;simp at h3
          · omega
          · rcases h3.2 with h | h
            · rw [hno] at h;exact absurd h (by decide)
            · omega
       rcases h3 with h3 | h3 | ⟨h5,h3 | h3⟩
       · have hs61:s<61:=by
          apply Classical.byContradiction
          intro hc
          rw [hz s (by omega)] at h3
          simp at h3
         have hf:(followP m (setQ m t q)).getLsbD b=true:=(follow_bit m _ 61 b).2 ⟨s,hs61,hs,h3⟩
         obtain ⟨s',_,hn⟩:=(follow_nx hm hS).1 hf
         have hb:=hn.lt hm.fit
         rcases h4 with h4 | h4 | h4
         · refine Or.inl ?_
           unfold afterP
           rw [bit_and,hf,h4];rfl
         · omega
         · omega
       · exact Or.inr (Or.inr (Or.inr h3.2))
       · exact Or.inr (Or.inl ⟨h5,s,hs,h3⟩)
       · subst h3;exact Or.inr (Or.inr (Or.inl ⟨h5,hs⟩))
     · rintro (h | ⟨h1,s,h2,h3⟩ | ⟨h1,h2⟩ | h)
       · unfold afterP at h
         rw [bit_and,Bool.and_eq_true] at h
         obtain ⟨s,h1,h2,h3⟩:=(follow_bit m _ 61 b).1 h.1
         exact ⟨⟨s,by omega,(ih s).2 (Or.inl h2),(any_next (by omega)).2 (Or.inl h3)⟩,Or.inl h.2⟩
       · have hs:s<63:=by
          rcases hS s h2 with h | h | h <;> omega
         exact ⟨⟨s,hs,(ih s).2 (Or.inl h2),(any_next hs).2 (Or.inr (Or.inr ⟨h1,Or.inl h3⟩))⟩,Or.inr (Or.inr h1)⟩
       · exact ⟨⟨61,by omega,(ih 61).2 (Or.inl h2),(any_next (by omega)).2 (Or.inr (Or.inr ⟨h1,Or.inr rfl⟩))⟩,Or.inr (Or.inr h1)⟩
       · subst h
         exact ⟨⟨60,by omega,(ih 60).2 (Or.inl (start_in hm q (by omega))),(any_next (by omega)).2 (Or.inr (Or.inl ⟨rfl,rfl⟩))⟩,Or.inr (Or.inl rfl)⟩
theorem en_bit {b:Nat}:(enP m).getLsbD b=true↔(enoughP m m.ends).getLsbD b=true∨(b=62∧Meet (begP m) (enoughP m (m.ends|||m.begins))):=by
 unfold enP
 by_cases h:begP m&&&enoughP m (m.ends|||m.begins)=0#64
 · rw [if_pos h]
   simp only [meet_not.1 h,and_false,or_false]
 · rw [if_neg h,bit_or,Bool.or_eq_true,fresh_bit]
   have:Meet (begP m) (enoughP m (m.ends|||m.begins)):=Classical.byContradiction fun hc=>h (meet_not.2 hc)
   simp only [this,and_true]
theorem found_no62 (hm:MF m ns P fold whole):(m.last|||foundB).getLsbD 62=false:=by
 rw [bit_or,last_no62 hm]
 decide
theorem matches_same (hm:MF m ns P fold whole) (hz:HiZ m):matchesN (finP m) t=matchesP m t:=by
 rw [Bool.eq_iff_iff]
 have e0:(finP m).en=enP m:=by unfold finP;split <;> rfl
 unfold matchesN matchesP
 rw [meet_iff,accept_iff hz,e0]
 have hS:=sub_all (t:=t) hm t.size (Nat.le_refl _)
 have hroom:=hm.fit.room
 have hset:=set_same (t:=t) hm hz t.size (Nat.le_refl _)
 have no62:∀free,(enoughP m free).getLsbD 62=false:=fun free=>enough_no hz (found_no62 hm) 60
 by_cases hn:t.size=0
 · have e:(t.size==0)=true:=by rw [hn];rfl
   have ef:freeP m true=m.ends|||m.begins:=rfl
   rw [e,ef]
   have hb:∀b,(begP m).getLsbD b=true↔(setQ m t t.size).getLsbD b=true∨b=62:=fun b=>by
    have:=hset b
    rw [hn] at this ⊢
    have hbeg:setN (finP m) t 0=begP m:=by
     show (finP m).beg=_
     unfold finP
     split <;> rfl
    rw [hbeg] at this
    rw [this]
    simp
   have key:Meet (begP m) (enoughP m (m.ends|||m.begins))↔Meet (setQ m t t.size) (enoughP m (m.ends|||m.begins)):=by
    constructor
    · rintro ⟨s,h1,h2⟩
      rcases (hb s).1 h1 with h | h
      · exact ⟨s,h,h2⟩
      · subst h;rw [no62] at h2;exact absurd h2 (by decide)
    · rintro ⟨s,h1,h2⟩;exact ⟨s,(hb s).2 (Or.inl h1),h2⟩
   constructor
   · rintro ⟨s,h1,h2⟩
     rcases en_bit.1 h2 with h | h
     · rcases (hset s).1 h1 with h3 | h3
       · exact ⟨s,h3,enough_up (fun b h=>by rw [bit_or,h];rfl) 60 s h⟩
       · rw [h3.1,no62] at h;exact absurd h (by decide)
     · exact key.1 h.2
   · intro h
     exact ⟨62,(hset 62).2 (Or.inr ⟨rfl,hn⟩),en_bit.2 (Or.inr ⟨rfl,key.2 h⟩)⟩
 · have e:(t.size==0)=false:=by simp [hn]
   have ef:freeP m false=m.ends:=rfl
   rw [e,ef]
   constructor
   · rintro ⟨s,h1,h2⟩
     have h3:(setQ m t t.size).getLsbD s=true:=by
      rcases (hset s).1 h1 with h | h
      · exact h
      · exact absurd h.2 hn
     rcases en_bit.1 h2 with h | h
     · exact ⟨s,h3,h⟩
     · rcases hS s h3 with h4 | h4 | h4 <;> omega
   · rintro ⟨s,h1,h2⟩
     exact ⟨s,(hset s).2 (Or.inl h1),en_bit.2 (Or.inl h2)⟩
theorem built_hi (ns:List AN) (P:GP) (fold whole:Bool):∀q,q≤60→HiZ (buildQ ns P fold whole q)
 | 0,_,s,hs=>by
   show (if s=60 then P.first else 0#64)=0#64
   rw [if_neg (by omega)]
 | q+1,hq,s,hs=>by
   have ih:=built_hi ns P fold whole q (by omega) s hs
   have e:(nextM (buildQ ns P fold whole q) q (P.next q)).next s=0#64:=by
    show (if s=q then P.next q else (buildQ ns P fold whole q).next s)=0#64
    rw [if_neg (by omega)];exact ih
   rw [buildQ]
   cases ns[P.node q]? with
   | none=>exact e
   | some n=>
     show (learnP _ _ n fold).next s=0#64
     unfold learnP learnQ
     repeat' split
     all_goals exact e
end
end Go.Proofs.YtgifhgnccmnbiabGreat
namespace Go.Proofs.YtgifhgnccmnbiabGreat
open Go.RowKit Go.IntWalk
def PatE (t:ByteArray) (e:Int):Prop:=
 (40<t.size∧e=3)∨(t.size≤40∧∃r:Nat×PS,Ev t 0 0 st0 r∧((BadR t r∧e=2)∨(¬BadR t r∧60<sizeAt r.2.2 r.1∧e=3)))
structure PatOk (t:ByteArray) (r:Nat×PS):Prop where
 small:t.size≤40
 ev:Ev t 0 0 st0 r
 good:¬BadR t r
 size:sizeAt r.2.2 r.1≤60
theorem pat_cases (t:ByteArray):(∃e,PatE t e)∨∃r,PatOk t r:=by
 by_cases h:40<t.size
 · exact Or.inl ⟨3,Or.inl ⟨h,rfl⟩⟩
 · obtain ⟨r,d,_⟩:=(below_all (t:=t) (t.size+1) st0 (Nat.zero_le _) (by omega)).1 0
   have ev:Ev t 0 0 st0 r:=d.ev
   by_cases hb:BadR t r
   · exact Or.inl ⟨2,Or.inr ⟨by omega,r,ev,Or.inl ⟨hb,rfl⟩⟩⟩
   · by_cases hs:60<sizeAt r.2.2 r.1
     · exact Or.inl ⟨3,Or.inr ⟨by omega,r,ev,Or.inr ⟨hb,hs,rfl⟩⟩⟩
     · exact Or.inr ⟨r,by omega,ev,hb,by omega⟩
theorem PatE.ne {t:ByteArray} {e:Int} (h:PatE t e):e=2∨e=3:=by
 rcases h with ⟨_,rfl⟩ | ⟨_,r,_,⟨_,rfl⟩ | ⟨_,_,rfl⟩⟩
 · exact Or.inr rfl
 · exact Or.inl rfl
 · exact Or.inr rfl
theorem PatE.one {t:ByteArray} {e e':Int} (h:PatE t e) (h':PatE t e'):e=e':=by
 rcases h with ⟨a,rfl⟩ | ⟨a,r,ev,hc⟩ <;> rcases h' with ⟨b,rfl⟩ | ⟨b,r',ev',hc'⟩
 · rfl
 · omega
 · omega
 · have:=ev.one ev'
   subst this
   rcases hc with ⟨h1,rfl⟩ | ⟨h1,h2,rfl⟩ <;> rcases hc' with ⟨h3,rfl⟩ | ⟨h3,h4,rfl⟩
   · rfl
   · exact absurd h1 h3
   · exact absurd h3 h1
   · rfl
theorem PatOk.not {t:ByteArray} {e:Int} {r:Nat×PS} (h:PatOk t r) (h':PatE t e):False:=by
 have:=h.small
 rcases h' with ⟨b,rfl⟩ | ⟨b,r',ev',hc'⟩
 · omega
 · have:=h.ev.one ev'
   subst this
   rcases hc' with ⟨h3,_⟩ | ⟨h3,h4,_⟩
   · exact h.good h3
   · have:=h.size;omega
theorem PatOk.okay {t:ByteArray} {r:Nat×PS} (h:PatOk t r):Okay t r:=okay_of h.small h.ev h.size
def selB (r:Nat×PS) (fold whole:Bool) (l:ByteArray):Bool:=matchesP (buildP r.2.2 (lastQ r.2.2 r.2.2.length) fold whole) l
theorem root_part {t:ByteArray} {r:Nat×PS} (h:PatOk t r):lastQ r.2.2 r.2.2.length=partN r.2.2 r.1∧PartOfN r.2.2 r.1:=by
 have o:=h.okay
 have htop:=o.top
 exact ⟨by rw [←o.top];rfl,part_all o.ok o.all o.len (r.1+1) r.1 (by omega) (by omega)⟩
theorem all_same:allSame:=fun t r ht ev hb hs fold whole l=>by
 obtain ⟨e,p⟩:=root_part ⟨ht,ev,hb,hs⟩
 rw [e]
 exact matches_same (mf_of r.2.2 _ p.fit fold whole) (built_hi r.2.2 _ fold whole _ p.fit.room)
theorem sel_whole {t:ByteArray} {r:Nat×PS} (h:PatOk t r) (fold:Bool) (l:ByteArray):selB r fold true l=true↔Mat r.2.2 fold l r.1 0 l.size:=by
 obtain ⟨e,p⟩:=root_part h
 unfold selB
 rw [e,whole_iff (mf_of r.2.2 _ p.fit fold true)]
 constructor
 · rintro ⟨u,h1,h2⟩
   exact ⟨_,(p.lang _).1 ⟨u,(runX_acc p.fit).1 h1,rfl⟩,h2⟩
 · rintro ⟨u,h1,h2⟩
   obtain ⟨v,h3,rfl⟩:=(p.lang _).2 h1
   exact ⟨v,(runX_acc p.fit).2 h3,h2⟩
theorem sel_any {t:ByteArray} {r:Nat×PS} (h:PatOk t r) (fold:Bool) (l:ByteArray):selB r fold false l=true↔∃i j,Mat r.2.2 fold l r.1 i j:=by
 obtain ⟨e,p⟩:=root_part h
 unfold selB
 rw [e,any_iff (mf_of r.2.2 _ p.fit fold false)]
 constructor
 · rintro ⟨i,j,u,h1,h2⟩
   exact ⟨i,j,_,(p.lang _).1 ⟨u,(runX_acc p.fit).1 h1,rfl⟩,h2⟩
 · rintro ⟨i,j,u,h1,h2⟩
   obtain ⟨v,h3,rfl⟩:=(p.lang _).2 h1
   exact ⟨i,j,v,(runX_acc p.fit).2 h3,h2⟩
theorem sel_same {t l:ByteArray} {r:Nat×PS} (h:PatOk t r) {fold whole y:Bool} {q:Nat×RP} (hq:EvR t 0 [] rp0 q) (hs:SelOk whole l.size (MatR q.2.2 fold l q.1) y):y=selB r fold whole l:=by
 obtain ⟨s1,s2,hw,s4⟩:=check_same h.small h.ev hq
 have hnb:¬BadT t q:=fun hc=>h.good (s1.2 hc)
 have same:=(s4 hnb).iff [] [] (by rw [List.append_nil];exact hw) fold l
 simp only [List.append_nil] at same
 rw [Bool.eq_iff_iff]
 cases whole with
 | true=>rw [hs.all rfl,sel_whole h];exact same 0 l.size (by omega) (Nat.le_refl _)
 | false=>
   rw [hs.part rfl,sel_any h]
   constructor
   · rintro ⟨a,b,h1,h2,h3⟩;exact ⟨a,b,(same a b (by omega) h2).1 h3⟩
   · rintro ⟨a,b,h3⟩
     have hb:=h3.le
     exact ⟨a,b,hb.2.2,hb.2.1,(same a b hb.1 hb.2.1).2 h3⟩
theorem good_of {t:ByteArray} (ht:t.size≤40):∀q,EvR t 0 [] rp0 q→¬BadT t q→GoodT q.2.2 q.1:=fun q hq hb=>by
 obtain ⟨r,d,_⟩:=(below_all (t:=t) (t.size+1) st0 (Nat.zero_le _) (by omega)).1 0
 exact ((check_same ht d.ev hq).2.2.2 hb).good
end Go.Proofs.YtgifhgnccmnbiabGreat
namespace Go.Proofs.YtgifhgnccmnbiabGreat
def capL (n:Nat):Nat:=if 1099511627777<n then 1099511627777 else n
theorem capL_le (n:Nat):capL n≤1099511627777:=by unfold capL;split <;> omega
theorem capL_cases (n:Nat):(n≤1099511627777∧capL n=n)∨(1099511627777<n∧capL n=1099511627777):=by
 unfold capL
 by_cases h:1099511627777<n
 · rw [if_pos h];exact Or.inr ⟨h,rfl⟩
 · rw [if_neg h];exact Or.inl ⟨by omega,rfl⟩
theorem capL_add (a b:Nat):capL (capL a+capL b)=capL (a+b):=by
 have h1:=capL_cases a
 have h2:=capL_cases b
 have h3:=capL_cases (a+b)
 have h4:=capL_cases (capL a+capL b)
 omega
theorem capL_zero {n:Nat}:capL n=0↔n=0:=by unfold capL;split <;> omega
theorem capL_small {n:Nat} (h:capL n≤1099511627776):capL n=n:=by unfold capL at h ⊢;split at h <;> (split <;> omega)
theorem capL_of {n:Nat} (h:n≤1099511627777):capL n=n:=by unfold capL;rw [if_neg (by omega)]
structure PT where
 len:Nat:=0
 nl:Nat:=0
 first:Nat:=0
 last:Nat:=0
deriving DecidableEq
def nls (t:List Nat):Nat:=(t.filter (·==10)).length
def ptOf (t:List Nat):PT:=if t=[] then {} else { len:=capL t.length,nl:=capL (nls t),first:=t.headD 0,last:=t.getLastD 0 }
def joinP (a b:PT):PT:=if a.len=0 then b else if b.len=0 then a else { len:=capL (a.len+b.len),nl:=capL (a.nl+b.nl),first:=a.first,last:=b.last }
def byteP (c:Nat):PT:={ len:=1,nl:=if c=10 then 1 else 0,first:=c,last:=c }
theorem nls_app (a b:List Nat):nls (a++b)=nls a+nls b:=by simp [nls,List.filter_append]
theorem nls_le (t:List Nat):nls t≤t.length:=List.length_filter_le _ _
theorem ptOf_len (t:List Nat):(ptOf t).len=capL t.length:=by
 unfold ptOf;split
 · rename_i h;subst h;rfl
 · rfl
theorem ptOf_nl (t:List Nat):(ptOf t).nl=capL (nls t):=by
 unfold ptOf;split
 · rename_i h;subst h;rfl
 · rfl
theorem ptOf_one (c:Nat):ptOf [c]=byteP c:=by
 unfold ptOf byteP nls
 rw [if_neg (by simp)]
 by_cases h:c=10
 · subst h;rfl
 · simp [h,capL]
theorem join_ptOf (a b:List Nat):joinP (ptOf a) (ptOf b)=ptOf (a++b):=by
 unfold joinP
 by_cases ha:a=[]
 · subst ha;rw [if_pos (show (ptOf []).len=0 from rfl)];rfl
 · have h1:(ptOf a).len≠0:=by rw [ptOf_len,Ne,capL_zero];intro h;exact ha (List.eq_nil_of_length_eq_zero h)
   rw [if_neg h1]
   by_cases hb:b=[]
   · subst hb;rw [if_pos (show (ptOf []).len=0 from rfl),List.append_nil]
   · have h2:(ptOf b).len≠0:=by rw [ptOf_len,Ne,capL_zero];intro h;exact hb (List.eq_nil_of_length_eq_zero h)
     rw [if_neg h2,ptOf_len,ptOf_len,ptOf_nl,ptOf_nl,capL_add,capL_add]
     unfold ptOf
     rw [if_neg ha,if_neg hb,if_neg (by simp [ha])]
     simp only [PT.mk.injEq]
     refine ⟨by rw [List.length_append],by rw [nls_app],?_,?_⟩
     · cases a with
       | nil=>exact absurd rfl ha
       | cons x l=>rfl
     · cases b with
       | nil=>exact absurd rfl hb
       | cons x l=>rw [List.getLastD_eq_getLast?,List.getLastD_eq_getLast?,List.getLast?_append];rw [List.getLast?_eq_some_getLast (by simp)];rfl
structure RU where
 l:Nat
 r:Nat
 pt:PT
def partAt (rs:List RU) (s:Nat):PT:=if s<256 then byteP s else ((rs[s-256]?).map RU.pt).getD {}
def ruleP (rs:List RU) (l r:Nat):RU:={ l:=l,r:=r,pt:=joinP (partAt rs l) (partAt rs r) }
def symT (T:List (List Nat)) (s:Nat):List Nat:=if s<256 then [s] else T.getD (s-256) []
theorem symT_app {T U:List (List Nat)} {s:Nat} (h:s<256+T.length):symT (T++U) s=symT T s:=by
 unfold symT
 split
 · rfl
 · simp only [List.getD]
   rw [List.getElem?_append_left (by omega)]
theorem symT_new {T:List (List Nat)} {x:List Nat}:symT (T++[x]) (256+T.length)=x:=by
 unfold symT
 rw [if_neg (by omega),Nat.add_sub_cancel_left]
 simp [List.getD]
structure Sound (rs:List RU) (T:List (List Nat)):Prop where
 len:rs.length=T.length
 rule:∀i x,rs[i]?=some x→x.l<256+i∧x.r<256+i∧T.getD i []=symT T x.l++symT T x.r∧x.pt=ptOf (T.getD i [])
 full:∀i,i<T.length→T.getD i []≠[]
theorem Sound.nil:Sound [] []:=⟨rfl,fun i x h=>by simp at h,fun i h=>by simp at h⟩
theorem Sound.part {rs:List RU} {T:List (List Nat)} (h:Sound rs T) {s:Nat} (hs:s<256+rs.length):partAt rs s=ptOf (symT T s):=by
 unfold partAt symT
 by_cases h1:s<256
 · rw [if_pos h1,if_pos h1,ptOf_one]
 · rw [if_neg h1,if_neg h1]
   obtain ⟨x,hx⟩:∃x,rs[s-256]?=some x:=⟨_,List.getElem?_eq_getElem (by omega)⟩
   rw [hx]
   exact (h.rule _ _ hx).2.2.2
theorem Sound.ne {rs:List RU} {T:List (List Nat)} (h:Sound rs T) {s:Nat} (hs:s<256+rs.length):symT T s≠[]:=by
 unfold symT
 split
 · simp
 · exact h.full _ (by rw [←h.len];omega)
theorem Sound.push {rs:List RU} {T:List (List Nat)} (h:Sound rs T) {l r:Nat} (hl:l<256+rs.length) (hr:r<256+rs.length):
 Sound (rs++[ruleP rs l r]) (T++[symT T l++symT T r]):=by
 have hlen:=h.len
 refine ⟨by simp [hlen],fun i x hx=>?_,fun i hi=>?_⟩
 · by_cases hi:i<rs.length
   · rw [List.getElem?_append_left hi] at hx
     obtain ⟨a,b,c,d⟩:=h.rule i x hx
     have e:(T++[symT T l++symT T r]).getD i []=T.getD i []:=by simp only [List.getD];rw [List.getElem?_append_left (by omega)]
     rw [e,symT_app (by omega),symT_app (by omega)]
     exact ⟨a,b,c,d⟩
   · have hi2:i=rs.length:=by
      have:=(List.getElem?_eq_some_iff.1 hx).1
      simp at this;omega
     subst hi2
     rw [List.getElem?_append_right (Nat.le_refl _),Nat.sub_self] at hx
     simp at hx
     subst hx
     have e:(T++[symT T l++symT T r]).getD rs.length []=symT T l++symT T r:=by rw [hlen];simp [List.getD]
     rw [e]
     simp only [ruleP]
     rw [symT_app (by omega),symT_app (by omega)]
     exact ⟨hl,hr,rfl,by rw [h.part hl,h.part hr,join_ptOf]⟩
 · simp at hi
   by_cases hi2:i<T.length
   · have e:(T++[symT T l++symT T r]).getD i []=T.getD i []:=by simp only [List.getD];rw [List.getElem?_append_left hi2]
     rw [e];exact h.full i hi2
   · have:i=T.length:=by omega
     subst this
     have e:(T++[symT T l++symT T r]).getD T.length []=symT T l++symT T r:=by simp [List.getD]
     rw [e]
     simp [h.ne hl]
structure PI where
 long:Nat:=0
 ends:Nat:=0
 tail:Nat:=0
def tailL (t:List Nat):Nat:=(t.reverse.takeWhile (· != 10)).length
theorem takeWhile_all {l:List Nat} (h:nls l=0):l.takeWhile (· != 10)=l:=by
 induction l with
 | nil=>rfl
 | cons x l ih=>
   unfold nls at h ih
   by_cases hx:x=10
   · subst hx;simp at h
   · rw [List.takeWhile_cons_of_pos (by simpa using hx),ih (by simpa [hx] using h)]
theorem nls_rev (l:List Nat):nls l.reverse=nls l:=by unfold nls;rw [List.filter_reverse,List.length_reverse]
theorem takeWhile_app_stop {l m:List Nat} (h:nls l≠0):(l++m).takeWhile (· != 10)=l.takeWhile (· != 10):=by
 induction l with
 | nil=>exact absurd rfl h
 | cons x l ih=>
   by_cases hx:x=10
   · subst hx;simp
   · rw [List.cons_append,List.takeWhile_cons_of_pos (by simpa using hx),List.takeWhile_cons_of_pos (by simpa using hx),ih (by unfold nls at h ⊢;simpa [hx] using h)]
theorem tailL_app (a b:List Nat):tailL (a++b)=if nls b=0 then tailL a+b.length else tailL b:=by
 unfold tailL
 rw [List.reverse_append]
 split
 · rename_i h
   rw [List.takeWhile_append_of_pos (by
    intro x hx
    have:b.reverse.takeWhile (· != 10)=b.reverse:=takeWhile_all (by rw [nls_rev];exact h)
    rw [←this] at hx
    have h2:=List.all_takeWhile (p:=(· != 10)) (l:=b.reverse)
    rw [List.all_eq_true] at h2
    exact h2 x hx)]
   simp;omega
 · rename_i h
   rw [takeWhile_app_stop (by rw [nls_rev];exact h)]
def piOf (t:List Nat):PI:={ long:=capL t.length,ends:=capL (nls t),tail:=capL (tailL t) }
def capS (a b:Nat):Nat:=if 1099511627776<a+b then 1099511627777 else a+b
theorem capS_eq (a b:Nat):capS a b=capL (a+b):=by
 have h1:=capL_cases (a+b)
 unfold capS
 by_cases h:1099511627776<a+b
 · rw [if_pos h];omega
 · rw [if_neg h];omega
def joinedP (a b:PI):PI:={ long:=capS a.long b.long,ends:=capS a.ends b.ends,tail:=if b.ends=0 then capS a.tail b.long else b.tail }
theorem joined_piOf (a b:List Nat):joinedP (piOf a) (piOf b)=piOf (a++b):=by
 unfold joinedP piOf
 simp only [PI.mk.injEq]
 rw [capS_eq,capS_eq,capS_eq,capL_add,capL_add,capL_add,List.length_append,nls_app,tailL_app]
 refine ⟨rfl,rfl,?_⟩
 by_cases h:nls b=0
 · rw [if_pos (capL_zero.2 h),if_pos h]
 · rw [if_neg (fun hc=>h (capL_zero.1 hc)),if_neg h]
def sizeP (ps:List PI) (s:Nat):PI:=if s=10 then { long:=1,ends:=1 } else if s<256 then { long:=1,tail:=1 } else ps.getD (s-256) {}
theorem size_one (c:Nat):(if c=10 then ({ long:=1,ends:=1 }:PI) else { long:=1,tail:=1 })=piOf [c]:=by
 unfold piOf
 by_cases h:c=10
 · subst h;rfl
 · rw [if_neg h];simp [nls,tailL,h,capL]
end Go.Proofs.YtgifhgnccmnbiabGreat
namespace Go.Proofs.YtgifhgnccmnbiabGreat
open Go.RowKit Go.IntWalk
def PT.arr (p:PT):Array Value:=#[.int .i64 p.len,.int .i64 p.nl,.int .i64 p.first,.int .i64 p.last]
def PT.val (p:PT):Value:=.agg p.arr
structure PTsmall (p:PT):Prop where
 len:p.len≤1099511627777
 nl:p.nl≤1099511627777
theorem ptOf_small (t:List Nat):PTsmall (ptOf t):=⟨by rw [ptOf_len];exact capL_le _,by rw [ptOf_nl];exact capL_le _⟩
theorem byteP_small (c:Nat):PTsmall (byteP c):=by rw [←ptOf_one];exact ptOf_small _
theorem joinP_small {a b:PT} (ha:PTsmall a) (hb:PTsmall b):PTsmall (joinP a b):=by
 unfold joinP
 split
 · exact hb
 · split
   · exact ha
   · exact ⟨capL_le _,capL_le _⟩
theorem bounded_any (n:Nat) (hn:n≤3000000000000) (w:World):Calls Tryz.prog 109 #[.int .i64 (n:Int)] w fun e w'=>e=.returned (.int .i64 (capL n:Int))∧w'=w:=by
 unfold capL
 by_cases h:(1099511627777:Int)<(n:Int)
 · rw [if_pos (by omega)]
   go_enter Tryz.func109,Tryz.ntmps109
   go_wp2
   go_ret
   exact ⟨rfl,rfl⟩
 · rw [if_neg (by omega)]
   go_enter Tryz.func109,Tryz.ntmps109
   go_wp2
   go_ret
   exact ⟨rfl,rfl⟩
theorem partOfByte_any (c:Nat) (w:World):Calls Tryz.prog 108 #[.int .i64 (c:Int)] w fun e w'=>e=.returned (byteP c).val∧Kept [] w w':=by
 have hk:Hid (∀o1 o2,Kept [] w ((w.alloc o1).alloc o2)):=fun o1 o2=>((Kept.refl [] w).alloc _).alloc _
 unfold byteP PT.val PT.arr
 by_cases h:(c:Int)=10
 · rw [if_pos (by omega)]
   have hc:c=10:=by omega
   subst hc
   clear h
   go_enter Tryz.func108,Tryz.ntmps108
   go_wp2
   refine bodyPost_ret (v:=.agg #[.int .i64 1,.int .i64 1,.int .i64 10,.int .i64 10]) (by simp [results,Tryz.results108,go_sem]) rfl ⟨rfl,hk.out _ _⟩
 · rw [if_neg (by omega)]
   have hb:((c:Int)==10)=false:=beq_eq_false_iff_ne.2 h
   go_enter Tryz.func108,Tryz.ntmps108
   go_wp2
   refine bodyPost_ret (v:=.agg #[.int .i64 1,.int .i64 0,.int .i64 c,.int .i64 c]) (by simp [results,Tryz.results108,go_sem]) rfl ⟨rfl,hk.out _ _⟩
theorem pjoin_any (a b:PT) (ha:PTsmall a) (hb:PTsmall b) (w:World):Calls Tryz.prog 86 #[a.val,b.val] w fun e w'=>e=.returned (joinP a b).val∧Kept [] w w':=by
 have hk:Hid (∀o1 o2 o3,Kept [] w (((w.alloc o1).alloc o2).alloc o3)):=fun o1 o2 o3=>(((Kept.refl [] w).alloc _).alloc _).alloc _
 obtain ⟨a1,a2,a3,a4⟩:=a
 obtain ⟨b1,b2,b3,b4⟩:=b
 obtain ⟨ha1,ha2⟩:=ha
 obtain ⟨hb1,hb2⟩:=hb
 simp only [] at ha1 ha2 hb1 hb2
 unfold joinP PT.val PT.arr
 simp only []
 by_cases h1:a1=0
 · subst h1
   rw [if_pos rfl]
   go_enter Tryz.func86,Tryz.ntmps86
   go_wp2
   refine bodyPost_ret (v:=.agg #[.int .i64 b1,.int .i64 b2,.int .i64 b3,.int .i64 b4]) (by simp [results,Tryz.results86,go_sem]) rfl ⟨rfl,hk.out _ _ _⟩
 · rw [if_neg h1]
   have e1:((a1:Int)==0)=false:=beq_eq_false_iff_ne.2 (by omega)
   by_cases h2:b1=0
   · subst h2
     rw [if_pos rfl]
     go_enter Tryz.func86,Tryz.ntmps86
     go_wp2
     refine bodyPost_ret (v:=.agg #[.int .i64 a1,.int .i64 a2,.int .i64 a3,.int .i64 a4]) (by simp [results,Tryz.results86,go_sem]) rfl ⟨rfl,hk.out _ _ _⟩
   · rw [if_neg h2]
     have e2:((b1:Int)==0)=false:=beq_eq_false_iff_ne.2 (by omega)
     have g1:=fun w=>bounded_any (a1+b1) (by omega) w
     have g2:=fun w=>bounded_any (a2+b2) (by omega) w
     simp only [Int.natCast_add] at g1 g2
     have g1:Hid (∀w,_):=g1
     have g2:Hid (∀w,_):=g2
     clear h1 h2
     generalize capL (a1+b1)=L1 at *
     generalize capL (a2+b2)=L2 at *
     go_enter Tryz.func86,Tryz.ntmps86
     go_wp2_with fail
     refine (g1.out _).mono ?_
     rintro e w1 ⟨rfl,rfl⟩
     go_wp2_with fail
     refine (g2.out _).mono ?_
     rintro e w1 ⟨rfl,rfl⟩
     go_wp2
     refine bodyPost_ret (v:=.agg #[.int .i64 L1,.int .i64 L2,.int .i64 a3,.int .i64 b4]) (by simp [results,Tryz.results86,go_sem]) rfl ⟨rfl,hk.out _ _ _⟩
end Go.Proofs.YtgifhgnccmnbiabGreat
