/- The document's machine, plain: what is reached without a byte, by a list of what is left to do. No Go in it. -/
import Derived.Test.YtgifhgnccmnbiabGreatG33
import Derived.Test.YtgifhgnccmnbiabGreatG23
import Derived.Test.YtgifhgnccmnbiabGreatG14
import Derived.Test.YtgifhgnccmnbiabGreatG15
set_option linter.unusedVariables false
set_option linter.unusedSimpArgs false
set_option maxHeartbeats 4000000
set_option maxRecDepth 100000
namespace Go.Proofs.YtgifhgnccmnbiabGreat
open Go.RowKit Go.IntWalk
def SF (n:Nat) (f:Nat→Bool):SetD:=fun k=>k<3+n∧f k=true
def notIn (n:Nat) (o:Nat→Bool):Nat:=((List.range n).filter fun i=>!o i).length
theorem notIn_succ (n:Nat) (o:Nat→Bool):notIn (n+1) o=notIn n o+if o n=true then 0 else 1:=by
 unfold notIn
 rw [List.range_succ,List.filter_append,List.length_append,List.filter_cons]
 cases o n <;> simp
theorem notIn_congr:∀{n:Nat} {o o':Nat→Bool},(∀j,j<n→o j=o' j)→notIn n o=notIn n o'
 | 0,_,_,_=>rfl
 | n+1,o,o',h=>by rw [notIn_succ,notIn_succ,h n (by omega),notIn_congr (fun j hj=>h j (by omega))]
def updT (o:Nat→Bool) (i:Nat):Nat→Bool:=fun j=>if j=i then true else o j
theorem notIn_upd:∀{n:Nat} {o:Nat→Bool} {i:Nat},i<n→o i=false→notIn n (updT o i)+1=notIn n o
 | 0,_,_,h,_=>by omega
 | n+1,o,i,h,ho=>by
   rw [notIn_succ,notIn_succ]
   by_cases hi:i=n
   · subst hi
     have e:updT o i i=true:=if_pos rfl
     rw [e,ho,notIn_congr (o:=updT o i) (o':=o) (fun j hj=>if_neg (by omega))]
     simp
   · have e:updT o i n=o n:=if_neg (by omega)
     rw [e]
     have:=notIn_upd (n:=n) (o:=o) (i:=i) (by omega) ho
     omega
def isF:Value→Bool
 | .bool false=>true
 | _=>false
def falses (w:World) (g:Nat):Nat:=
 match w.heap[g]? with
 | some (.cells cs _ _)=>(cs.toList.filter isF).length
 | _=>0
theorem falses_blk {w:World} {g n:Nat} {o:Nat→Bool} {t:TypeId} (h:Blk w g (boolRow n o) t):falses w g=notIn n o:=by
 unfold Blk at h
 unfold falses notIn
 rw [h]
 simp only [boolRow]
 rw [List.filter_map,List.length_map]
 congr 1
 apply List.filter_congr
 intro i _
 show isF (.bool (o i))=_
 cases o i <;> rfl
def lenD:Value→Nat
 | .slice _ n _=>n
 | _=>0
section
variable (D:DMa)
def condB (f:Nat→Bool) (j:Nat):Bool:=f (3+j) || ((j:Int)==(D.start:Int))&&(f 0 || (f 1&&!D.whole))
def startL (f:Nat→Bool) (i:Nat):List Nat:=(List.range i).filter (condB D f)
def goOn (x:DN) (b e:Bool):Bool:=x.kind==7 || (x.kind==2&&b) || (x.kind==3&&e)
def sucN (x:DN) (b e:Bool):List Nat:=(if goOn x b e=true then [x.next] else [])++(if (x.kind==7)=true then [x.other] else [])
structure RIn (f:Nat→Bool) (b e:Bool) (o:Nat→Bool) (l:List Nat):Prop where
 some1:∀i,i∈l→Rch D (SF D.nodes.length f) (b=true) (e=true) i
 some2:∀i,i<D.nodes.length→o i=true→Rch D (SF D.nodes.length f) (b=true) (e=true) i
 base:∀i,i<D.nodes.length→condB D f i=true→o i=true∨i∈l
 closed:∀i x,D.nodes[i]?=some x→o i=true→∀j,j∈sucN x b e→o j=true∨j∈l
 small:l.length+3*notIn D.nodes.length o≤4*D.nodes.length
end
section
variable {D:DMa} {f:Nat→Bool} {b e:Bool} {o:Nat→Bool} {l:List Nat}
theorem startL_succ (i:Nat):startL D f (i+1)=startL D f i++if condB D f i=true then [i] else []:=by
 unfold startL
 rw [List.range_succ,List.filter_append,List.filter_cons]
 cases condB D f i <;> simp
theorem startL_len (i:Nat):(startL D f i).length≤i:=by
 unfold startL
 have:=List.length_filter_le (condB D f) (List.range i)
 rwa [List.length_range] at this
theorem notIn_none:∀n,notIn n (fun _=>false)=n
 | 0=>rfl
 | n+1=>by rw [notIn_succ,notIn_none n];rfl
theorem RIn.begin {R:RelT} (h:MaOk D R):RIn D f b e (fun _=>false) (startL D f D.nodes.length):=by
 refine ⟨fun i hi=>?_,(fun i _ h=>by cases h),fun i hi hc=>Or.inr ?_,(fun i x _ h=>by cases h),?_⟩
 · unfold startL at hi
   obtain ⟨h1,h2⟩:=List.mem_filter.1 hi
   have hn:=List.mem_range.1 h1
   unfold condB at h2
   rw [Bool.or_eq_true,Bool.and_eq_true,Bool.or_eq_true,Bool.and_eq_true] at h2
   rcases h2 with h2 | ⟨h3,h2⟩
   · exact Rch.node hn ⟨by omega,h2⟩
   · have hs:i=D.start:=by
      have:(i:Int)=(D.start:Int):=by simpa using h3
      omega
     rw [hs]
     refine Rch.start ?_
     rcases h2 with h2 | ⟨h2,h4⟩
     · exact Or.inl ⟨by omega,h2⟩
     · exact Or.inr ⟨⟨by omega,h2⟩,by simpa using h4⟩
 · unfold startL
   exact List.mem_filter.2 ⟨List.mem_range.2 hi,hc⟩
 · have:=startL_len (D:=D) (f:=f) D.nodes.length
   rw [notIn_none]
   omega
theorem sucN_rch {x:DN} {i:Nat} {S:SetD} (hx:D.nodes[i]?=some x) (g:Rch D S (b=true) (e=true) i) {j:Nat} (hj:j∈sucN x b e):Rch D S (b=true) (e=true) j:=by
 unfold sucN at hj
 rcases List.mem_append.1 hj with hj | hj
 · split at hj
   · rename_i hg
     obtain rfl:=List.mem_singleton.1 hj
     refine Rch.next g hx ?_
     unfold goOn at hg
     simpa [or_assoc] using hg
   · cases hj
 · split at hj
   · rename_i hg
     obtain rfl:=List.mem_singleton.1 hj
     exact Rch.other g hx (by simpa using hg)
   · cases hj
theorem sucN_len (x:DN) (b e:Bool):(sucN x b e).length≤2:=by
 unfold sucN
 rw [List.length_append]
 split <;> split <;> simp
theorem RIn.skip {i:Nat} (h:RIn D f b e o (l++[i])) (ho:o i=true):RIn D f b e o l:=by
 refine ⟨fun j hj=>h.some1 j (List.mem_append_left _ hj),h.some2,fun j hj hc=>?_,fun j x hx hoj k hk=>?_,by have:=h.small;rw [List.length_append] at this;simp at this;omega⟩
 · rcases h.base j hj hc with h1 | h1
   · exact Or.inl h1
   · rcases List.mem_append.1 h1 with h1 | h1
     · exact Or.inr h1
     · obtain rfl:=List.mem_singleton.1 h1
       exact Or.inl ho
 · rcases h.closed j x hx hoj k hk with h1 | h1
   · exact Or.inl h1
   · rcases List.mem_append.1 h1 with h1 | h1
     · exact Or.inr h1
     · obtain rfl:=List.mem_singleton.1 h1
       exact Or.inl ho
theorem RIn.take {i:Nat} {x:DN} (h:RIn D f b e o (l++[i])) (ho:o i=false) (hx:D.nodes[i]?=some x):RIn D f b e (updT o i) (l++sucN x b e):=by
 have hi:=(List.getElem?_eq_some_iff.1 hx).1
 have hr:=h.some1 i (List.mem_append_right _ (List.mem_singleton.2 rfl))
 have up:∀j,o j=true→updT o i j=true:=fun j hj=>by
  unfold updT;split
  · rfl
  · exact hj
 have upi:updT o i i=true:=if_pos rfl
 refine ⟨fun j hj=>?_,fun j hj hoj=>?_,fun j hj hc=>?_,fun j y hy hoj k hk=>?_,?_⟩
 · rcases List.mem_append.1 hj with hj | hj
   · exact h.some1 j (List.mem_append_left _ hj)
   · exact sucN_rch hx hr hj
 · by_cases hji:j=i
   · rw [hji];exact hr
   · exact h.some2 j hj (by unfold updT at hoj;rwa [if_neg hji] at hoj)
 · rcases h.base j hj hc with h1 | h1
   · exact Or.inl (up j h1)
   · rcases List.mem_append.1 h1 with h1 | h1
     · exact Or.inr (List.mem_append_left _ h1)
     · obtain rfl:=List.mem_singleton.1 h1
       exact Or.inl upi
 · by_cases hji:j=i
   · subst hji
     rw [hx] at hy
     obtain rfl:=Option.some.inj hy
     exact Or.inr (List.mem_append_right _ hk)
   · rcases h.closed j y hy (by unfold updT at hoj;rwa [if_neg hji] at hoj) k hk with h1 | h1
     · exact Or.inl (up k h1)
     · rcases List.mem_append.1 h1 with h1 | h1
       · exact Or.inr (List.mem_append_left _ h1)
       · obtain rfl:=List.mem_singleton.1 h1
         exact Or.inl upi
 · have h1:=h.small
   have h2:=notIn_upd hi ho
   have h3:=sucN_len x b e
   rw [List.length_append] at h1 ⊢
   simp at h1
   omega
theorem RIn.fin {R:RelT} (hM:MaOk D R) (h:RIn D f b e o []) (i:Nat):(i<D.nodes.length∧o i=true)↔Rch D (SF D.nodes.length f) (b=true) (e=true) i:=by
 constructor
 · rintro ⟨h1,h2⟩;exact h.some2 i h1 h2
 · intro g
   refine ⟨rch_lt hM g,?_⟩
   have fin:∀j,(o j=true∨j∈([]:List Nat))→o j=true:=fun j hj=>by
    rcases hj with hj | hj
    · exact hj
    · cases hj
   induction g with
   | @node i h1 h2=>exact fin i (h.base i h1 (by unfold condB;rw [h2.2];rfl))
   | start h1=>
     refine fin _ (h.base _ hM.start_lt ?_)
     unfold condB
     have e1:((D.start:Int)==(D.start:Int))=true:=beq_self_eq_true _
     rw [e1]
     rcases h1 with h1 | ⟨h1,h2⟩
     · rw [h1.2];simp
     · rw [h1.2,h2];simp
   | @next i x g1 h1 h2 ih=>
     refine fin _ (h.closed i x h1 ih _ ?_)
     unfold sucN
     refine List.mem_append_left _ ?_
     rw [if_pos]
     · exact List.mem_singleton.2 rfl
     · unfold goOn
       simpa [or_assoc] using h2
   | @other i x g1 h1 h2 ih=>
     refine fin _ (h.closed i x h1 ih _ ?_)
     unfold sucN
     refine List.mem_append_right _ ?_
     rw [if_pos (by simpa using h2)]
     exact List.mem_singleton.2 rfl
end
end Go.Proofs.YtgifhgnccmnbiabGreat
namespace Go.Proofs.YtgifhgnccmnbiabGreat
def linesA:List Nat→List Nat→List (List Nat)
 | at',[]=>if at'=[] then [] else [at']
 | at',c :: r=>if c=10 then at' :: linesA [] r else linesA (at'++[c]) r
def linesL (X:List Nat):List (List Nat):=linesA [] X
theorem linesA_nl (a r:List Nat):linesA a (10 :: r)=a :: linesA [] r:=by rw [linesA,if_pos rfl]
theorem linesA_c {c:Nat} (h:c≠10) (a r:List Nat):linesA a (c :: r)=linesA (a++[c]) r:=by rw [linesA,if_neg h]
def crA:List Nat→List Nat→List (List Nat)×List Nat
 | u,[]=>([],u)
 | u,c :: r=>if c=10 then (u :: (crA [] r).1,(crA [] r).2) else crA (u++[c]) r
theorem crA_nil (u:List Nat):crA u []=([],u):=rfl
theorem crA_nl (u r:List Nat):crA u (10 :: r)=(u :: (crA [] r).1,(crA [] r).2):=by rw [crA,if_pos rfl]
theorem crA_c {c:Nat} (h:c≠10) (u r:List Nat):crA u (c :: r)=crA (u++[c]) r:=by rw [crA,if_neg h]
theorem crA_app:∀(X u Y:List Nat),crA u (X++Y)=((crA u X).1++(crA (crA u X).2 Y).1,(crA (crA u X).2 Y).2)
 | [],u,Y=>rfl
 | c :: X,u,Y=>by
   rw [List.cons_append]
   by_cases h:c=10
   · subst h;rw [crA_nl,crA_nl,crA_app X [] Y];rfl
   · rw [crA_c h,crA_c h,crA_app X (u++[c]) Y]
theorem crA_pre:∀(X u v:List Nat),crA (u++v) X=if (crA v X).1=[] then ([],u++(crA v X).2) else ((u++(crA v X).1.headD []) :: (crA v X).1.tail,(crA v X).2)
 | [],u,v=>by rw [crA_nil,crA_nil,if_pos rfl]
 | c :: X,u,v=>by
   by_cases h:c=10
   · subst h;rw [crA_nl,crA_nl,if_neg (by simp)];rfl
   · rw [crA_c h,crA_c h,List.append_assoc,crA_pre X u (v++[c])]
theorem crA_from (X u:List Nat):crA u X=if (crA [] X).1=[] then ([],u++(crA [] X).2) else ((u++(crA [] X).1.headD []) :: (crA [] X).1.tail,(crA [] X).2):=by
 have:=crA_pre X u []
 rwa [List.append_nil] at this
theorem linesA_cr:∀(X u:List Nat),linesA u X=(crA u X).1++if (crA u X).2=[] then [] else [(crA u X).2]
 | [],u=>by rw [crA_nil,linesA];rfl
 | c :: X,u=>by
   by_cases h:c=10
   · subst h;rw [crA_nl,linesA_nl,linesA_cr X []];rfl
   · rw [crA_c h,linesA_c h,linesA_cr X (u++[c])]
theorem crA_count:∀(X u:List Nat),(crA u X).1.length=nls X
 | [],u=>rfl
 | c :: X,u=>by
   by_cases h:c=10
   · subst h;rw [crA_nl,List.length_cons,crA_count X []];rfl
   · rw [crA_c h,crA_count X (u++[c])]
     unfold nls;rw [List.filter_cons_of_neg (by simpa using h)]
theorem crA_one {c:Nat} (h:c≠10) (u:List Nat):crA u [c]=([],u++[c]):=by rw [crA_c h,crA_nil]
theorem crA_whole:∀(X u:List Nat),(crA u X).1=[]→(crA u X).2=u++X
 | [],u,_=>by rw [crA_nil,List.append_nil]
 | c :: X,u,h=>by
   by_cases hc:c=10
   · subst hc;rw [crA_nl] at h;simp at h
   · rw [crA_c hc] at h ⊢
     rw [crA_whole X (u++[c]) h,List.append_assoc];rfl
theorem crA_rest_le:∀(X u:List Nat),(crA u X).2.length≤u.length+X.length
 | [],u=>by rw [crA_nil];simp
 | c :: X,u=>by
   by_cases h:c=10
   · subst h;rw [crA_nl];have:=crA_rest_le X [];simp at this ⊢;omega
   · rw [crA_c h];have:=crA_rest_le X (u++[c]);simp at this ⊢;omega
theorem b64_zero {X:B64}:X=0#64↔∀b,X.getLsbD b=false:=by
 constructor
 · intro h b;rw [h];simp
 · intro h;apply BitVec.eq_of_getLsbD_eq;intro i hi;rw [h i];simp
theorem fq_bit (m:MP) (S:B64):∀q b,(followQ m S q).getLsbD b=true↔∃i,i<q∧S.getLsbD i=true∧(m.next i).getLsbD b=true
 | 0,b=>by
   rw [followQ];simp
 | q+1,b=>by
   rw [followQ]
   have ih:=fq_bit m S q b
   by_cases h:S.getLsbD q=true
   · rw [if_pos h,bit_or,Bool.or_eq_true,ih]
     constructor
     · rintro (⟨i,h1,h2⟩ | h1)
       · exact ⟨i,by omega,h2⟩
       · exact ⟨q,by omega,h,h1⟩
     · rintro ⟨i,h1,h2,h3⟩
       by_cases hi:i=q
       · subst hi;exact Or.inr h3
       · exact Or.inl ⟨i,by omega,h2,h3⟩
   · rw [if_neg h,ih]
     constructor
     · rintro ⟨i,h1,h2⟩;exact ⟨i,by omega,h2⟩
     · rintro ⟨i,h1,h2,h3⟩
       by_cases hi:i=q
       · subst hi;exact absurd h2 h
       · exact ⟨i,by omega,h2,h3⟩
theorem from_bit (m:MP) (tk S:B64) (b:Nat):(fromP m tk S).getLsbD b=true↔tk.getLsbD b=true∧∃i,i<63∧S.getLsbD i=true∧(m.next i).getLsbD b=true:=by
 unfold fromP
 rw [bit_and,Bool.and_eq_true,fq_bit,And.comm]
theorem into_bitQ (m:MP) (tk X:B64):∀q,q≤63→∀i,(intoQ m tk X q).getLsbD i=true↔i<q∧m.next i&&&tk&&&X≠0#64
 | 0,_,i=>by rw [intoQ];simp
 | q+1,hq,i=>by
   have ih:=into_bitQ m tk X q (by omega) i
   rw [intoQ]
   by_cases h:m.next q&&&tk&&&X=0#64
   · rw [if_pos h,ih]
     constructor
     · rintro ⟨h1,h2⟩;exact ⟨by omega,h2⟩
     · rintro ⟨h1,h2⟩
       by_cases hi:i=q
       · subst hi;exact absurd h h2
       · exact ⟨by omega,h2⟩
   · rw [if_neg h,bit_or,Bool.or_eq_true,ih]
     have hb:(1#64 <<< q:B64).getLsbD i=true↔i=q:=by
      rw [bit_shl]
      simp
      constructor
      · rintro ⟨⟨h1,h2⟩,h3⟩
        omega
      · rintro rfl
        omega
     rw [hb]
     constructor
     · rintro (⟨h1,h2⟩ | rfl)
       · exact ⟨by omega,h2⟩
       · exact ⟨by omega,h⟩
     · rintro ⟨h1,h2⟩
       by_cases hi:i=q
       · exact Or.inr hi
       · exact Or.inl ⟨by omega,h2⟩
theorem and_ne {X Y:B64}:X&&&Y≠0#64↔∃b,X.getLsbD b=true∧Y.getLsbD b=true:=by
 constructor
 · intro h
   apply Classical.byContradiction
   intro hn
   apply h
   rw [b64_zero]
   intro b
   rw [bit_and]
   cases h1:X.getLsbD b with
   | false=>rfl
   | true=>
     cases h2:Y.getLsbD b with
     | false=>rfl
     | true=>exact absurd ⟨b,h1,h2⟩ hn
 · rintro ⟨b,h1,h2⟩ h
   have:=b64_zero.1 h b
   rw [bit_and,h1,h2] at this
   cases this
theorem into_from' (m:MP) (tk S X:B64):(∃b,S.getLsbD b=true∧(intoP m tk X).getLsbD b=true)↔∃b,(fromP m tk S).getLsbD b=true∧X.getLsbD b=true:=by
 constructor
 · rintro ⟨i,h1,h2⟩
   obtain ⟨h3,h4⟩:=(into_bitQ m tk X 63 (Nat.le_refl _) i).1 h2
   obtain ⟨b,h5,h6⟩:=and_ne.1 h4
   rw [bit_and,Bool.and_eq_true] at h5
   exact ⟨b,(from_bit m tk S b).2 ⟨h5.2,i,h3,h1,h5.1⟩,h6⟩
 · rintro ⟨b,h1,h2⟩
   obtain ⟨h3,i,h4,h5,h6⟩:=(from_bit m tk S b).1 h1
   exact ⟨i,h5,(into_bitQ m tk X 63 (Nat.le_refl _) i).2 ⟨h4,and_ne.2 ⟨b,by rw [bit_and,h6,h3];rfl,h2⟩⟩⟩
theorem into_from (m:MP) (tk S X:B64):S&&&intoP m tk X=0#64↔fromP m tk S&&&X=0#64:=by
 have key:S&&&intoP m tk X≠0#64↔fromP m tk S&&&X≠0#64:=by
  rw [and_ne,and_ne]
  exact into_from' m tk S X
 exact ⟨fun h=>Classical.byContradiction fun hc=>key.2 hc h,fun h=>Classical.byContradiction fun hc=>key.1 hc h⟩
def thenN (m:MP) (tk:B64) (m':MP) (tk':B64) (i:Nat):B64:=fromP m' tk' (m.next i&&&tk)
def tabM (nx:Nat→B64):MP:={ next:=nx }
theorem then_from (m:MP) (tk:B64) (m':MP) (tk' S:B64):fromP (tabM (thenN m tk m' tk')) tk' S=fromP m' tk' (fromP m tk S):=by
 apply BitVec.eq_of_getLsbD_eq
 intro b _
 rw [Bool.eq_iff_iff,from_bit,from_bit]
 constructor
 · rintro ⟨h1,i,h2,h3,h4⟩
   obtain ⟨_,j,h5,h6,h7⟩:=(from_bit m' tk' _ b).1 h4
   rw [bit_and,Bool.and_eq_true] at h6
   exact ⟨h1,j,h5,(from_bit m tk S j).2 ⟨h6.2,i,h2,h3,h6.1⟩,h7⟩
 · rintro ⟨h1,j,h2,h3,h4⟩
   obtain ⟨h5,i,h6,h7,h8⟩:=(from_bit m tk S j).1 h3
   exact ⟨h1,i,h6,h7,(from_bit m' tk' _ b).2 ⟨h1,j,h2,by rw [bit_and,h8,h5];rfl,h4⟩⟩
def runM (M:MP) (X:List Nat) (S:B64):B64:=X.foldl (fun S c=>fromP M (M.takes c) S) S
theorem runM_app (M:MP) (X Y:List Nat) (S:B64):runM M (X++Y) S=runM M Y (runM M X S):=by unfold runM;rw [List.foldl_append]
theorem runM_one (M:MP) (c:Nat) (S:B64):runM M [c] S=fromP M (M.takes c) S:=rfl
def selL (M:MP) (inv:Bool) (l:List Nat):Bool:=!decide (runM M l M.beg&&&M.en=0#64) != inv
def cnt (M:MP) (inv:Bool) (ls:List (List Nat)):Nat:=(ls.filter (selL M inv)).length
theorem cnt_app (M:MP) (inv:Bool) (a b:List (List Nat)):cnt M inv (a++b)=cnt M inv a+cnt M inv b:=by unfold cnt;rw [List.filter_append,List.length_append]
theorem cnt_le (M:MP) (inv:Bool) (a:List (List Nat)):cnt M inv a≤a.length:=List.length_filter_le _ _
theorem cnt_cons (M:MP) (inv:Bool) (l:List Nat) (a:List (List Nat)):cnt M inv (l :: a)=(if selL M inv l=true then 1 else 0)+cnt M inv a:=by
 unfold cnt
 rw [List.filter_cons]
 split
 · simp;omega
 · simp
structure PCE where
 len:Nat:=0
 nl:Nat:=0
 nx:Nat→B64:=fun _=>0#64
 tk:B64:=0#64
 inside:Nat:=0
 en:B64:=0#64
 la:B64:=0#64
 tail:Nat:=0
structure PieceOk (M:MP) (inv:Bool) (x:List Nat) (p:PCE):Prop where
 len:p.len=x.length
 nl:p.nl=(crA [] x).1.length
 way:p.nl=0→∀S,fromP (tabM p.nx) p.tk S=runM M x S
 en:p.nl≠0→∀S,S&&&p.en=0#64↔runM M ((crA [] x).1.headD []) S&&&M.en=0#64
 la:p.nl≠0→p.la=runM M (crA [] x).2 M.beg
 tail:p.nl≠0→p.tail=(crA [] x).2.length
 inside:p.nl≠0→p.inside=cnt M inv (crA [] x).1.tail
def endsP (inv:Bool) (p:PCE) (S:B64):Nat:=if p.nl=0 then 0 else if (!decide (S&&&p.en=0#64) != inv)=true then p.inside+1 else p.inside
def setP (p:PCE) (S:B64):B64:=if p.nl=0 then fromP (tabM p.nx) p.tk S else p.la
def joinPC (inv:Bool) (a b:PCE):PCE:=
 if a.nl+b.nl=0 then { len:=a.len+b.len,nl:=0,nx:=thenN (tabM a.nx) a.tk (tabM b.nx) b.tk,tk:=b.tk }
 else { len:=a.len+b.len,nl:=a.nl+b.nl,inside:=if 0<a.nl then a.inside+endsP inv b a.la else b.inside,en:=if 0<a.nl then a.en else intoP (tabM a.nx) a.tk b.en,la:=if 0<b.nl then b.la else fromP (tabM b.nx) b.tk a.la,tail:=if 0<b.nl then b.tail else a.tail+b.len }
def bytePC (M:MP) (c:Nat):PCE:=if c=10 then { len:=1,nl:=1,en:=M.en,la:=M.beg } else { len:=1,nx:=M.next,tk:=M.takes c }
theorem fromP_tab (M:MP) (tk S:B64):fromP (tabM M.next) tk S=fromP M tk S:=fromP_next (m:=M) (m':=tabM M.next) rfl tk S
theorem bytePC_ok (M:MP) (inv:Bool) (c:Nat):PieceOk M inv [c] (bytePC M c):=by
 unfold bytePC
 by_cases h:c=10
 · subst h
   rw [if_pos rfl]
   exact ⟨rfl,rfl,(fun h=>by cases h),fun _ S=>Iff.rfl,fun _=>rfl,fun _=>rfl,fun _=>rfl⟩
 · rw [if_neg h]
   have e:=crA_one h []
   refine ⟨rfl,by rw [e];rfl,fun _ S=>by rw [runM_one];exact fromP_tab M _ S,fun h=>absurd rfl h,fun h=>absurd rfl h,fun h=>absurd rfl h,fun h=>absurd rfl h⟩
section
variable {M:MP} {inv:Bool} {x:List Nat} {p:PCE} (h:PieceOk M inv x p)
include h
theorem PieceOk.zero (hn:p.nl=0):(crA [] x).1=[]∧(crA [] x).2=x:=by
 have h1:(crA [] x).1=[]:=List.eq_nil_of_length_eq_zero (by rw [←h.nl];exact hn)
 exact ⟨h1,by have:=crA_whole x [] h1;rwa [List.nil_append] at this⟩
theorem PieceOk.one (hn:p.nl≠0):(crA [] x).1≠[]:=fun hc=>hn (by rw [h.nl,hc];rfl)
theorem PieceOk.ends (u:List Nat):endsP inv p (runM M u M.beg)=cnt M inv (crA u x).1:=by
 unfold endsP
 rw [crA_from]
 by_cases hn:p.nl=0
 · rw [if_pos hn,if_pos (h.zero hn).1];rfl
 · rw [if_neg hn,if_neg (h.one hn),h.inside hn]
   simp only []
   rw [cnt_cons]
   have e:(!decide (runM M u M.beg&&&p.en=0#64) != inv)=selL M inv (u++(crA [] x).1.headD []):=by
    unfold selL
    rw [runM_app]
    have:=h.en hn (runM M u M.beg)
    rw [decide_eq_decide.2 this]
   rw [e]
   split <;> omega
theorem PieceOk.set (u:List Nat):setP p (runM M u M.beg)=runM M (crA u x).2 M.beg:=by
 unfold setP
 rw [crA_from]
 by_cases hn:p.nl=0
 · rw [if_pos hn,if_pos (h.zero hn).1,h.way hn,(h.zero hn).2,runM_app]
 · rw [if_neg hn,if_neg (h.one hn),h.la hn]
theorem PieceOk.rest (u:List Nat):(crA u x).2.length=if p.nl=0 then u.length+p.len else p.tail:=by
 rw [crA_from]
 by_cases hn:p.nl=0
 · rw [if_pos hn,if_pos (h.zero hn).1,(h.zero hn).2,h.len,List.length_append]
 · rw [if_neg hn,if_neg (h.one hn),h.tail hn]
theorem PieceOk.count (u:List Nat):(crA u x).1.length=p.nl:=by rw [crA_count,h.nl,crA_count]
end
theorem pjoin_ok {M:MP} {inv:Bool} {x y:List Nat} {a b:PCE} (ha:PieceOk M inv x a) (hb:PieceOk M inv y b):PieceOk M inv (x++y) (joinPC inv a b):=by
 have hl:(crA [] (x++y)).1.length=a.nl+b.nl:=by rw [crA_app,List.length_append,←ha.nl,hb.count]
 unfold joinPC
 by_cases h0:a.nl+b.nl=0
 · rw [if_pos h0]
   refine ⟨by rw [List.length_append,←ha.len,←hb.len],by rw [hl,h0],fun _ S=>?_,fun h=>absurd rfl h,fun h=>absurd rfl h,fun h=>absurd rfl h,fun h=>absurd rfl h⟩
   rw [runM_app,←ha.way (by omega),←hb.way (by omega)]
   exact then_from _ _ _ _ _
 · rw [if_neg h0]
   refine ⟨by rw [List.length_append,←ha.len,←hb.len],hl.symm,fun h=>absurd h h0,fun _ S=>?_,fun _=>?_,fun _=>?_,fun _=>?_⟩
   · simp only []
     by_cases hn:0<a.nl
     · rw [if_pos hn,crA_app]
       have h1:=ha.en (by omega) S
       obtain ⟨l,r,e⟩:∃l r,(crA [] x).1=l :: r:=by
        cases hx:(crA [] x).1 with
        | nil=>exact absurd hx (ha.one (by omega))
        | cons l r=>exact ⟨l,r,rfl⟩
       rw [e] at h1 ⊢
       exact h1
     · rw [if_neg hn,into_from,hb.en (by omega),ha.way (by omega),crA_app,(ha.zero (by omega)).1,(ha.zero (by omega)).2,crA_from y x,if_neg (hb.one (by omega))]
       simp only [List.nil_append,List.headD_cons]
       rw [runM_app]
   · simp only []
     rw [crA_app]
     by_cases hn:0<b.nl
     · rw [if_pos hn,hb.la (by omega),crA_from y (crA [] x).2,if_neg (hb.one (by omega))]
     · rw [if_neg hn,hb.way (by omega),ha.la (by omega),crA_from y (crA [] x).2,if_pos (hb.zero (by omega)).1,(hb.zero (by omega)).2,runM_app]
   · simp only []
     rw [crA_app,hb.rest]
     by_cases hn:0<b.nl
     · rw [if_pos hn,if_neg (by omega)]
     · rw [if_neg hn,if_pos (by omega),ha.tail (by omega)]
   · simp only []
     rw [crA_app]
     by_cases hn:0<a.nl
     · rw [if_pos hn,ha.inside (by omega),ha.la (by omega),hb.ends]
       obtain ⟨l,r,e⟩:∃l r,(crA [] x).1=l :: r:=by
        cases hx:(crA [] x).1 with
        | nil=>exact absurd hx (ha.one (by omega))
        | cons l r=>exact ⟨l,r,rfl⟩
       rw [e]
       simp only [List.cons_append,List.tail_cons]
       rw [cnt_app]
     · rw [if_neg hn,hb.inside (by omega),(ha.zero (by omega)).1,(ha.zero (by omega)).2,crA_from y x,if_neg (hb.one (by omega))]
       rfl
end Go.Proofs.YtgifhgnccmnbiabGreat
namespace Go.Proofs.YtgifhgnccmnbiabGreat
open Go.RowKit Go.IntWalk
def tabCells (nx:Nat→B64):Array Value:=cellsF 63 fun i=>UV (nx i)
theorem tabCells_get (nx:Nat→B64) {i:Nat} (h:i<63):(tabCells nx)[i]?=some (UV (nx i)):=cellsF_get _ h
theorem tabCells_set (nx:Nat→B64) (q:Nat) (X:B64):(tabCells nx).setIfInBounds q (UV X)=tabCells (fun i=>if i=q then X else nx i):=
 cellsF_set _ _ _ _ fun j hj=>by
  by_cases h:j=q
  · show UV (if j=q then X else nx j)=_;rw [if_pos h,if_pos h]
  · show UV (if j=q then X else nx j)=_;rw [if_neg h,if_neg h]
theorem zero_table:(Tryz.prog.info? 66).map (fun i=>(i.zero,i.size))=some (some (.agg (tabCells fun _=>0#64)),63):=by kernel_rfl
theorem zeroV_table (w:World):(zeroValue 66).run Tryz.prog w=.ok (.agg (tabCells fun _=>0#64)) w:=by
 have h:=zero_table
 cases hq:Tryz.prog.info? 66 with
 | none=>simp [hq] at h
 | some i=>
   simp [hq] at h
   simp [zeroValue,typeInfo,hq,h.1]
theorem tabAt_blk {w:World} {G:Nat} {nx:Nat→B64} {t:TypeId} (h:Blk w G (tabCells nx) t):TabAt w G 0 (tabM nx):=fun i hi=>by
 rw [Nat.zero_add,h.cell,tabCells_get nx hi];rfl
def thenQ (m:MP) (tk:B64) (m':MP) (tk':B64) (q:Nat) (i:Nat):B64:=if i<q then thenN m tk m' tk' i else 0#64
theorem thenQ_succ (m:MP) (tk:B64) (m':MP) (tk':B64) (q:Nat):(fun i=>if i=q then thenN m tk m' tk' q else thenQ m tk m' tk' q i)=thenQ m tk m' tk' (q+1):=by
 funext i
 unfold thenQ
 by_cases h:i=q
 · subst h;rw [if_pos rfl,if_pos (by omega)]
 · rw [if_neg h]
   by_cases h2:i<q
   · rw [if_pos h2,if_pos (by omega)]
   · rw [if_neg h2,if_neg (by omega)]
structure ThenI (w wr:World) (m:MP) (g o:Nat) (tk:B64) (m':MP) (g' o':Nat) (tk':B64) (q:Nat):Prop where
 k:Kept [] w wr
 b0:Blk wr w.heap.size #[.pointer (some ⟨g,o,none⟩),UV tk] 117
 b1:Blk wr (w.heap.size+1) #[.pointer (some ⟨g',o',none⟩),UV tk'] 117
 b2:Blk wr (w.heap.size+1+1) #[.pointer none,.int .u64 0] 117
 b3:Blk wr (w.heap.size+1+1+1) (tabCells (thenQ m tk m' tk' q)) 66
structure ThenOut (w w':World) (m:MP) (tk:B64) (m':MP) (tk':B64) (e:Ending):Prop where
 k:Kept [] w w'
 ex:∃G,e=.returned (WV G 0 tk')∧w.heap.size≤G∧TabAt w' G 0 (tabM (thenN m tk m' tk'))
theorem wthen_any (m:MP) (g o:Nat) (tk:B64) (m':MP) (g' o':Nat) (tk':B64) (w:World) (h:TabAt w g o m) (h':TabAt w g' o' m') (hg:g<w.heap.size) (hg':g'<w.heap.size):
 Calls Tryz.prog 99 #[WV g o tk,WV g' o' tk'] w fun e w'=>ThenOut w w' m tk m' tk' e:=by
 have hzt:=zeroV_table
 have hst:Hid (ThenI w ((((w.alloc (.cells #[.pointer (some ⟨g,o,none⟩),UV tk] 117)).alloc (.cells #[.pointer (some ⟨g',o',none⟩),UV tk'] 117)).alloc (.cells #[.pointer none,.int .u64 0] 117)).alloc (.cells (tabCells (fun _=>0#64)) 66)) m g o tk m' g' o' tk' 0):=
  ⟨((((Kept.refl [] w).alloc _).alloc _).alloc _).alloc _,((((Blk.new w _ _).alloc _).alloc _).alloc _),(((Blk.new1 w _ _ _).alloc _).alloc _),((Blk.new2 w _ _ _ _).alloc _),Blk.new3 w _ _ _ _ _⟩
 have hT:Hid (TabAt w g o m):=h
 have hT':Hid (TabAt w g' o' m'):=h'
 clear h h'
 obtain ⟨T0,hT0⟩:∃T0,tabCells (fun _=>0#64)=T0:=⟨_,rfl⟩
 rw [hT0] at hzt hst
 clear hT0
 go_enter Tryz.func99,Tryz.ntmps99
 go_wp2_with fail
 go_loopw [6] (fun iv wr=>∃q:Nat,iv=.int .i64 (q:Int)∧q≤63∧ThenI w wr m g o tk m' g' o' tk' q) (fun iv _=>(63-intOf iv).toNat)
 case atStart=>exact ⟨0,rfl,by omega,hst.out⟩
 case round=>
  obtain ⟨q,rfl,hq,hI⟩:=hrel
  clear hst hzt
  have hs:=hI.k.size
  have d0:wr.cell? ⟨w.heap.size,0,none⟩=some (.pointer (some ⟨g,o,none⟩)):=hI.b0.cell 0
  have d1:wr.cell? ⟨w.heap.size,1,none⟩=some (UV tk):=hI.b0.cell 1
  have d2:wr.cell? ⟨w.heap.size+1,0,none⟩=some (.pointer (some ⟨g',o',none⟩)):=hI.b1.cell 0
  have d3:wr.cell? ⟨w.heap.size+1,1,none⟩=some (UV tk'):=hI.b1.cell 1
  have hlt3:w.heap.size+1+1+1<wr.heap.size:=hI.b3.lt
  have hIH:Hid (ThenI _ _ _ _ _ _ _ _ _ _ _):=hI
  clear hI
  by_cases hlt:(q:Int)<63
  · have hqn:q<63:=by omega
    have c1:wr.cell? ⟨g,o+q,none⟩=some (UV (m.next q)):=(hT.out.kept hIH.out.k hg) q hqn
    have hand:=and_u (m.next q) tk
    have hcall:Hid (∀w',Kept [] wr w'→Calls Tryz.prog 38 #[WV g' o' tk',.int .u64 ((m.next q&&&tk).toNat:Int)] w' fun e w2=>e=.returned (.int .u64 ((thenN m tk m' tk' q).toNat:Int))∧Kept [] w' w2):=fun w' k=>from_any m' g' o' tk' (m.next q&&&tk) w' (hT'.out.kept (hIH.out.k.trans k) hg')
    have hnx:Hid (∀w5,Kept [] wr w5→ThenI w (w5.setCell ⟨w.heap.size+1+1+1,q,none⟩ (.int .u64 ((thenN m tk m' tk' q).toNat:Int))) m g o tk m' g' o' tk' (q+1)):=fun w5 k=>by
     have hb:=(hIH.out.b3.kept k (by simp)).set q (UV (thenN m tk m' tk' q))
     rw [tabCells_set,thenQ_succ] at hb
     exact ⟨(hIH.out.k.trans k).setCell (Or.inr (by simp;omega)) _,(hIH.out.b0.kept k (by simp)).other _ _ (by omega),(hIH.out.b1.kept k (by simp)).other _ _ (by omega),(hIH.out.b2.kept k (by simp)).other _ _ (by omega),hb⟩
    have hfr:Hid (∀w5,Kept [] wr w5→w5.frozen? ⟨w.heap.size+1+1+1,q,none⟩=false):=fun w5 k=>(hIH.out.b3.kept k (by simp)).frozen q
    have hce:Hid (∀w5,Kept [] wr w5→∃u,w5.cell? ⟨w.heap.size+1+1+1,q,none⟩=some u):=fun w5 k=>⟨_,by rw [(hIH.out.b3.kept k (by simp)).cell,tabCells_get _ hqn]⟩
    generalize thenN m tk m' tk' q=V at *
    generalize m.next q&&&tk=Y at *
    clear hT hT'
    go_wp2_with fail
    go_region_law (go_simp;go_at_call 38;refine (hcall.out _ (by first | exact (Kept.refl [] _).drew | exact Kept.refl _ _)).mono ?_;rintro _ w5 ⟨rfl,k5⟩;have K5:Hid (Kept [] wr w5):=Kept.trans (by first | exact (Kept.refl [] _).drew | exact Kept.refl _ _) k5;have q5:=hfr.out _ K5.out;obtain ⟨u5,r5⟩:=hce.out _ K5.out)
    all_goals
     go_wp2
     refine ⟨⟨q+1,by go_num,by omega,hnx.out _ K5.out⟩,?_⟩
     simp only [intOf];omega
  · have hqe:q=63:=by omega
    subst hqe
    have hfin:Hid (∀u0 u1,ThenOut w ((wr.setCell ⟨w.heap.size+1+1,0,none⟩ u0).setCell ⟨w.heap.size+1+1,1,none⟩ u1) m tk m' tk' (.returned (WV (w.heap.size+1+1+1) 0 tk'))):=fun u0 u1=>by
     have hb:=tabAt_blk ((hIH.out.b3.other (b':=w.heap.size+1+1) 0 u0 (by omega)).other (b':=w.heap.size+1+1) 1 u1 (by omega))
     refine ⟨(hIH.out.k.setCell (Or.inr (by simp;omega)) _).setCell (Or.inr (by simp;omega)) _,_,rfl,by omega,fun i hi=>?_⟩
     rw [hb i hi]
     show some (UV (thenQ m tk m' tk' 63 i))=_
     unfold thenQ;rw [if_pos hi];rfl
    have f0:=hIH.out.b2.frozen 0
    have f1:=hIH.out.b2.frozen 1
    have g0:wr.cell? ⟨w.heap.size+1+1,0,none⟩=some (.pointer none):=hIH.out.b2.cell 0
    have g1:wr.cell? ⟨w.heap.size+1+1,1,none⟩=some (.int .u64 0):=hIH.out.b2.cell 1
    have hres:Hid (∀u0 u1,((wr.setCell ⟨w.heap.size+1+1,0,none⟩ u0).setCell ⟨w.heap.size+1+1,1,none⟩ u1).cell? ⟨w.heap.size+1+1,0,none⟩=some u0∧((wr.setCell ⟨w.heap.size+1+1,0,none⟩ u0).setCell ⟨w.heap.size+1+1,1,none⟩ u1).cell? ⟨w.heap.size+1+1,1,none⟩=some u1):=fun u0 u1=>by
     have h2:=(hIH.out.b2.set 0 u0).set 1 u1
     exact ⟨by rw [h2.cell];rfl,by rw [h2.cell];rfl⟩
    clear hT hT'
    go_wp2
    obtain ⟨x0,x1⟩:=hres.out (.pointer (some ⟨w.heap.size+1+1+1,0,none⟩)) (UV tk')
    refine bodyPost_ret (v:=WV (w.heap.size+1+1+1) 0 tk') (by simp [results,Tryz.results99,go_sem,x0,x1]) rfl (hfin.out _ _)
end Go.Proofs.YtgifhgnccmnbiabGreat
