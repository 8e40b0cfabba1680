/- The reader's list of nodes: each node stands behind those that it is made of; its size; nothing is larger than the whole. No Go in it. -/
import Derived.Test.YtgifhgnccmnbiabGreatG06
import Derived.Test.YtgifhgnccmnbiabGreatG05
import Derived.Test.YtgifhgnccmnbiabGreatG03
set_option linter.unusedVariables false
set_option linter.unusedSimpArgs false
set_option maxHeartbeats 4000000
set_option maxRecDepth 100000
namespace Go.Proofs.YtgifhgnccmnbiabGreat
def NodeOk (ns:List AN) (q:Nat) (n:AN):Prop:=
 1≤n.size∧n.size≤61∧n.its.length≤1000 ∧
 (((n.kind=0∨n.kind=1∨n.kind=2∨n.kind=3)∧n.left=0∧n.right=0∧n.size=1) ∨
  ((n.kind=4∨n.kind=5)∧∃l r:Nat,l<q∧r<q∧n.left=(l:Int)∧n.right=(r:Int)∧n.size=(if 61<sizeAt ns l+sizeAt ns r then 61 else sizeAt ns l+sizeAt ns r)) ∨
  (n.kind=6∧∃l:Nat,l<q∧n.left=(l:Int)∧n.right=0∧0≤n.least∧n.least≤9∧-1≤n.most∧n.most≤9∧(n.most = -1∨n.least≤n.most)∧n.size=(if 61<sizeAt ns l*timesS n.least n.most then 61 else sizeAt ns l*timesS n.least n.most)))
def NodesOk (ns:List AN):Prop:=∀q n,ns[q]?=some n→NodeOk ns q n
theorem sizeN_app {ns more:List AN} {i:Nat} (h:i<ns.length):sizeAt (ns++more) i=sizeAt ns i:=by
 unfold sizeAt;rw [List.getElem?_append_left h]
theorem sizeN_new (ns:List AN) (n:AN):sizeAt (ns++[n]) ns.length=n.size:=by
 unfold sizeAt;simp
theorem NodeOk.app {ns more:List AN} {q:Nat} {n:AN} (h:NodeOk ns q n) (hq:q≤ns.length):NodeOk (ns++more) q n:=by
 obtain ⟨h1,h2,h3,h4⟩:=h
 refine ⟨h1,h2,h3,?_⟩
 rcases h4 with h4 | ⟨hk,l,r,a,b,c,d,e⟩ | ⟨hk,l,a,b,c⟩
 · exact Or.inl h4
 · exact Or.inr (Or.inl ⟨hk,l,r,a,b,c,d,by rw [sizeN_app (by omega),sizeN_app (by omega)];exact e⟩)
 · exact Or.inr (Or.inr ⟨hk,l,a,b,by rw [sizeN_app (by omega)];exact c⟩)
theorem NodesOk.snoc {ns:List AN} {n:AN} (h:NodesOk ns) (hn:NodeOk ns ns.length n):NodesOk (ns++[n]):=by
 intro q m hm
 by_cases hq:q<ns.length
 · rw [List.getElem?_append_left hq] at hm
   exact (h q m hm).app (by omega)
 · have hl:=(List.getElem?_eq_some_iff.1 hm).1
   simp at hl
   obtain rfl:q=ns.length:=by omega
   rw [List.getElem?_append_right (Nat.le_refl _),Nat.sub_self] at hm
   simp at hm
   subst hm
   exact hn.app (Nat.le_refl _)
theorem NodesOk.size {ns:List AN} (h:NodesOk ns) {i:Nat} (hi:i<ns.length):1≤sizeAt ns i∧sizeAt ns i≤61:=by
 unfold sizeAt
 obtain ⟨n,hn⟩:∃n,ns[i]?=some n:=⟨_,List.getElem?_eq_getElem hi⟩
 rw [hn]
 exact ⟨(h i n hn).1,(h i n hn).2.1⟩
structure Gr (tag cur:Nat) (st:PS) (r:Nat×PS):Prop where
 ok:NodesOk r.2.2
 app:∃more,r.2.2=st.2++more
 top:r.1+1=r.2.2.length
 big:∀i,st.2.length≤i→i<r.2.2.length→sizeAt r.2.2 i≤sizeAt r.2.2 r.1
 cur:4≤tag→sizeAt st.2 cur≤sizeAt r.2.2 r.1
theorem leaf_gr {tag cur:Nat} {s0:RS} {s:RS} {ns:List AN} (n:AN) (hs:n.size=1) (h:NodesOk ns) (hk:n.kind=0∨n.kind=1∨n.kind=2∨n.kind=3) (h1:n.left=0) (h2:n.right=0) (h3:n.its.length≤1000) (ht:¬ 4≤tag):
 Gr tag cur (s0,ns) (addS n (s,ns)):=by
 have hc:capN n=n:=by unfold capN;rw [hs];rw [if_neg (by omega)];rw [←hs]
 refine ⟨?_,⟨[capN n],rfl⟩,by simp [addS],fun i hi hl=>?_,fun hc=>absurd hc ht⟩
 · show NodesOk (ns++[capN n])
   rw [hc]
   exact h.snoc ⟨by omega,by omega,h3,Or.inl ⟨hk,h1,h2,hs⟩⟩
 · simp [addS] at hl
   obtain rfl:i=ns.length:=by simp at hi;omega
   exact Int.le_refl _
theorem cap_le {a b:Int} (h:a≤b) (h61:a≤61):a≤(if 61<b then 61 else b):=by split <;> omega
theorem join_ok {kind:Int} {cur j:Nat} {s:RS} {ns:List AN} (hk:kind=4∨kind=5) (h:NodesOk ns) (hc:cur<ns.length) (hj:j<ns.length):
 NodesOk (joinS kind cur j (s,ns)).2.2∧(joinS kind cur j (s,ns)).1+1=(joinS kind cur j (s,ns)).2.2.length ∧
 sizeAt ns cur≤sizeAt (joinS kind cur j (s,ns)).2.2 (joinS kind cur j (s,ns)).1∧sizeAt ns j≤sizeAt (joinS kind cur j (s,ns)).2.2 (joinS kind cur j (s,ns)).1:=by
 have h1:=h.size hc
 have h2:=h.size hj
 have e:sizeAt (joinS kind cur j (s,ns)).2.2 (joinS kind cur j (s,ns)).1=(if 61<sizeAt ns cur+sizeAt ns j then 61 else sizeAt ns cur+sizeAt ns j):=by
  simp only [joinS,addS];rw [sizeN_new];rfl
 refine ⟨h.snoc ⟨?_,?_,by show (0:Nat)≤1000;omega,Or.inr (Or.inl ⟨hk,cur,j,hc,hj,rfl,rfl,rfl⟩)⟩,by simp [joinS,addS],?_,?_⟩
 · simp only [capN];split <;> omega
 · simp only [capN];split <;> omega
 · rw [e];exact cap_le (by omega) (by omega)
 · rw [e];exact cap_le (by omega) (by omega)
theorem repeat_le (t:ByteArray) (s:RS):(repeatS t s).1.2 = -1∨(repeatS t s).1.1≤(repeatS t s).1.2:=by
 unfold repeatS
 repeat' split
 · exact Or.inl rfl
 · exact Or.inl rfl
 · right;simp
 · unfold bracesS
   split
   · right;simp
   · rename_i h
     simp only []
     by_cases hm:(mostS t (nextS t s).2).1 = -1
     · exact Or.inl hm
     · right
       have:¬((mostS t (nextS t s).2).1≠-1∧(mostS t (nextS t s).2).1<(digS t (nextS t s).2).1):=fun hc=>h (Or.inr hc)
       omega
theorem times_pos (a b:Int):1≤timesS a b:=by
 unfold timesS;repeat' split
 all_goals omega
theorem mul_ge {a b:Int} (ha:1≤a) (hb:1≤b):a≤a*b:=by
 have:=Int.mul_le_mul_of_nonneg_left hb (by omega:(0:Int)≤a)
 omega
theorem again_ok {cur:Nat} {s:RS} {ns:List AN} {lm:Int×Int} (h:NodesOk ns) (hc:cur<ns.length) (hb:0≤lm.1∧lm.1≤9∧-1≤lm.2∧lm.2≤9) (hle:lm.2 = -1∨lm.1≤lm.2):
 NodesOk (againS cur lm (s,ns)).2.2∧(againS cur lm (s,ns)).1+1=(againS cur lm (s,ns)).2.2.length ∧
 sizeAt ns cur≤sizeAt (againS cur lm (s,ns)).2.2 (againS cur lm (s,ns)).1:=by
 have h1:=h.size hc
 have hm:=mul_ge h1.1 (times_pos lm.1 lm.2)
 have e:sizeAt (againS cur lm (s,ns)).2.2 (againS cur lm (s,ns)).1=(if 61<sizeAt ns cur*timesS lm.1 lm.2 then 61 else sizeAt ns cur*timesS lm.1 lm.2):=by
  simp only [againS,addS];rw [sizeN_new];rfl
 refine ⟨h.snoc ⟨?_,?_,by show (0:Nat)≤1000;omega,Or.inr (Or.inr ⟨rfl,cur,hc,rfl,rfl,hb.1,hb.2.1,hb.2.2.1,hb.2.2.2,hle,rfl⟩)⟩,by simp [againS,addS],?_⟩
 · simp only [capN];split <;> omega
 · simp only [capN];split <;> omega
 · rw [e];exact cap_le hm (by omega)
theorem items_len (t:ByteArray):∀(f:Nat) (s:RS) (acc:List (Int×Int)),(itemsF t f s acc).1.length≤acc.length+f
 | 0,s,acc=>Nat.le_refl _
 | f+1,s,acc=>by
   rw [itemsF]
   split
   · have:=items_len t f (itemS t s).2 (acc++[(itemS t s).1])
     simp at this
     omega
   · exact Nat.le_add_right _ _
theorem Gr.refl {tag cur:Nat} {st:PS} (h:NodesOk st.2) (hc:cur+1=st.2.length):Gr tag cur st (cur,st):=
 ⟨h,⟨[],by simp⟩,hc,fun i h1 h2=>by simp only [] at h2;omega,fun _=>Int.le_refl _⟩
theorem Gr.comp {ta ca tb cb t c:Nat} {st stb:PS} {r1 r:Nat×PS} {extra:List AN} (ga:Gr ta ca st r1) (gb:Gr tb cb stb r) (he:stb.2=r1.2.2++extra)
 (hx:∀i,r1.2.2.length≤i→i<stb.2.length→sizeAt stb.2 i≤sizeAt stb.2 cb) (hc:sizeAt r1.2.2 r1.1≤sizeAt stb.2 cb) (htb:4≤tb) (hcur:4≤t→sizeAt st.2 c≤sizeAt stb.2 cb):Gr t c st r:=by
 obtain ⟨m1,e1⟩:=ga.app
 obtain ⟨m2,e2⟩:=gb.app
 have hcb:=gb.cur htb
 refine ⟨gb.ok,⟨m1++extra++m2,by rw [e2,he,e1];simp⟩,gb.top,fun i h1 h2=>?_,fun h=>Int.le_trans (hcur h) hcb⟩
 by_cases hi:i<r1.2.2.length
 · have h3:=ga.big i h1 hi
   have h4:sizeAt r.2.2 i=sizeAt r1.2.2 i:=by rw [e2,he,List.append_assoc,sizeN_app hi]
   rw [h4]
   exact Int.le_trans h3 (Int.le_trans hc hcb)
 · by_cases hj:i<stb.2.length
   · have h3:=hx i (by omega) hj
     have h4:sizeAt r.2.2 i=sizeAt stb.2 i:=by rw [e2,sizeN_app hj]
     rw [h4]
     exact Int.le_trans h3 hcb
   · exact gb.big i (by omega) h2
theorem D.gr {t:ByteArray} (ht:t.size≤1000) {tag cur:Nat} {st:PS} {r:Nat×PS} (h:D t tag cur st r):NodesOk st.2→(4≤tag→cur+1=st.2.length)→Gr tag cur st r:=by
 induction h with
 | pattern _ _ a b=>
   intro hn _
   have g1:=a hn (fun h=>by omega)
   have g2:=b g1.ok (fun _=>g1.top)
   exact g1.comp (extra:=[]) g2 (by simp) (fun i h1 h2=>by omega) (Int.le_refl _) (by omega) (fun h=>by omega)
 | empty he=>intro hn _;exact leaf_gr _ rfl hn (Or.inl rfl) rfl rfl (Nat.zero_le _) (by omega)
 | branch he _ _ a b=>
   intro hn _
   have g1:=a hn (fun h=>by omega)
   have g2:=b g1.ok (fun _=>g1.top)
   exact g1.comp (extra:=[]) g2 (by simp) (fun i h1 h2=>by omega) (Int.le_refl _) (by omega) (fun h=>by omega)
 | piece _ _ a b=>
   intro hn _
   have g1:=a hn (fun h=>by omega)
   have g2:=b g1.ok (fun _=>g1.top)
   exact g1.comp (extra:=[]) g2 (by simp) (fun i h1 h2=>by omega) (Int.le_refl _) (by omega) (fun h=>by omega)
 | group he _ a=>
   intro hn _
   have g1:=a hn (fun h=>by omega)
   exact ⟨g1.ok,g1.app,g1.top,g1.big,fun h=>by omega⟩
 | @list cur st he=>
   intro hn _
   refine leaf_gr _ rfl hn (Or.inr (Or.inl rfl)) rfl rfl ?_ (by omega)
   have:=items_len t (t.size-(takeS t 94 (nextS t st.1).2).2.1) (takeS t 94 (nextS t st.1).2).2 []
   show (itemsS t (takeS t 94 (nextS t st.1).2).2 []).1.length≤1000
   unfold itemsS
   simp only [List.length_nil] at this
   omega
 | plain h1 h2=>
   intro hn _
   unfold plainS bytesS
   repeat' split
   all_goals first
    | exact leaf_gr _ rfl hn (Or.inr (Or.inl rfl)) rfl rfl (by show (1:Nat)≤1000;omega) (by omega)
    | exact leaf_gr _ rfl hn (Or.inr (Or.inr (Or.inl rfl))) rfl rfl (Nat.zero_le _) (by omega)
    | exact leaf_gr _ rfl hn (Or.inr (Or.inr (Or.inr rfl))) rfl rfl (Nat.zero_le _) (by omega)
 | @or cur st r1 r he _ _ a b=>
   intro hn hc
   have hc:=hc (by omega)
   have g0:=a hn (fun h=>by omega)
   have g1:Gr 1 0 st r1:=⟨g0.ok,g0.app,g0.top,g0.big,fun h=>by omega⟩
   obtain ⟨m1,e1⟩:=g1.app
   have hl:st.2.length≤r1.2.2.length:=by rw [e1];simp
   have ht1:=g1.top
   obtain ⟨j1,j2,j3,j4⟩:=join_ok (kind:=5) (s:=r1.2.1) (Or.inr rfl) g1.ok (cur:=cur) (j:=r1.1) (by omega) (by omega)
   have g2:=b j1 (fun _=>j2)
   refine g1.comp g2 rfl (fun i h1 h2=>?_) j4 (by omega) (fun _=>?_)
   · simp only [joinS,addS,List.length_append,List.length_singleton] at h2
     obtain rfl:i=r1.2.2.length:=by omega
     exact Int.le_refl _
   · have e:sizeAt r1.2.2 cur=sizeAt st.2 cur:=by rw [e1,sizeN_app (by omega)]
     rw [←e];exact j3
 | orEnd he=>intro hn hc;exact Gr.refl hn (hc (by omega))
 | @and cur st r1 r he _ _ a b=>
   intro hn hc
   have hc:=hc (by omega)
   have g1:=a hn (fun h=>by omega)
   obtain ⟨m1,e1⟩:=g1.app
   have hl:st.2.length≤r1.2.2.length:=by rw [e1];simp
   have ht1:=g1.top
   obtain ⟨j1,j2,j3,j4⟩:=join_ok (kind:=4) (s:=r1.2.1) (Or.inl rfl) g1.ok (cur:=cur) (j:=r1.1) (by omega) (by omega)
   have g2:=b j1 (fun _=>j2)
   refine g1.comp g2 rfl (fun i h1 h2=>?_) j4 (by omega) (fun _=>?_)
   · simp only [joinS,addS,List.length_append,List.length_singleton] at h2
     obtain rfl:i=r1.2.2.length:=by omega
     exact Int.le_refl _
   · have e:sizeAt r1.2.2 cur=sizeAt st.2 cur:=by rw [e1,sizeN_app (by omega)]
     rw [←e];exact j3
 | andEnd he=>intro hn hc;exact Gr.refl hn (hc (by omega))
 | @rep cur st r he _ a=>
   intro hn hc
   have hc:=hc (by omega)
   obtain ⟨j1,j2,j3⟩:=again_ok (cur:=cur) (s:=(repeatS t st.1).2) (lm:=(repeatS t st.1).1) hn (by omega) (repeat_bd t st.1) (repeat_le t st.1)
   have g2:=a j1 (fun _=>j2)
   refine (Gr.refl (tag:=6) hn hc).comp g2 rfl (fun i h1 h2=>?_) j3 (by omega) (fun _=>j3)
   simp only [againS,addS,List.length_append,List.length_singleton] at h2
   simp only [] at h1
   obtain rfl:i=st.2.length:=by omega
   exact Int.le_refl _
 | repEnd he=>intro hn hc;exact Gr.refl hn (hc (by omega))
end Go.Proofs.YtgifhgnccmnbiabGreat
namespace Go.Proofs.YtgifhgnccmnbiabGreat
open Go.RowKit Go.IntWalk
theorem items_nil (w:World) (base:Nat):ItemsOk w base (none,0,0) []:=World.ownsRow_nil w _ _ _
theorem add_plain (b:Nat) (t:ByteArray) (s:RS) (ns:List AN) (v:Value) (xs:List IV) (kind left right least most size:Int) (w:World) (h:NV w b t s ns v xs) (hl:ns.length≤1000) (hn:0≤size) (hn':size≤1000):
 Calls Tryz.prog 104 #[.pointer (some ⟨b,0,none⟩),.agg #[.int .i64 kind,.slice none 0 0,.bool false,.int .i64 left,.int .i64 right,.int .i64 least,.int .i64 most,.int .i64 size]] w fun e w'=>
  e=.returned (.int .i64 ((addS { kind:=kind,left:=left,right:=right,least:=least,most:=most,size:=size } (s,ns)).1:Int))∧NS w' b t (addS { kind:=kind,left:=left,right:=right,least:=least,most:=most,size:=size } (s,ns)).2∧Below b w w':=
 add_any b t s ns v xs { kind:=kind,left:=left,right:=right,least:=least,most:=most,size:=size } (none,0,0) w h hl (items_nil _ _) hn hn'
theorem add_items (b:Nat) (t:ByteArray) (s:RS) (ns:List AN) (v:Value) (xs:List IV) (ao:Option Addr) (il ic:Nat) (its:List (Int×Int)) (neg:Bool) (w:World) (h:NV w b t s ns v xs) (hl:ns.length≤1000) (hx:ItemsOk w (b+1) (ao,il,ic) its):
 Calls Tryz.prog 104 #[.pointer (some ⟨b,0,none⟩),.agg #[.int .i64 1,.slice ao il ic,.bool neg,.int .i64 0,.int .i64 0,.int .i64 0,.int .i64 0,.int .i64 1]] w fun e w'=>
  e=.returned (.int .i64 ((addS { kind:=1,its:=its,neg:=neg,size:=1 } (s,ns)).1:Int))∧NS w' b t (addS { kind:=1,its:=its,neg:=neg,size:=1 } (s,ns)).2∧Below b w w':=
 add_any b t s ns v xs { kind:=1,its:=its,neg:=neg,size:=1 } (ao,il,ic) w h hl hx (by show (0:Int)≤1;omega) (by show (1:Int)≤1000;omega)
theorem join_any (b l r:Nat) (kind:Int) (t:ByteArray) (s:RS) (ns:List AN) (v:Value) (xs:List IV) (w:World) (h:NV w b t s ns v xs) (hl:l<ns.length) (hr:r<ns.length) (hm:ns.length≤1000):
 Calls Tryz.prog 83 #[.pointer (some ⟨b,0,none⟩),.int .i64 kind,.int .i64 (l:Int),.int .i64 (r:Int)] w fun e w'=>
  e=.returned (.int .i64 ((joinS kind l r (s,ns)).1:Int))∧NS w' b t (joinS kind l r (s,ns)).2∧Below b w w':=by
 have h1:=sizeAt_bd h.sized l
 have h2:=sizeAt_bd h.sized r
 go_enter Tryz.func83,Tryz.ntmps83
 go_wp2_with fail
 refine (size_any b l t s ns v xs _ h hl hm).mono ?_
 rintro e w1 ⟨rfl,rfl⟩
 go_wp2_with fail
 refine (size_any b r t s ns v xs _ h hr hm).mono ?_
 rintro e w1 ⟨rfl,rfl⟩
 go_wp2_with fail
 refine (add_plain b t s ns v xs kind l r 0 0 (sizeAt ns l+sizeAt ns r) _ h hm (by omega) (by omega)).mono ?_
 rintro e w1 ⟨rfl,hs,hb⟩
 go_wp2
 go_ret
 exact ⟨rfl,hs,hb⟩
theorem again_any (b p:Nat) (least most:Int) (t:ByteArray) (s:RS) (ns:List AN) (v:Value) (xs:List IV) (w:World) (h:NV w b t s ns v xs) (hp:p<ns.length) (hm:ns.length≤1000)
 (l0:0≤least) (l9:least≤9) (m0:-1≤most) (m9:most≤9):
 Calls Tryz.prog 116 #[.pointer (some ⟨b,0,none⟩),.int .i64 (p:Int),.int .i64 least,.int .i64 most] w fun e w'=>
  e=.returned (.int .i64 ((againS p (least,most) (s,ns)).1:Int))∧NS w' b t (againS p (least,most) (s,ns)).2∧Below b w w':=by
 have h1:=sizeAt_bd h.sized p
 have bd:∀k:Int,0≤k→k≤9→0≤sizeAt ns p*k∧sizeAt ns p*k≤549:=fun k a c=>by
  have:=Int.mul_nonneg h1.1 a
  have:=Int.mul_le_mul h1.2 c a (by omega:(0:Int)≤61)
  omega
 have core:∀(tm:Int),timesS least most=tm→Calls Tryz.prog 104 #[.pointer (some ⟨b,0,none⟩),.agg #[.int .i64 6,.slice none 0 0,.bool false,.int .i64 p,.int .i64 0,.int .i64 least,.int .i64 most,.int .i64 (sizeAt ns p*tm)]] w fun e w'=>
  e=.returned (.int .i64 ((againS p (least,most) (s,ns)).1:Int))∧NS w' b t (againS p (least,most) (s,ns)).2∧Below b w w':=by
  intro tm ht
  have e:againS p (least,most) (s,ns)=addS { kind:=6,left:=p,least:=least,most:=most,size:=sizeAt ns p*tm } (s,ns):=by simp only [againS,ht]
  rw [e]
  have:0≤tm∧tm≤9:=by
   rw [←ht];unfold timesS;repeat' split
   all_goals omega
  have:=bd tm this.1 this.2
  exact add_plain b t s ns v xs 6 p 0 least most (sizeAt ns p*tm) w h hm (by omega) (by omega)
 by_cases he:most = -1
 · subst he
   by_cases hl:least<1
   · have e:timesS least (-1)=1:=by unfold timesS;rw [if_pos rfl,if_pos hl]
     have hb:=bd 1 (by omega) (by omega)
     have core:=core 1 e
     clear e bd
     rw [Int.mul_one] at core
     go_enter Tryz.func116,Tryz.ntmps116
     go_wp2_with fail
     refine (size_any b p t s ns v xs _ h hp hm).mono ?_
     rintro e w1 ⟨rfl,rfl⟩
     go_wp2_with fail
     refine core.mono ?_
     rintro e w1 ⟨rfl,hs,hb⟩
     go_wp2
     go_ret
     exact ⟨rfl,hs,hb⟩
   · have e:timesS least (-1)=least:=by unfold timesS;rw [if_pos rfl,if_neg hl]
     have hb:=bd least (by omega) (by omega)
     have core:=core _ e
     clear e bd
     go_enter Tryz.func116,Tryz.ntmps116
     go_wp2_with fail
     refine (size_any b p t s ns v xs _ h hp hm).mono ?_
     rintro e w1 ⟨rfl,rfl⟩
     go_wp2_with fail
     refine core.mono ?_
     rintro e w1 ⟨rfl,hs,hb⟩
     go_wp2
     go_ret
     exact ⟨rfl,hs,hb⟩
 · have hb0:(most==-1)=false:=by simpa using he
   by_cases hl:most<1
   · have e:timesS least most=1:=by unfold timesS;rw [if_neg he,if_pos hl]
     have hb:=bd 1 (by omega) (by omega)
     have core:=core 1 e
     clear e bd
     rw [Int.mul_one] at core
     go_enter Tryz.func116,Tryz.ntmps116
     go_wp2_with fail
     refine (size_any b p t s ns v xs _ h hp hm).mono ?_
     rintro e w1 ⟨rfl,rfl⟩
     go_wp2_with fail
     refine core.mono ?_
     rintro e w1 ⟨rfl,hs,hb⟩
     go_wp2
     go_ret
     exact ⟨rfl,hs,hb⟩
   · have e:timesS least most=most:=by unfold timesS;rw [if_neg he,if_neg hl]
     have hb:=bd most (by omega) (by omega)
     have core:=core _ e
     clear e bd
     go_enter Tryz.func116,Tryz.ntmps116
     go_wp2_with fail
     refine (size_any b p t s ns v xs _ h hp hm).mono ?_
     rintro e w1 ⟨rfl,rfl⟩
     go_wp2_with fail
     refine core.mono ?_
     rintro e w1 ⟨rfl,hs,hb⟩
     go_wp2
     go_ret
     exact ⟨rfl,hs,hb⟩
theorem NV.alloc {w:World} {b:Nat} {t:ByteArray} {s:RS} {ns:List AN} {v:Value} {xs:List IV} (h:NV w b t s ns v xs) (o:Obj):NV (w.alloc o) b t s ns v xs:=
 ⟨h.rd.kept (Kept.alloc (Kept.refl [] w) o) (by simp),h.row.alloc o,h.len,fun i n x a c=>World.ownsRow.alloc (h.items i n x a c) o,h.sized⟩
theorem items_one (w:World) (base:Nat) (lo hi:Int) (k:Nat) (hk:k=w.heap.size) (hb:base≤w.heap.size):
 ItemsOk (w.alloc (.cells #[.int .i64 lo,.int .i64 hi] 186)) base (some ⟨k,0,none⟩,1,1) [(lo,hi)]:=by
 subst hk
 exact ⟨rfl,.inr ⟨w.heap.size,1,#[.int .i64 lo,.int .i64 hi],rfl,hb,heap_alloc_new w _,Nat.le_refl _,by unfold maxLen;omega,rfl,rfl⟩⟩
theorem bytes_any (b:Nat) (lo hi:Int) (t:ByteArray) (s:RS) (ns:List AN) (v:Value) (xs:List IV) (w:World) (h:NV w b t s ns v xs) (hm:ns.length≤1000):
 Calls Tryz.prog 121 #[.pointer (some ⟨b,0,none⟩),.agg #[.int .i64 lo,.int .i64 hi]] w fun e w'=>
  e=.returned (.int .i64 ((bytesS lo hi (s,ns)).1:Int))∧NS w' b t (bytesS lo hi (s,ns)).2∧Below b w w':=by
 have hb:=h.rd.blk.lt
 go_enter Tryz.func121,Tryz.ntmps121
 go_wp2_with fail
 refine (add_items b t s ns v xs (some ⟨w.heap.size+1,0,none⟩) 1 1 [(lo,hi)] false _ ((h.alloc _).alloc _) hm (items_one _ _ _ _ _ (by simp) (by simp;omega))).mono ?_
 rintro e w1 ⟨rfl,hs,hbel⟩
 go_wp2
 go_ret
 exact ⟨rfl,hs,(((Below.refl _ _).alloc (by omega) _).alloc (by simp;omega) _).trans hbel⟩
theorem infoItem:(Tryz.prog.info? 186).map (fun i=>(i.zero,i.size,i.bytes))=some (some (.agg #[.int .i64 0,.int .i64 0]),2,16):=by kernel_rfl
def lenOf:Value→Nat | .slice _ n _=>n | _=>0
theorem own_mono {w:World} {base base':Nat} {e:TypeId} {size:Nat} {v:Value} {n:Nat} {xs:List Value} (h:w.ownsRow base e size v n xs) (hb:base'≤base):w.ownsRow base' e size v n xs:=by
 refine ⟨h.1,?_⟩
 rcases h.2 with h2 | ⟨g,c,u,h3,h4,r⟩
 · exact Or.inl h2
 · exact Or.inr ⟨g,c,u,h3,Nat.le_trans hb h4,r⟩
theorem ItemsOk.scan {w w':World} {b B:Nat} {x:IV} {its:List (Int×Int)} (h:ItemsOk w B x its) (k:Kept [b] w w') (hB:b<B):ItemsOk w' B x its:=by
 have gr:w.grownBy w' (some b):=⟨k.os,k.tape,k.output,k.size,fun i hi hn=>k.block i hi (by simpa using hn)⟩
 refine World.ownsRow.kept h gr ?_
 cases hv:(ivV x).ownBlock with
 | none=>exact Or.inl rfl
 | some g=>refine Or.inr ?_;have:=own_ge h hv;simp;omega
def OldItems (ns:List AN) (xs:List IV) (B:Nat):Prop:=∀(i:Nat) (n:AN) (y:IV),ns[i]?=some n→xs[i]?=some y→∀g,(ivV y).ownBlock=some g→g<B
theorem NV.old {w:World} {b:Nat} {t:ByteArray} {s:RS} {ns:List AN} {v:Value} {xs:List IV} (h:NV w b t s ns v xs):OldItems ns xs w.heap.size:=
 fun i n y hn hy g hg=>(World.ownsRow.lt (h.items i n y hn hy) g hg).2
theorem items_more {b B:Nat} {t:ByteArray} {s:RS} {ns:List AN} {v:Value} {xs:List IV} {w w1:World} {x:IV} {its:List (Int×Int)} {y:Int×Int} (h:NV w b t s ns v xs) (hx:ItemsOk w B x its)
 (hB:b<B) (ho:OldItems ns xs B)
 (v':Value) (hown:w1.ownsRow B 186 2 v' (its.length+1) (itemCells its++[.int .i64 y.1,.int .i64 y.2])) (hgrow:w.grownBy w1 (ivV x).ownBlock):
 ∃ao il ic,v'=.slice ao il ic∧ItemsOk w1 B (ao,il,ic) (its++[y])∧NV w1 b t s ns v xs∧Below b w w1∧il=its.length+1:=by
 obtain ⟨g,cap,rfl⟩:=own_form hown (by omega)
 have hge:∀k,(ivV x).ownBlock=some k→B≤k:=fun k hk=>own_ge hx hk
 refine ⟨_,_,_,rfl,?_,⟨⟨(hgrow.block b h.rd.blk.lt ?_).trans h.rd.blk,h.rd.fits,h.rd.small⟩,h.row.kept hgrow (own_ne h.row hx (by decide)),h.len,fun i n z hn hz=>?_,h.sized⟩,?_,rfl⟩
 · unfold ItemsOk
   rw [itemCells_snoc,List.length_append]
   exact hown
 · intro hc;have:=hge b hc.symm;omega
 · refine World.ownsRow.kept (h.items i n z hn hz) hgrow ?_
   cases hv:(ivV z).ownBlock with
   | none=>exact Or.inl rfl
   | some g=>
     refine Or.inr (fun hc=>?_)
     have h1:=ho i n z hn hz g hv
     have h2:=hge g hc.symm
     omega
 · exact ⟨hgrow.os,hgrow.tape,hgrow.output,hgrow.size,fun k hk=>hgrow.block k (by have:=h.rd.blk.lt;omega) (fun hc=>by have:=hge k hc.symm;omega)⟩
theorem list_any (b:Nat) (t:ByteArray) (s:RS) (ns:List AN) (v:Value) (xs:List IV) (w:World) (h:NV w b t s ns v xs) (hm:ns.length≤1000):
 Calls Tryz.prog 120 #[.pointer (some ⟨b,0,none⟩)] w fun e w'=>
  e=.returned (.int .i64 ((listS t (s,ns)).1:Int))∧NS w' b t (listS t (s,ns)).2∧Below b w w':=by
 have hb:=h.rd.blk.lt
 obtain ⟨i0,hi0,hz0,hz1,hz2⟩:=info_parts infoItem
 go_enter Tryz.func120,Tryz.ntmps120
 go_wp2_with fail
 refine (take_any b 94 t s v _ h.rd (by omega) (by omega)).mono ?_
 rintro e w1 ⟨rfl,h1,k1⟩
 have n1:=h.scan h1 k1
 have b1:Below b w w1:=k1.below (by omega) (by simp)
 clear k1 h1
 have hB:b<w1.heap.size:=n1.rd.blk.lt
 obtain ⟨B,hBe⟩:∃B,B=w1.heap.size:=⟨_,rfl⟩
 have ho:OldItems ns xs B:=by rw [hBe];exact n1.old
 have hBw:B≤w1.heap.size:=by omega
 rw [←hBe] at hB
 clear hBe
 have hsm:Hid (t.size≤40):=h.rd.small
 go_wp2_with fail
 go_loopw [4] (fun it wr=>∃its ao il ic s',it=.slice ao il ic∧ItemsOk wr B (ao,il,ic) its∧B≤wr.heap.size∧NV wr b t s' ns v xs∧Below b w wr∧itemsS t s' its=itemsS t (takeS t 94 s).2 []∧il=its.length∧its.length≤s'.1) (fun it _=>41-lenOf it)
 case atStart=>exact ⟨[],none,0,0,_,rfl,items_nil _ _,hBw,n1,b1,rfl,rfl,Nat.zero_le _⟩
 case round=>
  obtain ⟨its,ao,il,ic,s',rfl,hi,hBr,hn,hbel,hit,rfl,hle⟩:=hrel
  have hfit:=hn.rd.fits
  have hbr:=hn.rd.blk.lt
  have hit:Hid (_=_):=hit
  by_cases hq:itemQ t s'=true
  · have hlt:=itemQ_lt hq
    have hgt:=item_gt hlt
    have hon:Hid (_=_):=itemsS_on (acc:=its) hq
    go_wp2_with fail
    refine (atItem_any b t s' v _ hn.rd).mono ?_
    rintro e w2 ⟨rfl,rfl⟩
    go_wp2_with fail
    refine (item_any b t s' v _ hn.rd).mono ?_
    rintro e w2 ⟨rfl,h2,k2⟩
    have n2:=hn.scan h2 k2
    have i2:=hi.scan k2 hB
    have hB2:B≤w2.heap.size:=Nat.le_trans hBr k2.size
    have b2:=hbel.trans (k2.below (by omega) (by simp))
    go_wp2_with (at_builtin;refine wpList_append_own _ rfl (.tmp 13) (.tmp 15) 112 rfl B 186 i0 _ 2 16 Tryz.underlying112 hi0 hz0 hz1 hz2 rfl (by decide) (ivV (ao,its.length,ic)) its.length (itemCells its) rfl ?own ⟨w2.heap.size+1,0,none⟩ 1 1 [.int .i64 (itemS t s').1.1,.int .i64 (itemS t s').1.2] rfl rfl ?c1 ?c2 ?b1 ?b2 ?b3 ?k)
    case own=>exact (World.ownsRow.alloc i2 _).alloc _
    case c1=>exact cells_new _ _ _ _ (by simp)
    case c2=>simp [Value.oneCell']
    case b1=>unfold maxLen;have:=hsm.out;simp only [Fits] at hfit;omega
    case b2=>have:=hsm.out;simp only [Fits] at hfit;omega
    case b3=>simp;omega
    case k=>
     intro v' w3 hown hgrow hnil
     obtain ⟨ao',il',ic',rfl,i3,n3,b3,rfl⟩:=items_more (x:=(ao,its.length,ic)) ((n2.alloc _).alloc _) (World.ownsRow.alloc (World.ownsRow.alloc i2 _) _) hB ho v' hown hgrow
     go_wp2
     refine ⟨⟨its++[(itemS t s').1],ao',its.length+1,ic',(itemS t s').2,rfl,i3,by have:=hgrow.size;simp at this;omega,n3,b2.trans ((((Below.refl _ _).alloc (by have:=n2.rd.blk.lt;omega) _).alloc (by have:=n2.rd.blk.lt;simp;omega) _).trans b3),hon.out.symm.trans hit.out,by simp,by simp;omega⟩,?_⟩
     have:=hsm.out
     simp only [lenOf]
     omega
  · have hf:itemQ t s'=false:=by simpa using hq
    have hoff:Hid (_=_):=itemsS_off (acc:=its) hf
    clear hq
    go_wp2_with fail
    refine (atItem_any b t s' v _ hn.rd).mono ?_
    rintro e w2 ⟨rfl,rfl⟩
    have hI:Hid (itemsS t (takeS t 94 s).2 []=(its,s')):=hit.out.symm.trans hoff.out
    clear hit hoff
    have hL:its.length≤40:=by have:=hsm.out;simp only [Fits] at hfit;omega
    have fin:∀(s2:RS),(if (takeS t 93 s').1=false∨its.length=0 then failS t else (takeS t 93 s').2)=s2→Hid (listS t (s,ns)=addS { kind:=1,its:=its,neg:=(takeS t 94 s).1,size:=1 } (s2,ns)):=by
     intro s2 e
     show listS t (s,ns)=_
     unfold listS
     simp only []
     rw [hI.out]
     simp only []
     rw [e]
    by_cases hc:(takeS t 93 s').1=false
    · have e:=fin _ (if_pos (Or.inl hc))
      clear fin hI
      go_wp2_with fail
      refine (take_any b 93 t s' v _ hn.rd (by omega) (by omega)).mono ?_
      rintro e1 w3 ⟨rfl,h3,k3⟩
      have n3:=hn.scan h3 k3
      have i3:=hi.scan k3 hB
      have b3:=hbel.trans (k3.below (by omega) (by simp))
      go_wp2_with fail
      refine (fail_any b t _ v _ h3).mono ?_
      rintro e1 w4 ⟨rfl,h4,k4⟩
      have n4:=n3.scan h4 k4
      have i4:=i3.scan k4 hB
      have b4:=b3.trans (k4.below (by have:=h3.blk.lt;omega) (by simp))
      go_wp2_with fail
      refine (add_items b t _ ns v xs ao its.length ic its _ _ n4 hm (own_mono i4 hB)).mono ?_
      rw [←e.out]
      rintro e1 w5 ⟨rfl,h5,b5⟩
      go_wp2
      go_ret
      exact ⟨rfl,h5,b4.trans b5⟩
    have hc:(takeS t 93 s').1=true:=by simpa using hc
    by_cases hz:its.length=0
    · have e:=fin _ (if_pos (Or.inr hz))
      clear fin hI
      obtain rfl:=List.length_eq_zero_iff.1 hz
      clear hz
      go_wp2_with fail
      refine (take_any b 93 t s' v _ hn.rd (by omega) (by omega)).mono ?_
      rintro e1 w3 ⟨rfl,h3,k3⟩
      have n3:=hn.scan h3 k3
      have i3:=hi.scan k3 hB
      have b3:=hbel.trans (k3.below (by omega) (by simp))
      go_wp2_with fail
      refine (fail_any b t _ v _ h3).mono ?_
      rintro e1 w4 ⟨rfl,h4,k4⟩
      have n4:=n3.scan h4 k4
      have i4:=i3.scan k4 hB
      have b4:=b3.trans (k4.below (by have:=h3.blk.lt;omega) (by simp))
      go_wp2_with fail
      refine (add_items b t _ ns v xs ao 0 ic [] _ _ n4 hm (own_mono i4 hB)).mono ?_
      rw [←e.out]
      rintro e1 w5 ⟨rfl,h5,b5⟩
      go_wp2
      go_ret
      exact ⟨rfl,h5,b4.trans b5⟩
    · have e:=fin _ (if_neg (by rw [hc];simpa using hz))
      clear fin hI
      have hz':(((its.length:Nat):Int)==0)=false:=by simpa using hz
      clear hz
      go_wp2_with fail
      refine (take_any b 93 t s' v _ hn.rd (by omega) (by omega)).mono ?_
      rintro e1 w3 ⟨rfl,h3,k3⟩
      have n3:=hn.scan h3 k3
      have i3:=hi.scan k3 hB
      have b3:=hbel.trans (k3.below (by omega) (by simp))
      go_wp2_with fail
      refine (add_items b t _ ns v xs ao its.length ic its _ _ n3 hm (own_mono i3 hB)).mono ?_
      rw [←e.out]
      rintro e1 w5 ⟨rfl,h5,b5⟩
      go_wp2
      go_ret
      exact ⟨rfl,h5,b3.trans b5⟩
structure Out (t:ByteArray) (tag b:Nat) (w w':World) (st:PS) (k:Nat) (r:Nat×PS):Prop where
 ev:Ev t tag 0 st r
 ns:NS w' b t r.2
 bel:Below b w w'
 idx:r.1<r.2.2.length
 grow:st.2.length<r.2.2.length
 ge:st.1.1≤r.2.1.1
 cnt:r.2.2.length+2*st.1.1+k≤st.2.length+2*r.2.1.1+1
theorem out_add {t:ByteArray} {b:Nat} {w w':World} {s s':RS} {ns:List AN} {n:AN} (ev:Ev t 3 0 (s,ns) (addS n (s',ns))) (h:NS w' b t (addS n (s',ns)).2) (hb:Below b w w') (hs:s.1<s'.1):
 Out t 3 b w w' (s,ns) 2 (addS n (s',ns)):=
 ⟨ev,h,hb,by simp [addS],by simp [addS],by simp [addS];omega,by simp [addS];omega⟩
def PatC (t:ByteArray) (m:Nat):Prop:=
 ∀(b:Nat) (s:RS) (ns:List AN) (v:Value) (xs:List IV) (w:World),t.size-s.1<m→NV w b t s ns v xs→ns.length≤500+2*s.1 →
  Calls Tryz.prog 54 #[.pointer (some ⟨b,0,none⟩)] w fun e w'=>∃r:Nat×PS,e=.returned (.int .i64 (r.1:Int))∧Out t 0 b w w' (s,ns) 0 r
def AtomC (t:ByteArray) (b:Nat) (s:RS) (ns:List AN) (w:World):Prop:=
 Calls Tryz.prog 113 #[.pointer (some ⟨b,0,none⟩)] w fun e w'=>∃r:Nat×PS,e=.returned (.int .i64 (r.1:Int))∧Out t 3 b w w' (s,ns) 2 r
section
variable {t:ByteArray} {b:Nat} {s:RS} {ns:List AN} {v:Value} {xs:List IV} {w:World}
theorem front (h:NV w b t s ns v xs) (hp:s.1<t.size):s.1<(nextS t s).2.1∧b<w.heap.size:=⟨next_gt hp,h.rd.blk.lt⟩
theorem atom_dot (h:NV w b t s ns v xs) (hm:ns.length≤1000) (hp:s.1<t.size) (hc:(nextS t s).1=46):AtomC t b s ns w:=by
 obtain ⟨hgt,hbw⟩:=front h hp
 have ev:Ev t 3 0 (s,ns) (bytesS 0 255 ((nextS t s).2,ns)):=by
  have e:=Ev.plain (t:=t) (st:=(s,ns)) (by rw [hc];decide) (by rw [hc];decide)
  simp only [hc,plainS] at e
  exact e
 unfold AtomC
 go_enter Tryz.func113,Tryz.ntmps113
 go_wp2_with fail
 refine (next_any b t s v _ h.rd).mono ?_
 rintro e w1 ⟨rfl,h1,k1⟩
 have n1:=h.scan h1 k1
 have b1:Below b w w1:=k1.below (by omega) (by simp)
 go_wp2_with fail
 refine (bytes_any b 0 255 t _ ns v xs _ n1 hm).mono ?_
 rintro e w2 ⟨rfl,h2,b2⟩
 go_wp2
 go_ret
 exact ⟨_,rfl,out_add ev h2 (b1.trans b2) hgt⟩
theorem atom_begin (h:NV w b t s ns v xs) (hm:ns.length≤1000) (hp:s.1<t.size) (hc:(nextS t s).1=94):AtomC t b s ns w:=by
 obtain ⟨hgt,hbw⟩:=front h hp
 have ev:Ev t 3 0 (s,ns) (addS { kind:=2,size:=1 } ((nextS t s).2,ns)):=by
  have e:=Ev.plain (t:=t) (st:=(s,ns)) (by rw [hc];decide) (by rw [hc];decide)
  simp only [hc,plainS] at e
  exact e
 unfold AtomC
 go_enter Tryz.func113,Tryz.ntmps113
 go_wp2_with fail
 refine (next_any b t s v _ h.rd).mono ?_
 rintro e w1 ⟨rfl,h1,k1⟩
 have n1:=h.scan h1 k1
 have b1:Below b w w1:=k1.below (by omega) (by simp)
 go_wp2_with fail
 refine (add_plain b t _ ns v xs 2 0 0 0 0 1 _ n1 hm (by omega) (by omega)).mono ?_
 rintro e w2 ⟨rfl,h2,b2⟩
 go_wp2
 go_ret
 exact ⟨_,rfl,out_add ev h2 (b1.trans b2) hgt⟩
theorem atom_end (h:NV w b t s ns v xs) (hm:ns.length≤1000) (hp:s.1<t.size) (hc:(nextS t s).1=36):AtomC t b s ns w:=by
 obtain ⟨hgt,hbw⟩:=front h hp
 have ev:Ev t 3 0 (s,ns) (addS { kind:=3,size:=1 } ((nextS t s).2,ns)):=by
  have e:=Ev.plain (t:=t) (st:=(s,ns)) (by rw [hc];decide) (by rw [hc];decide)
  simp only [hc,plainS] at e
  exact e
 unfold AtomC
 go_enter Tryz.func113,Tryz.ntmps113
 go_wp2_with fail
 refine (next_any b t s v _ h.rd).mono ?_
 rintro e w1 ⟨rfl,h1,k1⟩
 have n1:=h.scan h1 k1
 have b1:Below b w w1:=k1.below (by omega) (by simp)
 go_wp2_with fail
 refine (add_plain b t _ ns v xs 3 0 0 0 0 1 _ n1 hm (by omega) (by omega)).mono ?_
 rintro e w2 ⟨rfl,h2,b2⟩
 go_wp2
 go_ret
 exact ⟨_,rfl,out_add ev h2 (b1.trans b2) hgt⟩
theorem atom_esc (h:NV w b t s ns v xs) (hm:ns.length≤1000) (hp:s.1<t.size) (hc:(nextS t s).1=92):AtomC t b s ns w:=by
 obtain ⟨hgt,hbw⟩:=front h hp
 have hgt2:=next_ge (t:=t) (s:=(nextS t s).2) (fits_next (Nat.le_of_lt hp))
 have ev:Ev t 3 0 (s,ns) (bytesS (nextS t (nextS t s).2).1 (nextS t (nextS t s).2).1 ((nextS t (nextS t s).2).2,ns)):=by
  have e:=Ev.plain (t:=t) (st:=(s,ns)) (by rw [hc];decide) (by rw [hc];decide)
  simp only [hc,plainS] at e
  exact e
 unfold AtomC
 go_enter Tryz.func113,Tryz.ntmps113
 go_wp2_with fail
 refine (next_any b t s v _ h.rd).mono ?_
 rintro e w1 ⟨rfl,h1,k1⟩
 have n1:=h.scan h1 k1
 have b1:Below b w w1:=k1.below (by omega) (by simp)
 go_wp2_with fail
 refine (next_any b t _ v _ h1).mono ?_
 rintro e w2 ⟨rfl,h2,k2⟩
 have n2:=n1.scan h2 k2
 have b2:Below b w w2:=b1.trans (k2.below (by have:=h1.blk.lt;omega) (by simp))
 go_wp2_with fail
 refine (bytes_any b _ _ t _ ns v xs _ n2 hm).mono ?_
 rintro e w3 ⟨rfl,h3,b3⟩
 go_wp2
 go_ret
 exact ⟨_,rfl,out_add ev h3 (b2.trans b3) (by omega)⟩
theorem atom_list (h:NV w b t s ns v xs) (hm:ns.length≤1000) (hp:s.1<t.size) (hc:(nextS t s).1=91):AtomC t b s ns w:=by
 obtain ⟨hgt,hbw⟩:=front h hp
 have ev:Ev t 3 0 (s,ns) (listS t ((nextS t s).2,ns)):=Ev.list (st:=(s,ns)) hc
 unfold AtomC
 go_enter Tryz.func113,Tryz.ntmps113
 go_wp2_with fail
 refine (next_any b t s v _ h.rd).mono ?_
 rintro e w1 ⟨rfl,h1,k1⟩
 have n1:=h.scan h1 k1
 have b1:Below b w w1:=k1.below (by omega) (by simp)
 go_wp2_with fail
 refine (list_any b t _ ns v xs _ n1 hm).mono ?_
 rintro e w2 ⟨rfl,h2,b2⟩
 go_wp2
 go_ret
 have hl:(nextS t s).2.1≤(if (takeS t 93 (itemsS t (takeS t 94 (nextS t s).2).2 []).2).1=false∨(itemsS t (takeS t 94 (nextS t s).2).2 []).1.length=0 then failS t else (takeS t 93 (itemsS t (takeS t 94 (nextS t s).2).2 []).2).2).1:=by
  split
  · exact h1.fits
  · exact Nat.le_trans take_ge (Nat.le_trans (itemsS_ge (fits_take (by omega) h1.fits)) take_ge)
 exact ⟨_,rfl,out_add ev h2 (b1.trans b2) (Nat.lt_of_lt_of_le hgt hl)⟩
theorem atom_bad (c:Int) (h:NV w b t s ns v xs) (hm:ns.length≤1000) (hp:s.1<t.size) (hc:(nextS t s).1=c) (hcc:c=41∨c=124∨c=42∨c=43∨c=63∨c=123):AtomC t b s ns w:=by
 obtain ⟨hgt,hbw⟩:=front h hp
 have ev:Ev t 3 0 (s,ns) (bytesS c c (failS t,ns)):=by
  have e:=Ev.plain (t:=t) (st:=(s,ns)) (by simp only [hc];omega) (by simp only [hc];omega)
  simp only [hc,plainS] at e
  rw [if_neg (by omega),if_neg (by omega),if_neg (by omega),if_neg (by omega),if_pos hcc] at e
  exact e
 unfold AtomC
 rcases hcc with rfl | rfl | rfl | rfl | rfl | rfl
 all_goals
  go_enter Tryz.func113,Tryz.ntmps113
  go_wp2_with fail
  refine (next_any b t s v _ h.rd).mono ?_
  rintro e w1 ⟨rfl,h1,k1⟩
  have n1:=h.scan h1 k1
  have b1:Below b w w1:=k1.below (by omega) (by simp)
  go_wp2_with fail
  refine (fail_any b t _ v _ h1).mono ?_
  rintro e w2 ⟨rfl,h2,k2⟩
  have n2:=n1.scan h2 k2
  have b2:Below b w w2:=b1.trans (k2.below (by have:=h1.blk.lt;omega) (by simp))
  go_wp2_with fail
  refine (bytes_any b _ _ t _ ns v xs _ n2 hm).mono ?_
  rintro e w3 ⟨rfl,h3,b3⟩
  go_wp2
  go_ret
  exact ⟨_,rfl,out_add ev h3 (b2.trans b3) hp⟩
theorem atom_byte (h:NV w b t s ns v xs) (hm:ns.length≤1000) (hp:s.1<t.size) (c:Int) (hc:(nextS t s).1=c)
 (n1:c≠40) (n2:c≠91) (n3:c≠46) (n4:c≠94) (n5:c≠36) (n6:c≠92) (n7:c≠41) (n8:c≠124) (n9:c≠42) (n10:c≠43) (n11:c≠63) (n12:c≠123):AtomC t b s ns w:=by
 obtain ⟨hgt,hbw⟩:=front h hp
 have ev:Ev t 3 0 (s,ns) (bytesS c c ((nextS t s).2,ns)):=by
  have e:=Ev.plain (t:=t) (st:=(s,ns)) (by simp only [hc];omega) (by simp only [hc];omega)
  simp only [hc,plainS] at e
  rw [if_neg n3,if_neg n4,if_neg n5,if_neg n6,if_neg (by omega)] at e
  exact e
 have m1:=beq_eq_false_iff_ne.2 n1
 have m2:=beq_eq_false_iff_ne.2 n2
 have m3:=beq_eq_false_iff_ne.2 n3
 have m4:=beq_eq_false_iff_ne.2 n4
 have m5:=beq_eq_false_iff_ne.2 n5
 have m6:=beq_eq_false_iff_ne.2 n6
 have m7:=beq_eq_false_iff_ne.2 n7
 have m8:=beq_eq_false_iff_ne.2 n8
 have m9:=beq_eq_false_iff_ne.2 n9
 have m10:=beq_eq_false_iff_ne.2 n10
 have m11:=beq_eq_false_iff_ne.2 n11
 have m12:=beq_eq_false_iff_ne.2 n12
 clear n1 n2 n3 n4 n5 n6 n7 n8 n9 n10 n11 n12
 unfold AtomC
 go_enter Tryz.func113,Tryz.ntmps113
 go_wp2_with fail
 refine (next_any b t s v _ h.rd).mono ?_
 rw [hc]
 rintro e w1 ⟨rfl,h1,k1⟩
 have n1:=h.scan h1 k1
 have b1:Below b w w1:=k1.below (by omega) (by simp)
 go_wp2_with fail
 refine (bytes_any b c c t _ ns v xs _ n1 hm).mono ?_
 rintro e w2 ⟨rfl,h2,b2⟩
 go_wp2
 go_ret
 exact ⟨_,rfl,out_add ev h2 (b1.trans b2) hgt⟩
end
end Go.Proofs.YtgifhgnccmnbiabGreat
