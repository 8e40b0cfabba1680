/- The document's answer: a file opened; of codes. -/
import Derived.Test.YtgifhgnccmnbiabGreatG31
import Derived.Test.YtgifhgnccmnbiabGreatG32
import Derived.Test.YtgifhgnccmnbiabGreatG24
import Derived.Test.YtgifhgnccmnbiabGreatG20
import Derived.Test.YtgifhgnccmnbiabGreatG23
import Derived.Test.YtgifhgnccmnbiabGreatG30
import Derived.Test.YtgifhgnccmnbiabGreatG06
set_option linter.unusedVariables false
set_option linter.unusedSimpArgs false
set_option maxHeartbeats 4000000
set_option maxRecDepth 100000
namespace Go.Proofs.YtgifhgnccmnbiabGreat
open Go.RowKit Go.IntWalk
structure ZGood (f:ByteArray) (n:Nat) (r:ZB):Prop where
 file:isZ f
 it:zitB (f.extract 3 f.size) (bt f 2) n=some r
 inv:ZBI (f.extract 3 f.size) r
 num:r.n=n
 on:∀i,i<n→∃q,zitB (f.extract 3 f.size) (bt f 2) i=some q∧zgoB (f.extract 3 f.size) (bt f 2) q=true
 stop:zgoB (f.extract 3 f.size) (bt f 2) r=false
 fin:endB (f.extract 3 f.size) r.p=true
def ZNo (f:ByteArray):Prop:=¬isZ f∨(isZ f∧∃n r,zitB (f.extract 3 f.size) (bt f 2) n=some r∧(∀i,i<n→∃q,zitB (f.extract 3 f.size) (bt f 2) i=some q∧zgoB (f.extract 3 f.size) (bt f 2) q=true) ∧
 ((zgoB (f.extract 3 f.size) (bt f 2) r=true∧zsB (f.extract 3 f.size) (bt f 2) r=none)∨(zgoB (f.extract 3 f.size) (bt f 2) r=false∧endB (f.extract 3 f.size) r.p=false)))
theorem CodesR.two {f:ByteArray} {w w':World} {e:Ending} (h:CodesR f w w' e):(ZNo f∧e=badR3)∨∃n r ov tv,ZGood f n r∧ZBM w w' r ov tv∧e=.returned (.tuple #[ov,.int .i64 (n:Int),.bool true]):=by
 rcases h.out with ⟨h1,h2⟩ | ⟨h1,n,r,hit,hinv,hnum,hon,⟨a,b,c⟩ | ⟨a,b,c⟩ | ⟨a,b,ov,tv,hm,c⟩⟩
 · exact Or.inl ⟨Or.inl h1,h2⟩
 · exact Or.inl ⟨Or.inr ⟨h1,n,r,hit,hon,Or.inl ⟨a,b⟩⟩,c⟩
 · exact Or.inl ⟨Or.inr ⟨h1,n,r,hit,hon,Or.inr ⟨a,b⟩⟩,c⟩
 · exact Or.inr ⟨n,r,ov,tv,⟨h1,hit,hinv,hnum,hon,a,b⟩,hm,c⟩
def bytesN (s:ByteArray):List Nat:=s.data.toList.map UInt8.toNat
theorem bytesN_len (s:ByteArray):(bytesN s).length=s.size:=by
 unfold bytesN
 rw [List.length_map,Array.length_toList]
 rfl
theorem strCells_bytes (s:ByteArray) (i:Nat) (hi:i<s.size):(Lib.strCells s)[i]?=some (.int .u8 (((bytesN s).getD i 0:Nat):Int)):=by
 have h2:i<s.data.size:=hi
 unfold Lib.strCells bytesN
 rw [List.getElem?_map,List.getD,List.getElem?_map,Array.getElem?_toList,Array.getElem?_eq_getElem h2]
 rfl
section
variable {w0 w1:World} {b B C:Nat} {kind:Int} {n:Nat} {rl top:List Nat} {ps:List PI} {rv tv pv:Value}
theorem GM.top_fin (h:GM w0 b B C kind n rl top ps rv tv pv) (g:w0.grownBy w1 tv.ownBlock) {v':Value} {x:Nat} (hown:w1.ownsRow C 3 1 v' (top.length+1) (symCells top++[.int .i64 (x:Int)])):
 w1.cell? ⟨b,3,none⟩=some tv∧w1.frozen? ⟨b,3,none⟩=false∧b<w1.heap.size∧GM (w1.setCell ⟨b,3,none⟩ v') b B C kind n rl (top++[x]) ps rv v' pv ∧
 (∀k,k<w0.heap.size→k<C→k≠b→(w1.setCell ⟨b,3,none⟩ v').heap[k]?=w0.heap[k]?)∧(∀wa,Kept [] wa w0→wa.heap.size≤b→Kept [] wa (w1.setCell ⟨b,3,none⟩ v')):=by
 have hlow:∀k,k<C→some k≠tv.ownBlock:=fun k hk hc=>by have:=(h.top.lt k hc.symm).1;omega
 have hbC:b<C:=Nat.lt_of_lt_of_le h.lt h.up
 have hb:Blk w1 b #[.int .i64 kind,.int .i64 (n:Int),rv,tv,pv] 44:=(g.block b h.blk.lt (hlow b hbC)).trans h.blk
 have hr:w1.ownsRow B 3 1 rv rl.length (symCells rl):=World.ownsRow.kept h.rules g (by
  cases hq:rv.ownBlock with
  | none=>exact Or.inl rfl
  | some q=>exact Or.inr (hlow q (h.low q hq)))
 have hp:w1.ownsRow B 92 6 pv ps.length (piCells ps):=World.ownsRow.kept h.pieces g (own_ne h.pieces h.top (by decide))
 refine ⟨hb.cell 3,hb.frozen 3,hb.lt,⟨hb.set 3 v',h.lt,h.up,row_set hr h.lt _ _,h.low,?_,row_set hp h.lt _ _,h.small⟩,?_,?_⟩
 · rw [symCells_snoc,List.length_append]
   exact row_set hown hbC _ _
 · intro k hkw hk hkb
   rw [Below.heap_setCell _ _ _ _ (by rintro rfl;exact hkb rfl)]
   exact g.block k hkw (hlow k hk)
 · intro wa ka hwb
   refine ⟨g.os.trans ka.os,g.tape.trans ka.tape,g.output.trans ka.output,by simpa [World.setCell] using Nat.le_trans ka.size g.size,fun i hi _=>?_⟩
   rw [Below.heap_setCell _ _ _ _ (by rintro rfl;omega)]
   exact (g.block i (Nat.lt_of_lt_of_le hi ka.size) (hlow i (by omega))).trans (ka.block i hi (by simp))
end
end Go.Proofs.YtgifhgnccmnbiabGreat
namespace Go.Proofs.YtgifhgnccmnbiabGreat
structure DMa where
 nodes:List DN
 start:Nat
 ps:List PN
 fold:Bool
 whole:Bool
 inv:Bool
abbrev SetD:=Nat→Prop
inductive Rch (D:DMa) (S:SetD) (b e:Prop):Nat→Prop
 | node {i:Nat}:i<D.nodes.length→S (3+i)→Rch D S b e i
 | start:(S 0∨(S 1∧D.whole=false))→Rch D S b e D.start
 | next {i:Nat} {x:DN}:Rch D S b e i→D.nodes[i]?=some x→(x.kind=7∨(x.kind=2∧b)∨(x.kind=3∧e))→Rch D S b e x.next
 | other {i:Nat} {x:DN}:Rch D S b e i→D.nodes[i]?=some x→x.kind=7→Rch D S b e x.other
def DoneIn (D:DMa) (S:SetD) (b e:Prop):Prop:=∃i x,Rch D S b e i∧D.nodes[i]?=some x∧x.kind=8
def ByteTo (D:DMa) (S:SetD) (b e:Prop) (c j:Nat):Prop:=∃i x p,Rch D S b e i∧D.nodes[i]?=some x∧x.kind=1∧x.next=j∧D.ps[x.part]?=some p∧inB p D.fold c=true
def readS (D:DMa) (S:SetD) (c:Nat):SetD
 | 0=>False
 | 1=>S 0∨S 1
 | 2=>S 2∨(D.whole=false∧DoneIn D S (S 0) False)
 | j+3=>ByteTo D S (S 0) False c j
def runD (D:DMa) (u:List Nat) (S:SetD):SetD:=u.foldl (readS D) S
def selS (D:DMa) (S:SetD):Prop:=S 2∨DoneIn D S (S 0) True
def sgl (i:Nat):SetD:=fun k=>k=i
def Valid (S:SetD):Prop:=S 0→∀k,S k→k=0
theorem runD_app (D:DMa) (u v:List Nat) (S:SetD):runD D (u++v) S=runD D v (runD D u S):=by unfold runD;rw [List.foldl_append]
theorem sgl_valid (i:Nat):Valid (sgl i):=fun h k hk=>by
 have h:0=i:=h
 have hk:k=i:=hk
 omega
theorem read_valid (D:DMa) (S:SetD) (c:Nat):Valid (readS D S c):=fun h=>h.elim
theorem run_valid (D:DMa):∀(u:List Nat) (S:SetD),Valid S→Valid (runD D u S)
 | [],S,h=>h
 | c :: u,S,_=>run_valid D u _ (read_valid D S c)
section
variable {D:DMa} {S:SetD} {e:Prop}
theorem rch_mono {S':SetD} {b b':Prop} (h:∀k,S k→S' k) (hb:b→b') {i:Nat} (g:Rch D S b e i):Rch D S' b' e i:=by
 induction g with
 | node h1 h2=>exact Rch.node h1 (h _ h2)
 | start h1=>
   refine Rch.start ?_
   rcases h1 with h1 | ⟨h1,h2⟩
   · exact Or.inl (h _ h1)
   · exact Or.inr ⟨h _ h1,h2⟩
 | next _ h1 h2 ih=>
   refine Rch.next ih h1 ?_
   rcases h2 with h2 | ⟨h2,h3⟩ | h2
   · exact Or.inl h2
   · exact Or.inr (Or.inl ⟨h2,hb h3⟩)
   · exact Or.inr (Or.inr h2)
 | other _ h1 h2 ih=>exact Rch.other ih h1 h2
theorem rch_parts (hv:Valid S) {i:Nat}:Rch D S (S 0) e i↔∃s,S s∧Rch D (sgl s) (sgl s 0) e i:=by
 constructor
 · intro g
   induction g with
   | @node i h1 h2=>exact ⟨3+i,h2,Rch.node h1 rfl⟩
   | start h1=>
     rcases h1 with h1 | ⟨h1,h2⟩
     · exact ⟨0,h1,Rch.start (Or.inl rfl)⟩
     · exact ⟨1,h1,Rch.start (Or.inr ⟨rfl,h2⟩)⟩
   | next _ h1 h2 ih=>
     obtain ⟨s,h3,h4⟩:=ih
     refine ⟨s,h3,Rch.next h4 h1 ?_⟩
     rcases h2 with h2 | ⟨h2,h5⟩ | h2
     · exact Or.inl h2
     · exact Or.inr (Or.inl ⟨h2,(hv h5 s h3).symm⟩)
     · exact Or.inr (Or.inr h2)
   | other _ h1 h2 ih=>
     obtain ⟨s,h3,h4⟩:=ih
     exact ⟨s,h3,Rch.other h4 h1 h2⟩
 · rintro ⟨s,h1,h2⟩
   refine rch_mono (fun k hk=>?_) (fun h=>?_) h2
   · have hk:k=s:=hk
     rw [hk];exact h1
   · have h:0=s:=h
     rw [h];exact h1
theorem read_parts (hv:Valid S) (c k:Nat):readS D S c k↔∃s,S s∧readS D (sgl s) c k:=by
 match k with
 | 0=>exact ⟨fun h=>h.elim,fun ⟨_,_,h⟩=>h.elim⟩
 | 1=>
   constructor
   · rintro (h | h)
     · exact ⟨0,h,Or.inl rfl⟩
     · exact ⟨1,h,Or.inr rfl⟩
   · rintro ⟨s,h1,h | h⟩
     · have h:0=s:=h
       rw [←h] at h1;exact Or.inl h1
     · have h:1=s:=h
       rw [←h] at h1;exact Or.inr h1
 | 2=>
   constructor
   · rintro (h | ⟨h1,i,x,h2,h3,h4⟩)
     · exact ⟨2,h,Or.inl rfl⟩
     · obtain ⟨s,h5,h6⟩:=(rch_parts hv).1 h2
       exact ⟨s,h5,Or.inr ⟨h1,i,x,h6,h3,h4⟩⟩
   · rintro ⟨s,h1,h | ⟨h2,i,x,h3,h4,h5⟩⟩
     · have h:2=s:=h
       rw [←h] at h1;exact Or.inl h1
     · exact Or.inr ⟨h2,i,x,(rch_parts hv).2 ⟨s,h1,h3⟩,h4,h5⟩
 | j+3=>
   constructor
   · rintro ⟨i,x,p,h1,h2⟩
     obtain ⟨s,h5,h6⟩:=(rch_parts hv).1 h1
     exact ⟨s,h5,i,x,p,h6,h2⟩
   · rintro ⟨s,h1,i,x,p,h3,h2⟩
     exact ⟨i,x,p,(rch_parts hv).2 ⟨s,h1,h3⟩,h2⟩
theorem run_parts:∀(u:List Nat) (S:SetD),Valid S→∀k,runD D u S k↔∃s,S s∧runD D u (sgl s) k
 | [],S,_,k=>⟨fun h=>⟨k,h,rfl⟩,fun ⟨s,h1,h2⟩=>by
    have h2:k=s:=h2
    rw [h2];exact h1⟩
 | c :: u,S,hv,k=>by
   show runD D u (readS D S c) k↔∃s,S s∧runD D u (readS D (sgl s) c) k
   rw [run_parts u _ (read_valid D S c) k]
   constructor
   · rintro ⟨j,h1,h2⟩
     obtain ⟨s,h3,h4⟩:=(read_parts hv c j).1 h1
     exact ⟨s,h3,(run_parts u _ (read_valid D _ c) k).2 ⟨j,h4,h2⟩⟩
   · rintro ⟨s,h1,h2⟩
     obtain ⟨j,h3,h4⟩:=(run_parts u _ (read_valid D _ c) k).1 h2
     exact ⟨j,(read_parts hv c j).2 ⟨s,h1,h3⟩,h4⟩
end
structure MaOk (D:DMa) (R:Bool→ByteArray→Rel):Prop where
 done:∃x,D.nodes[0]?=some x∧x.kind=8
 frag:Frag D.ps D.nodes 1 D.nodes.length 0 D.start R
theorem MaOk.only {D:DMa} {R:RelT} (h:MaOk D R) {i:Nat} {x:DN} (hx:D.nodes[i]?=some x):x.kind=8↔i=0:=by
 obtain ⟨y,h1,h2⟩:=h.done
 constructor
 · intro hk
   by_cases hi:i=0
   · exact hi
   · have:=h.frag.ok i x (by omega) (List.getElem?_eq_some_iff.1 hx).1 hx
     rcases this with h3 | ⟨h3,_⟩ <;> omega
 · intro hi
   subst hi
   rw [h1] at hx
   obtain rfl:=Option.some.inj hx
   exact h2
theorem MaOk.start_lt {D:DMa} {R:RelT} (h:MaOk D R):D.start<D.nodes.length:=by
 obtain ⟨y,h1,_⟩:=h.done
 have:=(List.getElem?_eq_some_iff.1 h1).1
 rcases h.frag.first with h2 | h2 <;> omega
theorem MaOk.next_lt {D:DMa} {R:RelT} (h:MaOk D R) {i:Nat} {x:DN} (hx:D.nodes[i]?=some x) (hk:x.kind≠8):x.next<D.nodes.length∧(x.kind=7→x.other<D.nodes.length):=by
 have hi:i≠0:=fun hc=>hk ((h.only hx).2 hc)
 obtain ⟨y,h1,_⟩:=h.done
 have h0:=(List.getElem?_eq_some_iff.1 h1).1
 obtain ⟨g1,g2⟩:=h.frag.goes i x (by omega) (List.getElem?_eq_some_iff.1 hx).1 hx
 refine ⟨by omega,fun h7=>?_⟩
 have:=g2 h7
 omega
theorem rch_lt {D:DMa} {R:RelT} (h:MaOk D R) {S:SetD} {b e:Prop} {i:Nat} (g:Rch D S b e i):i<D.nodes.length:=by
 induction g with
 | node h1 _=>exact h1
 | start _=>exact h.start_lt
 | next _ h1 h2 ih=>exact (h.next_lt h1 (by rcases h2 with h2 | h2 | h2 <;> omega)).1
 | other _ h1 h2 ih=>exact (h.next_lt h1 (by omega)).2 h2
inductive Cfg (D:DMa) (t:ByteArray):Nat→Nat→Prop
 | start {a:Nat}:a≤t.size→(D.whole=true→a=0)→Cfg D t D.start a
 | step {i a j b:Nat} {x:DN}:Cfg D t i a→D.nodes[i]?=some x→EdgeD D.ps D.fold t x a j b→Cfg D t j b
section
variable {D:DMa} {R:RelT} {t:ByteArray}
theorem cfg_done (h:MaOk D R) (m:Nat):Cfg D t 0 m↔∃a,a≤t.size∧(D.whole=true→a=0)∧R D.fold t a m:=by
 constructor
 · intro g
   have key:∀i b,Cfg D t i b→∃a,a≤t.size∧(D.whole=true→a=0)∧∀m,PathD D.ps D.fold t D.nodes 1 D.nodes.length 0 i b m→PathD D.ps D.fold t D.nodes 1 D.nodes.length 0 D.start a m:=by
    intro i b g
    induction g with
    | @start a h1 h2=>exact ⟨a,h1,h2,fun m h=>h⟩
    | @step i a j b x g1 g2 g3 ih=>
      obtain ⟨a',h1,h2,h3⟩:=ih
      refine ⟨a',h1,h2,fun m hm=>h3 m ?_⟩
      have hi:i≠0:=fun hc=>by
       have:=(h.only g2).2 hc
       rcases g3 with ⟨hk,_⟩ | ⟨hk,_⟩ | ⟨hk,_⟩ | ⟨hk,_⟩ <;> omega
      exact PathD.step (by omega) (List.getElem?_eq_some_iff.1 g2).1 g2 g3 hm
   obtain ⟨a,h1,h2,h3⟩:=key 0 m g
   exact ⟨a,h1,h2,(h.frag.iff D.fold t a m h1).1 (h3 m (PathD.done m))⟩
 · rintro ⟨a,h1,h2,h3⟩
   have g:=(h.frag.iff D.fold t a m h1).2 h3
   have key:∀i a m,PathD D.ps D.fold t D.nodes 1 D.nodes.length 0 i a m→Cfg D t i a→Cfg D t 0 m:=by
    intro i a m g
    induction g with
    | done a=>exact fun h=>h
    | step _ _ g3 g4 _ ih=>exact fun h=>ih (Cfg.step h g3 g4)
   exact key _ _ _ g (Cfg.start h1 h2)
def setAt (D:DMa) (t:ByteArray) (p:Nat):SetD
 | 0=>p=0
 | 1=>0<p
 | 2=>D.whole=false∧∃q,q<p∧Cfg D t 0 q
 | j+3=>∃i x a,Cfg D t i a∧D.nodes[i]?=some x∧x.kind=1∧EdgeD D.ps D.fold t x a j p
theorem rch_cfg (h:MaOk D R) {p:Nat} (hp:p≤t.size) {e:Prop} (he:e↔p=t.size) (i:Nat):Rch D (setAt D t p) (setAt D t p 0) e i↔Cfg D t i p:=by
 constructor
 · intro g
   induction g with
   | @node i h1 h2=>
     rw [Nat.add_comm] at h2
     obtain ⟨i',x,a,g1,g2,g3,g4⟩:=h2
     exact Cfg.step g1 g2 g4
   | start h1=>
     refine Cfg.start hp (fun hw=>?_)
     rcases h1 with h1 | ⟨_,h2⟩
     · exact h1
     · rw [hw] at h2;cases h2
   | @next i x _ h1 h2 ih=>
     refine Cfg.step ih h1 ?_
     rcases h2 with h2 | ⟨h2,h3⟩ | ⟨h2,h3⟩
     · exact Or.inl ⟨h2,Or.inl rfl,rfl⟩
     · have h3:p=0:=h3
       exact Or.inr (Or.inl ⟨h2,rfl,h3,h3⟩)
     · exact Or.inr (Or.inr (Or.inl ⟨h2,rfl,he.1 h3,he.1 h3⟩))
   | @other i x _ h1 h2 ih=>exact Cfg.step ih h1 (Or.inl ⟨h2,Or.inr rfl,rfl⟩)
 · intro g
   induction g with
   | @start a h1 h2=>
     refine Rch.start ?_
     by_cases ha:a=0
     · exact Or.inl ha
     · exact Or.inr ⟨show 0<a by omega,by
        cases hw:D.whole with
        | false=>rfl
        | true=>exact absurd (h2 hw) ha⟩
   | @step i a j b x g1 g2 g3 ih=>
     have g3':=g3
     rcases g3 with ⟨hk,hj,rfl⟩ | ⟨hk,rfl,ha,hb⟩ | ⟨hk,rfl,ha,hb⟩ | ⟨hk,rfl,q,hq1,hq2⟩
     · rcases hj with rfl | rfl
       · exact Rch.next (ih hp he) g2 (Or.inl hk)
       · exact Rch.other (ih hp he) g2 hk
     · subst ha;subst hb
       exact Rch.next (ih hp he) g2 (Or.inr (Or.inl ⟨hk,rfl⟩))
     · subst ha;subst hb
       exact Rch.next (ih hp he) g2 (Or.inr (Or.inr ⟨hk,he.2 rfl⟩))
     · have hlt:=(h.next_lt g2 (by omega)).1
       refine Rch.node hlt ?_
       rw [Nat.add_comm]
       exact ⟨i,x,a,g1,g2,hk,g3'⟩
theorem setAt_next (h:MaOk D R) {p:Nat} (hp:p<t.size) (k:Nat):readS D (setAt D t p) (t[p]'hp).toNat k↔setAt D t (p+1) k:=by
 have hr:=fun i=>rch_cfg h (Nat.le_of_lt hp) (e:=False) (by constructor;exact fun h=>h.elim;intro h;omega) i
 match k with
 | 0=>exact ⟨fun h=>h.elim,fun h=>by
    have h:p+1=0:=h
    omega⟩
 | 1=>exact ⟨fun _=>show 0<p+1 by omega,fun _=>by
    show p=0∨0<p
    omega⟩
 | 2=>
   constructor
   · rintro (⟨h1,q,h2,h3⟩ | ⟨h1,i,x,h2,h3,h4⟩)
     · exact ⟨h1,q,by omega,h3⟩
     · obtain rfl:=(h.only h3).1 h4
       exact ⟨h1,p,by omega,(hr 0).1 h2⟩
   · rintro ⟨h1,q,h2,h3⟩
     by_cases hq:q=p
     · subst hq
       obtain ⟨x,h4,h5⟩:=h.done
       exact Or.inr ⟨h1,0,x,(hr 0).2 h3,h4,h5⟩
     · exact Or.inl ⟨h1,q,by omega,h3⟩
 | j+3=>
   constructor
   · rintro ⟨i,x,q,h1,h2,h3,h4,h5,h6⟩
     exact ⟨i,x,p,(hr i).1 h1,h2,h3,Or.inr (Or.inr (Or.inr ⟨h3,h4.symm,q,h5,rfl,hp,h6⟩))⟩
   · rintro ⟨i,x,a,h1,h2,h3,h4⟩
     rcases h4 with ⟨hk,_⟩ | ⟨hk,_⟩ | ⟨hk,_⟩ | ⟨_,hj,q,h5,h6,h7,h8⟩
     · omega
     · omega
     · omega
     · obtain rfl:a=p:=by omega
       exact ⟨i,x,q,(hr i).2 h1,h2,h3,hj.symm,h5,h8⟩
theorem run_setAt (h:MaOk D R):∀p,p≤t.size→runD D ((bytesN t).take p) (sgl 0)=setAt D t p
 | 0,_=>by
   funext k
   refine propext ?_
   show k=0↔setAt D t 0 k
   match k with
   | 0=>exact ⟨fun _=>rfl,fun _=>rfl⟩
   | 1=>exact ⟨fun h=>by omega,fun h=>absurd h (Nat.lt_irrefl 0)⟩
   | 2=>exact ⟨fun h=>by omega,fun ⟨_,q,h,_⟩=>absurd h (Nat.not_lt_zero _)⟩
   | j+3=>exact ⟨fun h=>by omega,fun ⟨i,x,a,h1,h2,h3,h4⟩=>by
      rcases h4 with ⟨hk,_⟩ | ⟨hk,_⟩ | ⟨hk,_⟩ | ⟨_,_,q,_,h6,_⟩
      · omega
      · omega
      · omega
      · omega⟩
 | p+1,hp=>by
   have hb:(bytesN t)[p]?=some (t[p]'(by omega)).toNat:=by
    have h2:p<t.data.size:=hp
    unfold bytesN
    rw [List.getElem?_map,Array.getElem?_toList,Array.getElem?_eq_getElem h2]
    rfl
   rw [List.take_add_one,hb,runD_app,run_setAt h p (by omega)]
   funext k
   exact propext (setAt_next h (by omega) k)
theorem sel_line (h:MaOk D R):selS D (runD D (bytesN t) (sgl 0))↔if D.whole=true then R D.fold t 0 t.size else ∃a b,a≤b∧b≤t.size∧R D.fold t a b:=by
 have e:runD D (bytesN t) (sgl 0)=setAt D t t.size:=by
  have:=run_setAt (t:=t) h t.size (Nat.le_refl _)
  rwa [List.take_of_length_le (by rw [bytesN_len];exact Nat.le_refl _)] at this
 rw [e]
 have hr:=fun i=>rch_cfg (t:=t) h (Nat.le_refl _) (e:=True) (by simp) i
 have hd:DoneIn D (setAt D t t.size) (setAt D t t.size 0) True↔Cfg D t 0 t.size:=by
  constructor
  · rintro ⟨i,x,h1,h2,h3⟩
    obtain rfl:=(h.only h2).1 h3
    exact (hr 0).1 h1
  · intro h1
    obtain ⟨x,h4,h5⟩:=h.done
    exact ⟨0,x,(hr 0).2 h1,h4,h5⟩
 unfold selS
 rw [hd]
 cases hw:D.whole with
 | true=>
   rw [if_pos rfl,cfg_done h]
   constructor
   · rintro (⟨h1,_⟩ | ⟨a,h1,h2,h3⟩)
     · rw [hw] at h1;cases h1
     · rw [h2 hw] at h3;exact h3
   · intro h1
     exact Or.inr ⟨0,Nat.zero_le _,fun _=>rfl,h1⟩
 | false=>
   rw [if_neg (by decide)]
   constructor
   · rintro (⟨_,q,h1,h2⟩ | h2)
     · obtain ⟨a,h3,_,h4⟩:=(cfg_done h q).1 h2
       have:=h.frag.bd h3 h4
       exact ⟨a,q,this.1,this.2,h4⟩
     · obtain ⟨a,h3,_,h4⟩:=(cfg_done h _).1 h2
       have:=h.frag.bd h3 h4
       exact ⟨a,_,this.1,this.2,h4⟩
   · rintro ⟨a,b,h1,h2,h3⟩
     have g:Cfg D t 0 b:=(cfg_done h b).2 ⟨a,by omega,(fun hc=>by rw [hw] at hc;cases hc),h3⟩
     by_cases hb:b=t.size
     · rw [hb] at g;exact Or.inr g
     · exact Or.inl ⟨hw,b,by omega,g⟩
end
end Go.Proofs.YtgifhgnccmnbiabGreat
namespace Go.Proofs.YtgifhgnccmnbiabGreat
open Go.RowKit Go.IntWalk
structure TR (w:World) (n b:Nat) (t:TT) (rv sv:Value):Prop where
 blk:Blk w b (t.cells rv sv) 61
 rules:w.ownsRow 0 159 6 rv t.rules.length (ruCells t.rules)
 start:w.ownsRow 0 3 1 sv t.start.length (symCells t.start)
 low:b<n
 rlow:∀g,rv.ownBlock=some g→g<n
 slow:∀g,sv.ownBlock=some g→g<n
theorem row_under {w w':World} {n m base e z k:Nat} {v:Value} {xs:List Value} (h:w.ownsRow base e z v k xs) (hl:∀g,v.ownBlock=some g→g<n) (b:Below m w w') (hn:n≤m):w'.ownsRow base e z v k xs:=by
 refine ⟨h.1,?_⟩
 rcases h.2 with h1 | ⟨g,cap,cur,h1,h2,h3,h4⟩
 · exact Or.inl h1
 · exact Or.inr ⟨g,cap,cur,h1,h2,(b.block g (by have:=hl g (by rw [h1];rfl);omega)).trans h3,h4⟩
section
variable {w w':World} {n b:Nat} {t:TT} {rv sv:Value}
theorem TR.cell (h:TR w n b t rv sv) (j:Nat):w.cell? ⟨b,j,none⟩=(t.cells rv sv)[j]?:=h.blk.cell j
theorem TR.under (h:TR w n b t rv sv) {m:Nat} (k:Below m w w') (hn:n≤m):TR w' n b t rv sv:=
 ⟨(k.block b (by have:=h.low;omega)).trans h.blk,row_under h.rules h.rlow k hn,row_under h.start h.slow k hn,h.low,h.rlow,h.slow⟩
theorem TR.kept (h:TR w n b t rv sv) (k:Kept [] w w'):TR w' n b t rv sv:=
 ⟨h.blk.kept k (by simp),row_stay (S:=[]) h.rules k (fun _ _=>by simp),row_stay (S:=[]) h.start k (fun _ _=>by simp),h.low,h.rlow,h.slow⟩
end
theorem ruleT_any {w:World} {n b:Nat} {t:TT} {rv sv:Value} (h:TR w n b t rv sv) (s:Nat) (hs:s≤100000) (hl:t.rules.length≤100000):
 Calls Tryz.prog 71 #[.pointer (some ⟨b,0,none⟩),.int .i64 (s:Int)] w fun e w'=>e=.returned (ruleAt t.rules s).val∧Kept [] w w':=by
 have hk:Hid (∀o1,Kept [] w (w.alloc o1)):=fun o1=>(Kept.refl [] w).alloc _
 have c2:w.cell? ⟨b,2,none⟩=some rv:=h.cell 2
 have hbw:b<w.heap.size:=h.blk.lt
 by_cases h1:(s:Int)-256<0
 · have e:ruleAt t.rules s=⟨0,0,{}⟩:=by unfold ruleAt;rw [if_neg (by omega)]
   rw [e]
   unfold RU.val RU.cells
   clear h e c2
   go_enter Tryz.func71,Tryz.ntmps71
   go_wp2
   refine bodyPost_ret (v:=.agg #[.int .i64 0,.int .i64 0,.int .i64 0,.int .i64 0,.int .i64 0,.int .i64 0]) (by simp [results,Tryz.results71,go_sem]) rfl ⟨rfl,hk.out _⟩
 · obtain ⟨k,rfl⟩:∃k:Nat,s=k+256:=⟨s-256,by omega⟩
   have hn:Hid (∀x,t.rules[k]?=x→ruleAt t.rules ((k+256:Nat):Int)=x.getD ⟨0,0,{}⟩):=fun x hx=>by
    unfold ruleAt;rw [if_pos (by omega),show (((k+256:Nat):Int)-256).toNat=k by omega,hx]
   clear h1
   by_cases h2:k<t.rules.length
   · obtain ⟨x,hx⟩:∃x,t.rules[k]?=some x:=⟨_,List.getElem?_eq_getElem h2⟩
     rw [hn.out _ hx]
     obtain ⟨g,cap,rfl⟩:=own_form h.rules (by omega)
     have hgw:g<w.heap.size:=(h.rules.lt g rfl).2
     have hc:∀j,j<6→w.cell? ⟨g,k*6+j,none⟩=x.cells[j]?:=fun j hj=>by
      obtain ⟨u,hu⟩:∃u,x.cells[j]?=some u:=⟨_,List.getElem?_eq_getElem (by simp [RU.cells];omega)⟩
      have:=h.rules.cells (g:=g) rfl (k*6+j) u (by rw [ruCells_get _ _ _ _ hx hj];exact hu)
      rw [ptr_add] at this
      rw [this,hu]
     obtain ⟨l,r,⟨p1,p2,p3,p4⟩⟩:=x
     have d0:w.cell? ⟨g,k*6,none⟩=some (.int .i64 l):=hc 0 (by omega)
     have d1:w.cell? ⟨g,k*6+1,none⟩=some (.int .i64 r):=hc 1 (by omega)
     have d2:w.cell? ⟨g,k*6+2,none⟩=some (.int .i64 p1):=hc 2 (by omega)
     have d3:w.cell? ⟨g,k*6+3,none⟩=some (.int .i64 p2):=hc 3 (by omega)
     have d4:w.cell? ⟨g,k*6+4,none⟩=some (.int .i64 p3):=hc 4 (by omega)
     have d5:w.cell? ⟨g,k*6+5,none⟩=some (.int .i64 p4):=hc 5 (by omega)
     show Calls _ _ _ _ (fun e w'=>e=.returned (.agg #[.int .i64 l,.int .i64 r,.int .i64 p1,.int .i64 p2,.int .i64 p3,.int .i64 p4])∧Kept [] w w')
     generalize t.rules.length=n0 at *
     have lt:(k:Int)<(n0:Int):=by omega
     clear h hc hx hn
     go_enter Tryz.func71,Tryz.ntmps71
     go_wp2
     refine bodyPost_ret (v:=.agg #[.int .i64 l,.int .i64 r,.int .i64 p1,.int .i64 p2,.int .i64 p3,.int .i64 p4]) (by simp [results,Tryz.results71,go_sem]) rfl ⟨rfl,hk.out _⟩
   · rw [hn.out none (List.getElem?_eq_none (by omega))]
     show Calls _ _ _ _ (fun e w'=>e=.returned (.agg #[.int .i64 0,.int .i64 0,.int .i64 0,.int .i64 0,.int .i64 0,.int .i64 0])∧Kept [] w w')
     have hv:∃a cap,rv=.slice a t.rules.length cap:=by
      rcases h.rules.2 with ⟨h3,h4⟩ | ⟨g,cap,_,h3,_⟩
      · exact ⟨none,0,by rw [h3,h4]⟩
      · exact ⟨_,cap,h3⟩
     obtain ⟨a,cap,rfl⟩:=hv
     generalize t.rules.length=n0 at *
     have lt:¬(k:Int)<(n0:Int):=by omega
     clear h hn h2
     go_enter Tryz.func71,Tryz.ntmps71
     go_wp2
     refine bodyPost_ret (v:=.agg #[.int .i64 0,.int .i64 0,.int .i64 0,.int .i64 0,.int .i64 0,.int .i64 0]) (by simp [results,Tryz.results71,go_sem]) rfl ⟨rfl,hk.out _⟩
theorem Kept.cell' {w w':World} (k:Kept [] w w') {g:Nat} (hg:g<w.heap.size) (j:Nat):w'.cell? ⟨g,j,none⟩=w.cell? ⟨g,j,none⟩:=by
 unfold World.cell?
 simp only []
 rw [k.block g hg (by simp)]
theorem own_type {w:World} {base e z k g:Nat} {v:Value} {xs:List Value} {cs:Array Value} {e':TypeId} (h:w.ownsRow base e z v k xs) (hb:Blk w g cs e') (hg:v.ownBlock=some g):e'=e:=by
 rcases h.2 with ⟨h1,_⟩ | ⟨g',cap,cur,h1,h2,h3,h4⟩
 · rw [h1] at hg;simp [Value.ownBlock] at hg
 · rw [h1] at hg
   have:g'=g:=by simpa [Value.ownBlock] using hg
   subst this
   have hb':w.heap[g']?=some (.cells cs e'):=hb
   rw [h3] at hb'
   simp at hb'
   exact hb'.2.symm
section
variable {w w':World} {c b fr dst p:Nat} {ov:Value} {out:List Nat}
end
def thr (f:Nat→Bool) (W:Nat→Nat→Bool) (i c:Nat):Bool:=(List.range i).any fun m=>f m&&W m c
theorem thr_succ (f:Nat→Bool) (W:Nat→Nat→Bool) (i c:Nat):thr f W (i+1) c=(thr f W i c || (f i&&W i c)):=by
 simp [thr,List.range_succ]
theorem thr_iff (f:Nat→Bool) (W:Nat→Nat→Bool) (i c:Nat):thr f W i c=true↔∃m,m<i∧f m=true∧W m c=true:=by
 simp only [thr,List.any_eq_true,List.mem_range,Bool.and_eq_true]
def midR (f:Nat→Bool) (W:Nat→Nat→Bool) (i k c:Nat):Bool:=if c<k then thr f W (i+1) c else thr f W i c
theorem midR_step (f:Nat→Bool) (W:Nat→Nat→Bool) (i k:Nat) (hf:f i=true) (j:Nat):midR f W i (k+1) j=if j=k then (midR f W i k k || W i k) else midR f W i k j:=by
 unfold midR
 by_cases h:j=k
 · subst h
   rw [if_pos rfl,if_pos (by omega),if_neg (Nat.lt_irrefl _),thr_succ,hf,Bool.true_and]
 · rw [if_neg h]
   by_cases h2:j<k
   · rw [if_pos (by omega),if_pos h2]
   · rw [if_neg (by omega),if_neg h2]
theorem midR_none (f:Nat→Bool) (W:Nat→Nat→Bool) (i k:Nat) (hf:f i=false) (j:Nat):midR f W i k j=thr f W (i+1) j:=by
 unfold midR
 rw [thr_succ,hf,Bool.false_and,Bool.or_false]
 split <;> rfl
structure RowOut (w w':World) (e:Ending) (n:Nat) (f:Nat→Bool):Prop where
 ex:∃g,e=.returned (rowV n g)∧w.heap.size≤g∧Blk w' g (boolRow n f) 4
 kept:Kept [] w w'
theorem through_any {n:Nat} (hn:n≤100000) {w:World} {gv:Nat} {f:Nat→Bool} (hv:Blk w gv (boolRow n f) 4) {vW:Value} {rows:List Nat} {W:Nat→Nat→Bool} (hW:Tab w 0 vW n rows W) (hlen:rows.length=n):
 Calls Tryz.prog 27 #[rowV n gv,vW] w fun e w'=>RowOut w w' e n (thr f W n):=by
 have hmk:=make_row n (by omega)
 have h0:Hid (Blk (w.alloc (.cells (boolRow n (fun _=>false)) 4)) w.heap.size (boolRow n (thr f W 0)) 4):=Blk.new w _ _
 have hk0:Hid (Kept [] w (w.alloc (.cells (boolRow n (fun _=>false)) 4))):=(Kept.refl [] w).alloc _
 have hvH:Hid (Blk _ _ _ _):=hv
 have hWH:Hid (Tab _ _ _ _ _ _):=hW
 have hlH:Hid (_=_):=hlen
 clear hv hW hlen
 unfold rowV
 go_enter Tryz.func27,Tryz.ntmps27
 go_wp2_with fail
 clear hmk
 go_loopw [6,7] (fun iv _ wr=>∃i:Nat,iv=.int .i64 (i:Int)∧i≤n∧Blk wr w.heap.size (boolRow n (thr f W i)) 4∧Kept [] w wr) (fun iv _ _=>((n:Int)-intOf iv).toNat)
 case atStart=>exact ⟨0,rfl,Nat.zero_le _,h0.out,hk0.out⟩
 case round=>
  obtain ⟨i,rfl,hi,hb,hkw⟩:=hrel
  have hbH:Hid (Blk _ _ _ _):=hb
  have hkwH:Hid (Kept _ _ _):=hkw
  clear h0 hk0 hb hkw
  by_cases hlt:(i:Int)<(n:Int)
  · have hin:i<n:=by omega
    go_wp2_with fail
    go_loopw [7] (fun kv wr=>∃k:Nat,kv=.int .i64 (k:Int)∧k≤n∧Blk wr w.heap.size (boolRow n (midR f W i k)) 4∧Kept [] w wr) (fun kv _=>((n:Int)-intOf kv).toNat)
    case atStart=>exact ⟨0,rfl,Nat.zero_le _,by
     rw [boolRow_congr (f:=midR f W i 0) (f':=thr f W i) (fun j _=>if_neg (Nat.not_lt_zero _))]
     exact hbH.out,hkwH.out⟩
    case round=>
     obtain ⟨k,rfl,hk,hb,hkw⟩:=hrel
     clear hbH hkwH
     have hv2:=hvH.out.kept hkw (by simp)
     have a1:wr.cell? ⟨gv,i,none⟩=some (.bool (f i)):=by rw [hv2.cell,boolRow_get _ hin]
     have hvl:=hv2.lt
     clear hv2
     by_cases hkt:(k:Int)<(n:Int)
     · have hkn:k<n:=by omega
       cases hf:f i with
       | false=>
         rw [hf] at a1
         rw [boolRow_congr (f:=midR f W i k) (f':=thr f W (i+1)) (fun j _=>midR_none f W i k hf j)] at hb
         have hbH:Hid (Blk _ _ _ _):=hb
         have hkwH:Hid (Kept _ _ _):=hkw
         clear hb hkw hf
         go_wp2
         refine ⟨⟨i+1,by go_num,by omega,hbH.out,hkwH.out⟩,?_⟩
         simp only [intOf];omega
       | true=>
         rw [hf] at a1
         obtain ⟨g,hg⟩:∃g,rows[i]?=some g:=⟨_,List.getElem?_eq_getElem (by rw [hlH.out];omega)⟩
         have hW2:=hWH.out.kept hkw (by simp)
         obtain ⟨k2,cap2,rfl,_,hcells⟩:=hW2.head (by rw [hlH.out];omega)
         have d1:=hcells i g hg
         unfold rowV at d1
         have d2:=hW2.cell hg (j:=k) hkn
         have e1:wr.cell? ⟨w.heap.size,k,none⟩=some (.bool (midR f W i k k)):=by rw [hb.cell,boolRow_get _ hkn]
         have e2:=hb.frozen k
         have e3:=hb.lt
         have hln:rows.length=n:=hlH.out
         rw [hln]
         have hb2:Hid (Blk (wr.setCell ⟨w.heap.size,k,none⟩ (.bool (midR f W i k k || W i k))) w.heap.size (boolRow n (midR f W i (k+1))) 4):=by
          have:=hb.set k (.bool (midR f W i k k || W i k))
          rwa [boolRow_set (midR f W i k) (midR f W i (k+1)) k _ (fun j _=>midR_step f W i k hf j)] at this
         have hk2:Hid (Kept [] w (wr.setCell ⟨w.heap.size,k,none⟩ (.bool (midR f W i k k || W i k)))):=hkw.setCell (Or.inr (Nat.le_refl _)) _
         clear hg hcells hW2 hb hkw hf hln
         generalize midR f W i k k=X at *
         generalize W i k=Y at *
         cases X with
         | true=>
           rw [Bool.true_or] at hb2 hk2
           go_wp2
           refine ⟨⟨k+1,by go_num,by omega,hb2.out,hk2.out⟩,?_⟩
           simp only [intOf];omega
         | false=>
           rw [Bool.false_or] at hb2 hk2
           go_wp2
           refine ⟨⟨k+1,by go_num,by omega,hb2.out,hk2.out⟩,?_⟩
           simp only [intOf];omega
     · have hkn:k=n:=by omega
       rw [boolRow_congr (f:=midR f W i k) (f':=thr f W (i+1)) (fun j hj=>if_pos (by omega))] at hb
       have hbH:Hid (Blk _ _ _ _):=hb
       have hkwH:Hid (Kept _ _ _):=hkw
       clear hb hkw
       go_wp2
       refine ⟨⟨i+1,by go_num,by omega,hbH.out,hkwH.out⟩,?_⟩
       simp only [intOf];omega
  · have hin:i=n:=by omega
    rw [hin] at hbH
    go_wp2
    go_ret
    exact ⟨⟨_,rfl,Nat.le_refl _,hbH.out⟩,hkwH.out⟩
theorem Tab.push2 {w w':World} {B n:Nat} {v:Value} {rows:List Nat} {M:Nat→Nat→Bool} (h:Tab w B v n rows M) {g:Nat} {f:Nat→Bool} (hg:Blk w g (boolRow n f) 4) (hB:B≤g) (hnew:¬g∈rows) {o:Obj} {v':Value}
 (hown:w'.ownsRow B 47 1 v' (rows.length+1) (rows.map (rowV n)++[rowV n g])) (hgrow:(w.alloc o).grownBy w' v.ownBlock) {M':Nat→Nat→Bool} (e:∀i j,i<rows.length+1→j<n→M' i j=if i=rows.length then f j else M i j):
 Tab w' B v' n (rows++[g]) M'∧(∀w0,Kept [] w0 w→w0.heap.size≤B→Kept [] w0 w'):=by
 have bl:∀k,k<w.heap.size→v.ownBlock≠some k→w'.heap[k]?=w.heap[k]?:=fun k hk hne=>by
  rw [hgrow.block k (by simp;omega) (fun hc=>hne hc.symm),Below.heap_alloc _ _ _ hk]
 have hs:w.heap.size≤w'.heap.size:=by have:=hgrow.size;simp at this;omega
 refine ⟨⟨?_,fun i q hq=>?_,fun q hq=>?_,?_⟩,fun w0 k hk=>⟨hgrow.os.trans k.os,hgrow.tape.trans k.tape,hgrow.output.trans k.output,Nat.le_trans k.size hs,fun i hi hn=>?_⟩⟩
 · rw [List.map_append,List.length_append];exact hown
 · by_cases hi:i<rows.length
   · rw [List.getElem?_append_left hi] at hq
     have h1:=h.row i q hq
     rw [boolRow_congr (f:=M' i) (f':=M i) (fun j hj=>by rw [e i j (by omega) hj,if_neg (by omega)])]
     exact (bl q h1.lt (h.ne hq)).trans h1
   · have hi2:i=rows.length:=by
      have:=(List.getElem?_eq_some_iff.1 hq).1
      simp at this;omega
     subst hi2
     rw [List.getElem?_append_right (Nat.le_refl _),Nat.sub_self] at hq
     simp at hq
     subst hq
     rw [boolRow_congr (f:=M' rows.length) (f':=f) (fun j hj=>by rw [e _ j (by omega) hj,if_pos rfl])]
     exact (bl g hg.lt (fun hc=>absurd (own_type h.own hg hc) (by decide))).trans hg
 · rcases List.mem_append.1 hq with hq | hq
   · exact h.base q hq
   · simp at hq;omega
 · rw [List.nodup_append]
   refine ⟨h.nodup,by simp,fun a ha b hb=>?_⟩
   simp at hb
   subst hb
   rintro rfl
   exact hnew ha
 · have:=k.size
   rw [bl i (by omega) (fun hc=>by have:=(h.own.lt _ hc).1;omega)]
   exact k.block i hi hn
structure WayOut (w w':World) (e:Ending) (n:Nat) (W:Nat→Nat→Bool):Prop where
 ex:∃v rows,e=.returned v∧rows.length=n∧Tab w' w.heap.size v n rows W
 kept:Kept [] w w'
theorem behind_any {n:Nat} (hn0:0<n) (hn:n≤100000) {w:World} {vA vW:Value} {ra rows:List Nat} {A W:Nat→Nat→Bool} (hA:Tab w 0 vA n ra A) (hla:ra.length=n) (hW:Tab w 0 vW n rows W) (hlen:rows.length=n):
 Calls Tryz.prog 49 #[vA,vW] w fun e w'=>WayOut w w' e n (fun i=>thr (A i) W n):=by
 obtain ⟨i0,hi0,hz0,hz1,hz2⟩:=info_parts infoRow
 obtain ⟨ka,capa,rfl,_,_⟩:=hA.head (by omega)
 have hAH:Hid (Tab _ _ _ _ _ _):=hA
 have hWH:Hid (Tab _ _ _ _ _ _):=hW
 have hlaH:Hid (_=_):=hla
 have hlH:Hid (_=_):=hlen
 rw [hla]
 rw [hla] at hAH
 clear hA hW hla hlen
 go_enter Tryz.func49,Tryz.ntmps49
 go_wp2_with fail
 go_loopw [5,6,7] (fun tv iv _ wr=>∃rs:List Nat,iv=.int .i64 (rs.length:Int)∧rs.length≤n∧Tab wr w.heap.size tv n rs (fun i=>thr (A i) W n)∧Kept [] w wr) (fun _ iv _ _=>((n:Int)-intOf iv).toNat)
 case atStart=>exact ⟨[],rfl,Nat.zero_le _,Tab.nil _ _ _ _,Kept.refl _ _⟩
 case round=>
  obtain ⟨rs,rfl,hle,ht,hkw⟩:=hrel
  have htH:Hid (Tab _ _ _ _ _ _):=ht
  have hkwH:Hid (Kept _ _ _):=hkw
  by_cases hlt:(rs.length:Int)<(n:Int)
  · have hin:rs.length<n:=by omega
    obtain ⟨g,hg⟩:∃g,ra[rs.length]?=some g:=⟨_,List.getElem?_eq_getElem (by rw [hlaH.out];omega)⟩
    have hA2:=hAH.out.kept hkw (by simp)
    obtain ⟨k2,cap2,he,_,hcells⟩:=hA2.head (by rw [hlaH.out];omega)
    rw [hlaH.out] at he
    cases he
    have d1:=hcells _ g hg
    have hthr:Hid (Calls _ _ _ _ _):=through_any hn (hA2.row _ g hg) (hWH.out.kept hkw (by simp)) hlH.out
    unfold rowV at d1 hthr
    have hsz:=hkw.size
    clear hA2 hcells hg ht hkw
    go_wp2_with fail
    refine hthr.out.mono ?_
    rintro e w2 ⟨⟨g2,rfl,hge,hb2⟩,k2⟩
    have hb2H:Hid (Blk w2 g2 _ _):=hb2
    have ht2:Hid (Tab w2 _ _ _ _ _):=htH.out.kept k2 (by simp)
    have hK2:Hid (Kept [] w w2):=hkwH.out.trans k2
    have hown2:Hid (∀o,(w2.alloc o).ownsRow _ _ _ _ _ _):=fun o=>ht2.out.own.alloc o
    have hnw:Hid (¬g2∈rs):=fun hc=>by have:=htH.out.lt hc;omega
    have hgeH:Hid (w.heap.size≤g2):=by show w.heap.size≤g2;omega
    have hsz2:=hK2.out.size
    unfold rowV
    clear k2 hb2 hthr htH hkwH d1
    go_wp2_with (at_builtin;go_loud (refine wpList_append_placed rfl (.tmp 20) (.tmp 22) 90 rfl w.heap.size 47 i0 _ 1 24 Tryz.underlying90 hi0 hz0 hz1 hz2 rfl (by decide) _ rs.length (rs.map (rowV n)) rfl ?own ⟨w2.heap.size,0,none⟩ 1 1 [rowV n g2] (by simp [Act.eval,Act.put]) rfl ?n1 ?n2 ?b1 ?b2 ?b3 ?kk))
    case own=>exact hown2.out _
    case n1=>exact cells_new _ _ _ _ rfl
    case n2=>simp [Value.oneCell',rowV]
    case b1=>unfold maxLen;omega
    case b2=>omega
    case b3=>simp;omega
    case kk=>
     intro v' w5 hown hgrow _
     obtain ⟨ht5,hk5⟩:=ht2.out.push2 (M':=fun i=>thr (A i) W n) hb2H.out hgeH.out hnw.out hown hgrow (fun i j hi hj=>by
      by_cases h:i=rs.length
      · subst h;rw [if_pos rfl]
      · rw [if_neg h])
     have hk5:=hk5 w hK2.out (Nat.le_refl _)
     go_wp2
     refine ⟨⟨_,?_,?_,ht5,hk5⟩,?_⟩
     · simp
     · simp;omega
     · simp only [intOf];omega
  · go_wp2
    go_ret
    exact ⟨⟨_,_,rfl,by omega,htH.out⟩,hkwH.out⟩
end Go.Proofs.YtgifhgnccmnbiabGreat
