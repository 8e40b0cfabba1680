/- The document's pieces: what some bytes do to where a line stands. No Go in it. -/
import Derived.Test.YtgifhgnccmnbiabGreatG42
import Derived.Test.YtgifhgnccmnbiabGreatG36
import Derived.Test.YtgifhgnccmnbiabGreatG39
set_option linter.unusedVariables false
set_option linter.unusedSimpArgs false
set_option maxHeartbeats 4000000
set_option maxRecDepth 100000
namespace Go.Proofs.YtgifhgnccmnbiabGreat
open Go.RowKit Go.IntWalk
def headL (x:List Nat):List Nat:=if compL x=[] then x else (compL x).headD []
def midL (x:List Nat):List (List Nat):=(compL x).tail
def cntC (sel:List Nat→Bool) (x:List Nat):Nat:=capL ((midL x).filter sel).length
theorem comp_none {x:List Nat} (h:compL x=[]):restL x=x:=by
 have:=crA_whole x [] h
 rwa [List.nil_append] at this
theorem comp_cons {x:List Nat} (h:compL x≠[]):compL x=headL x :: midL x:=by
 unfold headL midL
 rw [if_neg h]
 cases hc:compL x with
 | nil=>exact absurd hc h
 | cons a l=>rfl
theorem cr_from (u x:List Nat):crA u x=if compL x=[] then ([],u++restL x) else ((u++headL x) :: midL x,restL x):=by
 rw [crA_from]
 unfold headL midL compL restL
 by_cases h:(crA [] x).1=[]
 · rw [if_pos h,if_pos h]
 · rw [if_neg h,if_neg h,if_neg h]
theorem comp_ends (x:List Nat):(piOf x).ends=0↔compL x=[]:=by
 show capL (nls x)=0↔_
 rw [capL_zero,←crA_count x []]
 exact List.length_eq_zero_iff
section
variable {x y:List Nat}
theorem comp_app0 (hx:compL x=[]):compL (x++y)=if compL y=[] then [] else (x++headL y) :: midL y:=by
 rw [compL_app,hx,List.nil_append,comp_none hx,cr_from]
 split <;> rfl
theorem comp_app1 (hx:compL x≠[]):compL (x++y)=if compL y=[] then compL x else headL x :: (midL x++(restL x++headL y) :: midL y):=by
 rw [compL_app,cr_from]
 split
 · rw [List.append_nil]
 · rw [comp_cons hx];rfl
theorem head_app:headL (x++y)=if compL x=[] then x++headL y else headL x:=by
 by_cases hx:compL x=[]
 · rw [if_pos hx]
   by_cases hy:compL y=[]
   · have e:compL (x++y)=[]:=by rw [comp_app0 hx,if_pos hy]
     unfold headL
     rw [if_pos e,if_pos hy]
   · have e:compL (x++y)=(x++headL y) :: midL y:=by rw [comp_app0 hx,if_neg hy]
     show (if compL (x++y)=[] then x++y else (compL (x++y)).headD [])=_
     rw [e];rfl
 · rw [if_neg hx]
   show (if compL (x++y)=[] then x++y else (compL (x++y)).headD [])=_
   rw [comp_app1 hx]
   by_cases hy:compL y=[]
   · rw [if_pos hy,comp_cons hx];rfl
   · rw [if_neg hy];rfl
theorem rest_app:restL (x++y)=if compL y=[] then restL x++y else restL y:=by
 rw [restL_app,cr_from]
 by_cases hy:compL y=[]
 · rw [if_pos hy,if_pos hy,comp_none hy]
 · rw [if_neg hy,if_neg hy]
theorem comp_app_none:compL (x++y)=[]↔compL x=[]∧compL y=[]:=by
 by_cases hx:compL x=[]
 · rw [comp_app0 hx]
   by_cases hy:compL y=[]
   · simp [hx,hy]
   · simp [hy]
 · rw [comp_app1 hx]
   by_cases hy:compL y=[]
   · simp [hx,hy]
   · simp [hx,hy]
theorem cnt_none {sel:List Nat→Bool} (hx:compL x=[]):cntC sel x=0:=by
 unfold cntC midL
 rw [hx];rfl
theorem cnt_app_no {sel:List Nat→Bool} (h:compL x=[]∨compL y=[]∨sel (restL x++headL y)=false):cntC sel (x++y)=capS (cntC sel x) (cntC sel y):=by
 rw [capS_eq]
 unfold cntC
 rw [capL_add]
 congr 1
 unfold midL
 by_cases hx:compL x=[]
 · rw [comp_app0 hx,hx]
   by_cases hy:compL y=[]
   · rw [if_pos hy,hy];simp
   · rw [if_neg hy,comp_cons hy];simp
 · rw [comp_app1 hx]
   by_cases hy:compL y=[]
   · rw [if_pos hy,hy];simp
   · rw [if_neg hy,comp_cons hx,comp_cons hy]
     have hs:sel (restL x++headL y)=false:=by
      rcases h with h | h | h
      · exact absurd h hx
      · exact absurd h hy
      · exact h
     simp only [List.tail_cons]
     rw [List.filter_append,List.length_append,List.filter_cons,if_neg (by rw [hs];decide)]
theorem cnt_app_yes {sel:List Nat→Bool} (hx:compL x≠[]) (hy:compL y≠[]) (hs:sel (restL x++headL y)=true):cntC sel (x++y)=capS (capS (cntC sel x) (cntC sel y)) 1:=by
 rw [capS_eq,capS_eq]
 unfold cntC
 have h1:(1:Nat)=capL 1:=by decide
 rw [capL_add]
 conv=>rhs;rw [h1]
 rw [capL_add]
 congr 1
 unfold midL
 rw [comp_app1 hx,if_neg hy,comp_cons hx,comp_cons hy]
 simp only [List.tail_cons]
 rw [List.filter_append,List.length_append,List.filter_cons,if_pos hs,List.length_cons]
 omega
end
section
variable {D:DMa} {f:Nat→Bool} {A W:Nat→Nat→Bool} {u v:List Nat} {S:SetD}
theorem thr_run (hS:SF D.nodes.length f=S) (hv:Valid S) (hW:WayIs D v W):SF D.nodes.length (thr f W (3+D.nodes.length))=runD D v S:=by
 funext k
 apply propext
 rw [run_parts v S hv k]
 show (k<3+D.nodes.length∧thr f W (3+D.nodes.length) k=true)↔_
 rw [thr_iff]
 constructor
 · rintro ⟨h1,m,h2,h3,h4⟩
   refine ⟨m,by rw [←hS];exact ⟨h2,h3⟩,?_⟩
   rw [←hW m h2]
   exact ⟨h1,h4⟩
 · rintro ⟨m,h1,h2⟩
   rw [←hS] at h1
   rw [←hW m h1.1] at h2
   exact ⟨h2.1,m,h1.1,h1.2,h2.2⟩
theorem WayIs.then (hA:WayIs D u A) (hW:WayIs D v W):WayIs D (u++v) (fun i=>thr (A i) W (3+D.nodes.length)):=fun i hi=>by
 rw [runD_app]
 exact thr_run (hA i hi) (run_valid D u _ (sgl_valid i)) hW
theorem WayIs.still:WayIs D [] (fun i k=>k==i):=fun i hi=>SF_one hi
end
def SelD (D:DMa) (sel:List Nat→Bool):Prop:=∀l,(∀c,c∈l→c<256)→∀y:Bool,(y=true↔selS D (runD D l (sgl 0)))→(y != D.inv)=sel l
structure PcM (w:World) (D:DMa) (sel:List Nat→Bool) (x:List Nat) (u3 u4:Value) (c:Nat):Prop where
 way:∃rows W,rows.length=3+D.nodes.length∧Tab w 0 u3 (3+D.nodes.length) rows W∧WayIs D (headL x) W
 rest:(compL x=[]∧u4=.slice none 0 0)∨(compL x≠[]∧∃g f,u4=rowV (3+D.nodes.length) g∧Blk w g (boolRow (3+D.nodes.length) f) 4∧SF D.nodes.length f=runD D (restL x) (sgl 0))
 count:c=cntC sel x
theorem PcM.kept {w w':World} {D:DMa} {sel:List Nat→Bool} {x:List Nat} {u3 u4:Value} {c:Nat} (h:PcM w D sel x u3 u4 c) (k:Kept [] w w'):PcM w' D sel x u3 u4 c:=by
 obtain ⟨⟨rows,W,h1,h2,h3⟩,h4,h5⟩:=h
 refine ⟨⟨rows,W,h1,h2.kept k (by simp),h3⟩,?_,h5⟩
 rcases h4 with h4 | ⟨h4,g,f,h6,h7,h8⟩
 · exact Or.inl h4
 · exact Or.inr ⟨h4,g,f,h6,h7.kept k (by simp),h8⟩
structure StayT (w w':World):Prop where
 size:w.heap.size≤w'.heap.size
 blk:∀k cs e,e≠92→e≠49→Blk w k cs e→Blk w' k cs e
theorem StayT.of {w w':World} (k:Kept [] w w'):StayT w w':=⟨k.size,fun _ _ _ _ _ h=>h.kept k (by simp)⟩
theorem StayT.trans {w w' w'':World} (h:StayT w w') (h':StayT w' w''):StayT w w'':=⟨Nat.le_trans h.size h'.size,fun k cs e h1 h2 hb=>h'.blk k cs e h1 h2 (h.blk k cs e h1 h2 hb)⟩
theorem StayT.refl (w:World):StayT w w:=⟨Nat.le_refl _,fun _ _ _ _ _ h=>h⟩
theorem StayT.set {w w':World} (h:StayT w w') {g:Nat} {cs:Array Value} {t:TypeId} (hb:Blk w' g cs t) (ht:t=92∨t=49) (i:Nat) (v:Value):StayT w (w'.setCell ⟨g,i,none⟩ v):=by
 refine ⟨by simpa [World.setCell] using h.size,fun k cs' e h1 h2 hk=>?_⟩
 have hk2:=h.blk k cs' e h1 h2 hk
 by_cases hkg:k=g
 · subst hkg
   unfold Blk at hk2 hb
   rw [hb] at hk2
   simp only [Option.some.injEq,Obj.cells.injEq] at hk2
   obtain ⟨_,he,_⟩:=hk2
   rcases ht with ht | ht
   · exact absurd (he.symm.trans ht) h1
   · exact absurd (he.symm.trans ht) h2
 · exact hk2.other _ _ hkg
theorem own_stayT {w w':World} {base e z n:Nat} {v:Value} {xs:List Value} (h:w.ownsRow base e z v n xs) (s:StayT w w') (h1:e≠92) (h2:e≠49):w'.ownsRow base e z v n xs:=by
 refine ⟨h.1,?_⟩
 rcases h.2 with h3 | ⟨g,cap,cur,h3,h4,h5,r⟩
 · exact Or.inl h3
 · exact Or.inr ⟨g,cap,cur,h3,h4,s.blk g cur e h1 h2 h5,r⟩
section
variable {w w':World}
theorem Tab.stayT {B n:Nat} {v:Value} {rows:List Nat} {M:Nat→Nat→Bool} (h:Tab w B v n rows M) (s:StayT w w'):Tab w' B v n rows M:=
 ⟨own_stayT h.own s (by decide) (by decide),fun i g hg=>s.blk g _ _ (by decide) (by decide) (h.row i g hg),h.base,h.nodup⟩
theorem PcM.stayT {D:DMa} {sel:List Nat→Bool} {x:List Nat} {u3 u4:Value} {c:Nat} (h:PcM w D sel x u3 u4 c) (s:StayT w w'):PcM w' D sel x u3 u4 c:=by
 obtain ⟨⟨rows,W,h1,h2,h3⟩,h4,h5⟩:=h
 refine ⟨⟨rows,W,h1,h2.stayT s,h3⟩,?_,h5⟩
 rcases h4 with h4 | ⟨h4,g,f,h6,h7,h8⟩
 · exact Or.inl h4
 · exact Or.inr ⟨h4,g,f,h6,s.blk _ _ _ (by decide) (by decide) h7,h8⟩
theorem PMs.stayT {ps:List PN} {adrs:List Nat} {F:Nat→Prop} (h:PMs w ps adrs F) (s:StayT w w'):PMs w' ps adrs F:=by
 refine ⟨fun i p hp=>?_,fun j hj=>Nat.lt_of_lt_of_le (h.old j hj) s.size⟩
 obtain ⟨h1,iv,kv,hk⟩:=h.part i p hp
 refine ⟨h1,iv,kv,⟨s.blk _ _ _ (by decide) (by decide) hk.blk,hk.mine,?_,own_stayT hk.kids s (by decide) (by decide),hk.kidsF⟩⟩
 rcases hk.ins with ⟨h2,g,h3,h4,h5⟩ | h5
 · exact Or.inl ⟨h2,g,h3,h4,s.blk _ _ _ (by decide) (by decide) h5⟩
 · exact Or.inr h5
theorem DmIn.stayT {mb gn cap:Nat} {D:DMa} {adrs:List Nat} {F:Nat→Prop} {num:Bool} {mx:Int} (h:DmIn w mb D adrs F num mx gn cap) (s:StayT w w'):DmIn w' mb D adrs F num mx gn cap:=
 ⟨s.blk _ _ _ (by decide) (by decide) h.blk,own_stayT h.row s (by decide) (by decide),h.parts.stayT s⟩
end
structure RSound (rl:List Nat) (ps:List PI) (T:List (List Nat)):Prop where
 len:rl.length=2*T.length
 ps:ps=T.map piOf
 rule:∀i,i<T.length→rl.getD (2*i) 0<256+i∧rl.getD (2*i+1) 0<256+i∧T.getD i []=symT T (rl.getD (2*i) 0)++symT T (rl.getD (2*i+1) 0)
section
variable {w w':World} {b:Nat} {kv nv rv tv pv:Value} {rl top:List Nat} {ps:List PI}
end
theorem codes_zz {f:ByteArray} {n:Nat} (hr:ZRun f n) (hk:zOk (zit (z0 f) n)=true):∀i,i≤n→∃r T,zitB (f.extract 3 f.size) (bt f 2) i=some r∧OnB f i∧ZZ (f.extract 3 f.size) (bt f 2) (zit (z0 f) i) r T
 | 0,_=>⟨{},[],rfl,fun _ h=>by omega,zz0 f⟩
 | i+1,hi=>by
   obtain ⟨r,T,h1,h2,h3⟩:=codes_zz hr hk i (by omega)
   have hg:zgoB (f.extract 3 f.size) (bt f 2) r=true:=by rw [←h3.go];exact hr.on i (by omega)
   have hon:OnB f (i+1):=fun j hj=>by
    by_cases hji:j=i
    · subst hji;exact ⟨r,h1,hg⟩
    · exact h2 j (by omega)
   have hit:zitB (f.extract 3 f.size) (bt f 2) (i+1)=zsB (f.extract 3 f.size) (bt f 2) r:=by
    show (zitB (f.extract 3 f.size) (bt f 2) i).bind (zsB (f.extract 3 f.size) (bt f 2))=_
    rw [h1];rfl
   cases hz:zsB (f.extract 3 f.size) (bt f 2) r with
   | none=>
     exfalso
     have hb:=(h3.step hg).1 hz
     have hb':(zit (z0 f) (i+1)).1.bad=true:=hb
     by_cases hin:i+1=n
     · rw [hin] at hb'
       unfold zOk at hk
       rw [hb'] at hk;cases hk
     · have:=hr.on (i+1) (by omega)
       unfold zgo at this
       rw [hb'] at this;cases this
   | some r'=>
     obtain ⟨T',hT'⟩:=(h3.step hg).2 r' hz
     exact ⟨r',T',by rw [hit,hz],hon,hT'⟩
theorem stext_of {f:ByteArray} {t:TT} (h:SFile f t):∃T,SText t T:=by
 cases h with
 | rules a b c d=>
   have hG:=ok_GOk c b d
   obtain ⟨e1,e2,e3,e4,e5⟩:=hG.read
   refine ⟨gTx f (bt f 2),?_,?_,?_,?_,?_⟩
   · show Sound (sgG f).1 _
     rw [e2];exact hG.sound _ (Nat.le_refl _)
   · show ∀s,s∈(sgS f).1→s<256+(sgG f).1.length
     rw [e2,e5]
     intro s hs
     rw [gRu_len]
     exact hG.top _ (Nat.le_refl _) s hs
   · show wholeP (sgG f).1 (sgS f).1=ptOf ((sgS f).1.flatMap _)
     rw [e2,e5]
     exact whole_pt (hG.sound _ (Nat.le_refl _)) _ (fun s hs=>by rw [gTx_len];exact hG.top _ (Nat.le_refl _) s hs) []
   · show (sgG f).1.length≤9000
     rw [e2,gRu_len];have:=hG.r;omega
   · show (sgS f).1.length≤9000
     rw [e5,gTop_range]
     simp
     have:=hG.n1
     unfold gN
     omega
 | codes a b c d x y=>
   obtain ⟨r,T,h1,h2,h3⟩:=codes_zz x y _ (Nat.le_refl _)
   have hI:=zit_inv x.on
   have hp:=hI.p
   have hpb:=hI.pb
   have hsz:(f.extract 3 f.size).size≤4000:=by simp [ByteArray.size_extract];omega
   have:=hI.rules
   have:=hI.start
   refine ⟨T,h3.sound,fun s hs=>by rw [h3.sound.len];exact h3.start s hs,by rw [h3.whole,h3.out],by omega,by omega⟩
theorem Sound.one {rs:List RU} {T U:List (List Nat)} (h:Sound rs T) (h':Sound rs U):∀(k s:Nat),s<k→s<256+rs.length→symT T s=symT U s:=by
 intro k
 induction k with
 | zero=>intro s hs;omega
 | succ k ih=>
   intro s hs hs2
   by_cases h1:s<256
   · unfold symT;rw [if_pos h1,if_pos h1]
   · obtain ⟨x,hx⟩:∃x,rs[s-256]?=some x:=⟨_,List.getElem?_eq_getElem (by omega)⟩
     obtain ⟨u1,u2,u3,_⟩:=h.rule _ _ hx
     obtain ⟨_,_,v3,_⟩:=h'.rule _ _ hx
     have e:symT T s=symT T x.l++symT T x.r:=by rw [←u3];unfold symT;rw [if_neg h1]
     have e':symT U s=symT U x.l++symT U x.r:=by rw [←v3];unfold symT;rw [if_neg h1]
     rw [e,e',ih x.l (by omega) (by omega),ih x.r (by omega) (by omega)]
theorem RSound.nil:RSound [] [] []:=⟨rfl,rfl,fun i h=>by simp at h⟩
theorem RSound.push {rl:List Nat} {ps:List PI} {T:List (List Nat)} (h:RSound rl ps T) {l r:Nat} (hl:l<256+T.length) (hr:r<256+T.length):
 RSound (rl++[l,r]) (ps++[piOf (symT T l++symT T r)]) (T++[symT T l++symT T r]):=by
 have hlen:=h.len
 refine ⟨by simp [hlen];omega,by rw [h.ps];simp,fun i hi=>?_⟩
 simp at hi
 by_cases hi2:i<T.length
 · obtain ⟨a,b,c⟩:=h.rule i hi2
   have e1:(rl++[l,r]).getD (2*i) 0=rl.getD (2*i) 0:=by simp only [List.getD];rw [List.getElem?_append_left (by omega)]
   have e2:(rl++[l,r]).getD (2*i+1) 0=rl.getD (2*i+1) 0:=by simp only [List.getD];rw [List.getElem?_append_left (by omega)]
   have e3:(T++[symT T l++symT T r]).getD i []=T.getD i []:=by simp only [List.getD];rw [List.getElem?_append_left hi2]
   rw [e1,e2,e3,symT_app (by omega),symT_app (by omega)]
   exact ⟨a,b,c⟩
 · have hi3:i=T.length:=by omega
   subst hi3
   have e1:(rl++[l,r]).getD (2*T.length) 0=l:=by simp only [List.getD];rw [List.getElem?_append_right (by omega),hlen];simp
   have e2:(rl++[l,r]).getD (2*T.length+1) 0=r:=by simp only [List.getD];rw [List.getElem?_append_right (by omega),hlen,show 2*T.length+1-2*T.length=1 by omega];simp
   have e3:(T++[symT T l++symT T r]).getD T.length []=symT T l++symT T r:=by simp [List.getD]
   rw [e1,e2,e3,symT_app (by omega),symT_app (by omega)]
   exact ⟨hl,hr,rfl⟩
theorem GOk.rsound {f:ByteArray} (h:GOk f):∀k,k≤bt f 2→RSound (gRules f k) ((gTx f k).map piOf) (gTx f k)
 | 0,_=>RSound.nil
 | k+1,hk=>by
   have ih:=(h.rsound k (by omega)).push (l:=gA f k) (r:=gB f k) (by rw [gTx_len];exact (h.a (by omega)).2) (by rw [gTx_len];exact (h.b (by omega)).2)
   show RSound (gRules f k++[gA f k,gB f k]) ((gTx f k++[symT (gTx f k) (gA f k)++symT (gTx f k) (gB f k)]).map piOf) (gTx f k++[symT (gTx f k) (gA f k)++symT (gTx f k) (gB f k)])
   rw [List.map_append]
   exact ih
theorem gAll_tx {f:ByteArray} (h:GOk f):gAll f=piOf ((gTop f (gN f)).flatMap (symT (gTx f (bt f 2)))):=by
 have hb:∀s,s∈gTop f (gN f)→s<256+(gTx f (bt f 2)).length:=fun s hs=>by rw [gTx_len];exact h.top _ (Nat.le_refl _) s hs
 unfold gAll wholeR
 rw [h.ps _ (Nat.le_refl _)]
 exact whole_tx _ hb []
structure ROpen (w:World) (b B C:Nat) (kind:Int) (n:Nat) (rl top:List Nat) (ps:List PI) (rv tv pv:Value) (T:List (List Nat)) (X:List Nat):Prop where
 gm:GM w b B C kind n rl top ps rv tv pv
 sound:RSound rl ps T
 tlen:T.length≤1000
 nlen:top.length≤100000000
 syms:∀s,s∈top→s<256+T.length
 text:X=top.flatMap (symT T)
 xlen:X.length≤1099511627776
 byte:∀c,c∈X→c<256
def uPc (p:PI) (v3 v4:IV) (c:Nat):Nat→Value
 | 0=>.int .i64 (p.long:Int)
 | 1=>.int .i64 (p.ends:Int)
 | 2=>.int .i64 (p.tail:Int)
 | 3=>ivV v3
 | 4=>ivV v4
 | _=>.int .i64 (c:Int)
def uArr (p:PI) (v3 v4:IV) (c:Nat):Array Value:=#[.int .i64 (p.long:Int),.int .i64 (p.ends:Int),.int .i64 (p.tail:Int),ivV v3,ivV v4,.int .i64 (c:Int)]
structure GLn (w:World) (b:Nat) (kv nv rv tv pv:Value) (rl top:List Nat) (m:Nat) (U:Nat→Nat→Value):Prop where
 blk:Blk w b #[kv,nv,rv,tv,pv] 44
 rules:w.ownsRow 0 3 1 rv rl.length (symCells rl)
 top:w.ownsRow 0 3 1 tv top.length (symCells top)
 pcs:0<m→∃gp cap cur,pv=.slice (some ⟨gp,0,none⟩) m cap∧Blk w gp cur 92∧∀i,i<m→∀j,j<6→cur[i*6+j]?=some (U i j)
theorem GLn.kept {w w':World} {b m:Nat} {kv nv rv tv pv:Value} {rl top:List Nat} {U:Nat→Nat→Value} (h:GLn w b kv nv rv tv pv rl top m U) (k:Kept [] w w'):GLn w' b kv nv rv tv pv rl top m U:=
 ⟨h.blk.kept k (by simp),row_stay (S:=[]) h.rules k (fun _ _=>by simp),row_stay (S:=[]) h.top k (fun _ _=>by simp),fun hm=>by
  obtain ⟨gp,cap,cur,h1,h2,h3⟩:=h.pcs hm
  exact ⟨gp,cap,cur,h1,h2.kept k (by simp),h3⟩⟩
def Learned (w:World) (D:DMa) (sel:List Nat→Bool) (T:List (List Nat)) (U:Nat→Nat→Value) (k:Nat):Prop:=
 ∀i,i<T.length→∃v3 v4 c,(∀j,j<6→U i j=uPc (piOf (T.getD i [])) v3 v4 c j)∧(i<k→PcM w D sel (T.getD i []) (ivV v3) (ivV v4) c)
theorem Learned.kept {w w':World} {D:DMa} {sel:List Nat→Bool} {T:List (List Nat)} {U:Nat→Nat→Value} {k:Nat} (h:Learned w D sel T U k) (kk:Kept [] w w'):Learned w' D sel T U k:=fun i hi=>by
 obtain ⟨v3,v4,c,h1,h2⟩:=h i hi
 exact ⟨v3,v4,c,h1,fun hk=>(h2 hk).kept kk⟩
structure KnOut (w w':World) (e:Ending) (D:DMa) (sel:List Nat→Bool) (x:List Nat):Prop where
 ex:∃v3 v4 c,e=.returned (.agg (uArr (piOf x) v3 v4 c))∧PcM w' D sel x (ivV v3) (ivV v4) c
 kept:Kept [] w w'
theorem results_pc {fn:Func} {r:Tmp} (h:fn.results=#[.cell r 92]) (tmps:Array Value) (w:World) (g:Nat) (p:PI) (v3 v4:IV) (c:Nat)
 (hp:tmps.getD r undef=.pointer (some ⟨g,0,none⟩)) (hg:Blk w g (uArr p v3 v4 c) 92):(results fn tmps).run Tryz.prog w=.ok (.agg (uArr p v3 v4 c)) w:=
 results_cell_row h tmps w g _ _ _ _ hp hg Tryz.underlying92 rfl size_piece
theorem gsize_any {w:World} {b m:Nat} {kv nv rv tv pv:Value} {rl top:List Nat} {U:Nat→Nat→Value} (h:GLn w b kv nv rv tv pv rl top m U) (hl:m≤1000) {i:Nat} (hi:i<m) {p:PI} {v3 v4:IV} {c:Nat} (hU:∀j,j<6→U i j=uPc p v3 v4 c j):
 Calls Tryz.prog 44 #[.pointer (some ⟨b,0,none⟩),.int .i64 ((i+256:Nat):Int)] w fun e w'=>e=.returned (.agg (uArr p v3 v4 c))∧Kept [] w w':=by
 obtain ⟨gp,cap,cur,rfl,h2,h3⟩:=h.pcs (by omega)
 have hc:∀j,j<6→w.cell? ⟨gp,i*6+j,none⟩=some (uPc p v3 v4 c j):=fun j hj=>by rw [h2.cell,h3 i hi j hj,hU j hj]
 exact psize_core h.blk hi h2.lt hl (hc 0 (by omega)) (hc 1 (by omega)) (hc 2 (by omega)) (hc 3 (by omega)) (hc 4 (by omega)) (hc 5 (by omega))
theorem bsize_any (b:Nat) {s:Nat} (hs:s<256) (w:World):
 Calls Tryz.prog 44 #[.pointer (some ⟨b,0,none⟩),.int .i64 (s:Int)] w fun e w'=>e=.returned (.agg (uArr (piOf [s]) (none,0,0) (none,0,0) 0))∧Kept [] w w':=by
 have e0:piOf [s]=sizeP [] s:=by
  have h1:sizeP (([]:List (List Nat)).map piOf) s=piOf (symT [] s):=size_tx (T:=[]) (s:=s) (by simp;omega)
  have h2:symT [] s=[s]:=if_pos hs
  rw [h2] at h1
  exact h1.symm
 rw [e0]
 have hk:Hid (∀o1,Kept [] w (w.alloc o1)):=fun o1=>(Kept.refl [] w).alloc _
 unfold sizeP
 by_cases h1:s=10
 · subst h1
   rw [if_pos rfl]
   unfold uArr ivV
   simp only []
   go_enter Tryz.func44,Tryz.ntmps44
   go_wp2
   refine bodyPost_ret (v:=.agg #[.int .i64 1,.int .i64 1,.int .i64 0,.slice none 0 0,.slice none 0 0,.int .i64 0]) (by simp [results,Tryz.results44,go_sem]) rfl ⟨rfl,hk.out _⟩
 · rw [if_neg h1,if_pos hs]
   have e1:((s:Int)==10)=false:=beq_eq_false_iff_ne.2 (by omega)
   have h2:(s:Int)<256:=by omega
   unfold uArr ivV
   simp only []
   clear h1
   go_enter Tryz.func44,Tryz.ntmps44
   go_wp2
   refine bodyPost_ret (v:=.agg #[.int .i64 1,.int .i64 0,.int .i64 1,.slice none 0 0,.slice none 0 0,.int .i64 0]) (by simp [results,Tryz.results44,go_sem]) rfl ⟨rfl,hk.out _⟩
structure TwoP (w y:World) (g1:Nat) (cs:Array Value):Prop where
 k:Kept [] w y
 r:Blk y w.heap.size #[.int .i64 0,.int .i64 0,.int .i64 0,.slice none 0 0,.slice none 0 0,.int .i64 0] 92
 p:Blk y g1 cs 92
 lt:w.heap.size<g1
theorem TwoP.more {w y z:World} {g1:Nat} {cs:Array Value} (h:TwoP w y g1 cs) (k:Kept [] y z):TwoP w z g1 cs:=⟨h.k.trans k,h.r.kept k (by simp),h.p.kept k (by simp),h.lt⟩
theorem TwoP.set {w y:World} {g1:Nat} {cs:Array Value} (h:TwoP w y g1 cs) (j:Nat) (v:Value):TwoP w (y.setCell ⟨g1,j,none⟩ v) g1 (cs.setIfInBounds j v):=
 ⟨h.k.setCell (Or.inr (by have:=h.lt;show w.heap.size≤g1;omega)) _,h.r.other _ _ (by have:=h.lt;omega),h.p.set j v,h.lt⟩
theorem TwoP.fin {w y:World} {g1:Nat} {a0 a1 a2 a3 a4 a5:Value} (h:TwoP w y g1 #[a0,a1,a2,a3,a4,a5]) (u0 u1 u2 u3 u4 u5:Value):
 Kept [] w (set6W y w.heap.size u0 u1 u2 u3 u4 u5)∧Blk (set6W y w.heap.size u0 u1 u2 u3 u4 u5) w.heap.size #[u0,u1,u2,u3,u4,u5] 92∧Kept [w.heap.size] y (set6W y w.heap.size u0 u1 u2 u3 u4 u5):=
 ⟨kept6 h.k (Nat.le_refl _) _ _ _ _ _ _,set6 h.r _ _ _ _ _ _,keptOne6 y _ _ _ _ _ _ _⟩
theorem all6 {w:World} {g:Nat} {c0 c1 c2 c3 c4 c5:Value} {t:TypeId} (h:Blk w g #[c0,c1,c2,c3,c4,c5] t):
 w.cell? ⟨g,0,none⟩=some c0∧w.cell? ⟨g,1,none⟩=some c1∧w.cell? ⟨g,2,none⟩=some c2∧w.cell? ⟨g,3,none⟩=some c3∧w.cell? ⟨g,4,none⟩=some c4∧w.cell? ⟨g,5,none⟩=some c5∧g<w.heap.size:=
 ⟨h.cell 0,h.cell 1,h.cell 2,h.cell 3,h.cell 4,h.cell 5,h.lt⟩
theorem froz6 {w:World} {g:Nat} {cs:Array Value} {t:TypeId} (h:Blk w g cs t):
 w.frozen? ⟨g,0,none⟩=false∧w.frozen? ⟨g,1,none⟩=false∧w.frozen? ⟨g,2,none⟩=false∧w.frozen? ⟨g,3,none⟩=false∧w.frozen? ⟨g,4,none⟩=false∧w.frozen? ⟨g,5,none⟩=false:=
 ⟨h.frozen 0,h.frozen 1,h.frozen 2,h.frozen 3,h.frozen 4,h.frozen 5⟩
theorem StayT.six {w y:World} {g1:Nat} {cs:Array Value} (h:TwoP w y g1 cs) (u0 u1 u2 u3 u4 u5:Value):StayT y (set6W y w.heap.size u0 u1 u2 u3 u4 u5):=by
 have st:∀{z:World} {cs:Array Value} (_:StayT y z) (_:Blk z w.heap.size cs 92) (i:Nat) (v:Value),StayT y (z.setCell ⟨w.heap.size,i,none⟩ v)∧Blk (z.setCell ⟨w.heap.size,i,none⟩ v) w.heap.size (cs.setIfInBounds i v) 92:=fun s b i v=>⟨s.set b (Or.inl rfl) i v,b.set i v⟩
 have h0:=st (StayT.refl y) h.r 0 u0
 have h1:=st h0.1 h0.2 1 u1
 have h2:=st h1.1 h1.2 2 u2
 have h3:=st h2.1 h2.2 3 u3
 have h4:=st h3.1 h3.2 4 u4
 exact (st h4.1 h4.2 5 u5).1
theorem known_rule {w:World} {b m:Nat} {kv nv rv tv pv:Value} {rl top:List Nat} {U:Nat→Nat→Value} (h:GLn w b kv nv rv tv pv rl top m U) (hl:m≤1000) {i:Nat} (hi:i<m) {D:DMa} {sel:List Nat→Bool} {x:List Nat} {v3 v4:IV} {c:Nat} (hU:∀j,j<6→U i j=uPc (piOf x) v3 v4 c j) (hP:PcM w D sel x (ivV v3) (ivV v4) c) (mv:Value):
 Calls Tryz.prog 26 #[.pointer (some ⟨b,0,none⟩),mv,.int .i64 ((i+256:Nat):Int)] w fun e w'=>KnOut w w' e D sel x:=by
 have hka:Kept [] w (w.alloc (.cells #[.int .i64 0,.int .i64 0,.int .i64 0,.slice none 0 0,.slice none 0 0,.int .i64 0] 92)):=(Kept.refl [] w).alloc _
 have hc:Hid (Calls _ _ _ (w.alloc (.cells #[.int .i64 0,.int .i64 0,.int .i64 0,.slice none 0 0,.slice none 0 0,.int .i64 0] 92)) _):=gsize_any (h.kept hka) hl hi hU
 have hr:Hid (Blk (w.alloc (.cells #[.int .i64 0,.int .i64 0,.int .i64 0,.slice none 0 0,.slice none 0 0,.int .i64 0] 92)) w.heap.size #[.int .i64 0,.int .i64 0,.int .i64 0,.slice none 0 0,.slice none 0 0,.int .i64 0] 92):=Blk.new w _ _
 have hkaH:Hid (Kept [] w _):=hka
 have hPH:Hid (PcM _ _ _ _ _ _ _):=hP
 have e1:(((i+256:Nat):Int)==10)=false:=beq_eq_false_iff_ne.2 (by omega)
 have h2:¬((i+256:Nat):Int)<256:=by omega
 clear hka h hU hP
 obtain ⟨x4,m4,k4⟩:=v3
 obtain ⟨x5,m5,k5⟩:=v4
 generalize ((i+256:Nat):Int)=s at *
 unfold uArr ivV at hc
 simp only [] at hc
 go_enter Tryz.func26,Tryz.ntmps26
 go_wp2_with fail
 refine hc.out.mono ?_
 rintro e w1 ⟨rfl,k1⟩
 have hT:TwoP w (w1.alloc (.cells #[.int .i64 ((piOf x).long:Int),.int .i64 ((piOf x).ends:Int),.int .i64 ((piOf x).tail:Int),.slice x4 m4 k4,.slice x5 m5 k5,.int .i64 (c:Int)] 92)) w1.heap.size #[.int .i64 ((piOf x).long:Int),.int .i64 ((piOf x).ends:Int),.int .i64 ((piOf x).tail:Int),.slice x4 m4 k4,.slice x5 m5 k5,.int .i64 (c:Int)]:=
  ⟨(hkaH.out.trans k1).alloc _,(hr.out.kept k1 (by simp)).alloc _,Blk.new w1 _ _,by have:=k1.size;simp at this;omega⟩
 have hTH:Hid (TwoP _ _ _ _):=hT
 clear hc hr hT hkaH k1
 go_upto_region 2 with fail
 obtain ⟨y,hy⟩:∃y,y=w1.alloc (.cells #[.int .i64 ((piOf x).long:Int),.int .i64 ((piOf x).ends:Int),.int .i64 ((piOf x).tail:Int),.slice x4 m4 k4,.slice x5 m5 k5,.int .i64 (c:Int)] 92):=⟨_,rfl⟩
 rw [←hy] at hTH
 rw [←hy]
 clear hy
 obtain ⟨z0,z1,z2,z3,z4,z5,zl⟩:=all6 hTH.out.p
 obtain ⟨q0,q1,q2,q3,q4,q5,ql⟩:=all6 hTH.out.r
 obtain ⟨f0,f1,f2,f3,f4,f5⟩:=froz6 hTH.out.r
 have hne:w1.heap.size≠w.heap.size:=by have:=hTH.out.lt;omega
 go_wp2
 have hfin:=hTH.out.fin (.int .i64 ((piOf x).long:Int)) (.int .i64 ((piOf x).ends:Int)) (.int .i64 ((piOf x).tail:Int)) (.slice x4 m4 k4) (.slice x5 m5 k5) (.int .i64 (c:Int))
 have hst:=StayT.six hTH.out (.int .i64 ((piOf x).long:Int)) (.int .i64 ((piOf x).ends:Int)) (.int .i64 ((piOf x).tail:Int)) (.slice x4 m4 k4) (.slice x5 m5 k5) (.int .i64 (c:Int))
 exact bodyPost_ret (v:=.agg (uArr (piOf x) (x4,m4,k4) (x5,m5,k5) c)) (results_pc Tryz.results26 _ _ w.heap.size (piOf x) (x4,m4,k4) (x5,m5,k5) c rfl hfin.2.1) rfl ⟨⟨(x4,m4,k4),(x5,m5,k5),c,rfl,(hPH.out.kept hTH.out.k).stayT hst⟩,hfin.1⟩
theorem comp_nl:compL [10]=[[]]:=rfl
theorem pc_nl {w:World} {D:DMa} {sel:List Nat→Bool} {rows:List Nat} {v:Value} {g:Nat} {f:Nat→Bool} (h1:rows.length=3+D.nodes.length) (h2:Tab w 0 v (3+D.nodes.length) rows (fun i k=>k==i)) (h3:Blk w g (boolRow (3+D.nodes.length) f) 4) (h4:SF D.nodes.length f=sgl 0):PcM w D sel [10] v (rowV (3+D.nodes.length) g) 0:=
 ⟨⟨rows,_,h1,h2,WayIs.still⟩,Or.inr ⟨by rw [comp_nl];simp,g,f,rfl,h3,h4⟩,rfl⟩
theorem comp_byte {s:Nat} (h:s≠10):compL [s]=[]:=by unfold compL;rw [crA_one h]
theorem pc_byte {w:World} {D:DMa} {sel:List Nat→Bool} {rows:List Nat} {v:Value} {W:Nat→Nat→Bool} {s:Nat} (hs:s≠10) (h1:rows.length=3+D.nodes.length) (h2:Tab w 0 v (3+D.nodes.length) rows W) (h3:WayIs D [s] W):PcM w D sel [s] v (.slice none 0 0) 0:=by
 have hc:=comp_byte hs
 refine ⟨⟨rows,W,h1,h2,?_⟩,Or.inl ⟨hc,rfl⟩,(cnt_none hc).symm⟩
 unfold headL
 rw [if_pos hc];exact h3
theorem known_nl {w:World} {mb gn cap:Nat} {D:DMa} {adrs:List Nat} {F:Nat→Prop} {num:Bool} {mx:Int} (hM:DmIn w mb D adrs F num mx gn cap) (hn:D.nodes.length≤10000) (sel:List Nat→Bool) (b:Nat):
 Calls Tryz.prog 26 #[.pointer (some ⟨b,0,none⟩),.pointer (some ⟨mb,0,none⟩),.int .i64 10] w fun e w'=>KnOut w w' e D sel [10]:=by
 have hka:Kept [] w (w.alloc (.cells #[.int .i64 0,.int .i64 0,.int .i64 0,.slice none 0 0,.slice none 0 0,.int .i64 0] 92)):=(Kept.refl [] w).alloc _
 have hc:Hid (Calls Tryz.prog 44 #[.pointer (some ⟨b,0,none⟩),.int .i64 10] (w.alloc (.cells #[.int .i64 0,.int .i64 0,.int .i64 0,.slice none 0 0,.slice none 0 0,.int .i64 0] 92)) _):=bsize_any b (s:=10) (by omega) _
 have hr:Hid (Blk (w.alloc (.cells #[.int .i64 0,.int .i64 0,.int .i64 0,.slice none 0 0,.slice none 0 0,.int .i64 0] 92)) w.heap.size #[.int .i64 0,.int .i64 0,.int .i64 0,.slice none 0 0,.slice none 0 0,.int .i64 0] 92):=Blk.new w _ _
 have hkaH:Hid (Kept [] w _):=hka
 have hstill:Hid (∀w',Kept [] w w'→Calls _ _ _ w' _):=fun w' k=>dstill_any (hM.kept k) hn
 have hbegun:Hid (∀w',Kept [] w w'→Calls _ _ _ w' _):=fun w' k=>dbegun_any (hM.kept k) hn
 clear hka hM
 unfold uArr ivV at hc
 simp only [] at hc
 go_enter Tryz.func26,Tryz.ntmps26
 go_wp2_with fail
 refine hc.out.mono ?_
 rintro e w1 ⟨rfl,k1⟩
 have hT:TwoP w (w1.alloc (.cells #[.int .i64 ((piOf [10]).long:Int),.int .i64 ((piOf [10]).ends:Int),.int .i64 ((piOf [10]).tail:Int),.slice none 0 0,.slice none 0 0,.int .i64 ((0:Nat):Int)] 92)) w1.heap.size #[.int .i64 ((piOf [10]).long:Int),.int .i64 ((piOf [10]).ends:Int),.int .i64 ((piOf [10]).tail:Int),.slice none 0 0,.slice none 0 0,.int .i64 ((0:Nat):Int)]:=
  ⟨(hkaH.out.trans k1).alloc _,(hr.out.kept k1 (by simp)).alloc _,Blk.new w1 _ _,by have:=k1.size;simp at this;omega⟩
 have hTH:Hid (TwoP _ _ _ _):=hT
 clear k1 hc hr hT hkaH
 go_wp2_with fail
 refine (hstill.out _ hTH.out.k).mono ?_
 rintro e w2 ⟨⟨v,rows,rfl,hrl,htab⟩,k2⟩
 obtain ⟨vg,vcap,rfl,_,_⟩:=htab.head (by omega)
 rw [hrl] at htab ⊢
 have hT2:Hid (TwoP _ _ _ _):=hTH.out.more k2
 have htH:Hid (Tab w2 0 _ _ _ _):=htab.mono (Nat.zero_le _)
 have hrlH:Hid (_=_):=hrl
 obtain ⟨z0,z1,z2,z3,z4,z5,zl⟩:=all6 hT2.out.p
 obtain ⟨f0,f1,f2,f3,f4,f5⟩:=froz6 hT2.out.p
 clear k2 htab hTH hstill hrl
 go_upto_region 4 with fail
 obtain ⟨y,hy⟩:∃y,y=w2.setCell ⟨w1.heap.size,3,none⟩ (.slice (some ⟨vg,0,none⟩) (3+D.nodes.length) vcap):=⟨_,rfl⟩
 rw [←hy]
 have hT3:Hid (TwoP w y w1.heap.size #[.int .i64 ((piOf [10]).long:Int),.int .i64 ((piOf [10]).ends:Int),.int .i64 ((piOf [10]).tail:Int),.slice (some ⟨vg,0,none⟩) (3+D.nodes.length) vcap,.slice none 0 0,.int .i64 ((0:Nat):Int)]):=by
  show TwoP _ _ _ _;rw [hy];exact hT2.out.set 3 _
 have ht3:Hid (Tab y 0 _ _ _ _):=htH.out.stayT (by rw [hy];exact (StayT.refl w2).set hT2.out.p (Or.inl rfl) _ _)
 clear hy hT2 htH z0 z1 z2 z3 z4 z5 zl f0 f1 f2 f3 f4 f5
 go_wp2_with fail
 refine (hbegun.out _ hT3.out.k).mono ?_
 rintro e w3 ⟨⟨g3,rfl,_,hb3⟩,k3⟩
 have hT4:Hid (TwoP _ _ _ _):=hT3.out.more k3
 have ht4:Hid (Tab w3 0 _ _ _ _):=ht3.out.kept k3 (by simp)
 have hb4:Hid (Blk _ _ _ _):=hb3
 obtain ⟨z0,z1,z2,z3,z4,z5,zl⟩:=all6 hT4.out.p
 obtain ⟨f0,f1,f2,f3,f4,f5⟩:=froz6 hT4.out.p
 unfold rowV
 clear k3 hb3 hT3 ht3 hbegun
 go_upto_region 7 with fail
 obtain ⟨y2,hy2⟩:∃y,y=w3.setCell ⟨w1.heap.size,4,none⟩ (.slice (some ⟨g3,0,none⟩) (3+D.nodes.length) (3+D.nodes.length)):=⟨_,rfl⟩
 rw [←hy2]
 have st5:StayT w3 y2:=by rw [hy2];exact (StayT.refl w3).set hT4.out.p (Or.inl rfl) _ _
 have hT5:Hid (TwoP w y2 w1.heap.size #[.int .i64 ((piOf [10]).long:Int),.int .i64 ((piOf [10]).ends:Int),.int .i64 ((piOf [10]).tail:Int),.slice (some ⟨vg,0,none⟩) (3+D.nodes.length) vcap,.slice (some ⟨g3,0,none⟩) (3+D.nodes.length) (3+D.nodes.length),.int .i64 ((0:Nat):Int)]):=by
  show TwoP _ _ _ _;rw [hy2];exact hT4.out.set 4 _
 have hP5:Hid (PcM y2 D sel [10] (.slice (some ⟨vg,0,none⟩) (3+D.nodes.length) vcap) (.slice (some ⟨g3,0,none⟩) (3+D.nodes.length) (3+D.nodes.length)) 0):=pc_nl hrlH.out (ht4.out.stayT st5) (st5.blk _ _ _ (by decide) (by decide) hb4.out) (SF_one (by omega))
 clear hy2 st5 hT4 ht4 hb4 z0 z1 z2 z3 z4 z5 zl f0 f1 f2 f3 f4 f5
 obtain ⟨z0,z1,z2,z3,z4,z5,zl⟩:=all6 hT5.out.p
 obtain ⟨q0,q1,q2,q3,q4,q5,ql⟩:=all6 hT5.out.r
 obtain ⟨f0,f1,f2,f3,f4,f5⟩:=froz6 hT5.out.r
 have hne:w1.heap.size≠w.heap.size:=by have:=hT5.out.lt;omega
 go_wp2
 have hfin:=hT5.out.fin (.int .i64 ((piOf [10]).long:Int)) (.int .i64 ((piOf [10]).ends:Int)) (.int .i64 ((piOf [10]).tail:Int)) (.slice (some ⟨vg,0,none⟩) (3+D.nodes.length) vcap) (.slice (some ⟨g3,0,none⟩) (3+D.nodes.length) (3+D.nodes.length)) (.int .i64 ((0:Nat):Int))
 have hst:=StayT.six hT5.out (.int .i64 ((piOf [10]).long:Int)) (.int .i64 ((piOf [10]).ends:Int)) (.int .i64 ((piOf [10]).tail:Int)) (.slice (some ⟨vg,0,none⟩) (3+D.nodes.length) vcap) (.slice (some ⟨g3,0,none⟩) (3+D.nodes.length) (3+D.nodes.length)) (.int .i64 ((0:Nat):Int))
 exact bodyPost_ret (v:=.agg (uArr (piOf [10]) (some ⟨vg,0,none⟩,3+D.nodes.length,vcap) (some ⟨g3,0,none⟩,3+D.nodes.length,3+D.nodes.length) 0)) (results_pc Tryz.results26 _ _ w.heap.size (piOf [10]) (some ⟨vg,0,none⟩,3+D.nodes.length,vcap) (some ⟨g3,0,none⟩,3+D.nodes.length,3+D.nodes.length) 0 rfl hfin.2.1) rfl ⟨⟨(some ⟨vg,0,none⟩,3+D.nodes.length,vcap),(some ⟨g3,0,none⟩,3+D.nodes.length,3+D.nodes.length),0,rfl,hP5.out.stayT hst⟩,hfin.1⟩
theorem known_byte {w:World} {mb gn cap:Nat} {D:DMa} {adrs:List Nat} {F:Nat→Prop} {num:Bool} {mx:Int} {R:RelT} (hM:DmIn w mb D adrs F num mx gn cap) (hR:MaOk D R) (hn:D.nodes.length≤10000) (sel:List Nat→Bool) (b:Nat) {s:Nat} (hs:s<256) (h10:s≠10):
 Calls Tryz.prog 26 #[.pointer (some ⟨b,0,none⟩),.pointer (some ⟨mb,0,none⟩),.int .i64 (s:Int)] w fun e w'=>KnOut w w' e D sel [s]:=by
 have hka:Kept [] w (w.alloc (.cells #[.int .i64 0,.int .i64 0,.int .i64 0,.slice none 0 0,.slice none 0 0,.int .i64 0] 92)):=(Kept.refl [] w).alloc _
 have hc:Hid (Calls Tryz.prog 44 #[.pointer (some ⟨b,0,none⟩),.int .i64 (s:Int)] (w.alloc (.cells #[.int .i64 0,.int .i64 0,.int .i64 0,.slice none 0 0,.slice none 0 0,.int .i64 0] 92)) _):=bsize_any b hs _
 have hr:Hid (Blk (w.alloc (.cells #[.int .i64 0,.int .i64 0,.int .i64 0,.slice none 0 0,.slice none 0 0,.int .i64 0] 92)) w.heap.size #[.int .i64 0,.int .i64 0,.int .i64 0,.slice none 0 0,.slice none 0 0,.int .i64 0] 92):=Blk.new w _ _
 have hkaH:Hid (Kept [] w _):=hka
 have hway:Hid (∀w',Kept [] w w'→Calls _ _ _ w' _):=fun w' k=>dway_any (hM.kept k) hR hn s hs
 have e1:((s:Int)==10)=false:=beq_eq_false_iff_ne.2 (by omega)
 have h2:(s:Int)<256:=by omega
 have h10H:Hid (s≠10):=h10
 clear hka hM hR h10 hs
 unfold uArr ivV at hc
 simp only [] at hc
 go_enter Tryz.func26,Tryz.ntmps26
 go_wp2_with fail
 refine hc.out.mono ?_
 rintro e w1 ⟨rfl,k1⟩
 have hT:TwoP w (w1.alloc (.cells #[.int .i64 ((piOf [s]).long:Int),.int .i64 ((piOf [s]).ends:Int),.int .i64 ((piOf [s]).tail:Int),.slice none 0 0,.slice none 0 0,.int .i64 ((0:Nat):Int)] 92)) w1.heap.size #[.int .i64 ((piOf [s]).long:Int),.int .i64 ((piOf [s]).ends:Int),.int .i64 ((piOf [s]).tail:Int),.slice none 0 0,.slice none 0 0,.int .i64 ((0:Nat):Int)]:=
  ⟨(hkaH.out.trans k1).alloc _,(hr.out.kept k1 (by simp)).alloc _,Blk.new w1 _ _,by have:=k1.size;simp at this;omega⟩
 have hTH:Hid (TwoP _ _ _ _):=hT
 clear k1 hc hr hT hkaH
 go_wp2_with fail
 refine (hway.out _ hTH.out.k).mono ?_
 rintro e w2 ⟨W,⟨⟨v,rows,rfl,hrl,htab⟩,k2⟩,hW⟩
 obtain ⟨vg,vcap,rfl,_,_⟩:=htab.head (by omega)
 rw [hrl] at htab ⊢
 have hT2:Hid (TwoP _ _ _ _):=hTH.out.more k2
 have htH:Hid (Tab w2 0 _ _ _ _):=htab.mono (Nat.zero_le _)
 have hrlH:Hid (_=_):=hrl
 have hWH:Hid (WayIs _ _ _):=hW
 obtain ⟨z0,z1,z2,z3,z4,z5,zl⟩:=all6 hT2.out.p
 obtain ⟨f0,f1,f2,f3,f4,f5⟩:=froz6 hT2.out.p
 clear k2 htab hTH hway hrl hW
 go_upto_region 7 with fail
 obtain ⟨y,hy⟩:∃y,y=w2.setCell ⟨w1.heap.size,3,none⟩ (.slice (some ⟨vg,0,none⟩) (3+D.nodes.length) vcap):=⟨_,rfl⟩
 rw [←hy]
 have hT5:Hid (TwoP w y w1.heap.size #[.int .i64 ((piOf [s]).long:Int),.int .i64 ((piOf [s]).ends:Int),.int .i64 ((piOf [s]).tail:Int),.slice (some ⟨vg,0,none⟩) (3+D.nodes.length) vcap,.slice none 0 0,.int .i64 ((0:Nat):Int)]):=by
  show TwoP _ _ _ _;rw [hy];exact hT2.out.set 3 _
 have hP5:Hid (PcM y D sel [s] (.slice (some ⟨vg,0,none⟩) (3+D.nodes.length) vcap) (.slice none 0 0) 0):=pc_byte h10H.out hrlH.out (htH.out.stayT (by rw [hy];exact (StayT.refl w2).set hT2.out.p (Or.inl rfl) _ _)) hWH.out
 clear hy hT2 htH z0 z1 z2 z3 z4 z5 zl f0 f1 f2 f3 f4 f5
 obtain ⟨z0,z1,z2,z3,z4,z5,zl⟩:=all6 hT5.out.p
 obtain ⟨q0,q1,q2,q3,q4,q5,ql⟩:=all6 hT5.out.r
 obtain ⟨f0,f1,f2,f3,f4,f5⟩:=froz6 hT5.out.r
 have hne:w1.heap.size≠w.heap.size:=by have:=hT5.out.lt;omega
 go_wp2
 have hfin:=hT5.out.fin (.int .i64 ((piOf [s]).long:Int)) (.int .i64 ((piOf [s]).ends:Int)) (.int .i64 ((piOf [s]).tail:Int)) (.slice (some ⟨vg,0,none⟩) (3+D.nodes.length) vcap) (.slice none 0 0) (.int .i64 ((0:Nat):Int))
 have hst:=StayT.six hT5.out (.int .i64 ((piOf [s]).long:Int)) (.int .i64 ((piOf [s]).ends:Int)) (.int .i64 ((piOf [s]).tail:Int)) (.slice (some ⟨vg,0,none⟩) (3+D.nodes.length) vcap) (.slice none 0 0) (.int .i64 ((0:Nat):Int))
 exact bodyPost_ret (v:=.agg (uArr (piOf [s]) (some ⟨vg,0,none⟩,3+D.nodes.length,vcap) (none,0,0) 0)) (results_pc Tryz.results26 _ _ w.heap.size (piOf [s]) (some ⟨vg,0,none⟩,3+D.nodes.length,vcap) (none,0,0) 0 rfl hfin.2.1) rfl ⟨⟨(some ⟨vg,0,none⟩,3+D.nodes.length,vcap),(none,0,0),0,rfl,hP5.out.stayT hst⟩,hfin.1⟩
end Go.Proofs.YtgifhgnccmnbiabGreat
