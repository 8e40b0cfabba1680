/- Part of the proof. -/
import Derived.Test.YtgifhgnccmnbiabGreatDoorG02
set_option linter.unusedVariables false
set_option linter.unusedSimpArgs false
set_option maxHeartbeats 4000000
set_option maxRecDepth 100000
namespace Go.Proofs.YtgifhgnccmnbiabGreatDoor
open Go.RowKit Go.IntWalk
theorem Rd:(Tryz.prog.info? 164).map (fun i=>(i.zero,i.size,i.bytes)) =
 some (some (.agg #[.int .i64 0,.slice none 0 0,.bool false,.int .i64 0,.int .i64 0,.int .i64 0,.int .i64 0,.int .i64 0]),8,80):=by kernel_rfl
def AN.val(n:AN)(x:IV):Value:=
 .agg #[.int .i64 n.kind,.slice x.1 x.2.1 x.2.2,.bool n.neg,.int .i64 n.left,.int .i64 n.right,.int .i64 n.least,.int .i64 n.most,.int .i64 n.size]
theorem bM(w0:World)(cs:Array Value)(e:TypeId)(k:Nat)(hk:k=w0.heap.size):
 ∀j u,cs.toList[j]?=some u->(w0.alloc (.cells cs e)).cell? ((⟨k,0,none⟩:Addr).add j)=some u:=by
 intro j u hu;subst hk;rw[show(⟨w0.heap.size,0,none⟩:Addr).add j=⟨w0.heap.size,j,none⟩ by unfold Addr.add;split <;> simp_all,(ah.new w0 cs e).cell]
 simpa using hu
theorem aO{w:World}{base:Nat}{e:TypeId}{size:Nat}{v:Value}{n:Nat}{xs:List Value}(h:w.ownsRow base e size v n xs)(hn:0<n):
 ∃g cap,v=.slice (some ⟨g,0,none⟩) n cap:=by
 rcases h.2 with⟨_,h⟩|⟨g,cap,_,h,_⟩
 ·omega
 ·exact⟨g,cap,h⟩
theorem Ka{ns:List AN}{n:AN}(h:Dc ns)(hn:0<=n.size):Dc (ns++[gL n]):=NX (n:=n) (st:=((0,false),ns)) h hn
theorem MA{b:Nat}{t:ByteArray}{s:RS}{ns:List AN}{v:Value}{xs:List IV}{n:AN}{x:IV}{w w1:World}(h:NV w b t s ns v xs)(hx:cj w (b+1) x n.cM)(hn:0<=n.size)
 (o1 o2:Obj) (g cap:Nat) (news:List Value) (yu:news=(gL n).cells x)
 (aG:w1.ownsRow (b+1) 164 8 (.slice (some ⟨g,0,none⟩) (ns.length+1) cap) (ns.length+1) (bZ ns xs++news))
 (ay:((w.alloc o1).alloc o2).drew.grownBy w1 v.ownBlock):
 RD w1 b t s v/\NS (w1.setCell ⟨b,2,none⟩ (.slice (some ⟨g,0,none⟩) (ns.length+1) cap)) b t (s,ns++[gL n])/\Below b w (w1.setCell ⟨b,2,none⟩ (.slice (some ⟨g,0,none⟩) (ns.length+1) cap)):=by
 subst yu;have hb:=h.rd.aD.lt;have hvb:some b≠v.ownBlock:=fun hc=>by have:=re h.row hc.symm;omega
 have bl:∀k,k<w.heap.size->some k≠v.ownBlock->w1.heap[k]?=w.heap[k]?:=fun k hk fx=>by
  rw[ay.block k (by show k<((w.alloc o1).alloc o2).heap.size;simp;omega) fx];show((w.alloc o1).alloc o2).heap[k]?=_;rw[Below.heap_alloc _ _ _ (by simp;omega),Below.heap_alloc _ _ _ hk]
 have e2:((w.alloc o1).alloc o2).drew.heap.size=w.heap.size+1+1:=by
  show((w.alloc o1).alloc o2).heap.size=_;simp
 have gsz:w.heap.size<=w1.heap.size:=by have:=ay.size;omega
 have gw:w.grownBy w1 v.ownBlock:=⟨ay.os,ay.tape,ay.output,gsz,bl⟩;have r1:RD w1 b t s v:=⟨(bl b hb hvb).trans h.rd.aD,h.rd.fits,h.rd.small⟩;have gb:∀u,w1.grownBy (w1.setCell ⟨b,2,none⟩ u) (some b):=fun u=>⟨rfl,rfl,rfl,by simp[World.setCell],fun k hk fx=>Below.heap_setCell _ _ _ _ (by rintro rfl;exact fx rfl)⟩;have EL:∀{e z m:Nat} {y:Value} {ys:List Value} (u:Value),w1.ownsRow (b+1) e z y m ys->(w1.setCell ⟨b,2,none⟩ u).ownsRow (b+1) e z y m ys:=fun {e z m y ys} u hy=>by
  refine hy.kept (gb u) ?_;cases hv:y.ownBlock with
  | none=>exact Or.inl rfl
  | some g=>refine Or.inr ?_;have:=re hy hv;simp;omega
 have Re:∀(y:IV) (cM:List (Int×Int)),cj w (b+1) y cM->cj w1 (b+1) y cM:=fun y cM hy=>
  World.ownsRow.kept hy gw (pV hy h.row (by decide))
 refine⟨r1,⟨.slice (some ⟨g,0,none⟩) (ns.length+1) cap,xs++[x],?_,?_,?_,?_,?_⟩,?_⟩
 ·exact⟨ah.set r1.aD 2 _,h.rd.fits,h.rd.small⟩
 ·rw[qx ns xs (gL n) x h.len,List.length_append];exact EL _ aG
 ·simp[h.len]
 ·intro i m y hm hy;by_cases hi:i<ns.length
  ·rw[List.getElem?_append_left hi]at hm;rw[List.getElem?_append_left (by rw[h.len];exact hi)]at hy;exact EL _ (Re y m.cM (h.items i m y hm hy))
  ·have CI:i=ns.length:=by
    have:=(List.getElem?_eq_some_iff.1 hm).1;simp at this;omega
   subst CI;rw[List.getElem?_append_right (Nat.le_refl _),Nat.sub_self]at hm;rw[List.getElem?_append_right (by rw[h.len];exact Nat.le_refl _),h.len,Nat.sub_self]at hy;simp at hm hy;subst hm hy;exact EL _ (Re x n.cM hx)
 ·exact Ka h.sized hn
 ·have oV:Below b w w1:=⟨gw.os,gw.tape,gw.output,gw.size,fun k hk=>bl k (by omega) (fun hc=>by have:=re h.row hc.symm;omega)⟩;exact oV.setCell (Nat.le_refl _) _
theorem MB(b:Nat)(t:ByteArray)(s:RS)(ns:List AN)(v:Value)(xs:List IV)(n:AN)(x:IV)(w:World)(h:NV w b t s ns v xs)(hl:ns.length<=1000)
 (hx:cj w (b+1) x n.cM) (hn:0<=n.size) (hn':n.size<=1000):
 Calls Tryz.prog 196 #[.pointer (some ⟨b,0,none⟩),n.val x] w fun e w'=>e=.returned (.int .i64 ((bL n (s,ns)).1:Int))/\NS w' b t (bL n (s,ns)).2/\Below b w w':=by
 obtain⟨i0,kQ,jh,dP,dB⟩:=info_parts Rd;obtain⟨ao,il,ic⟩:=x;obtain⟨kind,cM,neg,left,right,least,most,size⟩:=n;have pU:=h.rd.aD.lt;have h2:=h.rd.c2;have f2:=h.rd.f 2;unfold AN.val;by_cases hc:61<size
 ·go_enter Tryz.func196,Tryz.ntmps196
  go_wp2_with fail
  have ow:∀o1 o2,((w.alloc o1).alloc o2).ownsRow (b+1) 164 8 v ns.length (bZ ns xs):=fun o1 o2=>(h.row.alloc o1).alloc o2;have mb:ns.length+1<=maxLen:=by unfold maxLen;omega
  have dd:∀o1 o2,b+1<=((w.alloc o1).alloc o2).heap.size:=fun o1 o2=>by simp;omega
  go_region_law (refine cF rfl (.tmp 13) (.tmp 15) 91 rfl 164 i0 _ 8 80 Tryz.underlying91 kQ jh dP dB rfl (by decide) (b+1) v ns.length (bZ ns xs) (by simp[Act.eval,Act.put]) (by exact ow _ _) ⟨w.heap.size+1,0,none⟩ 1 1 [.int .i64 kind,.slice ao il ic,.bool neg,.int .i64 left,.int .i64 right,.int .i64 least,.int .i64 most,.int .i64 61] (by simp[Act.eval,Act.put]) rfl (by exact bM _ _ _ _ (by simp)) (by simp[Value.oneCell']) mb (by omega) (by exact dd _ _) ?_;intro v' w1 aG ay;obtain⟨g,cap,rfl⟩:=aO aG (by omega);obtain⟨r1,r2,r3⟩:=MA (n:=⟨kind,cM,neg,left,right,least,most,size⟩) h hx hn _ _ g cap _ (by simp[AN.cells,gL,hc]) aG ay;have c2:=r1.c2;have g2:=r1.f 2)
  all_goals
   go_wp2
   go_ret;exact⟨bQ (by simp only[bL];first | done | omega),r2,r3⟩
 ·have ecap:Hid ((if 61<size then (61:Int) else size)=size):=if_neg hc;go_enter Tryz.func196,Tryz.ntmps196
  go_wp2_with fail
  have ow:∀o1 o2,((w.alloc o1).alloc o2).ownsRow (b+1) 164 8 v ns.length (bZ ns xs):=fun o1 o2=>(h.row.alloc o1).alloc o2;have mb:ns.length+1<=maxLen:=by unfold maxLen;omega
  have dd:∀o1 o2,b+1<=((w.alloc o1).alloc o2).heap.size:=fun o1 o2=>by simp;omega
  go_region_law (refine cF rfl (.tmp 13) (.tmp 15) 91 rfl 164 i0 _ 8 80 Tryz.underlying91 kQ jh dP dB rfl (by decide) (b+1) v ns.length (bZ ns xs) (by simp[Act.eval,Act.put]) (by exact ow _ _) ⟨w.heap.size+1,0,none⟩ 1 1 [.int .i64 kind,.slice ao il ic,.bool neg,.int .i64 left,.int .i64 right,.int .i64 least,.int .i64 most,.int .i64 size] (by simp[Act.eval,Act.put]) rfl (by exact bM _ _ _ _ (by simp)) (by simp[Value.oneCell']) mb (by omega) (by exact dd _ _) ?_;intro v' w1 aG ay;obtain⟨g,cap,rfl⟩:=aO aG (by omega);obtain⟨r1,r2,r3⟩:=MA (n:=⟨kind,cM,neg,left,right,least,most,size⟩) h hx hn _ _ g cap _ (by simp[AN.cells,gL,ecap.out]) aG ay;have c2:=r1.c2;have g2:=r1.f 2)
  all_goals
   go_wp2
   go_ret;exact⟨bQ (by simp only[bL];first | done | omega),r2,r3⟩
structure IP (w0 w:World)(b:Nat)(t:ByteArray)(F0 F:Nat->Prop)(st:RP)(aj:List Nat)(cur:List Nat)(X:Nat)(kv:IV)(kind:Int):Prop where
 rm:RM w b t st.1 st.2 aj F
 sub:∀k,F0 k->F k
 new:∀k,F k->F0 k\/w0.heap.size<=k
 aD:ah w X #[.int .i64 kind,.slice none 0 0,.bool false,.slice kv.1 kv.2.1 kv.2.2,.int .i64 0,.int .i64 0] 229
 row:w.ownsRow w0.heap.size 111 1 (fF kv) cur.length (cur.map (ptrTo aj))
 hX:w0.heap.size<=X/\¬F X
 hkv:∀g,(fF kv).ownBlock=some g->¬F g
 kept:Kept [b] w0 w
 G6:∀k,k∈cur->k<st.2.length
section
variable {w0 w w2:World}{b X:Nat}{t:ByteArray}{F0 F:Nat->Prop}{st:RP}{aj cur:List Nat}{kv:IV}{kind:Int}{s':RS}
theorem IP.start{s:RS}{ps:List PN}(h:RM w b t s ps aj F)(k:Nat)(hk:k=w.heap.size)(kind:Int):
 IP w (w.alloc (.cells #[.int .i64 kind,.slice none 0 0,.bool false,.slice none 0 0,.int .i64 0,.int .i64 0] 229)) b t F F (s,ps) aj [] k (none,0,0) kind:=by
 subst hk;have kk:Kept [b] w (w.alloc (.cells #[.int .i64 kind,.slice none 0 0,.bool false,.slice none 0 0,.int .i64 0,.int .i64 0] 229)):=(Kept.refl _ _).alloc _;exact⟨h.scan (h.rr.kept ((Kept.refl [] w).alloc _) (by simp)) kk,fun k hk=>hk,fun k hk=>Or.inl hk,ah.new _ _ _,World.ownsRow_nil _ _ _ _,⟨Nat.le_refl _,fun hf=>by have:=(h.Ac _ hf).1;omega⟩,fun g hg=>(by cases hg),kk,fun k hk=>(by cases hk)⟩
theorem IP.lt(h:IP w0 w b t F0 F st aj cur X kv kind):X<w.heap.size:=h.aD.lt
theorem IP.ne(h:IP w0 w b t F0 F st aj cur X kv kind)(hb:b<w0.heap.size):X≠b:=by have:=h.hX.1;omega
theorem vm{S:List Nat}{base e z n:Nat}{v:Value}{xs:List Value}(h:w.ownsRow base e z v n xs)(k:Kept S w w2)(hg:∀g,v.ownBlock=some g->¬g∈S):w2.ownsRow base e z v n xs:=by
 refine⟨h.1,?_⟩;rcases h.2 with h1|⟨g,cap,cur,h1,h2,h3,r⟩
 ·exact Or.inl h1
 ·exact Or.inr ⟨g,cap,cur,h1,h2,(k.block g (Array.getElem?_eq_some_iff.1 h3).1 (hg g (by rw[h1];rfl))).trans h3,r⟩
theorem IP.scan(h:IP w0 w b t F0 F st aj cur X kv kind)(hb:b<w0.heap.size)(r:RR w2 b t s')(k:Kept [b] w w2):IP w0 w2 b t F0 F (s',st.2) aj cur X kv kind:=
 ⟨h.rm.scan r k,h.sub,h.new,h.aD.kept k (by simpa using h.ne hb),vm h.row k (fun g hg=>by have:=(h.row.lt g hg).1;simp;omega),h.hX,h.hkv,h.kept.trans k,h.G6⟩
theorem IP.call(h:IP w0 w b t F0 F st aj cur X kv kind)(hb:b<w0.heap.size){r:Nat×RP}{pv:Value}(m:fZ w w2 b t aj F r pv)(ay:st.2.length<=r.2.2.length):
 ∃more F',IP w0 w2 b t F0 F' r.2 (aj++more) cur X kv kind/\pv=ptrTo (aj++more) r.1/\r.1<r.2.2.length:=by
 obtain⟨⟨more,F',h1,h2,h3,h4⟩,h5,h6⟩:=m;refine⟨more,F',⟨h1,fun k hk=>h2 k (h.sub k hk),fun k hk=>?_,h.aD.kept h5 (by simpa using h.ne hb),?_,⟨h.hX.1,fun hf=>?_⟩,fun g hg hf=>?_,h.kept.trans h5,fun k hk=>Nat.lt_of_lt_of_le (h.G6 k hk) ay⟩,h4,h6⟩
 ·rcases h3 k hk with h7|h7
  ·exact h.new k h7
  ·exact Or.inr (Nat.le_trans h.kept.size h7)
 ·have e:cur.map (ptrTo (aj++more))=cur.map (ptrTo aj):=by
   apply List.map_congr_left;intro k hk;unfold ptrTo;rw[Ab (by rw[h.rm.len];exact h.G6 k hk)]
  rw[e];exact vm h.row h5 (fun g hg=>by have:=(h.row.lt g hg).1;simp;omega)
 ·rcases h3 X hf with h7|h7
  ·exact h.hX.2 h7
  ·have:=h.lt;omega
 ·rcases h3 g hf with h7|h7
  ·exact h.hkv g hg h7
  ·have:=(h.row.lt g hg).2;omega
theorem IP.app(h:IP w0 w b t F0 F st aj cur X kv kind)(hb:b<w0.heap.size)(o:Obj)(k:Nat)(hk:k<st.2.length)(v':Value){w3:World}
 (aG:w3.ownsRow w0.heap.size 111 1 v' (cur.length+1) (cur.map (ptrTo aj)++[ptrTo aj k])) (ay:(w.alloc o).grownBy w3 (fF kv).ownBlock)
 (Gq:v'.ownBlock=(fF kv).ownBlock\/∀g,v'.ownBlock=some g->(w.alloc o).heap.size<=g):
 ∃Xk:IV,v'=.slice Xk.1 Xk.2.1 Xk.2.2/\(∃y,Xk.1=some y)/\ah w3 X #[.int .i64 kind,.slice none 0 0,.bool false,.slice kv.1 kv.2.1 kv.2.2,.int .i64 0,.int .i64 0] 229 /\
  IP w0 (w3.setCell ⟨X,3,none⟩ (.slice Xk.1 Xk.2.1 Xk.2.2)) b t F0 F st aj (cur++[k]) X Xk kind:=by
 obtain⟨g,cap,rfl⟩:=aO aG (by omega);have Yq:=h.ne hb;have hXlt:=h.lt;have b8:=h.row;have jK:∀g,(fF kv).ownBlock=some g->w0.heap.size<=g/\g<w.heap.size:=fun g hg=>b8.lt g hg;have hXne:∀g,(fF kv).ownBlock=some g->g≠X:=fun g hg hc=>by
  subst hc;rcases b8.2 with⟨h1,_⟩|⟨g',qM,cu,h1,_,h3,_⟩
  ·rw[h1]at hg;cases hg
  ·rw[h1]at hg;simp only[Value.ownBlock,Option.some.injEq]at hg;subst hg;have h5:=h.aD;unfold ah at h5;rw[h3]at h5;simp at h5
 have bl:∀i,i<w.heap.size->some i≠(fF kv).ownBlock->w3.heap[i]?=w.heap[i]?:=fun i hi fx=>by
  rw[ay.block i (by simp;omega) fx,Below.heap_alloc _ _ _ hi]
 have Rf:w.heap.size<=w3.heap.size:=by have:=ay.size;simp at this;omega
 have Yr:ah w3 X #[.int .i64 kind,.slice none 0 0,.bool false,.slice kv.1 kv.2.1 kv.2.2,.int .i64 0,.int .i64 0] 229:=(bl X hXlt (fun hc=>hXne X hc.symm rfl)).trans h.aD;have rr3:RR w3 b t st.1:=⟨(bl b h.rm.rr.aD.lt (fun hc=>by have:=(jK b hc.symm).1;omega)).trans h.rm.rr.aD,h.rm.rr.fits,h.rm.rr.small⟩;have hgX:g≠X:=fun hc=>by
  subst hc;rcases aG.2 with⟨h1,_⟩|⟨g',qM,cu,h1,_,h3,_⟩
  ·cases h1
  ·simp only[Value.slice.injEq,Option.some.injEq,Addr.mk.injEq]at h1;obtain⟨⟨h1,_⟩,_⟩:=h1;subst h1;have h5:=Yr;unfold ah at h5;rw[h3]at h5;simp at h5
 have hgF:¬F g:=fun hf=>by
  rcases Gq with Gq|Gq
  ·exact h.hkv g (by rw[<-Gq];rfl) hf
  ·have:=Gq g rfl;have:=(h.rm.Ac g hf).1;simp at *;omega
 refine⟨(some ⟨g,0,none⟩,cur.length+1,cap),rfl,⟨_,rfl⟩,Yr,?_⟩;refine⟨?_,h.sub,h.new,Yr.set 3 _,?_,h.hX,fun g' JF hf=>?_,?_,fun i hi=>?_⟩
 ·refine h.rm.frame (fun i hi=>?_) ⟨ah.other rr3.aD _ _ (Ne.symm Yq),rr3.fits,rr3.small⟩ (by simpa [World.setCell] using Rf);rw[Below.heap_setCell _ _ _ _ (by rintro rfl;exact h.hX.2 hi)];exact bl i (h.rm.Ac i hi).1 (fun hc=>h.hkv i hc.symm hi)
 ·have h1:(w3.setCell ⟨X,3,none⟩ (.slice (some ⟨g,0,none⟩) (cur.length+1) cap)).ownsRow w0.heap.size 111 1 (.slice (some ⟨g,0,none⟩) (cur.length+1) cap) (cur.length+1) (cur.map (ptrTo aj)++[ptrTo aj k]):=
   vm (S:=[X]) aG ((Kept.refl _ _).setCell (by simp) _) (fun g' JF=>by simp[Value.ownBlock]at JF;subst JF;simpa using hgX)
  rw[List.map_append,List.length_append];exact h1
 ·simp[fF,Value.ownBlock]at JF;subst JF;exact hgF hf
 ·refine Kept.setCell ?_ (Or.inr h.hX.1) _;refine⟨ay.os.trans h.kept.os,ay.tape.trans h.kept.tape,ay.output.trans h.kept.output,Nat.le_trans h.kept.size Rf,fun i hi hs=>?_⟩;rw[bl i (Nat.lt_of_lt_of_le hi h.kept.size) (fun hc=>by have:=(jK i hc.symm).1;omega)];exact h.kept.block i hi hs
 ·rcases List.mem_append.1 hi with hi|hi
  ·exact h.G6 i hi
  ·simp at hi;subst hi;exact hk
theorem IP.fin{Rg more:List Nat}(h:IP w0 w b t F0 F st (Rg++more) cur X kv kind)(hb:b<w0.heap.size)(oT:3<kind):
 fZ w0 w b t Rg F0 (a8 { kind:=kind,kids:=cur} st) (.pointer (some ⟨X,0,none⟩)):=by
 have hX:=h.hX.1;refine⟨⟨more++[X],fun x=>F x\/x=X\/(fF kv).ownBlock=some x,?_,fun x hx=>Or.inl (h.sub x hx),fun x hx=>?_,?_⟩,h.kept,by simp[a8]⟩
 ·rw[<-List.append_assoc];refine RM.push h.rm (fun x hx=>Or.inl hx) (fun x hx=>?_) h.G6 (iv:=(none,0,0)) (kv:=kv) ⟨h.aD,Or.inr (Or.inl rfl),Or.inr ⟨oT,rfl⟩,ve h.row (Nat.zero_le _),fun g hg=>Or.inr (Or.inr hg)⟩;rcases hx with hx|rfl|hx
  ·exact h.rm.Ac x hx
  ·exact⟨h.lt,by omega⟩
  ·have:=h.row.lt x hx;exact⟨this.2,by omega⟩
 ·rcases hx with hx|rfl|hx
  ·exact h.new x hx
  ·exact Or.inr hX
  ·exact Or.inr (h.row.lt x hx).1
 ·have e:((Rg++(more++[X])).getD st.2.length 0)=X:=by
   rw[<-List.append_assoc,<-h.rm.len];simp[List.getD]
  simp only[a8,ptrTo,e]
end
theorem VI:(Tryz.prog.info? 111).map (fun i=>(i.zero,i.size,i.bytes))=some (some (.pointer none),1,8):=by kernel_rfl
theorem G7(b:Nat)(t:ByteArray)(s:RS)(w:World)(h:RR w b t s):
 Calls Tryz.prog 148 #[.pointer (some ⟨b,0,none⟩),.string ⟨#[124,41]⟩] w fun e w'=>e=.returned (.bool (oq t s [124,41]))/\RR w' b t s/\Kept [b] w w':=ub b t s _ w h (by decide)
theorem fZ.grow{w w':World}{b:Nat}{t:ByteArray}{aj:List Nat}{F:Nat->Prop}{r:Nat×RP}{pv:Value}(h:fZ w w' b t aj F r pv){n:Nat}(hn:aj.length=n):n<=r.2.2.length:=by
 obtain⟨⟨more,F',h1,_⟩,_⟩:=h;rw[<-h1.len,<-hn];simp
theorem Ah{t:ByteArray}{s:RS}(h:iu t s=true):s.1<t.size:=by
 simp only[iu,Bool.and_eq_true,decide_eq_true_eq]at h;exact h.1.2
set_option maxHeartbeats 8000000 in
theorem EM(t:ByteArray)(m:Nat)(H:N4 t m):N4 t (m+1):=by
 intro b s ps aj F w Af h;obtain⟨i0,kQ,jh,dP,dB⟩:=info_parts VI;have pU:b<w.heap.size:=h.rr.aD.lt;have iZ:Hid (t.size<=40):=h.rr.small;have N7:=IP.start h w.heap.size rfl 5;obtain⟨X,hX⟩:∃X,X=w.heap.size:=⟨_,rfl⟩;rw[<-hX]at N7;have wW:Hid (_=_):=hX;clear hX;go_enter Tryz.func102,Tryz.ntmps102
 go_wp2_with fail
 rw[<-wW.out];go_loopw [7] (fun _ wr=>∃Rh Dm F' cur kv,IP w wr b t F F' Rh Dm cur X kv 5/\(∃more,Dm=aj++more)/\(∀r',db t 0 cur Rh r'->db t 0 [] (s,ps) r')/\s.1<=Rh.1.1/\cur.length<=Rh.1.1) (fun _ wr=>Ag wr b)
 case atStart=>exact⟨(s,ps),aj,F,[],(none,0,0),N7,⟨[],by simp⟩,fun r' e=>e,Nat.le_refl _,Nat.zero_le _⟩
 case round=>
  obtain⟨Rh,Dm,F',cur,⟨ko,kl,kc⟩,hI,⟨more,G8⟩,ev,jK,ix⟩:=hrel;have QJ:Hid (∀r',_):=ev;have Ri:Hid (_=_):=G8;clear ev G8 N7;obtain⟨wo,rfl⟩:∃wo:World,wo=wr:=⟨_,rfl⟩;have VF:Hid (_=_):=oS hI.rm.rr;have Cw:b<wo.heap.size:=hI.rm.rr.aD.lt;have sJ:=IP.start hI.rm wo.heap.size rfl 4;obtain⟨B,hB⟩:∃B,B=wo.heap.size:=⟨_,rfl⟩;rw[<-hB]at sJ;have Gs:Hid (_=_):=hB;clear hB;go_wp2_with fail
  rw[<-Gs.out];refine(G7 b t _ _ sJ.rm.rr).mono ?_;rintro e2 w2 ⟨rfl,r2,k2⟩;have lE:=sJ.scan Cw r2 k2;clear sJ r2 k2;go_wp2_with fail
  go_loopw [5] (fun en wr=>∃oK G9 F2 ze kv2,en=.bool (oq t oK.1 [124,41])/\IP wo wr b t F' F2 oK G9 ze B kv2 4/\(∃more,G9=Dm++more)/\(∀r',db t 1 ze oK r'->db t 1 [] Rh r')/\Rh.1.1<=oK.1.1/\ze.length<=oK.1.1) (fun _ wr=>Ag wr b)
  case atStart=>exact⟨Rh,Dm,F',[],(none,0,0),rfl,lE,⟨[],by simp⟩,fun r' e=>e,Nat.le_refl _,Nat.zero_le _⟩
  case round=>
   obtain⟨oK,G9,F2,ze,⟨jo,jl,jc⟩,rfl,hP,⟨MD,Rj⟩,ev2,hge2,hcl2⟩:=hrel;have ev2H:Hid (∀r',_):=ev2;have ME:Hid (_=_):=Rj;clear ev2 Rj lE;have hrw2:Hid (_=_):=oS hP.rm.rr;have c0:=hP.rm.rr.c0;have c1:=hP.rm.rr.c1;go_upto_region 4 with fail
   go_cut [5,30] (fun s5 s30 wx=>s5=.bool (oq t oK.1 [124,41])/\s30=.bool (iu t oK.1)/\wx=wr)
   case first=>
    cases he:oq t oK.1 [124,41] with
    | true=>
      have e:Hid (iu t oK.1=false):=by show iu t oK.1=false;unfold iu;rw[he];rfl
      go_wp2
      go_meet;exact⟨by rw[he],by rw[e.out],rfl⟩
    | false=>
      by_cases hp:oK.1.1<t.size
      ·have hl:(0:Int)<((uO t oK.1.1).size:Int):=by rw[dc];omega
       have hd:decide (oK.1.1<t.size)=true:=by simpa using hp
       have e:Hid (iu t oK.1 = !oK.1.2):=by show iu t oK.1 = !oK.1.2;unfold iu;rw[he,hd];rfl
       clear hd;go_wp2
       go_meet;exact⟨by rw[he],by rw[e.out],rfl⟩
      ·have hl:¬(0:Int)<((uO t oK.1.1).size:Int):=by rw[dc];omega
       have hd:decide (oK.1.1<t.size)=false:=by simpa using hp
       have e:Hid (iu t oK.1=false):=by show iu t oK.1=false;unfold iu;rw[he,hd];rfl
       clear hd;go_wp2
       go_meet;exact⟨by rw[he],by rw[e.out],rfl⟩
   case rest=>
    obtain⟨rfl,rfl,rfl⟩:=hcut;have vd:=hP.rm.rr.fits;simp only[Fits]at vd;have hBne:B≠b:=hP.ne Cw
    -- Ys the branch comes to,if it ends here
    have hP':=hP;rw[ME.out]at hP';have mB:=hP'.fin Cw (by decide);obtain⟨Xl,F3,QK,J',lF⟩:=hI.call pU mB (mB.grow hI.rm.len);clear hP';have x3:=QK.aD.cell 3;have xf:=QK.aD.frozen 3;have N8:Hid (_=_):=J';clear J' mB;go_wp2_with (at_builtin;refine cx rfl (.tmp 49) (.tmp 51) 227 rfl w.heap.size 111 i0 _ 1 8 Tryz.underlying227 kQ jh dP dB rfl (by decide) (fF (ko,kl,kc)) cur.length (cur.map (ptrTo (Dm++Xl))) rfl ?own ⟨wc.heap.size,0,none⟩ 1 1 [.pointer (some ⟨B,0,none⟩)] rfl rfl ?n1 ?n2 ?b1 ?b2 ?b3 ?kk)
    ·have uQ:iu t oK.1=true:=by assumption
     have bO:=Ah uQ;have yx:Hid (Calls _ _ _ _ _):=J0 m b t oK.1 oK.2 G9 F2 _ H hP.rm bO (by omega);refine yx.out.mono ?_;clear yx;rintro e4 w4 ⟨r4,pv4,rfl,ev4,m4,hlt4⟩;obtain⟨Xm,F4,hP4,hpv4,G'⟩:=hP.call Cw m4 (m4.grow hP.rm.len);obtain⟨x4,hx4⟩:=m4.ptr;subst hx4;have z3:=hP4.aD.cell 3;have zf:=hP4.aD.frozen 3;have hpv4H:Hid (_=_):=hpv4;clear hpv4 N8 QK x3 xf m4 c0 c1;go_wp2_with (at_builtin;refine cx rfl (.tmp 37) (.tmp 39) 227 rfl wo.heap.size 111 i0 _ 1 8 Tryz.underlying227 kQ jh dP dB rfl (by decide) (fF (jo,jl,jc)) ze.length (ze.map (ptrTo (G9++Xm))) rfl ?pown ⟨w4.heap.size,0,none⟩ 1 1 [.pointer (some ⟨x4,0,none⟩)] rfl rfl ?pn1 ?pn2 ?pb1 ?pb2 ?pb3 ?pkk)
     case pown=>exact hP4.row.alloc _
     case pn1=>exact bM _ _ _ _ rfl
     case pn2=>simp[Value.oneCell']
     case pb1=>unfold maxLen;have:=iZ.out;omega
     case pb2=>have:=iZ.out;omega
     case pb3=>have:=hP4.kept.size;simp;omega
     case pkk=>
      intro v' w5 aG ay Gq;rw[hpv4H.out]at aG;obtain⟨⟨qo,ql,qc⟩,rfl,⟨y,hy⟩,Yq,hP5⟩:=hP4.app Cw _ _ G' v' aG ay (Gq.imp id (fun hx g hg=>by have:=hx g hg;simpa using this));simp only[]at hy;subst hy;have y3:=Yq.cell 3;have yf:=Yq.frozen 3;have hrr5:RR (w5.setCell ⟨B,3,none⟩ (.slice (some y) ql qc)) b t r4.2.1:=hP5.rm.rr;have ev5:Hid (∀r',db t 1 (ze++[r4.1]) r4.2 r'->db t 1 [] Rh r'):=fun r' e=>ev2H.out r' (db.ri uQ ev4 e);go_wp2_with fail
      refine(G7 b t _ _ hrr5).mono ?_;rintro e6 w6 ⟨rfl,r6,k6⟩;have VJ:=hP5.scan Cw r6 k6;have Yt:Hid (_=_):=oS r6;have Rk:=r6.fits;simp only[Fits]at Rk;go_wp2
      refine⟨⟨_,_,_,_,_,rfl,VJ,⟨MD++Xm,by rw[ME.out,List.append_assoc]⟩,ev5.out,?_,?_⟩,?_⟩
      ·show Rh.1.1<=r4.2.1.1;omega
      ·show(ze++[_]).length<=r4.2.1.1;simp;omega
      ·rw[Yt.out,hrw2.out];omega
    case own=>exact QK.row.alloc _
    case n2=>simp[Value.oneCell']
    case b1=>unfold maxLen;have:=iZ.out;omega
    case b2=>have:=iZ.out;omega
    case b3=>have:=QK.kept.size;simp;omega
    case kk=>
     have uQ:iu t oK.1=false:=by assumption
     intro v' w5 aG ay Gq;rw[N8.out]at aG;obtain⟨⟨qo,ql,qc⟩,rfl,⟨y,hy⟩,Yq,hI5⟩:=QK.app pU _ _ lF v' aG ay (Gq.imp id (fun hx g hg=>by have:=hx g hg;simpa using this));simp only[]at hy;subst hy;have y3:=Yq.cell 3;have yf:=Yq.frozen 3;have evB:db t 1 [] Rh (a8 { kind:=4,kids:=ze} oK):=ev2H.out _ (db.oQ uQ);have hpB:(a8 { kind:=4,kids:=ze} oK).2.1=oK.1:=rfl;have hrrB:RR (w5.setCell ⟨X,3,none⟩ (.slice (some y) ql qc)) b t oK.1:=hI5.rm.rr;clear hpB;go_wp2_with fail
     refine(gj b 124 t _ _ hrrB (by omega) (by omega)).mono ?_;rintro e6 w6 ⟨rfl,r6,k6⟩;have nE:=hI5.scan pU r6 k6;have d1:=r6.c1;have Rk:=r6.fits;simp only[Fits]at Rk;have dE:((ak t 124 oK.1).1=false\/(ak t 124 oK.1).2.2=true)->Hid (∃(r:Nat×RP) (pv:Value),Value.pointer (some ⟨X,0,none⟩)=pv/\db t 0 [] (s,ps) r/\fZ w w6 b t aj F r pv/\s.1<=r.2.1.1):=by
      intro tL;have ev0:=QJ.out _ (db.oR (cur:=cur) evB tL);have hI7:=nE;rw[Ri.out,List.append_assoc]at hI7;exact⟨_,_,rfl,ev0,hI7.fin pU (by decide),by
       show s.1<=(ak t 124 oK.1).2.1;exact Nat.le_trans (Nat.le_trans jK hge2) cr⟩
     cases hm:(ak t 124 oK.1).1 with
     | false=>
       have hx:=dE (Or.inl hm);clear dE;go_wp2
       go_ret;obtain⟨r,pv,h1,h2⟩:=hx.out;exact⟨r,pv,congrArg Ending.returned h1,h2⟩
     | true=>
       cases ud:(ak t 124 oK.1).2.2 with
       | true=>
         have hx:=dE (Or.inr ud);rw[ud]at d1;clear dE;go_wp2
         go_ret;obtain⟨r,pv,h1,h2⟩:=hx.out;exact⟨r,pv,congrArg Ending.returned h1,h2⟩
       | false=>
         have lN:=nI hm;have ev7:Hid (∀r',db t 0 (cur++[(a8 { kind:=4,kids:=ze} oK).1]) ((ak t 124 oK.1).2,(a8 { kind:=4,kids:=ze} oK).2.2) r'->db t 0 [] (s,ps) r'):=
          fun r' e=>QJ.out r' (db.Ad evB (by
           show ¬((ak t 124 oK.1).1=false\/(ak t 124 oK.1).2.2=true);rw[hm,ud];simp) e)
         have Yt:Hid (_=_):=oS r6;rw[ud]at d1;clear dE;go_wp2
         refine⟨⟨_,_,_,_,_,nE,⟨more++Xl,by rw[Ri.out,List.append_assoc]⟩,ev7.out,?_,?_⟩,?_⟩
         ·show s.1<=(ak t 124 oK.1).2.1;omega
         ·show(cur++[_]).length<=(ak t 124 oK.1).2.1;simp;omega
         ·rw[Yt.out,VF.out];omega
theorem yy(t:ByteArray):∀m,N4 t m
 | 0=>fun _ _ _ _ _ _ h=>by omega
 | m+1=>EM t m (yy t m)
def dK(p:PN)(n:Int):Int:=
 if p.kind=1\/p.kind=2\/p.kind=3 then 1
 else if p.kind=4 then (if n<1 then 1 else n)
 else if p.kind=6 then (if 1<p.most then wrap64 (n*p.most) else if p.most<0/\1<p.least then wrap64 (n*p.least) else n)
 else n
def eo(ps:List PN):Nat->Nat->Int
 | 0,_=>0
 | f+1,i=>match ps[i]? with
   | none=>0
   | some p=>dK p (p.kids.foldl (fun n k=>wrap64 (n+eo ps f k)) 0)
def PM(w:World)(ps:List PN)(aj:List Nat):Prop:=
 ∀(i:Nat) (p:PN),ps[i]?=some p->(∀k,k∈p.kids->k<i)/\∃F iv kv,jT w F aj p (aj.getD i 0) iv kv
theorem pW(ps:List PN)(hk:∀(i:Nat) (p:PN),ps[i]?=some p->∀k,k∈p.kids->k<i):∀(f g i:Nat),i<f->i<g->eo ps f i=eo ps g i
 | 0,_,_,h,_=>by omega
 | _+1,0,_,_,h=>by omega
 | f+1,g+1,i,h1,h2=>by
   rw[eo,eo];cases hp:ps[i]? with
   | none=>rfl
   | some p=>
     simp only[];congr 1
     have:∀(l:List Nat) (n:Int),(∀k,k∈l->k<i)->l.foldl (fun n k=>wrap64 (n+eo ps f k)) n=l.foldl (fun n k=>wrap64 (n+eo ps g k)) n:=by
      intro l;induction l with
      | nil=>intro n _;rfl
      | cons x r ih=>
        intro n hl;rw[List.foldl_cons,List.foldl_cons,pW ps hk f g x (by have:=hl x (by simp);omega) (by have:=hl x (by simp);omega)];exact ih _ (fun k hk=>hl k (by simp[hk]))
     exact this p.kids 0 (hk i p hp)
theorem Kb(ps:List PN)(aj:List Nat)(w:World)(hm:PM w ps aj)(i:Nat)(p:PN)(hp:ps[i]?=some p)
 (ih:∀k,k<i->Calls Tryz.prog 103 #[ptrTo aj k] w fun e w'=>e=.returned (.int .i64 (eo ps i k))/\w'=w):
 Calls Tryz.prog 103 #[ptrTo aj i] w fun e w'=>e=.returned (.int .i64 (eo ps (i+1) i))/\w'=w:=by
 obtain⟨hk,F,iv,kv,po⟩:=hm i p hp;have dd:Hid (eo ps (i+1) i=dK p (p.kids.foldl (fun n k=>wrap64 (n+eo ps i k)) 0)):=by
  show eo ps (i+1) i=_;rw[eo,hp]
 have hl:p.kids.length<=maxLen:=by
  rcases po.kids.2 with⟨_,h2⟩|⟨g,cap,cu,_,_,_,h4,h5,_⟩
  ·omega
  ·omega
 unfold maxLen at hl;have Yu:Hid (∀k,k<i->_):=ih;clear ih hm hp;obtain⟨a,ha⟩:∃a,a=aj.getD i 0:=⟨_,rfl⟩;rw[<-ha]at po;have e:ptrTo aj i=.pointer (some ⟨a,0,none⟩):=by rw[ha];rfl
 rw[e];clear e ha;have c0:=po.aD.cell 0;have c3:=po.aD.cell 3;have c4:=po.aD.cell 4;have c5:=po.aD.cell 5;have hlen:kv.2.1=p.kids.length:=by
  rcases po.kids.2 with⟨h1,h2⟩|⟨g,cap,cu,h1,_⟩
  ·simp[fF]at h1;rw[h1.2.1,h2]
  ·simp[fF]at h1;exact h1.2.1
 obtain⟨ko,kl,kc⟩:=kv;simp only[]at hlen c3;subst hlen;have fI:∀j,j<p.kids.length->∃g,ko=some ⟨g,0,none⟩/\w.cell? ⟨g,j,none⟩=some (ptrTo aj (p.kids.getD j 0))/\j<kc:=by
  intro j hj;rcases po.kids.2 with⟨h1,h2⟩|⟨g,cap,cu,h1,h2,h3,h4,_⟩
  ·omega
  ·simp[fF]at h1;have hc:=po.kids.cells (g:=g) (by simp[fF,h1.1,Value.ownBlock]) j (ptrTo aj (p.kids.getD j 0)) (by simp[List.getD,hj]);refine⟨g,h1.1,?_,by rw[h1.2];omega⟩;rwa [show(⟨g,0,none⟩:Addr).add j=⟨g,j,none⟩ by unfold Addr.add;split <;> simp_all]at hc
 have Rl:Hid (∀j,j<p.kids.length->_):=fI;clear po fI;go_enter Tryz.func103,Tryz.ntmps103
 go_wp2_with fail
 go_loop [3,4] (fun n j=>∃c:Nat,c<=p.kids.length/\j=.int .i64 (c:Int)/\n=.int .i64 ((p.kids.take c).foldl (fun n k=>wrap64 (n+eo ps i k)) 0)) (fun _ j=>p.kids.length-(intOf j).toNat)
 case atStart=>exact⟨0,Nat.zero_le _,rfl,rfl⟩
 case round=>
  obtain⟨c,hc,rfl,rfl⟩:=hrel;by_cases bO:c<p.kids.length
  ·obtain⟨g,rfl,hcj,hck⟩:=Rl.out c bO;have G0:p.kids.getD c 0=p.kids[c]:=by simp[List.getD,bO]
   have hki:=hk (p.kids.getD c 0) (by rw[G0];exact List.getElem_mem bO);have cy:Hid ((p.kids.take (c+1)).foldl (fun n k=>wrap64 (n+eo ps i k)) 0=wrap64 ((p.kids.take c).foldl (fun n k=>wrap64 (n+eo ps i k)) 0+eo ps i (p.kids.getD c 0))):=by
    show _=_;rw[List.take_succ_eq_append_getElem bO,List.foldl_append,G0];rfl
   clear G0;generalize p.kids.getD c 0=kk at *;have ihc:Hid (Calls _ _ _ _ _):=Yu.out _ hki;obtain⟨y,hy⟩:∃y,ptrTo aj kk=.pointer (some ⟨y,0,none⟩):=⟨_,rfl⟩;rw[hy]at hcj;have hyH:Hid (_=_):=hy;clear hy;generalize (p.kids.take c).foldl (fun n k=>wrap64 (n+eo ps i k)) 0=acc at *;go_wp2_with fail
   rw[<-hyH.out];refine ihc.out.mono ?_;rintro e w2 ⟨rfl,rfl⟩;go_wp2
   refine⟨⟨c+1,by omega,by go_num,by rw[cy.out]⟩,by simp[intOf];omega⟩
  ·have Yv:c=p.kids.length:=by omega
   subst Yv;rw[List.take_of_length_le (Nat.le_refl _)]at *;generalize p.kids.foldl (fun n k=>wrap64 (n+eo ps i k)) 0=acc at *;clear hk Rl Yu;by_cases k1:p.kind=1
   ·have e:Hid (dK p acc=1):=if_pos (Or.inl k1);go_wp2
    go_ret;exact⟨bQ (by rw[dd.out,e.out]),rfl⟩
   have b1:(p.kind==1)=false:=by simpa using k1
   by_cases k2:p.kind=2
   ·have e:Hid (dK p acc=1):=if_pos (Or.inr (Or.inl k2));go_wp2
    go_ret;exact⟨bQ (by rw[dd.out,e.out]),rfl⟩
   have b2:(p.kind==2)=false:=by simpa using k2
   by_cases k3:p.kind=3
   ·have e:Hid (dK p acc=1):=if_pos (Or.inr (Or.inr k3));go_wp2
    go_ret;exact⟨bQ (by rw[dd.out,e.out]),rfl⟩
   have b3:(p.kind==3)=false:=by simpa using k3
   by_cases k4:p.kind=4
   ·have e:Hid (dK p acc=if acc<1 then 1 else acc):=by show dK p acc=_;unfold dK;rw[if_neg (by omega),if_pos k4]
    by_cases l:acc<1
    ·go_wp2
     go_ret;exact⟨bQ (by rw[dd.out,e.out,if_pos l]),rfl⟩
    ·go_wp2
     go_ret;exact⟨bQ (by rw[dd.out,e.out,if_neg (by omega)]),rfl⟩
   have b4:(p.kind==4)=false:=by simpa using k4
   by_cases k6:p.kind=6
   ·have e:Hid (dK p acc=if 1<p.most then wrap64 (acc*p.most) else if p.most<0/\1<p.least then wrap64 (acc*p.least) else acc):=by
     show dK p acc=_;unfold dK;rw[if_neg (by omega),if_neg k4,if_pos k6]
    clear k1 k2 k3 k4 b1 b2 b3 b4;by_cases l:1<p.most
    ·go_wp2
     go_ret;exact⟨bQ (by rw[dd.out,e.out,if_pos l]),rfl⟩
    by_cases l2:p.most<0
    ·by_cases l3:1<p.least
     ·go_wp2
      go_ret;exact⟨bQ (by rw[dd.out,e.out,if_neg (by omega),if_pos ⟨l2,l3⟩]),rfl⟩
     ·go_wp2
      go_ret;exact⟨bQ (by rw[dd.out,e.out,if_neg (by omega),if_neg (by omega)]),rfl⟩
    ·go_wp2
     go_ret;exact⟨bQ (by rw[dd.out,e.out,if_neg (by omega),if_neg (by omega)]),rfl⟩
   ·have e:Hid (dK p acc=acc):=by show dK p acc=_;unfold dK;rw[if_neg (by omega),if_neg k4,if_neg k6]
    have b6:(p.kind==6)=false:=by simpa using k6
    clear k1 k2 k3 k4 k6;go_wp2
    go_ret;exact⟨bQ (by rw[dd.out,e.out]),rfl⟩
theorem Dn(ps:List PN)(aj:List Nat)(w:World)(hm:PM w ps aj):
 ∀(n i:Nat),i<n->i<ps.length->Calls Tryz.prog 103 #[ptrTo aj i] w fun e w'=>e=.returned (.int .i64 (eo ps (i+1) i))/\w'=w
 | 0,_,h,_=>by omega
 | n+1,i,h,hi=>by
   have hp:ps[i]?=some ps[i]:=List.getElem?_eq_getElem hi;refine Kb ps aj w hm i ps[i] hp (fun k hk=>?_);have h2:=Dn ps aj w hm n k (by omega) (by omega);rwa [pW ps (fun i p hp=>(hm i p hp).1) (k+1) i k (by omega) hk]at h2
theorem RM.pm{w:World}{b:Nat}{t:ByteArray}{s:RS}{ps:List PN}{aj:List Nat}{F:Nat->Prop}(h:RM w b t s ps aj F):PM w ps aj:=fun i p hp=>by
 obtain⟨h1,iv,kv,h2⟩:=h.part i p hp;exact⟨h1,F,iv,kv,h2⟩
def CJ:RP:=((0,false),[])
def vn(t:ByteArray)(r:Nat×RP):Prop:=r.2.1.2=true\/r.2.1.1<t.size
def Xn(r:Nat×RP):Int:=eo r.2.2 (r.1+1) r.1
def VK(t:ByteArray)(w w':World)(e:Ending):Prop:=
 Below w.heap.size w w'/\∃r:Nat×RP,db t 0 [] CJ r/\r.1<r.2.2.length /\
  ((vn t r/\e=.returned (.tuple #[.pointer none,.int .i64 0,.int .i64 2])) \/
   (¬vn t r/\60<Xn r/\e=.returned (.tuple #[.pointer none,.int .i64 0,.int .i64 3])) \/
   (¬vn t r/\Xn r<=60/\∃aj F b,w.heap.size<=b/\RM w' b t r.2.1 r.2.2 aj F/\e=.returned (.tuple #[ptrTo aj r.1,.int .i64 (Xn r),.int .i64 0])))
theorem Kc(t:ByteArray)(w:World)(h:40<t.size)(hs:t.size<=maxLen):
 Calls Tryz.prog 60 #[.string t] w fun e w'=>e=.returned (.tuple #[.pointer none,.int .i64 0,.int .i64 3])/\w'=w:=by
 unfold maxLen at hs;go_enter Tryz.func60,Tryz.ntmps60
 go_wp2
 go_ret3
 exact⟨rfl,rfl⟩
theorem Rm(t:ByteArray):uO t 0=t:=by simp[uO]
theorem Dp(t:ByteArray)(w:World)(h:t.size<=40):
 Calls Tryz.prog 60 #[.string t] w fun e w'=>VK t w w' e:=by
 have hr:RM (w.alloc (.cells #[.string t,.bool false] 178)) w.heap.size t (0,false) [] [] (fun _=>False):=by
  refine⟨⟨?_,Nat.zero_le _,h⟩,rfl,fun i p hp=>by simp at hp,fun k hk=>hk.elim⟩;simp only[Rm];exact ah.new _ _ _
 have hC:Hid (Calls _ _ _ _ _):=yy t (t.size+1) w.heap.size (0,false) [] [] (fun _=>False) _ (by simp only[];omega) hr;have bw:Below w.heap.size w (w.alloc (.cells #[.string t,.bool false] 178)):=(Below.refl _ _).alloc (Nat.le_refl _) _;go_enter Tryz.func60,Tryz.ntmps60
 go_wp2_with fail
 refine hC.out.mono ?_;clear hC hr;rintro e w1 ⟨r,pv,rfl,ev,m,jK⟩;obtain⟨⟨aj,F,hm,_,_,J'⟩,k1,lF⟩:=m;simp only[List.nil_append]at hm J';have b1:Below w.heap.size w w1:=bw.trans (k1.below (by simp) (by simp));have c0:=hm.rr.c0;have c1:=hm.rr.c1;have dD:=hm.rr.fits;simp only[Fits]at dD;obtain⟨x,hx⟩:∃x,pv=.pointer (some ⟨x,0,none⟩):=⟨_,J'⟩;subst hx;have QJ:Hid (db t 0 [] CJ r):=ev;have N8:Hid (_=_):=J';have sK:Hid (RM _ _ _ _ _ _ _):=hm;clear ev J' bw k1;cases hb:r.2.1.2 with
 | true=>
   rw[hb]at c1;have iI:Hid (vn t r):=Or.inl hb;go_wp2
   go_ret3
   exact⟨b1,r,QJ.out,lF,Or.inl ⟨iI.out,rfl⟩⟩
 | false=>
   rw[hb]at c1;by_cases bO:r.2.1.1<t.size
   ·have hl:(0:Int)<((uO t r.2.1.1).size:Int):=by rw[dc];omega
    have iI:Hid (vn t r):=Or.inr bO;go_wp2
    go_ret3
    exact⟨b1,r,QJ.out,lF,Or.inl ⟨iI.out,rfl⟩⟩
   ·have hl:¬(0:Int)<((uO t r.2.1.1).size:Int):=by rw[dc];omega
    have CK:Hid (¬vn t r):=fun hc=>by rcases hc with hc|hc;rw[hb]at hc;cases hc;exact bO hc
    have hS:Hid (Calls _ _ _ _ _):=Dn r.2.2 aj w1 hm.pm (r.1+1) r.1 (Nat.lt_succ_self _) lF;clear hm hb;go_wp2_with fail
    rw[N8.out];refine hS.out.mono ?_;clear hS;rw[<-N8.out];obtain⟨z,hz⟩:∃z,z=eo r.2.2 (r.1+1) r.1:=⟨_,rfl⟩;rw[<-hz];rintro e w2 ⟨rfl,rfl⟩;have Vd:Hid (z=Xn r):=hz;clear hz;by_cases rq:60<z
    ·go_wp2
     go_ret3
     exact⟨b1,r,QJ.out,lF,Or.inr (Or.inl ⟨CK.out,by rw[<-Vd.out];exact rq,rfl⟩)⟩
    ·go_wp2
     go_ret3
     exact⟨b1,r,QJ.out,lF,Or.inr (Or.inr ⟨CK.out,by rw[<-Vd.out];omega,aj,F,w.heap.size,Nat.le_refl _,sK.out,by rw[<-N8.out,<-Vd.out];rfl⟩)⟩
def ar(n:Nat)(f:Nat->Bool):Array Value:=((List.range n).map (fun i=>Value.bool (f i))).toArray
theorem aW{n:Nat}(f:Nat->Bool){i:Nat}(h:i<n):(ar n f)[i]?=some (.bool (f i)):=by simp[ar,h]
theorem eu{n:Nat}(f f':Nat->Bool)(i:Nat)(b:Bool)(h:∀j,j<n->f' j=if j=i then b else f j):(ar n f).setIfInBounds i (.bool b)=ar n f':=by
 apply Array.ext
 ·simp[ar]
 ·intro j h1 h2;have hj:j<n:=by simpa [ar] using h2
  rw[Array.getElem_setIfInBounds (by simpa [ar] using hj)];simp only[ar,List.getElem_toArray,List.getElem_map,List.getElem_range];rw[h j hj];by_cases N9:i=j
  ·subst N9;simp
  ·rw[if_neg N9,if_neg (fun hc=>N9 hc.symm)]
theorem iD{n:Nat}{f f':Nat->Bool}(h:∀j,j<n->f j=f' j):ar n f=ar n f':=by
 apply Array.ext
 ·simp[ar]
 ·intro j h1 h2;simp only[ar,List.getElem_toArray,List.getElem_map,List.getElem_range];rw[h j (by simpa [ar] using h1)]
theorem Rn(n:Nat):madeCells (Value.bool false).cells n=ar n (fun _=>false):=by
 apply Array.ext
 ·simp[madeCells,ar]
 ·intro i h1 h2;simp[madeCells,ar,Value.cells,Nat.mod_one]
theorem oW(n:Nat)(hn:n<=1000000)(w:World):(Instr.makeSlice 40 (.int .i64 (n:Int)) (.int .i64 (n:Int))).run Tryz.prog w=.ok (.slice (some ⟨w.heap.size,0,none⟩) n n) (w.alloc (.cells (ar n (fun _=>false)) 4)):=by
 obtain⟨i0,kQ,jh,dP,dB⟩:=info_parts G3;have h:=run_make (P:=Tryz.prog) w 40 4 i0 (.bool false) Tryz.underlying40 kQ jh .i64 .i64 (n:Int) (n:Int) (by omega) (by omega) (by rw[dB];omega) (by omega);rw[dP]at h;simp only[Int.toNat_natCast,Nat.mul_one]at h;rw[Rn]at h;exact h
theorem EO:(Tryz.prog.info? 40).map (fun i=>(i.zero,i.size,i.bytes))=some (some (.slice none 0 0),1,24):=by kernel_rfl
def di(n g:Nat):Value:=.slice (some ⟨g,0,none⟩) n n
structure kR (w:World)(B:Nat)(v:Value)(n:Nat)(rows:List Nat)(M:Nat->Nat->Bool):Prop where
 own:w.ownsRow B 40 1 v rows.length (rows.map (di n))
 row:∀i g,rows[i]?=some g->ah w g (ar n (M i)) 4
 base:∀g,g∈rows->B<=g
 nodup:rows.Nodup
section
variable {w w':World}{B n:Nat}{v:Value}{rows:List Nat}{M:Nat->Nat->Bool}
theorem kR.ne(h:kR w B v n rows M){i g:Nat}(hg:rows[i]?=some g):v.ownBlock≠some g:=fun hc=>by
 rcases h.own.2 with⟨rfl,_⟩|⟨k,c,u,rfl,_,hk,_⟩
 ·simp[Value.ownBlock]at hc
 ·simp only[Value.ownBlock,Option.some.injEq]at hc;subst hc;have h5:=h.row i _ hg;unfold ah at h5;rw[hk]at h5;simp at h5
theorem kR.lt(h:kR w B v n rows M){g:Nat}(hg:g∈rows):g<w.heap.size:=by
 obtain⟨i,hi⟩:=List.mem_iff_getElem?.1 hg;exact(h.row i g hi).lt
theorem kR.kept{S:List Nat}(h:kR w B v n rows M)(k:Kept S w w')(hs:∀g,g∈S->g<B\/w.heap.size<=g):kR w' B v n rows M:=by
 refine⟨vm (S:=S) h.own k (fun g hg hc=>?_),fun i g hg=>(h.row i g hg).kept k (fun hc=>?_),h.base,h.nodup⟩
 ·have:=h.own.lt g hg;have:=hs g hc;omega
 ·have h1:=h.base g (List.mem_iff_getElem?.2 ⟨i,hg⟩);have:=(h.row i g hg).lt;have:=hs g hc;omega
theorem kR.nil(w:World)(B n:Nat)(M:Nat->Nat->Bool):kR w B (.slice none 0 0) n [] M:=
 ⟨World.ownsRow_nil w B _ 1,fun i g hg=>by simp at hg,fun g hg=>by simp at hg,List.nodup_nil⟩
end
section
variable {w w':World}{B n:Nat}{v:Value}{rows:List Nat}{M M':Nat->Nat->Bool}
theorem kR.mono{B':Nat}(h:kR w B v n rows M)(hb:B'<=B):kR w B' v n rows M:=
 ⟨ve h.own hb,h.row,fun g hg=>Nat.le_trans hb (h.base g hg),h.nodup⟩
theorem kR.head(h:kR w B v n rows M)(hr:0<rows.length):
 ∃k cap,v=.slice (some ⟨k,0,none⟩) rows.length cap/\B<=k/\(∀i g,rows[i]?=some g->w.cell? ⟨k,i,none⟩=some (di n g)):=by
 obtain⟨k,cap,rfl⟩:=aO h.own hr;refine⟨k,cap,rfl,(h.own.lt k rfl).1,fun i g hg=>?_⟩;have h1:=h.own.cells (g:=k) rfl i (di n g) (by simp[hg]);rwa [show(⟨k,0,none⟩:Addr).add i=⟨k,i,none⟩ by unfold Addr.add;split <;> simp_all]at h1
theorem kR.cell(h:kR w B v n rows M){i g j:Nat}(hg:rows[i]?=some g)(hj:j<n):w.cell? ⟨g,j,none⟩=some (.bool (M i j)):=by
 rw[(h.row i g hg).cell,aW _ hj]
end
inductive qN (R:Nat->Nat->Prop)(n:Nat):Nat->Nat->Nat->Prop
 | refl {i:Nat}:i<n->qN R n 0 i i
 | step {k i m j:Nat}:R i m->i<m->qN R n k m j->qN R n (k+1) i j
section
variable {R:Nat->Nat->Prop}{T:Nat->Nat->Bool}{n k a b i j p:Nat}
theorem qN.bound(h:qN R n k i j):i+k<=j/\j<n:=by
 induction h with
 | refl h=>exact⟨Nat.le_refl _,h⟩
 | step _ h1 _ ih=>exact⟨by omega,ih.2⟩
theorem qN.app(h:qN R n a i p)(h2:qN R n b p j):qN R n (a+b) i j:=by
 induction h with
 | refl h=>rw[Nat.zero_add];exact h2
 | @step k i m j h0 h1 _ ih=>
   rw[show k+1+b=(k+b)+1 by omega];exact qN.step h0 h1 (ih h2)
def EP(R:Nat->Nat->Prop)(n i j:Nat):Prop:=∃k,qN R n k i j
theorem EP.app(h:EP R n i p)(h2:EP R n p j):EP R n i j:=by
 obtain⟨a,ha⟩:=h;obtain⟨b,hb⟩:=h2;exact⟨a+b,ha.app hb⟩
end
def Ha(R:Nat->Nat->Prop)(n:Nat):Nat->Nat->Nat->Prop
 | 0,i,j=>i=j
 | m+1,i,j=>∃p,p<n/\i<=p/\p<=j/\Ha R n m i p/\R p j
def Ai(R:Nat->Nat->Prop)(n:Nat)(least:Nat)(most:Int)(i j:Nat):Prop:=
 (most<0/\∃p,p<n/\i<=p/\p<=j/\Ha R n least i p/\EP R n p j)\/(0<=most/\(Ha R n least i j\/∃m:Nat,least<m/\(m:Int)<=most/\Ha R n m i j))
def Ro(p:PN)(fold:Bool)(c:Nat):Bool:=
 ((p.ins c || (fold&&(decide (65<=c)&&decide (c<=90))&&p.ins (c+32))) || (fold&&(decide (97<=c)&&decide (c<=122))&&p.ins (c-32))) != p.neg
theorem Yw(w:World)(F:Nat->Prop)(aj:List Nat)(p:PN)(a:Nat)(iv kv:IV)(h:jT w F aj p a iv kv)(hk:p.kind<=3)(fold:Bool)(c:Nat)(hc:c<256):
 Calls Tryz.prog 157 #[.pointer (some ⟨a,0,none⟩),.bool fold,.int .i64 (c:Int)] w fun e w'=>e=.returned (.bool (Ro p fold c))/\w'=w:=by
 obtain⟨g,rfl,hF,hg⟩:∃g,iv=(some ⟨g,0,none⟩,256,256)/\F g/\ah w g (bC p.ins) 4:=by
  rcases h.ins with⟨_,h1⟩|⟨h1,_⟩
  ·exact h1
  ·omega
 have c1:w.cell? ⟨a,1,none⟩=some (.slice (some ⟨g,0,none⟩) 256 256):=h.aD.cell 1;have c2:w.cell? ⟨a,2,none⟩=some (.bool p.neg):=h.aD.cell 2;have cg:∀i,i<256->w.cell? ⟨g,i,none⟩=some (.bool (p.ins i)):=fun i hi=>by rw[hg.cell,kE _ hi]
 unfold Ro;clear h hg;obtain⟨N,hN⟩:∃N,N=p.neg:=⟨_,rfl⟩;obtain⟨I,hI⟩:∃I,I=p.ins:=⟨_,rfl⟩;rw[<-hN]at c2 ⊢;rw[<-hI]at cg ⊢;clear hN hI hk;have d0:=cg c hc;by_cases h1:65<=c/\c<=90
 ·obtain⟨h1,h2⟩:=h1;have d1:=cg (c+32) (by omega);clear cg;have e:Hid (∀x:Bool,(((I c || (fold&&(decide (65<=c)&&decide (c<=90))&&I (c+32))) || (fold&&(decide (97<=c)&&decide (c<=122))&&x)) != N)=((I c || (fold&&I (c+32))) != N)):=fun x=>by
   rw[decide_eq_true h1,decide_eq_true h2,decide_eq_false (show ¬ 97<=c by omega)];simp
  rw[e.out];clear e;generalize I c=X at *;generalize I (c+32)=Y at *;cases fold <;> cases X <;> cases Y <;> cases N <;>
  ·go_enter Tryz.func157,Tryz.ntmps157
   go_wp2
   go_ret;exact⟨rfl,rfl⟩
 ·by_cases h2:97<=c/\c<=122
  ·obtain⟨h2,h3⟩:=h2;obtain⟨d,rfl⟩:∃d,c=d+32:=⟨c-32,by omega⟩;have d1:=cg d (by omega);clear cg h1;have e:Hid (∀x:Bool,(((I (d+32) || (fold&&(decide (65<=d+32)&&decide (d+32<=90))&&x)) || (fold&&(decide (97<=d+32)&&decide (d+32<=122))&&I (d+32-32))) != N)=((I (d+32) || (fold&&I d)) != N)):=fun x=>by
    rw[decide_eq_true h2,decide_eq_true h3,decide_eq_false (show ¬d+32<=90 by omega)];simp
   rw[e.out];clear e;generalize I (d+32)=X at *;generalize I d=Y at *;cases fold <;> cases X <;> cases Y <;> cases N <;>
   ·go_enter Tryz.func157,Tryz.ntmps157
    go_wp2
    go_ret;exact⟨rfl,rfl⟩
  ·clear cg;have e:Hid (∀x y:Bool,(((I c || (fold&&(decide (65<=c)&&decide (c<=90))&&x)) || (fold&&(decide (97<=c)&&decide (c<=122))&&y)) != N)=((I c) != N)):=fun x y=>by
    have a1:(decide (65<=c)&&decide (c<=90))=false:=by rw[<-Bool.decide_and];exact decide_eq_false h1
    have a2:(decide (97<=c)&&decide (c<=122))=false:=by rw[<-Bool.decide_and];exact decide_eq_false h2
    rw[a1,a2];simp
   rw[e.out];clear e;have cs:c<65\/(90<c/\c<97)\/122<c:=by omega
   clear h1 h2;generalize I c=X at *;rcases cs with h1|⟨h1,h2⟩|h1 <;> cases fold <;> cases X <;> cases N <;>
   ·go_enter Tryz.func157,Tryz.ntmps157
    go_wp2
    go_ret;exact⟨rfl,rfl⟩
end Go.Proofs.YtgifhgnccmnbiabGreatDoor
namespace Go.Proofs.YtgifhgnccmnbiabGreatDoor
inductive D (t:ByteArray):Nat->Nat->PS->Nat×PS->Prop
 | pattern {cur st r1 r}:D t 1 0 st r1->D t 4 r1.1 r1.2 r->D t 0 cur st r
 | empty {cur st}:jj t st.1=true->D t 1 cur st (bL { kind:=0,size:=1} st)
 | branch {cur st r1 r}:jj t st.1=false->D t 2 0 st r1->D t 5 r1.1 r1.2 r->D t 1 cur st r
 | piece {cur st r1 r}:D t 3 0 st r1->D t 6 r1.1 r1.2 r->D t 2 cur st r
 | group {cur st r1}:(aw t st.1).1=40->D t 0 0 ((aw t st.1).2,st.2) r1->D t 3 cur st (dv t r1)
 | list {cur st}:(aw t st.1).1=91->D t 3 cur st (nK t ((aw t st.1).2,st.2))
 | plain {cur st}:(aw t st.1).1≠40->(aw t st.1).1≠91->D t 3 cur st (de t (aw t st.1).1 ((aw t st.1).2,st.2))
 | or {cur st r1 r}:(ak t 124 st.1).1=true->D t 1 0 ((ak t 124 st.1).2,st.2) r1->D t 4 (bk 5 cur r1.1 r1.2).1 (bk 5 cur r1.1 r1.2).2 r->D t 4 cur st r
 | oP {cur st}:(ak t 124 st.1).1=false->D t 4 cur st (cur,st)
 | and {cur st r1 r}:jj t st.1=false->D t 2 0 st r1->D t 5 (bk 4 cur r1.1 r1.2).1 (bk 4 cur r1.1 r1.2).2 r->D t 5 cur st r
 | mM {cur st}:jj t st.1=true->D t 5 cur st (cur,st)
 | rep {cur st r}:kN t st.1=true->D t 6 (ch cur (aC t st.1).1 ((aC t st.1).2,st.2)).1 (ch cur (aC t st.1).1 ((aC t st.1).2,st.2)).2 r->D t 6 cur st r
 | gM {cur st}:kN t st.1=false->D t 6 cur st (cur,st)
def curOf(tag cur:Nat):Nat:=if 4<=tag then cur else 0
theorem D.ev{t:ByteArray}{tag cur:Nat}{st:PS}{r:Nat×PS}(h:D t tag cur st r):Ev t tag (curOf tag cur) st r:=by
 induction h with
 | pattern _ _ a b=>exact Ev.pattern a b
 | empty he=>exact Ev.empty he
 | branch he _ _ a b=>exact Ev.branch he a b
 | piece _ _ a b=>exact Ev.piece a b
 | group he _ a=>exact Ev.group he a
 | list he=>exact Ev.list he
 | plain h1 h2=>exact Ev.plain h1 h2
 | or he _ _ a b=>exact Ev.or he a b
 | oP he=>exact Ev.oP he
 | and he _ _ a b=>exact Ev.and he a b
 | mM he=>exact Ev.mM he
 | rep he _ a=>exact Ev.rep he a
 | gM he=>exact Ev.gM he
structure Fw (t:ByteArray)(st:PS)(r:Nat×PS):Prop where
 fit:Fits t r.2.1
 ge:st.1.1<=r.2.1.1
def Has(t:ByteArray)(tag cur:Nat)(st:PS):Prop:=∃r,D t tag cur st r/\Fw t st r
def MG(t:ByteArray)(tag cur:Nat)(st:PS):Prop:=∃r,D t tag cur st r/\Fw t st r/\st.1.1<r.2.1.1
theorem ER{t:ByteArray}{st:PS}(h:Fits t st.1):Fw t st (nK t st):=by
 have h1:=bh (t:=t) (c:=94) (by omega) h;have g1:=cr (t:=t) (c:=94) (s:=st.1);have hfI:∀(f:Nat) (s:RS) (acc:List (Int×Int)),Fits t s->Fits t (gy t f s acc).2:=by
  intro f;induction f with
  | zero=>intro s acc h;exact h
  | succ f ih=>
    intro s acc h;rw[gy];split
    ·exact ih _ _ (xd h)
    ·exact h
 have h2:Fits t (fe t (ak t 94 st.1).2 []).2:=hfI _ _ _ h1;have g2:=De (t:=t) (s:=(ak t 94 st.1).2) (acc:=[]) h1;have h3:=bh (t:=t) (c:=93) (by omega) h2;have g3:=cr (t:=t) (c:=93) (s:=(fe t (ak t 94 st.1).2 []).2);unfold nK;simp only[bL];split
 ·exact⟨jQ t,h⟩
 ·exact⟨h3,by simp only[];omega⟩
theorem Aj{t:ByteArray}{c:Int}{st:PS}(h:Fits t st.1):Fw t st (de t c st):=by
 have h1:=bU h;have g1:=kD h;unfold de jR bL;repeat' split
 all_goals first | exact⟨h,Nat.le_refl _⟩ | exact⟨h1,g1⟩ | exact⟨jQ t,h⟩
theorem vo{t:ByteArray}{st:PS}{r:Nat×PS}(h:Fw t st r):Fw t st (dv t r):=by
 have h3:=bh (t:=t) (c:=41) (by omega) h.fit;have g3:=cr (t:=t) (c:=41) (s:=r.2.1);have:=h.ge;have:=h.fit;unfold dv;split
 ·exact⟨h3,by simp only[];omega⟩
 ·exact⟨jQ t,by simp only[cN];simp only[Fits]at this;omega⟩
section
variable {t:ByteArray}
def Kd(t:ByteArray)(m:Nat):Prop:=∀st:PS,Fits t st.1->t.size-st.1.1<m ->
 (∀cur,Has t 0 cur st)/\(∀cur,Has t 1 cur st)/\(st.1.1<t.size->∀cur,MG t 2 cur st/\MG t 3 cur st)/\(∀cur,Has t 4 cur st)/\(∀cur,Has t 5 cur st)/\(∀cur,Has t 6 cur st)
theorem Ke{m:Nat}(ih:Kd t m):Kd t (m+1):=by
 intro st hf hm;have rep:∀cur,Has t 6 cur st:=fun cur=>by
  cases hr:kN t st.1 with
  | false=>exact⟨_,D.gM hr,hf,Nat.le_refl _⟩
  | true=>
    have bO:=lQ hr;have lN:=sE bO;have QL:=kO hf;obtain⟨r,d,f⟩:=(ih (ch cur (aC t st.1).1 ((aC t st.1).2,st.2)).2 QL (by show t.size-(aC t st.1).2.1<m;omega)).2.2.2.2.2 (ch cur (aC t st.1).1 ((aC t st.1).2,st.2)).1;exact⟨r,D.rep hr d,f.fit,by have:=f.ge;simp only[ch,bL]at this;omega⟩
 have atom:st.1.1<t.size->∀cur,MG t 3 cur st:=fun bO cur=>by
  have lN:=nH bO;have Xo:=bU (t:=t) (s:=st.1) hf;by_cases h1:(aw t st.1).1=40
  ·obtain⟨r,d,f⟩:=(ih ((aw t st.1).2,st.2) Xo (by show t.size-(aw t st.1).2.1<m;omega)).1 0;have f2:=vo f;exact⟨_,D.group h1 d,⟨f2.fit,by have:=f2.ge;simp only[]at this;omega⟩,by have:=f2.ge;simp only[]at this;omega⟩
  ·by_cases h2:(aw t st.1).1=91
   ·have f2:=ER (t:=t) (st:=((aw t st.1).2,st.2)) Xo;exact⟨_,D.list h2,⟨f2.fit,by have:=f2.ge;simp only[]at this;omega⟩,by have:=f2.ge;simp only[]at this;omega⟩
   ·have f2:=Aj (t:=t) (c:=(aw t st.1).1) (st:=((aw t st.1).2,st.2)) Xo;exact⟨_,D.plain h1 h2,⟨f2.fit,by have:=f2.ge;simp only[]at this;omega⟩,by have:=f2.ge;simp only[]at this;omega⟩
 have piece:st.1.1<t.size->∀cur,MG t 2 cur st:=fun bO cur=>by
  obtain⟨r1,d1,f1,g1⟩:=atom bO 0;obtain⟨r,d,f⟩:=(ih r1.2 f1.fit (by omega)).2.2.2.2.2 r1.1;exact⟨r,D.piece d1 d,⟨f.fit,Nat.le_trans f1.ge f.ge⟩,by have:=f.ge;omega⟩
 have more:∀cur,Has t 5 cur st:=fun cur=>by
  cases he:jj t st.1 with
  | true=>exact⟨_,D.mM he,hf,Nat.le_refl _⟩
  | false=>
    have bO:=nJ he;obtain⟨r1,d1,f1,g1⟩:=piece bO 0;obtain⟨r,d,f⟩:=(ih (bk 4 cur r1.1 r1.2).2 f1.fit (by show t.size-r1.2.1.1<m;omega)).2.2.2.2.1 (bk 4 cur r1.1 r1.2).1;exact⟨r,D.and he d1 d,⟨f.fit,Nat.le_trans f1.ge f.ge⟩⟩
 have branch:∀cur,Has t 1 cur st:=fun cur=>by
  cases he:jj t st.1 with
  | true=>exact⟨_,D.empty he,hf,Nat.le_refl _⟩
  | false=>
    have bO:=nJ he;obtain⟨r1,d1,f1,g1⟩:=piece bO 0;obtain⟨r,d,f⟩:=(ih r1.2 f1.fit (by omega)).2.2.2.2.1 r1.1;exact⟨r,D.branch he d1 d,⟨f.fit,Nat.le_trans f1.ge f.ge⟩⟩
 have alts:∀cur,Has t 4 cur st:=fun cur=>by
  cases he:(ak t 124 st.1).1 with
  | false=>exact⟨_,D.oP he,hf,Nat.le_refl _⟩
  | true=>
    have lN:=nI he;have QM:=bh (t:=t) (c:=124) (by omega) hf;obtain⟨r1,d1,f1⟩:=(ih ((ak t 124 st.1).2,st.2) QM (by show t.size-(ak t 124 st.1).2.1<m;have:(ak t 124 st.1).2.1<=t.size:=QM;omega)).2.1 0;have g1:=f1.ge;simp only[]at g1;obtain⟨r,d,f⟩:=(ih (bk 5 cur r1.1 r1.2).2 f1.fit (by show t.size-r1.2.1.1<m;have:r1.2.1.1<=t.size:=f1.fit;have:(ak t 124 st.1).2.1<=t.size:=QM;omega)).2.2.2.1 (bk 5 cur r1.1 r1.2).1;exact⟨r,D.or he d1 d,⟨f.fit,by have:=f.ge;simp only[bk,bL]at this;omega⟩⟩
 refine⟨fun cur=>?_,branch,fun h cur=>⟨piece h cur,atom h cur⟩,alts,more,rep⟩;obtain⟨r1,d1,f1⟩:=branch 0;by_cases MH:r1.2.1.1=st.1.1
 ·-- nothing read yet: Ys follows has as many bytes left
  have alts1:Has t 4 r1.1 r1.2:=by
   cases he:(ak t 124 r1.2.1).1 with
   | false=>exact⟨_,D.oP he,f1.fit,Nat.le_refl _⟩
   | true=>
     have lN:=nI he;have QM:=bh (t:=t) (c:=124) (by omega) f1.fit;obtain⟨r2,d2,f2⟩:=(ih ((ak t 124 r1.2.1).2,r1.2.2) QM (by show t.size-(ak t 124 r1.2.1).2.1<m;have:(ak t 124 r1.2.1).2.1<=t.size:=QM;omega)).2.1 0;have g2:=f2.ge;simp only[]at g2;obtain⟨r,d,f⟩:=(ih (bk 5 r1.1 r2.1 r2.2).2 f2.fit (by show t.size-r2.2.1.1<m;have:r2.2.1.1<=t.size:=f2.fit;have:(ak t 124 r1.2.1).2.1<=t.size:=QM;omega)).2.2.2.1 (bk 5 r1.1 r2.1 r2.2).1;exact⟨r,D.or he d2 d,⟨f.fit,by have:=f.ge;simp only[bk,bL]at this;omega⟩⟩
  obtain⟨r,d,f⟩:=alts1;exact⟨r,D.pattern d1 d,f.fit,Nat.le_trans f1.ge f.ge⟩
 ·have bO:st.1.1<r1.2.1.1:=by have:=f1.ge;omega
  obtain⟨r,d,f⟩:=(ih r1.2 f1.fit (by have:r1.2.1.1<=t.size:=f1.fit;omega)).2.2.2.1 r1.1;exact⟨r,D.pattern d1 d,f.fit,Nat.le_trans f1.ge f.ge⟩
theorem sL:∀m,Kd t m
 | 0=>fun _ _ h=>by omega
 | m+1=>Ke (sL m)
end
theorem Ev.deriv{t:ByteArray}{st:PS}{r:Nat×PS}(hf:Fits t st.1)(h:Ev t 0 0 st r):D t 0 0 st r:=by
 obtain⟨r',d,_⟩:=(sL (t:=t) (t.size-st.1.1+1) st hf (by omega)).1 0;have:=Ev.one h d.ev;subst this;exact d
def Ak(ns:List AN)(q:Nat)(n:AN):Prop:=
 1<=n.size/\n.size<=61/\n.cM.length<=1000 /\
 (((n.kind=0\/n.kind=1\/n.kind=2\/n.kind=3)/\n.left=0/\n.right=0/\n.size=1) \/
  ((n.kind=4\/n.kind=5)/\∃l r:Nat,l<q/\r<q/\n.left=(l:Int)/\n.right=(r:Int)/\n.size=(if 61<au ns l+au ns r then 61 else au ns l+au ns r)) \/
  (n.kind=6/\∃l:Nat,l<q/\n.left=(l:Int)/\n.right=0/\0<=n.least/\n.least<=9/\-1<=n.most/\n.most<=9/\(n.most = -1\/n.least<=n.most)/\n.size=(if 61<au ns l*aY n.least n.most then 61 else au ns l*aY n.least n.most)))
def dX(ns:List AN):Prop:=∀q n,ns[q]?=some n->Ak ns q n
theorem jU{ns more:List AN}{i:Nat}(h:i<ns.length):au (ns++more) i=au ns i:=by
 unfold au;rw[List.getElem?_append_left h]
theorem Dq(ns:List AN)(n:AN):au (ns++[n]) ns.length=n.size:=by
 unfold au;simp
theorem Ak.app{ns more:List AN}{q:Nat}{n:AN}(h:Ak ns q n)(hq:q<=ns.length):Ak (ns++more) q n:=by
 obtain⟨h1,h2,h3,h4⟩:=h;refine⟨h1,h2,h3,?_⟩;rcases h4 with h4|⟨hk,l,r,a,b,c,d,e⟩|⟨hk,l,a,b,c⟩
 ·exact Or.inl h4
 ·exact Or.inr (Or.inl ⟨hk,l,r,a,b,c,d,by rw[jU (by omega),jU (by omega)];exact e⟩)
 ·exact Or.inr (Or.inr ⟨hk,l,a,b,by rw[jU (by omega)];exact c⟩)
theorem dX.snoc{ns:List AN}{n:AN}(h:dX ns)(hn:Ak ns ns.length n):dX (ns++[n]):=by
 intro q m hm;by_cases hq:q<ns.length
 ·rw[List.getElem?_append_left hq]at hm;exact(h q m hm).app (by omega)
 ·have hl:=(List.getElem?_eq_some_iff.1 hm).1;simp at hl;obtain rfl:q=ns.length:=by omega
  rw[List.getElem?_append_right (Nat.le_refl _),Nat.sub_self]at hm;simp at hm;subst hm;exact hn.app (Nat.le_refl _)
theorem dX.size{ns:List AN}(h:dX ns){i:Nat}(hi:i<ns.length):1<=au ns i/\au ns i<=61:=by
 unfold au;obtain⟨n,hn⟩:∃n,ns[i]?=some n:=⟨_,List.getElem?_eq_getElem hi⟩;rw[hn];exact⟨(h i n hn).1,(h i n hn).2.1⟩
structure Gr (tag cur:Nat)(st:PS)(r:Nat×PS):Prop where
 ok:dX r.2.2
 app:∃more,r.2.2=st.2++more
 top:r.1+1=r.2.2.length
 big:∀i,st.2.length<=i->i<r.2.2.length->au r.2.2 i<=au r.2.2 r.1
 cur:4<=tag->au st.2 cur<=au r.2.2 r.1
theorem vp{tag cur:Nat}{s0:RS}{s:RS}{ns:List AN}(n:AN)(hs:n.size=1)(h:dX ns)(hk:n.kind=0\/n.kind=1\/n.kind=2\/n.kind=3)(h1:n.left=0)(h2:n.right=0)(h3:n.cM.length<=1000)(ht:¬ 4<=tag):
 Gr tag cur (s0,ns) (bL n (s,ns)):=by
 have hc:gL n=n:=by unfold gL;rw[hs];rw[if_neg (by omega)];rw[<-hs]
 refine⟨?_,⟨[gL n],rfl⟩,by simp[bL],fun i hi hl=>?_,fun hc=>absurd hc ht⟩
 ·show dX (ns++[gL n]);rw[hc];exact h.snoc ⟨by omega,by omega,h3,Or.inl ⟨hk,h1,h2,hs⟩⟩
 ·simp[bL]at hl;obtain rfl:i=ns.length:=by simp at hi;omega
  exact Int.le_refl _
theorem Kf{a b:Int}(h:a<=b)(h61:a<=61):a<=(if 61<b then 61 else b):=by split <;> omega
theorem MI{kind:Int}{cur j:Nat}{s:RS}{ns:List AN}(hk:kind=4\/kind=5)(h:dX ns)(hc:cur<ns.length)(hj:j<ns.length):
 dX (bk kind cur j (s,ns)).2.2/\(bk kind cur j (s,ns)).1+1=(bk kind cur j (s,ns)).2.2.length /\
 au ns cur<=au (bk kind cur j (s,ns)).2.2 (bk kind cur j (s,ns)).1/\au ns j<=au (bk kind cur j (s,ns)).2.2 (bk kind cur j (s,ns)).1:=by
 have h1:=h.size hc;have h2:=h.size hj;have e:au (bk kind cur j (s,ns)).2.2 (bk kind cur j (s,ns)).1=(if 61<au ns cur+au ns j then 61 else au ns cur+au ns j):=by
  simp only[bk,bL];rw[Dq];rfl
 refine⟨h.snoc ⟨?_,?_,by show(0:Nat)<=1000;omega,Or.inr (Or.inl ⟨hk,cur,j,hc,hj,rfl,rfl,rfl⟩)⟩,by simp[bk,bL],?_,?_⟩
 ·simp only[gL];split <;> omega
 ·simp only[gL];split <;> omega
 ·rw[e];exact Kf (by omega) (by omega)
 ·rw[e];exact Kf (by omega) (by omega)
theorem Oa(t:ByteArray)(s:RS):(aC t s).1.2 = -1\/(aC t s).1.1<=(aC t s).1.2:=by
 unfold aC;repeat' split
 ·exact Or.inl rfl
 ·exact Or.inl rfl
 ·right;simp
 ·unfold bH;split
  ·right;simp
  ·rename_i h
   simp only[];by_cases hm:(bJ t (aw t s).2).1 = -1
   ·exact Or.inl hm
   ·right;have:¬((bJ t (aw t s).2).1≠-1/\(bJ t (aw t s).2).1<(eg t (aw t s).2).1):=fun hc=>h (Or.inr hc);omega
theorem Oc(a b:Int):1<=aY a b:=by
 unfold aY;repeat' split
 all_goals omega
theorem Yx{a b:Int}(ha:1<=a)(hb:1<=b):a<=a*b:=by
 have:=Int.mul_le_mul_of_nonneg_left hb (by omega:(0:Int)<=a);omega
theorem Rp{cur:Nat}{s:RS}{ns:List AN}{lm:Int×Int}(h:dX ns)(hc:cur<ns.length)(hb:0<=lm.1/\lm.1<=9/\-1<=lm.2/\lm.2<=9)(hle:lm.2 = -1\/lm.1<=lm.2):
 dX (ch cur lm (s,ns)).2.2/\(ch cur lm (s,ns)).1+1=(ch cur lm (s,ns)).2.2.length /\
 au ns cur<=au (ch cur lm (s,ns)).2.2 (ch cur lm (s,ns)).1:=by
 have h1:=h.size hc;have hm:=Yx h1.1 (Oc lm.1 lm.2);have e:au (ch cur lm (s,ns)).2.2 (ch cur lm (s,ns)).1=(if 61<au ns cur*aY lm.1 lm.2 then 61 else au ns cur*aY lm.1 lm.2):=by
  simp only[ch,bL];rw[Dq];rfl
 refine⟨h.snoc ⟨?_,?_,by show(0:Nat)<=1000;omega,Or.inr (Or.inr ⟨rfl,cur,hc,rfl,rfl,hb.1,hb.2.1,hb.2.2.1,hb.2.2.2,hle,rfl⟩)⟩,by simp[ch,bL],?_⟩
 ·simp only[gL];split <;> omega
 ·simp only[gL];split <;> omega
 ·rw[e];exact Kf hm (by omega)
theorem Dr(t:ByteArray):∀(f:Nat) (s:RS) (acc:List (Int×Int)),(gy t f s acc).1.length<=acc.length+f
 | 0,s,acc=>Nat.le_refl _
 | f+1,s,acc=>by
   rw[gy];split
   ·have:=Dr t f (dn t s).2 (acc++[(dn t s).1]);simp at this;omega
   ·exact Nat.le_add_right _ _
theorem Gr.refl{tag cur:Nat}{st:PS}(h:dX st.2)(hc:cur+1=st.2.length):Gr tag cur st (cur,st):=
 ⟨h,⟨[],by simp⟩,hc,fun i h1 h2=>by simp only[]at h2;omega,fun _=>Int.le_refl _⟩
theorem Gr.comp{ta ca tb cb t c:Nat}{st VL:PS}{r1 r:Nat×PS}{extra:List AN}(ga:Gr ta ca st r1)(gb:Gr tb cb VL r)(he:VL.2=r1.2.2++extra)
 (hx:∀i,r1.2.2.length<=i->i<VL.2.length->au VL.2 i<=au VL.2 cb) (hc:au r1.2.2 r1.1<=au VL.2 cb) (Rq:4<=tb) (hcur:4<=t->au st.2 c<=au VL.2 cb):Gr t c st r:=by
 obtain⟨m1,e1⟩:=ga.app;obtain⟨m2,e2⟩:=gb.app;have N2:=gb.cur Rq;refine⟨gb.ok,⟨m1++extra++m2,by rw[e2,he,e1];simp⟩,gb.top,fun i h1 h2=>?_,fun h=>Int.le_trans (hcur h) N2⟩;by_cases hi:i<r1.2.2.length
 ·have h3:=ga.big i h1 hi;have h4:au r.2.2 i=au r1.2.2 i:=by rw[e2,he,List.append_assoc,jU hi]
  rw[h4];exact Int.le_trans h3 (Int.le_trans hc N2)
 ·by_cases hj:i<VL.2.length
  ·have h3:=hx i (by omega) hj;have h4:au r.2.2 i=au VL.2 i:=by rw[e2,jU hj]
   rw[h4];exact Int.le_trans h3 N2
  ·exact gb.big i (by omega) h2
theorem D.gr{t:ByteArray}(ht:t.size<=1000){tag cur:Nat}{st:PS}{r:Nat×PS}(h:D t tag cur st r):dX st.2->(4<=tag->cur+1=st.2.length)->Gr tag cur st r:=by
 induction h with
 | pattern _ _ a b=>
   intro hn _;have g1:=a hn (fun h=>by omega);have g2:=b g1.ok (fun _=>g1.top);exact g1.comp (extra:=[]) g2 (by simp) (fun i h1 h2=>by omega) (Int.le_refl _) (by omega) (fun h=>by omega)
 | empty he=>intro hn _;exact vp _ rfl hn (Or.inl rfl) rfl rfl (Nat.zero_le _) (by omega)
 | branch he _ _ a b=>
   intro hn _;have g1:=a hn (fun h=>by omega);have g2:=b g1.ok (fun _=>g1.top);exact g1.comp (extra:=[]) g2 (by simp) (fun i h1 h2=>by omega) (Int.le_refl _) (by omega) (fun h=>by omega)
 | piece _ _ a b=>
   intro hn _;have g1:=a hn (fun h=>by omega);have g2:=b g1.ok (fun _=>g1.top);exact g1.comp (extra:=[]) g2 (by simp) (fun i h1 h2=>by omega) (Int.le_refl _) (by omega) (fun h=>by omega)
 | group he _ a=>
   intro hn _;have g1:=a hn (fun h=>by omega);exact⟨g1.ok,g1.app,g1.top,g1.big,fun h=>by omega⟩
 | @list cur st he=>
   intro hn _;refine vp _ rfl hn (Or.inr (Or.inl rfl)) rfl rfl ?_ (by omega);have:=Dr t (t.size-(ak t 94 (aw t st.1).2).2.1) (ak t 94 (aw t st.1).2).2 [];show(fe t (ak t 94 (aw t st.1).2).2 []).1.length<=1000;unfold fe;simp only[List.length_nil]at this;omega
 | plain h1 h2=>
   intro hn _;unfold de jR;repeat' split
   all_goals first
    | exact vp _ rfl hn (Or.inr (Or.inl rfl)) rfl rfl (by show(1:Nat)<=1000;omega) (by omega)
    | exact vp _ rfl hn (Or.inr (Or.inr (Or.inl rfl))) rfl rfl (Nat.zero_le _) (by omega)
    | exact vp _ rfl hn (Or.inr (Or.inr (Or.inr rfl))) rfl rfl (Nat.zero_le _) (by omega)
 | @or cur st r1 r he _ _ a b=>
   intro hn hc;have hc:=hc (by omega);have g0:=a hn (fun h=>by omega);have g1:Gr 1 0 st r1:=⟨g0.ok,g0.app,g0.top,g0.big,fun h=>by omega⟩;obtain⟨m1,e1⟩:=g1.app;have hl:st.2.length<=r1.2.2.length:=by rw[e1];simp
   have ht1:=g1.top;obtain⟨j1,j2,j3,j4⟩:=MI (kind:=5) (s:=r1.2.1) (Or.inr rfl) g1.ok (cur:=cur) (j:=r1.1) (by omega) (by omega);have g2:=b j1 (fun _=>j2);refine g1.comp g2 rfl (fun i h1 h2=>?_) j4 (by omega) (fun _=>?_)
   ·simp only[bk,bL,List.length_append,List.length_singleton]at h2;obtain rfl:i=r1.2.2.length:=by omega
    exact Int.le_refl _
   ·have e:au r1.2.2 cur=au st.2 cur:=by rw[e1,jU (by omega)]
    rw[<-e];exact j3
 | oP he=>intro hn hc;exact Gr.refl hn (hc (by omega))
 | @and cur st r1 r he _ _ a b=>
   intro hn hc;have hc:=hc (by omega);have g1:=a hn (fun h=>by omega);obtain⟨m1,e1⟩:=g1.app;have hl:st.2.length<=r1.2.2.length:=by rw[e1];simp
   have ht1:=g1.top;obtain⟨j1,j2,j3,j4⟩:=MI (kind:=4) (s:=r1.2.1) (Or.inl rfl) g1.ok (cur:=cur) (j:=r1.1) (by omega) (by omega);have g2:=b j1 (fun _=>j2);refine g1.comp g2 rfl (fun i h1 h2=>?_) j4 (by omega) (fun _=>?_)
   ·simp only[bk,bL,List.length_append,List.length_singleton]at h2;obtain rfl:i=r1.2.2.length:=by omega
    exact Int.le_refl _
   ·have e:au r1.2.2 cur=au st.2 cur:=by rw[e1,jU (by omega)]
    rw[<-e];exact j3
 | mM he=>intro hn hc;exact Gr.refl hn (hc (by omega))
 | @rep cur st r he _ a=>
   intro hn hc;have hc:=hc (by omega);obtain⟨j1,j2,j3⟩:=Rp (cur:=cur) (s:=(aC t st.1).2) (lm:=(aC t st.1).1) hn (by omega) (sB t st.1) (Oa t st.1);have g2:=a j1 (fun _=>j2);refine(Gr.refl (tag:=6) hn hc).comp g2 rfl (fun i h1 h2=>?_) j3 (by omega) (fun _=>j3);simp only[ch,bL,List.length_append,List.length_singleton]at h2;simp only[]at h1;obtain rfl:i=st.2.length:=by omega
   exact Int.le_refl _
 | gM he=>intro hn hc;exact Gr.refl hn (hc (by omega))
end Go.Proofs.YtgifhgnccmnbiabGreatDoor
