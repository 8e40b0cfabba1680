/- The reader of patterns: one more node: what 'add' makes of the reader's list. -/
import Derived.Test.YtgifhgnccmnbiabGreatG03
import Derived.Test.YtgifhgnccmnbiabGreatG04
set_option linter.unusedVariables false
set_option linter.unusedSimpArgs false
set_option maxHeartbeats 4000000
set_option maxRecDepth 100000
namespace Go.Proofs.YtgifhgnccmnbiabGreat
open Go.RowKit Go.IntWalk
theorem infoNode:(Tryz.prog.info? 114).map (fun i=>(i.zero,i.size,i.bytes)) =
 some (some (.agg #[.int .i64 0,.slice none 0 0,.bool false,.int .i64 0,.int .i64 0,.int .i64 0,.int .i64 0,.int .i64 0]),8,80):=by kernel_rfl
def AN.val (n:AN) (x:IV):Value:=
 .agg #[.int .i64 n.kind,.slice x.1 x.2.1 x.2.2,.bool n.neg,.int .i64 n.left,.int .i64 n.right,.int .i64 n.least,.int .i64 n.most,.int .i64 n.size]
theorem cells_new (w0:World) (cs:Array Value) (e:TypeId) (k:Nat) (hk:k=w0.heap.size):
 ∀j u,cs.toList[j]?=some u→(w0.alloc (.cells cs e)).cell? ((⟨k,0,none⟩:Addr).add j)=some u:=by
 intro j u hu
 subst hk
 rw [show (⟨w0.heap.size,0,none⟩:Addr).add j=⟨w0.heap.size,j,none⟩ by unfold Addr.add;split <;> simp_all,(Blk.new w0 cs e).cell]
 simpa using hu
theorem own_form {w:World} {base:Nat} {e:TypeId} {size:Nat} {v:Value} {n:Nat} {xs:List Value} (h:w.ownsRow base e size v n xs) (hn:0<n):
 ∃g cap,v=.slice (some ⟨g,0,none⟩) n cap:=by
 rcases h.2 with ⟨_,h⟩ | ⟨g,cap,_,h,_⟩
 · omega
 · exact ⟨g,cap,h⟩
theorem sized_snoc {ns:List AN} {n:AN} (h:Sized ns) (hn:0≤n.size):Sized (ns++[capN n]):=sized_add (n:=n) (st:=((0,false),ns)) h hn
theorem add_fin {b:Nat} {t:ByteArray} {s:RS} {ns:List AN} {v:Value} {xs:List IV} {n:AN} {x:IV} {w w1:World} (h:NV w b t s ns v xs) (hx:ItemsOk w (b+1) x n.its) (hn:0≤n.size)
 (o1 o2:Obj) (g cap:Nat) (news:List Value) (hnews:news=(capN n).cells x)
 (hown:w1.ownsRow (b+1) 114 8 (.slice (some ⟨g,0,none⟩) (ns.length+1) cap) (ns.length+1) (nodesCells ns xs++news))
 (hgrow:((w.alloc o1).alloc o2).drew.grownBy w1 v.ownBlock):
 RD w1 b t s v∧NS (w1.setCell ⟨b,2,none⟩ (.slice (some ⟨g,0,none⟩) (ns.length+1) cap)) b t (s,ns++[capN n])∧Below b w (w1.setCell ⟨b,2,none⟩ (.slice (some ⟨g,0,none⟩) (ns.length+1) cap)):=by
 subst hnews
 have hb:=h.rd.blk.lt
 have hvb:some b≠v.ownBlock:=fun hc=>by have:=own_ge h.row hc.symm;omega
 have bl:∀k,k<w.heap.size→some k≠v.ownBlock→w1.heap[k]?=w.heap[k]?:=fun k hk hne=>by
  rw [hgrow.block k (by show k<((w.alloc o1).alloc o2).heap.size;simp;omega) hne]
  show ((w.alloc o1).alloc o2).heap[k]?=_
  rw [Below.heap_alloc _ _ _ (by simp;omega),Below.heap_alloc _ _ _ hk]
 have e2:((w.alloc o1).alloc o2).drew.heap.size=w.heap.size+1+1:=by
  show ((w.alloc o1).alloc o2).heap.size=_
  simp
 have gsz:w.heap.size≤w1.heap.size:=by have:=hgrow.size;omega
 have gw:w.grownBy w1 v.ownBlock:=⟨hgrow.os,hgrow.tape,hgrow.output,gsz,bl⟩
 have r1:RD w1 b t s v:=⟨(bl b hb hvb).trans h.rd.blk,h.rd.fits,h.rd.small⟩
 have gb:∀u,w1.grownBy (w1.setCell ⟨b,2,none⟩ u) (some b):=fun u=>⟨rfl,rfl,rfl,by simp [World.setCell],fun k hk hne=>Below.heap_setCell _ _ _ _ (by rintro rfl;exact hne rfl)⟩
 have keepRow:∀{e z m:Nat} {y:Value} {ys:List Value} (u:Value),w1.ownsRow (b+1) e z y m ys→(w1.setCell ⟨b,2,none⟩ u).ownsRow (b+1) e z y m ys:=fun {e z m y ys} u hy=>by
  refine hy.kept (gb u) ?_
  cases hv:y.ownBlock with
  | none=>exact Or.inl rfl
  | some g=>refine Or.inr ?_;have:=own_ge hy hv;simp;omega
 have items1:∀(y:IV) (its:List (Int×Int)),ItemsOk w (b+1) y its→ItemsOk w1 (b+1) y its:=fun y its hy=>
  World.ownsRow.kept hy gw (own_ne hy h.row (by decide))
 refine ⟨r1,⟨.slice (some ⟨g,0,none⟩) (ns.length+1) cap,xs++[x],?_,?_,?_,?_,?_⟩,?_⟩
 · exact ⟨Blk.set r1.blk 2 _,h.rd.fits,h.rd.small⟩
 · rw [nodesCells_snoc ns xs (capN n) x h.len,List.length_append]
   exact keepRow _ hown
 · simp [h.len]
 · intro i m y hm hy
   by_cases hi:i<ns.length
   · rw [List.getElem?_append_left hi] at hm
     rw [List.getElem?_append_left (by rw [h.len];exact hi)] at hy
     exact keepRow _ (items1 y m.its (h.items i m y hm hy))
   · have hi2:i=ns.length:=by
      have:=(List.getElem?_eq_some_iff.1 hm).1
      simp at this;omega
     subst hi2
     rw [List.getElem?_append_right (Nat.le_refl _),Nat.sub_self] at hm
     rw [List.getElem?_append_right (by rw [h.len];exact Nat.le_refl _),h.len,Nat.sub_self] at hy
     simp at hm hy
     subst hm hy
     exact keepRow _ (items1 x n.its hx)
 · exact sized_snoc h.sized hn
 · have hbel:Below b w w1:=⟨gw.os,gw.tape,gw.output,gw.size,fun k hk=>bl k (by omega) (fun hc=>by have:=own_ge h.row hc.symm;omega)⟩
   exact hbel.setCell (Nat.le_refl _) _
theorem add_any (b:Nat) (t:ByteArray) (s:RS) (ns:List AN) (v:Value) (xs:List IV) (n:AN) (x:IV) (w:World) (h:NV w b t s ns v xs) (hl:ns.length≤1000)
 (hx:ItemsOk w (b+1) x n.its) (hn:0≤n.size) (hn':n.size≤1000):
 Calls Tryz.prog 104 #[.pointer (some ⟨b,0,none⟩),n.val x] w fun e w'=>e=.returned (.int .i64 ((addS n (s,ns)).1:Int))∧NS w' b t (addS n (s,ns)).2∧Below b w w':=by
 obtain ⟨i0,hi0,hz0,hz1,hz2⟩:=info_parts infoNode
 obtain ⟨ao,il,ic⟩:=x
 obtain ⟨kind,its,neg,left,right,least,most,size⟩:=n
 have hbw:=h.rd.blk.lt
 have h2:=h.rd.c2
 have f2:=h.rd.f 2
 unfold AN.val
 by_cases hc:61<size
 · go_enter Tryz.func104,Tryz.ntmps104
   go_wp2_with fail
   have ow:∀o1 o2,((w.alloc o1).alloc o2).ownsRow (b+1) 114 8 v ns.length (nodesCells ns xs):=fun o1 o2=>(h.row.alloc o1).alloc o2
   have mb:ns.length+1≤maxLen:=by unfold maxLen;omega
   have hsz:∀o1 o2,b+1≤((w.alloc o1).alloc o2).heap.size:=fun o1 o2=>by simp;omega
   go_region_law (refine step_append_owned rfl (.tmp 13) (.tmp 15) 52 rfl 114 i0 _ 8 80 Tryz.underlying52 hi0 hz0 hz1 hz2 rfl (by decide) (b+1) v ns.length (nodesCells ns xs) (by simp [Act.eval,Act.put]) (by exact ow _ _) ⟨w.heap.size+1,0,none⟩ 1 1 [.int .i64 kind,.slice ao il ic,.bool neg,.int .i64 left,.int .i64 right,.int .i64 least,.int .i64 most,.int .i64 61] (by simp [Act.eval,Act.put]) rfl (by exact cells_new _ _ _ _ (by simp)) (by simp [Value.oneCell']) mb (by omega) (by exact hsz _ _) ?_;intro v' w1 hown hgrow;obtain ⟨g,cap,rfl⟩:=own_form hown (by omega);obtain ⟨r1,r2,r3⟩:=add_fin (n:=⟨kind,its,neg,left,right,least,most,size⟩) h hx hn _ _ g cap _ (by simp [AN.cells,capN,hc]) hown hgrow;have c2:=r1.c2;have g2:=r1.f 2)
   all_goals
    go_wp2
    go_ret
    exact ⟨ret_int (by simp only [addS];first | done | omega),r2,r3⟩
 · have ecap:Hid ((if 61<size then (61:Int) else size)=size):=if_neg hc
   go_enter Tryz.func104,Tryz.ntmps104
   go_wp2_with fail
   have ow:∀o1 o2,((w.alloc o1).alloc o2).ownsRow (b+1) 114 8 v ns.length (nodesCells ns xs):=fun o1 o2=>(h.row.alloc o1).alloc o2
   have mb:ns.length+1≤maxLen:=by unfold maxLen;omega
   have hsz:∀o1 o2,b+1≤((w.alloc o1).alloc o2).heap.size:=fun o1 o2=>by simp;omega
   go_region_law (refine step_append_owned rfl (.tmp 13) (.tmp 15) 52 rfl 114 i0 _ 8 80 Tryz.underlying52 hi0 hz0 hz1 hz2 rfl (by decide) (b+1) v ns.length (nodesCells ns xs) (by simp [Act.eval,Act.put]) (by exact ow _ _) ⟨w.heap.size+1,0,none⟩ 1 1 [.int .i64 kind,.slice ao il ic,.bool neg,.int .i64 left,.int .i64 right,.int .i64 least,.int .i64 most,.int .i64 size] (by simp [Act.eval,Act.put]) rfl (by exact cells_new _ _ _ _ (by simp)) (by simp [Value.oneCell']) mb (by omega) (by exact hsz _ _) ?_;intro v' w1 hown hgrow;obtain ⟨g,cap,rfl⟩:=own_form hown (by omega);obtain ⟨r1,r2,r3⟩:=add_fin (n:=⟨kind,its,neg,left,right,least,most,size⟩) h hx hn _ _ g cap _ (by simp [AN.cells,capN,ecap.out]) hown hgrow;have c2:=r1.c2;have g2:=r1.f 2)
   all_goals
    go_wp2
    go_ret
    exact ⟨ret_int (by simp only [addS];first | done | omega),r2,r3⟩
structure IP (w0 w:World) (b:Nat) (t:ByteArray) (F0 F:Nat→Prop) (st:RP) (adrs:List Nat) (cur:List Nat) (X:Nat) (kv:IV) (kind:Int):Prop where
 rm:RM w b t st.1 st.2 adrs F
 sub:∀k,F0 k→F k
 new:∀k,F k→F0 k∨w0.heap.size≤k
 blk:Blk w X #[.int .i64 kind,.slice none 0 0,.bool false,.slice kv.1 kv.2.1 kv.2.2,.int .i64 0,.int .i64 0] 164
 row:w.ownsRow w0.heap.size 81 1 (ivV kv) cur.length (cur.map (ptrTo adrs))
 hX:w0.heap.size≤X∧¬F X
 hkv:∀g,(ivV kv).ownBlock=some g→¬F g
 kept:Kept [b] w0 w
 curOk:∀k,k∈cur→k<st.2.length
section
variable {w0 w w2:World} {b X:Nat} {t:ByteArray} {F0 F:Nat→Prop} {st:RP} {adrs cur:List Nat} {kv:IV} {kind:Int} {s':RS}
theorem IP.start {s:RS} {ps:List PN} (h:RM w b t s ps adrs F) (k:Nat) (hk:k=w.heap.size) (kind:Int):
 IP w (w.alloc (.cells #[.int .i64 kind,.slice none 0 0,.bool false,.slice none 0 0,.int .i64 0,.int .i64 0] 164)) b t F F (s,ps) adrs [] k (none,0,0) kind:=by
 subst hk
 have kk:Kept [b] w (w.alloc (.cells #[.int .i64 kind,.slice none 0 0,.bool false,.slice none 0 0,.int .i64 0,.int .i64 0] 164)):=(Kept.refl _ _).alloc _
 exact ⟨h.scan (h.rr.kept ((Kept.refl [] w).alloc _) (by simp)) kk,fun k hk=>hk,fun k hk=>Or.inl hk,Blk.new _ _ _,World.ownsRow_nil _ _ _ _,⟨Nat.le_refl _,fun hf=>by have:=(h.old _ hf).1;omega⟩,fun g hg=>(by cases hg),kk,fun k hk=>(by cases hk)⟩
theorem IP.lt (h:IP w0 w b t F0 F st adrs cur X kv kind):X<w.heap.size:=h.blk.lt
theorem IP.ne (h:IP w0 w b t F0 F st adrs cur X kv kind) (hb:b<w0.heap.size):X≠b:=by have:=h.hX.1;omega
theorem row_keep {S:List Nat} {base e z n:Nat} {v:Value} {xs:List Value} (h:w.ownsRow base e z v n xs) (k:Kept S w w2) (hg:∀g,v.ownBlock=some g→¬g∈S):w2.ownsRow base e z v n xs:=by
 refine ⟨h.1,?_⟩
 rcases h.2 with h1 | ⟨g,cap,cur,h1,h2,h3,r⟩
 · exact Or.inl h1
 · exact Or.inr ⟨g,cap,cur,h1,h2,(k.block g (Array.getElem?_eq_some_iff.1 h3).1 (hg g (by rw [h1];rfl))).trans h3,r⟩
theorem IP.scan (h:IP w0 w b t F0 F st adrs cur X kv kind) (hb:b<w0.heap.size) (r:RR w2 b t s') (k:Kept [b] w w2):IP w0 w2 b t F0 F (s',st.2) adrs cur X kv kind:=
 ⟨h.rm.scan r k,h.sub,h.new,h.blk.kept k (by simpa using h.ne hb),row_keep h.row k (fun g hg=>by have:=(h.row.lt g hg).1;simp;omega),h.hX,h.hkv,h.kept.trans k,h.curOk⟩
theorem IP.call (h:IP w0 w b t F0 F st adrs cur X kv kind) (hb:b<w0.heap.size) {r:Nat×RP} {pv:Value} (m:RMem w w2 b t adrs F r pv) (hgrow:st.2.length≤r.2.2.length):
 ∃more F',IP w0 w2 b t F0 F' r.2 (adrs++more) cur X kv kind∧pv=ptrTo (adrs++more) r.1∧r.1<r.2.2.length:=by
 obtain ⟨⟨more,F',h1,h2,h3,h4⟩,h5,h6⟩:=m
 refine ⟨more,F',⟨h1,fun k hk=>h2 k (h.sub k hk),fun k hk=>?_,h.blk.kept h5 (by simpa using h.ne hb),?_,⟨h.hX.1,fun hf=>?_⟩,fun g hg hf=>?_,h.kept.trans h5,fun k hk=>Nat.lt_of_lt_of_le (h.curOk k hk) hgrow⟩,h4,h6⟩
 · rcases h3 k hk with h7 | h7
   · exact h.new k h7
   · exact Or.inr (Nat.le_trans h.kept.size h7)
 · have e:cur.map (ptrTo (adrs++more))=cur.map (ptrTo adrs):=by
    apply List.map_congr_left
    intro k hk
    unfold ptrTo
    rw [getD_app (by rw [h.rm.len];exact h.curOk k hk)]
   rw [e]
   exact row_keep h.row h5 (fun g hg=>by have:=(h.row.lt g hg).1;simp;omega)
 · rcases h3 X hf with h7 | h7
   · exact h.hX.2 h7
   · have:=h.lt;omega
 · rcases h3 g hf with h7 | h7
   · exact h.hkv g hg h7
   · have:=(h.row.lt g hg).2;omega
theorem IP.app (h:IP w0 w b t F0 F st adrs cur X kv kind) (hb:b<w0.heap.size) (o:Obj) (k:Nat) (hk:k<st.2.length) (v':Value) {w3:World}
 (hown:w3.ownsRow w0.heap.size 81 1 v' (cur.length+1) (cur.map (ptrTo adrs)++[ptrTo adrs k])) (hgrow:(w.alloc o).grownBy w3 (ivV kv).ownBlock)
 (hpl:v'.ownBlock=(ivV kv).ownBlock∨∀g,v'.ownBlock=some g→(w.alloc o).heap.size≤g):
 ∃kv':IV,v'=.slice kv'.1 kv'.2.1 kv'.2.2∧(∃y,kv'.1=some y)∧Blk w3 X #[.int .i64 kind,.slice none 0 0,.bool false,.slice kv.1 kv.2.1 kv.2.2,.int .i64 0,.int .i64 0] 164 ∧
  IP w0 (w3.setCell ⟨X,3,none⟩ (.slice kv'.1 kv'.2.1 kv'.2.2)) b t F0 F st adrs (cur++[k]) X kv' kind:=by
 obtain ⟨g,cap,rfl⟩:=own_form hown (by omega)
 have hbX:=h.ne hb
 have hXlt:=h.lt
 have hrow:=h.row
 have hge:∀g,(ivV kv).ownBlock=some g→w0.heap.size≤g∧g<w.heap.size:=fun g hg=>hrow.lt g hg
 have hXne:∀g,(ivV kv).ownBlock=some g→g≠X:=fun g hg hc=>by
  subst hc
  rcases hrow.2 with ⟨h1,_⟩ | ⟨g',cap',cu,h1,_,h3,_⟩
  · rw [h1] at hg;cases hg
  · rw [h1] at hg
    simp only [Value.ownBlock,Option.some.injEq] at hg
    subst hg
    have h5:=h.blk
    unfold Blk at h5
    rw [h3] at h5
    simp at h5
 have bl:∀i,i<w.heap.size→some i≠(ivV kv).ownBlock→w3.heap[i]?=w.heap[i]?:=fun i hi hne=>by
  rw [hgrow.block i (by simp;omega) hne,Below.heap_alloc _ _ _ hi]
 have hs3:w.heap.size≤w3.heap.size:=by have:=hgrow.size;simp at this;omega
 have blkX:Blk w3 X #[.int .i64 kind,.slice none 0 0,.bool false,.slice kv.1 kv.2.1 kv.2.2,.int .i64 0,.int .i64 0] 164:=(bl X hXlt (fun hc=>hXne X hc.symm rfl)).trans h.blk
 have rr3:RR w3 b t st.1:=⟨(bl b h.rm.rr.blk.lt (fun hc=>by have:=(hge b hc.symm).1;omega)).trans h.rm.rr.blk,h.rm.rr.fits,h.rm.rr.small⟩
 have hgX:g≠X:=fun hc=>by
  subst hc
  rcases hown.2 with ⟨h1,_⟩ | ⟨g',cap',cu,h1,_,h3,_⟩
  · cases h1
  · simp only [Value.slice.injEq,Option.some.injEq,Addr.mk.injEq] at h1
    obtain ⟨⟨h1,_⟩,_⟩:=h1
    subst h1
    have h5:=blkX
    unfold Blk at h5
    rw [h3] at h5
    simp at h5
 have hgF:¬F g:=fun hf=>by
  rcases hpl with hpl | hpl
  · exact h.hkv g (by rw [←hpl];rfl) hf
  · have:=hpl g rfl
    have:=(h.rm.old g hf).1
    simp at *
    omega
 refine ⟨(some ⟨g,0,none⟩,cur.length+1,cap),rfl,⟨_,rfl⟩,blkX,?_⟩
 refine ⟨?_,h.sub,h.new,blkX.set 3 _,?_,h.hX,fun g' hg' hf=>?_,?_,fun i hi=>?_⟩
 · refine h.rm.frame (fun i hi=>?_) ⟨Blk.other rr3.blk _ _ (Ne.symm hbX),rr3.fits,rr3.small⟩ (by simpa [World.setCell] using hs3)
   rw [Below.heap_setCell _ _ _ _ (by rintro rfl;exact h.hX.2 hi)]
   exact bl i (h.rm.old i hi).1 (fun hc=>h.hkv i hc.symm hi)
 · have h1:(w3.setCell ⟨X,3,none⟩ (.slice (some ⟨g,0,none⟩) (cur.length+1) cap)).ownsRow w0.heap.size 81 1 (.slice (some ⟨g,0,none⟩) (cur.length+1) cap) (cur.length+1) (cur.map (ptrTo adrs)++[ptrTo adrs k]):=
    row_keep (S:=[X]) hown ((Kept.refl _ _).setCell (by simp) _) (fun g' hg'=>by simp [Value.ownBlock] at hg';subst hg';simpa using hgX)
   rw [List.map_append,List.length_append]
   exact h1
 · simp [ivV,Value.ownBlock] at hg';subst hg';exact hgF hf
 · refine Kept.setCell ?_ (Or.inr h.hX.1) _
   refine ⟨hgrow.os.trans h.kept.os,hgrow.tape.trans h.kept.tape,hgrow.output.trans h.kept.output,Nat.le_trans h.kept.size hs3,fun i hi hs=>?_⟩
   rw [bl i (Nat.lt_of_lt_of_le hi h.kept.size) (fun hc=>by have:=(hge i hc.symm).1;omega)]
   exact h.kept.block i hi hs
 · rcases List.mem_append.1 hi with hi | hi
   · exact h.curOk i hi
   · simp at hi;subst hi;exact hk
theorem IP.fin {adrs0 more:List Nat} (h:IP w0 w b t F0 F st (adrs0++more) cur X kv kind) (hb:b<w0.heap.size) (hkind:3<kind):
 RMem w0 w b t adrs0 F0 (pushP { kind:=kind,kids:=cur } st) (.pointer (some ⟨X,0,none⟩)):=by
 have hX:=h.hX.1
 refine ⟨⟨more++[X],fun x=>F x∨x=X∨(ivV kv).ownBlock=some x,?_,fun x hx=>Or.inl (h.sub x hx),fun x hx=>?_,?_⟩,h.kept,by simp [pushP]⟩
 · rw [←List.append_assoc]
   refine RM.push h.rm (fun x hx=>Or.inl hx) (fun x hx=>?_) h.curOk (iv:=(none,0,0)) (kv:=kv) ⟨h.blk,Or.inr (Or.inl rfl),Or.inr ⟨hkind,rfl⟩,own_base h.row (Nat.zero_le _),fun g hg=>Or.inr (Or.inr hg)⟩
   rcases hx with hx | rfl | hx
   · exact h.rm.old x hx
   · exact ⟨h.lt,by omega⟩
   · have:=h.row.lt x hx;exact ⟨this.2,by omega⟩
 · rcases hx with hx | rfl | hx
   · exact h.new x hx
   · exact Or.inr hX
   · exact Or.inr (h.row.lt x hx).1
 · have e:((adrs0++(more++[X])).getD st.2.length 0)=X:=by
    rw [←List.append_assoc,←h.rm.len];simp [List.getD]
   simp only [pushP,ptrTo,e]
end
theorem infoPtr:(Tryz.prog.info? 81).map (fun i=>(i.zero,i.size,i.bytes))=some (some (.pointer none),1,8):=by kernel_rfl
theorem stands2c (b:Nat) (t:ByteArray) (s:RS) (w:World) (h:RR w b t s):
 Calls Tryz.prog 73 #[.pointer (some ⟨b,0,none⟩),.string ⟨#[124,41]⟩] w fun e w'=>e=.returned (.bool (stB t s [124,41]))∧RR w' b t s∧Kept [b] w w':=stands_any b t s _ w h (by decide)
theorem RMem.grow {w w':World} {b:Nat} {t:ByteArray} {adrs:List Nat} {F:Nat→Prop} {r:Nat×RP} {pv:Value} (h:RMem w w' b t adrs F r pv) {n:Nat} (hn:adrs.length=n):n≤r.2.2.length:=by
 obtain ⟨⟨more,F',h1,_⟩,_⟩:=h
 rw [←h1.len,←hn]
 simp
theorem moreR_true {t:ByteArray} {s:RS} (h:moreR t s=true):s.1<t.size:=by
 simp only [moreR,Bool.and_eq_true,decide_eq_true_eq] at h
 exact h.1.2
set_option maxHeartbeats 8000000 in
theorem rchoice_step (t:ByteArray) (m:Nat) (H:RChC t m):RChC t (m+1):=by
 intro b s ps adrs F w hpm h
 obtain ⟨i0,hi0,hz0,hz1,hz2⟩:=info_parts infoPtr
 have hbw:b<w.heap.size:=h.rr.blk.lt
 have hsm:Hid (t.size≤40):=h.rr.small
 have hI0:=IP.start h w.heap.size rfl 5
 obtain ⟨X,hX⟩:∃X,X=w.heap.size:=⟨_,rfl⟩
 rw [←hX] at hI0
 have hXH:Hid (_=_):=hX
 clear hX
 go_enter Tryz.func39,Tryz.ntmps39
 go_wp2_with fail
 rw [←hXH.out]
 go_loopw [7] (fun _ wr=>∃st' adrs' F' cur kv,IP w wr b t F F' st' adrs' cur X kv 5∧(∃more,adrs'=adrs++more)∧(∀r',EvR t 0 cur st' r'→EvR t 0 [] (s,ps) r')∧s.1≤st'.1.1∧cur.length≤st'.1.1) (fun _ wr=>restW wr b)
 case atStart=>exact ⟨(s,ps),adrs,F,[],(none,0,0),hI0,⟨[],by simp⟩,fun r' e=>e,Nat.le_refl _,Nat.zero_le _⟩
 case round=>
  obtain ⟨st',adrs',F',cur,⟨ko,kl,kc⟩,hI,⟨more,hmore⟩,ev,hge,hcl⟩:=hrel
  have evH:Hid (∀r',_):=ev
  have hmoreH:Hid (_=_):=hmore
  clear ev hmore hI0
  obtain ⟨wo,rfl⟩:∃wo:World,wo=wr:=⟨_,rfl⟩
  have hrw:Hid (_=_):=restW_eq hI.rm.rr
  have hbo:b<wo.heap.size:=hI.rm.rr.blk.lt
  have hB0:=IP.start hI.rm wo.heap.size rfl 4
  obtain ⟨B,hB⟩:∃B,B=wo.heap.size:=⟨_,rfl⟩
  rw [←hB] at hB0
  have hBH:Hid (_=_):=hB
  clear hB
  go_wp2_with fail
  rw [←hBH.out]
  refine (stands2c b t _ _ hB0.rm.rr).mono ?_
  rintro e2 w2 ⟨rfl,r2,k2⟩
  have hB2:=hB0.scan hbo r2 k2
  clear hB0 r2 k2
  go_wp2_with fail
  go_loopw [5] (fun en wr=>∃st2 adrs2 F2 cur2 kv2,en=.bool (stB t st2.1 [124,41])∧IP wo wr b t F' F2 st2 adrs2 cur2 B kv2 4∧(∃more,adrs2=adrs'++more)∧(∀r',EvR t 1 cur2 st2 r'→EvR t 1 [] st' r')∧st'.1.1≤st2.1.1∧cur2.length≤st2.1.1) (fun _ wr=>restW wr b)
  case atStart=>exact ⟨st',adrs',F',[],(none,0,0),rfl,hB2,⟨[],by simp⟩,fun r' e=>e,Nat.le_refl _,Nat.zero_le _⟩
  case round=>
   obtain ⟨st2,adrs2,F2,cur2,⟨jo,jl,jc⟩,rfl,hP,⟨more2,hmore2⟩,ev2,hge2,hcl2⟩:=hrel
   have ev2H:Hid (∀r',_):=ev2
   have hmore2H:Hid (_=_):=hmore2
   clear ev2 hmore2 hB2
   have hrw2:Hid (_=_):=restW_eq hP.rm.rr
   have c0:=hP.rm.rr.c0
   have c1:=hP.rm.rr.c1
   go_upto_region 4 with fail
   go_cut [5,30] (fun s5 s30 wx=>s5=.bool (stB t st2.1 [124,41])∧s30=.bool (moreR t st2.1)∧wx=wr)
   case first=>
    cases he:stB t st2.1 [124,41] with
    | true=>
      have e:Hid (moreR t st2.1=false):=by show moreR t st2.1=false;unfold moreR;rw [he];rfl
      go_wp2
      go_meet
      exact ⟨by rw [he],by rw [e.out],rfl⟩
    | false=>
      by_cases hp:st2.1.1<t.size
      · have hl:(0:Int)<((sfx t st2.1.1).size:Int):=by rw [sfx_size];omega
        have hd:decide (st2.1.1<t.size)=true:=by simpa using hp
        have e:Hid (moreR t st2.1 = !st2.1.2):=by show moreR t st2.1 = !st2.1.2;unfold moreR;rw [he,hd];rfl
        clear hd
        go_wp2
        go_meet
        exact ⟨by rw [he],by rw [e.out],rfl⟩
      · have hl:¬(0:Int)<((sfx t st2.1.1).size:Int):=by rw [sfx_size];omega
        have hd:decide (st2.1.1<t.size)=false:=by simpa using hp
        have e:Hid (moreR t st2.1=false):=by show moreR t st2.1=false;unfold moreR;rw [he,hd];rfl
        clear hd
        go_wp2
        go_meet
        exact ⟨by rw [he],by rw [e.out],rfl⟩
   case rest=>
    obtain ⟨rfl,rfl,rfl⟩:=hcut
    have hfit2:=hP.rm.rr.fits
    simp only [Fits] at hfit2
    have hBne:B≠b:=hP.ne hbo
    -- what the branch comes to,if it ends here
    have hP':=hP
    rw [hmore2H.out] at hP'
    have mB:=hP'.fin hbo (by decide)
    obtain ⟨more3,F3,hI3,hpv,hidx⟩:=hI.call hbw mB (mB.grow hI.rm.len)
    clear hP'
    have x3:=hI3.blk.cell 3
    have xf:=hI3.blk.frozen 3
    have hpvH:Hid (_=_):=hpv
    clear hpv mB
    go_wp2_with (at_builtin;refine wpList_append_placed rfl (.tmp 49) (.tmp 51) 162 rfl w.heap.size 81 i0 _ 1 8 Tryz.underlying162 hi0 hz0 hz1 hz2 rfl (by decide) (ivV (ko,kl,kc)) cur.length (cur.map (ptrTo (adrs'++more3))) rfl ?own ⟨wc.heap.size,0,none⟩ 1 1 [.pointer (some ⟨B,0,none⟩)] rfl rfl ?n1 ?n2 ?b1 ?b2 ?b3 ?kk)
    · have hmo:moreR t st2.1=true:=by assumption
      have hlt:=moreR_true hmo
      have hpc:Hid (Calls _ _ _ _ _):=rpiece_any m b t st2.1 st2.2 adrs2 F2 _ H hP.rm hlt (by omega)
      refine hpc.out.mono ?_
      clear hpc
      rintro e4 w4 ⟨r4,pv4,rfl,ev4,m4,hlt4⟩
      obtain ⟨more4,F4,hP4,hpv4,hidx4⟩:=hP.call hbo m4 (m4.grow hP.rm.len)
      obtain ⟨x4,hx4⟩:=m4.ptr
      subst hx4
      have z3:=hP4.blk.cell 3
      have zf:=hP4.blk.frozen 3
      have hpv4H:Hid (_=_):=hpv4
      clear hpv4 hpvH hI3 x3 xf m4 c0 c1
      go_wp2_with (at_builtin;refine wpList_append_placed rfl (.tmp 37) (.tmp 39) 162 rfl wo.heap.size 81 i0 _ 1 8 Tryz.underlying162 hi0 hz0 hz1 hz2 rfl (by decide) (ivV (jo,jl,jc)) cur2.length (cur2.map (ptrTo (adrs2++more4))) rfl ?pown ⟨w4.heap.size,0,none⟩ 1 1 [.pointer (some ⟨x4,0,none⟩)] rfl rfl ?pn1 ?pn2 ?pb1 ?pb2 ?pb3 ?pkk)
      case pown=>exact hP4.row.alloc _
      case pn1=>exact cells_new _ _ _ _ rfl
      case pn2=>simp [Value.oneCell']
      case pb1=>unfold maxLen;have:=hsm.out;omega
      case pb2=>have:=hsm.out;omega
      case pb3=>have:=hP4.kept.size;simp;omega
      case pkk=>
       intro v' w5 hown hgrow hpl
       rw [hpv4H.out] at hown
       obtain ⟨⟨qo,ql,qc⟩,rfl,⟨y,hy⟩,hbX,hP5⟩:=hP4.app hbo _ _ hidx4 v' hown hgrow (hpl.imp id (fun hx g hg=>by have:=hx g hg;simpa using this))
       simp only [] at hy
       subst hy
       have y3:=hbX.cell 3
       have yf:=hbX.frozen 3
       have hrr5:RR (w5.setCell ⟨B,3,none⟩ (.slice (some y) ql qc)) b t r4.2.1:=hP5.rm.rr
       have ev5:Hid (∀r',EvR t 1 (cur2++[r4.1]) r4.2 r'→EvR t 1 [] st' r'):=fun r' e=>ev2H.out r' (EvR.branchOn hmo ev4 e)
       go_wp2_with fail
       refine (stands2c b t _ _ hrr5).mono ?_
       rintro e6 w6 ⟨rfl,r6,k6⟩
       have hP6:=hP5.scan hbo r6 k6
       have hrw6:Hid (_=_):=restW_eq r6
       have hfit6:=r6.fits
       simp only [Fits] at hfit6
       go_wp2
       refine ⟨⟨_,_,_,_,_,rfl,hP6,⟨more2++more4,by rw [hmore2H.out,List.append_assoc]⟩,ev5.out,?_,?_⟩,?_⟩
       · show st'.1.1≤r4.2.1.1;omega
       · show (cur2++[_]).length≤r4.2.1.1
         simp;omega
       · rw [hrw6.out,hrw2.out];omega
    case own=>exact hI3.row.alloc _
    case n2=>simp [Value.oneCell']
    case b1=>unfold maxLen;have:=hsm.out;omega
    case b2=>have:=hsm.out;omega
    case b3=>have:=hI3.kept.size;simp;omega
    case kk=>
     have hmo:moreR t st2.1=false:=by assumption
     intro v' w5 hown hgrow hpl
     rw [hpvH.out] at hown
     obtain ⟨⟨qo,ql,qc⟩,rfl,⟨y,hy⟩,hbX,hI5⟩:=hI3.app hbw _ _ hidx v' hown hgrow (hpl.imp id (fun hx g hg=>by have:=hx g hg;simpa using this))
     simp only [] at hy
     subst hy
     have y3:=hbX.cell 3
     have yf:=hbX.frozen 3
     have evB:EvR t 1 [] st' (pushP { kind:=4,kids:=cur2 } st2):=ev2H.out _ (EvR.branchEnd hmo)
     have hpB:(pushP { kind:=4,kids:=cur2 } st2).2.1=st2.1:=rfl
     have hrrB:RR (w5.setCell ⟨X,3,none⟩ (.slice (some y) ql qc)) b t st2.1:=hI5.rm.rr
     clear hpB
     go_wp2_with fail
     refine (rnext_any b 124 t _ _ hrrB (by omega) (by omega)).mono ?_
     rintro e6 w6 ⟨rfl,r6,k6⟩
     have hI6:=hI5.scan hbw r6 k6
     have d1:=r6.c1
     have hfit6:=r6.fits
     simp only [Fits] at hfit6
     have hend:((takeS t 124 st2.1).1=false∨(takeS t 124 st2.1).2.2=true)→Hid (∃(r:Nat×RP) (pv:Value),Value.pointer (some ⟨X,0,none⟩)=pv∧EvR t 0 [] (s,ps) r∧RMem w w6 b t adrs F r pv∧s.1≤r.2.1.1):=by
      intro hor
      have ev0:=evH.out _ (EvR.choiceEnd (cur:=cur) evB hor)
      have hI7:=hI6
      rw [hmoreH.out,List.append_assoc] at hI7
      exact ⟨_,_,rfl,ev0,hI7.fin hbw (by decide),by
       show s.1≤(takeS t 124 st2.1).2.1
       exact Nat.le_trans (Nat.le_trans hge hge2) take_ge⟩
     cases hm:(takeS t 124 st2.1).1 with
     | false=>
       have hx:=hend (Or.inl hm)
       clear hend
       go_wp2
       go_ret
       obtain ⟨r,pv,h1,h2⟩:=hx.out
       exact ⟨r,pv,congrArg Ending.returned h1,h2⟩
     | true=>
       cases hb6:(takeS t 124 st2.1).2.2 with
       | true=>
         have hx:=hend (Or.inr hb6)
         rw [hb6] at d1
         clear hend
         go_wp2
         go_ret
         obtain ⟨r,pv,h1,h2⟩:=hx.out
         exact ⟨r,pv,congrArg Ending.returned h1,h2⟩
       | false=>
         have hgt:=take_gt hm
         have ev7:Hid (∀r',EvR t 0 (cur++[(pushP { kind:=4,kids:=cur2 } st2).1]) ((takeS t 124 st2.1).2,(pushP { kind:=4,kids:=cur2 } st2).2.2) r'→EvR t 0 [] (s,ps) r'):=
          fun r' e=>evH.out r' (EvR.choiceOn evB (by
           show ¬((takeS t 124 st2.1).1=false∨(takeS t 124 st2.1).2.2=true)
           rw [hm,hb6];simp) e)
         have hrw6:Hid (_=_):=restW_eq r6
         rw [hb6] at d1
         clear hend
         go_wp2
         refine ⟨⟨_,_,_,_,_,hI6,⟨more++more3,by rw [hmoreH.out,List.append_assoc]⟩,ev7.out,?_,?_⟩,?_⟩
         · show s.1≤(takeS t 124 st2.1).2.1;omega
         · show (cur++[_]).length≤(takeS t 124 st2.1).2.1
           simp;omega
         · rw [hrw6.out,hrw.out];omega
theorem rchoice_any (t:ByteArray):∀m,RChC t m
 | 0=>fun _ _ _ _ _ _ h=>by omega
 | m+1=>rchoice_step t m (rchoice_any t m)
end Go.Proofs.YtgifhgnccmnbiabGreat
