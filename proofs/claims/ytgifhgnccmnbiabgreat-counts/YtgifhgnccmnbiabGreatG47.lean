/- The document's machine: node, fork, walked. -/
import Derived.Test.YtgifhgnccmnbiabGreatG41
import Derived.Test.YtgifhgnccmnbiabGreatG38
set_option linter.unusedVariables false
set_option linter.unusedSimpArgs false
set_option maxHeartbeats 4000000
set_option maxRecDepth 100000
namespace Go.Proofs.YtgifhgnccmnbiabGreat
open Go.RowKit Go.IntWalk
theorem infoNodeD:(Tryz.prog.info? 97).map (fun i=>(i.zero,i.size,i.bytes)) =
 some (some (.agg #[.int .i64 0,.pointer none,.int .i64 0,.int .i64 0]),4,32):=by kernel_rfl
structure OpD where
 inv:Bool
 fold:Bool
 whole:Bool
 num:Bool
 mx:Int
structure MC (w:World) (base mb:Nat) (oc:OpD) (st:Int) (adrs:List Nat) (N:List DN) (nv:Value):Prop where
 blk:Blk w mb #[.bool oc.inv,.bool oc.fold,.bool oc.whole,.bool oc.num,.int .i64 oc.mx,nv,.int .i64 st] 100
 low:base≤mb
 row:w.ownsRow base 97 4 nv N.length (ndRow adrs N)
section
variable {w w':World} {base mb:Nat} {oc:OpD} {st:Int} {adrs:List Nat} {N:List DN} {nv:Value}
theorem MC.kept (h:MC w base mb oc st adrs N nv) (k:Kept [] w w'):MC w' base mb oc st adrs N nv:=
 ⟨h.blk.kept k (by simp),h.low,row_stay (S:=[]) h.row k (fun _ _=>by simp)⟩
theorem MC.up (h:MC w base mb oc st adrs N nv):base≤w.heap.size:=by have:=h.blk.lt;have:=h.low;omega
theorem MC.push (h:MC w base mb oc st adrs N nv) (g:w.grownBy w' nv.ownBlock) {v':Value} {x:DN} (hown:w'.ownsRow base 97 4 v' (N.length+1) (ndRow adrs N++ndCells adrs x)):
 w'.cell? ⟨mb,5,none⟩=some nv∧w'.frozen? ⟨mb,5,none⟩=false∧mb<w'.heap.size∧MC (w'.setCell ⟨mb,5,none⟩ v') base mb oc st adrs (N++[x]) v'∧Below base w (w'.setCell ⟨mb,5,none⟩ v'):=by
 have hb:Blk w' mb _ _:=grow_blk h.row g h.blk (by decide)
 have hne:v'.ownBlock≠some mb:=fun hc=>absurd (own_type hown hb hc) (by decide)
 refine ⟨hb.cell 5,hb.frozen 5,hb.lt,⟨hb.set 5 v',h.low,?_⟩,?_⟩
 · rw [ndRow_snoc,List.length_append]
   exact ownsRow_setCell_other hown hne _
 · exact Below.setCell ⟨g.os,g.tape,g.output,g.size,fun k hk=>g.block k (Nat.lt_of_lt_of_le hk h.up) (fun hc=>by have:=(h.row.lt k hc.symm).1;omega)⟩ h.low _
end
def partV (adrs:List Nat) (x:DN):Value:=if x.kind≤3 then ptrTo adrs x.part else .pointer none
theorem partV_ptr (adrs:List Nat) (x:DN):∃pa,partV adrs x=.pointer pa:=by
 unfold partV
 split
 · exact ⟨_,rfl⟩
 · exact ⟨_,rfl⟩
structure NdOut (w w':World) (e:Ending) (base mb:Nat) (oc:OpD) (st:Int) (adrs:List Nat) (s:DSt):Prop where
 ret:e=.returned (.int .i64 (s.1:Int))
 below:Below base w w'
 mc:∃nv,MC w' base mb oc st adrs s.2 nv
theorem dnode_any {w:World} {base mb:Nat} {oc:OpD} {st:Int} {adrs:List Nat} {N:List DN} {nv:Value} (h:MC w base mb oc st adrs N nv) (hN:N.length≤1000000) (x:DN):
 Calls Tryz.prog 47 #[.pointer (some ⟨mb,0,none⟩),.agg #[.int .i64 x.kind,partV adrs x,.int .i64 (x.next:Int),.int .i64 (x.other:Int)]] w fun e w'=>NdOut w w' e base mb oc st adrs (N.length,N++[x]):=by
 obtain ⟨i0,hi0,hz0,hz1,hz2⟩:=info_parts infoNodeD
 obtain ⟨pa,hpa⟩:=partV_ptr adrs x
 have hnc:Hid (ndCells adrs x=[.int .i64 x.kind,.pointer pa,.int .i64 (x.next:Int),.int .i64 (x.other:Int)]):=by
  show _=_
  unfold ndCells
  have:(if x.kind≤3 then ptrTo adrs x.part else Value.pointer none)=.pointer pa:=hpa
  rw [this]
 rw [hpa]
 have c5:w.cell? ⟨mb,5,none⟩=some nv:=h.blk.cell 5
 have hmb:=h.blk.lt
 have hH:Hid (MC _ _ _ _ _ _ _ _):=h
 have ow:∀o1 o2,((w.alloc o1).alloc o2).ownsRow base 97 4 nv N.length (ndRow adrs N):=fun o1 o2=>(h.row.alloc o1).alloc o2
 have up:∀o1 o2,base≤((w.alloc o1).alloc o2).heap.size:=fun o1 o2=>by have:=h.up;simp;omega
 have m1:N.length+1≤maxLen:=by unfold maxLen;omega
 clear h hpa
 go_enter Tryz.func47,Tryz.ntmps47
 go_wp2_with fail
 go_region_law (refine step_append_owned rfl (.tmp 9) (.tmp 11) 98 rfl 97 i0 _ 4 32 Tryz.underlying98 hi0 hz0 hz1 hz2 rfl (by decide) base nv N.length (ndRow adrs N) (by simp [Act.eval,Act.put]) (by exact ow _ _) ⟨w.heap.size+1,0,none⟩ 1 1 [.int .i64 x.kind,.pointer pa,.int .i64 (x.next:Int),.int .i64 (x.other:Int)] (by simp [Act.eval,Act.put]) rfl (by exact cells_new _ _ _ _ (by simp)) (by simp [Value.oneCell']) m1 (by omega) (by exact up _ _) ?_;intro v' w5 hown hgrow;obtain ⟨g5,cap5,rfl⟩:=own_form hown (by omega);rw [←hnc.out] at hown;obtain ⟨e5,f5,b5,hT2,hB2⟩:=((hH.out.kept (((Kept.refl [] w).alloc _).alloc _).drew).push hgrow hown))
 all_goals
  have hT3:Hid (MC _ _ _ _ _ _ _ _):=hT2
  have hB3:Hid (Below base w _):=((((Below.refl _ _).alloc hH.out.up _).alloc (by have:=hH.out.up;simp;omega) _).drew).trans hB2
  clear hT2 hB2 hown hgrow ow up
  go_wp2
  go_ret
  exact ⟨rfl,hB3.out,_,hT3.out⟩
theorem dfork_any {w:World} {base mb:Nat} {oc:OpD} {st:Int} {adrs:List Nat} {N:List DN} {nv:Value} (h:MC w base mb oc st adrs N nv) (hN:N.length≤1000000) (a b:Nat):
 Calls Tryz.prog 79 #[.pointer (some ⟨mb,0,none⟩),.int .i64 (a:Int),.int .i64 (b:Int)] w fun e w'=>NdOut w w' e base mb oc st adrs (N.length,N++[forkN a b]):=by
 have hc:Hid (Calls _ _ _ w _):=dnode_any h hN (forkN a b)
 have e:partV adrs (forkN a b)=.pointer none:=if_neg (by show ¬(7:Int)≤3;decide)
 rw [e] at hc
 clear h e
 go_enter Tryz.func79,Tryz.ntmps79
 go_wp2_with fail
 refine hc.out.mono ?_
 rintro e w2 ⟨rfl,b2,m2⟩
 go_wp2
 go_ret
 exact ⟨rfl,b2,m2⟩
theorem own_set_cell {w:World} {base g cap size n:Nat} {e:TypeId} {xs:List Value} (h:w.ownsRow base e size (.slice (some ⟨g,0,none⟩) n cap) n xs) (j:Nat) (u:Value):
 (w.setCell ⟨g,j,none⟩ u).ownsRow base e size (.slice (some ⟨g,0,none⟩) n cap) n (xs.set j u):=by
 refine ⟨by rw [List.length_set];exact h.1,?_⟩
 rcases h.2 with ⟨h1,_⟩ | ⟨g',cap',cur,h1,h2,h3,h4,h5,h6,h7⟩
 · cases h1
 · cases h1
   refine Or.inr ⟨g,cap,cur.setIfInBounds j u,rfl,h2,?_,h4,h5,by rw [Array.size_setIfInBounds];exact h6,?_⟩
   · simp [World.setCell,Array.getElem?_modify,h3]
   · rw [Array.toList_setIfInBounds,List.take_set,h7]
theorem ndRow_set (adrs:List Nat):∀(N:List DN) (i:Nat) (a k:Nat) (b:Nat),N[i]?=some (forkN a b)→(ndRow adrs N).set (i*4+3) (.int .i64 (k:Int))=ndRow adrs (N.set i (forkN a k))
 | [],i,a,k,b,h=>by simp at h
 | y :: l,0,a,k,b,h=>by
   simp only [List.getElem?_cons_zero,Option.some.injEq] at h
   subst h
   rfl
 | y :: l,i+1,a,k,b,h=>by
   rw [List.getElem?_cons_succ] at h
   show (ndCells adrs y++ndRow adrs l).set ((i+1)*4+3) _=ndCells adrs y++ndRow adrs (l.set i (forkN a k))
   rw [List.set_append_right _ _ (by simp [ndCells];omega),show (i+1)*4+3-(ndCells adrs y).length=i*4+3 by simp [ndCells];omega,ndRow_set adrs l i a k b h]
section
variable {ps:List PN} {N:List DN} {nx:Nat} {s:DSt} {R S:RelT} {g:Nat→List DN→DSt} {f:Nat→Nat→List DN→DSt} {Q:Nat→RelT}
theorem Bld.grow (h:Bld ps N nx s R):N.length≤s.2.length:=by
 obtain ⟨M,hM⟩:=h.more
 rw [hM,List.length_append];omega
theorem BuildOk.grow (hg:BuildOk ps g R) (hs:s.1<s.2.length):s.2.length≤(g s.1 s.2).2.length:=(hg s.1 s.2 hs).grow
theorem row_grow (hn:nx<N.length):∀(l1 l2:List Nat),(∀k,k∈l1++l2→BuildOk ps (f k) (Q k))→(rowD f l2 (nx,N)).2.length≤(rowD f (l1++l2) (nx,N)).2.length
 | [],l2,_=>Nat.le_refl _
 | k :: l1,l2,h=>by
   have ih:=row_grow hn l1 l2 (fun j hj=>h j (List.mem_cons_of_mem _ hj))
   have hb:=bld_row hn (l1++l2) (fun j hj=>h j (List.mem_cons_of_mem _ hj))
   have:=(h k (List.mem_cons_self ..)).grow hb.lt
   show _≤(f k (rowD f (l1++l2) (nx,N)).1 (rowD f (l1++l2) (nx,N)).2).2.length
   omega
theorem row_drop (hn:nx<N.length) (l:List Nat) (h:∀k,k∈l→BuildOk ps (f k) (Q k)) (m:Nat):(rowD f (l.drop m) (nx,N)).2.length≤(rowD f l (nx,N)).2.length:=by
 have:=row_grow (ps:=ps) hn (f:=f) (Q:=Q) (l.take m) (l.drop m) (by rw [List.take_append_drop];exact h)
 rwa [List.take_append_drop] at this
theorem alt_grow (hn:nx<N.length):∀(l:List Nat) (s:DSt) (S:RelT),Bld ps N nx s S→(∀k,k∈l→BuildOk ps (f k) (Q k))→s.2.length≤(l.foldl (altS f nx) s).2.length
 | [],_,_,_,_=>Nat.le_refl _
 | k :: l,s,S,h,hl=>by
   have hk:=hl k (List.mem_cons_self ..)
   have h1:=h.either hk
   have:=alt_grow hn l _ _ h1 (fun j hj=>hl j (List.mem_cons_of_mem _ hj))
   have h2:s.2.length≤(f k nx s.2).2.length:=(hk nx s.2 (by have:=h.grow;omega)).grow
   have h3:(altS f nx s k).2.length=(f k nx s.2).2.length+1:=by unfold altS;simp
   rw [List.foldl_cons]
   omega
theorem many_grow (h:Bld ps N nx s S) (hg:BuildOk ps g R):∀(c d:Nat),(manyD g c s).2.length≤(manyD g (c+d) s).2.length
 | c,0=>Nat.le_refl _
 | c,d+1=>by
   have:=many_grow h hg c d
   have h2:=hg.grow (bld_many h hg (c+d)).lt
   show _≤(g (manyD g (c+d) s).1 (manyD g (c+d) s).2).2.length
   omega
theorem opt_grow (hn:nx<N.length) (hg:BuildOk ps g R):∀(c d:Nat),(optD g nx c (nx,N)).2.length≤(optD g nx (c+d) (nx,N)).2.length
 | c,0=>Nat.le_refl _
 | c,d+1=>by
   have:=opt_grow hn hg c d
   have h2:=hg.grow (bld_opt hn hg (c+d)).lt
   have h3:(optD g nx (c+d+1) (nx,N)).2.length=(g (optD g nx (c+d) (nx,N)).1 (optD g nx (c+d) (nx,N)).2).2.length+1:=by
    show (optS g nx _).2.length=_
    unfold optS;simp
   rw [←Nat.add_assoc]
   omega
end
theorem PMs.below {w w':World} {ps:List PN} {adrs:List Nat} {F:Nat→Prop} {base:Nat} (h:PMs w ps adrs F) (hF:∀j,F j→j<base) (b:Below base w w'):PMs w' ps adrs F:=
 ⟨fun i p hp=>⟨(h.part i p hp).1,by obtain ⟨iv,kv,hk⟩:=(h.part i p hp).2;exact ⟨iv,kv,hk.frame (fun j hj=>b.block j (hF j hj))⟩⟩,fun j hj=>Nat.lt_of_lt_of_le (h.old j hj) b.size⟩
def MPartC (ps:List PN) (adrs:List Nat) (F:Nat→Prop) (base mb:Nat) (oc:OpD) (st:Int) (k:Nat):Prop:=
 ∀f,k<f→∀(w:World) (N:List DN) (nv:Value) (nx:Nat),MC w base mb oc st adrs N nv→PMs w ps adrs F→nx<N.length→(partD ps f k nx N).2.length≤1000000 →
  Calls Tryz.prog 48 #[.pointer (some ⟨mb,0,none⟩),ptrTo adrs k,.int .i64 (nx:Int)] w fun e w'=>NdOut w w' e base mb oc st adrs (partD ps f k nx N)
theorem below_cell {w w':World} {base g:Nat} (b:Below base w w') (h:g<base) (i:Nat):w'.cell? ⟨g,i,none⟩=w.cell? ⟨g,i,none⟩:=by
 unfold World.cell?
 simp only []
 rw [b.block g h]
structure PFc (w:World) (base a:Nat) (ka:Option Addr) (c:Nat) (p:PN) (adrs:List Nat):Prop where
 la:a<base
 lw:base≤w.heap.size
 c0:w.cell? ⟨a,0,none⟩=some (.int .i64 p.kind)
 c3:w.cell? ⟨a,3,none⟩=some (.slice ka p.kids.length c)
 c4:w.cell? ⟨a,4,none⟩=some (.int .i64 p.least)
 c5:w.cell? ⟨a,5,none⟩=some (.int .i64 p.most)
 kid:∀q,q<p.kids.length→∃gk,ka=some ⟨gk,0,none⟩∧gk<base∧w.cell? ⟨gk,q,none⟩=some (ptrTo adrs (p.kids.getD q 0))
theorem PFc.below {w w':World} {base a c:Nat} {ka:Option Addr} {p:PN} {adrs:List Nat} (h:PFc w base a ka c p adrs) (b:Below base w w'):PFc w' base a ka c p adrs:=
 ⟨h.la,Nat.le_trans h.lw b.size,(below_cell b h.la 0).trans h.c0,(below_cell b h.la 3).trans h.c3,(below_cell b h.la 4).trans h.c4,(below_cell b h.la 5).trans h.c5,fun q hq=>by
  obtain ⟨gk,h1,h2,h3⟩:=h.kid q hq
  exact ⟨gk,h1,h2,(below_cell b h2 q).trans h3⟩⟩
theorem PMs.pfc {w:World} {ps:List PN} {adrs:List Nat} {F:Nat→Prop} {base:Nat} (h:PMs w ps adrs F) (hF:∀j,F j→j<base) (hb:base≤w.heap.size) {j:Nat} {p:PN} (hp:ps[j]?=some p):∃ka c,PFc w base (adrs.getD j 0) ka c p adrs:=by
 obtain ⟨_,iv,kv,po⟩:=h.part j p hp
 obtain ⟨hl,hk⟩:=po.kid
 refine ⟨kv.1,kv.2.2,hF _ po.mine,hb,po.blk.cell 0,?_,po.blk.cell 4,po.blk.cell 5,fun q hq=>?_⟩
 · rw [←hl];exact po.blk.cell 3
 · obtain ⟨g,h1,h2,_⟩:=hk q hq
   refine ⟨g,h1,hF g (po.kidsF g ?_),h2⟩
   simp [ivV,h1,Value.ownBlock]
theorem MC.patch {w:World} {base mb gn cap:Nat} {oc:OpD} {st:Int} {adrs:List Nat} {P:List DN} (h:MC w base mb oc st adrs P (.slice (some ⟨gn,0,none⟩) P.length cap)) {i a b:Nat} (hi:P[i]?=some (forkN a b)):
 w.cell? ⟨gn,i*4+3,none⟩=some (.int .i64 (b:Int))∧w.frozen? ⟨gn,i*4+3,none⟩=false∧gn<w.heap.size∧mb≠gn ∧
 ∀k:Nat,MC (w.setCell ⟨gn,i*4+3,none⟩ (.int .i64 (k:Int))) base mb oc st adrs (P.set i (forkN a k)) (.slice (some ⟨gn,0,none⟩) P.length cap)∧Below base w (w.setCell ⟨gn,i*4+3,none⟩ (.int .i64 (k:Int))):=by
 have hne:mb≠gn:=fun hc=>absurd (own_type h.row h.blk (by rw [hc];rfl)) (by decide)
 have hfr:w.frozen? ⟨gn,i*4+3,none⟩=false:=by
  rcases h.row.2 with ⟨h1,_⟩ | ⟨g',cap',cur,h1,_,h3,_⟩
  · cases h1
  · cases h1
    exact Blk.frozen (w:=w) (b:=gn) (cs:=cur) (e:=97) h3 _
 refine ⟨?_,hfr,(h.row.lt gn rfl).2,hne,fun k=>⟨⟨h.blk.other _ _ hne,h.low,?_⟩,(Below.refl _ _).setCell (h.row.lt gn rfl).1 _⟩⟩
 · have:=h.row.cells (g:=gn) rfl (i*4+3) (.int .i64 (b:Int)) (by rw [ndRow_get adrs P i 3 _ hi (by omega)];rfl)
   rwa [ptr_add] at this
 · have:=own_set_cell h.row (i*4+3) (.int .i64 (k:Int))
   rw [ndRow_set adrs P i a k b hi] at this
   rw [List.length_set]
   exact this
def preD (g:Nat→List DN→DSt) (least most:Int) (nx:Nat) (N:List DN):DSt×Nat:=
 if most<0 then (if 0<least then (loopD g nx N,least.toNat-1) else ((N.length,(loopD g nx N).2),0)) else ((nx,N),least.toNat)
def midD (g:Nat→List DN→DSt) (least most:Int) (nx:Nat) (N:List DN):DSt:=
 if most<0 then (preD g least most nx N).1 else optD g nx (most-least).toNat (nx,N)
theorem timesD_eq (g:Nat→List DN→DSt) (least most:Int) (nx:Nat) (N:List DN):timesD g least most nx N=manyD g (preD g least most nx N).2 (midD g least most nx N):=by
 unfold timesD midD preD
 by_cases hm:most<0
 · rw [if_pos hm,if_pos hm,if_pos hm]
   by_cases hl:0<least
   · rw [if_pos hl,if_pos hl]
   · rw [if_neg hl,if_neg hl];rfl
 · rw [if_neg hm,if_neg hm,if_neg hm]
theorem midD_bld {ps:List PN} {N:List DN} {nx:Nat} {R:RelT} {g:Nat→List DN→DSt} (hn:nx<N.length) (hg:BuildOk ps g R) (least most:Int):∃S,Bld ps N nx (midD g least most nx N) S:=by
 unfold midD preD
 by_cases hm:most<0
 · rw [if_pos hm,if_pos hm]
   by_cases hl:0<least
   · rw [if_pos hl];exact ⟨_,(Bld.loop hn hg).2⟩
   · rw [if_neg hl];exact ⟨_,(Bld.loop hn hg).1⟩
 · rw [if_neg hm];exact ⟨_,bld_opt hn hg _⟩
theorem dtimes_any {ps:List PN} {adrs:List Nat} {F:Nat→Prop} {base mb:Nat} {oc:OpD} {st:Int} (hw:WfP ps) (h5:Kids5 ps) {j k0:Nat} {p:PN} (hp:ps[j]?=some p) (hkids:p.kids=[k0]) (hg:GoodT ps k0) (l0:0≤p.least) (l9:p.least≤9) (m0:-1≤p.most) (m9:p.most≤9) (hF:∀i,F i→i<base)
 (ih:MPartC ps adrs F base mb oc st k0) {f:Nat} (hf:k0<f) {w:World} {N:List DN} {nv:Value} {nx:Nat} (hM:MC w base mb oc st adrs N nv) (hP:PMs w ps adrs F) (hn:nx<N.length) (hb:(timesD (partD ps f k0) p.least p.most nx N).2.length≤1000000):
 Calls Tryz.prog 80 #[.pointer (some ⟨mb,0,none⟩),ptrTo adrs j,.int .i64 (nx:Int)] w fun e w'=>NdOut w w' e base mb oc st adrs (timesD (partD ps f k0) p.least p.most nx N):=by
 obtain ⟨ka,c,hpf⟩:=hP.pfc hF hM.up hp
 obtain ⟨gk,rfl,hgk,_⟩:=hpf.kid 0 (by rw [hkids];simp)
 have hpfH:Hid (PFc _ _ _ _ _ _ _):=hpf
 have hbk:Hid (BuildOk ps (partD ps f k0) (fun fold t=>MatR ps fold t k0)):=partD_ok hw h5 hg f hf
 have hcall:Hid (∀w' N' nv' nx',Below base w w'→MC w' base mb oc st adrs N' nv'→nx'<N'.length→(partD ps f k0 nx' N').2.length≤1000000→Calls _ _ _ w' _):=fun w' N' nv' nx' b m h1 h2=>ih f hf w' N' nv' nx' m (hP.below hF b) h1 h2
 obtain ⟨S0,hS0⟩:=midD_bld hn hbk.out p.least p.most
 have hS0H:Hid (Bld _ _ _ _ _):=hS0
 rw [timesD_eq] at hb ⊢
 have hmg:=many_grow hS0 hbk.out 0
 have hlen1:(midD (partD ps f k0) p.least p.most nx N).2.length≤1000000:=by
  have:=hmg (preD (partD ps f k0) p.least p.most nx N).2
  rw [Nat.zero_add] at this
  exact Nat.le_trans this hb
 have hNl:N.length≤(midD (partD ps f k0) p.least p.most nx N).2.length:=hS0.grow
 have hbH:Hid (∀c,c≤(preD (partD ps f k0) p.least p.most nx N).2→(manyD (partD ps f k0) c (midD (partD ps f k0) p.least p.most nx N)).2.length≤1000000):=fun c hc=>by
  have:=many_grow hS0 hbk.out c ((preD (partD ps f k0) p.least p.most nx N).2-c)
  rw [show c+((preD (partD ps f k0) p.least p.most nx N).2-c)=(preD (partD ps f k0) p.least p.most nx N).2 by omega] at this
  exact Nat.le_trans this hb
 have hMH:Hid (MC _ _ _ _ _ _ _ _):=hM
 have hb0:Hid (Below base w w):=Below.refl _ _
 obtain ⟨g,hgd⟩:∃g,g=partD ps f k0:=⟨_,rfl⟩
 rw [←hgd] at hbk hcall hS0H hlen1 hNl hbH ⊢
 clear hmg hS0 hb hgd ih hP hg h5 hM
 obtain ⟨a,ha⟩:∃a,a=adrs.getD j 0:=⟨_,rfl⟩
 have hpt:ptrTo adrs j=.pointer (some ⟨a,0,none⟩):=by rw [ha];rfl
 rw [←ha] at hpf hpfH
 rw [hpt]
 have c4:=hpf.c4
 have c5:=hpf.c5
 have c3:=hpf.c3
 have hal:a<w.heap.size:=Nat.lt_of_lt_of_le hpf.la hpf.lw
 have hkl:p.kids.length=1:=by rw [hkids];rfl
 have hk0:Hid (p.kids.getD 0 0=k0):=by show _=_;rw [hkids];rfl
 rw [hkl] at c3
 have hklH:Hid (p.kids.length=1):=hkl
 -- what is read of the part in a later world
 have hrd:Hid (∀w',Below base w w'→w'.cell? ⟨a,3,none⟩=some (.slice (some ⟨gk,0,none⟩) 1 c)∧w'.cell? ⟨a,4,none⟩=some (.int .i64 p.least)∧w'.cell? ⟨a,5,none⟩=some (.int .i64 p.most)∧w'.cell? ⟨gk,0,none⟩=some (ptrTo adrs k0)∧a<w'.heap.size∧gk<w'.heap.size):=fun w' b=>by
  have q:=hpfH.out.below b
  refine ⟨by rw [←hklH.out];exact q.c3,q.c4,q.c5,?_,Nat.lt_of_lt_of_le q.la q.lw,Nat.lt_of_lt_of_le hgk q.lw⟩
  obtain ⟨gk',h1,_,h3⟩:=q.kid 0 (by rw [hklH.out];omega)
  cases h1
  rw [hk0.out] at h3
  exact h3
 clear hpf hpfH hkids hkl hpt ha
 obtain ⟨a0,ha0⟩:∃a0,ptrTo adrs k0=.pointer (some ⟨a0,0,none⟩):=⟨_,rfl⟩
 rw [ha0] at hcall hrd
 clear ha0
 generalize p.least=le at *
 generalize p.most=M at *
 obtain ⟨L,rfl⟩:∃L:Nat,le=(L:Int):=⟨le.toNat,by omega⟩
 go_enter Tryz.func80,Tryz.ntmps80
 go_upto_if 22 with fail
 go_cut [7,8,9] (fun s7 s8 _ wx=>s7=.int .i64 ((preD g L M nx N).1.1:Int)∧s8=.int .i64 ((preD g L M nx N).2:Int)∧∃y nv',y=wx∧MC y base mb oc st adrs (preD g L M nx N).1.2 nv'∧Below base w y)
 case first=>
  by_cases hm:M<0
  · have hpre:Hid (preD g L M nx N=if 0<(L:Int) then (loopD g nx N,(L:Int).toNat-1) else ((N.length,(loopD g nx N).2),0)):=if_pos hm
    have hmid:midD g L M nx N=(preD g L M nx N).1:=if_pos hm
    have hNb:N.length≤1000000:=by omega
    rw [hmid] at hlen1
    have hll:(loopD g nx N).2.length≤1000000:=by
     rw [hpre.out] at hlen1
     split at hlen1
     · exact hlen1
     · exact hlen1
    have hset:(loopD g nx N).2.length=(g N.length (N++[forkN nx nx])).2.length:=by unfold loopD;rw [List.length_set]
    have hgl:(g N.length (N++[forkN nx nx])).2.length≤1000000:=by omega
    have hmo:=(hbk.out N.length (N++[forkN nx nx]) (by simp)).more
    have hloop:Hid (loopD g nx N=((g N.length (N++[forkN nx nx])).1,(g N.length (N++[forkN nx nx])).2.set N.length (forkN nx (g N.length (N++[forkN nx nx])).1))):=rfl
    clear hmid hlen1 hll hset hS0H hbH hNl hbk
    go_wp2_with fail
    refine (dfork_any hMH.out hNb nx nx).mono ?_
    rintro e w1 ⟨rfl,b1,nv1,m1⟩
    have b1H:Hid (Below base w w1):=b1
    have m1H:Hid (MC _ _ _ _ _ _ _ _):=m1
    obtain ⟨e3,e4,e5,ek,el,egl⟩:=hrd.out _ b1
    clear b1 m1 c3 c4 c5 hal
    go_wp2_with fail
    refine (hcall.out w1 (N++[forkN nx nx]) nv1 N.length b1H.out m1H.out (by simp) hgl).mono ?_
    rintro e w2 ⟨rfl,b2,nv2,m2⟩
    have b2H:Hid (Below base w w2):=b1H.out.trans b2
    obtain ⟨Mo,hMo⟩:=hmo
    have hPi:(g N.length (N++[forkN nx nx])).2[N.length]?=some (forkN nx nx):=by
     rw [hMo,List.append_assoc,List.getElem?_append_right (Nat.le_refl _),Nat.sub_self];rfl
    have hPl:N.length<(g N.length (N++[forkN nx nx])).2.length:=(List.getElem?_eq_some_iff.1 hPi).1
    generalize (g N.length (N++[forkN nx nx])).1=k at *
    generalize (g N.length (N++[forkN nx nx])).2=P at *
    obtain ⟨gn,cap,rfl⟩:=own_form m2.row (by omega)
    obtain ⟨p1,p2,p3,p4,p5⟩:=m2.patch hPi
    have p5H:Hid (∀k:Nat,_):=p5
    have m5:w2.cell? ⟨mb,5,none⟩=some (.slice (some ⟨gn,0,none⟩) P.length cap):=m2.blk.cell 5
    have hmb2:=m2.blk.lt
    clear b2 m2 p5 hPi hMo e3 e4 e5 ek el egl b1H m1H hcall hgl
    by_cases hl:0<(L:Int)
    · have hp2:Hid (preD g L M nx N=((k,P.set N.length (forkN nx k)),L-1)):=by
       show _=_;rw [hpre.out,if_pos hl,hloop.out];simp
      have hLs:((L-1:Nat):Int)=(L:Int)-1:=by omega
      clear hpre hloop
      go_wp2
      go_meet
      refine ⟨by rw [hp2.out],by rw [hp2.out,hLs],_,.slice (some ⟨gn,0,none⟩) P.length cap,rfl,?_,?_⟩
      · rw [hp2.out];exact (p5H.out k).1
      · exact b2H.out.trans (p5H.out k).2
    · have hp2:Hid (preD g L M nx N=((N.length,P.set N.length (forkN nx k)),0)):=by
       show _=_;rw [hpre.out,if_neg hl,hloop.out]
      have hL0:L=0:=by omega
      subst hL0
      clear hpre hloop hl
      go_wp2
      go_meet
      refine ⟨by rw [hp2.out],by rw [hp2.out];rfl,_,.slice (some ⟨gn,0,none⟩) P.length cap,rfl,?_,?_⟩
      · rw [hp2.out];exact (p5H.out k).1
      · exact b2H.out.trans (p5H.out k).2
  · have hpre:Hid (preD g L M nx N=((nx,N),L)):=by
     show _=_
     unfold preD
     rw [if_neg hm];simp
    clear hlen1 hS0H hbH hNl hbk hcall
    go_wp2
    go_meet
    refine ⟨by rw [hpre.out],by rw [hpre.out],_,nv,rfl,?_,hb0.out⟩
    rw [hpre.out];exact hMH.out
 case rest=>
  obtain ⟨rfl,rfl,y,nv1,hy,m1,b1⟩:=hcut
  subst hy
  have m1H:Hid (MC _ _ _ _ _ _ _ _):=m1
  have b1H:Hid (Below base w _):=b1
  obtain ⟨e3,e4,e5,ek,el,egl⟩:=hrd.out _ b1
  -- the first loop: so many times or none
  obtain ⟨C,hC⟩:∃C:Nat,C=(M-(L:Int)).toNat:=⟨_,rfl⟩
  have hCH:Hid (C=(M-(L:Int)).toNat):=hC
  have hopt:Hid (0≤M→∀q,q≤C→(optD g nx q (nx,N)).2.length≤1000000):=fun hM0 q hq=>by
   have h1:=opt_grow hn hbk.out q (C-q)
   rw [show q+(C-q)=C by omega] at h1
   have h2:midD g L M nx N=optD g nx C (nx,N):=by unfold midD;rw [if_neg (by omega),hC]
   rw [h2] at hlen1
   omega
  have hlt1:Hid (∀q,(optD g nx q (nx,N)).1<(optD g nx q (nx,N)).2.length):=fun q=>(bld_opt hn hbk.out q).lt
  have hgs:Hid (∀s:DSt,s.1<s.2.length→s.2.length≤(g s.1 s.2).2.length):=fun s h=>hbk.out.grow h
  have hpre0:Hid (¬M<0→(preD g L M nx N).1=(nx,N)):=fun h=>by unfold preD;rw [if_neg h]
  have hmidN:Hid (M<0→midD g L M nx N=(preD g L M nx N).1):=fun h=>if_pos h
  have hmidP:Hid (¬M<0→midD g L M nx N=optD g nx C (nx,N)):=fun h=>by unfold midD;rw [if_neg h,hC]
  have hS0lt:Hid (∀q,(manyD g q (midD g L M nx N)).1<(manyD g q (midD g L M nx N)).2.length):=fun q=>(bld_many hS0H.out hbk.out q).lt
  clear m1 b1 c3 c4 c5 hal hlen1 hNl hS0H hbk hC hMH hb0
  go_wp2_with fail
  go_loopw [7,10,11] (fun av iv _ wr=>∃(q:Nat) (s:DSt) (nvq:Value),iv=.int .i64 ((L:Int)+(q:Int))∧q≤C∧s=(if M<0 then (preD g L M nx N).1 else optD g nx q (nx,N))∧av=.int .i64 (s.1:Int)∧MC wr base mb oc st adrs s.2 nvq∧Below base w wr) (fun _ iv _ _=>(M-intOf iv).toNat)
  case atStart=>
   refine ⟨0,(preD g L M nx N).1,nv1,by simp,Nat.zero_le _,?_,rfl,m1H.out,b1H.out⟩
   split
   · rfl
   · rename_i h;exact hpre0.out (by omega)
  case round=>
   obtain ⟨q,s,nvq,rfl,hq,hs,rfl,mq,bq⟩:=hrel
   have mqH:Hid (MC _ _ _ _ _ _ _ _):=mq
   have bqH:Hid (Below base w _):=bq
   have hsH:Hid (s=_):=hs
   obtain ⟨e3,e4,e5,ek,el,egl⟩:=hrd.out _ bq
   clear m1H b1H mq bq hs
   by_cases hlt:(L:Int)+(q:Int)<M
   · have hM0:¬M<0:=by omega
     have hs2:Hid (s=optD g nx q (nx,N)):=by show _=_;rw [hsH.out,if_neg hM0]
     have hq1:q+1≤C:=by have:=hCH.out;omega
     have hsl:s.1<s.2.length:=by have:=hlt1.out q;rw [←hs2.out] at this;exact this
     have hnext:Hid (optD g nx (q+1) (nx,N)=((g s.1 s.2).2.length,(g s.1 s.2).2++[forkN (g s.1 s.2).1 nx])):=by
      show optS g nx (optD g nx q (nx,N))=_
      rw [←hs2.out];rfl
     have hgl:(g s.1 s.2).2.length≤1000000:=by
      have:=hopt.out (by omega) (q+1) hq1
      rw [hnext.out] at this
      simp at this
      omega
     clear hs2 hsH
     go_wp2_with fail
     refine (hcall.out _ s.2 nvq s.1 bqH.out mqH.out hsl hgl).mono ?_
     rintro e w2 ⟨rfl,b2,nv2,m2⟩
     have b2H:Hid (Below base w w2):=bqH.out.trans b2
     have m2H:Hid (MC _ _ _ _ _ _ _ _):=m2
     obtain ⟨j3,j4,j5,jk,jl,jgl⟩:=hrd.out _ b2H.out
     clear b2 m2 e3 e4 e5 ek el egl mqH bqH
     go_wp2_with fail
     refine (dfork_any m2H.out hgl _ nx).mono ?_
     rintro e w3 ⟨rfl,b3,nv3,m3⟩
     have b3H:Hid (Below base w w3):=b2H.out.trans b3
     have m3H:Hid (MC _ _ _ _ _ _ _ _):=m3
     clear b3 m3 j3 j4 j5 jk jl jgl m2H b2H
     go_wp2
     refine ⟨⟨q+1,((g s.1 s.2).2.length,(g s.1 s.2).2++[forkN (g s.1 s.2).1 nx]),nv3,by go_num,hq1,?_,rfl,m3H.out,b3H.out⟩,?_⟩
     · rw [if_neg (by omega),hnext.out]
     · simp only [intOf];omega
   · have hs2:Hid (s=midD g L M nx N):=by
      show _=_
      rw [hsH.out]
      by_cases hm:M<0
      · rw [if_pos hm,hmidN.out hm]
      · rw [if_neg (by omega),hmidP.out (by omega),show q=C by have:=hCH.out;omega]
     have hm9:(preD g L M nx N).2≤9:=by
      unfold preD
      split
      · split
        · simp;omega
        · simp
      · simp;omega
     obtain ⟨m,hm⟩:∃m,m=(preD g L M nx N).2:=⟨_,rfl⟩
     rw [←hm] at hm9
     have hfin:Hid (manyD g (preD g L M nx N).2 (midD g L M nx N)=manyD g m s):=by show _=_;rw [hm,hs2.out]
     rw [←hm] at hbH
     rw [←hs2.out] at hbH hS0lt
     rw [←hm]
     clear hs2 hsH hopt hlt1 hpre0 hmidN hmidP hCH hq hm
     go_wp2_with fail
     go_loopw [7,12] (fun av iv wr=>∃(z:Nat) (nvq:Value),iv=.int .i64 (z:Int)∧z≤m∧av=.int .i64 ((manyD g z s).1:Int)∧MC wr base mb oc st adrs (manyD g z s).2 nvq∧Below base w wr) (fun _ iv _=>((m:Int)-intOf iv).toNat)
     case atStart=>exact ⟨0,nvq,rfl,Nat.zero_le _,rfl,mqH.out,bqH.out⟩
     case round=>
      obtain ⟨z,nvz,rfl,hz,rfl,mz,bz⟩:=hrel
      have mzH:Hid (MC _ _ _ _ _ _ _ _):=mz
      have bzH:Hid (Below base w _):=bz
      obtain ⟨e3,e4,e5,ek,el,egl⟩:=hrd.out _ bz
      clear mqH bqH mz bz
      by_cases hzt:(z:Int)<(m:Int)
      · have hgl:=hbH.out (z+1) (by omega)
        have hsl:=hS0lt.out z
        have hnext:Hid (manyD g (z+1) s=g (manyD g z s).1 (manyD g z s).2):=rfl
        rw [hnext.out] at hgl
        go_wp2_with fail
        refine (hcall.out _ _ nvz _ bzH.out mzH.out hsl hgl).mono ?_
        rintro e w2 ⟨rfl,b2,nv2,m2⟩
        have b2H:Hid (Below base w w2):=bzH.out.trans b2
        have m2H:Hid (MC _ _ _ _ _ _ _ _):=m2
        clear b2 m2 e3 e4 e5 ek el egl mzH bzH
        go_wp2
        refine ⟨⟨z+1,nv2,by go_num,by omega,by rw [hnext.out],by rw [hnext.out];exact m2H.out,b2H.out⟩,?_⟩
        simp only [intOf];omega
      · obtain rfl:m=z:=by omega
        go_wp2
        go_ret
        rw [hfin.out]
        exact ⟨rfl,bzH.out,_,mzH.out⟩
end Go.Proofs.YtgifhgnccmnbiabGreat
