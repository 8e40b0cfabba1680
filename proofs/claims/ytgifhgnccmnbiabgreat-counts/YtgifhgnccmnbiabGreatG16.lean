/- The machine: Build, walked. -/
import Derived.Test.YtgifhgnccmnbiabGreatG15
set_option linter.unusedVariables false
set_option linter.unusedSimpArgs false
set_option maxHeartbeats 4000000
set_option maxRecDepth 100000
namespace Go.Proofs.YtgifhgnccmnbiabGreat
open Go.RowKit Go.IntWalk
theorem nextM_set (m:MP) (q:Nat) (s:B64) (hq:q<63):(mCells m).setIfInBounds (2+q) (UV s)=mCells (nextM m q s):=
 m_set_next _ _ q s hq ⟨rfl,rfl⟩ rfl (fun _ _=>rfl) rfl rfl rfl
structure NodesIn (w:World) (B:Nat) (v:Value) (ns:List AN) (xs:List IV):Prop where
 row:w.ownsRow B 114 8 v ns.length (nodesCells ns xs)
 len:xs.length=ns.length
 items:∀(i:Nat) (n:AN) (x:IV),ns[i]?=some n→xs[i]?=some x→ItemsOk w B x n.its
theorem row_kept0 {w w':World} {B e z n:Nat} {v:Value} {ys:List Value} (h:w.ownsRow B e z v n ys) (k:Kept [] w w'):w'.ownsRow B e z v n ys:=by
 refine ⟨h.1,?_⟩
 rcases h.2 with h1 | ⟨g,cap,cur,h1,h2,h3,h4⟩
 · exact Or.inl h1
 · have hlt:g<w.heap.size:=(Array.getElem?_eq_some_iff.1 h3).1
   exact Or.inr ⟨g,cap,cur,h1,h2,(k.block g hlt (by simp)).trans h3,h4⟩
theorem NodesIn.kept {w w':World} {B:Nat} {v:Value} {ns:List AN} {xs:List IV} (h:NodesIn w B v ns xs) (k:Kept [] w w'):NodesIn w' B v ns xs:=
 ⟨row_kept0 h.row k,h.len,fun i n x a c=>row_kept0 (h.items i n x a c) k⟩
theorem learnQ_whole (m:MP) (st:B64) (n:AN) (fold:Bool):∀q,(learnQ m st n fold q).whole=m.whole:=fun q=>by
 unfold learnQ
 rfl
theorem learnP_whole (m:MP) (st:B64) (n:AN) (fold:Bool):(learnP m st n fold).whole=m.whole:=by
 unfold learnP
 repeat' split
 all_goals first | rfl | exact learnQ_whole _ _ _ _ _
theorem buildQ_whole (ns:List AN) (P:GP) (fold whole:Bool):∀q,(buildQ ns P fold whole q).whole=whole
 | 0=>rfl
 | q+1=>by
   rw [buildQ]
   cases ns[P.node q]? with
   | none=>exact buildQ_whole ns P fold whole q
   | some n=>exact (learnP_whole _ _ _ _).trans (buildQ_whole ns P fold whole q)
theorem build_any (ns:List AN) (xs:List IV) (B:Nat) (v:Value) (size:Int) (fold whole:Bool) (w:World) (h:NodesIn w B v ns xs) (hl:ns.length≤900) (hn:NodesFit ns) (hits:∀n,n∈ns→n.its.length≤1000) (hfit:(lastQ ns ns.length).count≤60) (hnd:∀i,(lastQ ns ns.length).node i≤10000):
 Calls Tryz.prog 14 #[.agg #[v,.int .i64 size],.bool fold,.bool whole] w fun e w'=>e=.returned (.agg (mCells (finP (buildP ns (lastQ ns ns.length) fold whole))))∧Kept [] w w':=by
 have hz:=zeroV_part
 have hzm:=zeroV_mach
 have hw:Hid (∀w',Kept [] w w'→PartCall _ _ w' _):=fun w' k=>write_any ns xs B v w' (row_kept0 h.row k) h.len hl hn
 generalize hP:lastQ ns ns.length=P at *
 obtain ⟨va,cap,hv⟩:∃a cap,v=.slice a ns.length cap:=by
  rcases h.row.2 with ⟨h1,h2⟩ | ⟨g,cap,_,h1,_⟩
  · exact ⟨none,0,by rw [h1,h2]⟩
  · exact ⟨_,cap,h1⟩
 subst hv
 have k0:Kept [] w ((w.alloc (.cells #[.slice va ns.length cap,.int .i64 size] 54)).alloc (.cells (mCells {}) 69)):=((Kept.refl _ _).alloc _).alloc _
 have p0:Blk ((w.alloc (.cells #[.slice va ns.length cap,.int .i64 size] 54)).alloc (.cells (mCells {}) 69)) w.heap.size #[.slice va ns.length cap,.int .i64 size] 54:=(Blk.new _ _ _).alloc _
 have r0:MIn ((w.alloc (.cells #[.slice va ns.length cap,.int .i64 size] 54)).alloc (.cells (mCells {}) 69)) (w.heap.size+1) {}:=Blk.new1 w _ _ _
 have k0:Hid (Kept _ _ _):=k0
 have p0:Hid (Blk _ _ _ _):=p0
 have r0:Hid (MIn _ _ _):=r0
 cases hem:P.empty with
 | false=>
   go_enter Tryz.func14,Tryz.ntmps14
   go_wp2_with (first
    | (go_at_call 32
       refine (hw.out _ k0.out).mono ?_
       rintro e w1 ⟨rfl,k1⟩
       have p1:=p0.out.kept k1 (by simp)
       have r1:=Blk.kept r0.out k1 (by simp)
       have K1:=k0.out.trans k1
       have L1:=Blk.lt r1)
    | (with_reducible refine wpList_store_part ?_ (.tmp 7) (.tmp 13) ?_ w1.heap.size ?_ {} P ?_ ?_ ?_
       · rfl
       · rfl
       · rfl
       · rfl
       · exact Blk.new w1 (gpCells {}) 107
       intro w2 hb2 hk2 hs2
       have p2:=(p1.alloc (.cells (gpCells {}) 107)).kept hk2 (by simp;omega)
       have r2:=Blk.kept (Blk.alloc r1 (.cells (gpCells {}) 107)) hk2 (by simp;omega)
       have K2:Kept [] w w2:=(K1.alloc (.cells (gpCells {}) 107)).into hk2 (by omega)
       have c3:=hb2.part3
       have L2:=hb2.lt
       clear hs2 hk2)
    | (refine wpList_build_mach rfl (.tmp 15) rfl whole P.last rfl ?_)
    | (with_reducible refine wpList_store_mach ?_ (.tmp 8) (.tmp 16) ?_ w2.heap.size ?_ {} { whole:=whole,last:=P.last } ?_ ?_ ?_
       · rfl
       · rfl
       · rfl
       · rfl
       · exact Blk.new w2 (mCells {}) 69
       intro w3 hb3 hk3 hs3
       have I3:BdIn w w3 w1.heap.size w2.heap.size (.slice va ns.length cap) size P { whole:=whole,last:=P.last }:=⟨hb3,(hb2.alloc (.cells (mCells {}) 69)).kept hk3 (by simp;omega),(p2.alloc (.cells (mCells {}) 69)).kept hk3 (by simp;omega),Blk.kept (Blk.alloc r2 (.cells (mCells {}) 69)) hk3 (by simp;omega),(K2.alloc (.cells (mCells {}) 69)).into hk3 (by omega),L1,L2⟩
       clear c3 hs3 hk3
       have d1:=I3.pt.part1
       rw [hem] at d1
       have d2:=I3.pt.part2
       have d3:=I3.mi.next (i:=60) (by decide)
       have f3:=I3.mi.frozen 62
       have d4:=I3.mi.last
       have f4:=I3.mi.frozen 323
       have H0:Hid (BdIn w (w3.setCell ⟨w2.heap.size,62,none⟩ (UV P.first)) w1.heap.size w2.heap.size (.slice va ns.length cap) size P (buildQ ns P fold whole 0)):=by
        have e:buildQ ns P fold whole 0=nextM { whole:=whole,last:=P.last } 60 P.first:=by simp [buildQ,build0,hem,nextM]
        rw [e]
        exact I3.set 62 (UV P.first) (nextM_set _ 60 _ (by decide))))
   go_loopw [9] (fun iv wr=>∃q:Nat,iv=.int .i64 (q:Int)∧q≤P.count∧BdIn w wr w1.heap.size w2.heap.size (.slice va ns.length cap) size P (buildQ ns P fold whole q)) (fun iv _=>((P.count:Int)-intOf iv).toNat)
   case atStart=>exact ⟨0,rfl,Nat.zero_le _,H0.out⟩
   case round=>
    obtain ⟨q,rfl,hq,hI⟩:=hrel
    clear H0 k0 p0 r0 hw K1 K2 p1 r1 k1 p2 r2 hb2 hb3 I3 d1 d2 d3 d4 f3 f4 hz hzm
    have hgs:w.heap.size≤w2.heap.size:=by omega
    by_cases hlt:(q:Int)<(P.count:Int)
    · have hqn:q<P.count:=by omega
      have hq60:q<60:=by omega
      have hq60i:(q:Int)<60:=by omega
      have c0:=hI.pt.part0
      have c1:wr.cell? ⟨w1.heap.size,4+q,none⟩=some (UV (P.next q)):=by rw [hI.pt.cell,part_next _ _ hq60]
      have c2:wr.cell? ⟨w1.heap.size,64+q,none⟩=some (.int .i64 (P.node q:Int)):=by rw [hI.pt.cell,part_node _ _ hq60]
      have c3:wr.cell? ⟨w.heap.size,0,none⟩=some (.slice va ns.length cap):=by rw [hI.pat.cell];rfl
      have c4:=hI.mi.next (i:=q) (by omega)
      have f4:=hI.mi.frozen (2+q)
      have L3:=hI.lt
      have L4:=hI.ltg
      have I9:=hI.set (2+q) (UV (P.next q)) (nextM_set _ q _ (by omega))
      have hnq:=hnd q
      by_cases hnode:(P.node q:Int)<(ns.length:Int)
      · have hnn:P.node q<ns.length:=by omega
        obtain ⟨n,hn1⟩:∃n,ns[P.node q]?=some n:=⟨_,List.getElem?_eq_getElem hnn⟩
        obtain ⟨x,hx1⟩:∃x,xs[P.node q]?=some x:=⟨_,List.getElem?_eq_getElem (by have:=h.len;omega)⟩
        obtain ⟨gN,cap',hv⟩:=own_form h.row (by omega)
        simp only [Value.slice.injEq] at hv
        obtain ⟨rfl,_,rfl⟩:=hv
        have hrg:=range_kept (node_range h.row hn1 hx1) I9.k (by simp) (by simp [AN.cells])
        have hits1:=h.items _ _ _ hn1 hx1
        have hne:(ivV x).ownBlock≠some w2.heap.size:=fun hc=>by have:=hits1.lt _ hc;omega
        have hlearn:Hid (Calls _ _ _ _ _):=learn_any _ w2.heap.size (1#64 <<< q) n x fold B _ I9.mi (row_kept0 hits1 I9.k) (hits n (List.mem_of_getElem? hn1)) hne
        have eB:Hid (buildQ ns P fold whole (q+1)=learnP (nextM (buildQ ns P fold whole q) q (P.next q)) (1#64 <<< q) n fold):=by
         show buildQ ns P fold whole (q+1)=_
         rw [buildQ,hn1]
        have I9H:Hid (BdIn _ _ _ _ _ _ _ _):=I9
        have hw1:IntKind.wrap .u64 ((2:Int) ^ q)=((1#64 <<< q:B64).toNat:Int):=by rw [←one_shl (by omega)];exact wrap_u _ (BitVec.isLt _)
        have hw2:IntKind.wrap .u64 (1*(2:Int) ^ q)=((1#64 <<< q:B64).toNat:Int):=by rw [Int.one_mul];exact hw1
        generalize hSS:(1#64 <<< q:B64)=S at *
        clear hSS hn1 hx1 hits1 hne h hits hI I9 hn hfit hnd
        go_wp2_with (first
         | (with_reducible refine wpList_load_node ?_ (.tmp 65) ?_ gN (P.node q*8) ?_ n x ?_ ?_
            · rfl
            · rfl
            · first | rfl | (simp [Act.eval])
            · exact hrg)
         | (go_at_call 33
            with_reducible refine hlearn.out.mono ?_
            rintro e w8 ⟨rfl,h8,k8⟩
            have I10:Hid (BdIn _ _ _ _ _ _ _ _):=I9H.out.into h8 k8))
        refine ⟨⟨q+1,by go_num,by omega,by rw [eB.out];exact I10.out⟩,?_⟩
        simp only [intOf];omega
      · have hnn:ns[P.node q]?=none:=List.getElem?_eq_none (by omega)
        have eB:Hid (buildQ ns P fold whole (q+1)=nextM (buildQ ns P fold whole q) q (P.next q)):=by
         show buildQ ns P fold whole (q+1)=_
         rw [buildQ,hnn]
        have I9H:Hid (BdIn _ _ _ _ _ _ _ _):=I9
        have hnode:(ns.length:Int)≤(P.node q:Int):=by omega
        clear hnn h hits hI I9 hn hfit hnd
        go_wp2
        refine ⟨⟨q+1,by go_num,by omega,by rw [eB.out];exact I9H.out⟩,?_⟩
        simp only [intOf];omega
    · have hqe:P.count=q:=by omega
      have eB:Hid (buildP ns P fold whole=buildQ ns P fold whole q):=by show buildP ns P fold whole=_;unfold buildP;rw [hqe]
      have c0:=hI.pt.part0
      have hIH:Hid (BdIn _ _ _ _ _ _ _ _):=hI
      have hMw:(buildQ ns P fold whole q).whole=whole:=buildQ_whole ns P fold whole q
      clear hqe hI h hits hn hfit hnd
      generalize buildQ ns P fold whole q=M at *
      have eF:Hid (finP (buildP ns P fold whole)=if whole=true then begM M else anyP (begM M)):=by
       show finP _=_
       rw [eB.out]
       unfold finP
       rw [hMw]
      clear eB hMw
      have hfe:Hid (∀w',MIn w' w2.heap.size M→Calls _ _ _ w' _):=fun w' h=>findEnds_any M w2.heap.size w' h
      have haa:Hid (∀w',MIn w' w2.heap.size (begM M)→Calls _ _ _ w' _):=fun w' h=>allowAnywhere_any (begM M) w2.heap.size w' h
      cases whole with
      | true=>
        rw [if_pos rfl] at eF
        generalize hN:begM M=N at *
        clear hN haa
        go_wp2_with (first
         | (go_at_call 34
            with_reducible refine (hfe.out _ hIH.out.mi).mono ?_
            rintro e w7 ⟨rfl,h7,k7⟩
            have I7:Hid (BdIn _ _ _ _ _ _ _ _):=hIH.out.into h7 k7)
         | (with_reducible refine wpList_load_mach ?_ (.tmp 8) ?_ w2.heap.size ?_ N ?_ ?_
            · rfl
            · rfl
            · rfl
            · exact I7.out.mi)
         | (with_reducible refine wpList_store_mach ?_ (.tmp 6) (.tmp 73) ?_ (w.heap.size+1) ?_ {} N ?_ ?_ ?_
            · rfl
            · rfl
            · rfl
            · rfl
            · exact I7.out.res
            intro w8 hb8 hk8 hs8
            have hK8:=I7.out.k.into hk8 (by omega)))
        exact bodyPost_ret (v:=.agg (mCells N)) (results_mach Tryz.results14 _ _ _ N rfl hb8) rfl ⟨by rw [eF.out],hK8⟩
      | false=>
        rw [if_neg (by decide)] at eF
        generalize hN:anyP (begM M)=N at *
        clear hN
        go_wp2_with (first
         | (go_at_call 34
            with_reducible refine (hfe.out _ hIH.out.mi).mono ?_
            rintro e w7 ⟨rfl,h7,k7⟩
            have I7:Hid (BdIn _ _ _ _ _ _ _ _):=hIH.out.into h7 k7)
         | (go_at_call 35
            with_reducible refine (haa.out _ I7.out.mi).mono ?_
            rintro e w6 ⟨rfl,h6,k6⟩
            have I6:Hid (BdIn _ _ _ _ _ _ _ _):=I7.out.into h6 k6)
         | (with_reducible refine wpList_load_mach ?_ (.tmp 8) ?_ w2.heap.size ?_ N ?_ ?_
            · rfl
            · rfl
            · rfl
            · exact I6.out.mi)
         | (with_reducible refine wpList_store_mach ?_ (.tmp 6) (.tmp 73) ?_ (w.heap.size+1) ?_ {} N ?_ ?_ ?_
            · rfl
            · rfl
            · rfl
            · rfl
            · exact I6.out.res
            intro w8 hb8 hk8 hs8
            have hK8:=I6.out.k.into hk8 (by omega)))
        exact bodyPost_ret (v:=.agg (mCells N)) (results_mach Tryz.results14 _ _ _ N rfl hb8) rfl ⟨by rw [eF.out],hK8⟩
 | true=>
   have hor:=or_u P.last startB
   rw [startB_nat] at hor
   obtain ⟨Z,hZ⟩:∃Z,Hid (P.last|||startB=Z):=⟨_,rfl⟩
   rw [hZ.out] at hor
   go_enter Tryz.func14,Tryz.ntmps14
   go_wp2_with (first
    | (go_at_call 32
       refine (hw.out _ k0.out).mono ?_
       rintro e w1 ⟨rfl,k1⟩
       have p1:=p0.out.kept k1 (by simp)
       have r1:=Blk.kept r0.out k1 (by simp)
       have K1:=k0.out.trans k1
       have L1:=Blk.lt r1)
    | (with_reducible refine wpList_store_part ?_ (.tmp 7) (.tmp 13) ?_ w1.heap.size ?_ {} P ?_ ?_ ?_
       · rfl
       · rfl
       · rfl
       · rfl
       · exact Blk.new w1 (gpCells {}) 107
       intro w2 hb2 hk2 hs2
       have p2:=(p1.alloc (.cells (gpCells {}) 107)).kept hk2 (by simp;omega)
       have r2:=Blk.kept (Blk.alloc r1 (.cells (gpCells {}) 107)) hk2 (by simp;omega)
       have K2:Kept [] w w2:=(K1.alloc (.cells (gpCells {}) 107)).into hk2 (by omega)
       have c3:=hb2.part3
       have L2:=hb2.lt
       clear hs2 hk2)
    | (refine wpList_build_mach rfl (.tmp 15) rfl whole P.last rfl ?_)
    | (with_reducible refine wpList_store_mach ?_ (.tmp 8) (.tmp 16) ?_ w2.heap.size ?_ {} { whole:=whole,last:=P.last } ?_ ?_ ?_
       · rfl
       · rfl
       · rfl
       · rfl
       · exact Blk.new w2 (mCells {}) 69
       intro w3 hb3 hk3 hs3
       have I3:BdIn w w3 w1.heap.size w2.heap.size (.slice va ns.length cap) size P { whole:=whole,last:=P.last }:=⟨hb3,(hb2.alloc (.cells (mCells {}) 69)).kept hk3 (by simp;omega),(p2.alloc (.cells (mCells {}) 69)).kept hk3 (by simp;omega),Blk.kept (Blk.alloc r2 (.cells (mCells {}) 69)) hk3 (by simp;omega),(K2.alloc (.cells (mCells {}) 69)).into hk3 (by omega),L1,L2⟩
       clear c3 hs3 hk3
       have d1:=I3.pt.part1
       rw [hem] at d1
       have d2:=I3.pt.part2
       have d3:=I3.mi.next (i:=60) (by decide)
       have f3:=I3.mi.frozen 62
       have d4:=I3.mi.last
       have f4:=I3.mi.frozen 323
       have H0:Hid (BdIn w ((w3.setCell ⟨w2.heap.size,62,none⟩ (UV P.first)).setCell ⟨w2.heap.size,323,none⟩ (UV Z)) w1.heap.size w2.heap.size (.slice va ns.length cap) size P (buildQ ns P fold whole 0)):=by
        have e:buildQ ns P fold whole 0={ nextM { whole:=whole,last:=P.last } 60 P.first with last:=Z }:=by simp [buildQ,build0,hem,nextM,hZ.out]
        rw [e]
        exact (I3.set 62 (UV P.first) (nextM_set _ 60 _ (by decide))).set 323 (UV Z) (m_set_last _ Z)))
   go_loopw [9] (fun iv wr=>∃q:Nat,iv=.int .i64 (q:Int)∧q≤P.count∧BdIn w wr w1.heap.size w2.heap.size (.slice va ns.length cap) size P (buildQ ns P fold whole q)) (fun iv _=>((P.count:Int)-intOf iv).toNat)
   case atStart=>exact ⟨0,rfl,Nat.zero_le _,H0.out⟩
   case round=>
    obtain ⟨q,rfl,hq,hI⟩:=hrel
    clear H0 k0 p0 r0 hw K1 K2 p1 r1 k1 p2 r2 hb2 hb3 I3 d1 d2 d3 d4 f3 f4 hz hzm
    have hgs:w.heap.size≤w2.heap.size:=by omega
    by_cases hlt:(q:Int)<(P.count:Int)
    · have hqn:q<P.count:=by omega
      have hq60:q<60:=by omega
      have hq60i:(q:Int)<60:=by omega
      have c0:=hI.pt.part0
      have c1:wr.cell? ⟨w1.heap.size,4+q,none⟩=some (UV (P.next q)):=by rw [hI.pt.cell,part_next _ _ hq60]
      have c2:wr.cell? ⟨w1.heap.size,64+q,none⟩=some (.int .i64 (P.node q:Int)):=by rw [hI.pt.cell,part_node _ _ hq60]
      have c3:wr.cell? ⟨w.heap.size,0,none⟩=some (.slice va ns.length cap):=by rw [hI.pat.cell];rfl
      have c4:=hI.mi.next (i:=q) (by omega)
      have f4:=hI.mi.frozen (2+q)
      have L3:=hI.lt
      have L4:=hI.ltg
      have I9:=hI.set (2+q) (UV (P.next q)) (nextM_set _ q _ (by omega))
      have hnq:=hnd q
      by_cases hnode:(P.node q:Int)<(ns.length:Int)
      · have hnn:P.node q<ns.length:=by omega
        obtain ⟨n,hn1⟩:∃n,ns[P.node q]?=some n:=⟨_,List.getElem?_eq_getElem hnn⟩
        obtain ⟨x,hx1⟩:∃x,xs[P.node q]?=some x:=⟨_,List.getElem?_eq_getElem (by have:=h.len;omega)⟩
        obtain ⟨gN,cap',hv⟩:=own_form h.row (by omega)
        simp only [Value.slice.injEq] at hv
        obtain ⟨rfl,_,rfl⟩:=hv
        have hrg:=range_kept (node_range h.row hn1 hx1) I9.k (by simp) (by simp [AN.cells])
        have hits1:=h.items _ _ _ hn1 hx1
        have hne:(ivV x).ownBlock≠some w2.heap.size:=fun hc=>by have:=hits1.lt _ hc;omega
        have hlearn:Hid (Calls _ _ _ _ _):=learn_any _ w2.heap.size (1#64 <<< q) n x fold B _ I9.mi (row_kept0 hits1 I9.k) (hits n (List.mem_of_getElem? hn1)) hne
        have eB:Hid (buildQ ns P fold whole (q+1)=learnP (nextM (buildQ ns P fold whole q) q (P.next q)) (1#64 <<< q) n fold):=by
         show buildQ ns P fold whole (q+1)=_
         rw [buildQ,hn1]
        have I9H:Hid (BdIn _ _ _ _ _ _ _ _):=I9
        have hw1:IntKind.wrap .u64 ((2:Int) ^ q)=((1#64 <<< q:B64).toNat:Int):=by rw [←one_shl (by omega)];exact wrap_u _ (BitVec.isLt _)
        have hw2:IntKind.wrap .u64 (1*(2:Int) ^ q)=((1#64 <<< q:B64).toNat:Int):=by rw [Int.one_mul];exact hw1
        generalize hSS:(1#64 <<< q:B64)=S at *
        clear hSS hn1 hx1 hits1 hne h hits hI I9 hn hfit hnd
        go_wp2_with (first
         | (with_reducible refine wpList_load_node ?_ (.tmp 65) ?_ gN (P.node q*8) ?_ n x ?_ ?_
            · rfl
            · rfl
            · first | rfl | (simp [Act.eval])
            · exact hrg)
         | (go_at_call 33
            with_reducible refine hlearn.out.mono ?_
            rintro e w8 ⟨rfl,h8,k8⟩
            have I10:Hid (BdIn _ _ _ _ _ _ _ _):=I9H.out.into h8 k8))
        refine ⟨⟨q+1,by go_num,by omega,by rw [eB.out];exact I10.out⟩,?_⟩
        simp only [intOf];omega
      · have hnn:ns[P.node q]?=none:=List.getElem?_eq_none (by omega)
        have eB:Hid (buildQ ns P fold whole (q+1)=nextM (buildQ ns P fold whole q) q (P.next q)):=by
         show buildQ ns P fold whole (q+1)=_
         rw [buildQ,hnn]
        have I9H:Hid (BdIn _ _ _ _ _ _ _ _):=I9
        have hnode:(ns.length:Int)≤(P.node q:Int):=by omega
        clear hnn h hits hI I9 hn hfit hnd
        go_wp2
        refine ⟨⟨q+1,by go_num,by omega,by rw [eB.out];exact I9H.out⟩,?_⟩
        simp only [intOf];omega
    · have hqe:P.count=q:=by omega
      have eB:Hid (buildP ns P fold whole=buildQ ns P fold whole q):=by show buildP ns P fold whole=_;unfold buildP;rw [hqe]
      have c0:=hI.pt.part0
      have hIH:Hid (BdIn _ _ _ _ _ _ _ _):=hI
      have hMw:(buildQ ns P fold whole q).whole=whole:=buildQ_whole ns P fold whole q
      clear hqe hI h hits hn hfit hnd
      generalize buildQ ns P fold whole q=M at *
      have eF:Hid (finP (buildP ns P fold whole)=if whole=true then begM M else anyP (begM M)):=by
       show finP _=_
       rw [eB.out]
       unfold finP
       rw [hMw]
      clear eB hMw
      have hfe:Hid (∀w',MIn w' w2.heap.size M→Calls _ _ _ w' _):=fun w' h=>findEnds_any M w2.heap.size w' h
      have haa:Hid (∀w',MIn w' w2.heap.size (begM M)→Calls _ _ _ w' _):=fun w' h=>allowAnywhere_any (begM M) w2.heap.size w' h
      cases whole with
      | true=>
        rw [if_pos rfl] at eF
        generalize hN:begM M=N at *
        clear hN haa
        go_wp2_with (first
         | (go_at_call 34
            with_reducible refine (hfe.out _ hIH.out.mi).mono ?_
            rintro e w7 ⟨rfl,h7,k7⟩
            have I7:Hid (BdIn _ _ _ _ _ _ _ _):=hIH.out.into h7 k7)
         | (with_reducible refine wpList_load_mach ?_ (.tmp 8) ?_ w2.heap.size ?_ N ?_ ?_
            · rfl
            · rfl
            · rfl
            · exact I7.out.mi)
         | (with_reducible refine wpList_store_mach ?_ (.tmp 6) (.tmp 73) ?_ (w.heap.size+1) ?_ {} N ?_ ?_ ?_
            · rfl
            · rfl
            · rfl
            · rfl
            · exact I7.out.res
            intro w8 hb8 hk8 hs8
            have hK8:=I7.out.k.into hk8 (by omega)))
        exact bodyPost_ret (v:=.agg (mCells N)) (results_mach Tryz.results14 _ _ _ N rfl hb8) rfl ⟨by rw [eF.out],hK8⟩
      | false=>
        rw [if_neg (by decide)] at eF
        generalize hN:anyP (begM M)=N at *
        clear hN
        go_wp2_with (first
         | (go_at_call 34
            with_reducible refine (hfe.out _ hIH.out.mi).mono ?_
            rintro e w7 ⟨rfl,h7,k7⟩
            have I7:Hid (BdIn _ _ _ _ _ _ _ _):=hIH.out.into h7 k7)
         | (go_at_call 35
            with_reducible refine (haa.out _ I7.out.mi).mono ?_
            rintro e w6 ⟨rfl,h6,k6⟩
            have I6:Hid (BdIn _ _ _ _ _ _ _ _):=I7.out.into h6 k6)
         | (with_reducible refine wpList_load_mach ?_ (.tmp 8) ?_ w2.heap.size ?_ N ?_ ?_
            · rfl
            · rfl
            · rfl
            · exact I6.out.mi)
         | (with_reducible refine wpList_store_mach ?_ (.tmp 6) (.tmp 73) ?_ (w.heap.size+1) ?_ {} N ?_ ?_ ?_
            · rfl
            · rfl
            · rfl
            · rfl
            · exact I6.out.res
            intro w8 hb8 hk8 hs8
            have hK8:=I6.out.k.into hk8 (by omega)))
        exact bodyPost_ret (v:=.agg (mCells N)) (results_mach Tryz.results14 _ _ _ N rfl hb8) rfl ⟨by rw [eF.out],hK8⟩
structure Ready (ns:List AN):Prop where
 len:ns.length≤900
 fit:NodesFit ns
 its:∀n,n∈ns→n.its.length≤1000
 count:(lastQ ns ns.length).count≤60
 node:∀i,(lastQ ns ns.length).node i≤10000
def allReady:Prop:=∀(t:ByteArray) (r:Nat×PS),t.size≤40→Ev t 0 0 st0 r→¬BadR t r→sizeAt r.2.2 r.1≤60→Ready r.2.2
def allSame:Prop:=∀(t:ByteArray) (r:Nat×PS),t.size≤40→Ev t 0 0 st0 r→¬BadR t r→sizeAt r.2.2 r.1≤60→∀(fold whole:Bool) (l:ByteArray),matchesN (finP (buildP r.2.2 (lastQ r.2.2 r.2.2.length) fold whole)) l=matchesP (buildP r.2.2 (lastQ r.2.2 r.2.2.length) fold whole) l
theorem res_two' {w x:World} {k:Nat} {T:TypeId} {c0 c1:Value} (hk:w.heap.size≤k) (h:Blk x k #[c0,c1] T) (hb:Below w.heap.size w x) (u0 u1:Value):
 ((x.setCell ⟨k,0,none⟩ u0).setCell ⟨k,1,none⟩ u1).cell? ⟨k,0,none⟩=some u0 ∧
 ((x.setCell ⟨k,0,none⟩ u0).setCell ⟨k,1,none⟩ u1).cell? ⟨k,1,none⟩=some u1 ∧
 Below w.heap.size w ((x.setCell ⟨k,0,none⟩ u0).setCell ⟨k,1,none⟩ u1):=by
 have h2:=(h.set 0 u0).set 1 u1
 refine ⟨by rw [h2.cell];rfl,by rw [h2.cell];rfl,(hb.setCell hk _).setCell hk _⟩
theorem sread_neg (inv fold whole num:Bool) (mx:Int) (t:ByteArray) (w:World) (hm:mx<0):
 Calls Tryz.prog 12 #[.agg #[.bool inv,.bool fold,.bool whole,.bool num,.int .i64 mx],.string t] w fun e w'=>e=.returned (.tuple #[.agg #[.slice none 0 0,.int .i64 0],.int .i64 1])∧Below w.heap.size w w':=by
 have blw:Below w.heap.size w ((w.alloc (.cells #[.bool inv,.bool fold,.bool whole,.bool num,.int .i64 mx] 23)).alloc (.cells #[.slice none 0 0,.int .i64 0] 54)):=((Below.refl w.heap.size w).alloc (Nat.le_refl _) _).alloc (by simp) _
 go_enter Tryz.func12,Tryz.ntmps12
 go_wp2
 refine bodyPost_ret (v:=.tuple #[.agg #[.slice none 0 0,.int .i64 0],.int .i64 1]) (by simp [results,Tryz.results12,go_sem]) rfl ⟨rfl,blw⟩
theorem sread_long (inv fold whole num:Bool) (mx:Int) (t:ByteArray) (w:World) (hm0:0≤mx) (h:40<t.size) (hs:t.size≤maxLen):
 Calls Tryz.prog 12 #[.agg #[.bool inv,.bool fold,.bool whole,.bool num,.int .i64 mx],.string t] w fun e w'=>e=.returned (.tuple #[.agg #[.slice none 0 0,.int .i64 0],.int .i64 3])∧Below w.heap.size w w':=by
 go_enter Tryz.func12,Tryz.ntmps12
 go_wp2_with fail
 refine (read_long t _ h hs).mono ?_
 rintro e w1 ⟨rfl,b1⟩
 have hsz1:=b1.size
 simp at hsz1
 have blw:Below w.heap.size w w1:=(((Below.refl w.heap.size w).alloc (Nat.le_refl _) _).alloc (by simp) _).trans (b1.mono (by simp;omega))
 have bl1:Blk w1 (w.heap.size+1) #[.slice none 0 0,.int .i64 0] 54:=(b1.block (w.heap.size+1) (by simp)).trans (Blk.new1 w _ _ _)
 have g0:=bl1.frozen 0
 have g1:=bl1.frozen 1
 have g2:=bl1.cell 0
 have g3:=bl1.cell 1
 obtain ⟨q0,q1,q2⟩:=res_two' (Nat.le_succ _) bl1 blw (.slice none 0 0) (.int .i64 0)
 clear b1 bl1 blw
 go_wp2
 refine bodyPost_ret (v:=.tuple #[.agg #[.slice none 0 0,.int .i64 0],.int .i64 3]) (by simp [results,Tryz.results12,go_sem,q0,q1]) rfl ⟨rfl,q2⟩
theorem sread_any (inv fold whole num:Bool) (mx:Int) (t:ByteArray) (w:World) (hm0:0≤mx) (h:t.size≤40):
 Calls Tryz.prog 12 #[.agg #[.bool inv,.bool fold,.bool whole,.bool num,.int .i64 mx],.string t] w fun e w'=>ReadOut t w w' e:=by
 go_enter Tryz.func12,Tryz.ntmps12
 go_wp2_with fail
 refine (read_any t _ h).mono ?_
 rintro e w1 ⟨b1,r,hev,hidx,hcase⟩
 have hsz1:=b1.size
 simp at hsz1
 have blw:Below w.heap.size w w1:=(((Below.refl w.heap.size w).alloc (Nat.le_refl _) _).alloc (by simp) _).trans (b1.mono (by simp;omega))
 have bl1:Blk w1 (w.heap.size+1) #[.slice none 0 0,.int .i64 0] 54:=(b1.block (w.heap.size+1) (by simp)).trans (Blk.new1 w _ _ _)
 have g0:=bl1.frozen 0
 have g1:=bl1.frozen 1
 have g2:=bl1.cell 0
 have g3:=bl1.cell 1
 have hOut:Hid (∀w' e,Below w.heap.size w w'→_→ReadOut t w w' e):=fun w' e hb h=>⟨hb,r,hev,hidx,h⟩
 clear b1 hev hidx
 rcases hcase with ⟨hb,rfl⟩ | ⟨hb,hz,rfl⟩ | ⟨hb,hz,b,ao,n,c,xs,hbb,hn,rfl⟩
 · obtain ⟨q0,q1,q2⟩:=res_two' (Nat.le_succ _) bl1 blw (.slice none 0 0) (.int .i64 0)
   have hbH:Hid (BadR t r):=hb
   clear hb bl1 blw
   go_wp2
   refine bodyPost_ret (v:=.tuple #[.agg #[.slice none 0 0,.int .i64 0],.int .i64 2]) (by simp [results,Tryz.results12,go_sem,q0,q1]) rfl ?_
   exact hOut.out _ _ q2 (Or.inl ⟨hbH.out,rfl⟩)
 · obtain ⟨q0,q1,q2⟩:=res_two' (Nat.le_succ _) bl1 blw (.slice none 0 0) (.int .i64 0)
   have hbH:Hid (¬BadR t r∧60<sizeAt r.2.2 r.1):=⟨hb,hz⟩
   clear hb hz bl1 blw
   go_wp2
   refine bodyPost_ret (v:=.tuple #[.agg #[.slice none 0 0,.int .i64 0],.int .i64 3]) (by simp [results,Tryz.results12,go_sem,q0,q1]) rfl ?_
   exact hOut.out _ _ q2 (Or.inr (Or.inl ⟨hbH.out.1,hbH.out.2,rfl⟩))
 · simp at hbb
   obtain ⟨q0,q1,q2⟩:=res_two' (Nat.le_succ _) bl1 blw (.slice ao n c) (.int .i64 (sizeAt r.2.2 r.1))
   have n3:=(hn.other (k:=w.heap.size+1) (by omega) 0 (.slice ao n c)).other (k:=w.heap.size+1) (by omega) 1 (.int .i64 (sizeAt r.2.2 r.1))
   have hfin:=hOut.out _ (.returned (.tuple #[.agg #[.slice ao n c,.int .i64 (sizeAt r.2.2 r.1)],.int .i64 0])) q2 (Or.inr (Or.inr ⟨hb,hz,b,ao,n,c,xs,by omega,n3,rfl⟩))
   have hfin:Hid _:=hfin
   clear hOut hb hz bl1 blw hn n3
   generalize sizeAt r.2.2 r.1=Z at *
   go_wp2
   refine bodyPost_ret (v:=.tuple #[.agg #[.slice ao n c,.int .i64 Z],.int .i64 0]) (by simp [results,Tryz.results12,go_sem,q0,q1]) rfl ?_
   exact hfin.out
theorem NV.nodesIn {w:World} {b:Nat} {t:ByteArray} {s:RS} {ns:List AN} {v:Value} {xs:List IV} (h:NV w b t s ns v xs):NodesIn w (b+1) v ns xs:=⟨h.row,h.len,h.items⟩
end Go.Proofs.YtgifhgnccmnbiabGreat
