/- The document's machine: a part, walked; NewMachine. -/
import Derived.Test.YtgifhgnccmnbiabGreatG47
import Derived.Test.YtgifhgnccmnbiabGreatG40
import Derived.Test.YtgifhgnccmnbiabGreatG33
import Derived.Test.YtgifhgnccmnbiabGreatG46
import Derived.Test.YtgifhgnccmnbiabGreatG23
import Derived.Test.YtgifhgnccmnbiabGreatG20
set_option linter.unusedVariables false
set_option linter.unusedSimpArgs false
set_option maxHeartbeats 4000000
set_option maxRecDepth 100000
namespace Go.Proofs.YtgifhgnccmnbiabGreat
open Go.RowKit Go.IntWalk
section
variable {ps:List PN} {adrs:List Nat} {F:Nat→Prop} {base mb:Nat} {oc:OpD} {st:Int}
theorem dpart_leaf (hF:∀i,F i→i<base) {j:Nat} {p:PN} (hp:ps[j]?=some p) (hk:p.kind=1∨p.kind=2∨p.kind=3):MPartC ps adrs F base mb oc st j:=by
 intro f hf w N nv nx hM hP hn hb
 obtain ⟨f,rfl⟩:∃f',f=f'+1:=⟨f-1,by omega⟩
 rw [partD_some hp,if_neg (by omega),if_neg (by omega),if_neg (by omega)] at hb ⊢
 have hl:N.length≤1000000:=by simp at hb;omega
 obtain ⟨ka,c,hpf⟩:=hP.pfc hF hM.up hp
 obtain ⟨a,ha⟩:∃a,a=adrs.getD j 0:=⟨_,rfl⟩
 have hpt:ptrTo adrs j=.pointer (some ⟨a,0,none⟩):=by rw [ha];rfl
 rw [←ha] at hpf
 have c0:=hpf.c0
 have hal:a<w.heap.size:=Nat.lt_of_lt_of_le hpf.la hpf.lw
 have hx:=dnode_any hM hl { kind:=p.kind,part:=j,next:=nx }
 have hpv:partV adrs { kind:=p.kind,part:=j,next:=nx }=.pointer (some ⟨a,0,none⟩):=by
  unfold partV
  rw [if_pos (by show p.kind≤3;omega)]
  exact hpt
 rw [hpv] at hx
 rw [hpt]
 have hc:Hid (Calls Tryz.prog 47 #[.pointer (some ⟨mb,0,none⟩),.agg #[.int .i64 p.kind,.pointer (some ⟨a,0,none⟩),.int .i64 (nx:Int),.int .i64 0]] w _):=hx
 clear hx hpv hpf hpt ha hP hM hb
 rcases hk with hk | hk | hk <;>
 · rw [hk] at c0 hc ⊢
   go_enter Tryz.func48,Tryz.ntmps48
   go_wp2_with fail
   refine hc.out.mono ?_
   rintro e w2 ⟨rfl,b2,m2⟩
   have m2H:Hid (_∧_):=⟨b2,m2⟩
   clear b2 m2
   go_wp2
   go_ret
   exact ⟨rfl,m2H.out.1,m2H.out.2⟩
theorem dpart_row (hw:WfP ps) (h5:Kids5 ps) (hF:∀i,F i→i<base) {j:Nat} {p:PN} (hp:ps[j]?=some p) (hk:p.kind=4) (hgo:∀k,k∈p.kids→GoodT ps k) (ih:∀k,k∈p.kids→MPartC ps adrs F base mb oc st k):MPartC ps adrs F base mb oc st j:=by
 intro f hf w N nv nx hM hP hn hb
 obtain ⟨f,rfl⟩:∃f',f=f'+1:=⟨f-1,by omega⟩
 rw [partD_some hp,if_pos hk] at hb ⊢
 have hkf:∀k,k∈p.kids→k<f:=fun k hk=>by have:=hw j p hp k hk;omega
 have hbk:∀k,k∈p.kids→BuildOk ps (partD ps f k) (fun fold t=>MatR ps fold t k):=fun k hk=>partD_ok hw h5 (hgo k hk) f (hkf k hk)
 have hlt:Hid (∀m,(rowD (partD ps f) (p.kids.drop m) (nx,N)).1<(rowD (partD ps f) (p.kids.drop m) (nx,N)).2.length):=fun m=>(bld_row (Q:=fun k fold t=>MatR ps fold t k) hn (p.kids.drop m) (fun k hk=>hbk k (List.mem_of_mem_drop hk))).lt
 have hlen:Hid (∀m,(rowD (partD ps f) (p.kids.drop m) (nx,N)).2.length≤1000000):=fun m=>Nat.le_trans (row_drop (ps:=ps) (Q:=fun k fold t=>MatR ps fold t k) hn p.kids hbk m) hb
 have hcall:Hid (∀k,k∈p.kids→∀w' N' nv' nx',Below base w w'→MC w' base mb oc st adrs N' nv'→nx'<N'.length→(partD ps f k nx' N').2.length≤1000000→Calls _ _ _ w' _):=fun k hk w' N' nv' nx' b m h1 h2=>ih k hk f (hkf k hk) w' N' nv' nx' m (hP.below hF b) h1 h2
 obtain ⟨ka,c,hpf⟩:=hP.pfc hF hM.up hp
 obtain ⟨a,ha⟩:∃a,a=adrs.getD j 0:=⟨_,rfl⟩
 have hpt:ptrTo adrs j=.pointer (some ⟨a,0,none⟩):=by rw [ha];rfl
 rw [←ha] at hpf
 have hpfH:Hid (PFc _ _ _ _ _ _ _):=hpf
 have c0:=hpf.c0
 have c3:=hpf.c3
 have hal:a<w.heap.size:=Nat.lt_of_lt_of_le hpf.la hpf.lw
 have hb0:Hid (Below base w w):=Below.refl _ _
 have hMH:Hid (MC _ _ _ _ _ _ _ _):=hM
 have hmaxH:Hid (p.kids.length≤maxLen):=by
  show _≤_
  obtain ⟨_,iv,kv,po⟩:=hP.part j p hp
  rcases po.kids.2 with ⟨_,h2⟩ | ⟨g,cap,cu,_,_,_,h4,h6,_⟩
  · rw [h2];exact Nat.zero_le _
  · omega
 have hmax:=hmaxH.out
 unfold maxLen at hmax
 rw [hpt]
 rw [hk] at c0
 have hmemH:Hid (∀m,m<p.kids.length→p.kids.getD m 0∈p.kids∧p.kids.drop m=p.kids.getD m 0 :: p.kids.drop (m+1)):=fun m hm=>by
  have e:p.kids.getD m 0=p.kids[m]:=by simp [List.getD,hm]
  rw [e]
  exact ⟨List.getElem_mem _,List.drop_eq_getElem_cons hm⟩
 clear hpf hpt ha hP hM hb ih hgo hbk hkf hw h5
 obtain ⟨kn,hkn⟩:∃kn,kn=p.kids.length:=⟨_,rfl⟩
 have hknH:Hid (kn=p.kids.length):=hkn
 rw [←hkn] at c3 hmax
 clear hkn
 go_enter Tryz.func48,Tryz.ntmps48
 go_wp2_with fail
 go_loopw [2,7] (fun av iv wr=>∃(m:Nat) (nvq:Value),iv=.int .i64 ((m:Int)-1)∧m≤kn∧av=.int .i64 ((rowD (partD ps f) (p.kids.drop m) (nx,N)).1:Int)∧MC wr base mb oc st adrs (rowD (partD ps f) (p.kids.drop m) (nx,N)).2 nvq∧Below base w wr) (fun _ iv _=>(intOf iv+1).toNat)
 case atStart=>
  refine ⟨kn,nv,rfl,Nat.le_refl _,?_,?_,hb0.out⟩
  · rw [hknH.out,List.drop_length];rfl
  · rw [hknH.out,List.drop_length];exact hMH.out
 case round=>
  obtain ⟨m,nvq,rfl,hm,rfl,mq,bq⟩:=hrel
  have mqH:Hid (MC _ _ _ _ _ _ _ _):=mq
  have bqH:Hid (Below base w _):=bq
  have q:=hpfH.out.below bq
  have c3':=q.c3
  rw [←hknH.out] at c3'
  have hal':a<wr.heap.size:=Nat.lt_of_lt_of_le q.la q.lw
  clear hMH hb0 mq bq
  by_cases h0:0≤(m:Int)-1
  · obtain ⟨m,rfl⟩:∃m',m=m'+1:=⟨m-1,by omega⟩
    have e1:((m+1:Nat):Int)-1=(m:Int):=by omega
    rw [e1] at *
    obtain ⟨gk,rfl,hgk,hkc⟩:=q.kid m (by rw [←hknH.out];omega)
    have hgkl:gk<wr.heap.size:=Nat.lt_of_lt_of_le hgk q.lw
    obtain ⟨hmem,hdrop⟩:=hmemH.out m (by rw [←hknH.out];omega)
    have hs:Hid (rowD (partD ps f) (p.kids.drop m) (nx,N)=partD ps f (p.kids.getD m 0) (rowD (partD ps f) (p.kids.drop (m+1)) (nx,N)).1 (rowD (partD ps f) (p.kids.drop (m+1)) (nx,N)).2):=by
     show _=_;rw [hdrop];rfl
    have hgl:=hlen.out m
    rw [hs.out] at hgl
    have hsl:=hlt.out (m+1)
    have hk1:=hcall.out _ hmem
    have hk1H:Hid (∀w' N' nv' nx',_):=hk1
    obtain ⟨a0,ha0⟩:∃a0,ptrTo adrs (p.kids.getD m 0)=.pointer (some ⟨a0,0,none⟩):=⟨_,rfl⟩
    rw [ha0] at hkc hk1H
    clear hk1 q ha0 hmem hdrop e1
    go_wp2_with fail
    refine (hk1H.out _ _ nvq _ bqH.out mqH.out hsl hgl).mono ?_
    rintro e w2 ⟨rfl,b2,nv2,m2⟩
    have b2H:Hid (Below base w w2):=bqH.out.trans b2
    have m2H:Hid (MC _ _ _ _ _ _ _ _):=m2
    clear b2 m2 hkc c3' mqH bqH
    go_wp2
    refine ⟨⟨m,nv2,by go_num,by omega,by rw [hs.out];rfl,by rw [hs.out];exact m2H.out,b2H.out⟩,?_⟩
    simp only [intOf];omega
  · obtain rfl:m=0:=by omega
    clear q
    go_wp2
    go_ret
    rw [List.drop_zero] at mqH
    exact ⟨rfl,bqH.out,_,mqH.out⟩
theorem dpart_alt (hw:WfP ps) (h5:Kids5 ps) (hF:∀i,F i→i<base) {j:Nat} {p:PN} (hp:ps[j]?=some p) (hk:p.kind=5) (hgo:∀k,k∈p.kids→GoodT ps k) (ih:∀k,k∈p.kids→MPartC ps adrs F base mb oc st k):MPartC ps adrs F base mb oc st j:=by
 intro f hf w N nv nx hM hP hn hb
 obtain ⟨f,rfl⟩:∃f',f=f'+1:=⟨f-1,by omega⟩
 rw [partD_some hp,if_neg (by omega),if_pos hk] at hb ⊢
 have hkf:∀k,k∈p.kids→k<f:=fun k hk=>by have:=hw j p hp k hk;omega
 have hbk:∀k,k∈p.kids→BuildOk ps (partD ps f k) (fun fold t=>MatR ps fold t k):=fun k hk=>partD_ok hw h5 (hgo k hk) f (hkf k hk)
 have hcall:Hid (∀k,k∈p.kids→∀w' N' nv' nx',Below base w w'→MC w' base mb oc st adrs N' nv'→nx'<N'.length→(partD ps f k nx' N').2.length≤1000000→Calls _ _ _ w' _):=fun k hk w' N' nv' nx' b m h1 h2=>ih k hk f (hkf k hk) w' N' nv' nx' m (hP.below hF b) h1 h2
 obtain ⟨ka,c,hpf⟩:=hP.pfc hF hM.up hp
 obtain ⟨a,ha⟩:∃a,a=adrs.getD j 0:=⟨_,rfl⟩
 have hpt:ptrTo adrs j=.pointer (some ⟨a,0,none⟩):=by rw [ha];rfl
 rw [←ha] at hpf
 have hpfH:Hid (PFc _ _ _ _ _ _ _):=hpf
 have hmaxH:Hid (p.kids.length≤maxLen):=by
  show _≤_
  obtain ⟨_,iv,kv,po⟩:=hP.part j p hp
  rcases po.kids.2 with ⟨_,h2⟩ | ⟨g,cap,cu,_,_,_,h4,h6,_⟩
  · rw [h2];exact Nat.zero_le _
  · omega
 have hmax:=hmaxH.out
 unfold maxLen at hmax
 obtain ⟨k0,l,hkl⟩:∃k0 l,p.kids=k0 :: l:=by
  cases hx:p.kids with
  | nil=>exact absurd hx (h5 j p hp hk)
  | cons k0 l=>exact ⟨k0,l,rfl⟩
 have c0:=hpf.c0
 have c3:=hpf.c3
 have hal:a<w.heap.size:=Nat.lt_of_lt_of_le hpf.la hpf.lw
 obtain ⟨gk,rfl,hgk,hk0⟩:=hpf.kid 0 (by rw [hkl];simp)
 have hgkl:gk<w.heap.size:=Nat.lt_of_lt_of_le hgk hpf.lw
 have hkd:∀q,q<l.length→p.kids.getD (q+1) 0=l.getD q 0∧l.getD q 0∈p.kids:=fun q hq=>by
  refine ⟨by rw [hkl];rfl,?_⟩
  have e:l.getD q 0=l[q]:=by simp [List.getD,hq]
  rw [e,hkl]
  exact List.mem_cons_of_mem _ (List.getElem_mem _)
 have hkdH:Hid (∀q,q<l.length→p.kids.getD (q+1) 0=l.getD q 0∧l.getD q 0∈p.kids):=hkd
 have hlenK:Hid (p.kids.length=l.length+1):=by show _=_;rw [hkl];rfl
 have hm0:k0∈p.kids:=by rw [hkl];exact List.mem_cons_self ..
 have hg0:p.kids.getD 0 0=k0:=by rw [hkl];rfl
 rw [hg0] at hk0
 have hB0:Hid (Bld ps N nx (partD ps f k0 nx N) _):=hbk k0 hm0 nx N hn
 have hlk:∀k,k∈l→BuildOk ps (partD ps f k) (fun fold t=>MatR ps fold t k):=fun k hk=>hbk k (by rw [hkl];exact List.mem_cons_of_mem _ hk)
 have hbq:Hid (∀q,∃S,Bld ps N nx ((l.take q).foldl (altS (partD ps f) nx) (partD ps f k0 nx N)) S):=fun q=>⟨_,bld_alt (Q:=fun k fold t=>MatR ps fold t k) (l.take q) _ _ hB0.out (fun k hk=>hlk k (List.mem_of_mem_take hk))⟩
 have hbd:Hid (∀q,((l.take q).foldl (altS (partD ps f) nx) (partD ps f k0 nx N)).2.length≤1000000):=fun q=>by
  obtain ⟨S,hS⟩:=hbq.out q
  have h1:=alt_grow (ps:=ps) (Q:=fun k fold t=>MatR ps fold t k) hn (l.drop q) _ S hS (fun k hk=>hlk k (List.mem_of_mem_drop hk))
  rw [←List.foldl_append,List.take_append_drop] at h1
  rw [hkl] at hb
  exact Nat.le_trans h1 hb
 have hfin:Hid (altD (partD ps f) nx N p.kids=(l.take l.length).foldl (altS (partD ps f) nx) (partD ps f k0 nx N)):=by
  show _=_;rw [hkl,List.take_length];rfl
 have hbd0:=hbd.out 0
 rw [List.take_zero] at hbd0
 have hbd0':(partD ps f k0 nx N).2.length≤1000000:=hbd0
 have hMH:Hid (MC _ _ _ _ _ _ _ _):=hM
 have hb0:Hid (Below base w w):=Below.refl _ _
 have hk1H:Hid (∀w' N' nv' nx',_):=hcall.out k0 hm0
 have hnH:Hid (nx<N.length):=hn
 have hmax2:l.length+1≤9223372036854775807:=by rw [←hlenK.out];exact hmax
 rw [hlenK.out] at c3
 obtain ⟨a0,ha0⟩:∃a0,ptrTo adrs k0=.pointer (some ⟨a0,0,none⟩):=⟨_,rfl⟩
 rw [ha0] at hk0 hk1H
 rw [hpt,hfin.out]
 rw [hk] at c0
 clear hpf hpt ha hP hM hb ih hgo hbk hkf hw h5 hkd hkl hm0 hg0 hlk hbd0 hmax hB0 ha0 hfin
 go_enter Tryz.func48,Tryz.ntmps48
 go_wp2_with fail
 refine (hk1H.out w N nv nx hb0.out hMH.out hn hbd0').mono ?_
 rintro e w1 ⟨rfl,b1,nv1,m1⟩
 have b1H:Hid (Below base w w1):=b1
 have m1H:Hid (MC _ _ _ _ _ _ _ _):=m1
 clear b1 m1 hk0 c3 c0 hal hgkl hk1H hMH hb0
 go_wp2_with fail
 go_loopw [8,9,10] (fun av iv _ wr=>∃(q:Nat) (nvq:Value),iv=.int .i64 ((q:Int)+1)∧q≤l.length∧av=.int .i64 (((l.take q).foldl (altS (partD ps f) nx) (partD ps f k0 nx N)).1:Int)∧MC wr base mb oc st adrs ((l.take q).foldl (altS (partD ps f) nx) (partD ps f k0 nx N)).2 nvq∧Below base w wr) (fun _ iv _ _=>((l.length:Int)+1-intOf iv).toNat)
 case atStart=>
  refine ⟨0,nv1,by simp,Nat.zero_le _,?_,?_,b1H.out⟩
  · rw [List.take_zero];rfl
  · rw [List.take_zero];exact m1H.out
 case round=>
  obtain ⟨q,nvq,rfl,hq,rfl,mq,bq⟩:=hrel
  have mqH:Hid (MC _ _ _ _ _ _ _ _):=mq
  have bqH:Hid (Below base w _):=bq
  have qf:=hpfH.out.below bq
  have c3':=qf.c3
  rw [hlenK.out] at c3'
  have hal':a<wr.heap.size:=Nat.lt_of_lt_of_le qf.la qf.lw
  have hgkl':gk<wr.heap.size:=Nat.lt_of_lt_of_le hgk qf.lw
  clear m1H b1H mq bq
  by_cases h0:(q:Int)+1<(l.length:Int)+1
  · obtain ⟨hd1,hd2⟩:=hkdH.out q (by omega)
    obtain ⟨gk',he,_,hkc⟩:=qf.kid (q+1) (by rw [hlenK.out];omega)
    cases he
    rw [hd1] at hkc
    have hnext:Hid ((l.take (q+1)).foldl (altS (partD ps f) nx) (partD ps f k0 nx N)=altS (partD ps f) nx ((l.take q).foldl (altS (partD ps f) nx) (partD ps f k0 nx N)) (l.getD q 0)):=by
     show _=_
     rw [take_next (show q<l.length by omega),List.foldl_append];rfl
    have hgl:=hbd.out (q+1)
    rw [hnext.out] at hgl
    obtain ⟨S,hS⟩:=hbq.out q
    have hNl:nx<((l.take q).foldl (altS (partD ps f) nx) (partD ps f k0 nx N)).2.length:=by have:=hS.grow;have:=hnH.out;omega
    have hk1:=hcall.out _ hd2
    have hk1H:Hid (∀w' N' nv' nx',_):=hk1
    generalize (l.take q).foldl (altS (partD ps f) nx) (partD ps f k0 nx N)=s at *
    have hal2:Hid (altS (partD ps f) nx s (l.getD q 0)=((partD ps f (l.getD q 0) nx s.2).2.length,(partD ps f (l.getD q 0) nx s.2).2++[forkN s.1 (partD ps f (l.getD q 0) nx s.2).1])):=rfl
    have hgl2:(partD ps f (l.getD q 0) nx s.2).2.length≤1000000:=by
     rw [hal2.out] at hgl
     simp at hgl
     simp only [List.getD]
     omega
    obtain ⟨a1,ha1⟩:∃a1,ptrTo adrs (l.getD q 0)=.pointer (some ⟨a1,0,none⟩):=⟨_,rfl⟩
    rw [ha1] at hkc hk1H
    clear hk1 qf ha1 hd1 hd2 hS hgl
    generalize l.getD q 0=kq at *
    go_wp2_with fail
    refine (hk1H.out _ _ nvq nx bqH.out mqH.out hNl hgl2).mono ?_
    rintro e w2 ⟨rfl,b2,nv2,m2⟩
    have b2H:Hid (Below base w w2):=bqH.out.trans b2
    have m2H:Hid (MC _ _ _ _ _ _ _ _):=m2
    clear b2 m2 hkc c3' mqH bqH hk1H
    go_wp2_with fail
    refine (dfork_any m2H.out hgl2 _ _).mono ?_
    rintro e w3 ⟨rfl,b3,nv3,m3⟩
    have b3H:Hid (Below base w w3):=b2H.out.trans b3
    have m3H:Hid (MC _ _ _ _ _ _ _ _):=m3
    clear b3 m3 b2H m2H
    go_wp2
    refine ⟨⟨q+1,nv3,by go_num,by omega,by rw [hnext.out,hal2.out],by rw [hnext.out,hal2.out];exact m3H.out,b3H.out⟩,?_⟩
    simp only [intOf];omega
  · obtain rfl:l.length=q:=by omega
    rw [List.take_length] at mqH
    clear qf
    go_wp2
    go_ret
    exact ⟨rfl,bqH.out,_,mqH.out⟩
theorem dpart_times (hw:WfP ps) (h5:Kids5 ps) (hF:∀i,F i→i<base) {j k0:Nat} {p:PN} (hp:ps[j]?=some p) (hk:p.kind=6) (hkids:p.kids=[k0]) (hg:GoodT ps k0) (l0:0≤p.least) (l9:p.least≤9) (m0:-1≤p.most) (m9:p.most≤9) (ih:MPartC ps adrs F base mb oc st k0):MPartC ps adrs F base mb oc st j:=by
 intro f hf w N nv nx hM hP hn hb
 obtain ⟨f,rfl⟩:∃f',f=f'+1:=⟨f-1,by omega⟩
 have hkf:k0<f:=by have:=hw j p hp k0 (by rw [hkids];exact List.mem_cons_self ..);omega
 rw [partD_some hp,if_neg (by omega),if_neg (by omega),if_pos hk,hkids,List.headD_cons] at hb ⊢
 have hc:Hid (Calls _ _ _ w _):=dtimes_any hw h5 hp hkids hg l0 l9 m0 m9 hF ih hkf hM hP hn hb
 obtain ⟨ka,c,hpf⟩:=hP.pfc hF hM.up hp
 obtain ⟨a,ha⟩:∃a,a=adrs.getD j 0:=⟨_,rfl⟩
 have hpt:ptrTo adrs j=.pointer (some ⟨a,0,none⟩):=by rw [ha];rfl
 rw [←ha] at hpf
 have c0:=hpf.c0
 have hal:a<w.heap.size:=Nat.lt_of_lt_of_le hpf.la hpf.lw
 rw [hpt] at hc ⊢
 rw [hk] at c0
 clear hpf hpt ha hP hM hb ih hg hw h5
 go_enter Tryz.func48,Tryz.ntmps48
 go_wp2_with fail
 refine hc.out.mono ?_
 rintro e w2 ⟨rfl,b2,m2⟩
 have m2H:Hid (_∧_):=⟨b2,m2⟩
 clear b2 m2
 go_wp2
 go_ret
 exact ⟨rfl,m2H.out.1,m2H.out.2⟩
theorem dpart_any (hw:WfP ps) (h5:Kids5 ps) (hF:∀i,F i→i<base) {k:Nat} (h:GoodT ps k):MPartC ps adrs F base mb oc st k:=by
 induction h with
 | leaf h1 h2=>exact dpart_leaf hF h1 h2
 | many h1 h2 h3 ih=>
   rcases h2 with h2 | h2
   · exact dpart_row hw h5 hF h1 h2 h3 ih
   · exact dpart_alt hw h5 hF h1 h2 h3 ih
 | times h1 h2 h3 h4 h6 h7 h8 h9 ih=>exact dpart_times hw h5 hF h1 h2 h3 h4 h6 h7 h8 h9 ih
end
def newD (ps:List PN) (k:Nat):DSt:=partD ps (k+1) k 0 [{ kind:=8 }]
structure NewMOut (w w':World) (e:Ending) (oc:OpD) (adrs:List Nat) (s:DSt):Prop where
 below:Below w.heap.size w w'
 ex:∃mb nv,e=.returned (.pointer (some ⟨mb,0,none⟩))∧MC w' w.heap.size mb oc (s.1:Int) adrs s.2 nv
theorem MC.start {w:World} {base mb:Nat} {oc:OpD} {st:Int} {adrs:List Nat} {N:List DN} {nv:Value} (h:MC w base mb oc st adrs N nv) (v:Int):
 w.frozen? ⟨mb,6,none⟩=false∧w.cell? ⟨mb,6,none⟩=some (.int .i64 st)∧mb<w.heap.size∧MC (w.setCell ⟨mb,6,none⟩ (.int .i64 v)) base mb oc v adrs N nv∧Below base w (w.setCell ⟨mb,6,none⟩ (.int .i64 v)):=
 ⟨h.blk.frozen 6,h.blk.cell 6,h.blk.lt,⟨h.blk.set 6 _,h.low,ownsRow_setCell_other h.row (fun hc=>absurd (own_type h.row h.blk hc) (by decide)) _⟩,(Below.refl _ _).setCell h.low _⟩
theorem dnew_any {ps:List PN} {adrs:List Nat} {F:Nat→Prop} (hw:WfP ps) (h5:Kids5 ps) {k:Nat} (hg:GoodT ps k) (oc:OpD) {w:World} (hP:PMs w ps adrs F) (hb:(newD ps k).2.length≤1000000):
 Calls Tryz.prog 22 #[.agg #[.bool oc.inv,.bool oc.fold,.bool oc.whole,.bool oc.num,.int .i64 oc.mx],ptrTo adrs k] w fun e w'=>NewMOut w w' e oc adrs (newD ps k):=by
 have hM0:MC ((w.alloc (.cells #[.bool oc.inv,.bool oc.fold,.bool oc.whole,.bool oc.num,.int .i64 oc.mx] 23)).alloc (.cells #[.bool oc.inv,.bool oc.fold,.bool oc.whole,.bool oc.num,.int .i64 oc.mx,.slice none 0 0,.int .i64 0] 100)) w.heap.size (w.heap.size+1) oc 0 adrs [] (.slice none 0 0):=
  ⟨Blk.new1 w _ _ _,by omega,World.ownsRow_nil _ _ _ 4⟩
 have hB0:Below w.heap.size w ((w.alloc (.cells #[.bool oc.inv,.bool oc.fold,.bool oc.whole,.bool oc.num,.int .i64 oc.mx] 23)).alloc (.cells #[.bool oc.inv,.bool oc.fold,.bool oc.whole,.bool oc.num,.int .i64 oc.mx,.slice none 0 0,.int .i64 0] 100)):=((Below.refl _ _).alloc (Nat.le_refl _) _).alloc (by simp) _
 have hnd:=dnode_any hM0 (by simp) { kind:=8 }
 have hpv:partV adrs { kind:=8 }=.pointer none:=if_neg (by show ¬(8:Int)≤3;decide)
 rw [hpv] at hnd
 have hndH:Hid (Calls Tryz.prog 47 #[.pointer (some ⟨w.heap.size+1,0,none⟩),.agg #[.int .i64 8,.pointer none,.int .i64 0,.int .i64 0]] _ _):=hnd
 have hB0H:Hid (Below _ _ _):=hB0
 have hpart:Hid (∀w' nv,MC w' w.heap.size (w.heap.size+1) oc 0 adrs [{ kind:=8 }] nv→Below w.heap.size w w'→Calls Tryz.prog 48 #[.pointer (some ⟨w.heap.size+1,0,none⟩),ptrTo adrs k,.int .i64 0] w' fun e w''=>NdOut w' w'' e w.heap.size (w.heap.size+1) oc 0 adrs (newD ps k)):=fun w' nv m b=>
  dpart_any hw h5 (fun i hi=>hP.old i hi) hg (k+1) (Nat.lt_succ_self _) w' _ nv 0 m (hP.below (fun i hi=>hP.old i hi) b) (by simp) hb
 obtain ⟨a0,ha0⟩:∃a0,ptrTo adrs k=.pointer (some ⟨a0,0,none⟩):=⟨_,rfl⟩
 rw [ha0] at hpart ⊢
 generalize newD ps k=s at *
 clear hM0 hB0 hnd hpv hP hb ha0 hw h5 hg
 obtain ⟨oi,of,ow,on,om⟩:=oc
 simp only [] at hndH hB0H ⊢
 go_enter Tryz.func22,Tryz.ntmps22
 go_wp2_with fail
 refine hndH.out.mono ?_
 rintro e w2 ⟨rfl,b2,nv2,m2⟩
 have b2H:Hid (Below w.heap.size w w2):=hB0H.out.trans b2
 have m2H:Hid (MC _ _ _ _ _ _ _ _):=m2
 clear b2 m2 hndH hB0H
 go_wp2_with fail
 refine (hpart.out _ nv2 m2H.out b2H.out).mono ?_
 rintro e w3 ⟨rfl,b3,nv3,m3⟩
 obtain ⟨p1,p2,p3,p4,p5⟩:=m3.start (s.1:Int)
 have p4H:Hid (MC _ _ _ _ _ _ _ _):=p4
 have p5H:Hid (Below w.heap.size w _):=(b2H.out.trans b3).trans p5
 clear b3 m3 p4 p5 m2H b2H hpart
 go_wp2
 go_ret
 exact ⟨p5H.out,_,_,rfl,p4H.out⟩
theorem run_set (M:MP) (l:ByteArray):∀q,q≤l.size→runM M ((bytesN l).take q) M.beg=setN M l q
 | 0,_=>by rw [List.take_zero];rfl
 | q+1,hq=>by
   have hb:(bytesN l)[q]?=some l[q].toNat:=by
    unfold bytesN
    rw [List.getElem?_map,Array.getElem?_toList,Array.getElem?_eq_getElem (show q<l.data.size from hq)]
    rfl
   rw [List.take_add_one,hb,runM_app,run_set M l q (by omega)]
   show fromP M (M.takes l[q].toNat) (setN M l q)=fromP M (M.takes (if h:q<l.size then l[q].toNat else 0)) (setN M l q)
   rw [dif_pos (by omega)]
theorem selSame {p:ByteArray} {r:Nat×PS} (h:PatOk p r) (fold whole inv:Bool) (l:ByteArray):selL (machOf r fold whole) inv (bytesN l)=(selB r fold whole l != inv):=by
 have e:selB r fold whole l=matchesN (machOf r fold whole) l:=(all_same p r h.small h.ev h.good h.size fold whole l).symm
 have e2:=run_set (machOf r fold whole) l l.size (Nat.le_refl _)
 rw [List.take_of_length_le (by rw [bytesN_len];omega)] at e2
 rw [e]
 unfold selL matchesN
 rw [e2]
 generalize decide (setN (machOf r fold whole) l l.size&&&(machOf r fold whole).en=0#64)=d
 cases d <;> cases inv <;> rfl
theorem bytesN_B3 {l:List Nat} (h:∀c,c∈l→c<256):bytesN (bytesB l)=l:=by
 unfold bytesN bytesB
 simp only [List.map_map]
 conv=>rhs;rw [←List.map_id l]
 refine List.map_congr_left fun c hc=>?_
 have:=h c hc
 simp only [Function.comp,id]
 rw [Nat.toUInt8_eq,UInt8.toNat_ofNat',show c % 2 ^ 8=c by omega]
def dOf (q:Nat×RP) (fold whole inv:Bool):DMa:={ nodes:=(newD q.2.2 q.1).2,start:=(newD q.2.2 q.1).1,ps:=q.2.2,fold:=fold,whole:=whole,inv:=inv }
theorem dOf_ok {q:Nat×RP} (hw:WfP q.2.2) (h5:Kids5 q.2.2) (hg:GoodT q.2.2 q.1) (fold whole inv:Bool):MaOk (dOf q fold whole inv) (fun fold t=>MatR q.2.2 fold t q.1):=by
 have h:=partD_ok hw h5 hg (q.1+1) (Nat.lt_succ_self _) (nx:=0) (N:=[{ kind:=8 }]) (by simp)
 obtain ⟨⟨ext,he⟩,hf⟩:=h
 refine ⟨?_,hf⟩
 refine ⟨{ kind:=8 },?_,rfl⟩
 show (newD q.2.2 q.1).2[0]?=_
 unfold newD
 rw [he];rfl
theorem dOf_sel {p:ByteArray} {r:Nat×PS} (h:PatOk p r) {q:Nat×RP} (hq:EvR p 0 [] rp0 q) (hw:WfP q.2.2) (h5:Kids5 q.2.2) (hg:GoodT q.2.2 q.1) (fold whole inv:Bool):SelD (dOf q fold whole inv) (selL (machOf r fold whole) inv):=by
 intro l hl y hy
 obtain ⟨t,ht⟩:∃t:ByteArray,bytesN t=l:=⟨_,bytesN_B3 hl⟩
 subst ht
 rw [sel_line (dOf_ok hw h5 hg fold whole inv)] at hy
 rw [selSame h fold whole inv t]
 have hs:SelOk whole t.size (MatR q.2.2 fold t q.1) y:=by
  refine ⟨fun hwh=>?_,fun hwh=>?_⟩
  · rw [hy,if_pos (show (dOf q fold whole inv).whole=true from hwh)];rfl
  · rw [hy,if_neg (show ¬(dOf q fold whole inv).whole=true by show ¬whole=true;rw [hwh];decide)];rfl
 rw [sel_same h hq hs]
 rfl
end Go.Proofs.YtgifhgnccmnbiabGreat
namespace Go.Proofs.YtgifhgnccmnbiabGreat
theorem Kids5.push {ps:List PN} (h:Kids5 ps) {p:PN} (hp:p.kind=5→p.kids≠[]):Kids5 (ps++[p]):=by
 intro j x hx hk
 by_cases hj:j<ps.length
 · rw [List.getElem?_append_left hj] at hx
   exact h j x hx hk
 · rw [List.getElem?_append_right (by omega)] at hx
   have h0:j-ps.length=0:=by
    have:=(List.getElem?_eq_some_iff.1 hx).1
    simp at this;omega
   rw [h0] at hx
   simp at hx
   subst hx
   exact hp hk
theorem plainR_kids {t:ByteArray} {c:Int} {st:RP} (h:Kids5 st.2):Kids5 (plainR t c st).2.2:=by
 unfold plainR
 repeat' split
 all_goals
  refine Kids5.push h (fun hc=>?_)
  first
  | exact absurd (show (1:Int)=5 from hc) (by decide)
  | exact absurd (show (2:Int)=5 from hc) (by decide)
  | exact absurd (show (3:Int)=5 from hc) (by decide)
theorem goR_kids (t:ByteArray):∀(f tag:Nat) (cur:List Nat) (st:RP),Kids5 st.2→Kids5 (goR t f tag cur st).2.2
 | 0,_,_,_,h=>h
 | f+1,tag,cur,st,h=>by
   have ih:=fun tag cur st h=>goR_kids t f tag cur st h
   rw [goR]
   split
   · simp only []
     split
     · exact Kids5.push (ih _ _ _ h) (fun _=>by simp)
     · exact ih _ _ _ (ih _ _ _ h)
   · split
     · split
       · exact ih _ _ _ (ih _ _ _ h)
       · exact Kids5.push h (fun hc=>absurd hc (by show ¬((4:Int)=5);decide))
     · split
       · exact ih _ _ _ (ih _ _ _ h)
       · split
         · split
           · exact ih 0 [] _ h
           · exact plainR_kids h
         · split
           · exact h
           · exact ih _ _ _ (Kids5.push h (fun hc=>absurd hc (by show ¬((6:Int)=5);decide)))
theorem EvR.kids5 {t:ByteArray} {q:Nat×RP} (h:EvR t 0 [] rp0 q):Kids5 q.2.2:=by
 obtain ⟨f0,hf⟩:=h
 rw [←hf f0 (Nat.le_refl _)]
 exact goR_kids t f0 0 [] rp0 (fun j p hp=>by simp [rp0] at hp)
end Go.Proofs.YtgifhgnccmnbiabGreat
namespace Go.Proofs.YtgifhgnccmnbiabGreat
open Go.RowKit Go.IntWalk
theorem own_zero {w:World} {base e z n:Nat} {v:Value} {xs:List Value} (h:w.ownsRow base e z v n xs):w.ownsRow 0 e z v n xs:=by
 refine ⟨h.1,?_⟩
 rcases h.2 with h1 | ⟨g,cap,cur,h1,h2,r⟩
 · exact Or.inl h1
 · exact Or.inr ⟨g,cap,cur,h1,Nat.zero_le _,r⟩
theorem own_under {w w':World} {base e z n:Nat} {v:Value} {xs:List Value} (h:w.ownsRow base e z v n xs) (b:Below w.heap.size w w'):w'.ownsRow base e z v n xs:=by
 refine ⟨h.1,?_⟩
 rcases h.2 with h1 | ⟨g,cap,cur,h1,h2,h3,r⟩
 · exact Or.inl h1
 · exact Or.inr ⟨g,cap,cur,h1,h2,(b.block g (Array.getElem?_eq_some_iff.1 h3).1).trans h3,r⟩
theorem GLn.under {w w':World} {b m:Nat} {kv nv rv tv pv:Value} {rl top:List Nat} {U:Nat→Nat→Value} (h:GLn w b kv nv rv tv pv rl top m U) (k:Below w.heap.size w w'):GLn w' b kv nv rv tv pv rl top m U:=
 ⟨(k.block _ h.blk.lt).trans h.blk,own_under h.rules k,own_under h.top k,fun hm=>by
  obtain ⟨gp,cap,cur,h1,h2,h3⟩:=h.pcs hm
  exact ⟨gp,cap,cur,h1,(k.block _ h2.lt).trans h2,h3⟩⟩
def uNew (T:List (List Nat)) (i j:Nat):Value:=uPc (piOf (T.getD i [])) (none,0,0) (none,0,0) 0 j
theorem learned_none (w:World) (D:DMa) (sel:List Nat→Bool) (T:List (List Nat)):Learned w D sel T (uNew T) 0:=fun i hi=>⟨_,_,0,fun j hj=>rfl,fun h=>absurd h (Nat.not_lt_zero _)⟩
theorem pi_cells (p:PI) {j:Nat} (hj:j<6):p.cells[j]?=some (uPc p (none,0,0) (none,0,0) 0 j):=by
 match j,hj with
 | 0,_=>rfl
 | 1,_=>rfl
 | 2,_=>rfl
 | 3,_=>rfl
 | 4,_=>rfl
 | 5,_=>rfl
theorem GM.gln {w:World} {b B C n:Nat} {kind:Int} {rl top:List Nat} {ps:List PI} {rv tv pv:Value} {T:List (List Nat)} (h:GM w b B C kind n rl top ps rv tv pv) (hp:ps=T.map piOf):
 GLn w b (.int .i64 kind) (.int .i64 (n:Int)) rv tv pv rl top T.length (uNew T)∧∀gp m c,pv=.slice (some ⟨gp,0,none⟩) m c→B≤gp:=by
 have hl:ps.length=T.length:=by rw [hp,List.length_map]
 refine ⟨⟨h.blk,own_zero h.rules,own_zero h.top,fun hm=>?_⟩,fun gp m c he=>(h.pieces.lt gp (by rw [he];rfl)).1⟩
 rcases h.pieces.2 with ⟨_,h0⟩ | ⟨g,cap,cur,h1,h2,h3,h4,h5,h6,h7⟩
 · omega
 · refine ⟨g,cap,cur,by rw [h1,hl],h3,fun i hi j hj=>?_⟩
   have hx:ps[i]?=some (piOf (T.getD i [])):=by
    rw [hp,List.getElem?_map,List.getD_eq_getElem?_getD,List.getElem?_eq_getElem hi];rfl
   have:=piCells_get ps i j _ hx hj
   rw [←h7,List.getElem?_take_of_lt (by rw [hl];omega),Array.getElem?_toList] at this
   exact this.trans (pi_cells _ hj)
theorem tree_ok {p:ByteArray} {r:Nat×PS} (hr:PatOk p r) {q:Nat×RP} (hq:EvR p 0 [] rp0 q) (w:World):
 Calls Tryz.prog 20 #[.string p] w fun e w'=>Below w.heap.size w w'∧∃adrs F,PMs w' q.2.2 adrs F∧e=.returned (.tuple #[ptrTo adrs q.1,.int .i64 (szT q),.int .i64 0]):=by
 refine (rtree_any p w hr.small).mono ?_
 rintro e w1 ⟨b1,q',hev,hidx,hcase⟩
 obtain rfl:=hq.one hev
 obtain ⟨s1,s2,_,_⟩:=check_same hr.small hr.ev hq
 have hnb:¬BadT p q:=fun hc=>hr.good (s1.2 hc)
 have hsz:=hr.size
 have h2:=s2 hnb
 rcases hcase with ⟨hb,_⟩ | ⟨_,hz,_⟩ | ⟨_,hz,adrs,F,b,hbb,hn,rfl⟩
 · exact absurd hb hnb
 · exfalso
   unfold cap61 at h2
   rw [if_pos (by omega)] at h2
   omega
 · exact ⟨b1,adrs,F,hn.pms,rfl⟩
theorem RSound.bytes {rl:List Nat} {ps:List PI} {T:List (List Nat)} (h:RSound rl ps T):∀i,i<T.length→∀c,c∈T.getD i []→c<256:=by
 intro i
 induction i using Nat.strongRecOn with
 | ind i ih=>
   intro hi c hc
   obtain ⟨h1,h2,h3⟩:=h.rule i hi
   have key:∀s,s<256+i→c∈symT T s→c<256:=fun s hs hm=>by
    unfold symT at hm
    split at hm
    · rename_i hl
      obtain rfl:=List.mem_singleton.1 hm
      exact hl
    · exact ih (s-256) (by omega) (by omega) c hm
   rw [h3] at hc
   rcases List.mem_append.1 hc with h4 | h4
   · exact key _ h1 h4
   · exact key _ h2 h4
theorem MC.dm {w:World} {base mb:Nat} {inv fold whole num:Bool} {mx:Int} {q:Nat×RP} {adrs:List Nat} {F:Nat→Prop} {nv:Value} {oc:OpD} (h:MC w base mb oc (((newD q.2.2 q.1).1:Nat):Int) adrs (newD q.2.2 q.1).2 nv) (h1:oc.inv=inv) (h2:oc.fold=fold) (h3:oc.whole=whole) (h4:oc.num=num) (h5:oc.mx=mx) (hpos:0<(newD q.2.2 q.1).2.length) (hP:PMs w q.2.2 adrs F):
 ∃gn cap,DmIn w mb (dOf q fold whole inv) adrs F num mx gn cap:=by
 obtain ⟨gn,cap,rfl⟩:=own_form h.row hpos
 subst h1 h2 h3 h4 h5
 exact ⟨gn,cap,h.blk,own_zero h.row,hP⟩
theorem begun_ok {p f:ByteArray} {r:Nat×PS} (hr:PatOk p r) {q:Nat×RP} (hq:EvR p 0 [] rp0 q) (hg:GoodT q.2.2 q.1) (hnod:(newD q.2.2 q.1).2.length≤10000) {inv fold whole num:Bool} {mx:Int} (hm0:0≤mx) (hf:f.size≤maxLen) {X:List Nat}
 (hop:∀w' w'' e,OpenedR f w' w'' e→∃b B C kind n rl top ps rv tv pv T,ROpen w'' b B C kind n rl top ps rv tv pv T X∧e=.returned (.tuple #[.pointer (some ⟨b,0,none⟩),.int .i64 0])) (w:World):
 Calls Tryz.prog 9 #[.agg #[.bool inv,.bool fold,.bool whole,.bool num,.int .i64 mx],.string p,.string f] w fun e w'=>BegOut w w' e (dOf q fold whole inv) (selL (machOf r fold whole) inv) num mx X:=by
 have htr:Hid (∀w',Calls _ _ _ w' _):=fun w'=>tree_ok hr hq w'
 have hopn:Hid (∀w',Calls _ _ _ w' _):=fun w'=>opened_any f hf w'
 have hopH:Hid (∀w' w'' e,_):=hop
 have hO:Hid (Blk (w.alloc (.cells #[.bool inv,.bool fold,.bool whole,.bool num,.int .i64 mx] 23)) w.heap.size #[.bool inv,.bool fold,.bool whole,.bool num,.int .i64 mx] 23):=Blk.new w _ _
 have hB0:Hid (Below w.heap.size w (w.alloc (.cells #[.bool inv,.bool fold,.bool whole,.bool num,.int .i64 mx] 23))):=(Below.refl _ w).alloc (Nat.le_refl _) _
 clear hop
 go_enter Tryz.func9,Tryz.ntmps9
 go_wp2_with fail
 refine (htr.out _).mono ?_
 rintro e w1 ⟨b1,adrs,F,hP,rfl⟩
 have hO1:Hid (Blk w1 w.heap.size #[.bool inv,.bool fold,.bool whole,.bool num,.int .i64 mx] 23):=(b1.block _ hO.out.lt).trans hO.out
 have hB1:Hid (Below w.heap.size w w1):=hB0.out.trans (b1.mono (by simp))
 have hP1:Hid (PMs w1 q.2.2 adrs F):=hP
 obtain ⟨x,hx⟩:∃x,ptrTo adrs q.1=.pointer (some ⟨x,0,none⟩):=⟨_,rfl⟩
 rw [hx]
 have hxH:Hid (_=_):=hx
 clear b1 hP hO hB0 htr hx
 generalize szT q=zz
 go_wp2_with fail
 refine (hopn.out _).mono ?_
 rintro e w2 hout
 have k2:Hid (Kept [] w1 w2):=hout.kept
 obtain ⟨b,B,C,kind,n,rl,top,ps,rv,tv,pv,T,hRO,rfl⟩:=hopH.out _ _ _ hout
 have hlow:Hid (w1.heap.size≤b):=hout.low b rfl
 have hROH:Hid (ROpen w2 b B C kind n rl top ps rv tv pv T X):=hRO
 have hO2:Hid (Blk w2 w.heap.size #[.bool inv,.bool fold,.bool whole,.bool num,.int .i64 mx] 23):=hO1.out.kept k2.out (by simp)
 have hP2:Hid (PMs w2 q.2.2 adrs F):=hP1.out.kept k2.out
 have o0:w2.cell? ⟨w.heap.size,0,none⟩=some (.bool inv):=hO2.out.cell 0
 have o1:w2.cell? ⟨w.heap.size,1,none⟩=some (.bool fold):=hO2.out.cell 1
 have o2:w2.cell? ⟨w.heap.size,2,none⟩=some (.bool whole):=hO2.out.cell 2
 have o3:w2.cell? ⟨w.heap.size,3,none⟩=some (.bool num):=hO2.out.cell 3
 have o4:w2.cell? ⟨w.heap.size,4,none⟩=some (.int .i64 mx):=hO2.out.cell 4
 have ol:=hO2.out.lt
 have hB2:Hid (Below w.heap.size w w2):=hB1.out.trans (k2.out.below hB1.out.size (by simp))
 have hnw:Hid (Calls _ _ _ w2 _):=dnew_any hP2.out.wf hq.kids5 hg ⟨inv,fold,whole,num,mx⟩ hP2.out (by omega)
 rw [hxH.out] at hnw
 clear hopn hopH hout hRO hP1 hO1
 go_wp2_with fail
 refine hnw.out.mono ?_
 rintro e w3 ⟨b3,mb,nv,rfl,hMC⟩
 have hma:=dOf_ok hP2.out.wf hq.kids5 hg fold whole inv
 have hpos:0<(newD q.2.2 q.1).2.length:=by
  obtain ⟨x0,hx0,_⟩:=hma.done
  exact (List.getElem?_eq_some_iff.1 hx0).1 |> fun h=>Nat.lt_of_le_of_lt (Nat.zero_le _) h
 have hP3:PMs w3 q.2.2 adrs F:=hP2.out.below hP2.out.old b3
 obtain ⟨gn,cap,hD⟩:=hMC.dm (inv:=inv) (fold:=fold) (whole:=whole) (num:=num) (mx:=mx) rfl rfl rfl rfl rfl hpos hP3
 obtain ⟨hGL,hBg⟩:=hROH.out.gm.gln hROH.out.sound.ps
 have hsel:=dOf_sel hr hq hP2.out.wf hq.kids5 hg fold whole inv
 have hpl:∃a c,pv=.slice a T.length c:=by
  obtain ⟨a,c,h⟩:=own_len hROH.out.gm.pieces
  exact ⟨a,c,by rw [h,hROH.out.sound.ps,List.length_map]⟩
 have hle:Hid (Calls _ _ _ w3 _):=dlearn_any (base:=w1.heap.size) (hGL.under b3) (learned_none w3 (dOf q fold whole inv) (selL (machOf r fold whole) inv) T) hROH.out.sound hROH.out.tlen hD hma (by exact hnod) hsel hROH.out.sound.bytes hpl (fun gp n c h=>by have h1:=hBg gp n c h;have h2:=hROH.out.gm.lt;have h3:=hlow.out;omega) (by have h1:=k2.out.size;have h2:=b3.size;omega)
 have hDH:Hid (DmIn _ _ _ _ _ _ _ _ _):=hD
 have hmaH:Hid (MaOk _ _):=hma
 have hselH:Hid (SelD _ _):=hsel
 have hB3:Hid (Below w.heap.size w w3):=hB2.out.trans (b3.mono hB2.out.size)
 clear hMC hnw b3 hD hma hsel hGL hBg hpl hP3 hP2 hO2 o0 o1 o2 o3 o4 ol
 go_wp2_with fail
 refine hle.out.mono ?_
 rintro e w4 ⟨rfl,U',hG4,hL4,st4,bel4⟩
 have hG4H:Hid (GLn _ _ _ _ _ _ _ _ _ _ _):=hG4
 have hL4H:Hid (Learned _ _ _ _ _ _):=hL4
 have hD4:Hid (DmIn w4 _ _ _ _ _ _ _ _):=hDH.out.stayT st4
 have hB4:Hid (Below w.heap.size w w4):=hB3.out.trans (bel4.mono hB1.out.size)
 have hbe:Hid (Calls _ _ _ w4 _):=dbegun_any hD4.out (by exact hnod)
 clear hG4 hL4 st4 bel4 hle hDH
 go_wp2_with fail
 refine hbe.out.mono ?_
 rintro e w5 ⟨⟨g5,rfl,_,hb5⟩,k5⟩
 unfold rowV
 have hb5H:Hid (Blk _ _ _ _):=hb5
 have k5H:Hid (Kept [] w4 w5):=k5
 clear hb5 k5 hbe
 go_wp2
 go_ret2
 have kz:∀o,Kept [] w4 (w5.alloc o):=fun o=>k5H.out.alloc o
 refine ⟨⟨w5.heap.size,b,mb,gn,cap,_,_,rv,tv,pv,rl,top,U',T,adrs,F,_,rfl,⟨hG4H.out.kept (kz _),hL4H.out.kept (kz _),hROH.out.tlen,hD4.out.kept (kz _),hmaH.out,by exact hnod,hselH.out,hROH.out.syms,hROH.out.text,hROH.out.xlen,hROH.out.nlen,hROH.out.byte,⟨hROH.out.sound.len,rfl,hROH.out.sound.rule⟩⟩,⟨g5,_,Blk.new w5 _ _,hb5H.out.alloc _,SF_one (by omega)⟩,?_⟩,?_⟩
 · have h1:=hB4.out.size;have h2:=k5H.out.size;omega
 · exact hB4.out.trans ((kz _).below hB4.out.size (by simp))
end Go.Proofs.YtgifhgnccmnbiabGreat
