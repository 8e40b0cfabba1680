/- The document's answer: a file opened, walked. -/
import Derived.Test.YtgifhgnccmnbiabGreatG37
import Derived.Test.YtgifhgnccmnbiabGreatG30
set_option linter.unusedVariables false
set_option linter.unusedSimpArgs false
set_option maxHeartbeats 4000000
set_option maxRecDepth 100000
namespace Go.Proofs.YtgifhgnccmnbiabGreat
open Go.RowKit Go.IntWalk
structure OpenedR (f:ByteArray) (w w':World) (e:Ending):Prop where
 kept:Kept [] w w'
 low:∀b,e=.returned (.tuple #[.pointer (some ⟨b,0,none⟩),.int .i64 0])→w.heap.size≤b
 out:(∃n r b B C tv,ZGood f n r∧GM w' b B C 90 n [] (bytesN r.out) [] (.slice none 0 0) tv (.slice none 0 0)∧e=.returned (.tuple #[.pointer (some ⟨b,0,none⟩),.int .i64 0])) ∨
  (ZNo f∧¬GOk f∧e=.returned (.tuple #[.pointer none,.int .i64 4])) ∨
  (ZNo f∧GOk f∧1099511627776<(gAll f).long∧e=.returned (.tuple #[.pointer none,.int .i64 5])) ∨
  (ZNo f∧GOk f∧(gAll f).long≤1099511627776∧∃b B C rv tv pv,GM w' b B C 71 (gN f) (gRules f (bt f 2)) (gTop f (gN f)) (gPs f (bt f 2)) rv tv pv∧e=.returned (.tuple #[.pointer (some ⟨b,0,none⟩),.int .i64 0]))
theorem ZGood.size {f:ByteArray} {n:Nat} {r:ZB} (h:ZGood f n r):r.out.size≤20000000:=by
 have h1:=h.inv.out
 have h2:=h.inv.p
 have h3:=h.inv.pb
 have h4:=h.file.2.1
 have h5:(f.extract 3 f.size).size=f.size-3:=by simp
 rw [h5] at h3
 omega
set_option maxHeartbeats 8000000 in
theorem opened_any (f:ByteArray) (hf:f.size≤maxLen) (w:World):
 Calls Tryz.prog 21 #[.string f] w fun e w'=>OpenedR f w w' e:=by
 have hc:Hid (Calls _ _ _ w _):=rcodes_any f hf w
 have hru:Hid (∀w',Calls _ _ _ w' _):=fun w'=>rrules_any f hf w'
 obtain ⟨i0,hi0,hz0,hz1,hz2⟩:=info_parts infoInt
 obtain ⟨j0,hj0,hw0,hw1,hw2⟩:=info_parts infoPiece
 go_enter Tryz.func21,Tryz.ntmps21
 go_wp2_with fail
 refine hc.out.mono ?_
 rintro e w1 hout
 have hk1:Hid (Kept [] w w1):=hout.kept
 rcases hout.two with ⟨hno,rfl⟩ | ⟨n,r,ov,tv0,hz,hm,rfl⟩
 · have hnoH:Hid (ZNo f):=hno
   clear hno hout hc
   unfold badR3
   go_wp2_with fail
   refine (hru.out _).mono ?_
   rintro e w2 ⟨k2,ho⟩
   have hk2:Hid (Kept [] w w2):=hk1.out.trans k2
   clear hru k2
   rcases ho with ⟨hg,rfl⟩ | ⟨hg,rfl⟩
   · have hgH:Hid (GOk f):=hg
     have hsz4:=hg.most
     have h2i:(2:Int)<(f.size:Int):=by have:=hg.five;omega
     have h2n:2<f.size:=by omega
     have hr0:(f[2]'h2n).toNat=bt f 2:=(bt_lt h2n).symm
     obtain ⟨gn1,gn2,gn3⟩:=hg.n
     obtain ⟨r,hr⟩:∃r,r=bt f 2:=⟨_,rfl⟩
     have hr2:(f[2]'h2n).toNat=r:=hr0.trans hr.symm
     have hr100:r≤100:=by rw [hr];exact hg.r
     have hrH:Hid (r=bt f 2):=hr
     have hpa:Hid (∀i,i≤100000→∀w,Calls _ _ _ w _):=fun i hi w=>pairAt_any f (by omega) i hi w
     rw [gn1]
     obtain ⟨n,hn⟩:∃n,n=gN f:=⟨_,rfl⟩
     rw [←hn] at gn2 gn3 ⊢
     have hnH:Hid (n=gN f):=hn
     have hG0:Hid (G2 (w2.alloc (.cells #[.int .i64 71,.int .i64 (n:Int),.slice none 0 0,.slice none 0 0,.slice none 0 0] 44)) w2.heap.size (w2.heap.size+1) n (gRules f 0) (gPs f 0) (.slice none 0 0) (.slice none 0 0)):=
      ⟨Blk.new w2 _ _,by omega,by simp,World.ownsRow_nil _ _ _ 1,World.ownsRow_nil _ _ _ 6⟩
     have hk10:Hid (Kept [] w2 (w2.alloc (.cells #[.int .i64 71,.int .i64 (n:Int),.slice none 0 0,.slice none 0 0,.slice none 0 0] 44))):=(Kept.refl [] w2).alloc _
     have gsz:(f.size:Int)=5+4*(r:Int)+2*(n:Int):=by rw [gn3,hr];omega
     clear hg hr hn gn1 gn3 hr0
     go_wp2_with fail
     go_loopw [11,12,13,14,15,16] (fun iv _ _ _ _ _ wr=>∃(k:Nat) (rv pv:Value),iv=.int .i64 (k:Int)∧k≤r∧G2 wr w2.heap.size (w2.heap.size+1) n (gRules f k) (gPs f k) rv pv∧Kept [] w2 wr) (fun iv _ _ _ _ _ _=>((r:Int)-intOf iv).toNat)
     case atStart=>exact ⟨0,_,_,rfl,Nat.zero_le _,hG0.out,hk10.out⟩
     case round=>
      obtain ⟨k,rv,pv,rfl,hk,hG,hkw⟩:=hrel
      have hGH:Hid (G2 _ _ _ _ _ _ _ _):=hG
      have hkwH:Hid (Kept _ _ _):=hkw
      by_cases hlt:(k:Int)<(r:Int)
      · have hkr:k<bt f 2:=by rw [←hrH.out];omega
        obtain ⟨a1,a2⟩:=hgH.out.a hkr
        obtain ⟨b1,b2⟩:=hgH.out.b hkr
        have hca:=hpa.out (3+4*k) (by omega)
        have hcb:=hpa.out (5+4*k) (by omega)
        have ea:((3+4*k:Nat):Int)=3+4*(k:Int):=by omega
        have eb:((5+4*k:Nat):Int)=5+4*(k:Int):=by omega
        rw [ea,a1] at hca
        rw [eb,b1] at hcb
        have hca:Hid (∀w,Calls _ _ _ w _):=hca
        have hcb:Hid (∀w,Calls _ _ _ w _):=hcb
        have hps:Hid (gPs f (k+1)=gPs f k++[joinedP (sizeP (gPs f k) (gA f k)) (sizeP (gPs f k) (gB f k))]):=rfl
        have hrs:Hid (gRules f (k+1)=gRules f k++[gA f k,gB f k]):=rfl
        have hsm:=gPs_small f k
        have hlp:=gPs_len f k
        have hlr:=gRules_len f k
        have hsA:Hid (∀w' b rl rv' ,G2 w' b (b+1) n rl (gPs f k) rv' pv→Calls _ _ _ w' _):=fun w' b rl rv' h=>psize_any h.blk h.pieces (gA f k) (by rw [hlp];exact a2) (by omega)
        have hsB:Hid (∀w' b rl rv' ,G2 w' b (b+1) n rl (gPs f k) rv' pv→Calls _ _ _ w' _):=fun w' b rl rv' h=>psize_any h.blk h.pieces (gB f k) (by rw [hlp];exact b2) (by omega)
        have hjn:Hid (∀w',Calls _ _ _ w' _):=fun w'=>joined_any (sizeP (gPs f k) (gA f k)) (sizeP (gPs f k) (gB f k)) (sizeP_small hsm _) (sizeP_small hsm _) w'
        clear a1 b1 ea eb hsm hkr hpa hG0 hk10
        generalize joinedP (sizeP (gPs f k) (gA f k)) (sizeP (gPs f k) (gB f k))=J at *
        generalize sizeP (gPs f k) (gA f k)=SA at *
        generalize sizeP (gPs f k) (gB f k)=SB at *
        generalize gA f k=A at *
        generalize gB f k=Bv at *
        obtain ⟨P,hP⟩:∃P,P=gPs f k:=⟨_,rfl⟩
        obtain ⟨R,hR⟩:∃R,R=gRules f k:=⟨_,rfl⟩
        rw [←hP] at hlp hG hGH hps hsA hsB
        rw [←hR] at hlr hG hGH hrs
        have hPb:P.length≤1000:=by omega
        have hRb:R.length≤1000:=by omega
        clear hP hR hlp hlr hG hkw
        obtain ⟨J1,J2,J3⟩:=J
        obtain ⟨A1,A2,A3⟩:=SA
        obtain ⟨B1,B2,B3⟩:=SB
        unfold PI.val PI.arr at hjn
        unfold PI.val PI.arr at hsA
        unfold PI.val PI.arr at hsB
        simp only [] at hjn hsA hsB
        go_wp2_with fail
        refine (hca.out _).mono ?_
        rintro e w3 ⟨rfl,k3⟩
        have k3H:Hid (Kept _ _ _):=k3
        clear k3 hca
        go_wp2_with fail
        refine (hcb.out _).mono ?_
        rintro e w4 ⟨rfl,k4⟩
        have k4':Kept [] wr w4:=k3H.out.trans k4
        have h4:=hGH.out.kept k4'
        have kH:Hid (∀o,Kept [] wr (w4.alloc o)):=fun o=>k4'.alloc o
        have c2:w4.cell? ⟨w2.heap.size,2,none⟩=some rv:=h4.blk.cell 2
        have hbw:w2.heap.size<w4.heap.size:=h4.blk.lt
        have hup:w2.heap.size+1≤w4.heap.size:=hbw
        clear k4 k4' h4 k3H hcb
        go_wp2_with (at_builtin;refine wpList_append_own _ rfl (.tmp 83) (.tmp 86) 41 rfl (w2.heap.size+1) 3 i0 _ 1 8 Tryz.underlying41 hi0 hz0 hz1 hz2 rfl (by decide) rv R.length (symCells R) rfl ?own ⟨w4.heap.size,0,none⟩ 2 2 [.int .i64 (A:Int),.int .i64 (Bv:Int)] rfl rfl ?c1 ?c2 ?b1 ?b2 ?b3 ?k)
        case own=>exact (hGH.out.kept (kH.out _)).rules
        case c1=>exact cells_new _ _ _ _ rfl
        case c2=>simp [Value.oneCell']
        case b1=>unfold maxLen;omega
        case b2=>omega
        case b3=>simp;omega
        case k=>
         intro v5 w5 hown hgrow _
         obtain ⟨e2,f2,b2',hT2,hK2⟩:=G2.rules_fin (x:=A) (y:=Bv) (hGH.out.kept (kH.out _)) hgrow hown
         have hT3:Hid (G2 _ _ _ _ _ _ _ _):=hT2
         have hK3:Hid (Kept [] w2 _):=hK2 w2 (hkwH.out.trans (kH.out _)) (Nat.le_refl _)
         obtain ⟨q1,q2,rfl⟩:=own_len hown
         obtain ⟨X,hX⟩:∃X,X=w5.setCell ⟨w2.heap.size,2,none⟩ (.slice q1 (R.length+2) q2):=⟨_,rfl⟩
         have hXk:Hid (G2 X w2.heap.size (w2.heap.size+1) n (R++[A,Bv]) P (.slice q1 (R.length+2) q2) pv):=by show G2 _ _ _ _ _ _ _ _;rw [hX];exact hT2
         have hXK:Hid (Kept [] w2 X):=by show Kept _ _ _;rw [hX];exact hK2 w2 (hkwH.out.trans (kH.out _)) (Nat.le_refl _)
         have hXe:Hid (_=_):=hX.symm
         clear hT2 hK2 hown hgrow hT3 hK3 hX hGH c2 kH
         go_wp2_with fail
         rw [hXe.out]
         clear e2 f2 hXe
         refine (hsA.out _ w2.heap.size _ _ hXk.out).mono ?_
         rintro e w6 ⟨rfl,k6⟩
         have k6H:Hid (∀o,Kept [] X (w6.alloc o)):=fun o=>k6.alloc o
         clear k6 hsA
         go_wp2_with fail
         refine (hsB.out _ w2.heap.size _ _ (hXk.out.kept (k6H.out _))).mono ?_
         rintro e w7 ⟨rfl,k7⟩
         have hA:Blk w7 w6.heap.size #[.int .i64 (A1:Int),.int .i64 (A2:Int),.int .i64 (A3:Int),.slice none 0 0,.slice none 0 0,.int .i64 0] 92:=(Blk.new w6 _ _).kept k7 (by simp)
         have d0:w7.cell? ⟨w6.heap.size,0,none⟩=some (.int .i64 (A1:Int)):=hA.cell 0
         have d1:w7.cell? ⟨w6.heap.size,1,none⟩=some (.int .i64 (A2:Int)):=hA.cell 1
         have d2:w7.cell? ⟨w6.heap.size,2,none⟩=some (.int .i64 (A3:Int)):=hA.cell 2
         have d3:w7.cell? ⟨w6.heap.size,3,none⟩=some (.slice none 0 0):=hA.cell 3
         have d4:w7.cell? ⟨w6.heap.size,4,none⟩=some (.slice none 0 0):=hA.cell 4
         have d5:w7.cell? ⟨w6.heap.size,5,none⟩=some (.int .i64 0):=hA.cell 5
         have hA1:w6.heap.size<w7.heap.size:=hA.lt
         have k7H:Hid (∀o,Kept [] X (w7.alloc o)):=fun o=>((k6H.out _).trans k7).alloc o
         clear k7 hA k6H hsB
         go_wp2_with fail
         refine (hjn.out _).mono ?_
         rintro e w8 ⟨rfl,k8⟩
         have k8':=(k7H.out _).trans k8
         have h8:=hXk.out.kept k8'
         have c4:w8.cell? ⟨w2.heap.size,4,none⟩=some pv:=h8.blk.cell 4
         have hbw8:w2.heap.size<w8.heap.size:=h8.blk.lt
         have k8H:Hid (∀o1 o2,Kept [] X ((w8.alloc o1).alloc o2).drew):=fun o1 o2=>((k8'.alloc o1).alloc o2).drew
         clear k8 k8' k7H hjn d0 d1 d2 d3 d4 d5 h8 hbw hup
         go_wp2_with fail
         have own:∀o1 o2,((w8.alloc o1).alloc o2).ownsRow (w2.heap.size+1) 92 6 pv P.length (piCells P):=fun o1 o2=>(hXk.out.kept (k8H.out o1 o2)).pieces
         have up:∀o1 o2,w2.heap.size+1≤((w8.alloc o1).alloc o2).heap.size:=fun o1 o2=>(hXk.out.kept (k8H.out o1 o2)).up
         have mb:P.length+1≤maxLen:=by unfold maxLen;omega
         go_region_law (refine step_append_owned rfl (.tmp 103) (.tmp 105) 42 rfl 92 j0 _ 6 80 Tryz.underlying42 hj0 hw0 hw1 hw2 rfl (by decide) (w2.heap.size+1) pv P.length (piCells P) (by simp [Act.eval,Act.put]) (by exact own _ _) ⟨w8.heap.size+1,0,none⟩ 1 1 [.int .i64 (J1:Int),.int .i64 (J2:Int),.int .i64 (J3:Int),.slice none 0 0,.slice none 0 0,.int .i64 0] (by simp [Act.eval,Act.put]) rfl (by exact cells_new _ _ _ _ (by simp)) (by simp [Value.oneCell']) mb (by omega) (by exact up _ _) ?_;intro v' w9 hown hgrow;obtain ⟨g,cap,rfl⟩:=own_form hown (by omega);obtain ⟨e4,f4,b4,hT2,hK2⟩:=G2.pieces_fin (x:=⟨J1,J2,J3⟩) (hXk.out.kept (k8H.out _ _)) hgrow hown)
         all_goals
          have hT3:Hid (G2 _ _ _ _ _ _ _ _):=hT2
          have hK3:Hid (Kept [] w2 _):=hK2 w2 (hXK.out.trans (k8H.out _ _)) (Nat.le_refl _)
          clear hT2 hK2 hown hgrow own up
          go_wp2
          refine ⟨⟨k+1,_,_,by go_num,by omega,by rw [hps.out,hrs.out];exact hT3.out,hK3.out⟩,?_⟩
          simp only [intOf];omega
      · have hke:k=bt f 2:=by have:=hrH.out;omega
        have hM0:=hG.all (gPs_small f k)
        obtain ⟨C,hC⟩:∃C,C=wr.heap.size:=⟨_,rfl⟩
        rw [←hC] at hM0
        have hCw:C≤wr.heap.size:=by omega
        obtain ⟨P,hP⟩:∃P,P=gPs f (bt f 2):=⟨_,rfl⟩
        obtain ⟨R,hR⟩:∃R,R=gRules f (bt f 2):=⟨_,rfl⟩
        rw [hke,←hP,←hR] at hM0
        have hM:Hid (GM wr w2.heap.size (w2.heap.size+1) C 71 n R (gTop f 0) P rv (.slice none 0 0) pv):=hM0
        have hPl:P.length=r:=by rw [hP,gPs_len];exact hrH.out.symm
        have hPb:P.length≤1000:=by omega
        have hPlH:Hid (P.length=r):=hPl
        have hPH:Hid (P=_):=hP
        have hRH:Hid (R=_):=hR
        have hkwH2:Hid (Kept [] w2 wr):=hkw
        clear hke hM0 hC hP hR hPl hG hGH hkw hkwH hG0 hk10
        go_wp2_with fail
        go_loopw [17,18] (fun iv _ wq=>∃(j:Nat) (tv:Value),iv=.int .i64 (j:Int)∧j≤n∧GM wq w2.heap.size (w2.heap.size+1) C 71 n R (gTop f j) P rv tv pv∧Kept [] w2 wq∧C≤wq.heap.size) (fun iv _ _=>((n:Int)-intOf iv).toNat)
        case atStart=>exact ⟨0,_,rfl,Nat.zero_le _,hM.out,hkwH2.out,hCw⟩
        case round=>
         obtain ⟨j,tv,rfl,hj,hG,hkq,hCq⟩:=hrel
         have hGH:Hid (GM _ _ _ _ _ _ _ _ _ _ _ _):=hG
         have hkqH:Hid (Kept _ _ _):=hkq
         clear hM hkwH2 hCw
         by_cases hjn:(j:Int)<(n:Int)
         · obtain ⟨s1,s2⟩:=hgH.out.s (j:=j) (by rw [←hnH.out];omega)
           have hcs:=hpa.out (5+4*bt f 2+2*j) (by have:=hrH.out;omega)
           rw [s1] at hcs
           have es:((5+4*bt f 2+2*j:Nat):Int)=5+4*(r:Int)+2*(j:Int):=by have:=hrH.out;omega
           rw [es] at hcs
           have hcs:Hid (∀w,Calls _ _ _ w _):=hcs
           have hnx:Hid (gTop f (j+1)=gTop f j++[gS f j]):=rfl
           have hTl:=gTop_len f j
           have hTb:(gTop f j).length≤1000:=by omega
           clear s1 s2 es hTl
           generalize gS f j=x at *
           obtain ⟨T,hT⟩:∃T,T=gTop f j:=⟨_,rfl⟩
           rw [←hT] at hTb hG hGH hnx
           clear hT hG hkq
           go_wp2_with fail
           refine (hcs.out _).mono ?_
           rintro e w3 ⟨rfl,k3⟩
           have h3:=hGH.out.kept k3
           have c3:w3.cell? ⟨w2.heap.size,3,none⟩=some tv:=h3.blk.cell 3
           have hbw:w2.heap.size<w3.heap.size:=h3.blk.lt
           have hC3:C≤w3.heap.size:=Nat.le_trans hCq k3.size
           have kH:Hid (∀o,Kept [] _ (w3.alloc o)):=fun o=>k3.alloc o
           clear k3 h3 hcs
           go_wp2_with (at_builtin;refine wpList_append_own _ rfl (.tmp 126) (.tmp 128) 41 rfl C 3 i0 _ 1 8 Tryz.underlying41 hi0 hz0 hz1 hz2 rfl (by decide) tv T.length (symCells T) rfl ?own ⟨w3.heap.size,0,none⟩ 1 1 [.int .i64 (x:Int)] rfl rfl ?c1 ?c2 ?b1 ?b2 ?b3 ?kk)
           case own=>exact (hGH.out.kept (kH.out _)).top
           case c1=>exact cells_new _ _ _ _ rfl
           case c2=>simp [Value.oneCell']
           case b1=>unfold maxLen;omega
           case b2=>omega
           case b3=>simp;omega
           case kk=>
            intro v5 w5 hown hgrow _
            obtain ⟨e3,f3,b3,hT2,hF2,hK2⟩:=GM.top_fin (x:=x) (hGH.out.kept (kH.out _)) hgrow hown
            have hT3:Hid (GM _ _ _ _ _ _ _ _ _ _ _ _):=hT2
            have hK3:Hid (Kept [] w2 _):=hK2 w2 (hkqH.out.trans (kH.out _)) (Nat.le_refl _)
            have hC5:C≤w5.heap.size:=by have:=hgrow.size;simp at this;omega
            obtain ⟨q1,q2,rfl⟩:=own_len hown
            clear hT2 hF2 hK2 hown hgrow kH
            go_wp2
            refine ⟨⟨j+1,_,by go_num,by omega,by rw [hnx.out];exact hT3.out,hK3.out,by simpa [World.setCell] using hC5⟩,?_⟩
            simp only [intOf];omega
         · have hje:j=gN f:=by have:=hnH.out;omega
           have hwh:Hid (Calls _ _ _ _ _):=whole_any hG (fun s hs=>by rw [hPlH.out,hrH.out];exact hgH.out.top j (by omega) s hs) hPb (by rw [gTop_len];omega)
           obtain ⟨T,hT⟩:∃T,T=gTop f (gN f):=⟨_,rfl⟩
           rw [hje,←hT] at hG hGH hwh
           have hDe:gAll f=wholeR P T:=by unfold gAll;rw [hPH.out,hT]
           have hTH:Hid (T=_):=hT
           have hkf:Hid (Kept [] w _):=hk2.out.trans hkq
           generalize hDg:wholeR P T=D at *
           obtain ⟨D1,D2,D3⟩:=D
           have hDH:Hid (gAll f=_):=hDe
           unfold PI.val PI.arr at hwh
           simp only [] at hwh
           have hlong:Hid ((gAll f).long=D1):=by show _=_;rw [hDe]
           clear hje hT hDe hDg hG hkq hpa
           by_cases hbig:(1099511627776:Int)<(D1:Int)
           · have hb:Hid (1099511627776<(gAll f).long):=by show _<_;rw [hlong.out];omega
             go_wp2_with fail
             refine hwh.out.mono ?_
             rintro e w9 ⟨rfl,k9⟩
             have hk9:Hid (∀o,Kept [] w (w9.alloc o)):=fun o=>(hkf.out.trans k9).alloc o
             clear k9 hwh
             go_wp2
             go_ret2
             exact ⟨hk9.out _,fun b h=>by simp at h,Or.inr (Or.inr (Or.inl ⟨hnoH.out,hgH.out,hb.out,rfl⟩))⟩
           · have hb:Hid ((gAll f).long≤1099511627776):=by show _≤_;rw [hlong.out];omega
             go_wp2_with fail
             refine hwh.out.mono ?_
             rintro e w9 ⟨rfl,k9⟩
             have hk9:Hid (∀o,Kept [] w (w9.alloc o)):=fun o=>(hkf.out.trans k9).alloc o
             have hG9:Hid (∀o,GM (w9.alloc o) w2.heap.size (w2.heap.size+1) C 71 (gN f) (gRules f (bt f 2)) (gTop f (gN f)) (gPs f (bt f 2)) rv tv pv):=fun o=>by
              have:=(hGH.out.kept k9).kept ((Kept.refl [] w9).alloc o)
              rwa [hTH.out,hPH.out,hRH.out,hnH.out] at this
             clear k9 hwh
             go_wp2
             go_ret2
             exact ⟨hk9.out _,fun b h=>by simp at h;have:=hk2.out.size;omega,Or.inr (Or.inr (Or.inr ⟨hnoH.out,hgH.out,hb.out,_,_,_,_,_,_,hG9.out _,rfl⟩))⟩
   · have hgH:Hid (¬GOk f):=hg
     clear hg
     go_wp2
     go_ret2
     exact ⟨hk2.out,fun b h=>by simp at h,Or.inr (Or.inl ⟨hnoH.out,hgH.out,rfl⟩)⟩
 · obtain ⟨oa,oc,rfl⟩:=own_len hm.out
   have hsz:=hz.size
   have hzH:Hid (ZGood f n r):=hz
   have hrow:Hid (w1.ownsRow w.heap.size 5 1 (.slice oa r.out.size oc) r.out.size (Lib.strCells r.out)):=hm.out
   have hlow:Hid (∀g,(Value.slice oa r.out.size oc).ownBlock=some g→g<w1.heap.size):=fun g hg=>(hm.out.lt g hg).2
   have hcs:Hid (∀i,i<r.out.size→_=_):=fun i hi=>strCells_bytes r.out i hi
   have hbl:Hid ((bytesN r.out).length=r.out.size):=bytesN_len _
   have hG0:Hid (GM (w1.alloc (.cells #[.int .i64 90,.int .i64 (n:Int),.slice none 0 0,.slice none 0 0,.slice none 0 0] 44)) w1.heap.size (w1.heap.size+1) (w1.heap.size+1) 90 n [] ((bytesN r.out).take 0) [] (.slice none 0 0) (.slice none 0 0) (.slice none 0 0)):=
    ⟨Blk.new w1 _ _,by omega,Nat.le_refl _,World.ownsRow_nil _ _ _ 1,(fun g hg=>nomatch hg),World.ownsRow_nil _ _ _ 1,World.ownsRow_nil _ _ _ 6,(fun x hx=>nomatch hx)⟩
   have hk10:Hid (Kept [] w1 (w1.alloc (.cells #[.int .i64 90,.int .i64 (n:Int),.slice none 0 0,.slice none 0 0,.slice none 0 0] 44))):=(Kept.refl [] w1).alloc _
   clear hout hc hm hz hru
   generalize hbs:bytesN r.out=bs at *
   have hbsH:Hid (_=_):=hbs
   clear hbs
   generalize r.out.size=N at *
   go_wp2_with fail
   go_loopw [8] (fun iv wr=>∃(k:Nat) (tv:Value),iv=.int .i64 (k:Int)∧k≤N∧GM wr w1.heap.size (w1.heap.size+1) (w1.heap.size+1) 90 n [] (bs.take k) [] (.slice none 0 0) tv (.slice none 0 0)∧Kept [] w1 wr) (fun iv _=>((N:Int)-intOf iv).toNat)
   case atStart=>exact ⟨0,_,rfl,Nat.zero_le _,hG0.out,hk10.out⟩
   case round=>
    obtain ⟨k,tv,rfl,hk,hG,hkw⟩:=hrel
    have hGH:Hid (GM _ _ _ _ _ _ _ _ _ _ _ _):=hG
    have hkwH:Hid (Kept _ _ _):=hkw
    by_cases hlt:(k:Int)<(N:Int)
    · have hrw:=row_stay (S:=[]) hrow.out hkw (fun _ _=>by simp)
      obtain ⟨tg,cap,he⟩:=own_form hrw (by omega)
      cases he
      obtain ⟨x,hx⟩:∃x,x=bs.getD k 0:=⟨_,rfl⟩
      have hcell:wr.cell? ⟨tg,k,none⟩=some (.int .u8 (x:Int)):=by
       have:=hrw.cells (g:=tg) rfl k _ (hcs.out k (by omega))
       rwa [ptr_add,←hx] at this
      have hxb:x<256:=by
       rw [hx,List.getD]
       cases hq:bs[k]? with
       | none=>simp
       | some y=>
         have hy:=List.mem_of_getElem? hq
         rw [←hbsH.out] at hy
         unfold bytesN at hy
         obtain ⟨z,_,rfl⟩:=List.mem_map.1 hy
         exact z.toNat_lt
      have ew:IntKind.i64.wrap (x:Int)=(x:Int):=by rw [IntKind.wrap_i64];omega
      have hnx:Hid (bs.take (k+1)=bs.take k++[x]):=by
       show _=_
       have hkl:k<bs.length:=by rw [hbl.out];omega
       rw [List.take_add_one,List.getElem?_eq_getElem hkl,hx,List.getD,List.getElem?_eq_getElem hkl]
       rfl
      have hTb:(bs.take k).length≤20000000:=by rw [List.length_take];omega
      have htg:tg<wr.heap.size:=(hrw.lt tg rfl).2
      have c3:wr.cell? ⟨w1.heap.size,3,none⟩=some tv:=hG.blk.cell 3
      have hbw:w1.heap.size<wr.heap.size:=hG.blk.lt
      have hup:w1.heap.size+1≤wr.heap.size:=hbw
      have kH:Hid (∀o,Kept [] wr (wr.alloc o).drew):=fun o=>((Kept.refl [] wr).alloc o).drew
      obtain ⟨T,hT⟩:∃T,T=bs.take k:=⟨_,rfl⟩
      rw [←hT] at hG hTb hnx
      have hGG:Hid (GM _ _ _ _ _ _ _ _ _ _ _ _):=hG
      clear hT hx hrw hG hGH hkw hG0 hk10
      go_wp2_with fail
      have own:∀o,(wr.alloc o).ownsRow (w1.heap.size+1) 3 1 tv T.length (symCells T):=fun o=>(hGG.out.kept (kH.out o)).top
      have up:∀o,w1.heap.size+1≤(wr.alloc o).heap.size:=fun o=>by simp;omega
      have mb:T.length+1≤maxLen:=by unfold maxLen;omega
      go_region_law (refine step_append_owned rfl (.tmp 40) (.tmp 46) 41 rfl 3 i0 _ 1 8 Tryz.underlying41 hi0 hz0 hz1 hz2 rfl (by decide) (w1.heap.size+1) tv T.length (symCells T) (by simp [Act.eval,Act.put]) (by exact own _) ⟨wr.heap.size,0,none⟩ 1 1 [.int .i64 (x:Int)] (by simp [Act.eval,Act.put]) rfl (by exact cells_new _ _ _ _ (by simp)) (by simp [Value.oneCell']) mb (by omega) (by exact up _) ?_;intro v' w4 hown hgrow;obtain ⟨g,cap,rfl⟩:=own_form hown (by omega);obtain ⟨e2,f2,b2,hT2,hF2,hK2⟩:=GM.top_fin (x:=x) (hGG.out.kept (kH.out _)) hgrow hown)
      all_goals
       have hT3:Hid (GM _ _ _ _ _ _ _ _ _ _ _ _):=hT2
       have hK3:Hid (Kept [] w1 _):=hK2 w1 (hkwH.out.trans (kH.out _)) (Nat.le_refl _)
       clear hT2 hF2 hK2 hown hgrow own up
       go_wp2
       refine ⟨⟨k+1,_,by go_num,by omega,by rw [hnx.out];exact hT3.out,hK3.out⟩,?_⟩
       simp only [intOf];omega
    · have hke:k=N:=by omega
      have hfin:Hid (GM wr w1.heap.size (w1.heap.size+1) (w1.heap.size+1) 90 n [] bs [] (.slice none 0 0) tv (.slice none 0 0)):=by
       show GM _ _ _ _ _ _ _ _ _ _ _ _
       have:bs.take k=bs:=by rw [hke,←hbl.out];exact List.take_length
       rwa [this] at hG
      have hkf:Hid (Kept [] w wr):=hk1.out.trans hkw
      clear hG hGH hke hkw hkwH hG0 hk10
      go_wp2
      go_ret2
      exact ⟨hkf.out,fun b h=>by simp at h;have:=hk1.out.size;omega,Or.inl ⟨n,r,_,_,_,tv,hzH.out,by rw [hbsH.out];exact hfin.out,rfl⟩⟩
theorem bytesN_lt (s:ByteArray):∀x,x∈bytesN s→x<256:=fun x hx=>by
 unfold bytesN at hx
 obtain ⟨z,_,rfl⟩:=List.mem_map.1 hx
 exact z.toNat_lt
theorem prI_of {f:ByteArray} {q:Nat} (h:q+2≤f.size):prI f q=((bt f q+256*bt f (q+1):Nat):Int):=by unfold prI;rw [if_pos h];omega
theorem num2 {f:ByteArray} {q:Nat} (h:q+2≤f.size):numG f (q,false) 2=(bt f q+256*bt f (q+1),(q+2,false)):=by
 have e1:nextG f (q,false)=(bt f q,(q+1,false)):=by unfold nextG;rw [if_pos (by show q<_;omega)]
 have e2:nextG f (q+1,false)=(bt f (q+1),(q+2,false)):=by unfold nextG;rw [if_pos (by show q+1<_;omega)]
 simp only [numG,e1,e2,Nat.zero_add,Nat.pow_zero,Nat.mul_one,Nat.pow_one]
 rw [Nat.mul_comm 256]
theorem num2_bad {f:ByteArray} {q:Nat} (h:¬q+2≤f.size):(numG f (q,false) 2).2.2=true:=by
 show (nextG f (nextG f (q,false)).2).2.2=true
 by_cases h1:q<f.size
 · have e1:nextG f (q,false)=(bt f q,(q+1,false)):=by unfold nextG;rw [if_pos h1]
   rw [e1]
   unfold nextG;rw [if_neg (by show ¬q+1<_;omega)]
 · have e1:nextG f (q,false)=(0,(q,true)):=by unfold nextG;rw [if_neg h1]
   rw [e1]
   exact nextG_bad rfl
def Ok2 (f:ByteArray) (m q:Nat):Prop:=q+2≤f.size∧prI f q≤(m:Int)
theorem count2_of {f:ByteArray} {m q:Nat} (h:Ok2 f m q):countG f 2 m (q,false)=((prI f q).toNat,(q+2,false)):=by
 obtain ⟨h1,h2⟩:=h
 rw [prI_of h1] at h2 ⊢
 unfold countG
 rw [num2 h1,if_neg (by simp only [];omega)]
 rfl
theorem count2_good {f:ByteArray} {m q:Nat} (h:(countG f 2 m (q,false)).2.2=false):Ok2 f m q:=by
 by_cases h1:q+2≤f.size
 · refine ⟨h1,?_⟩
   unfold countG at h
   rw [num2 h1] at h
   split at h
   · cases h
   · rename_i h2
     rw [prI_of h1]
     simp only [] at h2
     omega
 · unfold countG at h
   split at h
   · cases h
   · rw [num2_bad h1] at h;cases h
theorem count1_of {f:ByteArray} (h:3≤f.size) (h2:bt f 2≤100):sgR f=(bt f 2,(3,false)):=by
 have e1:nextG f (2,false)=(bt f 2,(3,false)):=by unfold nextG;rw [if_pos (by show 2<_;omega)]
 unfold sgR countG
 simp only [numG,e1,Nat.zero_add,Nat.pow_zero,Nat.mul_one]
 rw [if_neg (by omega)]
theorem count1_good {f:ByteArray} (h:(sgR f).2.2=false):3≤f.size∧bt f 2≤100:=by
 unfold sgR countG at h
 by_cases h1:3≤f.size
 · have e1:nextG f (2,false)=(bt f 2,(3,false)):=by unfold nextG;rw [if_pos (by show 2<_;omega)]
   simp only [numG,e1,Nat.zero_add,Nat.pow_zero,Nat.mul_one] at h
   split at h
   · cases h
   · exact ⟨h1,by omega⟩
 · have e1:nextG f (2,false)=(0,(2,true)):=by unfold nextG;rw [if_neg (by show ¬ 2<_;omega)]
   simp only [numG,e1] at h
   split at h <;> cases h
def OkRule (f:ByteArray) (k:Nat):Prop:=Ok2 f (255+k) (3+4*k)∧Ok2 f (255+k) (5+4*k)
def gRu (f:ByteArray):Nat→List RU
 | 0=>[]
 | k+1=>gRu f k++[ruleP (gRu f k) (gA f k) (gB f k)]
theorem gRu_len (f:ByteArray):∀k,(gRu f k).length=k
 | 0=>rfl
 | k+1=>by show (gRu f k++_).length=_;rw [List.length_append,gRu_len f k];rfl
theorem ru_of {f:ByteArray}:∀i,(∀k,k<i→OkRule f k)→ruG f (3,false) i=(gRu f i,(3+4*i,false))
 | 0,_=>rfl
 | i+1,h=>by
   have ih:=ru_of i (fun k hk=>h k (by omega))
   obtain ⟨h1,h2⟩:=h i (by omega)
   have e1:=count2_of h1
   have e2:=count2_of h2
   have hq:3+4*i+2=5+4*i:=by omega
   rw [hq] at e1
   simp only [ruG,ih,e1,e2]
   rw [show 5+4*i+2=3+4*(i+1) by omega]
   rfl
theorem ru_good {f:ByteArray}:∀i,(ruG f (3,false) i).2.2=false→∀k,k<i→OkRule f k
 | 0,_,k,hk=>by omega
 | i+1,h,k,hk=>by
   have hi:(ruG f (3,false) i).2.2=false:=by
    cases hx:(ruG f (3,false) i).2.2 with
    | false=>rfl
    | true=>have:=ruG_bad hx 1;rw [this] at h;cases h
   have ih:=ru_good i hi
   by_cases hki:k<i
   · exact ih k hki
   · have:k=i:=by omega
     subst this
     have e:=ru_of k ih
     simp only [ruG,e] at h
     have ha:(countG f 2 (255+k) (3+4*k,false)).2.2=false:=by
      cases hx:(countG f 2 (255+k) (3+4*k,false)).2.2 with
      | false=>rfl
      | true=>have:=countG_bad (f:=f) (n:=2) (m:=255+k) hx;rw [this] at h;cases h
     have h1:=count2_good ha
     rw [count2_of h1] at h
     have hq:3+4*k+2=5+4*k:=by omega
     simp only [hq] at h
     exact ⟨h1,count2_good h⟩
theorem sy_of {f:ByteArray} {m q:Nat}:∀i,(∀k,k<i→Ok2 f m (q+2*k))→(syG f m (q,false) i).2=(q+2*i,false)∧(syG f m (q,false) i).1=(List.range i).map (fun j=>(prI f (q+2*j)).toNat)
 | 0,_=>⟨rfl,rfl⟩
 | i+1,h=>by
   obtain ⟨ih1,ih2⟩:=sy_of i (fun k hk=>h k (by omega))
   have e:=count2_of (h i (by omega))
   constructor
   · simp only [syG,ih1,e]
     rfl
   · simp only [syG,ih1,ih2,e,List.range_succ,List.map_append]
     rfl
theorem sy_good {f:ByteArray} {m q:Nat}:∀i,(syG f m (q,false) i).2.2=false→∀k,k<i→Ok2 f m (q+2*k)
 | 0,_,k,hk=>by omega
 | i+1,h,k,hk=>by
   have hi:(syG f m (q,false) i).2.2=false:=by
    cases hx:(syG f m (q,false) i).2.2 with
    | false=>rfl
    | true=>have:=syG_bad hx 1;rw [this] at h;cases h
   have ih:=sy_good i hi
   by_cases hki:k<i
   · exact ih k hki
   · have:k=i:=by omega
     subst this
     simp only [syG,(sy_of k ih).1] at h
     exact count2_good h
theorem prI_place {f:ByteArray} {q:Nat} (h:0≤prI f q):q+2≤f.size:=by
 by_cases h1:q+2≤f.size
 · exact h1
 · have:=prI_neg.2 h1;omega
theorem GOk.okRule {f:ByteArray} (h:GOk f) {k:Nat} (hk:k<bt f 2):OkRule f k:=by
 obtain ⟨a1,a2⟩:=h.a hk
 obtain ⟨b1,b2⟩:=h.b hk
 exact ⟨⟨prI_place (by omega),by omega⟩,⟨prI_place (by omega),by omega⟩⟩
theorem GOk.okSym {f:ByteArray} (h:GOk f) {j:Nat} (hj:j<gN f):Ok2 f (255+bt f 2) (5+4*bt f 2+2*j):=by
 obtain ⟨a1,a2⟩:=h.s hj
 exact ⟨prI_place (by omega),by omega⟩
theorem gTop_range (f:ByteArray):∀j,gTop f j=(List.range j).map (fun i=>(prI f (5+4*bt f 2+2*i)).toNat)
 | 0=>rfl
 | j+1=>by
   show gTop f j++[gS f j]=_
   rw [gTop_range f j,List.range_succ,List.map_append];rfl
theorem GOk.read {f:ByteArray} (h:GOk f):sgR f=(bt f 2,(3,false))∧sgG f=(gRu f (bt f 2),(3+4*bt f 2,false))∧sgN f=(gN f,(5+4*bt f 2,false)) ∧
 (sgS f).2=(5+4*bt f 2+2*gN f,false)∧(sgS f).1=gTop f (gN f):=by
 have e1:=count1_of (f:=f) (by have:=h.five;omega) h.r
 have e2:sgG f=(gRu f (bt f 2),(3+4*bt f 2,false)):=by
  unfold sgG;rw [e1];exact ru_of _ (fun k hk=>h.okRule hk)
 obtain ⟨n1,n2,n3⟩:=h.n
 have e3:sgN f=(gN f,(5+4*bt f 2,false)):=by
  unfold sgN;rw [e2]
  have:=count2_of (f:=f) (m:=1000) (q:=3+4*bt f 2) ⟨prI_place (by omega),by omega⟩
  rw [this,show 3+4*bt f 2+2=5+4*bt f 2 by omega];rfl
 obtain ⟨s1,s2⟩:=sy_of (f:=f) (m:=255+bt f 2) (q:=5+4*bt f 2) (gN f) (fun k hk=>h.okSym hk)
 refine ⟨e1,e2,e3,?_,?_⟩
 · unfold sgS;rw [e1,e3];exact s1
 · unfold sgS;rw [e1,e3,gTop_range];exact s2
theorem GOk.ok {f:ByteArray} (h:GOk f):sgOk f=true:=by
 obtain ⟨e1,e2,e3,e4,e5⟩:=h.read
 obtain ⟨n1,n2,n3⟩:=h.n
 unfold sgOk
 rw [e4]
 simp only [Bool.not_false,Bool.true_and,decide_eq_true_eq]
 omega
theorem ok_GOk {f:ByteArray} (hg:isSG f) (h4:f.size≤4000) (h:sgOk f=true):GOk f:=by
 have nG:∀b,b=true→sgOk f=false→False:=fun b _ h'=>by rw [h] at h';cases h'
 have b1:(sgR f).2.2=false:=by
  cases hx:(sgR f).2.2 with
  | false=>rfl
  | true=>exact (nG _ hx (sgOk_g (i:=0) (Nat.zero_le _) hx)).elim
 obtain ⟨r1,r2⟩:=count1_good b1
 have e1:=count1_of r1 r2
 have b2:(sgG f).2.2=false:=by
  cases hx:(sgG f).2.2 with
  | false=>rfl
  | true=>exact (nG _ hx (sgOk_G hx)).elim
 have hR:∀k,k<bt f 2→OkRule f k:=by
  unfold sgG at b2;rw [e1] at b2;exact ru_good _ b2
 have e2:sgG f=(gRu f (bt f 2),(3+4*bt f 2,false)):=by
  unfold sgG;rw [e1];exact ru_of _ hR
 have b3:(sgN f).2.2=false:=by
  cases hx:(sgN f).2.2 with
  | false=>rfl
  | true=>exact (nG _ hx (sgOk_N hx)).elim
 have hN:Ok2 f 1000 (3+4*bt f 2):=by
  unfold sgN at b3;rw [e2] at b3;exact count2_good b3
 have e3:sgN f=(gN f,(5+4*bt f 2,false)):=by
  unfold sgN;rw [e2]
  rw [count2_of hN,show 3+4*bt f 2+2=5+4*bt f 2 by omega];rfl
 have b4:(sgS f).2.2=false:=by
  cases hx:(sgS f).2.2 with
  | false=>rfl
  | true=>exact (nG _ hx (sgOk_S hx)).elim
 have hS:∀k,k<gN f→Ok2 f (255+bt f 2) (5+4*bt f 2+2*k):=by
  unfold sgS at b4;rw [e1,e3] at b4;exact sy_good _ b4
 have e4:(sgS f).2=(5+4*bt f 2+2*gN f,false):=by
  unfold sgS;rw [e1,e3];exact (sy_of _ hS).1
 have hsz:f.size≤5+4*bt f 2+2*gN f:=by
  unfold sgOk at h
  rw [e4] at h
  simpa using h
 have hn0:0≤prI f (3+4*bt f 2):=by rw [prI_of hN.1];omega
 have hnn:prI f (3+4*bt f 2)=(gN f:Int):=by unfold gN;omega
 have hsz2:5+4*bt f 2+2*gN f≤f.size:=by
  by_cases hn:gN f=0
  · have:=hN.1;omega
  · have:=(hS (gN f-1) (by omega)).1;omega
 refine ⟨by have:=hN.1;omega,h4,hg,r2,?_,hn0,hN.2,by omega,?_⟩
 · intro k hk
   obtain ⟨j,hj | hj⟩:∃j,k=2*j∨k=2*j+1:=⟨k / 2,by omega⟩
   · subst hj
     obtain ⟨a1,a2⟩:=(hR j (by omega)).1
     rw [show 3+2*(2*j)=3+4*j by omega,show 2*j / 2=j by omega]
     refine ⟨by rw [prI_of a1];omega,by omega⟩
   · subst hj
     obtain ⟨a1,a2⟩:=(hR j (by omega)).2
     rw [show 3+2*(2*j+1)=5+4*j by omega,show (2*j+1) / 2=j by omega]
     refine ⟨by rw [prI_of a1];omega,by omega⟩
 · intro k hk
   have:=(hS k (by omega)).2
   omega
def gTx (f:ByteArray):Nat→List (List Nat)
 | 0=>[]
 | k+1=>gTx f k++[symT (gTx f k) (gA f k)++symT (gTx f k) (gB f k)]
theorem gTx_len (f:ByteArray):∀k,(gTx f k).length=k
 | 0=>rfl
 | k+1=>by show (gTx f k++_).length=_;rw [List.length_append,gTx_len f k];rfl
theorem GOk.sound {f:ByteArray} (h:GOk f):∀k,k≤bt f 2→Sound (gRu f k) (gTx f k)
 | 0,_=>Sound.nil
 | k+1,hk=>by
   have ih:=h.sound k (by omega)
   exact ih.push (by rw [gRu_len];exact (h.a (by omega)).2) (by rw [gRu_len];exact (h.b (by omega)).2)
theorem size_tx {T:List (List Nat)} {s:Nat} (hs:s<256+T.length):sizeP (T.map piOf) s=piOf (symT T s):=by
 unfold sizeP symT
 by_cases h1:s=10
 · subst h1;rw [if_pos rfl,if_pos (by omega)];exact size_one 10
 · rw [if_neg h1]
   by_cases h2:s<256
   · rw [if_pos h2,if_pos h2]
     have:=size_one s
     rwa [if_neg h1] at this
   · rw [if_neg h2,if_neg h2]
     simp only [List.getD]
     rw [List.getElem?_map,List.getElem?_eq_getElem (by omega)]
     rfl
theorem GOk.ps {f:ByteArray} (h:GOk f):∀k,k≤bt f 2→gPs f k=(gTx f k).map piOf
 | 0,_=>rfl
 | k+1,hk=>by
   have ih:=h.ps k (by omega)
   show gPs f k++[_]=(gTx f k++[_]).map piOf
   rw [ih,size_tx (by rw [gTx_len];exact (h.a (by omega)).2),size_tx (by rw [gTx_len];exact (h.b (by omega)).2),joined_piOf,List.map_append]
   rfl
theorem whole_tx {T:List (List Nat)}:∀l:List Nat,(∀s,s∈l→s<256+T.length)→∀a,l.foldl (fun p s=>joinedP p (sizeP (T.map piOf) s)) (piOf a)=piOf (a++l.flatMap (symT T))
 | [],_,a=>by simp
 | s :: l,h,a=>by
   rw [List.foldl_cons,size_tx (h s (by simp)),joined_piOf,whole_tx l (fun x hx=>h x (by simp [hx]))]
   simp
theorem whole_pt {rs:List RU} {T:List (List Nat)} (hS:Sound rs T):∀l:List Nat,(∀s,s∈l→s<256+T.length)→∀a,l.foldl (fun p s=>joinP p (partAt rs s)) (ptOf a)=ptOf (a++l.flatMap (symT T))
 | [],_,a=>by simp
 | s :: l,h,a=>by
   rw [List.foldl_cons,hS.part (by rw [hS.len];exact h s (by simp)),join_ptOf,whole_pt hS l (fun x hx=>h x (by simp [hx]))]
   simp
theorem GOk.whole {f:ByteArray} (h:GOk f):∃t,(sgT f).whole=ptOf t∧gAll f=piOf t:=by
 obtain ⟨e1,e2,e3,e4,e5⟩:=h.read
 have hb:∀s,s∈gTop f (gN f)→s<256+(gTx f (bt f 2)).length:=fun s hs=>by rw [gTx_len];exact h.top _ (Nat.le_refl _) s hs
 refine ⟨(gTop f (gN f)).flatMap (symT (gTx f (bt f 2))),?_,?_⟩
 · show wholeP (sgG f).1 (sgS f).1=_
   rw [e2,e5]
   exact whole_pt (h.sound _ (Nat.le_refl _)) _ hb []
 · unfold gAll wholeR
   rw [h.ps _ (Nat.le_refl _)]
   exact whole_tx _ hb []
theorem long_len (t:List Nat):(ptOf t).len=(piOf t).long:=ptOf_len t
end Go.Proofs.YtgifhgnccmnbiabGreat
