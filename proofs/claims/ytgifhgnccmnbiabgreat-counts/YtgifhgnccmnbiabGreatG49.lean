/- The document's answer: Count, walked behind a begun walk. -/
import Derived.Test.YtgifhgnccmnbiabGreatG46
import Derived.Test.YtgifhgnccmnbiabGreatG40
import Derived.Test.YtgifhgnccmnbiabGreatG39
import Derived.WalkSmall
import Derived.Test.YtgifhgnccmnbiabGreatG43
import Derived.Test.YtgifhgnccmnbiabGreatG48
set_option linter.unusedVariables false
set_option linter.unusedSimpArgs false
set_option maxHeartbeats 4000000
set_option maxRecDepth 100000
namespace Go.Proofs.YtgifhgnccmnbiabGreat
open Go.RowKit Go.IntWalk
theorem dcount_ok {w:World} {inv fold whole num:Bool} {mx:Int} {p f:ByteArray} {D:DMa} {sel:List Nat→Bool} {X:List Nat} (hm0:0≤mx) (hm2:mx≤9223372036854775807)
 (hbg:∀w',Calls Tryz.prog 9 #[.agg #[.bool inv,.bool fold,.bool whole,.bool num,.int .i64 mx],.string p,.string f] w' fun e w''=>BegOut w' w'' e D sel num mx X):
 Calls Tryz.prog 5 #[.agg #[.bool inv,.bool fold,.bool whole,.bool num,.int .i64 mx],.string p,.string f] w fun e w'=>e=.returned (.tuple #[.int .i64 (capI mx ((linesL X).filter sel).length),.int .i64 0])∧Below w.heap.size w w':=by
 have hbH:Hid (∀w',_):=hbg
 have hO:Hid (Blk (w.alloc (.cells #[.bool inv,.bool fold,.bool whole,.bool num,.int .i64 mx] 23)) w.heap.size #[.bool inv,.bool fold,.bool whole,.bool num,.int .i64 mx] 23):=Blk.new w _ _
 have hB0:Hid (Below w.heap.size w (w.alloc (.cells #[.bool inv,.bool fold,.bool whole,.bool num,.int .i64 mx] 23))):=(Below.refl _ w).alloc (Nat.le_refl _) _
 clear hbg
 go_enter Tryz.func5,Tryz.ntmps5
 go_wp2_with fail
 refine (hbH.out _).mono ?_
 rintro e w1 ⟨⟨wk,b,mb,gn,cap,kv,nv,rv,tv,pv,rl,top,U,T,adrs,F,R,rfl,hI,hW,hwk⟩,hbel⟩
 have hO1:Hid (Blk w1 w.heap.size #[.bool inv,.bool fold,.bool whole,.bool num,.int .i64 mx] 23):=(hbel.block _ hO.out.lt).trans hO.out
 have hB1:Hid (Below w.heap.size w w1):=hB0.out.trans (hbel.mono (by simp))
 have hne:wk≠w.heap.size:=by simp at hwk;omega
 have hwk2:w.heap.size≤wk:=by simp at hwk;omega
 have hIH:Hid (BegIn _ _ _ _ _ _ _ _ _ _ _ _ _ _ _ _ _ _ _ _ _ _):=hI
 have hWH:Hid (WkIn w1 wk b mb D (.int .i64 0) (.int .i64 0) (.int .i64 0) (.int .i64 0) (.string ⟨#[]⟩) (.bool false) (.bool false) (sgl 0)):=hW
 obtain ⟨gw,fw,hbw,_,_⟩:=hW.ex
 have hbwH:Hid (Blk w1 wk _ _):=hbw
 obtain ⟨ta,tc,rfl⟩:=own_len hI.G.top
 have hnl:=hI.nlen
 have hxl:=hI.xlen
 clear hbH hO hB0 hbel hI hW hbw hwk
 have hneH:Hid (wk≠w.heap.size):=hne
 clear hne
 go_wp2_with fail
 go_loopw [10,11,12] (fun nv' iv _ wr=>∃i:Nat,iv=.int .i64 (i:Int)∧i≤top.length∧nv'=.int .i64 ((cntS sel (ahead T top i):Nat):Int)∧WkIn wr wk b mb D (.int .i64 0) (.int .i64 0) (.int .i64 0) (.int .i64 0) (.string ⟨#[]⟩) (.bool false) (.bool false) (runD D (restL (ahead T top i)) (sgl 0))∧Kept [wk] w1 wr) (fun _ iv _ _=>((top.length:Int)-intOf iv).toNat)
 case atStart=>exact ⟨0,rfl,Nat.zero_le _,rfl,hWH.out,Kept.refl _ _⟩
 case round=>
  obtain ⟨i,rfl,hi,rfl,hWr,hk⟩:=hrel
  have hIr:Hid (BegIn wr _ _ _ _ _ _ _ _ _ _ _ _ _ _ _ _ _ _ _ _ _):=hIH.out.keptW hk hbwH.out
  have hWrH:Hid (WkIn _ _ _ _ _ _ _ _ _ _ _ _ _):=hWr
  have hkH:Hid (Kept [wk] w1 wr):=hk
  obtain ⟨gv,fv,hbv,hv,hf⟩:=hWr.ex
  have d0:wr.cell? ⟨wk,0,none⟩=some (.pointer (some ⟨b,0,none⟩)):=hbv.cell 0
  have d1:wr.cell? ⟨wk,1,none⟩=some (.pointer (some ⟨mb,0,none⟩)):=hbv.cell 1
  have d2:wr.cell? ⟨wk,2,none⟩=some (.slice (some ⟨gv,0,none⟩) (3+D.nodes.length) (3+D.nodes.length)):=hbv.cell 2
  have g3:wr.cell? ⟨b,3,none⟩=some (.slice ta top.length tc):=hIr.out.G.blk.cell 3
  have dl:=hbv.lt
  have gl:=hIr.out.G.blk.lt
  have hvH:Hid (Blk wr gv _ _):=hv
  have hbvH:Hid (Blk wr wk _ _):=hbv
  have hfH:Hid (_=_):=hf
  have hcs:=cntS_le (sel:=sel) (ahead T top i)
  have hal:=ahead_le (T:=T) (top:=top) i
  rw [←hIr.out.text] at hal
  clear hWr hk hbv hv hf
  by_cases hlt:(i:Int)<(top.length:Int)
  · have hin:i<top.length:=by omega
    have hps:Hid (Calls _ _ _ wr _):=hIr.out.pass hin hWrH.out
    obtain ⟨gt,tcap,he⟩:=own_form hIr.out.G.top (by omega)
    cases he
    have t0:wr.cell? ⟨gt,i,none⟩=some (.int .i64 ((top.getD i 0:Nat):Int)):=by
     have:=hIr.out.G.top.cells (g:=gt) rfl i _ (symCells_get top i hin)
     rwa [ptr_add] at this
    have hsum:cntS sel (ahead T top (i+1))=cntS sel (ahead T top i)+((newL (restL (ahead T top i)) (symT T (top.getD i 0))).filter sel).length:=by rw [ahead_succ hin,cntS_app]
    have hcs2:=cntS_le (sel:=sel) (ahead T top (i+1))
    have hal2:=ahead_le (T:=T) (top:=top) (i+1)
    rw [←hIr.out.text] at hal2
    have hsH:Hid (_=_):=hsum
    have hrst:Hid (restL (ahead T top (i+1))=(crA (restL (ahead T top i)) (symT T (top.getD i 0))).2):=by show _=_;rw [ahead_succ hin,restL_app]
    generalize symT T (top.getD i 0)=x at *
    generalize top.getD i 0=sy at *
    rw [hsum] at hcs2
    clear hsum
    obtain ⟨n1,hn1⟩:∃n1,n1=cntS sel (ahead T top i):=⟨_,rfl⟩
    obtain ⟨n2,hn2⟩:∃n2,n2=((newL (restL (ahead T top i)) x).filter sel).length:=⟨_,rfl⟩
    rw [←hn1,←hn2] at hsH hcs2
    rw [←hn1] at hcs
    rw [←hn1]
    have hn2H:Hid (n2=_):=hn2
    clear hn1 hn2
    go_wp2_with fail
    refine hps.out.mono ?_
    rintro e w2 ⟨rfl,hW2,k2⟩
    rw [←hn2H.out]
    have hW2H:Hid (WkIn _ _ _ _ _ _ _ _ _ _ _ _ _):=hW2
    have hk2:Hid (Kept [wk] w1 w2):=hkH.out.trans k2
    clear k2 hW2 hps
    go_wp2
    refine ⟨⟨i+1,by go_num,by omega,by rw [hsH.out];go_num,by rw [hrst.out];exact hW2H.out,hk2.out⟩,?_⟩
    show ((top.length:Int)-((i:Int)+1)).toNat<((top.length:Int)-(i:Int)).toNat
    omega
  · obtain rfl:i=top.length:=by omega
    have hat:ahead T top top.length=X:=by unfold ahead;rw [List.take_length];exact hIr.out.text.symm
    rw [hat] at hfH hcs hWrH ⊢
    have hse:Hid (∀w',Kept [] wr w'→Calls _ _ _ w' _):=fun w' k=>dselects_any (hIr.out.M.kept k) hIr.out.R1 hIr.out.n (hvH.out.kept k (by simp))
    unfold rowV at hse
    have hss:Hid (∀y:Bool,(y=true↔selS D (SF D.nodes.length fv))→(y != D.inv)=sel (restL X)):=fun y hy1=>hIr.out.s _ (fun c hc=>hIr.out.byte c (rest_mem hc)) y (by rw [hfH.out] at hy1;exact hy1)
    have hfr:Hid (fv 0=true↔restL X=[]):=by
     show _↔_
     rw [←run_fresh D (restL X),←hfH.out]
     exact ⟨fun h=>⟨by omega,h⟩,fun h=>h.2⟩
    have hmc:Hid (Blk wr w.heap.size #[.bool inv,.bool fold,.bool whole,.bool num,.int .i64 mx] 23):=hO1.out.kept hkH.out (by simp;exact fun h=>hneH.out h.symm)
    have hBw:Hid (∀w5,Kept [] wr w5→Below w.heap.size w w5):=fun w5 k=>hB1.out.trans ((hkH.out.below hB1.out.size (by simp;exact hwk2)).trans (k.below (by have h1:=hB1.out.size;have h2:=hkH.out.size;omega) (by simp)))
    have hWK:Hid (Blk wr wk _ _):=hbvH.out
    clear hi hat hal hWrH hfH
    go_wp2_with fail
    go_region_law (go_simp;go_at_call 11;refine (hse.out _ (by first | exact (((Kept.refl [] wr).drewN _).drew) | exact (Kept.refl [] wr).drew | exact Kept.refl _ _)).mono ?_;rintro _ w5 ⟨⟨y7,rfl,hy7⟩,kk⟩;have K5:Hid (Kept [] wr w5):=Kept.trans (by first | exact (((Kept.refl [] wr).drewN _).drew) | exact (Kept.refl [] wr).drew | exact Kept.refl _ _) kk;have hq7:Hid (_=_):=hss.out y7 hy7;clear kk hy7)
    all_goals
     obtain ⟨q7,hq⟩:∃q,q=(y7 != D.inv):=⟨_,rfl⟩
     rw [←hq]
     have hqs:Hid (q7=sel (restL X)):=by show _=_;rw [hq];exact hq7.out
     clear hq hq7 hse hss d0 d1 d2
     obtain ⟨b0,hb0⟩:∃b0,b0=fv 0:=⟨_,rfl⟩
     have d2:w5.cell? ⟨wk,2,none⟩=some (.slice (some ⟨gv,0,none⟩) (3+D.nodes.length) (3+D.nodes.length)):=(hWK.out.kept K5.out (by simp)).cell 2
     have d5:w5.cell? ⟨gv,0,none⟩=some (.bool b0):=by rw [(hvH.out.kept K5.out (by simp)).cell,boolRow_get _ (by omega),hb0]
     have d4:w5.cell? ⟨w.heap.size,4,none⟩=some (.int .i64 mx):=(hmc.out.kept K5.out (by simp)).cell 4
     have gvl:=(hvH.out.kept K5.out (by simp)).lt
     have dl5:=(hWK.out.kept K5.out (by simp)).lt
     have hb1:Hid (b0=true↔restL X=[]):=by show _↔_;rw [hb0];exact hfr.out
     clear hb0
     have hN:Hid (((linesL X).filter sel).length=if b0=false∧q7=true then cntS sel X+1 else cntS sel X):=by
      show _=_
      rw [lines_cnt,hqs.out]
      by_cases h:restL X=[]
      · rw [if_neg (fun hc=>hc.1 h),if_neg (fun hc=>by rw [hb1.out.2 h] at hc;cases hc.1)]
      · have hb:b0=false:=by
         cases b0
         · rfl
         · exact absurd (hb1.out.1 rfl) h
        rw [hb]
        by_cases hs:sel (restL X)=true
        · rw [if_pos ⟨h,hs⟩,if_pos ⟨rfl,hs⟩]
        · rw [if_neg (fun hc=>hs hc.2),if_neg (fun hc=>hs hc.2)]
     clear hb1 hqs
     have hfin:=hBw.out w5 K5.out
     have hfinH:Hid (Below w.heap.size w w5):=hfin
     clear hfin
     obtain ⟨n1,hn1⟩:∃n1,n1=cntS sel X:=⟨_,rfl⟩
     rw [←hn1] at hN hcs ⊢
     clear hn1
     have hcap:Hid (∀n:Nat,((linesL X).filter sel).length=n→∀v:Int,(v=if 0<mx∧mx<(n:Int) then mx else (n:Int))→capI mx ((linesL X).filter sel).length=v):=fun n h v hv=>by rw [h,hv];rfl
     cases b0 <;> cases q7
     · have hN2:Hid (((linesL X).filter sel).length=n1):=by show _=_;rw [hN.out];rfl
       clear hN
       by_cases hm:0<mx
       · by_cases hc:mx<(n1:Int)
         · have hE:Hid (capI mx ((linesL X).filter sel).length=mx):=hcap.out n1 hN2.out _ (by rw [if_pos (by omega)])
           clear hcap hN2
           go_wp2
           go_ret2
           exact ⟨by rw [hE.out];rfl,hfinH.out⟩
         · have hE:Hid (capI mx ((linesL X).filter sel).length=(n1:Int)):=hcap.out n1 hN2.out _ (by rw [if_neg (by omega)] <;> omega)
           clear hcap hN2
           go_wp2
           go_ret2
           exact ⟨by rw [hE.out];rfl,hfinH.out⟩
       · have hE:Hid (capI mx ((linesL X).filter sel).length=(n1:Int)):=hcap.out n1 hN2.out _ (by rw [if_neg (by omega)] <;> omega)
         clear hcap hN2
         go_wp2
         go_ret2
         exact ⟨by rw [hE.out];rfl,hfinH.out⟩
     · have hN2:Hid (((linesL X).filter sel).length=(n1+1)):=by show _=_;rw [hN.out];rfl
       clear hN
       by_cases hm:0<mx
       · by_cases hc:mx<((n1:Int)+1)
         · have hE:Hid (capI mx ((linesL X).filter sel).length=mx):=hcap.out (n1+1) hN2.out _ (by rw [if_pos (by omega)])
           clear hcap hN2
           go_wp2
           go_ret2
           exact ⟨by rw [hE.out];rfl,hfinH.out⟩
         · have hE:Hid (capI mx ((linesL X).filter sel).length=((n1:Int)+1)):=hcap.out (n1+1) hN2.out _ (by rw [if_neg (by omega)] <;> omega)
           clear hcap hN2
           go_wp2
           go_ret2
           exact ⟨by rw [hE.out];rfl,hfinH.out⟩
       · have hE:Hid (capI mx ((linesL X).filter sel).length=((n1:Int)+1)):=hcap.out (n1+1) hN2.out _ (by rw [if_neg (by omega)] <;> omega)
         clear hcap hN2
         go_wp2
         go_ret2
         exact ⟨by rw [hE.out];rfl,hfinH.out⟩
     · have hN2:Hid (((linesL X).filter sel).length=n1):=by show _=_;rw [hN.out];rfl
       clear hN
       by_cases hm:0<mx
       · by_cases hc:mx<(n1:Int)
         · have hE:Hid (capI mx ((linesL X).filter sel).length=mx):=hcap.out n1 hN2.out _ (by rw [if_pos (by omega)])
           clear hcap hN2
           go_wp2
           go_ret2
           exact ⟨by rw [hE.out];rfl,hfinH.out⟩
         · have hE:Hid (capI mx ((linesL X).filter sel).length=(n1:Int)):=hcap.out n1 hN2.out _ (by rw [if_neg (by omega)] <;> omega)
           clear hcap hN2
           go_wp2
           go_ret2
           exact ⟨by rw [hE.out];rfl,hfinH.out⟩
       · have hE:Hid (capI mx ((linesL X).filter sel).length=(n1:Int)):=hcap.out n1 hN2.out _ (by rw [if_neg (by omega)] <;> omega)
         clear hcap hN2
         go_wp2
         go_ret2
         exact ⟨by rw [hE.out];rfl,hfinH.out⟩
     · have hN2:Hid (((linesL X).filter sel).length=n1):=by show _=_;rw [hN.out];rfl
       clear hN
       by_cases hm:0<mx
       · by_cases hc:mx<(n1:Int)
         · have hE:Hid (capI mx ((linesL X).filter sel).length=mx):=hcap.out n1 hN2.out _ (by rw [if_pos (by omega)])
           clear hcap hN2
           go_wp2
           go_ret2
           exact ⟨by rw [hE.out];rfl,hfinH.out⟩
         · have hE:Hid (capI mx ((linesL X).filter sel).length=(n1:Int)):=hcap.out n1 hN2.out _ (by rw [if_neg (by omega)] <;> omega)
           clear hcap hN2
           go_wp2
           go_ret2
           exact ⟨by rw [hE.out];rfl,hfinH.out⟩
       · have hE:Hid (capI mx ((linesL X).filter sel).length=(n1:Int)):=hcap.out n1 hN2.out _ (by rw [if_neg (by omega)] <;> omega)
         clear hcap hN2
         go_wp2
         go_ret2
         exact ⟨by rw [hE.out];rfl,hfinH.out⟩
theorem read_good {f:ByteArray} (hf:f.size≤maxLen) {t:TT} (ht:SFile f t) (hl:t.whole.len≤1099511627776) (w:World):
 Calls Tryz.prog 13 #[.string f] w fun e w'=>Below w.heap.size w w'∧∃rv sv,TVal w' w.heap.size t rv sv∧e=.returned (.tuple #[.agg (t.cells rv sv),.int .i64 0]):=by
 refine (read_file f hf w).mono ?_
 rintro e w' ⟨hb,⟨hn,_⟩ | ⟨t',ht',⟨h3,_⟩ | ⟨_,rv,sv,h4,h5⟩⟩⟩
 · exact absurd ht (hn _)
 · have:=ht'.one ht
   subst this
   omega
 · have:=ht'.one ht
   subst this
   exact ⟨hb,rv,sv,h4,h5⟩
theorem read_none {f:ByteArray} (hf:f.size≤maxLen) (hn:∀t,¬SFile f t) (w:World):
 Calls Tryz.prog 13 #[.string f] w fun e w'=>e=.returned (.tuple #[.agg ztext,.int .i64 4])∧Below w.heap.size w w':=by
 refine (read_file f hf w).mono ?_
 rintro e w' ⟨hb,⟨_,he⟩ | ⟨t',ht',_⟩⟩
 · exact ⟨he,hb⟩
 · exact absurd ht' (hn _)
theorem read_big {f:ByteArray} (hf:f.size≤maxLen) {t:TT} (ht:SFile f t) (hl:1099511627776<t.whole.len) (w:World):
 Calls Tryz.prog 13 #[.string f] w fun e w'=>e=.returned (.tuple #[.agg ztext,.int .i64 5])∧Below w.heap.size w w':=by
 refine (read_file f hf w).mono ?_
 rintro e w' ⟨hb,⟨hn,_⟩ | ⟨t',ht',⟨_,he⟩ | ⟨h3,_⟩⟩⟩
 · exact absurd ht (hn _)
 · exact ⟨he,hb⟩
 · have:=ht'.one ht
   subst this
   omega
theorem count_no {inv fold whole num:Bool} {mx x:Int} {p f:ByteArray} (w:World) (hx:x≠0) (hc:∀w,Calls Tryz.prog 7 #[.agg #[.bool inv,.bool fold,.bool whole,.bool num,.int .i64 mx],.string p,.string f] w fun e w'=>e=.returned (.tuple #[.agg zSearch,.int .i64 x])∧Below w.heap.size w w'):
 Calls Tryz.prog 4 #[.agg #[.bool inv,.bool fold,.bool whole,.bool num,.int .i64 mx],.string p,.string f] w fun e w'=>e=.returned (.tuple #[.int .i64 0,.int .i64 x])∧Below w.heap.size w w':=by
 have hcH:Hid (∀w,Calls _ _ _ w _):=hc
 clear hc
 unfold zSearch at hcH
 have h0:Hid (∀o,Below w.heap.size w (w.alloc o)):=fun o=>(Below.refl _ _).alloc (Nat.le_refl _) o
 have hxb:(x != 0)=true:=by simp [hx]
 go_enter Tryz.func4,Tryz.ntmps4
 go_wp2_with (go_at_call 7;refine (hcH.out _).mono ?_;rintro e w1 ⟨rfl,b1⟩;have B1:Hid (Below w.heap.size w w1):=(h0.out _).trans (b1.mono (by simp)))
 go_ret2
 exact ⟨rfl,B1.out.alloc B1.out.size _⟩
theorem count_go {inv fold whole num:Bool} {mx:Int} {M:MP} {p f:ByteArray} {t:TT} {T:List (List Nat)} (w:World) (hm1:-9223372036854775808≤mx) (hm2:mx≤9223372036854775807) (hS:SText t T) (hl:t.whole.len≤1099511627776) (hc:∀w,Calls Tryz.prog 7 #[.agg #[.bool inv,.bool fold,.bool whole,.bool num,.int .i64 mx],.string p,.string f] w fun e w'=>OpOk w w' inv mx M t T e):
 Calls Tryz.prog 4 #[.agg #[.bool inv,.bool fold,.bool whole,.bool num,.int .i64 mx],.string p,.string f] w fun e w'=>e=.returned (.tuple #[.int .i64 (capI mx (cnt M inv (linesL (t.start.flatMap (symT T))))),.int .i64 0])∧Below w.heap.size w w':=by
 have hcH:Hid (∀w,Calls _ _ _ w _):=hc
 have hlen:Hid ((t.start.flatMap (symT T)).length≤1099511627776):=by show _≤_;rw [hS.len hl];exact hl
 have hSH:Hid (SText t T):=hS
 clear hc hS
 have h0:Hid (∀o,Below w.heap.size w (w.alloc o)):=fun o=>(Below.refl _ _).alloc (Nat.le_refl _) o
 obtain ⟨R,hR⟩:∃R,Hid (capI mx (cnt M inv (linesL (t.start.flatMap (symT T))))=R):=⟨_,rfl⟩
 rw [hR.out]
 go_enter Tryz.func4,Tryz.ntmps4
 go_wp2_with fail
 refine (hcH.out _).mono ?_
 rintro e w1 ⟨b1,bt,gp,N,L,rv,sv,ps,rfl,hsp⟩
 have B1:Hid (Below w.heap.size w w1):=(h0.out _).trans (b1.mono (by simp))
 have hre:Hid (Ready1 (w1.alloc (.cells (seCells bt M.beg inv mx (.slice (some ⟨gp,0,none⟩) (256+t.rules.length) (256+t.rules.length))) 34)) w1.heap.size bt gp N L inv mx M t rv sv T ps):=
  ⟨⟨Blk.new w1 _ _,hsp.kept ((Kept.refl [] w1).alloc _)⟩,hSH.out,hlen.out⟩
 clear hsp b1
 unfold seCells at hre ⊢
 go_wp2_with fail
 refine (scount_any hre.out hm1 hm2).mono ?_
 rintro e w2 ⟨he,k2⟩
 rw [hR.out] at he
 subst he
 have B2:Hid (Below w.heap.size w w2):=(B1.out.alloc B1.out.size _).trans (k2.below (by have:=B1.out.size;simp;omega) (by simp))
 clear k2 hre
 go_wp2
 go_ret2
 exact ⟨rfl,B2.out⟩
abbrev Ent:=Nat×Nat
section
variable {w w':World} {b most V K:Nat} {tab:List Ent} {v jv:Value}
end
end Go.Proofs.YtgifhgnccmnbiabGreat
namespace Go.Proofs.YtgifhgnccmnbiabGreat
structure Cand where
 n:Nat
 a:Nat
 b:Nat
def better (p q:Cand):Prop:=q.n<p.n∨(p.n=q.n∧(p.a<q.a∨(p.a=q.a∧p.b<q.b)))
instance (p q:Cand):Decidable (better p q):=by unfold better;infer_instance
end Go.Proofs.YtgifhgnccmnbiabGreat
namespace Go.Proofs.YtgifhgnccmnbiabGreat
open Go.RowKit Go.IntWalk
def rowF (n:Nat) (f:Nat→Value):Array Value:=((List.range n).map f).toArray
@[simp] theorem rowF_size (n:Nat) (f:Nat→Value):(rowF n f).size=n:=by simp [rowF]
def nx (s:Nat):List Nat→Nat
 | []=>0
 | x :: r=>if x=s then 0 else nx s r+1
def pcs (l:List Cand):List Value:=l.flatMap fun p=>[.int .i64 (p.a:Int),.int .i64 (p.b:Int),.int .i64 (p.n:Int)]
end Go.Proofs.YtgifhgnccmnbiabGreat
namespace Go.Proofs.YtgifhgnccmnbiabGreat
end Go.Proofs.YtgifhgnccmnbiabGreat
namespace Go.Proofs.YtgifhgnccmnbiabGreat
open Go.RowKit Go.IntWalk
def twoL (v:Nat):List Nat:=[v % 256,v / 256]
def symOf (tx:List Nat) (n:Nat):Nat:=if n=0 then tx.getD 0 0 else 255+n
def secOf (tx:List Nat) (n:Nat):Nat:=if n+1<tx.length then tx.getD (n+1) 0 else symOf tx n
def rulesL (tx:List Nat) (n:Nat):List Nat:=(List.range n).flatMap fun i=>twoL (symOf tx i)++twoL (secOf tx i)
def fileL (tx:List Nat) (k:Nat) (more:List Nat):List Nat:=
 [83,71,tx.length-1+k]++rulesL tx (tx.length-1+k)++twoL (1+more.length)++twoL (symOf tx (tx.length-1+k))++more.flatMap twoL
structure Dbl (f:ByteArray) (tx:List Nat) (k:Nat) (more:List Nat):Prop where
 file:bytesN f=fileL tx k more
 pos:1≤tx.length
 len:tx.length≤40
 k:k≤40
 mlen:more.length≤600
 byte:∀c,c∈tx→c<256
 mbyte:∀c,c∈more→c<256
section
variable {f:ByteArray} {tx more:List Nat} {k:Nat} (h:Dbl f tx k more)
include h
end
section
variable {f:ByteArray} {tx more:List Nat} {k:Nat} (h:Dbl f tx k more)
include h
end
section
variable {f:ByteArray} {tx more:List Nat} {k:Nat} (h:Dbl f tx k more)
include h
end
section
variable {f:ByteArray} {tx more:List Nat} {k:Nat} (h:Dbl f tx k more)
include h
end
structure HasText (f:ByteArray) (kind:Int) (X:List Nat):Prop where
 ex:∃t T,SFile f t∧SText t T∧t.start.flatMap (symT T)=X∧t.kind=kind
section
variable {f:ByteArray} {kind:Int} {X:List Nat} (h:HasText f kind X)
include h
end
structure GNum (f:ByteArray) (q:Nat) (L:List Nat):Prop where
 file:bytesN f=[83,71,q]++L.flatMap twoL
section
variable {f:ByteArray} {q:Nat} {L:List Nat} (h:GNum f q L)
include h
end
section
variable {t:ByteArray} {q:Nat} (ht:t.size≤600) (hq:q≤100)
include ht hq
end
def OptBad (mx:Int) (p:ByteArray) (x:Int):Prop:=(mx<0∧x=1)∨(0≤mx∧PatE p x)
theorem opt_cases (mx:Int) (p:ByteArray):(∃x,OptBad mx p x)∨(0≤mx∧∃r,PatOk p r):=by
 by_cases h:mx<0
 · exact Or.inl ⟨1,Or.inl ⟨h,rfl⟩⟩
 · rcases pat_cases p with ⟨x,hx⟩ | ⟨r,hr⟩
   · exact Or.inl ⟨x,Or.inr ⟨by omega,hx⟩⟩
   · exact Or.inr ⟨by omega,r,hr⟩
theorem PatE.nz {p:ByteArray} {x:Int} (h:PatE p x):x≠0:=by
 rcases h with ⟨_,rfl⟩ | ⟨_,r,_,⟨_,rfl⟩ | ⟨_,_,rfl⟩⟩ <;> decide
theorem OptBad.nz {mx:Int} {p:ByteArray} {x:Int} (h:OptBad mx p x):x≠0:=by
 rcases h with ⟨_,rfl⟩ | ⟨_,h⟩
 · decide
 · exact h.nz
section
variable {inv fold whole num:Bool} {mx x:Int} {p f:ByteArray}
theorem sread_opt (h:OptBad mx p x) (hp:p.size≤maxLen) (w:World):
 Calls Tryz.prog 12 #[.agg #[.bool inv,.bool fold,.bool whole,.bool num,.int .i64 mx],.string p] w fun e w'=>e=.returned (.tuple #[.agg #[.slice none 0 0,.int .i64 0],.int .i64 x])∧Below w.heap.size w w':=by
 rcases h with ⟨h,rfl⟩ | ⟨h0,h⟩
 · exact sread_neg inv fold whole num mx p w h
 · exact sread_bad h inv fold whole num mx w h0 hp
theorem count_opt (h:OptBad mx p x) (hp:p.size≤maxLen) (f:ByteArray) (w:World):
 Calls Tryz.prog 4 #[.agg #[.bool inv,.bool fold,.bool whole,.bool num,.int .i64 mx],.string p,.string f] w fun e w'=>e=.returned (.tuple #[.int .i64 0,.int .i64 x])∧Below w.heap.size w w':=
 count_no w h.nz (fun w=>sopen_no w h.nz (fun w=>sread_opt h hp w))
theorem HasText.count {kind:Int} {X:List Nat} (h:HasText f kind X) (hX:X.length≤1099511627776) (hf:f.size≤maxLen) {r:Nat×PS} (hr:PatOk p r) (hm0:0≤mx) (hm2:mx≤9223372036854775807) (w:World):
 Calls Tryz.prog 4 #[.agg #[.bool inv,.bool fold,.bool whole,.bool num,.int .i64 mx],.string p,.string f] w fun e w'=>e=.returned (.tuple #[.int .i64 (capI mx (cnt (machOf r fold whole) inv (linesL X))),.int .i64 0])∧Below w.heap.size w w':=by
 obtain ⟨t,T,h1,h2,h3,_⟩:=h.ex
 have hw:t.whole.len≤1099511627776:=by rw [h2.whole,h3,ptOf_len,capL_of (by omega)];exact hX
 have:=count_go (inv:=inv) (fold:=fold) (whole:=whole) (num:=num) w (by omega) hm2 h2 hw (fun w=>sopen_ok hr w hm0 h2 (fun w=>read_good hf h1 hw w))
 rwa [h3] at this
end
theorem tree_bad {p:ByteArray} {x:Int} (h:PatE p x) (hp:p.size≤maxLen) (w:World):
 Calls Tryz.prog 20 #[.string p] w fun e w'=>Below w.heap.size w w'∧e=.returned (.tuple #[.pointer none,.int .i64 0,.int .i64 x]):=by
 rcases h with ⟨h1,rfl⟩ | ⟨h1,r,hev,h2⟩
 · refine (rtree_long p w h1 hp).mono ?_
   rintro e w1 ⟨rfl,rfl⟩
   exact ⟨Below.refl _ _,rfl⟩
 · refine (rtree_any p w h1).mono ?_
   rintro e w1 ⟨b1,q,hq,hidx,hcase⟩
   obtain ⟨s1,s2,_,_⟩:=check_same h1 hev hq
   rcases hcase with ⟨hb,rfl⟩ | ⟨hb,hz,rfl⟩ | ⟨hb,hz,adrs,F,b,hbb,hn,rfl⟩
   · rcases h2 with ⟨g1,rfl⟩ | ⟨g1,g2,rfl⟩
     · exact ⟨b1,rfl⟩
     · exact absurd (s1.2 hb) g1
   · rcases h2 with ⟨g1,rfl⟩ | ⟨g1,g2,rfl⟩
     · exact absurd (s1.1 g1) hb
     · exact ⟨b1,rfl⟩
   · rcases h2 with ⟨g1,rfl⟩ | ⟨g1,g2,rfl⟩
     · exact absurd (s1.1 g1) hb
     · exfalso
       have h3:=s2 hb
       unfold cap61 at h3
       split at h3 <;> omega
theorem begun_bad {p f:ByteArray} {x:Int} {inv fold whole num:Bool} {mx:Int} (h:OptBad mx p x) (hp:p.size≤maxLen) (w:World):
 Calls Tryz.prog 9 #[.agg #[.bool inv,.bool fold,.bool whole,.bool num,.int .i64 mx],.string p,.string f] w fun e w'=>e=.returned (.tuple #[.pointer none,.int .i64 x])∧Below w.heap.size w w':=by
 have hB0:Hid (Below w.heap.size w (w.alloc (.cells #[.bool inv,.bool fold,.bool whole,.bool num,.int .i64 mx] 23))):=(Below.refl _ w).alloc (Nat.le_refl _) _
 rcases h with ⟨hm,rfl⟩ | ⟨hm,hx⟩
 · go_enter Tryz.func9,Tryz.ntmps9
   go_wp2
   go_ret2
   exact ⟨rfl,hB0.out⟩
 · have htr:Hid (∀w',Calls _ _ _ w' _):=fun w'=>tree_bad hx hp w'
   have cne:(x != 0)=true:=by rcases hx.ne with rfl | rfl <;> rfl
   clear hx
   go_enter Tryz.func9,Tryz.ntmps9
   go_wp2_with fail
   refine (htr.out _).mono ?_
   rintro e w1 ⟨b1,rfl⟩
   have hB1:Hid (Below w.heap.size w w1):=hB0.out.trans (b1.mono (by simp))
   clear b1 hB0 htr
   go_wp2
   go_ret2
   exact ⟨rfl,hB1.out⟩
theorem begun_shut {p f:ByteArray} {r:Nat×PS} (hr:PatOk p r) {q:Nat×RP} (hq:EvR p 0 [] rp0 q) {inv fold whole num:Bool} {mx:Int} (hm0:0≤mx) (hf:f.size≤maxLen) {c:Int} (hc:c≠0)
 (hop:∀w' w'' e,OpenedR f w' w'' e→e=.returned (.tuple #[.pointer none,.int .i64 c])) (w:World):
 Calls Tryz.prog 9 #[.agg #[.bool inv,.bool fold,.bool whole,.bool num,.int .i64 mx],.string p,.string f] w fun e w'=>e=.returned (.tuple #[.pointer none,.int .i64 c])∧Below w.heap.size w w':=by
 have htr:Hid (∀w',Calls _ _ _ w' _):=fun w'=>tree_ok hr hq w'
 have hopn:Hid (∀w',Calls _ _ _ w' _):=fun w'=>opened_any f hf w'
 have hopH:Hid (∀w' w'' e,_):=hop
 have hB0:Hid (Below w.heap.size w (w.alloc (.cells #[.bool inv,.bool fold,.bool whole,.bool num,.int .i64 mx] 23))):=(Below.refl _ w).alloc (Nat.le_refl _) _
 have cne:(c != 0)=true:=by simp [hc]
 clear hop hc
 go_enter Tryz.func9,Tryz.ntmps9
 go_wp2_with fail
 refine (htr.out _).mono ?_
 rintro e w1 ⟨b1,adrs,F,hP,rfl⟩
 have hB1:Hid (Below w.heap.size w w1):=hB0.out.trans (b1.mono (by simp))
 obtain ⟨x,hx⟩:∃x,ptrTo adrs q.1=.pointer (some ⟨x,0,none⟩):=⟨_,rfl⟩
 rw [hx]
 clear b1 hP hB0 htr hx
 generalize szT q=zz
 go_wp2_with fail
 refine (hopn.out _).mono ?_
 rintro e w2 hout
 have k2:Hid (Kept [] w1 w2):=hout.kept
 obtain rfl:=hopH.out _ _ _ hout
 have hB2:Hid (Below w.heap.size w w2):=hB1.out.trans (k2.out.below hB1.out.size (by simp))
 clear hout hopH hopn k2
 go_wp2
 go_ret2
 exact ⟨rfl,hB2.out⟩
theorem dcount_no {p f:ByteArray} {o:Value} {x:Int} (hx:x≠0) {inv fold whole num:Bool} {mx:Int}
 (hbg:∀w',Calls Tryz.prog 9 #[.agg #[.bool inv,.bool fold,.bool whole,.bool num,.int .i64 mx],.string p,.string f] w' fun e w''=>e=.returned (.tuple #[.pointer none,.int .i64 x])∧Below w'.heap.size w' w'') (w:World):
 Calls Tryz.prog 5 #[.agg #[.bool inv,.bool fold,.bool whole,.bool num,.int .i64 mx],.string p,.string f] w fun e w'=>e=.returned (.tuple #[.int .i64 0,.int .i64 x])∧Below w.heap.size w w':=by
 have hbH:Hid (∀w',_):=hbg
 have hB0:Hid (Below w.heap.size w (w.alloc (.cells #[.bool inv,.bool fold,.bool whole,.bool num,.int .i64 mx] 23))):=(Below.refl _ w).alloc (Nat.le_refl _) _
 have cne:(x != 0)=true:=by simp [hx]
 clear hbg
 go_enter Tryz.func5,Tryz.ntmps5
 go_wp2_with fail
 refine (hbH.out _).mono ?_
 rintro e w1 ⟨rfl,b1⟩
 have hB1:Hid (Below w.heap.size w w1):=hB0.out.trans (b1.mono (by simp))
 clear b1 hbH hB0
 go_wp2
 go_ret2
 exact ⟨rfl,hB1.out⟩
def FileE (f:ByteArray) (c:Int):Prop:=((∀t,¬SFile f t)∧c=4)∨(∃t,SFile f t∧1099511627776<t.whole.len∧c=5)
def FileX (f:ByteArray) (X:List Nat):Prop:=∃t T,SFile f t∧Sound t.rules T∧(∀s,s∈t.start→s<256+t.rules.length)∧t.whole=ptOf (t.start.flatMap (symT T))∧t.start.flatMap (symT T)=X∧t.whole.len≤1099511627776
structure OpX (f:ByteArray) (w':World) (e:Ending) (X:List Nat):Prop where
 file:FileX f X
 ex:∃b B C kind n rl top ps rv tv pv T,ROpen w' b B C kind n rl top ps rv tv pv T X∧e=.returned (.tuple #[.pointer (some ⟨b,0,none⟩),.int .i64 0])
theorem OpenedR.both {f:ByteArray} {w w':World} {e:Ending} (h:OpenedR f w w' e):
 (∃c:Int,c≠0∧FileE f c∧e=.returned (.tuple #[.pointer none,.int .i64 c]))∨∃X,OpX f w' e X:=by
 rcases h.out with ⟨n,r,b,B,C,tv,hz,hG,he⟩ | ⟨hno,hg,he⟩ | ⟨hno,hg,hb,he⟩ | ⟨hno,hg,hb,b,B,C,rv,tv,pv,hG,he⟩
 · have hfl:=flat_self (bytesN r.out) (bytesN_lt r.out)
   obtain ⟨hf,hk,hsy,hw⟩:=hz.file'
   obtain ⟨T,hT⟩:=zz_run n r hz.it hz.on
   have hsz:=hz.size
   have hlen:(zit (z0 f) n).2.whole.len≤1099511627776:=by
    rw [hw,ptOf_len,bytesN_len,capL_of (by omega)];omega
   refine Or.inr ⟨bytesN r.out,⟨_,T,hf,hT.sound,fun s hs=>by rw [hT.sound.len];exact hT.start s hs,by rw [hT.whole,hT.out],hT.out.symm,hlen⟩,b,B,C,90,n,[],_,[],_,_,_,[],⟨hG,RSound.nil,by simp,by rw [bytesN_len];omega,fun s hs=>by have:=bytesN_lt _ s hs;simp;omega,hfl.symm,by rw [bytesN_len];omega,bytesN_lt r.out⟩,he⟩
 · refine Or.inl ⟨4,by omega,Or.inl ⟨fun t ht=>?_,rfl⟩,he⟩
   cases ht with
   | rules a b c d=>exact hg (ok_GOk c b d)
   | codes a b c d x y=>exact hno.none b c d x y
 · have hf:SFile f (sgT f):=SFile.rules (by have:=hg.five;omega) hg.most hg.sg hg.ok
   obtain ⟨t0,q1,q2⟩:=hg.whole
   exact Or.inl ⟨5,by omega,Or.inr ⟨_,hf,by rw [q1,long_len,←q2];exact hb,rfl⟩,he⟩
 · have hf:SFile f (sgT f):=SFile.rules (by have:=hg.five;omega) hg.most hg.sg hg.ok
   obtain ⟨e1,e2,e3,e4,e5⟩:=hg.read
   have hR:(sgT f).rules=gRu f (bt f 2):=by show (sgG f).1=_;rw [e2]
   have hSt:(sgT f).start=gTop f (gN f):=e5
   have hW:(sgT f).whole=ptOf ((gTop f (gN f)).flatMap (symT (gTx f (bt f 2)))):=by
    show wholeP (sgG f).1 (sgS f).1=_
    rw [e2,e5]
    exact whole_pt (hg.sound _ (Nat.le_refl _)) _ (fun s hs=>by rw [gTx_len];exact hg.top _ (Nat.le_refl _) s hs) []
   have hl:(sgT f).whole.len≤1099511627776:=by rw [hW,long_len,←gAll_tx hg];exact hb
   have hFX:FileX f ((gTop f (gN f)).flatMap (symT (gTx f (bt f 2)))):=⟨_,gTx f (bt f 2),hf,by rw [hR];exact hg.sound _ (Nat.le_refl _),by rw [hR,hSt,gRu_len];exact fun s hs=>hg.top _ (Nat.le_refl _) s hs,by rw [hSt];exact hW,by rw [hSt],hl⟩
   have hll:(piOf ((gTop f (gN f)).flatMap (symT (gTx f (bt f 2))))).long≤1099511627776:=by rw [←gAll_tx hg];exact hb
   have hs:∀s,s∈gTop f (gN f)→s<256+(gTx f (bt f 2)).length:=fun s hs=>by rw [gTx_len];exact hg.top _ (Nat.le_refl _) s hs
   have hRS:=hg.rsound _ (Nat.le_refl _)
   rw [←hg.ps _ (Nat.le_refl _)] at hRS
   have hx:((gTop f (gN f)).flatMap (symT (gTx f (bt f 2)))).length≤1099511627776:=by
    have:=capL_small (n:=((gTop f (gN f)).flatMap (symT (gTx f (bt f 2)))).length) hll
    have h2:capL ((gTop f (gN f)).flatMap (symT (gTx f (bt f 2)))).length≤1099511627776:=hll
    omega
   refine Or.inr ⟨_,hFX,b,B,C,71,gN f,_,_,_,rv,tv,pv,gTx f (bt f 2),⟨hG,hRS,by rw [gTx_len];have:=hg.r;omega,by rw [gTop_len];have:=hg.n;omega,hs,rfl,hx,fun z hz=>?_⟩,he⟩
   obtain ⟨s,h1,h2⟩:=List.mem_flatMap.1 hz
   have hS:=hg.sound _ (Nat.le_refl _)
   exact hS.byte (s+1) s (by omega) (by rw [gRu_len];exact hg.top _ (Nat.le_refl _) s h1) z h2
theorem FileX.one {f:ByteArray} {X Y:List Nat} (h:FileX f X) (h':FileX f Y):X=Y:=by
 obtain ⟨t,T,h1,h2,h3,h4,h5,h6⟩:=h
 obtain ⟨u,U,g1,g2,g3,g4,g5,g6⟩:=h'
 have e:=h1.one g1
 subst e
 rw [←h5,←g5,List.flatMap_def,List.flatMap_def]
 congr 1
 exact List.map_congr_left (fun s hs=>h2.one g2 (s+1) s (Nat.lt_succ_self _) (h3 s hs))
theorem FileX.not {f:ByteArray} {X:List Nat} {c:Int} (h:FileX f X) (h':FileE f c):False:=by
 obtain ⟨t,T,h1,h2,h3,h4,h5,h6⟩:=h
 rcases h' with ⟨g,_⟩ | ⟨u,g1,g2,_⟩
 · exact g t h1
 · have e:=h1.one g1
   subst e
   omega
theorem FileE.one {f:ByteArray} {c d:Int} (h:FileE f c) (h':FileE f d):c=d:=by
 rcases h with ⟨g,rfl⟩ | ⟨u,g1,g2,rfl⟩ <;> rcases h' with ⟨g',rfl⟩ | ⟨u',g1',g2',rfl⟩
 · rfl
 · exact absurd g1' (g _)
 · exact absurd g1 (g' _)
 · rfl
theorem OpenedR.good {f:ByteArray} {X:List Nat} (hX:FileX f X) (w' w'':World) (e:Ending) (h:OpenedR f w' w'' e):∃b B C kind n rl top ps rv tv pv T,ROpen w'' b B C kind n rl top ps rv tv pv T X∧e=.returned (.tuple #[.pointer (some ⟨b,0,none⟩),.int .i64 0]):=by
 rcases h.both with ⟨c,_,hE,_⟩ | ⟨Y,hY⟩
 · exact (hX.not hE).elim
 · rw [hX.one hY.file];exact hY.ex
theorem OpenedR.bad {f:ByteArray} {c:Int} (hE:FileE f c) (w' w'':World) (e:Ending) (h:OpenedR f w' w'' e):e=.returned (.tuple #[.pointer none,.int .i64 c]):=by
 rcases h.both with ⟨d,_,hD,he⟩ | ⟨Y,hY⟩
 · rw [hE.one hD];exact he
 · exact (hY.file.not hE).elim
theorem FileE.nz {f:ByteArray} {c:Int} (h:FileE f c):c≠0:=by
 rcases h with ⟨_,rfl⟩ | ⟨_,_,_,rfl⟩ <;> decide
theorem FileE.read {f:ByteArray} {c:Int} (h:FileE f c) (hf:f.size≤maxLen) (w:World):
 Calls Tryz.prog 13 #[.string f] w fun e w'=>e=.returned (.tuple #[.agg ztext,.int .i64 c])∧Below w.heap.size w w':=by
 rcases h with ⟨h,rfl⟩ | ⟨t,h1,h2,rfl⟩
 · exact read_none hf h w
 · exact read_big hf h1 h2 w
theorem FileE.count {f p:ByteArray} {c:Int} (h:FileE f c) (hf:f.size≤maxLen) {r:Nat×PS} (hr:PatOk p r) {inv fold whole num:Bool} {mx:Int} (hm0:0≤mx) (w:World):
 Calls Tryz.prog 4 #[.agg #[.bool inv,.bool fold,.bool whole,.bool num,.int .i64 mx],.string p,.string f] w fun e w'=>e=.returned (.tuple #[.int .i64 0,.int .i64 c])∧Below w.heap.size w w':=
 count_no w h.nz (fun w=>sopen_file hr w hm0 h.nz (fun w=>h.read hf w))
theorem file_cases (f:ByteArray):(∃c,FileE f c)∨∃X,FileX f X:=by
 by_cases h:∃t,SFile f t
 · obtain ⟨t,ht⟩:=h
   by_cases hl:t.whole.len≤1099511627776
   · obtain ⟨T,hT⟩:=stext_of ht
     exact Or.inr ⟨_,t,T,ht,hT.sound,hT.start,hT.whole,rfl,hl⟩
   · exact Or.inl ⟨5,Or.inr ⟨t,ht,by omega,rfl⟩⟩
 · exact Or.inl ⟨4,Or.inl ⟨fun t ht=>h ⟨t,ht⟩,rfl⟩⟩
theorem FileX.text {f:ByteArray} {X:List Nat} (h:FileX f X):(∃kind,HasText f kind X)∧X.length≤1099511627776:=by
 obtain ⟨t,T,h1,h2,h3,h4,h5,h6⟩:=h
 obtain ⟨T',hST⟩:=stext_of h1
 have hS:SText t T:=⟨h2,h3,h4,hST.rlen,hST.slen⟩
 refine ⟨⟨t.kind,t,T,h1,hS,h5,rfl⟩,?_⟩
 rw [←h5,hS.len h6]
 exact h6
def NodOk (p:ByteArray):Prop:=∀r,PatOk p r→∃q,EvR p 0 [] rp0 q∧GoodT q.2.2 q.1∧(newD q.2.2 q.1).2.length≤10000
theorem count_both {p f:ByteArray} (hN:NodOk p) (hp:p.size≤maxLen) (hf:f.size≤maxLen) (inv fold whole num:Bool) {mx:Int} (hm2:mx≤9223372036854775807):∃n x:Int,
 (∀w,Calls Tryz.prog 4 #[.agg #[.bool inv,.bool fold,.bool whole,.bool num,.int .i64 mx],.string p,.string f] w fun e w'=>e=.returned (.tuple #[.int .i64 n,.int .i64 x])∧Below w.heap.size w w') ∧
 (∀w,Calls Tryz.prog 5 #[.agg #[.bool inv,.bool fold,.bool whole,.bool num,.int .i64 mx],.string p,.string f] w fun e w'=>e=.returned (.tuple #[.int .i64 n,.int .i64 x])∧Below w.heap.size w w'):=by
 rcases opt_cases mx p with ⟨x,hx⟩ | ⟨hm0,r,hr⟩
 · exact ⟨0,x,fun w=>count_opt hx hp f w,fun w=>dcount_no (o:=.int .i64 0) hx.nz (fun w'=>begun_bad hx hp w') w⟩
 · obtain ⟨q,hq,hg,hnod⟩:=hN r hr
   rcases file_cases f with ⟨c,hc⟩ | ⟨X,hX⟩
   · exact ⟨0,c,fun w=>hc.count hf hr hm0 w,fun w=>dcount_no (o:=.int .i64 0) hc.nz (fun w'=>begun_shut hr hq hm0 hf hc.nz (OpenedR.bad hc) w') w⟩
   · obtain ⟨⟨kind,hT⟩,hl⟩:=hX.text
     exact ⟨_,0,fun w=>hT.count hl hf hr hm0 hm2 w,fun w=>dcount_ok hm0 hm2 (fun w'=>begun_ok hr hq hg hnod hm0 hf (OpenedR.good hX) w')⟩
end Go.Proofs.YtgifhgnccmnbiabGreat
