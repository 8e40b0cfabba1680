/- Part of the proof. -/
import Derived.Test.YtgifhgnccmnbiabGreatDoorG16
import Derived.Test.YtgifhgnccmnbiabGreatDoorG03
import Derived.Test.YtgifhgnccmnbiabGreatDoorG11
import Derived.Test.YtgifhgnccmnbiabGreatDoorG07
import Derived.Test.YtgifhgnccmnbiabGreatDoorG08
import Derived.BigRegion
set_option linter.unusedVariables false
set_option linter.unusedSimpArgs false
set_option maxHeartbeats 4000000
set_option maxRecDepth 100000
namespace Go.Proofs.YtgifhgnccmnbiabGreatDoor
open Go.RowKit Go.IntWalk
theorem Kept.qF{w w':World}(k:Kept [] w w'){g:Nat}(hg:g<w.heap.size)(j:Nat):w'.cell? ⟨g,j,none⟩=w.cell? ⟨g,j,none⟩:=by
 unfold World.cell?;simp only[];rw[k.block g hg (by simp)]
def byteCells(l:List Nat):List Value:=l.map fun(x:Nat)=>Value.int .u8 (x:Int)
theorem tY(l m:List Nat):byteCells (l++m)=byteCells l++byteCells m:=by simp[byteCells]
theorem Lt:(Tryz.prog.info? 5).map (fun i=>(i.zero,i.size,i.bytes))=some (some (.int .u8 0),1,1):=by kernel_rfl
theorem Pt(p1 p2 p3 p4:Value)(w:World):(Instr.field 84 (.agg #[p1,p2,p3,p4]) 0).run Tryz.prog w=.ok p1 w:=by kernel_rfl
theorem lk{w:World}{base e z k g:Nat}{v:Value}{xs:List Value}{cs:Array Value}{e':TypeId}(h:w.ownsRow base e z v k xs)(hb:ah w g cs e')(hg:v.ownBlock=some g):e'=e:=by
 rcases h.2 with⟨h1,_⟩|⟨g',cap,cur,h1,h2,h3,h4⟩
 ·rw[h1]at hg;simp[Value.ownBlock]at hg
 ·rw[h1]at hg;have:g'=g:=by simpa [Value.ownBlock] using hg
  subst this;have Vc:w.heap[g']?=some (.cells cs e'):=hb;rw[h3]at Vc;simp at Vc;exact Vc.2.symm
structure tG (w:World)(c b fr dst p:Nat)(ov:Value)(out:List Nat):Prop where
 aD:ah w c #[.pointer (some ⟨b,0,none⟩),.int .i64 (fr:Int),.int .i64 (dst:Int),.int .i64 (p:Int),ov] 175
 row:w.ownsRow (c+1) 5 1 ov out.length (byteCells out)
 len:out.length<=p
section
variable {w w':World}{c b fr dst p:Nat}{ov:Value}{out:List Nat}
theorem tG.kept(h:tG w c b fr dst p ov out)(k:Kept [] w w'):tG w' c b fr dst p ov out:=
 ⟨h.aD.kept k (by simp),aQ (S:=[]) h.row k (fun _ _=>by simp),h.len⟩
theorem tG.go(h:tG w c b fr dst p ov out){q:Nat}(hq:p<=q):tG (w.setCell ⟨c,3,none⟩ (.int .i64 (q:Int))) c b fr dst q ov out:=
 ⟨h.aD.set 3 _,cB h.row (Nat.lt_succ_self c) _ _,Nat.le_trans h.len hq⟩
theorem tG.lt(h:tG w c b fr dst p ov out):c<w.heap.size:=h.aD.lt
theorem tG.grow(h:tG w c b fr dst p ov out)(g:w.grownBy w' ov.ownBlock){v':Value}{x:Nat}(aG:w'.ownsRow (c+1) 5 1 v' (out.length+1) (byteCells out++[.int .u8 (x:Int)])):
 ah w' c #[.pointer (some ⟨b,0,none⟩),.int .i64 (fr:Int),.int .i64 (dst:Int),.int .i64 (p:Int),ov] 175/\Below c w w'/\(∀k cs e,e≠5->ah w k cs e->ah w' k cs e) /\
 tG ((w'.setCell ⟨c,4,none⟩ v').setCell ⟨c,3,none⟩ (.int .i64 ((p+1:Nat):Int))) c b fr dst (p+1) v' (out++[x]):=by
 have fx:∀k,k<=c->some k≠ov.ownBlock:=fun k hk hc=>by have:=(h.row.lt k hc.symm).1;omega
 have hb:=(g.block c h.lt (fx c (Nat.le_refl _))).trans h.aD;refine⟨hb,⟨g.os,g.tape,g.output,g.size,fun k hk=>g.block k (by have:=h.lt;omega) (fx k (by omega))⟩,fun k cs e he hk=>(g.block k hk.lt (fun hc=>?_)).trans hk,⟨(ah.set (ah.set hb 4 v') 3 _),?_,?_⟩⟩
 ·exact he (lk h.row hk hc.symm)
 ·rw[tY,List.length_append];exact cB (cB aG (Nat.lt_succ_self c) _ _) (Nat.lt_succ_self c) _ _
 ·have:=h.len;simp;omega
end
structure qp (w w':World)(c b fr dst p:Nat)(x out:List Nat):Prop where
 below:Below c w w'
 stay:∀k cs e,k≠c->e≠5->ah w k cs e->ah w' k cs e
 ex:∃ov,tG w' c b fr dst (min (p+x.length) dst) ov (out++fs x fr dst p)
theorem xP{c:Nat}{w w':World}(h:Below c w w')(j:Nat)(u:Value):Below c w (w'.setCell ⟨c,j,none⟩ u):=h.setCell (Nat.le_refl _) _
theorem Lu{T:List (List Nat)}{t:TT}(hS:Sound t.rules T)(wv:t.rules.length<=90000){n b:Nat}{rv sv:Value}{fr dst:Nat}(hfd:fr<=dst)(hd:dst<=1099511627776)(c:Nat)(hn:n<=c):
 ∀(k s:Nat),s<k->s<256+t.rules.length->(af T s).length<=1099511627776->∀(p:Nat) (ov:Value) (out:List Nat) (w:World),TR w n b t rv sv->tG w c b fr dst p ov out->p<=dst ->
  Calls Tryz.prog 101 #[.pointer (some ⟨c,0,none⟩),.int .i64 (s:Int)] w fun e w'=>e=.returned (.tuple #[])/\qp w w' c b fr dst p (af T s) out:=by
 intro k;induction k with
 | zero=>intro s hs;omega
 | succ k ih=>
   intro s hs ji hL p ov out w hT hC hp;have c3:w.cell? ⟨c,3,none⟩=some (.int .i64 (p:Int)):=hC.aD.cell 3;have c2:w.cell? ⟨c,2,none⟩=some (.int .i64 (dst:Int)):=hC.aD.cell 2;have M9:c<w.heap.size:=hC.lt;by_cases h1:(dst:Int)<=(p:Int)
   ·have aA:Hid (∀m,qp w (w.drewN m) c b fr dst p (af T s) out):=fun m=>⟨((Kept.refl [] w).drewN m).below (Nat.le_of_lt M9) (by simp),fun k cs e _ _ hk=>hk.kept ((Kept.refl [] w).drewN m) (by simp),ov,by
     rw[tf (by omega),List.append_nil,show min (p+(af T s).length) dst=p by omega];exact hC.kept ((Kept.refl [] w).drewN m)⟩
    clear ih hT hC hL hS;go_enter Tryz.func101,Tryz.ntmps101
    go_wp2_with fail
    go_quiet (fail)
    go_wp2
    exact bodyPost_ret (v:=.tuple #[]) (by simp[results,Tryz.results101,go_sem]) rfl ⟨rfl,aA.out _⟩
   have h1':(p:Int)<(dst:Int):=by omega
   have Eh:partAt t.rules s=ik (af T s):=hS.part ji;have hlen:(ik (af T s)).len=(af T s).length:=by rw[gR,ux (by rw[jx (by omega)];exact hL)]
   have RV:Hid (∀w',Kept [] w w'->Calls Tryz.prog 147 #[.pointer (some ⟨b,0,none⟩),.int .i64 (s:Int)] w' fun e w2=>e=.returned (partAt t.rules s).val/\Kept [] w' w2):=fun w' k=>Ps (hT.kept k) s (by omega) (by omega);rw[Eh]at RV;have c1:w.cell? ⟨c,1,none⟩=some (.int .i64 (fr:Int)):=hC.aD.cell 1;have c4:w.cell? ⟨c,4,none⟩=some ov:=hC.aD.cell 4;have c0:w.cell? ⟨c,0,none⟩=some (.pointer (some ⟨b,0,none⟩)):=hC.aD.cell 0;have qG:(af T s).length<=1099511627776:=hL;have hLne:1<=(af T s).length:=by
    cases hx:af T s with
    | nil=>exact absurd hx (hS.ne ji)
    | cons _ _=>simp
   have pq:Hid (TR _ _ _ _ _ _):=hT;have lZ:Hid (tG _ _ _ _ _ _ _ _):=hC;obtain⟨L,hLL⟩:∃L,L=(af T s).length:=⟨_,rfl⟩;rw[<-hLL]at hlen qG hLne;have Pu:Hid (L=(af T s).length):=hLL;clear hLL hL hT hC Eh;generalize ik (af T s)=pt at *;obtain⟨p1,p2,p3,p4⟩:=pt;simp only[]at hlen;subst hlen;unfold PT.val PT.arr at RV;simp only[]at RV;have hfp:=Pt;by_cases h2:((p+p1:Nat):Int)<=(fr:Int)
   ·have aA:Hid (∀w1,Kept [] w w1->qp w (w1.setCell ⟨c,3,none⟩ (.int .i64 ((p+p1:Nat):Int))) c b fr dst p (af T s) out):=fun w1 k1=>⟨xP (k1.below (Nat.le_of_lt M9) (by simp)) _ _,fun k cs e hk _ hb=>(hb.kept k1 (by simp)).other _ _ (fun hc=>hk hc),ov,by
     have:=Pu.out;rw[Ls (by omega),List.append_nil,show min (p+(af T s).length) dst=p+p1 by omega];exact(lZ.out.kept k1).go (by omega)⟩
    have h2':(p:Int)+(p1:Int)<=(fr:Int):=by omega
    rw[show((p+p1:Nat):Int)=(p:Int)+(p1:Int) by omega]at aA;clear ih hS h2;go_enter Tryz.func101,Tryz.ntmps101
    go_wp2_with fail
    go_quiet (fail)
    go_wp2_with fail
    go_region_law (go_simp;go_at_call 147;refine(RV.out _ (((Kept.refl [] w).drewN _).drew)).mono ?_;rintro _ w5 ⟨rfl,k5⟩;have K5:=(((Kept.refl [] w).drewN _).drew).trans k5;have r3:w5.cell? ⟨c,3,none⟩=some (.int .i64 (p:Int)):=(K5.qF M9 3).trans c3;have r1:w5.cell? ⟨c,1,none⟩=some (.int .i64 (fr:Int)):=(K5.qF M9 1).trans c1;have r0:w5.cell? ⟨c,0,none⟩=some (.pointer (some ⟨b,0,none⟩)):=(K5.qF M9 0).trans c0;have q3:w5.frozen? ⟨c,3,none⟩=false:=(lZ.out.kept K5).aD.frozen 3)
    all_goals
     go_wp2
     exact bodyPost_ret (v:=.tuple #[]) (by simp[results,Tryz.results101,go_sem]) rfl ⟨rfl,aA.out _ K5⟩
   ·have h2':(fr:Int)<(p:Int)+(p1:Int):=by omega
    clear h2;by_cases h3:(s:Int)<256
    ·have hx:af T s=[s]:=by unfold af;rw[if_pos (by omega)]
     have yw:p1=1:=by rw[Pu.out,hx];rfl
     subst yw;rw[hx];obtain⟨i0,kQ,jh,dP,dB⟩:=info_parts Lt;have aA:Hid (∀w1 w3 v',Kept [] w w1->w1.grownBy w3 ov.ownBlock->w3.ownsRow (c+1) 5 1 v' (out.length+1) (byteCells out++[.int .u8 (s:Int)])->qp w ((w3.setCell ⟨c,4,none⟩ v').setCell ⟨c,3,none⟩ (.int .i64 ((p+1:Nat):Int))) c b fr dst p [s] out/\ah w3 c #[.pointer (some ⟨b,0,none⟩),.int .i64 (fr:Int),.int .i64 (dst:Int),.int .i64 (p:Int),ov] 175):=fun w1 w3 v' k1 g aG=>by
      obtain⟨x1,x2,x4,x3⟩:=(lZ.out.kept k1).grow g aG;refine⟨⟨xP (xP ((k1.below (Nat.le_of_lt M9) (by simp)).trans x2) _ _) _ _,fun k cs e hk he hb=>((x4 k cs e he (hb.kept k1 (by simp))).other _ _ (fun hc=>hk hc)).other _ _ (fun hc=>hk hc),v',?_⟩,x1⟩;rw[S8 (by omega) (by omega),show min (p+[s].length) dst=p+1 by simp;omega];exact x3
     have own:∀w1,Kept [] w w1->w1.ownsRow (c+1) 5 1 ov out.length (byteCells out):=fun w1 k1=>(lZ.out.kept k1).row;have mb:out.length+1<=maxLen:=by have:=lZ.out.len;unfold maxLen;omega
     have mc:(out.length+1)*1<=140737488355328:=by have:=lZ.out.len;omega
     clear ih hS hx;go_enter Tryz.func101,Tryz.ntmps101
     go_wp2_with fail
     go_quiet (fail)
     go_wp2_with fail
     go_region_law (go_simp;go_at_call 147;refine(RV.out _ (((Kept.refl [] w).drewN _).drew)).mono ?_;rintro _ w5 ⟨rfl,k5⟩;have K5:=(((Kept.refl [] w).drewN _).drew).trans k5;have r3:w5.cell? ⟨c,3,none⟩=some (.int .i64 (p:Int)):=(K5.qF M9 3).trans c3;have r1:w5.cell? ⟨c,1,none⟩=some (.int .i64 (fr:Int)):=(K5.qF M9 1).trans c1;have r4:w5.cell? ⟨c,4,none⟩=some ov:=(K5.qF M9 4).trans c4;have r0:w5.cell? ⟨c,0,none⟩=some (.pointer (some ⟨b,0,none⟩)):=(K5.qF M9 0).trans c0;have q3:w5.frozen? ⟨c,3,none⟩=false:=(lZ.out.kept K5).aD.frozen 3)
     all_goals
      go_wp2_with (at_builtin;refine wpList_append_own _ rfl (.tmp 43) (.tmp 46) 77 rfl (c+1) 5 i0 _ 1 1 Tryz.underlying77 kQ jh dP dB rfl (by decide) ov out.length (byteCells out) rfl ?own ⟨w5.heap.size,0,none⟩ 1 1 [.int .u8 (s:Int)] rfl rfl ?c1 ?c2 ?b1 ?b2 ?b3 ?kk)
      case own=>exact own _ (K5.alloc _)
      case c1=>exact bM _ _ _ _ rfl
      case c2=>simp[Value.oneCell']
      case b1=>exact mb
      case b2=>exact mc
      case b3=>have:=K5.size;simp;omega
      case kk=>
       intro v' w3 aG ay _;obtain⟨gv,cap,rfl⟩:=aO aG (by omega);obtain⟨f1,f2⟩:=aA.out _ _ _ (K5.alloc _) ay aG;have f1:Hid (qp _ _ _ _ _ _ _ _ _):=f1;have e4:w3.cell? ⟨c,4,none⟩=some ov:=f2.cell 4;have e3:w3.cell? ⟨c,3,none⟩=some (.int .i64 (p:Int)):=f2.cell 3;have f4:w3.frozen? ⟨c,4,none⟩=false:=f2.frozen 4;have f3:w3.frozen? ⟨c,3,none⟩=false:=f2.frozen 3;have hc3:c<w3.heap.size:=f2.lt;clear f2 aG ay;go_wp2
       exact bodyPost_ret (v:=.tuple #[]) (by simp[results,Tryz.results101,go_sem]) rfl ⟨rfl,f1.out⟩
    ·obtain⟨x,hx⟩:∃x,t.rules[s-256]?=some x:=⟨_,List.getElem?_eq_getElem (by omega)⟩;obtain⟨u1,u2,u3,_⟩:=hS.uy _ _ hx;have Kx:af T s=af T x.l++af T x.r:=by
      rw[<-u3];unfold af;rw[if_neg (by omega)]
     have qE:dT t.rules (s:Int)=x:=by
      unfold dT;rw[if_pos (by omega),show((s:Int)-256).toNat=s-256 by omega,hx];rfl
     have hle:(af T x.l).length+(af T x.r).length=(af T s).length:=by rw[Kx,List.length_append]
     have hcr:Hid (∀w',Kept [] w w'->Calls Tryz.prog 144 #[.pointer (some ⟨b,0,none⟩),.int .i64 (s:Int)] w' fun e w2=>e=.returned (dT t.rules s).val/\Kept [] w' w2):=fun w' k=>th (pq.out.kept k) s (by omega) (by omega);rw[qE]at hcr;have hl:=Pu.out;have hA:Hid (∀w',Kept [] w w'->Calls _ _ _ w' _):=fun w' k=>ih x.l (by omega) (by omega) (by omega) p ov out w' (pq.out.kept k) (lZ.out.kept k) hp;have hB:Hid (∀w1 w2,Kept [] w w1->qp w1 w2 c b fr dst p (af T x.l) out->Calls Tryz.prog 101 #[.pointer (some ⟨c,0,none⟩),.int .i64 (x.r:Int)] w2 fun e w'=>e=.returned (.tuple #[])/\qp w w' c b fr dst p (af T s) out):=fun w1 w2 k1 o=>by
      obtain⟨ov2,Wn⟩:=o.ex;have kf:TR w2 n b t rv sv:=(pq.out.kept k1).under o.below hn;refine(ih x.r (by omega) (by omega) (by omega) _ ov2 _ w2 kf Wn (Nat.min_le_right _ _)).mono ?_;rintro e w' ⟨he,o2⟩;obtain⟨ov3,hC3⟩:=o2.ex;refine⟨he,((k1.below (Nat.le_of_lt M9) (by simp)).trans o.below).trans o2.below,fun k cs e hk he hb=>o2.stay k cs e hk he (o.stay k cs e hk he (hb.kept k1 (by simp))),ov3,?_⟩;rw[Kx,BB,<-List.append_assoc,List.length_append];rw[Iy]at hC3;rw[show min (p+((af T x.l).length+(af T x.r).length)) dst=min (min (p+(af T x.l).length) dst+(af T x.r).length) dst by omega];exact hC3
     clear ih hS hx u1 u2 u3 Kx qE hle hl;obtain⟨rl,rr,⟨y1,y2,y3,y4⟩⟩:=x;unfold RU.val RU.cells at hcr;simp only[]at hcr hA hB;have h3':(256:Int)<=(s:Int):=by omega
     clear h3;generalize af T rl=XL at *;generalize af T rr=XR at *;generalize af T s=XS at *;go_enter Tryz.func101,Tryz.ntmps101
     go_wp2_with fail
     go_quiet (fail)
     go_wp2_with fail
     go_region_law (go_simp;go_at_call 147;refine(RV.out _ (((Kept.refl [] w).drewN _).drew)).mono ?_;rintro _ w5 ⟨rfl,k5⟩;have K5:=(((Kept.refl [] w).drewN _).drew).trans k5;have r3:w5.cell? ⟨c,3,none⟩=some (.int .i64 (p:Int)):=(K5.qF M9 3).trans c3;have r1:w5.cell? ⟨c,1,none⟩=some (.int .i64 (fr:Int)):=(K5.qF M9 1).trans c1;have r0:w5.cell? ⟨c,0,none⟩=some (.pointer (some ⟨b,0,none⟩)):=(K5.qF M9 0).trans c0;have q3:w5.frozen? ⟨c,3,none⟩=false:=(lZ.out.kept K5).aD.frozen 3)
     all_goals
      go_wp2_with (first
       | (go_at_call 144
          refine(hcr.out _ K5).mono ?_;rintro _ w6 ⟨rfl,k6⟩;have K6:=(K5.trans k6).alloc (.cells #[.int .i64 rl,.int .i64 rr,.int .i64 y1,.int .i64 y2,.int .i64 y3,.int .i64 y4] 221);have L6:=(K5.trans k6).size)
       | (go_at_call_of 101 (Value.int IntKind.i64 (rl:Int))
          refine(hA.out _ K6).mono ?_;rintro _ w7 ⟨rfl,o7⟩;have o7H:Hid (qp _ _ _ _ _ _ _ _ _):=o7;have e1:w7.cell? ⟨w6.heap.size,1,none⟩=some (.int .i64 rr):=(o7.stay _ _ _ (by omega) (by decide) (ah.new w6 _ _)).cell 1)
       | (go_at_call_of 101 (Value.int IntKind.i64 (rr:Int))
          refine(hB.out _ _ K6 o7H.out).mono ?_;rintro _ w8 ⟨rfl,o8⟩))
      go_end0;exact⟨rfl,o8⟩
def se(f:Nat->Bool)(W:Nat->Nat->Bool)(i c:Nat):Bool:=(List.range i).any fun m=>f m&&W m c
theorem Iz(f:Nat->Bool)(W:Nat->Nat->Bool)(i c:Nat):se f W (i+1) c=(se f W i c || (f i&&W i c)):=by
 simp[se,List.range_succ]
theorem Wr(f:Nat->Bool)(W:Nat->Nat->Bool)(i c:Nat):se f W i c=true↔∃m,m<i/\f m=true/\W m c=true:=by
 simp only[se,List.any_eq_true,List.mem_range,Bool.and_eq_true]
def qP(f:Nat->Bool)(W:Nat->Nat->Bool)(i k c:Nat):Bool:=if c<k then se f W (i+1) c else se f W i c
theorem Pv(f:Nat->Bool)(W:Nat->Nat->Bool)(i k:Nat)(hf:f i=true)(j:Nat):qP f W i (k+1) j=if j=k then (qP f W i k k || W i k) else qP f W i k j:=by
 unfold qP;by_cases h:j=k
 ·subst h;rw[if_pos rfl,if_pos (by omega),if_neg (Nat.lt_irrefl _),Iz,hf,Bool.true_and]
 ·rw[if_neg h];by_cases h2:j<k
  ·rw[if_pos (by omega),if_pos h2]
  ·rw[if_neg (by omega),if_neg h2]
theorem Pw(f:Nat->Bool)(W:Nat->Nat->Bool)(i k:Nat)(hf:f i=false)(j:Nat):qP f W i k j=se f W (i+1) j:=by
 unfold qP;rw[Iz,hf,Bool.false_and,Bool.or_false];split <;> rfl
structure FK (w w':World)(e:Ending)(n:Nat)(f:Nat->Bool):Prop where
 ex:∃g,e=.returned (di n g)/\w.heap.size<=g/\ah w' g (ar n f) 4
 kept:Kept [] w w'
theorem nY{n:Nat}(hn:n<=100000){w:World}{gv:Nat}{f:Nat->Bool}(hv:ah w gv (ar n f) 4){vW:Value}{rows:List Nat}{W:Nat->Nat->Bool}(hW:kR w 0 vW n rows W)(hlen:rows.length=n):
 Calls Tryz.prog 114 #[di n gv,vW] w fun e w'=>FK w w' e n (se f W n):=by
 have zd:=oW n (by omega);have h0:Hid (ah (w.alloc (.cells (ar n (fun _=>false)) 4)) w.heap.size (ar n (se f W 0)) 4):=ah.new w _ _;have rJ:Hid (Kept [] w (w.alloc (.cells (ar n (fun _=>false)) 4))):=(Kept.refl [] w).alloc _;have XI:Hid (ah _ _ _ _):=hv;have hWH:Hid (kR _ _ _ _ _ _):=hW;have Hu:Hid (_=_):=hlen;clear hv hW hlen;unfold di;go_enter Tryz.func114,Tryz.ntmps114
 go_wp2_with fail
 clear zd;go_loopw [6,7] (fun iv _ wr=>∃i:Nat,iv=.int .i64 (i:Int)/\i<=n/\ah wr w.heap.size (ar n (se f W i)) 4/\Kept [] w wr) (fun iv _ _=>((n:Int)-intOf iv).toNat)
 case atStart=>exact⟨0,rfl,Nat.zero_le _,h0.out,rJ.out⟩
 case round=>
  obtain⟨i,rfl,hi,hb,fG⟩:=hrel;have iI:Hid (ah _ _ _ _):=hb;have dj:Hid (Kept _ _ _):=fG;clear h0 rJ hb fG;by_cases bO:(i:Int)<(n:Int)
  ·have oC:i<n:=by omega
   go_wp2_with fail
   go_loopw [7] (fun kv wr=>∃k:Nat,kv=.int .i64 (k:Int)/\k<=n/\ah wr w.heap.size (ar n (qP f W i k)) 4/\Kept [] w wr) (fun kv _=>((n:Int)-intOf kv).toNat)
   case atStart=>exact⟨0,rfl,Nat.zero_le _,by
    rw[iD (f:=qP f W i 0) (f':=se f W i) (fun j _=>if_neg (Nat.not_lt_zero _))];exact iI.out,dj.out⟩
   case round=>
    obtain⟨k,rfl,hk,hb,fG⟩:=hrel;clear iI dj;have IA:=XI.out.kept fG (by simp);have a1:wr.cell? ⟨gv,i,none⟩=some (.bool (f i)):=by rw[IA.cell,aW _ oC]
    have hvl:=IA.lt;clear IA;by_cases hkt:(k:Int)<(n:Int)
    ·have xv:k<n:=by omega
     cases hf:f i with
     | false=>
       rw[hf]at a1;rw[iD (f:=qP f W i k) (f':=se f W (i+1)) (fun j _=>Pw f W i k hf j)]at hb;have iI:Hid (ah _ _ _ _):=hb;have dj:Hid (Kept _ _ _):=fG;clear hb fG hf;go_wp2
       refine⟨⟨i+1,by go_num,by omega,iI.out,dj.out⟩,?_⟩;simp only[intOf];omega
     | true=>
       rw[hf]at a1;obtain⟨g,hg⟩:∃g,rows[i]?=some g:=⟨_,List.getElem?_eq_getElem (by rw[Hu.out];omega)⟩;have Zp:=hWH.out.kept fG (by simp);obtain⟨k2,cap2,rfl,_,BD⟩:=Zp.head (by rw[Hu.out];omega);have d1:=BD i g hg;unfold di at d1;have d2:=Zp.cell hg (j:=k) xv;have e1:wr.cell? ⟨w.heap.size,k,none⟩=some (.bool (qP f W i k k)):=by rw[hb.cell,aW _ xv]
       have e2:=hb.frozen k;have e3:=hb.lt;have hln:rows.length=n:=Hu.out;rw[hln];have jm:Hid (ah (wr.setCell ⟨w.heap.size,k,none⟩ (.bool (qP f W i k k || W i k))) w.heap.size (ar n (qP f W i (k+1))) 4):=by
        have:=hb.set k (.bool (qP f W i k k || W i k))
        rwa [eu (qP f W i k) (qP f W i (k+1)) k _ (fun j _=>Pv f W i k hf j)]at this
       have gH:Hid (Kept [] w (wr.setCell ⟨w.heap.size,k,none⟩ (.bool (qP f W i k k || W i k)))):=fG.setCell (Or.inr (Nat.le_refl _)) _
       clear hg BD Zp hb fG hf hln;generalize qP f W i k k=X at *;generalize W i k=Y at *;cases X with
       | true=>
         rw[Bool.true_or]at jm gH;go_wp2
         refine⟨⟨k+1,by go_num,by omega,jm.out,gH.out⟩,?_⟩;simp only[intOf];omega
       | false=>
         rw[Bool.false_or]at jm gH;go_wp2
         refine⟨⟨k+1,by go_num,by omega,jm.out,gH.out⟩,?_⟩;simp only[intOf];omega
    ·have xv:k=n:=by omega
     rw[iD (f:=qP f W i k) (f':=se f W (i+1)) (fun j hj=>if_pos (by omega))]at hb;have iI:Hid (ah _ _ _ _):=hb;have dj:Hid (Kept _ _ _):=fG;clear hb fG;go_wp2
     refine⟨⟨i+1,by go_num,by omega,iI.out,dj.out⟩,?_⟩;simp only[intOf];omega
  ·have oC:i=n:=by omega
   rw[oC]at iI;go_wp2
   go_ret;exact⟨⟨_,rfl,Nat.le_refl _,iI.out⟩,dj.out⟩
theorem kR.S9{w w':World}{B n:Nat}{v:Value}{rows:List Nat}{M:Nat->Nat->Bool}(h:kR w B v n rows M){g:Nat}{f:Nat->Bool}(hg:ah w g (ar n f) 4)(hB:B<=g)(VD:¬g∈rows){o:Obj}{v':Value}
 (aG:w'.ownsRow B 40 1 v' (rows.length+1) (rows.map (di n)++[di n g])) (ay:(w.alloc o).grownBy w' v.ownBlock) {M':Nat->Nat->Bool} (e:∀i j,i<rows.length+1->j<n->M' i j=if i=rows.length then f j else M i j):
 kR w' B v' n (rows++[g]) M'/\(∀w0,Kept [] w0 w->w0.heap.size<=B->Kept [] w0 w'):=by
 have bl:∀k,k<w.heap.size->v.ownBlock≠some k->w'.heap[k]?=w.heap[k]?:=fun k hk fx=>by
  rw[ay.block k (by simp;omega) (fun hc=>fx hc.symm),Below.heap_alloc _ _ _ hk]
 have hs:w.heap.size<=w'.heap.size:=by have:=ay.size;simp at this;omega
 refine⟨⟨?_,fun i q hq=>?_,fun q hq=>?_,?_⟩,fun w0 k hk=>⟨ay.os.trans k.os,ay.tape.trans k.tape,ay.output.trans k.output,Nat.le_trans k.size hs,fun i hi hn=>?_⟩⟩
 ·rw[List.map_append,List.length_append];exact aG
 ·by_cases hi:i<rows.length
  ·rw[List.getElem?_append_left hi]at hq;have h1:=h.row i q hq;rw[iD (f:=M' i) (f':=M i) (fun j hj=>by rw[e i j (by omega) hj,if_neg (by omega)])];exact(bl q h1.lt (h.ne hq)).trans h1
  ·have CI:i=rows.length:=by
    have:=(List.getElem?_eq_some_iff.1 hq).1;simp at this;omega
   subst CI;rw[List.getElem?_append_right (Nat.le_refl _),Nat.sub_self]at hq;simp at hq;subst hq;rw[iD (f:=M' rows.length) (f':=f) (fun j hj=>by rw[e _ j (by omega) hj,if_pos rfl])];exact(bl g hg.lt (fun hc=>absurd (lk h.own hg hc) (by decide))).trans hg
 ·rcases List.mem_append.1 hq with hq|hq
  ·exact h.base q hq
  ·simp at hq;omega
 ·rw[List.nodup_append];refine⟨h.nodup,by simp,fun a ha b hb=>?_⟩;simp at hb;subst hb;rintro rfl;exact VD ha
 ·have:=k.size;rw[bl i (by omega) (fun hc=>by have:=(h.own.lt _ hc).1;omega)];exact k.block i hi hn
structure Lv (w w':World)(e:Ending)(n:Nat)(W:Nat->Nat->Bool):Prop where
 ex:∃v rows,e=.returned v/\rows.length=n/\kR w' w.heap.size v n rows W
 kept:Kept [] w w'
theorem Lw{n:Nat}(hn0:0<n)(hn:n<=100000){w:World}{vA vW:Value}{ra rows:List Nat}{A W:Nat->Nat->Bool}(hA:kR w 0 vA n ra A)(hla:ra.length=n)(hW:kR w 0 vW n rows W)(hlen:rows.length=n):
 Calls Tryz.prog 112 #[vA,vW] w fun e w'=>Lv w w' e n (fun i=>se (A i) W n):=by
 obtain⟨i0,kQ,jh,dP,dB⟩:=info_parts EO;obtain⟨ka,capa,rfl,_,_⟩:=hA.head (by omega);have wZ:Hid (kR _ _ _ _ _ _):=hA;have hWH:Hid (kR _ _ _ _ _ _):=hW;have Zq:Hid (_=_):=hla;have Hu:Hid (_=_):=hlen;rw[hla];rw[hla]at wZ;clear hA hW hla hlen;go_enter Tryz.func112,Tryz.ntmps112
 go_wp2_with fail
 go_loopw [5,6,7] (fun tv iv _ wr=>∃rs:List Nat,iv=.int .i64 (rs.length:Int)/\rs.length<=n/\kR wr w.heap.size tv n rs (fun i=>se (A i) W n)/\Kept [] w wr) (fun _ iv _ _=>((n:Int)-intOf iv).toNat)
 case atStart=>exact⟨[],rfl,Nat.zero_le _,kR.nil _ _ _ _,Kept.refl _ _⟩
 case round=>
  obtain⟨rs,rfl,hle,ht,fG⟩:=hrel;have zw:Hid (kR _ _ _ _ _ _):=ht;have dj:Hid (Kept _ _ _):=fG;by_cases bO:(rs.length:Int)<(n:Int)
  ·have oC:rs.length<n:=by omega
   obtain⟨g,hg⟩:∃g,ra[rs.length]?=some g:=⟨_,List.getElem?_eq_getElem (by rw[Zq.out];omega)⟩;have YI:=wZ.out.kept fG (by simp);obtain⟨k2,cap2,he,_,BD⟩:=YI.head (by rw[Zq.out];omega);rw[Zq.out]at he;cases he;have d1:=BD _ g hg;have Zr:Hid (Calls _ _ _ _ _):=nY hn (YI.row _ g hg) (hWH.out.kept fG (by simp)) Hu.out;unfold di at d1 Zr;have dd:=fG.size;clear YI BD hg ht fG;go_wp2_with fail
   refine Zr.out.mono ?_;rintro e w2 ⟨⟨g2,rfl,jK,jm⟩,k2⟩;have Zs:Hid (ah w2 g2 _ _):=jm;have Ws:Hid (kR w2 _ _ _ _ _):=zw.out.kept k2 (by simp);have DG:Hid (Kept [] w w2):=dj.out.trans k2;have IB:Hid (∀o,(w2.alloc o).ownsRow _ _ _ _ _ _):=fun o=>Ws.out.own.alloc o;have Wt:Hid (¬g2∈rs):=fun hc=>by have:=zw.out.lt hc;omega
   have Zt:Hid (w.heap.size<=g2):=by show w.heap.size<=g2;omega
   have Px:=DG.out.size;unfold di;clear k2 jm Zr zw dj d1;go_wp2_with (at_builtin;go_loud (refine cx rfl (.tmp 20) (.tmp 22) 120 rfl w.heap.size 40 i0 _ 1 24 Tryz.underlying120 kQ jh dP dB rfl (by decide) _ rs.length (rs.map (di n)) rfl ?own ⟨w2.heap.size,0,none⟩ 1 1 [di n g2] (by simp[Act.eval,Act.put]) rfl ?n1 ?n2 ?b1 ?b2 ?b3 ?kk))
   case own=>exact IB.out _
   case n1=>exact bM _ _ _ _ rfl
   case n2=>simp[Value.oneCell',di]
   case b1=>unfold maxLen;omega
   case b2=>omega
   case b3=>simp;omega
   case kk=>
    intro v' w5 aG ay _;obtain⟨ht5,mN⟩:=Ws.out.S9 (M':=fun i=>se (A i) W n) Zs.out Zt.out Wt.out aG ay (fun i j hi hj=>by
     by_cases h:i=rs.length
     ·subst h;rw[if_pos rfl]
     ·rw[if_neg h])
    have mN:=mN w DG.out (Nat.le_refl _);go_wp2
    refine⟨⟨_,?_,?_,ht5,mN⟩,?_⟩
    ·simp
    ·simp;omega
    ·simp only[intOf];omega
  ·go_wp2
   go_ret;exact⟨⟨_,_,rfl,by omega,zw.out⟩,dj.out⟩
def SF(n:Nat)(f:Nat->Bool):jd:=fun k=>k<3+n/\f k=true
def pE(n:Nat)(o:Nat->Bool):Nat:=((List.range n).filter fun i=>!o i).length
theorem nj(n:Nat)(o:Nat->Bool):pE (n+1) o=pE n o+if o n=true then 0 else 1:=by
 unfold pE;rw[List.range_succ,List.filter_append,List.length_append,List.filter_cons];cases o n <;> simp
theorem yZ:∀{n:Nat} {o o':Nat->Bool},(∀j,j<n->o j=o' j)->pE n o=pE n o'
 | 0,_,_,_=>rfl
 | n+1,o,o',h=>by rw[nj,nj,h n (by omega),yZ (fun j hj=>h j (by omega))]
def km(o:Nat->Bool)(i:Nat):Nat->Bool:=fun j=>if j=i then true else o j
theorem xQ:∀{n:Nat} {o:Nat->Bool} {i:Nat},i<n->o i=false->pE n (km o i)+1=pE n o
 | 0,_,_,h,_=>by omega
 | n+1,o,i,h,ho=>by
   rw[nj,nj];by_cases hi:i=n
   ·subst hi;have e:km o i i=true:=if_pos rfl;rw[e,ho,yZ (o:=km o i) (o':=o) (fun j hj=>if_neg (by omega))];simp
   ·have e:km o i n=o n:=if_neg (by omega);rw[e];have:=xQ (n:=n) (o:=o) (i:=i) (by omega) ho;omega
def isF:Value->Bool
 | .bool false=>true
 | _=>false
def uC(w:World)(g:Nat):Nat:=
 match w.heap[g]? with
 | some (.cells cs _ _)=>(cs.toList.filter isF).length
 | _=>0
theorem BF{w:World}{g n:Nat}{o:Nat->Bool}{t:TypeId}(h:ah w g (ar n o) t):uC w g=pE n o:=by
 unfold ah at h;unfold uC pE;rw[h];simp only[ar];rw[List.filter_map,List.length_map];congr 1
 apply List.filter_congr;intro i _;show isF (.bool (o i))=_;cases o i <;> rfl
def Zu:Value->Nat
 | .slice _ n _=>n
 | _=>0
section
variable (D:fo)
def sf(f:Nat->Bool)(j:Nat):Bool:=f (3+j) || ((j:Int)==(D.start:Int))&&(f 0 || (f 1&&!D.whole))
def iB(f:Nat->Bool)(i:Nat):List Nat:=(List.range i).filter (sf D f)
def Py(x:DN)(b e:Bool):Bool:=x.kind==7 || (x.kind==2&&b) || (x.kind==3&&e)
def C6(x:DN)(b e:Bool):List Nat:=(if Py x b e=true then [x.next] else [])++(if (x.kind==7)=true then [x.other] else [])
structure BJ (f:Nat->Bool)(b e:Bool)(o:Nat->Bool)(l:List Nat):Prop where
 Na:∀i,i∈l->pB D (SF D.nodes.length f) (b=true) (e=true) i
 Ta:∀i,i<D.nodes.length->o i=true->pB D (SF D.nodes.length f) (b=true) (e=true) i
 base:∀i,i<D.nodes.length->sf D f i=true->o i=true\/i∈l
 closed:∀i x,D.nodes[i]?=some x->o i=true->∀j,j∈C6 x b e->o j=true\/j∈l
 small:l.length+3*pE D.nodes.length o<=4*D.nodes.length
end
section
variable {D:fo}{f:Nat->Bool}{b e:Bool}{o:Nat->Bool}{l:List Nat}
theorem IC(i:Nat):iB D f (i+1)=iB D f i++if sf D f i=true then [i] else []:=by
 unfold iB;rw[List.range_succ,List.filter_append,List.filter_cons];cases sf D f i <;> simp
theorem BK(i:Nat):(iB D f i).length<=i:=by
 unfold iB;have:=List.length_filter_le (sf D f) (List.range i);rwa [List.length_range]at this
theorem BN:∀n,pE n (fun _=>false)=n
 | 0=>rfl
 | n+1=>by rw[nj,BN n];rfl
theorem BJ.begin{R:gz}(h:gX D R):BJ D f b e (fun _=>false) (iB D f D.nodes.length):=by
 refine⟨fun i hi=>?_,(fun i _ h=>by cases h),fun i hi hc=>Or.inr ?_,(fun i x _ h=>by cases h),?_⟩
 ·unfold iB at hi;obtain⟨h1,h2⟩:=List.mem_filter.1 hi;have hn:=List.mem_range.1 h1;unfold sf at h2;rw[Bool.or_eq_true,Bool.and_eq_true,Bool.or_eq_true,Bool.and_eq_true]at h2;rcases h2 with h2|⟨h3,h2⟩
  ·exact pB.node hn ⟨by omega,h2⟩
  ·have hs:i=D.start:=by
    have:(i:Int)=(D.start:Int):=by simpa using h3
    omega
   rw[hs];refine pB.start ?_;rcases h2 with h2|⟨h2,h4⟩
   ·exact Or.inl ⟨by omega,h2⟩
   ·exact Or.inr ⟨⟨by omega,h2⟩,by simpa using h4⟩
 ·unfold iB;exact List.mem_filter.2 ⟨List.mem_range.2 hi,hc⟩
 ·have:=BK (D:=D) (f:=f) D.nodes.length;rw[BN];omega
theorem Tb{x:DN}{i:Nat}{S:jd}(hx:D.nodes[i]?=some x)(g:pB D S (b=true) (e=true) i){j:Nat}(hj:j∈C6 x b e):pB D S (b=true) (e=true) j:=by
 unfold C6 at hj;rcases List.mem_append.1 hj with hj|hj
 ·split at hj
  ·rename_i hg
   obtain rfl:=List.mem_singleton.1 hj;refine pB.next g hx ?_;unfold Py at hg;simpa [or_assoc] using hg
  ·cases hj
 ·split at hj
  ·rename_i hg
   obtain rfl:=List.mem_singleton.1 hj;exact pB.other g hx (by simpa using hg)
  ·cases hj
theorem Tc(x:DN)(b e:Bool):(C6 x b e).length<=2:=by
 unfold C6;rw[List.length_append];split <;> split <;> simp
theorem BJ.skip{i:Nat}(h:BJ D f b e o (l++[i]))(ho:o i=true):BJ D f b e o l:=by
 refine⟨fun j hj=>h.Na j (List.mem_append_left _ hj),h.Ta,fun j hj hc=>?_,fun j x hx Zv k hk=>?_,by have:=h.small;rw[List.length_append]at this;simp at this;omega⟩
 ·rcases h.base j hj hc with h1|h1
  ·exact Or.inl h1
  ·rcases List.mem_append.1 h1 with h1|h1
   ·exact Or.inr h1
   ·obtain rfl:=List.mem_singleton.1 h1;exact Or.inl ho
 ·rcases h.closed j x hx Zv k hk with h1|h1
  ·exact Or.inl h1
  ·rcases List.mem_append.1 h1 with h1|h1
   ·exact Or.inr h1
   ·obtain rfl:=List.mem_singleton.1 h1;exact Or.inl ho
theorem BJ.take{i:Nat}{x:DN}(h:BJ D f b e o (l++[i]))(ho:o i=false)(hx:D.nodes[i]?=some x):BJ D f b e (km o i) (l++C6 x b e):=by
 have hi:=(List.getElem?_eq_some_iff.1 hx).1;have hr:=h.Na i (List.mem_append_right _ (List.mem_singleton.2 rfl));have up:∀j,o j=true->km o i j=true:=fun j hj=>by
  unfold km;split
  ·rfl
  ·exact hj
 have upi:km o i i=true:=if_pos rfl;refine⟨fun j hj=>?_,fun j hj Zv=>?_,fun j hj hc=>?_,fun j y hy Zv k hk=>?_,?_⟩
 ·rcases List.mem_append.1 hj with hj|hj
  ·exact h.Na j (List.mem_append_left _ hj)
  ·exact Tb hx hr hj
 ·by_cases Vb:j=i
  ·rw[Vb];exact hr
  ·exact h.Ta j hj (by unfold km at Zv;rwa [if_neg Vb]at Zv)
 ·rcases h.base j hj hc with h1|h1
  ·exact Or.inl (up j h1)
  ·rcases List.mem_append.1 h1 with h1|h1
   ·exact Or.inr (List.mem_append_left _ h1)
   ·obtain rfl:=List.mem_singleton.1 h1;exact Or.inl upi
 ·by_cases Vb:j=i
  ·subst Vb;rw[hx]at hy;obtain rfl:=Option.some.inj hy;exact Or.inr (List.mem_append_right _ hk)
  ·rcases h.closed j y hy (by unfold km at Zv;rwa [if_neg Vb]at Zv) k hk with h1|h1
   ·exact Or.inl (up k h1)
   ·rcases List.mem_append.1 h1 with h1|h1
    ·exact Or.inr (List.mem_append_left _ h1)
    ·obtain rfl:=List.mem_singleton.1 h1;exact Or.inl upi
 ·have h1:=h.small;have h2:=xQ hi ho;have h3:=Tc x b e;rw[List.length_append]at h1 ⊢;simp at h1;omega
theorem BJ.fin{R:gz}(hM:gX D R)(h:BJ D f b e o [])(i:Nat):(i<D.nodes.length/\o i=true)↔pB D (SF D.nodes.length f) (b=true) (e=true) i:=by
 constructor
 ·rintro⟨h1,h2⟩;exact h.Ta i h1 h2
 ·intro g;refine⟨SY hM g,?_⟩;have fin:∀j,(o j=true\/j∈([]:List Nat))->o j=true:=fun j hj=>by
   rcases hj with hj|hj
   ·exact hj
   ·cases hj
  induction g with
  | @node i h1 h2=>exact fin i (h.base i h1 (by unfold sf;rw[h2.2];rfl))
  | start h1=>
    refine fin _ (h.base _ hM.Ix ?_);unfold sf;have e1:((D.start:Int)==(D.start:Int))=true:=beq_self_eq_true _;rw[e1];rcases h1 with h1|⟨h1,h2⟩
    ·rw[h1.2];simp
    ·rw[h1.2,h2];simp
  | @next i x g1 h1 h2 ih=>
    refine fin _ (h.closed i x h1 ih _ ?_);unfold C6;refine List.mem_append_left _ ?_;rw[if_pos]
    ·exact List.mem_singleton.2 rfl
    ·unfold Py;simpa [or_assoc] using h2
  | @other i x g1 h1 h2 ih=>
    refine fin _ (h.closed i x h1 ih _ ?_);unfold C6;refine List.mem_append_right _ ?_;rw[if_pos (by simpa using h2)];exact List.mem_singleton.2 rfl
end
end Go.Proofs.YtgifhgnccmnbiabGreatDoor
namespace Go.Proofs.YtgifhgnccmnbiabGreatDoor
def nk:List Nat->List Nat->List (List Nat)
 | at',[]=>if at'=[] then [] else [at']
 | at',c :: r=>if c=10 then at' :: nk [] r else nk (at'++[c]) r
def jA(X:List Nat):List (List Nat):=nk [] X
theorem Pz(a r:List Nat):nk a (10 :: r)=a :: nk [] r:=by rw[nk,if_pos rfl]
theorem Td{c:Nat}(h:c≠10)(a r:List Nat):nk a (c :: r)=nk (a++[c]) r:=by rw[nk,if_neg h]
def fv:List Nat->List Nat->List (List Nat)×List Nat
 | u,[]=>([],u)
 | u,c :: r=>if c=10 then (u :: (fv [] r).1,(fv [] r).2) else fv (u++[c]) r
theorem eW(u:List Nat):fv u []=([],u):=rfl
theorem fU(u r:List Nat):fv u (10 :: r)=(u :: (fv [] r).1,(fv [] r).2):=by rw[fv,if_pos rfl]
theorem pF{c:Nat}(h:c≠10)(u r:List Nat):fv u (c :: r)=fv (u++[c]) r:=by rw[fv,if_neg h]
theorem kL:∀(X u Y:List Nat),fv u (X++Y)=((fv u X).1++(fv (fv u X).2 Y).1,(fv (fv u X).2 Y).2)
 | [],u,Y=>rfl
 | c :: X,u,Y=>by
   rw[List.cons_append];by_cases h:c=10
   ·subst h;rw[fU,fU,kL X [] Y];rfl
   ·rw[pF h,pF h,kL X (u++[c]) Y]
theorem Nb:∀(X u v:List Nat),fv (u++v) X=if (fv v X).1=[] then ([],u++(fv v X).2) else ((u++(fv v X).1.headD []) :: (fv v X).1.tail,(fv v X).2)
 | [],u,v=>by rw[eW,eW,if_pos rfl]
 | c :: X,u,v=>by
   by_cases h:c=10
   ·subst h;rw[fU,fU,if_neg (by simp)];rfl
   ·rw[pF h,pF h,List.append_assoc,Nb X u (v++[c])]
theorem jB(X u:List Nat):fv u X=if (fv [] X).1=[] then ([],u++(fv [] X).2) else ((u++(fv [] X).1.headD []) :: (fv [] X).1.tail,(fv [] X).2):=by
 have:=Nb X u [];rwa [List.append_nil]at this
theorem xR:∀(X u:List Nat),nk u X=(fv u X).1++if (fv u X).2=[] then [] else [(fv u X).2]
 | [],u=>by rw[eW,nk];rfl
 | c :: X,u=>by
   by_cases h:c=10
   ·subst h;rw[fU,Pz,xR X []];rfl
   ·rw[pF h,Td h,xR X (u++[c])]
theorem iY:∀(X u:List Nat),(fv u X).1.length=oL X
 | [],u=>rfl
 | c :: X,u=>by
   by_cases h:c=10
   ·subst h;rw[fU,List.length_cons,iY X []];rfl
   ·rw[pF h,iY X (u++[c])];unfold oL;rw[List.filter_cons_of_neg (by simpa using h)]
theorem FM{c:Nat}(h:c≠10)(u:List Nat):fv u [c]=([],u++[c]):=by rw[pF h,eW]
theorem xS:∀(X u:List Nat),(fv u X).1=[]->(fv u X).2=u++X
 | [],u,_=>by rw[eW,List.append_nil]
 | c :: X,u,h=>by
   by_cases hc:c=10
   ·subst hc;rw[fU]at h;simp at h
   ·rw[pF hc]at h ⊢;rw[xS X (u++[c]) h,List.append_assoc];rfl
theorem lp:∀(X u:List Nat),(fv u X).2.length<=u.length+X.length
 | [],u=>by rw[eW];simp
 | c :: X,u=>by
   by_cases h:c=10
   ·subst h;rw[fU];have:=lp X [];simp at this ⊢;omega
   ·rw[pF h];have:=lp X (u++[c]);simp at this ⊢;omega
theorem ID{X:aZ}:X=0#64↔∀b,X.getLsbD b=false:=by
 constructor
 ·intro h b;rw[h];simp
 ·intro h;apply BitVec.eq_of_getLsbD_eq;intro i hi;rw[h i];simp
theorem Te(m:MP)(S:aZ):∀q b,(bo m S q).getLsbD b=true↔∃i,i<q/\S.getLsbD i=true/\(m.next i).getLsbD b=true
 | 0,b=>by
   rw[bo];simp
 | q+1,b=>by
   rw[bo];have ih:=Te m S q b;by_cases h:S.getLsbD q=true
   ·rw[if_pos h,bD,Bool.or_eq_true,ih];constructor
    ·rintro(⟨i,h1,h2⟩|h1)
     ·exact⟨i,by omega,h2⟩
     ·exact⟨q,by omega,h,h1⟩
    ·rintro⟨i,h1,h2,h3⟩;by_cases hi:i=q
     ·subst hi;exact Or.inr h3
     ·exact Or.inl ⟨i,by omega,h2,h3⟩
   ·rw[if_neg h,ih];constructor
    ·rintro⟨i,h1,h2⟩;exact⟨i,by omega,h2⟩
    ·rintro⟨i,h1,h2,h3⟩;by_cases hi:i=q
     ·subst hi;exact absurd h2 h
     ·exact⟨i,by omega,h2,h3⟩
theorem lq(m:MP)(tk S:aZ)(b:Nat):(cn m tk S).getLsbD b=true↔tk.getLsbD b=true/\∃i,i<63/\S.getLsbD i=true/\(m.next i).getLsbD b=true:=by
 unfold cn;rw[dp,Bool.and_eq_true,Te,And.comm]
theorem xT(m:MP)(tk X:aZ):∀q,q<=63->∀i,(gf m tk X q).getLsbD i=true↔i<q/\m.next i&&&tk&&&X≠0#64
 | 0,_,i=>by rw[gf];simp
 | q+1,hq,i=>by
   have ih:=xT m tk X q (by omega) i;rw[gf];by_cases h:m.next q&&&tk&&&X=0#64
   ·rw[if_pos h,ih];constructor
    ·rintro⟨h1,h2⟩;exact⟨by omega,h2⟩
    ·rintro⟨h1,h2⟩;by_cases hi:i=q
     ·subst hi;exact absurd h h2
     ·exact⟨by omega,h2⟩
   ·rw[if_neg h,bD,Bool.or_eq_true,ih];have hb:(1#64 <<< q:aZ).getLsbD i=true↔i=q:=by
     rw[EU];simp;constructor
     ·rintro⟨⟨h1,h2⟩,h3⟩;omega
     ·rintro rfl;omega
    rw[hb];constructor
    ·rintro(⟨h1,h2⟩|rfl)
     ·exact⟨by omega,h2⟩
     ·exact⟨by omega,h⟩
    ·rintro⟨h1,h2⟩;by_cases hi:i=q
     ·exact Or.inr hi
     ·exact Or.inl ⟨by omega,h2⟩
theorem FN{X Y:aZ}:X&&&Y≠0#64↔∃b,X.getLsbD b=true/\Y.getLsbD b=true:=by
 constructor
 ·intro h;apply Classical.byContradiction;intro hn;apply h;rw[ID];intro b;rw[dp];cases h1:X.getLsbD b with
  | false=>rfl
  | true=>
    cases h2:Y.getLsbD b with
    | false=>rfl
    | true=>exact absurd ⟨b,h1,h2⟩ hn
 ·rintro⟨b,h1,h2⟩ h;have:=ID.1 h b;rw[dp,h1,h2]at this;cases this
theorem Lx(m:MP)(tk S X:aZ):(∃b,S.getLsbD b=true/\(fK m tk X).getLsbD b=true)↔∃b,(cn m tk S).getLsbD b=true/\X.getLsbD b=true:=by
 constructor
 ·rintro⟨i,h1,h2⟩;obtain⟨h3,h4⟩:=(xT m tk X 63 (Nat.le_refl _) i).1 h2;obtain⟨b,h5,h6⟩:=FN.1 h4;rw[dp,Bool.and_eq_true]at h5;exact⟨b,(lq m tk S b).2 ⟨h5.2,i,h3,h1,h5.1⟩,h6⟩
 ·rintro⟨b,h1,h2⟩;obtain⟨h3,i,h4,h5,h6⟩:=(lq m tk S b).1 h1;exact⟨i,h5,(xT m tk X 63 (Nat.le_refl _) i).2 ⟨h4,FN.2 ⟨b,by rw[dp,h6,h3];rfl,h2⟩⟩⟩
theorem PA(m:MP)(tk S X:aZ):S&&&fK m tk X=0#64↔cn m tk S&&&X=0#64:=by
 have key:S&&&fK m tk X≠0#64↔cn m tk S&&&X≠0#64:=by
  rw[FN,FN];exact Lx m tk S X
 exact⟨fun h=>Classical.byContradiction fun hc=>key.2 hc h,fun h=>Classical.byContradiction fun hc=>key.1 hc h⟩
def tZ(m:MP)(tk:aZ)(m':MP)(qI:aZ)(i:Nat):aZ:=cn m' qI (m.next i&&&tk)
def je(nx:Nat->aZ):MP:={next:=nx}
theorem PB(m:MP)(tk:aZ)(m':MP)(qI S:aZ):cn (je (tZ m tk m' qI)) qI S=cn m' qI (cn m tk S):=by
 apply BitVec.eq_of_getLsbD_eq;intro b _;rw[Bool.eq_iff_iff,lq,lq];constructor
 ·rintro⟨h1,i,h2,h3,h4⟩;obtain⟨_,j,h5,h6,h7⟩:=(lq m' qI _ b).1 h4;rw[dp,Bool.and_eq_true]at h6;exact⟨h1,j,h5,(lq m tk S j).2 ⟨h6.2,i,h2,h3,h6.1⟩,h7⟩
 ·rintro⟨h1,j,h2,h3,h4⟩;obtain⟨h5,i,h6,h7,h8⟩:=(lq m tk S j).1 h3;exact⟨h1,i,h6,h7,(lq m' qI _ b).2 ⟨h1,j,h2,by rw[dp,h8,h5];rfl,h4⟩⟩
def runM(M:MP)(X:List Nat)(S:aZ):aZ:=X.foldl (fun S c=>cn M (M.bn c) S) S
theorem pG(M:MP)(X Y:List Nat)(S:aZ):runM M (X++Y) S=runM M Y (runM M X S):=by unfold runM;rw[List.foldl_append]
theorem Tf(M:MP)(c:Nat)(S:aZ):runM M [c] S=cn M (M.bn c) S:=rfl
def qQ(M:MP)(inv:Bool)(l:List Nat):Bool:=!decide (runM M l M.cL&&&M.en=0#64) != inv
def ou(M:MP)(inv:Bool)(ls:List (List Nat)):Nat:=(ls.filter (qQ M inv)).length
theorem Nc(M:MP)(inv:Bool)(a b:List (List Nat)):ou M inv (a++b)=ou M inv a+ou M inv b:=by unfold ou;rw[List.filter_append,List.length_append]
theorem Ly(M:MP)(inv:Bool)(a:List (List Nat)):ou M inv a<=a.length:=List.length_filter_le _ _
theorem IE(M:MP)(inv:Bool)(l:List Nat)(a:List (List Nat)):ou M inv (l :: a)=(if qQ M inv l=true then 1 else 0)+ou M inv a:=by
 unfold ou;rw[List.filter_cons];split
 ·simp;omega
 ·simp
structure oM where
 len:Nat:=0
 nl:Nat:=0
 nx:Nat->aZ:=fun _=>0#64
 tk:aZ:=0#64
 inside:Nat:=0
 en:aZ:=0#64
 la:aZ:=0#64
 tail:Nat:=0
structure cZ (M:MP)(inv:Bool)(x:List Nat)(p:oM):Prop where
 len:p.len=x.length
 nl:p.nl=(fv [] x).1.length
 PC:p.nl=0->∀S,cn (je p.nx) p.tk S=runM M x S
 en:p.nl≠0->∀S,S&&&p.en=0#64↔runM M ((fv [] x).1.headD []) S&&&M.en=0#64
 la:p.nl≠0->p.la=runM M (fv [] x).2 M.cL
 tail:p.nl≠0->p.tail=(fv [] x).2.length
 inside:p.nl≠0->p.inside=ou M inv (fv [] x).1.tail
def dh(inv:Bool)(p:oM)(S:aZ):Nat:=if p.nl=0 then 0 else if (!decide (S&&&p.en=0#64) != inv)=true then p.inside+1 else p.inside
def Zw(p:oM)(S:aZ):aZ:=if p.nl=0 then cn (je p.nx) p.tk S else p.la
def gY(inv:Bool)(a b:oM):oM:=
 if a.nl+b.nl=0 then { len:=a.len+b.len,nl:=0,nx:=tZ (je a.nx) a.tk (je b.nx) b.tk,tk:=b.tk}
 else { len:=a.len+b.len,nl:=a.nl+b.nl,inside:=if 0<a.nl then a.inside+dh inv b a.la else b.inside,en:=if 0<a.nl then a.en else fK (je a.nx) a.tk b.en,la:=if 0<b.nl then b.la else cn (je b.nx) b.tk a.la,tail:=if 0<b.nl then b.tail else a.tail+b.len}
def nm(M:MP)(c:Nat):oM:=if c=10 then { len:=1,nl:=1,en:=M.en,la:=M.cL} else { len:=1,nx:=M.next,tk:=M.bn c}
theorem PD(M:MP)(tk S:aZ):cn (je M.next) tk S=cn M tk S:=AG (m:=M) (m':=je M.next) rfl tk S
theorem PE(M:MP)(inv:Bool)(c:Nat):cZ M inv [c] (nm M c):=by
 unfold nm;by_cases h:c=10
 ·subst h;rw[if_pos rfl];exact⟨rfl,rfl,(fun h=>by cases h),fun _ S=>Iff.rfl,fun _=>rfl,fun _=>rfl,fun _=>rfl⟩
 ·rw[if_neg h];have e:=FM h [];refine⟨rfl,by rw[e];rfl,fun _ S=>by rw[Tf];exact PD M _ S,fun h=>absurd rfl h,fun h=>absurd rfl h,fun h=>absurd rfl h,fun h=>absurd rfl h⟩
section
variable {M:MP}{inv:Bool}{x:List Nat}{p:oM}(h:cZ M inv x p)
include h
theorem cZ.zero(hn:p.nl=0):(fv [] x).1=[]/\(fv [] x).2=x:=by
 have h1:(fv [] x).1=[]:=List.eq_nil_of_length_eq_zero (by rw[<-h.nl];exact hn);exact⟨h1,by have:=xS x [] h1;rwa [List.nil_append]at this⟩
theorem cZ.one(hn:p.nl≠0):(fv [] x).1≠[]:=fun hc=>hn (by rw[h.nl,hc];rfl)
theorem cZ.ends(u:List Nat):dh inv p (runM M u M.cL)=ou M inv (fv u x).1:=by
 unfold dh;rw[jB];by_cases hn:p.nl=0
 ·rw[if_pos hn,if_pos (h.zero hn).1];rfl
 ·rw[if_neg hn,if_neg (h.one hn),h.inside hn];simp only[];rw[IE];have e:(!decide (runM M u M.cL&&&p.en=0#64) != inv)=qQ M inv (u++(fv [] x).1.headD []):=by
   unfold qQ;rw[pG];have:=h.en hn (runM M u M.cL);rw[decide_eq_decide.2 this]
  rw[e];split <;> omega
theorem cZ.set(u:List Nat):Zw p (runM M u M.cL)=runM M (fv u x).2 M.cL:=by
 unfold Zw;rw[jB];by_cases hn:p.nl=0
 ·rw[if_pos hn,if_pos (h.zero hn).1,h.PC hn,(h.zero hn).2,pG]
 ·rw[if_neg hn,if_neg (h.one hn),h.la hn]
theorem cZ.rest(u:List Nat):(fv u x).2.length=if p.nl=0 then u.length+p.len else p.tail:=by
 rw[jB];by_cases hn:p.nl=0
 ·rw[if_pos hn,if_pos (h.zero hn).1,(h.zero hn).2,h.len,List.length_append]
 ·rw[if_neg hn,if_neg (h.one hn),h.tail hn]
theorem cZ.count(u:List Nat):(fv u x).1.length=p.nl:=by rw[iY,h.nl,iY]
end
theorem Tg{M:MP}{inv:Bool}{x y:List Nat}{a b:oM}(ha:cZ M inv x a)(hb:cZ M inv y b):cZ M inv (x++y) (gY inv a b):=by
 have hl:(fv [] (x++y)).1.length=a.nl+b.nl:=by rw[kL,List.length_append,<-ha.nl,hb.count]
 unfold gY;by_cases h0:a.nl+b.nl=0
 ·rw[if_pos h0];refine⟨by rw[List.length_append,<-ha.len,<-hb.len],by rw[hl,h0],fun _ S=>?_,fun h=>absurd rfl h,fun h=>absurd rfl h,fun h=>absurd rfl h,fun h=>absurd rfl h⟩;rw[pG,<-ha.PC (by omega),<-hb.PC (by omega)];exact PB _ _ _ _ _
 ·rw[if_neg h0];refine⟨by rw[List.length_append,<-ha.len,<-hb.len],hl.symm,fun h=>absurd h h0,fun _ S=>?_,fun _=>?_,fun _=>?_,fun _=>?_⟩
  ·simp only[];by_cases hn:0<a.nl
   ·rw[if_pos hn,kL];have h1:=ha.en (by omega) S;obtain⟨l,r,e⟩:∃l r,(fv [] x).1=l :: r:=by
     cases hx:(fv [] x).1 with
     | nil=>exact absurd hx (ha.one (by omega))
     | cons l r=>exact⟨l,r,rfl⟩
    rw[e]at h1 ⊢;exact h1
   ·rw[if_neg hn,PA,hb.en (by omega),ha.PC (by omega),kL,(ha.zero (by omega)).1,(ha.zero (by omega)).2,jB y x,if_neg (hb.one (by omega))];simp only[List.nil_append,List.headD_cons];rw[pG]
  ·simp only[];rw[kL];by_cases hn:0<b.nl
   ·rw[if_pos hn,hb.la (by omega),jB y (fv [] x).2,if_neg (hb.one (by omega))]
   ·rw[if_neg hn,hb.PC (by omega),ha.la (by omega),jB y (fv [] x).2,if_pos (hb.zero (by omega)).1,(hb.zero (by omega)).2,pG]
  ·simp only[];rw[kL,hb.rest];by_cases hn:0<b.nl
   ·rw[if_pos hn,if_neg (by omega)]
   ·rw[if_neg hn,if_pos (by omega),ha.tail (by omega)]
  ·simp only[];rw[kL];by_cases hn:0<a.nl
   ·rw[if_pos hn,ha.inside (by omega),ha.la (by omega),hb.ends];obtain⟨l,r,e⟩:∃l r,(fv [] x).1=l :: r:=by
     cases hx:(fv [] x).1 with
     | nil=>exact absurd hx (ha.one (by omega))
     | cons l r=>exact⟨l,r,rfl⟩
    rw[e];simp only[List.cons_append,List.tail_cons];rw[Nc]
   ·rw[if_neg hn,hb.inside (by omega),(ha.zero (by omega)).1,(ha.zero (by omega)).2,jB y x,if_neg (hb.one (by omega))];rfl
end Go.Proofs.YtgifhgnccmnbiabGreatDoor
namespace Go.Proofs.YtgifhgnccmnbiabGreatDoor
open Go.RowKit Go.IntWalk
def jC(nx:Nat->aZ):Array Value:=br 63 fun i=>UV (nx i)
theorem wF(nx:Nat->aZ){i:Nat}(h:i<63):(jC nx)[i]?=some (UV (nx i)):=b9 _ h
theorem FO(nx:Nat->aZ)(q:Nat)(X:aZ):(jC nx).setIfInBounds q (UV X)=jC (fun i=>if i=q then X else nx i):=
 bm _ _ _ _ fun j hj=>by
  by_cases h:j=q
  ·show UV (if j=q then X else nx j)=_;rw[if_pos h,if_pos h]
  ·show UV (if j=q then X else nx j)=_;rw[if_neg h,if_neg h]
theorem Lz:(Tryz.prog.info? 98).map (fun i=>(i.zero,i.size))=some (some (.agg (jC fun _=>0#64)),63):=by kernel_rfl
theorem IF(w:World):(zeroValue 98).run Tryz.prog w=.ok (.agg (jC fun _=>0#64)) w:=by
 have h:=Lz;cases hq:Tryz.prog.info? 98 with
 | none=>simp[hq]at h
 | some i=>
   simp[hq]at h;simp[zeroValue,typeInfo,hq,h.1]
theorem PF{w:World}{G:Nat}{nx:Nat->aZ}{t:TypeId}(h:ah w G (jC nx) t):fL w G 0 (je nx):=fun i hi=>by
 rw[Nat.zero_add,h.cell,wF nx hi];rfl
def Ei(m:MP)(tk:aZ)(m':MP)(qI:aZ)(q:Nat)(i:Nat):aZ:=if i<q then tZ m tk m' qI i else 0#64
theorem LC(m:MP)(tk:aZ)(m':MP)(qI:aZ)(q:Nat):(fun i=>if i=q then tZ m tk m' qI q else Ei m tk m' qI q i)=Ei m tk m' qI (q+1):=by
 funext i
 unfold Ei;by_cases h:i=q
 ·subst h;rw[if_pos rfl,if_pos (by omega)]
 ·rw[if_neg h];by_cases h2:i<q
  ·rw[if_pos h2,if_pos (by omega)]
  ·rw[if_neg h2,if_neg (by omega)]
structure Nd (w wr:World)(m:MP)(g o:Nat)(tk:aZ)(m':MP)(g' o':Nat)(qI:aZ)(q:Nat):Prop where
 k:Kept [] w wr
 b0:ah wr w.heap.size #[.pointer (some ⟨g,o,none⟩),UV tk] 167
 b1:ah wr (w.heap.size+1) #[.pointer (some ⟨g',o',none⟩),UV qI] 167
 b2:ah wr (w.heap.size+1+1) #[.pointer none,.int .u64 0] 167
 b3:ah wr (w.heap.size+1+1+1) (jC (Ei m tk m' qI q)) 98
structure Nf (w w':World)(m:MP)(tk:aZ)(m':MP)(qI:aZ)(e:Ending):Prop where
 k:Kept [] w w'
 ex:∃G,e=.returned (WV G 0 qI)/\w.heap.size<=G/\fL w' G 0 (je (tZ m tk m' qI))
theorem PG(m:MP)(g o:Nat)(tk:aZ)(m':MP)(g' o':Nat)(qI:aZ)(w:World)(h:fL w g o m)(h':fL w g' o' m')(hg:g<w.heap.size)(JF:g'<w.heap.size):
 Calls Tryz.prog 183 #[WV g o tk,WV g' o' qI] w fun e w'=>Nf w w' m tk m' qI e:=by
 have hzt:=IF;have dy:Hid (Nd w ((((w.alloc (.cells #[.pointer (some ⟨g,o,none⟩),UV tk] 167)).alloc (.cells #[.pointer (some ⟨g',o',none⟩),UV qI] 167)).alloc (.cells #[.pointer none,.int .u64 0] 167)).alloc (.cells (jC (fun _=>0#64)) 98)) m g o tk m' g' o' qI 0):=
  ⟨((((Kept.refl [] w).alloc _).alloc _).alloc _).alloc _,((((ah.new w _ _).alloc _).alloc _).alloc _),(((ah.oy w _ _ _).alloc _).alloc _),((ah.EZ w _ _ _ _).alloc _),ah.new3 w _ _ _ _ _⟩
 have hT:Hid (fL w g o m):=h;have hT':Hid (fL w g' o' m'):=h';clear h h';obtain⟨T0,hT0⟩:∃T0,jC (fun _=>0#64)=T0:=⟨_,rfl⟩;rw[hT0]at hzt dy;clear hT0;go_enter Tryz.func183,Tryz.ntmps183
 go_wp2_with fail
 go_loopw [6] (fun iv wr=>∃q:Nat,iv=.int .i64 (q:Int)/\q<=63/\Nd w wr m g o tk m' g' o' qI q) (fun iv _=>(63-intOf iv).toNat)
 case atStart=>exact⟨0,rfl,by omega,dy.out⟩
 case round=>
  obtain⟨q,rfl,hq,hI⟩:=hrel;clear dy hzt;have hs:=hI.k.size;have d0:wr.cell? ⟨w.heap.size,0,none⟩=some (.pointer (some ⟨g,o,none⟩)):=hI.b0.cell 0;have d1:wr.cell? ⟨w.heap.size,1,none⟩=some (UV tk):=hI.b0.cell 1;have d2:wr.cell? ⟨w.heap.size+1,0,none⟩=some (.pointer (some ⟨g',o',none⟩)):=hI.b1.cell 0;have d3:wr.cell? ⟨w.heap.size+1,1,none⟩=some (UV qI):=hI.b1.cell 1;have E5:w.heap.size+1+1+1<wr.heap.size:=hI.b3.lt;have cC:Hid (Nd _ _ _ _ _ _ _ _ _ _ _):=hI;clear hI;by_cases bO:(q:Int)<63
  ·have tw:q<63:=by omega
   have c1:wr.cell? ⟨g,o+q,none⟩=some (UV (m.next q)):=(hT.out.kept cC.out.k hg) q tw;have hand:=Au (m.next q) tk;have fJ:Hid (∀w',Kept [] wr w'->Calls Tryz.prog 124 #[WV g' o' qI,.int .u64 ((m.next q&&&tk).toNat:Int)] w' fun e w2=>e=.returned (.int .u64 ((tZ m tk m' qI q).toNat:Int))/\Kept [] w' w2):=fun w' k=>vG m' g' o' qI (m.next q&&&tk) w' (hT'.out.kept (cC.out.k.trans k) JF);have oz:Hid (∀w5,Kept [] wr w5->Nd w (w5.setCell ⟨w.heap.size+1+1+1,q,none⟩ (.int .u64 ((tZ m tk m' qI q).toNat:Int))) m g o tk m' g' o' qI (q+1)):=fun w5 k=>by
    have hb:=(cC.out.b3.kept k (by simp)).set q (UV (tZ m tk m' qI q));rw[FO,LC]at hb;exact⟨(cC.out.k.trans k).setCell (Or.inr (by simp;omega)) _,(cC.out.b0.kept k (by simp)).other _ _ (by omega),(cC.out.b1.kept k (by simp)).other _ _ (by omega),(cC.out.b2.kept k (by simp)).other _ _ (by omega),hb⟩
   have QL:Hid (∀w5,Kept [] wr w5->w5.frozen? ⟨w.heap.size+1+1+1,q,none⟩=false):=fun w5 k=>(cC.out.b3.kept k (by simp)).frozen q;have C3:Hid (∀w5,Kept [] wr w5->∃u,w5.cell? ⟨w.heap.size+1+1+1,q,none⟩=some u):=fun w5 k=>⟨_,by rw[(cC.out.b3.kept k (by simp)).cell,wF _ tw]⟩;generalize tZ m tk m' qI q=V at *;generalize m.next q&&&tk=Y at *;clear hT hT';go_wp2_with fail
   go_region_law (go_simp;go_at_call 124;refine(fJ.out _ (by first | exact(Kept.refl [] _).drew | exact Kept.refl _ _)).mono ?_;rintro _ w5 ⟨rfl,k5⟩;have K5:Hid (Kept [] wr w5):=Kept.trans (by first | exact(Kept.refl [] _).drew | exact Kept.refl _ _) k5;have q5:=QL.out _ K5.out;obtain⟨u5,r5⟩:=C3.out _ K5.out)
   all_goals
    go_wp2
    refine⟨⟨q+1,by go_num,by omega,oz.out _ K5.out⟩,?_⟩;simp only[intOf];omega
  ·have p':q=63:=by omega
   subst p';have aA:Hid (∀u0 u1,Nf w ((wr.setCell ⟨w.heap.size+1+1,0,none⟩ u0).setCell ⟨w.heap.size+1+1,1,none⟩ u1) m tk m' qI (.returned (WV (w.heap.size+1+1+1) 0 qI))):=fun u0 u1=>by
    have hb:=PF ((cC.out.b3.other (b':=w.heap.size+1+1) 0 u0 (by omega)).other (b':=w.heap.size+1+1) 1 u1 (by omega));refine⟨(cC.out.k.setCell (Or.inr (by simp;omega)) _).setCell (Or.inr (by simp;omega)) _,_,rfl,by omega,fun i hi=>?_⟩;rw[hb i hi];show some (UV (Ei m tk m' qI 63 i))=_;unfold Ei;rw[if_pos hi];rfl
   have f0:=cC.out.b2.frozen 0;have f1:=cC.out.b2.frozen 1;have g0:wr.cell? ⟨w.heap.size+1+1,0,none⟩=some (.pointer none):=cC.out.b2.cell 0;have g1:wr.cell? ⟨w.heap.size+1+1,1,none⟩=some (.int .u64 0):=cC.out.b2.cell 1;have Zx:Hid (∀u0 u1,((wr.setCell ⟨w.heap.size+1+1,0,none⟩ u0).setCell ⟨w.heap.size+1+1,1,none⟩ u1).cell? ⟨w.heap.size+1+1,0,none⟩=some u0/\((wr.setCell ⟨w.heap.size+1+1,0,none⟩ u0).setCell ⟨w.heap.size+1+1,1,none⟩ u1).cell? ⟨w.heap.size+1+1,1,none⟩=some u1):=fun u0 u1=>by
    have h2:=(cC.out.b2.set 0 u0).set 1 u1;exact⟨by rw[h2.cell];rfl,by rw[h2.cell];rfl⟩
   clear hT hT';go_wp2
   obtain⟨x0,x1⟩:=Zx.out (.pointer (some ⟨w.heap.size+1+1+1,0,none⟩)) (UV qI);refine bodyPost_ret (v:=WV (w.heap.size+1+1+1) 0 qI) (by simp[results,Tryz.results183,go_sem,x0,x1]) rfl (aA.out _ _)
def cT(p:oM)(a:Option Addr):Array Value:=#[.int .i64 (p.len:Int),.int .i64 (p.nl:Int),.pointer a,UV p.tk,.int .i64 (p.inside:Int),UV p.en,UV p.la,.int .i64 (p.tail:Int)]
def sh(w:World)(p:oM)(a:Option Addr):Prop:=p.nl=0->∃G O,a=some ⟨G,O,none⟩/\fL w G O (je p.nx)/\G<w.heap.size
structure PBd (p:oM):Prop where
 len:p.len<=1099511627776
 nl:p.nl<=1099511627776
 inside:p.inside<=1099511627776
 tail:p.tail<=1099511627776
structure uV (w:World)(g o:Nat)(p:oM)(a:Option Addr):Prop where
 cell:∀j,j<8->w.cell? ⟨g,o+j,none⟩=(cT p a)[j]?
 bP:sh w p a
 bd:PBd p
 lt:g<w.heap.size
theorem sh.kept{w w':World}{p:oM}{a:Option Addr}(h:sh w p a)(k:Kept [] w w'):sh w' p a:=fun hn=>by
 obtain⟨G,O,e,h1,h2⟩:=h hn;exact⟨G,O,e,h1.kept k h2,Nat.lt_of_lt_of_le h2 k.size⟩
section
variable {w w':World}{g o:Nat}{p:oM}{a:Option Addr}(h:uV w g o p a)
include h
theorem uV.kept(k:Kept [] w w'):uV w' g o p a:=⟨fun j hj=>by rw[k.cell h.lt];exact h.cell j hj,h.bP.kept k,h.bd,Nat.lt_of_lt_of_le h.lt k.size⟩
theorem uV.c0:w.cell? ⟨g,o,none⟩=some (.int .i64 (p.len:Int)):=h.cell 0 (by omega)
theorem uV.c1:w.cell? ⟨g,o+1,none⟩=some (.int .i64 (p.nl:Int)):=h.cell 1 (by omega)
theorem uV.c2:w.cell? ⟨g,o+2,none⟩=some (.pointer a):=h.cell 2 (by omega)
theorem uV.c3:w.cell? ⟨g,o+3,none⟩=some (UV p.tk):=h.cell 3 (by omega)
theorem uV.c4:w.cell? ⟨g,o+4,none⟩=some (.int .i64 (p.inside:Int)):=h.cell 4 (by omega)
theorem uV.c5:w.cell? ⟨g,o+5,none⟩=some (UV p.en):=h.cell 5 (by omega)
theorem uV.c6:w.cell? ⟨g,o+6,none⟩=some (UV p.la):=h.cell 6 (by omega)
theorem uV.c7:w.cell? ⟨g,o+7,none⟩=some (.int .i64 (p.tail:Int)):=h.cell 7 (by omega)
end
theorem BO(inv:Bool)(p:oM)(S:aZ):dh inv p S<=p.inside+1:=by
 unfold dh;split
 ·omega
 ·split <;> omega
def jD(bt:Nat)(cL:aZ)(inv:Bool)(mx:Int)(pv:Value):Array Value:=#[.pointer (some ⟨bt,0,none⟩),UV cL,.bool inv,.int .i64 mx,pv]
theorem iH{w:World}{gs:Nat}{inv:Bool}{g o:Nat}{p:oM}{a:Option Addr}(S:aZ)(hs:w.cell? ⟨gs,2,none⟩=some (.bool inv))(hp:uV w g o p a):
 Calls Tryz.prog 78 #[.pointer (some ⟨gs,0,none⟩),.pointer (some ⟨g,o,none⟩),.int .u64 (S.toNat:Int)] w fun e w'=>e=.returned (.int .i64 (dh inv p S:Int))/\w'=w:=by
 have d1:=hp.c1;have d4:=hp.c4;have d5:=hp.c5;have hb:=hp.bd.inside;have hg:=hp.lt;clear hp;by_cases hn:p.nl=0
 ·have e:Hid (dh inv p S=0):=if_pos hn;rw[hn]at d1;clear hn;go_enter Tryz.func78,Tryz.ntmps78
  go_wp2
  go_ret;exact⟨by rw[e.out];rfl,rfl⟩
 ·have hni:((p.nl:Nat):Int)≠0:=by omega
  have hand:=Au S p.en;have h1:Hid ((!decide (S&&&p.en=0#64) != inv)=true->dh inv p S=p.inside+1):=fun h=>by unfold dh;rw[if_neg hn,if_pos h]
  have h2:Hid (¬(!decide (S&&&p.en=0#64) != inv)=true->dh inv p S=p.inside):=fun h=>by unfold dh;rw[if_neg hn,if_neg h]
  clear hn;generalize p.nl=NL at *;generalize S&&&p.en=X at *;by_cases hx:X=0#64
  ·have OR:(X.toNat:Int)=0:=(ox _).2 hx;rw[decide_eq_true hx]at h1 h2;clear hx;cases inv with
   | false=>
     have e:Hid (dh false p S=p.inside):=h2.out (by decide);clear h1 h2;go_enter Tryz.func78,Tryz.ntmps78
     go_wp2
     go_ret;exact⟨by rw[e.out];rfl,rfl⟩
   | true=>
     have e:Hid (dh true p S=p.inside+1):=h1.out (by decide);clear h1 h2;go_enter Tryz.func78,Tryz.ntmps78
     go_wp2
     go_ret;exact⟨by rw[e.out];rfl,rfl⟩
  ·have OR:(X.toNat:Int)≠0:=fun hc=>hx ((ox _).1 hc);rw[decide_eq_false hx]at h1 h2;have ck:((X.toNat:Int) != 0)=true:=bne_iff_ne.2 OR;have jm:(!((X.toNat:Int) != 0))=false:=by rw[ck];rfl
   clear hx;cases inv with
   | false=>
     have e:Hid (dh false p S=p.inside+1):=h1.out (by decide);clear h1 h2;go_enter Tryz.func78,Tryz.ntmps78
     go_wp2
     go_ret;exact⟨by rw[e.out];rfl,rfl⟩
   | true=>
     have e:Hid (dh true p S=p.inside):=h2.out (by decide);clear h1 h2;go_enter Tryz.func78,Tryz.ntmps78
     go_wp2
     go_ret;exact⟨by rw[e.out];rfl,rfl⟩
theorem Wu{w:World}{g:Nat}{c0 c1 c2 c3 c4 c5 c6 c7:Value}{t:TypeId}(h:ah w g #[c0,c1,c2,c3,c4,c5,c6,c7] t)(v0 v1 v2 v3 v4 v5 v6 v7:Value):
 ah ((((((((w.setCell ⟨g,0,none⟩ v0).setCell ⟨g,1,none⟩ v1).setCell ⟨g,2,none⟩ v2).setCell ⟨g,3,none⟩ v3).setCell ⟨g,4,none⟩ v4).setCell ⟨g,5,none⟩ v5).setCell ⟨g,6,none⟩ v6).setCell ⟨g,7,none⟩ v7) g #[v0,v1,v2,v3,v4,v5,v6,v7] t:=by
 have h0:ah _ g #[v0,c1,c2,c3,c4,c5,c6,c7] t:=h.set 0 v0;have h1:ah _ g #[v0,v1,c2,c3,c4,c5,c6,c7] t:=h0.set 1 v1;have h2:ah _ g #[v0,v1,v2,c3,c4,c5,c6,c7] t:=h1.set 2 v2;have h3:ah _ g #[v0,v1,v2,v3,c4,c5,c6,c7] t:=h2.set 3 v3;have h4:ah _ g #[v0,v1,v2,v3,v4,c5,c6,c7] t:=h3.set 4 v4;have h5:ah _ g #[v0,v1,v2,v3,v4,v5,c6,c7] t:=h4.set 5 v5;have h6:ah _ g #[v0,v1,v2,v3,v4,v5,v6,c7] t:=h5.set 6 v6;have h7:ah _ g #[v0,v1,v2,v3,v4,v5,v6,v7] t:=h6.set 7 v7;exact h7
theorem FP{w x:World}{g:Nat}(h:Kept [] w x)(hg:w.heap.size<=g)(v0 v1 v2 v3 v4 v5 v6 v7:Value):
 Kept [] w ((((((((x.setCell ⟨g,0,none⟩ v0).setCell ⟨g,1,none⟩ v1).setCell ⟨g,2,none⟩ v2).setCell ⟨g,3,none⟩ v3).setCell ⟨g,4,none⟩ v4).setCell ⟨g,5,none⟩ v5).setCell ⟨g,6,none⟩ v6).setCell ⟨g,7,none⟩ v7):=
 (((((((h.setCell (Or.inr (by simpa using hg)) _).setCell (Or.inr (by simpa using hg)) _).setCell (Or.inr (by simpa using hg)) _).setCell (Or.inr (by simpa using hg)) _).setCell (Or.inr (by simpa using hg)) _).setCell (Or.inr (by simpa using hg)) _).setCell (Or.inr (by simpa using hg)) _).setCell (Or.inr (by simpa using hg)) _
structure BP (w w':World)(L:List Nat)(p:oM)(e:Ending):Prop where
 k:Kept [] w w'
 ex:∃a,e=.returned (.agg (cT p a))/\sh w' p a/\∀A,a=some A->A.block∈L\/w.heap.size<=A.block
theorem Th{w:World}{gm:Nat}{M:MP}(hM:fq w gm M)(c:Nat)(hc:c<256):
 Calls Tryz.prog 98 #[.int .i64 (c:Int),.pointer (some ⟨gm,0,none⟩)] w fun e w'=>BP w w' [gm] (nm M c) e:=by
 have hg:gm<w.heap.size:=ah.lt hM;by_cases QW:(c:Int)=10
 ·have e:nm M c={len:=1,nl:=1,en:=M.en,la:=M.cL}:=by unfold nm;rw[if_pos (by omega)]
  rw[e];have d0:=hM.cL;have d1:=hM.en;have aA:Hid (∀w',Kept [] w w'->BP w w' [gm] { len:=1,nl:=1,en:=M.en,la:=M.cL} (.returned (.agg #[.int .i64 1,.int .i64 1,.pointer none,.int .u64 0,.int .i64 0,UV M.en,UV M.cL,.int .i64 0]))):=fun w' k=>⟨k,none,rfl,(fun h=>by cases h),fun A h=>by cases h⟩;clear hM e;generalize M.en=EN at *;generalize M.cL=BG at *;go_enter Tryz.func98,Tryz.ntmps98
  go_wp2_with fail
  go_region
  all_goals
   go_wp2
   refine bodyPost_ret (v:=.agg #[.int .i64 1,.int .i64 1,.pointer none,.int .u64 0,.int .i64 0,UV EN,UV BG,.int .i64 0]) (by simp[results,Tryz.results98,go_sem]) rfl (aA.out _ (((Kept.refl [] w).alloc _).drew))
 ·have e:nm M c={len:=1,nx:=M.next,tk:=M.bn c}:=by unfold nm;rw[if_neg (by omega)]
  rw[e];have hw:Hid (∀w',Kept [] w w'->Calls Tryz.prog 125 #[.pointer (some ⟨gm,0,none⟩),.int .u8 (c:Int)] w' fun e w2=>e=.returned (WV gm 2 (M.bn c))/\Kept [] w' w2):=fun w' k=>VS M gm c hc w' (ah.kept hM k (by simp));have hT:=hM.bP;have aA:Hid (∀w',Kept [] w w'->BP w w' [gm] { len:=1,nx:=M.next,tk:=M.bn c} (.returned (.agg #[.int .i64 1,.int .i64 0,.pointer (some ⟨gm,2,none⟩),UV (M.bn c),.int .i64 0,.int .u64 0,.int .u64 0,.int .i64 0]))):=fun w' k=>⟨k,_,rfl,fun _=>⟨gm,2,rfl,hT.kept k hg,Nat.lt_of_lt_of_le hg k.size⟩,fun A h=>by simp only[Option.some.injEq]at h;subst h;exact Or.inl (by simp)⟩;have hw8:IntKind.wrap .u8 (c:Int)=(c:Int):=by rw[IntKind.wrap_u8];omega
  have hb:Hid (ah (w.alloc (.cells #[.int .i64 0,.int .i64 0,.pointer none,.int .u64 0,.int .i64 0,.int .u64 0,.int .u64 0,.int .i64 0] 169)) w.heap.size #[.int .i64 0,.int .i64 0,.pointer none,.int .u64 0,.int .i64 0,.int .u64 0,.int .u64 0,.int .i64 0] 169):=ah.new w _ _;have rJ:Hid (∀o,Kept [] w (w.alloc o)):=fun o=>(Kept.refl [] w).alloc o;clear hM e hT;generalize M.bn c=TK at *;go_enter Tryz.func98,Tryz.ntmps98
  go_wp2_with (go_at_call 125;refine(hw.out _ (rJ.out _)).mono ?_;rintro _ w2 ⟨rfl,k2⟩;have B2:=hb.out.kept k2 (by simp);have YS:=B2.lt;have g0:=B2.cell 0;have g1:=B2.cell 1;have g2:=B2.cell 2;have g3:=B2.cell 3;have g4:=B2.cell 4;have g5:=B2.cell 5;have g6:=B2.cell 6;have g7:=B2.cell 7;have f0:=B2.frozen 0;have f1:=B2.frozen 1;have f2:=B2.frozen 2;have f3:=B2.frozen 3;have f4:=B2.frozen 4;have f5:=B2.frozen 5;have f6:=B2.frozen 6;have f7:=B2.frozen 7)
  have B8:=(Wu B2 (.int .i64 1) (.int .i64 0) (.pointer (some ⟨gm,2,none⟩)) (UV TK) (.int .i64 0) (.int .u64 0) (.int .u64 0) (.int .i64 0)).alloc (.cells #[.pointer (some ⟨gm,2,none⟩),UV TK] 167);have x0:=B8.cell 0;have x1:=B8.cell 1;have x2:=B8.cell 2;have x3:=B8.cell 3;have x4:=B8.cell 4;have x5:=B8.cell 5;have x6:=B8.cell 6;have x7:=B8.cell 7;refine bodyPost_ret (v:=.agg #[.int .i64 1,.int .i64 0,.pointer (some ⟨gm,2,none⟩),UV TK,.int .i64 0,.int .u64 0,.int .u64 0,.int .i64 0]) (by simp[results,Tryz.results98,go_sem,x0,x1,x2,x3,x4,x5,x6,x7]) rfl (aA.out _ ?_);exact(FP ((rJ.out _).trans k2) (Nat.le_refl _) _ _ _ _ _ _ _ _).alloc _
end Go.Proofs.YtgifhgnccmnbiabGreatDoor
