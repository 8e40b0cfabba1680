/- Package packed: bits, read one by one. -/
import Derived.Test.YtgifhgnccmnbiabGreatG26
set_option linter.unusedVariables false
set_option linter.unusedSimpArgs false
set_option maxHeartbeats 4000000
set_option maxRecDepth 100000
namespace Go.Proofs.YtgifhgnccmnbiabGreat
open Go.RowKit Go.IntWalk
def bitP (B:ByteArray) (p:Nat):Nat:=bt B (p / 8) / 2 ^ (p % 8) % 2
def nextB (B:ByteArray) (p:Nat):Nat×Nat:=if p / 8<B.size then (bitP B p,p+1) else (0,p)
def numB (B:ByteArray) (p:Nat):Nat→Nat×Nat
 | 0=>(0,p)
 | i+1=>((numB B p i).1+(nextB B (numB B p i).2).1*2 ^ i,(nextB B (numB B p i).2).2)
structure BR (w:World) (b:Nat) (cs:Array Value) (E:Nat) (B:ByteArray) (p:Nat):Prop where
 blk:Blk w b cs E
 bytes:cs[0]?=some (.string B)
 at_:cs[1]?=some (.int .i64 (p:Int))
theorem BR.set {w:World} {b:Nat} {cs:Array Value} {E:Nat} {B:ByteArray} {p:Nat} (h:BR w b cs E B p) (q:Nat):BR (w.setCell ⟨b,1,none⟩ (.int .i64 (q:Int))) b (cs.setIfInBounds 1 (.int .i64 (q:Int))) E B q:=by
 have h1:1<cs.size:=(Array.getElem?_eq_some_iff.1 h.at_).1
 exact ⟨h.blk.set 1 _,by rw [Array.getElem?_setIfInBounds_ne (by omega)];exact h.bytes,by rw [Array.getElem?_setIfInBounds_self_of_lt h1]⟩
theorem BR.drewN {w:World} {b:Nat} {cs:Array Value} {E:Nat} {B:ByteArray} {p:Nat} (h:BR w b cs E B p) (n:Nat):BR (w.drewN n) b cs E B p:=⟨h.blk,h.bytes,h.at_⟩
theorem BR.same {w:World} {b:Nat} {cs:Array Value} {E:Nat} {B:ByteArray} {p:Nat} (h:BR w b cs E B p):cs.setIfInBounds 1 (.int .i64 (p:Int))=cs:=by
 have h1:=(Array.getElem?_eq_some_iff.1 h.at_)
 obtain ⟨h2,h3⟩:=h1
 apply Array.ext
 · simp
 · intro i hi1 hi2
   rw [Array.getElem_setIfInBounds (by simpa using hi2)]
   split
   · rename_i h;subst h;exact h3.symm
   · rfl
theorem wraps_i64 (n:Int) (h₀:0≤n) (h₁:n<2 ^ 62):IntKind.i64.wrap n=n:=by rw [IntKind.wrap_i64];omega
theorem and_one (x:Nat) (hx:x<256):bits .and .i64 (x:Int) 1=((x % 2:Nat):Int):=by
 have:=bits_mask .i64 62 (by decide) wraps_i64 1 (by decide) (x:Int) (by omega) (by omega)
 have e:((2:Int) ^ 1-1)=1:=by decide
 rw [e] at this
 rw [this];omega
theorem or_bit (n c i:Nat) (hn:n<2 ^ i) (hc:c<2) (hi:i≤20):bits .or .i64 (n:Int) ((c*2 ^ i:Nat):Int)=((n+c*2 ^ i:Nat):Int):=by
 have hp:2 ^ i≤2 ^ 20:=Nat.pow_le_pow_right (by omega) hi
 have h1:c*2 ^ i≤1*2 ^ i:=Nat.mul_le_mul_right _ (by omega)
 have h2:(2:Nat) ^ 20=1048576:=by decide
 rw [(bits_nat .i64 62 (by decide) wraps_i64 n (c*2 ^ i) (by omega) (by omega)).2]
 have:=Nat.two_pow_add_eq_or_of_lt hn c
 rw [Nat.or_comm,Nat.mul_comm c,←this,Nat.add_comm]
theorem bnext_any (w:World) (b:Nat) (cs:Array Value) (E:Nat) (B:ByteArray) (p:Nat) (h:BR w b cs E B p) (hp:p≤1000000) (hB:B.size≤100000):
 Calls Tryz.prog 89 #[.pointer (some ⟨b,0,none⟩)] w fun e w'=>e=.returned (.int .i64 ((nextB B p).1:Int))∧BR w' b (cs.setIfInBounds 1 (.int .i64 ((nextB B p).2:Int))) E B (nextB B p).2∧Kept [b] w w':=by
 have c0:w.cell? ⟨b,0,none⟩=some (.string B):=(h.blk.cell 0).trans h.bytes
 have c1:w.cell? ⟨b,1,none⟩=some (.int .i64 (p:Int)):=(h.blk.cell 1).trans h.at_
 have f1:w.frozen? ⟨b,1,none⟩=false:=h.blk.frozen 1
 have hH:Hid (BR w b cs E B p):=h
 obtain ⟨q,hq⟩:∃q,q=p / 8:=⟨_,rfl⟩
 have hqH:Hid (q=p / 8):=hq
 have q0:¬(q:Int)<0:=by omega
 have q2:q≤1000000:=by omega
 by_cases hlt:q<B.size
 · have e:nextB B p=(B[q].toNat / 2 ^ (p % 8) % 2,p+1):=by unfold nextB bitP;rw [if_pos (by omega),←hq,bt_lt hlt]
   rw [e]
   have g1:¬(B.size:Int)≤(q:Int):=by omega
   have g2:(q:Int)<(B.size:Int):=by omega
   have ediv:(p:Int).tdiv 8=(q:Int):=by rw [hq];exact Int.ofNat_tdiv p 8 |>.symm
   have emod:(p:Int).tmod 8=((p % 8:Nat):Int):=(Int.ofNat_tmod p 8).symm
   clear h e hq
   go_enter Tryz.func89,Tryz.ntmps89
   go_wp2_with fail
   go_quiet (fail)
   go_wp2
   go_ret
   refine ⟨ret_int ?_,(hH.out.drewN _).set (p+1),((Kept.refl [b] w).drewN _).setCell (p:=⟨b,1,none⟩) (by simp) _⟩
   have hb:=B[q].toNat_lt
   rw [wrap64_in _ (by omega)]
   have hle:B[q].toNat / 2 ^ (p % 8)≤B[q].toNat:=Nat.div_le_self _ _
   have:=and_one (B[q].toNat / 2 ^ (p % 8)) (by omega)
   rw [←this]
   congr 1
 · have e:nextB B p=(0,p):=by unfold nextB;rw [if_neg (by omega)]
   rw [e,hH.out.same]
   have g1:(B.size:Int)≤(q:Int):=by omega
   have ediv:(p:Int).tdiv 8=(q:Int):=by rw [hq];exact Int.ofNat_tdiv p 8 |>.symm
   clear h e hq
   go_enter Tryz.func89,Tryz.ntmps89
   go_wp2
   go_ret
   exact ⟨rfl,hH.out,Kept.refl _ _⟩
theorem nextB_bd (B:ByteArray) (p:Nat):(nextB B p).1<2∧p≤(nextB B p).2∧(nextB B p).2≤p+1:=by
 unfold nextB bitP
 split
 · simp only [];omega
 · simp only [];omega
theorem numB_bd (B:ByteArray) (p:Nat):∀i,(numB B p i).1<2 ^ i∧p≤(numB B p i).2∧(numB B p i).2≤p+i
 | 0=>⟨by simp [numB],Nat.le_refl _,Nat.le_refl _⟩
 | i+1=>by
   obtain ⟨h1,h2,h3⟩:=numB_bd B p i
   obtain ⟨g1,g2,g3⟩:=nextB_bd B (numB B p i).2
   have h4:(nextB B (numB B p i).2).1*2 ^ i≤1*2 ^ i:=Nat.mul_le_mul_right _ (by omega)
   have h5:(2:Nat) ^ (i+1)=2*2 ^ i:=by rw [Nat.pow_succ];omega
   refine ⟨?_,?_,?_⟩
   · show (numB B p i).1+(nextB B (numB B p i).2).1*2 ^ i<_
     omega
   · show p≤(nextB B (numB B p i).2).2;omega
   · show (nextB B (numB B p i).2).2≤p+(i+1);omega
theorem set_set {cs:Array Value} {j:Nat} {u v:Value}:(cs.setIfInBounds j u).setIfInBounds j v=cs.setIfInBounds j v:=by
 apply Array.ext
 · simp
 · intro i h1 h2
   have hi:i<cs.size:=by simpa using h2
   rw [Array.getElem_setIfInBounds (by simpa using hi),Array.getElem_setIfInBounds (by simpa using hi),Array.getElem_setIfInBounds (by simpa using hi)]
   split <;> rfl
theorem bnumber_any (w:World) (b:Nat) (cs:Array Value) (E:Nat) (B:ByteArray) (p:Nat) (h:BR w b cs E B p) (hp:p≤900000) (hB:B.size≤100000) (n:Nat) (hn:n≤20):
 Calls Tryz.prog 63 #[.pointer (some ⟨b,0,none⟩),.int .i64 (n:Int)] w fun e w'=>e=.returned (.int .i64 ((numB B p n).1:Int))∧BR w' b (cs.setIfInBounds 1 (.int .i64 ((numB B p n).2:Int))) E B (numB B p n).2∧Kept [b] w w':=by
 have hx:Hid (∀w cs p,BR w b cs E B p→p≤1000000→Calls _ _ _ w _):=fun w cs p h hp=>bnext_any w b cs E B p h hp hB
 have h0:Hid (BR w b (cs.setIfInBounds 1 (.int .i64 ((numB B p 0).2:Int))) E B (numB B p 0).2):=by
  have e:cs.setIfInBounds 1 (.int .i64 ((numB B p 0).2:Int))=cs:=h.same
  show BR _ _ _ _ _ _
  rw [e];exact h
 clear h
 go_enter Tryz.func63,Tryz.ntmps63
 go_wp2_with fail
 go_loopw [5,6] (fun nv iv wr=>∃q:Nat,iv=.int .i64 (q:Int)∧q≤n∧nv=.int .i64 ((numB B p q).1:Int)∧BR wr b (cs.setIfInBounds 1 (.int .i64 ((numB B p q).2:Int))) E B (numB B p q).2∧Kept [b] w wr) (fun _ iv _=>((n:Int)-intOf iv).toNat)
 case atStart=>exact ⟨0,rfl,Nat.zero_le _,rfl,h0.out,Kept.refl _ _⟩
 case round=>
  obtain ⟨q,rfl,hq,rfl,hr,hk⟩:=hrel
  clear h0
  by_cases hlt:(q:Int)<(n:Int)
  · obtain ⟨b1,b2,b3⟩:=numB_bd B p q
    obtain ⟨d1,d2,d3⟩:=nextB_bd B (numB B p q).2
    have hc:Hid (Calls _ _ _ _ _):=hx.out _ _ _ hr (by omega)
    have hor:=or_bit (numB B p q).1 (nextB B (numB B p q).2).1 q b1 d1 (by omega)
    have e1:Hid (numB B p (q+1)=((numB B p q).1+(nextB B (numB B p q).2).1*2 ^ q,(nextB B (numB B p q).2).2)):=rfl
    have hp2:2 ^ q≤2 ^ 20:=Nat.pow_le_pow_right (by omega) (by omega)
    have hp3:(2:Nat) ^ 20=1048576:=by decide
    have hm:(nextB B (numB B p q).2).1*2 ^ q≤1*2 ^ q:=Nat.mul_le_mul_right _ (by omega)
    generalize (numB B p q).1=A at *
    generalize nextB B (numB B p q).2=N at *
    obtain ⟨c,s2⟩:=N
    simp only [] at d1 hm hor
    have hw:Hid (wrap64 ((c:Int)*2 ^ q)=((c*2 ^ q:Nat):Int)):=by
     have e:((c:Int)*2 ^ q)=((c*2 ^ q:Nat):Int):=by simp [Int.natCast_mul,Int.natCast_pow]
     show wrap64 _=_
     rw [e];exact wrap64_in _ (by omega)
    have horH:Hid (_=_):=hor
    clear hor
    clear hx hr b2 b3 d2 d3
    go_wp2_with fail
    refine hc.out.mono ?_
    rintro e w2 ⟨rfl,r2,k2⟩
    rw [set_set] at r2
    have k2:Hid (Kept _ _ _):=hk.trans k2
    have r2:Hid (BR _ _ _ _ _ _):=r2
    clear hk hc
    go_wp2
    refine ⟨⟨q+1,by go_num,by omega,by rw [e1.out,hw.out,horH.out],by rw [e1.out];exact r2.out,k2.out⟩,?_⟩
    simp only [intOf];omega
  · have hqn:q=n:=by omega
    subst hqn
    have hk:Hid (Kept _ _ _):=hk
    have hr:Hid (BR _ _ _ _ _ _):=hr
    clear hx
    go_wp2
    go_ret
    exact ⟨rfl,hr.out,hk.out⟩
theorem bleft_any (w:World) (b:Nat) (cs:Array Value) (E:Nat) (B:ByteArray) (p:Nat) (h:BR w b cs E B p) (hp:p≤1000000) (hB:B.size≤100000):
 Calls Tryz.prog 62 #[.pointer (some ⟨b,0,none⟩)] w fun e w'=>e=.returned (.int .i64 (8*(B.size:Int)-(p:Int)))∧BR w' b cs E B p∧Kept [] w w':=by
 have c0:w.cell? ⟨b,0,none⟩=some (.string B):=(h.blk.cell 0).trans h.bytes
 have c1:w.cell? ⟨b,1,none⟩=some (.int .i64 (p:Int)):=(h.blk.cell 1).trans h.at_
 have hH:Hid (BR w b cs E B p):=h
 clear h
 go_enter Tryz.func62,Tryz.ntmps62
 go_wp2_with fail
 go_quiet (fail)
 go_wp2
 go_ret
 exact ⟨rfl,hH.out.drewN _,(Kept.refl [] w).drewN _⟩
def endB (B:ByteArray) (p:Nat):Bool:=decide (8*B.size-p<8)&&decide ((numB B p (8*B.size-p)).1=0)
theorem breadEnd_any (w:World) (b:Nat) (cs:Array Value) (E:Nat) (B:ByteArray) (p:Nat) (h:BR w b cs E B p) (hp:p≤8*B.size) (hB:B.size≤100000):
 Calls Tryz.prog 65 #[.pointer (some ⟨b,0,none⟩)] w fun e w'=>e=.returned (.bool (endB B p))∧(∃q:Nat,BR w' b (cs.setIfInBounds 1 (.int .i64 (q:Int))) E B q)∧Kept [b] w w':=by
 have hl:Hid (Calls _ _ _ _ _):=bleft_any w b cs E B p h (by omega) hB
 obtain ⟨L,hL⟩:∃L,L=8*B.size-p:=⟨_,rfl⟩
 have e:8*(B.size:Int)-(p:Int)=(L:Int):=by omega
 rw [e] at hl
 have hs:=h.same
 unfold endB
 rw [←hL]
 have hn:Hid (L≤20→∀w',BR w' b cs E B p→Calls _ _ _ w' _):=fun h20 w' h'=>bnumber_any w' b cs E B p h' (by omega) hB L h20
 clear h e hL
 by_cases h8:(8:Int)≤(L:Int)
 · rw [decide_eq_false (show ¬L<8 by omega)]
   have hsH:Hid (_=_):=hs
   clear hs hn
   go_enter Tryz.func65,Tryz.ntmps65
   go_wp2_with fail
   refine hl.out.mono ?_
   rintro e w2 ⟨rfl,r2,k2⟩
   have hR:Hid (BR _ _ _ _ _ _):=r2
   have hK:Hid (Kept [b] w w2):=k2.mono (by simp)
   clear r2 k2 hl
   go_wp2
   go_ret
   exact ⟨rfl,⟨p,by rw [hsH.out];exact hR.out⟩,hK.out⟩
 · rw [decide_eq_true (show L<8 by omega),Bool.true_and]
   have hn2:Hid (∀w',_→Calls _ _ _ w' _):=hn.out (by omega)
   clear hs hn
   obtain ⟨v,hv⟩:∃v,v=(numB B p L).1:=⟨_,rfl⟩
   rw [←hv] at hn2 ⊢
   clear hv
   by_cases hv0:v=0
   · subst hv0
     go_enter Tryz.func65,Tryz.ntmps65
     go_wp2_with fail
     refine hl.out.mono ?_
     rintro e w2 ⟨rfl,r2,k2⟩
     have hc:Hid (Calls _ _ _ _ _):=hn2.out _ r2
     have k2:Hid (Kept _ _ _):=k2.mono (S':=[b]) (by simp)
     clear r2 hl hn2
     go_wp2_with fail
     refine hc.out.mono ?_
     rintro e w3 ⟨rfl,r3,k3⟩
     have hR:Hid (BR _ _ _ _ _ _):=r3
     have hK:Hid (Kept [b] w w3):=k2.out.trans k3
     clear r3 k3 hc k2
     go_wp2
     go_ret
     exact ⟨rfl,⟨_,hR.out⟩,hK.out⟩
   · have e0:((v:Int)==0)=false:=beq_eq_false_iff_ne.2 (by omega)
     rw [decide_eq_false hv0]
     clear hv0
     go_enter Tryz.func65,Tryz.ntmps65
     go_wp2_with fail
     refine hl.out.mono ?_
     rintro e w2 ⟨rfl,r2,k2⟩
     have hc:Hid (Calls _ _ _ _ _):=hn2.out _ r2
     have k2:Hid (Kept _ _ _):=k2.mono (S':=[b]) (by simp)
     clear r2 hl hn2
     go_wp2_with fail
     refine hc.out.mono ?_
     rintro e w3 ⟨rfl,r3,k3⟩
     have hR:Hid (BR _ _ _ _ _ _):=r3
     have hK:Hid (Kept [b] w w3):=k2.out.trans k3
     clear r3 k3 hc k2
     go_wp2
     go_ret
     exact ⟨rfl,⟨_,hR.out⟩,hK.out⟩
def widP (f m:Nat):Nat:=if f<512∨m≤9 then 9 else if f<1024∨m≤10 then 10 else if f<2048∨m≤11 then 11 else 12
theorem widP_bd (f m:Nat):9≤widP f m∧widP f m≤12:=by
 unfold widP
 split
 · omega
 · split
   · omega
   · split <;> omega
theorem widthOf_any (f m:Nat) (hf:f≤1000000) (hm:m≤12) (w:World):
 Calls Tryz.prog 88 #[.int .i64 (f:Int),.int .i64 (m:Int)] w fun e w'=>e=.returned (.int .i64 (widP f m:Int))∧w'=w:=by
 go_enter Tryz.func88,Tryz.ntmps88
 go_wp2_with fail
 go_loop [5] (fun iv=>∃q:Nat,iv=.int .i64 (q:Int)∧9≤q∧(q=9∨q≤m)∧∀j,9≤j→j<q→2 ^ j≤f) (fun iv=>((m:Int)-intOf iv).toNat)
 case atStart=>exact ⟨9,rfl,Nat.le_refl _,Or.inl rfl,fun j h1 h2=>by omega⟩
 case round=>
  obtain ⟨q,rfl,h9,hqm,hall⟩:=hrel
  have hallH:Hid (∀j,_):=hall
  clear hall
  by_cases hlt:(q:Int)<(m:Int)
  · have hq:q=9∨q=10∨q=11:=by omega
    by_cases hfq:2 ^ q≤f
    · have hn:Hid (∀j,9≤j→j<q+1→2 ^ j≤f):=fun j h1 h2=>by
       by_cases hj:j=q
       · subst hj;exact hfq
       · exact hallH.out j h1 (by omega)
      clear hallH
      have hq12:Hid (q+1≤m):=by show q+1≤m;omega
      rcases hq with rfl | rfl | rfl <;>
      · simp only [Nat.reducePow] at hfq
        have hz:¬(f:Int)<_:=Int.not_lt.2 (Int.ofNat_le.2 hfq)
        go_wp2
        refine ⟨⟨_,rfl,by decide,Or.inr hq12.out,hn.out⟩,?_⟩
        simp only [intOf];omega
    · have hw:Hid (widP f m=q):=by
       have a9:=hallH.out 9 (by omega)
       have a10:=hallH.out 10 (by omega)
       show widP f m=q
       unfold widP
       rcases hq with rfl | rfl | rfl
       · rw [if_pos (by simp at hfq;omega)]
       · have:=a9 (by omega)
         simp at hfq this
         rw [if_neg (by omega),if_pos (by omega)]
       · have t1:=a9 (by omega)
         have t2:=a10 (by omega)
         simp at hfq t1 t2
         rw [if_neg (by omega),if_neg (by omega),if_pos (by omega)]
      clear hallH
      rcases hq with rfl | rfl | rfl <;>
      · simp only [Nat.reducePow] at hfq
        have hz:(f:Int)<_:=Int.ofNat_lt.2 (Nat.lt_of_not_le hfq)
        go_wp2
        go_ret
        exact ⟨ret_int (by rw [hw.out];rfl),rfl⟩
  · have hw:Hid (widP f m=q):=by
     have a9:=hallH.out 9 (by omega)
     have a10:=hallH.out 10 (by omega)
     have a11:=hallH.out 11 (by omega)
     show widP f m=q
     have hq:q=9∨q=10∨q=11∨q=12:=by omega
     unfold widP
     rcases hq with rfl | rfl | rfl | rfl
     · rw [if_pos (by omega)]
     · have:=a9 (by omega)
       simp at this
       rw [if_neg (by omega),if_pos (by omega)]
     · have t1:=a9 (by omega)
       have t2:=a10 (by omega)
       simp at t1 t2
       rw [if_neg (by omega),if_neg (by omega),if_pos (by omega)]
     · have t1:=a9 (by omega)
       have t2:=a10 (by omega)
       have t3:=a11 (by omega)
       simp at t1 t2 t3
       rw [if_neg (by omega),if_neg (by omega),if_neg (by omega)]
    clear hallH
    go_wp2
    go_ret
    exact ⟨ret_int (by rw [hw.out]),rfl⟩
structure CD where
 B:ByteArray
 p:Nat
 most:Nat
 gone:Nat:=0
 ahead:Option Nat:=none
 bad:Bool:=false
def aheadI:Option Nat→Int
 | none=>-1
 | some a=>(a:Int)
def CD.pre (c:CD):Array Value:=#[.string c.B,.int .i64 (c.p:Int),.int .i64 (c.most:Int)]
def CD.post (c:CD):Array Value:=#[.int .i64 (c.gone:Int),.int .i64 (aheadI c.ahead),.bool c.bad]
def CM (w:World) (b:Nat) (c:CD) (Bd:Nat) (t:TT) (rv sv:Value):Prop:=TM w b c.pre c.post 153 Bd t rv sv
section
variable {w w':World} {b Bd:Nat} {c:CD} {t:TT} {rv sv:Value}
theorem CM.all (h:CM w b c Bd t rv sv):Blk w b #[.string c.B,.int .i64 (c.p:Int),.int .i64 (c.most:Int),.int .i64 t.kind,.int .i64 t.syms,rv,sv,.int .i64 t.whole.len,.int .i64 t.whole.nl,.int .i64 t.whole.first,.int .i64 t.whole.last,.int .i64 (c.gone:Int),.int .i64 (aheadI c.ahead),.bool c.bad] 153:=h.blk
theorem CM.of_all {c':CD} {t':TT} (h:CM w b c Bd t rv sv) (hb:Blk w' b #[.string c'.B,.int .i64 (c'.p:Int),.int .i64 (c'.most:Int),.int .i64 t'.kind,.int .i64 t'.syms,rv,sv,.int .i64 t'.whole.len,.int .i64 t'.whole.nl,.int .i64 t'.whole.first,.int .i64 t'.whole.last,.int .i64 (c'.gone:Int),.int .i64 (aheadI c'.ahead),.bool c'.bad] 153)
 (k:Kept [b] w w') (hr:t'.rules=t.rules) (hs:t'.start=t.start) (hw:PTsmall t'.whole):CM w' b c' Bd t' rv sv:=
 ⟨hb,h.lt,Nat.le_trans h.up k.size,by rw [hr];exact row_stay h.rules k (fun g hg hc=>by simp at hc;have:=(h.rules.lt g hg).1;have:=h.lt;omega),by rw [hs];exact row_stay h.start k (fun g hg hc=>by simp at hc;have:=(h.start.lt g hg).1;have:=h.lt;omega),by rw [hr];exact h.small,hw⟩
theorem CM.keptW (h:CM w b c Bd t rv sv) (k:Kept [] w w'):CM w' b c Bd t rv sv:=TM.kept h k
theorem CM.bits (h:CM w b c Bd t rv sv):BR w b (c.pre++t.cells rv sv++c.post) 153 c.B c.p:=⟨h.blk,rfl,rfl⟩
theorem CM.readOn (h:CM w b c Bd t rv sv) {q:Nat} (r:BR w' b ((c.pre++t.cells rv sv++c.post).setIfInBounds 1 (.int .i64 (q:Int))) 153 c.B q) (k:Kept [b] w w'):CM w' b { c with p:=q } Bd t rv sv:=
 h.of_all r.blk k rfl rfl h.whole
end
def freeN (t:TT) (c:CD):Nat:=257+t.rules.length-c.gone
def symC (gone code:Nat):Nat:=if code<256 then code else gone+code-1
theorem cfree_any {w:World} {b Bd:Nat} {c:CD} {t:TT} {rv sv:Value} (h:CM w b c Bd t rv sv) (hg:c.gone≤t.rules.length) (hl:t.rules.length≤100000):
 Calls Tryz.prog 87 #[.pointer (some ⟨b,0,none⟩)] w fun e w'=>e=.returned (.int .i64 (freeN t c:Int))∧Kept [] w w':=by
 have c5:w.cell? ⟨b,5,none⟩=some rv:=h.all.cell 5
 have c11:w.cell? ⟨b,11,none⟩=some (.int .i64 (c.gone:Int)):=h.all.cell 11
 have hv:∃a cap,rv=.slice a t.rules.length cap:=by
  rcases h.rules.2 with ⟨h3,h4⟩ | ⟨g,cap,_,h3,_⟩
  · exact ⟨none,0,by rw [h3,h4]⟩
  · exact ⟨_,cap,h3⟩
 obtain ⟨a,cap,rfl⟩:=hv
 have e:Hid ((freeN t c:Int)=257+(t.rules.length:Int)-(c.gone:Int)):=by show _=_;unfold freeN;omega
 generalize t.rules.length=n at *
 clear h
 go_enter Tryz.func87,Tryz.ntmps87
 go_wp2_with fail
 go_quiet (fail)
 go_wp2
 go_ret
 exact ⟨ret_int (by rw [e.out]),(Kept.refl [] w).drewN _⟩
theorem cwidth_any {w:World} {b Bd:Nat} {c:CD} {t:TT} {rv sv:Value} (h:CM w b c Bd t rv sv) (hg:c.gone≤t.rules.length) (hl:t.rules.length≤100000) (hm:c.most≤12):
 Calls Tryz.prog 61 #[.pointer (some ⟨b,0,none⟩)] w fun e w'=>e=.returned (.int .i64 (widP (freeN t c) c.most:Int))∧Kept [] w w':=by
 have hf:Hid (Calls _ _ _ _ _):=cfree_any h hg hl
 have hF:freeN t c≤1000000:=by unfold freeN;omega
 have hw:Hid (∀w,Calls _ _ _ w _):=fun w=>widthOf_any (freeN t c) c.most hF hm w
 have hH:Hid (CM _ _ _ _ _ _ _):=h
 clear h
 generalize freeN t c=F at *
 go_enter Tryz.func61,Tryz.ntmps61
 go_wp2_with fail
 refine hf.out.mono ?_
 rintro e w1 ⟨rfl,k1⟩
 have c2:w1.cell? ⟨b,2,none⟩=some (.int .i64 (c.most:Int)):=(hH.out.keptW k1).all.cell 2
 have k1:Hid (Kept _ _ _):=k1
 go_wp2_with fail
 refine (hw.out _).mono ?_
 rintro e w2 ⟨rfl,rfl⟩
 clear hf hw hH
 go_wp2
 go_ret
 exact ⟨rfl,k1.out⟩
theorem csymbol_any {w:World} {b Bd:Nat} {c:CD} {t:TT} {rv sv:Value} (h:CM w b c Bd t rv sv) (code:Nat) (hc:code≤100000) (hg:c.gone≤100000):
 Calls Tryz.prog 91 #[.pointer (some ⟨b,0,none⟩),.int .i64 (code:Int)] w fun e w'=>e=.returned (.int .i64 (symC c.gone code:Int))∧w'=w:=by
 have c11:w.cell? ⟨b,11,none⟩=some (.int .i64 (c.gone:Int)):=h.all.cell 11
 clear h
 unfold symC
 by_cases hlt:(code:Int)<256
 · rw [if_pos (by omega)]
   go_enter Tryz.func91,Tryz.ntmps91
   go_wp2
   go_ret
   exact ⟨rfl,rfl⟩
 · rw [if_neg (by omega)]
   have e:Hid (((c.gone+code-1:Nat):Int)=256+(c.gone:Int)+(code:Int)-257):=by show _=_;omega
   go_enter Tryz.func91,Tryz.ntmps91
   go_wp2
   go_ret
   exact ⟨ret_int (by rw [e.out]),rfl⟩
theorem field_first (p1 p2 p3 p4:Value) (w:World):(Instr.field 59 (.agg #[p1,p2,p3,p4]) 2).run Tryz.prog w=.ok p3 w:=by kernel_rfl
def firstC (t:TT) (gone a code F:Nat):Nat:=(partAt t.rules (if code=F then a else symC gone code)).first
theorem cfirst_any {w:World} {b Bd:Nat} {c:CD} {t:TT} {rv sv:Value} (h:CM w b c Bd t rv sv) (a code F:Nat) (ha:c.ahead=some a) (ha2:a≤90000) (hc:code≤5000) (hg:c.gone≤50000) (hl:t.rules.length≤100000):
 Calls Tryz.prog 90 #[.pointer (some ⟨b,0,none⟩),.int .i64 (code:Int),.int .i64 (F:Int)] w fun e w'=>e=.returned (.int .i64 (firstC t c.gone a code F:Int))∧Kept [] w w':=by
 have c12:w.cell? ⟨b,12,none⟩=some (.int .i64 (a:Int)):=by have:=h.all.cell 12;rw [ha] at this;exact this
 have hbw:b<w.heap.size:=h.all.lt
 have hsy:Hid (Calls _ _ _ _ _):=csymbol_any h code (by omega) (by omega)
 have hsl:symC c.gone code≤100000:=by unfold symC;split <;> omega
 unfold firstC
 have hp:Hid (∀s,s≤100000→Calls _ _ _ _ _):=fun s hs=>part_any h (o:=3) rfl s hs hl
 have hff:=field_first
 clear h ha
 by_cases hcf:code=F
 · rw [if_pos hcf]
   subst hcf
   have hp2:Hid (Calls _ _ _ _ _):=hp.out a (by omega)
   clear hp hsy
   generalize partAt t.rules a=x at *
   obtain ⟨x1,x2,x3,x4⟩:=x
   unfold PT.val PT.arr at hp2
   simp only [] at hp2 ⊢
   go_enter Tryz.func90,Tryz.ntmps90
   go_wp2_with fail
   refine hp2.out.mono ?_
   rintro e w1 ⟨rfl,k1⟩
   have k1:Hid (Kept _ _ _):=k1
   clear hp2
   go_wp2
   go_ret
   exact ⟨rfl,k1.out⟩
 · rw [if_neg hcf]
   have hne:((code:Int) != (F:Int))=true:=by simp;omega
   have hp2:Hid (Calls _ _ _ _ _):=hp.out (symC c.gone code) (by omega)
   clear hp hcf
   generalize symC c.gone code=S at *
   generalize partAt t.rules S=x at *
   obtain ⟨x1,x2,x3,x4⟩:=x
   unfold PT.val PT.arr at hp2
   simp only [] at hp2 ⊢
   go_enter Tryz.func90,Tryz.ntmps90
   go_wp2_with fail
   refine hsy.out.mono ?_
   rintro e w1 ⟨rfl,rfl⟩
   go_wp2_with fail
   refine hp2.out.mono ?_
   rintro e w1 ⟨rfl,k1⟩
   have k1:Hid (Kept _ _ _):=k1
   clear hp2 hsy
   go_wp2
   go_ret
   exact ⟨rfl,k1.out⟩
end Go.Proofs.YtgifhgnccmnbiabGreat
