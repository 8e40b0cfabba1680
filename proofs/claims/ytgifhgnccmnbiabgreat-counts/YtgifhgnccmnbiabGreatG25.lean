/- Package packed: the reader of files of rules, its small functions. -/
import Derived.Test.YtgifhgnccmnbiabGreatG24
set_option linter.unusedVariables false
set_option linter.unusedSimpArgs false
set_option maxHeartbeats 4000000
set_option maxRecDepth 100000
namespace Go.Proofs.YtgifhgnccmnbiabGreat
open Go.RowKit Go.IntWalk
def bt (f:ByteArray) (i:Nat):Nat:=if h:i<f.size then f[i].toNat else 0
theorem bt_lt {f:ByteArray} {i:Nat} (h:i<f.size):bt f i=f[i].toNat:=dif_pos h
theorem bt_bd (f:ByteArray) (i:Nat):bt f i<256:=by
 unfold bt;split
 · exact f[i].toNat_lt
 · omega
def RG (w:World) (b:Nat) (f:ByteArray) (s:RS):Prop:=Blk w b #[.string f,.int .i64 (s.1:Int),.bool s.2] 147
def nextG (f:ByteArray) (s:RS):Nat×RS:=if s.1<f.size then (bt f s.1,(s.1+1,s.2)) else (0,(s.1,true))
def numG (f:ByteArray) (s:RS):Nat→Nat×RS
 | 0=>(0,s)
 | i+1=>((numG f s i).1+(nextG f (numG f s i).2).1*256 ^ i,(nextG f (numG f s i).2).2)
def countG (f:ByteArray) (bytes most:Nat) (s:RS):Nat×RS:=if most<(numG f s bytes).1 then (0,((numG f s bytes).2.1,true)) else numG f s bytes
theorem nextG_ge (f:ByteArray) (s:RS):s.1≤(nextG f s).2.1∧(nextG f s).2.1≤s.1+1:=by unfold nextG;split <;> simp
theorem gnext_any (w:World) (b:Nat) (f:ByteArray) (s:RS) (h:RG w b f s) (hf:f.size≤100000) (hs:s.1≤100000):
 Calls Tryz.prog 107 #[.pointer (some ⟨b,0,none⟩)] w fun e w'=>e=.returned (.int .i64 ((nextG f s).1:Int))∧RG w' b f (nextG f s).2∧Kept [b] w w':=by
 obtain ⟨p,bad⟩:=s
 have c0:w.cell? ⟨b,0,none⟩=some (.string f):=h.cell 0
 have c1:w.cell? ⟨b,1,none⟩=some (.int .i64 (p:Int)):=h.cell 1
 have c2:w.cell? ⟨b,2,none⟩=some (.bool bad):=h.cell 2
 have f1:w.frozen? ⟨b,1,none⟩=false:=h.frozen 1
 have f2:w.frozen? ⟨b,2,none⟩=false:=h.frozen 2
 simp only [] at hs
 have g0:¬(p:Int)<0:=by omega
 by_cases hp:p<f.size
 · have e:nextG f (p,bad)=(f[p].toNat,(p+1,bad)):=by unfold nextG;rw [if_pos hp,bt_lt hp]
   rw [e]
   have hH:Hid (RG w b f (p,bad)):=h
   have g1:¬(f.size:Int)≤(p:Int):=by omega
   have g2:(p:Int)<(f.size:Int):=by omega
   clear h e
   go_enter Tryz.func107,Tryz.ntmps107
   go_wp2_with fail
   go_quiet (fail)
   go_wp2_with fail
   go_quiet (fail)
   go_wp2
   go_ret
   exact ⟨ret_int (by have:=f[p].toNat_lt;exact wrap64_in _ (by omega)),Blk.set hH.out 1 _,((Kept.refl [b] w).drewN _).setCell (p:=⟨b,1,none⟩) (by simp) _⟩
 · have e:nextG f (p,bad)=(0,(p,true)):=by unfold nextG;rw [if_neg hp]
   rw [e]
   have hH:Hid (RG w b f (p,bad)):=h
   have g1:(f.size:Int)≤(p:Int):=by omega
   clear h e
   go_enter Tryz.func107,Tryz.ntmps107
   go_wp2_with fail
   go_quiet (fail)
   go_wp2
   go_ret
   exact ⟨rfl,Blk.set hH.out 2 _,((Kept.refl [b] w).drewN _).setCell (p:=⟨b,2,none⟩) (by simp) _⟩
theorem nextG_lt (f:ByteArray) (s:RS):(nextG f s).1<256:=by
 unfold nextG;split
 · exact bt_bd f s.1
 · omega
theorem numG_ge (f:ByteArray) (s:RS):∀i,s.1≤(numG f s i).2.1∧(numG f s i).2.1≤s.1+i
 | 0=>⟨Nat.le_refl _,Nat.le_refl _⟩
 | i+1=>by
   have h1:=numG_ge f s i
   have h2:=nextG_ge f (numG f s i).2
   show s.1≤(nextG f (numG f s i).2).2.1∧(nextG f (numG f s i).2).2.1≤s.1+(i+1)
   omega
theorem numG_two_lt (f:ByteArray) (s:RS):(numG f s 1).1<256∧(numG f s 2).1<65536:=by
 have h1:=nextG_lt f s
 have h2:=nextG_lt f (nextG f s).2
 have e1:(numG f s 1).1=0+(nextG f s).1*256 ^ 0:=rfl
 have e2:(numG f s 2).1=(0+(nextG f s).1*256 ^ 0)+(nextG f (nextG f s).2).1*256 ^ 1:=rfl
 rw [e1,e2]
 omega
theorem rnumber_any (w:World) (b:Nat) (f:ByteArray) (s:RS) (h:RG w b f s) (hf:f.size≤100000) (hs:s.1≤99000) (n:Nat) (hn:n=1∨n=2):
 Calls Tryz.prog 84 #[.pointer (some ⟨b,0,none⟩),.int .i64 (n:Int)] w fun e w'=>e=.returned (.int .i64 ((numG f s n).1:Int))∧RG w' b f (numG f s n).2∧Kept [b] w w':=by
 have hx:Hid (∀w s,RG w b f s→s.1≤100000→Calls _ _ _ w _):=fun w s h hs=>gnext_any w b f s h hf hs
 have hnH:Hid (n=1∨n=2):=hn
 clear hn
 go_enter Tryz.func84,Tryz.ntmps84
 go_wp2_with fail
 go_loopw [5,6] (fun nv iv wr=>∃q:Nat,iv=.int .i64 (q:Int)∧q≤n∧nv=.int .i64 ((numG f s q).1:Int)∧RG wr b f (numG f s q).2∧Kept [b] w wr) (fun _ iv _=>((n:Int)-intOf iv).toNat)
 case atStart=>exact ⟨0,rfl,Nat.zero_le _,rfl,h,Kept.refl _ _⟩
 case round=>
  obtain ⟨q,rfl,hq,rfl,hr,hk⟩:=hrel
  clear h
  by_cases hlt:(q:Int)<(n:Int)
  · have hq2:q=0∨q=1:=by have:=hnH.out;omega
    have hge:=(numG_ge f s q).2
    have hc:Hid (Calls _ _ _ _ _):=hx.out _ _ hr (by omega)
    have hb:=nextG_lt f (numG f s q).2
    have hacc:(numG f s q).1<65536:=by
     have:=numG_two_lt f s
     rcases hq2 with rfl | rfl
     · show 0<65536;omega
     · omega
    have e1:Hid (numG f s (q+1)=((numG f s q).1+(nextG f (numG f s q).2).1*256 ^ q,(nextG f (numG f s q).2).2)):=rfl
    generalize (numG f s q).1=A at *
    generalize nextG f (numG f s q).2=N at *
    obtain ⟨c,s2⟩:=N
    simp only [] at hb
    clear hx hr hge
    rcases hq2 with rfl | rfl
    · go_wp2_with fail
      refine hc.out.mono ?_
      rintro e w2 ⟨rfl,r2,k2⟩
      have k2:Hid (Kept _ _ _):=hk.trans k2
      have r2:Hid (RG _ _ _ _):=r2
      clear hk hc
      go_wp2
      refine ⟨⟨1,rfl,by omega,by rw [e1.out];simp only [Nat.pow_zero,Nat.mul_one,Int.natCast_add],by rw [e1.out];exact r2.out,k2.out⟩,?_⟩
      simp only [intOf];omega
    · go_wp2_with fail
      refine hc.out.mono ?_
      rintro e w2 ⟨rfl,r2,k2⟩
      have k2:Hid (Kept _ _ _):=hk.trans k2
      have r2:Hid (RG _ _ _ _):=r2
      clear hk hc
      go_wp2
      refine ⟨⟨2,rfl,by omega,by rw [e1.out];simp only [Nat.pow_one,Int.natCast_add,Int.natCast_mul];rfl,by rw [e1.out];exact r2.out,k2.out⟩,?_⟩
      simp only [intOf];omega
  · have hqn:q=n:=by omega
    subst hqn
    have hk:Hid (Kept _ _ _):=hk
    have hr:Hid (RG _ _ _ _):=hr
    clear hx
    go_wp2
    go_ret
    exact ⟨rfl,hr.out,hk.out⟩
theorem RG.mark {w:World} {b:Nat} {f:ByteArray} {s:RS} (h:RG w b f s):RG (w.setCell ⟨b,2,none⟩ (.bool true)) b f (s.1,true):=h.set 2 _
theorem countG_ge (f:ByteArray) (n m:Nat) (s:RS):s.1≤(countG f n m s).2.1∧(countG f n m s).2.1≤s.1+n:=by
 have:=numG_ge f s n
 unfold countG;split
 · exact this
 · exact this
theorem countG_le (f:ByteArray) (n m:Nat) (s:RS):(countG f n m s).1≤m:=by
 unfold countG;split
 · omega
 · rename_i h;omega
theorem rcount_any (w:World) (b:Nat) (f:ByteArray) (s:RS) (h:RG w b f s) (hf:f.size≤100000) (hs:s.1≤99000) (n:Nat) (hn:n=1∨n=2) (m:Nat) (hm:m≤100000):
 Calls Tryz.prog 57 #[.pointer (some ⟨b,0,none⟩),.int .i64 (n:Int),.int .i64 (m:Int)] w fun e w'=>e=.returned (.int .i64 ((countG f n m s).1:Int))∧RG w' b f (countG f n m s).2∧Kept [b] w w':=by
 have hx:Hid (Calls _ _ _ w _):=rnumber_any w b f s h hf hs n hn
 have hlt:(numG f s n).1<65536:=by
  have:=numG_two_lt f s
  rcases hn with rfl | rfl <;> omega
 unfold countG
 generalize numG f s n=N at *
 obtain ⟨c,s2⟩:=N
 simp only [] at hlt hx ⊢
 clear h hn
 by_cases hc:(m:Int)<(c:Int)
 · rw [if_pos (by omega)]
   go_enter Tryz.func57,Tryz.ntmps57
   go_wp2_with fail
   refine hx.out.mono ?_
   rintro e w2 ⟨rfl,r2,k2⟩
   have c2:w2.cell? ⟨b,2,none⟩=some (.bool s2.2):=r2.cell 2
   have f2:w2.frozen? ⟨b,2,none⟩=false:=r2.frozen 2
   have hR:Hid (RG _ _ _ _):=r2.mark
   have hK:Hid (Kept [b] w (w2.setCell ⟨b,2,none⟩ (.bool true))):=k2.setCell (by simp) _
   clear r2 k2 hx
   go_wp2
   go_ret
   exact ⟨rfl,hR.out,hK.out⟩
 · rw [if_neg (by omega)]
   go_enter Tryz.func57,Tryz.ntmps57
   go_wp2_with fail
   refine hx.out.mono ?_
   rintro e w2 ⟨rfl,r2,k2⟩
   have hR:Hid (RG _ _ _ _):=r2
   have hK:Hid (Kept _ _ _):=k2
   clear r2 k2 hx
   go_wp2
   go_ret
   exact ⟨rfl,hR.out,hK.out⟩
theorem rsymbol_any (w:World) (b:Nat) (f:ByteArray) (s:RS) (h:RG w b f s) (hf:f.size≤100000) (hs:s.1≤99000) (r:Nat) (hr:r≤1000):
 Calls Tryz.prog 58 #[.pointer (some ⟨b,0,none⟩),.int .i64 (r:Int)] w fun e w'=>e=.returned (.int .i64 ((countG f 2 (255+r) s).1:Int))∧RG w' b f (countG f 2 (255+r) s).2∧Kept [b] w w':=by
 have hx:=rcount_any w b f s h hf hs 2 (Or.inr rfl) (255+r) (by omega)
 have e:((255+r:Nat):Int)=256+(r:Int)-1:=by omega
 rw [e] at hx
 have hx:Hid (Calls _ _ _ _ _):=hx
 generalize countG f 2 (255+r) s=N at *
 clear e h
 go_enter Tryz.func58,Tryz.ntmps58
 go_wp2_with fail
 refine hx.out.mono ?_
 rintro e w2 ⟨rfl,r2,k2⟩
 have hR:Hid (RG _ _ _ _):=r2
 have hK:Hid (Kept _ _ _):=k2
 clear r2 k2 hx
 go_wp2
 go_ret
 exact ⟨rfl,hR.out,hK.out⟩
def ruG (f:ByteArray) (s:RS):Nat→List RU×RS
 | 0=>([],s)
 | i+1=>
   ((ruG f s i).1++[ruleP (ruG f s i).1 (countG f 2 (255+i) (ruG f s i).2).1 (countG f 2 (255+i) (countG f 2 (255+i) (ruG f s i).2).2).1],
    (countG f 2 (255+i) (countG f 2 (255+i) (ruG f s i).2).2).2)
def syG (f:ByteArray) (m:Nat) (s:RS):Nat→List Nat×RS
 | 0=>([],s)
 | i+1=>((syG f m s i).1++[(countG f 2 m (syG f m s i).2).1],(countG f 2 m (syG f m s i).2).2)
def wholeP (rs:List RU) (l:List Nat):PT:=l.foldl (fun p s=>joinP p (partAt rs s)) {}
def sgR (f:ByteArray):Nat×RS:=countG f 1 100 (2,false)
def sgG (f:ByteArray):List RU×RS:=ruG f (sgR f).2 (sgR f).1
def sgN (f:ByteArray):Nat×RS:=countG f 2 1000 (sgG f).2
def sgS (f:ByteArray):List Nat×RS:=syG f (255+(sgR f).1) (sgN f).2 (sgN f).1
def sgOk (f:ByteArray):Bool:=!(sgS f).2.2&&decide (f.size≤(sgS f).2.1)
def sgT (f:ByteArray):TT:={ kind:=71,syms:=(sgN f).1,rules:=(sgG f).1,start:=(sgS f).1,whole:=wholeP (sgG f).1 (sgS f).1 }
theorem nextG_bad {f:ByteArray} {s:RS} (h:s.2=true):(nextG f s).2.2=true:=by unfold nextG;split <;> simp [h]
theorem numG_bad {f:ByteArray} {s:RS} (h:s.2=true):∀i,(numG f s i).2.2=true
 | 0=>h
 | i+1=>nextG_bad (numG_bad h i)
theorem countG_bad {f:ByteArray} {n m:Nat} {s:RS} (h:s.2=true):(countG f n m s).2.2=true:=by
 unfold countG;split
 · rfl
 · exact numG_bad h n
theorem ruG_bad {f:ByteArray} {s:RS} {i:Nat} (h:(ruG f s i).2.2=true):∀j,(ruG f s (i+j)).2.2=true
 | 0=>h
 | j+1=>countG_bad (countG_bad (ruG_bad h j))
theorem syG_bad {f:ByteArray} {m:Nat} {s:RS} {i:Nat} (h:(syG f m s i).2.2=true):∀j,(syG f m s (i+j)).2.2=true
 | 0=>h
 | j+1=>countG_bad (syG_bad h j)
theorem ruG_len (f:ByteArray) (s:RS):∀i,(ruG f s i).1.length=i
 | 0=>rfl
 | i+1=>by
   show (_++[_]).length=i+1
   rw [List.length_append,ruG_len f s i];rfl
theorem ruG_at (f:ByteArray) (s:RS):∀i,(ruG f s i).2.1≤s.1+4*i
 | 0=>Nat.le_refl _
 | i+1=>by
   have h0:=ruG_at f s i
   have h1:=(countG_ge f 2 (255+i) (ruG f s i).2).2
   have h2:=(countG_ge f 2 (255+i) (countG f 2 (255+i) (ruG f s i).2).2).2
   show (countG f 2 (255+i) (countG f 2 (255+i) (ruG f s i).2).2).2.1≤s.1+4*(i+1)
   omega
theorem sgOk_S {f:ByteArray} (h:(sgS f).2.2=true):sgOk f=false:=by unfold sgOk;rw [h];rfl
theorem sgOk_N {f:ByteArray} (h:(sgN f).2.2=true):sgOk f=false:=by
 refine sgOk_S ?_
 have:=syG_bad (f:=f) (m:=255+(sgR f).1) (s:=(sgN f).2) (i:=0) h (sgN f).1
 rwa [Nat.zero_add] at this
theorem sgOk_G {f:ByteArray} (h:(sgG f).2.2=true):sgOk f=false:=sgOk_N (countG_bad h)
theorem sgOk_g {f:ByteArray} {i:Nat} (hi:i≤(sgR f).1) (h:(ruG f (sgR f).2 i).2.2=true):sgOk f=false:=by
 refine sgOk_G ?_
 have:=ruG_bad h ((sgR f).1-i)
 rwa [show i+((sgR f).1-i)=(sgR f).1 by omega] at this
theorem sgOk_s {f:ByteArray} {i:Nat} (hi:i≤(sgN f).1) (h:(syG f (255+(sgR f).1) (sgN f).2 i).2.2=true):sgOk f=false:=by
 refine sgOk_S ?_
 have:=syG_bad h ((sgN f).1-i)
 rwa [show i+((sgN f).1-i)=(sgN f).1 by omega] at this
theorem wholeP_snoc (rs:List RU) (l:List Nat) (s:Nat):wholeP rs (l++[s])=joinP (wholeP rs l) (partAt rs s):=by unfold wholeP;rw [List.foldl_append];rfl
structure AfterRules (f:ByteArray) (rs:List RU) (s:RS):Prop where
 bad:s.2=true→sgOk f=false
 good:s.2=false→rs=(sgG f).1∧s=(sgG f).2
 len:rs.length≤100
 at_:s.1≤1000
structure AmongSyms (f:ByteArray) (rs:List RU) (n j:Nat) (l:List Nat) (p:PT) (s:RS):Prop where
 bad:s.2=true→sgOk f=false
 good:s.2=false→rs=(sgG f).1∧n=(sgN f).1∧l=(syG f (255+(sgR f).1) (sgN f).2 j).1∧s=(syG f (255+(sgR f).1) (sgN f).2 j).2∧p=wholeP rs l
 len:rs.length≤100
 llen:l.length=j
 at_:s.1≤2000+2*j
 up:n≤1000
theorem sgR_bd (f:ByteArray):(sgR f).1≤100∧(sgR f).2.1≤3:=⟨countG_le _ _ _ _,(countG_ge f 1 100 (2,false)).2⟩
theorem AfterRules.of {f:ByteArray} {q:Nat} (hq:q≤(sgR f).1) (h:(ruG f (sgR f).2 q).2.2=true∨q=(sgR f).1):AfterRules f (ruG f (sgR f).2 q).1 (ruG f (sgR f).2 q).2:=by
 have hb:=sgR_bd f
 have ha:=ruG_at f (sgR f).2 q
 refine ⟨fun hx=>sgOk_g hq hx,fun hx=>?_,by rw [ruG_len];omega,by omega⟩
 rcases h with h | h
 · rw [hx] at h;cases h
 · subst h;exact ⟨rfl,rfl⟩
theorem AfterRules.count {f:ByteArray} {rs:List RU} {s:RS} (h:AfterRules f rs s):AmongSyms f rs (countG f 2 1000 s).1 0 [] {} (countG f 2 1000 s).2:=by
 have h1:=countG_ge f 2 1000 s
 refine ⟨fun hx=>?_,fun hx=>?_,h.len,rfl,by have:=h.at_;omega,countG_le _ _ _ _⟩
 · cases hs:s.2 with
   | true=>exact h.bad hs
   | false=>obtain ⟨_,rfl⟩:=h.good hs;exact sgOk_N hx
 · cases hs:s.2 with
   | true=>rw [countG_bad hs] at hx;cases hx
   | false=>obtain ⟨h2,rfl⟩:=h.good hs;exact ⟨h2,rfl,rfl,rfl,rfl⟩
theorem AmongSyms.next {f:ByteArray} {rs:List RU} {n j:Nat} {l:List Nat} {p:PT} {s:RS} (h:AmongSyms f rs n j l p s) (hj:j<n) (hs:s.2=false):
 AmongSyms f rs n (j+1) (l++[(countG f 2 (255+(sgR f).1) s).1]) (joinP p (partAt rs (countG f 2 (255+(sgR f).1) s).1)) (countG f 2 (255+(sgR f).1) s).2:=by
 have h1:=countG_ge f 2 (255+(sgR f).1) s
 obtain ⟨g1,g2,g3,g4,g5⟩:=h.good hs
 refine ⟨fun hx=>?_,fun hx=>⟨g1,g2,?_,?_,?_⟩,h.len,by rw [List.length_append,h.llen];rfl,by have:=h.at_;omega,h.up⟩
 · rw [g4] at hx
   exact sgOk_s (i:=j+1) (by omega) hx
 · rw [g3,g4];rfl
 · rw [g4];rfl
 · rw [g5,wholeP_snoc]
theorem AmongSyms.fin {f:ByteArray} {rs:List RU} {n:Nat} {l:List Nat} {p:PT} {s:RS} (h:AmongSyms f rs n n l p s) (hs:s.2=false):
 sgOk f=decide (f.size≤s.1)∧({ kind:=71,syms:=n,rules:=rs,start:=l,whole:=p }:TT)=sgT f:=by
 obtain ⟨g1,g2,g3,g4,g5⟩:=h.good hs
 subst g2
 have e:(sgS f).2=s:=g4.symm
 refine ⟨by unfold sgOk;rw [e,hs];rfl,?_⟩
 unfold sgT
 rw [g5,g3,g1];rfl
end Go.Proofs.YtgifhgnccmnbiabGreat
