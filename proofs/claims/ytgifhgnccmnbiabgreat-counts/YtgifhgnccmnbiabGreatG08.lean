/- The reader of patterns: atom, piece, branch and pattern: the reader whole. -/
import Derived.Test.YtgifhgnccmnbiabGreatG07
set_option linter.unusedVariables false
set_option linter.unusedSimpArgs false
set_option maxHeartbeats 4000000
set_option maxRecDepth 100000
namespace Go.Proofs.YtgifhgnccmnbiabGreat
open Go.RowKit Go.IntWalk
theorem close_true {t:ByteArray} {r:Nat×PS} (h:(takeS t 41 r.2.1).1=true):closeS t r=(r.1,((takeS t 41 r.2.1).2,r.2.2)):=by unfold closeS;rw [if_pos h]
theorem close_false {t:ByteArray} {r:Nat×PS} (h:(takeS t 41 r.2.1).1=false):closeS t r=(r.1,(failS t,r.2.2)):=by unfold closeS;rw [if_neg (by rw [h];decide)]
structure Mid (t:ByteArray) (tag0 tag b:Nat) (w w':World) (st:PS) (k:Nat) (r:Nat×PS):Prop where
 ev:∀r',Ev t tag r.1 r.2 r'→Ev t tag0 0 st r'
 ns:NS w' b t r.2
 bel:Below b w w'
 idx:r.1<r.2.2.length
 grow:st.2.length<r.2.2.length
 ge:st.1.1≤r.2.1.1
 cnt:r.2.2.length+2*st.1.1+k≤st.2.length+2*r.2.1.1+1
theorem Mid.out {t:ByteArray} {tag0 tag b:Nat} {w w':World} {st:PS} {k:Nat} {r:Nat×PS} (h:Mid t tag0 tag b w w' st k r) (e:Ev t tag r.1 r.2 r):Out t tag0 b w w' st k r:=
 ⟨h.ev r e,h.ns,h.bel,h.idx,h.grow,h.ge,h.cnt⟩
theorem Out.mid {t:ByteArray} {tag1 tag0 tag b:Nat} {w w':World} {st:PS} {k:Nat} {r:Nat×PS} (h:Out t tag1 b w w' st k r) (e:∀r',Ev t tag r.1 r.2 r'→Ev t tag0 0 st r'):Mid t tag0 tag b w w' st k r:=
 ⟨e,h.ns,h.bel,h.idx,h.grow,h.ge,h.cnt⟩
def atOf (w:World) (b:Nat):Nat:=match w.cell? ⟨b,1,none⟩ with | some (.int _ n)=>n.toNat | _=>0
theorem atOf_eq {w:World} {b:Nat} {t:ByteArray} {s:RS} {v:Value} (h:RD w b t s v):atOf w b=s.1:=by unfold atOf;rw [h.c1];simp
section
variable {t:ByteArray} {b m:Nat} {s:RS} {ns:List AN} {v:Value} {xs:List IV} {w:World}
theorem group_any (H:PatC t m) (h:NV w b t s ns v xs) (hp:t.size-s.1<m) (hm:ns.length≤500+2*s.1):
 Calls Tryz.prog 119 #[.pointer (some ⟨b,0,none⟩)] w fun e w'=>∃r:Nat×PS,e=.returned (.int .i64 (r.1:Int))∧Ev t 0 0 (s,ns) r∧NS w' b t (closeS t r).2∧Below b w w' ∧
  r.1<r.2.2.length∧ns.length<r.2.2.length∧s.1≤(closeS t r).2.1.1∧r.2.2.length+2*s.1≤ns.length+2*(closeS t r).2.1.1+1:=by
 go_enter Tryz.func119,Tryz.ntmps119
 go_wp2_with fail
 refine (H b s ns v xs _ hp h hm).mono ?_
 rintro e w1 ⟨r,rfl,o⟩
 obtain ⟨v1,xs1,n1⟩:=o.ns
 have hge:=o.ge
 have hcnt:=o.cnt
 simp only [] at hge hcnt
 by_cases hc:(takeS t 41 r.2.1).1=true
 · have hcl:Hid (_=_):=close_true hc
   have hg:=take_gt hc
   go_wp2_with fail
   refine (take_any b 41 t _ v1 _ n1.rd (by omega) (by omega)).mono ?_
   rintro e w2 ⟨rfl,h2,k2⟩
   go_wp2
   go_ret
   refine ⟨r,rfl,o.ev,?_,o.bel.trans (k2.below (by have:=n1.rd.blk.lt;omega) (by simp)),o.idx,o.grow,?_,?_⟩
   · rw [hcl.out];exact ⟨v1,xs1,n1.scan h2 k2⟩
   · rw [hcl.out];simp only [];omega
   · rw [hcl.out];simp only [];omega
 · have hc:(takeS t 41 r.2.1).1=false:=by simpa using hc
   have hcl:Hid (_=_):=close_false hc
   have hfit:=n1.rd.fits
   simp only [Fits] at hfit
   go_wp2_with fail
   refine (take_any b 41 t _ v1 _ n1.rd (by omega) (by omega)).mono ?_
   rintro e w2 ⟨rfl,h2,k2⟩
   go_wp2_with fail
   refine (fail_any b t _ v1 _ h2).mono ?_
   rintro e w3 ⟨rfl,h3,k3⟩
   go_wp2
   go_ret
   refine ⟨r,rfl,o.ev,?_,o.bel.trans ((k2.trans k3).below (by have:=n1.rd.blk.lt;omega) (by simp)),o.idx,o.grow,?_,?_⟩
   · rw [hcl.out];exact ⟨v1,xs1,(n1.scan h2 k2).scan h3 k3⟩
   · rw [hcl.out];simp only [failS];omega
   · rw [hcl.out];simp only [failS];omega
theorem atom_group (H:PatC t m) (h:NV w b t s ns v xs) (hm:ns.length≤500+2*s.1) (hp:s.1<t.size) (hpm:t.size-s.1≤m) (hc:(nextS t s).1=40):AtomC t b s ns w:=by
 obtain ⟨hgt,hbw⟩:=front h hp
 have ev:=fun r=>Ev.group (t:=t) (st:=(s,ns)) (r1:=r) hc
 unfold AtomC
 go_enter Tryz.func113,Tryz.ntmps113
 go_wp2_with fail
 refine (next_any b t s v _ h.rd).mono ?_
 rintro e w1 ⟨rfl,h1,k1⟩
 have n1:=h.scan h1 k1
 have b1:Below b w w1:=k1.below (by omega) (by simp)
 go_wp2_with fail
 refine (group_any H n1 (by omega) (by omega)).mono ?_
 rintro e w2 ⟨r,rfl,h2,h3,h4,h5,h6,h7,h8⟩
 go_wp2
 go_ret
 exact ⟨closeS t r,rfl,ev r h2,h3,b1.trans h4,h5,h6,by simp only [];omega,by simp only [closeS] at h8 ⊢;omega⟩
theorem atom_any (H:PatC t m) (h:NV w b t s ns v xs) (hm:ns.length≤500+2*s.1) (hp:s.1<t.size) (hpm:t.size-s.1≤m):AtomC t b s ns w:=by
 have hsm:=h.rd.small
 by_cases c1:(nextS t s).1=40
 · exact atom_group H h hm hp hpm c1
 by_cases c2:(nextS t s).1=91
 · exact atom_list h (by omega) hp c2
 by_cases c3:(nextS t s).1=46
 · exact atom_dot h (by omega) hp c3
 by_cases c4:(nextS t s).1=94
 · exact atom_begin h (by omega) hp c4
 by_cases c5:(nextS t s).1=36
 · exact atom_end h (by omega) hp c5
 by_cases c6:(nextS t s).1=92
 · exact atom_esc h (by omega) hp c6
 by_cases c7:(nextS t s).1=41∨(nextS t s).1=124∨(nextS t s).1=42∨(nextS t s).1=43∨(nextS t s).1=63∨(nextS t s).1=123
 · exact atom_bad _ h (by omega) hp rfl c7
 · exact atom_byte h (by omega) hp _ rfl c1 c2 c3 c4 c5 c6 (by omega) (by omega) (by omega) (by omega) (by omega) (by omega)
theorem piece_any (H:PatC t m) (h:NV w b t s ns v xs) (hm:ns.length≤500+2*s.1) (hp:s.1<t.size) (hpm:t.size-s.1≤m):
 Calls Tryz.prog 105 #[.pointer (some ⟨b,0,none⟩)] w fun e w'=>∃r:Nat×PS,e=.returned (.int .i64 (r.1:Int))∧Out t 2 b w w' (s,ns) 2 r:=by
 have ha:=atom_any H h hm hp hpm
 unfold AtomC at ha
 have hsm:Hid (t.size≤40):=h.rd.small
 have ha:Hid (Calls _ _ _ _ _):=ha
 go_enter Tryz.func105,Tryz.ntmps105
 go_wp2_with fail
 refine (ha.out).mono ?_
 rintro e w1 ⟨r1,rfl,o1⟩
 clear ha
 go_wp2_with fail
 go_loopw [3] (fun it wr=>∃r:Nat×PS,it=.int .i64 (r.1:Int)∧Mid t 2 6 b w wr (s,ns) 2 r) (fun _ wr=>t.size-atOf wr b)
 case atStart=>exact ⟨r1,rfl,o1.mid (fun r' e=>Ev.piece o1.ev e)⟩
 case round=>
  obtain ⟨r,rfl,o⟩:=hrel
  obtain ⟨v2,xs2,n2⟩:=o.ns
  have hcnt:=o.cnt
  have hidx:=o.idx
  have hat:=atOf_eq n2.rd
  have hfit:=n2.rd.fits
  simp only [Fits] at hcnt hfit
  have hat:Hid (_=_):=hat
  by_cases hq:repS t r.2.1=true
  · have hlt:=repS_lt hq
    have hgt:=repeat_gt hlt
    obtain ⟨l0,l9,m0,m9⟩:=repeat_bd t r.2.1
    have hev:=fun r' e=>o.ev r' (Ev.rep (r:=r') hq e)
    go_wp2_with fail
    refine (atRep_any b t _ v2 _ n2.rd).mono ?_
    rintro e w2 ⟨rfl,rfl⟩
    go_wp2_with fail
    refine (repeat_any b t _ v2 _ n2.rd).mono ?_
    rintro e w3 ⟨rfl,h3,k3⟩
    have n3:=n2.scan h3 k3
    have b3:=o.bel.trans (k3.below (by have:=n2.rd.blk.lt;omega) (by simp))
    go_wp2_with fail
    refine (again_any b r.1 _ _ t _ _ v2 xs2 _ n3 hidx (by have:=hsm.out;omega) l0 l9 m0 m9).mono ?_
    rintro e w4 ⟨rfl,h4,b4⟩
    have hat4:atOf w4 b=(repeatS t r.2.1).2.1:=by obtain ⟨v4,xs4,n4⟩:=h4;exact atOf_eq n4.rd
    have hg:=o.grow
    have hge:=o.ge
    have hat4:Hid (_=_):=hat4
    go_wp2
    try simp only [] at hg hge
    refine ⟨⟨againS r.1 (repeatS t r.2.1).1 ((repeatS t r.2.1).2,r.2.2),rfl,⟨hev,h4,b3.trans b4,?_,?_,?_,?_⟩⟩,?_⟩
    · simp [againS,addS]
    · simp [againS,addS];omega
    · simp [againS,addS];omega
    · simp [againS,addS];omega
    · rw [hat.out,hat4.out];omega
  · have hq:repS t r.2.1=false:=by simpa using hq
    have hev:=o.out (Ev.repEnd hq)
    go_wp2_with fail
    refine (atRep_any b t _ v2 _ n2.rd).mono ?_
    rintro e w2 ⟨rfl,rfl⟩
    go_wp2
    go_ret
    exact ⟨r,rfl,hev⟩
theorem branch_any (H:PatC t m) (h:NV w b t s ns v xs) (hm:ns.length≤500+2*s.1) (hpm:t.size-s.1≤m):
 Calls Tryz.prog 81 #[.pointer (some ⟨b,0,none⟩)] w fun e w'=>∃r:Nat×PS,e=.returned (.int .i64 (r.1:Int))∧Out t 1 b w w' (s,ns) 0 r:=by
 have hsm:Hid (t.size≤40):=h.rd.small
 have hb:=h.rd.blk.lt
 have hfit:=h.rd.fits
 simp only [Fits] at hfit
 by_cases he:endS t s=true
 · have ev:=Ev.empty (t:=t) (st:=(s,ns)) he
   go_enter Tryz.func81,Tryz.ntmps81
   go_wp2_with fail
   refine (atEnd_any b t _ v _ h.rd).mono ?_
   rintro e w1 ⟨rfl,rfl⟩
   go_wp2_with fail
   refine (add_plain b t _ ns v xs 0 0 0 0 0 1 _ h (by have:=hsm.out;omega) (by omega) (by omega)).mono ?_
   rintro e w1 ⟨rfl,h1,b1⟩
   go_wp2
   go_ret
   exact ⟨_,rfl,ev,h1,b1,by simp [addS],by simp [addS],by simp [addS],by simp [addS];omega⟩
 have he:endS t s=false:=by simpa using he
 have hpc:=piece_any H h hm (endS_lt he) hpm
 have hpc:Hid (Calls _ _ _ _ _):=hpc
 have ev0:=fun r1 r' (h1:Ev t 2 0 (s,ns) r1) h2=>Ev.branch (t:=t) (st:=(s,ns)) (r:=r') he h1 h2
 go_enter Tryz.func81,Tryz.ntmps81
 go_wp2_with fail
 refine (atEnd_any b t _ v _ h.rd).mono ?_
 rintro e w1 ⟨rfl,rfl⟩
 go_wp2_with fail
 refine (hpc.out).mono ?_
 rintro e w2 ⟨r1,rfl,o1⟩
 clear hpc h hb he
 go_wp2_with fail
 go_loopw [3] (fun it wr=>∃r:Nat×PS,it=.int .i64 (r.1:Int)∧Mid t 1 5 b w1 wr (s,ns) 2 r) (fun _ wr=>t.size-atOf wr b)
 case atStart=>exact ⟨r1,rfl,o1.mid (fun r' e=>ev0 r1 r' o1.ev e)⟩
 case round=>
  obtain ⟨r,rfl,o⟩:=hrel
  obtain ⟨v2,xs2,n2⟩:=o.ns
  have hcnt:=o.cnt
  have hidx:=o.idx
  have hge:=o.ge
  have hg:=o.grow
  have hat:Hid (_=_):=atOf_eq n2.rd
  have hfit:=n2.rd.fits
  simp only [Fits] at hcnt hfit hge hg
  by_cases hq:endS t r.2.1=true
  · have hev:=o.out (Ev.andEnd hq)
    go_wp2_with fail
    refine (atEnd_any b t _ v2 _ n2.rd).mono ?_
    rintro e w3 ⟨rfl,rfl⟩
    go_wp2
    go_ret
    exact ⟨r,rfl,hev.ev,hev.ns,hev.bel,hev.idx,hev.grow,hev.ge,by have:=hev.cnt;omega⟩
  · have hq:endS t r.2.1=false:=by simpa using hq
    have hlt:=endS_lt hq
    have hpc:Hid (Calls _ _ _ _ _):=piece_any H n2 (by have:=hsm.out;omega) hlt (by omega)
    have hev:=fun r1 (h1:Ev t 2 0 r.2 r1) r' e=>o.ev r' (Ev.and (r:=r') hq h1 e)
    go_wp2_with fail
    refine (atEnd_any b t _ v2 _ n2.rd).mono ?_
    rintro e w3 ⟨rfl,rfl⟩
    go_wp2_with fail
    refine (hpc.out).mono ?_
    rintro e w4 ⟨r4,rfl,o4⟩
    obtain ⟨v4,xs4,n4⟩:=o4.ns
    have hcnt4:=o4.cnt
    have hidx4:=o4.idx
    have hg4:=o4.grow
    have hge4:=o4.ge
    have hfit4:=n4.rd.fits
    simp only [Fits] at hcnt4 hg4 hge4 hfit4
    clear hpc
    go_wp2_with fail
    refine (join_any b r.1 r4.1 4 t _ _ v4 xs4 _ n4 (by omega) hidx4 (by have:=hsm.out;omega)).mono ?_
    rintro e w5 ⟨rfl,h5,b5⟩
    have hat5:atOf w5 b=r4.2.1.1:=by obtain ⟨v5,xs5,n5⟩:=h5;exact atOf_eq n5.rd
    have hat5:Hid (_=_):=hat5
    go_wp2
    refine ⟨⟨joinS 4 r.1 r4.1 r4.2,rfl,⟨hev r4 o4.ev,h5,(o.bel.trans o4.bel).trans b5,?_,?_,?_,?_⟩⟩,?_⟩
    · simp [joinS,addS]
    · simp [joinS,addS];omega
    · simp [joinS,addS];omega
    · simp [joinS,addS];omega
    · rw [hat.out,hat5.out];omega
theorem pattern_step (H:PatC t m):PatC t (m+1):=by
 intro b s ns v xs w hpm h hm
 have hsm:Hid (t.size≤40):=h.rd.small
 have hfit:=h.rd.fits
 simp only [Fits] at hfit
 have hbc:Hid (Calls _ _ _ _ _):=branch_any H h hm (by omega)
 go_enter Tryz.func54,Tryz.ntmps54
 go_wp2_with fail
 refine (hbc.out).mono ?_
 rintro e w1 ⟨r1,rfl,o1⟩
 clear hbc
 go_wp2_with fail
 go_loopw [3] (fun it wr=>∃r:Nat×PS,it=.int .i64 (r.1:Int)∧Mid t 0 4 b w wr (s,ns) 0 r) (fun _ wr=>t.size-atOf wr b)
 case atStart=>exact ⟨r1,rfl,o1.mid (fun r' e=>Ev.pattern o1.ev e)⟩
 case round=>
  obtain ⟨r,rfl,o⟩:=hrel
  obtain ⟨v2,xs2,n2⟩:=o.ns
  have hcnt:=o.cnt
  have hidx:=o.idx
  have hge:=o.ge
  have hg:=o.grow
  have hat:Hid (_=_):=atOf_eq n2.rd
  have hfit:=n2.rd.fits
  simp only [Fits] at hcnt hfit hge hg
  by_cases hq:(takeS t 124 r.2.1).1=true
  · have hgt:=take_gt hq
    have hev:=fun r1 h1 r' e=>o.ev r' (Ev.or (r:=r') (r1:=r1) hq h1 e)
    go_wp2_with fail
    refine (take_any b 124 t _ v2 _ n2.rd (by omega) (by omega)).mono ?_
    rintro e w3 ⟨rfl,h3,k3⟩
    have n3:=n2.scan h3 k3
    have b3:=o.bel.trans (k3.below (by have:=n2.rd.blk.lt;omega) (by simp))
    have hfit3:=n3.rd.fits
    simp only [Fits] at hfit3
    have hbc:Hid (Calls _ _ _ _ _):=branch_any H n3 (by omega) (by omega)
    go_wp2_with fail
    refine (hbc.out).mono ?_
    rintro e w4 ⟨r4,rfl,o4⟩
    obtain ⟨v4,xs4,n4⟩:=o4.ns
    have hcnt4:=o4.cnt
    have hidx4:=o4.idx
    have hg4:=o4.grow
    have hge4:=o4.ge
    have hfit4:=n4.rd.fits
    simp only [Fits] at hcnt4 hg4 hge4 hfit4
    clear hbc
    go_wp2_with fail
    refine (join_any b r.1 r4.1 5 t _ _ v4 xs4 _ n4 (by omega) hidx4 (by have:=hsm.out;omega)).mono ?_
    rintro e w5 ⟨rfl,h5,b5⟩
    have hat5:atOf w5 b=r4.2.1.1:=by obtain ⟨v5,xs5,n5⟩:=h5;exact atOf_eq n5.rd
    have hat5:Hid (_=_):=hat5
    go_wp2
    refine ⟨⟨joinS 5 r.1 r4.1 r4.2,rfl,⟨hev r4 o4.ev,h5,(b3.trans o4.bel).trans b5,?_,?_,?_,?_⟩⟩,?_⟩
    · simp [joinS,addS]
    · simp [joinS,addS];omega
    · simp [joinS,addS];omega
    · simp [joinS,addS];omega
    · rw [hat.out,hat5.out];omega
  · have hq:(takeS t 124 r.2.1).1=false:=by simpa using hq
    have hev:=o.out (Ev.orEnd hq)
    have hsame:takeS t 124 r.2.1=(false,r.2.1):=by
     unfold takeS at hq ⊢
     split at hq
     · cases hq
     · rename_i hc;rw [if_neg hc]
    go_wp2_with fail
    refine (take_any b 124 t _ v2 _ n2.rd (by omega) (by omega)).mono ?_
    rintro e w3 ⟨rfl,h3,k3⟩
    go_wp2
    go_ret
    refine ⟨r,rfl,hev.ev,?_,hev.bel.trans (k3.below (by have:=n2.rd.blk.lt;omega) (by simp)),hev.idx,hev.grow,hev.ge,hev.cnt⟩
    rw [hsame] at h3
    exact ⟨v2,xs2,n2.scan h3 k3⟩
theorem pattern_any (t:ByteArray):∀m,PatC t m
 | 0=>fun _ _ _ _ _ _ h=>by omega
 | m+1=>pattern_step (pattern_any t m)
end
def st0:PS:=((0,false),[])
def BadR (t:ByteArray) (r:Nat×PS):Prop:=r.2.1.2=true∨r.2.1.1<t.size
def ReadOut (t:ByteArray) (w w':World) (e:Ending):Prop:=
 Below w.heap.size w w'∧∃r:Nat×PS,Ev t 0 0 st0 r∧r.1<r.2.2.length ∧
  ((BadR t r∧e=.returned (.tuple #[.agg #[.slice none 0 0,.int .i64 0],.int .i64 2])) ∨
   (¬BadR t r∧60<sizeAt r.2.2 r.1∧e=.returned (.tuple #[.agg #[.slice none 0 0,.int .i64 0],.int .i64 3])) ∨
   (¬BadR t r∧sizeAt r.2.2 r.1≤60∧∃b ao n c xs,w.heap.size≤b∧NV w' b t r.2.1 r.2.2 (.slice ao n c) xs∧e=.returned (.tuple #[.agg #[.slice ao n c,.int .i64 (sizeAt r.2.2 r.1)],.int .i64 0])))
theorem NV.start (w:World) (t:ByteArray) (h:t.size≤40) (k:Nat) (hk:k=w.heap.size):NV (w.alloc (.cells #[.string t,.int .i64 0,.slice none 0 0,.bool false] 145)) k t (0,false) [] (.slice none 0 0) []:=by
 subst hk
 exact ⟨⟨Blk.new _ _ _,Nat.zero_le _,h⟩,World.ownsRow_nil _ _ _ _,rfl,fun i n x hn=>by simp at hn,fun n hn=>by simp at hn⟩
theorem read_long (t:ByteArray) (w:World) (h:40<t.size) (hs:t.size≤maxLen):
 Calls Tryz.prog 29 #[.string t] w fun e w'=>e=.returned (.tuple #[.agg #[.slice none 0 0,.int .i64 0],.int .i64 3])∧Below w.heap.size w w':=by
 unfold maxLen at hs
 go_enter Tryz.func29,Tryz.ntmps29
 go_wp2
 refine bodyPost_ret (v:=.tuple #[.agg #[.slice none 0 0,.int .i64 0],.int .i64 3]) (by simp [results,Tryz.results29,go_sem]) rfl ⟨rfl,?_⟩
 exact (Below.refl _ _).alloc (Nat.le_refl _) _
theorem res_two {w x:World} {T:TypeId} {c0 c1:Value} (h:Blk x w.heap.size #[c0,c1] T) (hb:Below w.heap.size w x) (u0 u1:Value):
 ((x.setCell ⟨w.heap.size,0,none⟩ u0).setCell ⟨w.heap.size,1,none⟩ u1).cell? ⟨w.heap.size,0,none⟩=some u0 ∧
 ((x.setCell ⟨w.heap.size,0,none⟩ u0).setCell ⟨w.heap.size,1,none⟩ u1).cell? ⟨w.heap.size,1,none⟩=some u1 ∧
 Below w.heap.size w ((x.setCell ⟨w.heap.size,0,none⟩ u0).setCell ⟨w.heap.size,1,none⟩ u1):=by
 have h2:=(h.set 0 u0).set 1 u1
 refine ⟨by rw [h2.cell];rfl,by rw [h2.cell];rfl,(hb.setCell (Nat.le_refl _) _).setCell (Nat.le_refl _) _⟩
theorem NV.other {w:World} {b k:Nat} {t:ByteArray} {s:RS} {ns:List AN} {v:Value} {xs:List IV} (h:NV w b t s ns v xs) (hk:k<b) (j:Nat) (u:Value):NV (w.setCell ⟨k,j,none⟩ u) b t s ns v xs:=by
 have gr:w.grownBy (w.setCell ⟨k,j,none⟩ u) (some k):=⟨rfl,rfl,rfl,by simp [World.setCell],fun i hi hne=>Below.heap_setCell _ _ _ _ (by rintro rfl;exact hne rfl)⟩
 have keep:∀{e z m:Nat} {y:Value} {ys:List Value},w.ownsRow (b+1) e z y m ys→(w.setCell ⟨k,j,none⟩ u).ownsRow (b+1) e z y m ys:=fun {e z m y ys} hy=>by
  refine hy.kept gr ?_
  cases hv:y.ownBlock with
  | none=>exact Or.inl rfl
  | some g=>refine Or.inr ?_;have:=own_ge hy hv;simp;omega
 exact ⟨⟨Blk.other h.rd.blk _ _ (by omega),h.rd.fits,h.rd.small⟩,keep h.row,h.len,fun i n x a c=>keep (h.items i n x a c),h.sized⟩
theorem read_any (t:ByteArray) (w:World) (h:t.size≤40):
 Calls Tryz.prog 29 #[.string t] w fun e w'=>ReadOut t w w' e:=by
 have hP:Hid (∀(w1:World) (k:Nat) (hk:NV w1 k t (0,false) [] (.slice none 0 0) []),_):=fun w1 k hk=>pattern_any t (t.size+1) k (0,false) [] (.slice none 0 0) [] w1 (by simp only [];omega) hk (by simp)
 have nv:=fun o=>NV.start (w.alloc o) t h (w.heap.size+1) (by simp)
 have bz:∀o,Blk ((w.alloc (.cells #[.slice none 0 0,.int .i64 0] 54)).alloc o) w.heap.size #[.slice none 0 0,.int .i64 0] 54:=fun o=>(Blk.new _ _ _).alloc o
 have bw:∀o1 o2,Below w.heap.size w ((w.alloc o1).alloc o2):=fun o1 o2=>((Below.refl _ _).alloc (Nat.le_refl _) _).alloc (by simp) _
 go_enter Tryz.func29,Tryz.ntmps29
 go_wp2_with fail
 refine (hP.out _ _ (nv _)).mono ?_
 rintro e w1 ⟨r,rfl,o⟩
 obtain ⟨v1,xs1,n1⟩:=o.ns
 clear hP nv
 have blw:Below w.heap.size w w1:=(bw _ _).trans (o.bel.mono (by omega))
 have bl1:Blk w1 w.heap.size #[.slice none 0 0,.int .i64 0] 54:=(o.bel.block w.heap.size (by omega)).trans (bz _)
 have hev:=o.ev
 have hidx:=o.idx
 have hcnt:=o.cnt
 simp only [] at hcnt
 have hfit:=n1.rd.fits
 simp only [Fits] at hfit
 clear bz bw o
 have c1:=n1.rd.c1
 by_cases hlt:r.2.1.1<t.size
 · go_wp2_with fail
   refine (fail_any _ t _ v1 _ n1.rd).mono ?_
   rintro e w2 ⟨rfl,h2,k2⟩
   have d3:=h2.c3
   have bl2:=bl1.kept k2 (by simp)
   have blw2:Below w.heap.size w w2:=blw.trans (k2.below (by have:=n1.rd.blk.lt;omega) (by simp))
   have g0:=bl2.frozen 0
   have g1:=bl2.frozen 1
   have g2:=bl2.cell 0
   have g3:=bl2.cell 1
   obtain ⟨q0,q1,q2⟩:=res_two bl2 blw2 (.slice none 0 0) (.int .i64 0)
   clear bl1 bl2
   simp only [failS] at d3
   go_wp2
   refine bodyPost_ret (v:=.tuple #[.agg #[.slice none 0 0,.int .i64 0],.int .i64 2]) (by simp [results,Tryz.results29,go_sem,q0,q1]) rfl ?_
   exact ⟨q2,r,hev,hidx,Or.inl ⟨Or.inr hlt,rfl⟩⟩
 have c3:=n1.rd.c3
 have g0:=bl1.frozen 0
 have g1:=bl1.frozen 1
 have g2:=bl1.cell 0
 have g3:=bl1.cell 1
 by_cases hbad:r.2.1.2=true
 · obtain ⟨q0,q1,q2⟩:=res_two bl1 blw (.slice none 0 0) (.int .i64 0)
   clear bl1
   rw [hbad] at c3
   have hbad:Hid (r.2.1.2=true):=hbad
   go_wp2
   refine bodyPost_ret (v:=.tuple #[.agg #[.slice none 0 0,.int .i64 0],.int .i64 2]) (by simp [results,Tryz.results29,go_sem,q0,q1]) rfl ?_
   exact ⟨q2,r,hev,hidx,Or.inl ⟨Or.inl hbad.out,rfl⟩⟩
 have hnb:Hid (¬BadR t r):=fun hc=>by rcases hc with hc | hc;exact hbad hc;exact hlt hc
 have hbad:r.2.1.2=false:=by simpa using hbad
 rw [hbad] at c3
 clear hbad
 have hbd:=sizeAt_bd n1.sized r.1
 have hsz:Hid (r.2.2.length≤1000):=by show _≤_;simp at hcnt;omega
 by_cases hbig:60<sizeAt r.2.2 r.1
 · obtain ⟨q0,q1,q2⟩:=res_two bl1 blw (.slice none 0 0) (.int .i64 0)
   clear bl1
   go_wp2_with fail
   refine (size_any _ r.1 t _ _ v1 xs1 _ n1 hidx hsz.out).mono ?_
   rintro e w2 ⟨rfl,rfl⟩
   go_wp2
   refine bodyPost_ret (v:=.tuple #[.agg #[.slice none 0 0,.int .i64 0],.int .i64 3]) (by simp [results,Tryz.results29,go_sem,q0,q1]) rfl ?_
   exact ⟨q2,r,hev,hidx,Or.inr (Or.inl ⟨hnb.out,hbig,rfl⟩)⟩
 · obtain ⟨g,cap,rfl⟩:=own_form n1.row (by omega)
   have c2:=n1.rd.c2
   obtain ⟨q0,q1,q2⟩:=res_two bl1 blw (.slice (some ⟨g,0,none⟩) r.2.2.length cap) (.int .i64 (sizeAt r.2.2 r.1))
   have n3:=(n1.other (k:=w.heap.size) (by omega) 0 (.slice (some ⟨g,0,none⟩) r.2.2.length cap)).other (k:=w.heap.size) (by omega) 1 (.int .i64 (sizeAt r.2.2 r.1))
   clear bl1
   go_wp2_with fail
   refine (size_any _ r.1 t _ _ _ xs1 _ n1 hidx hsz.out).mono ?_
   rintro e w2 ⟨rfl,rfl⟩
   go_wp2
   refine bodyPost_ret (v:=.tuple #[.agg #[.slice (some ⟨g,0,none⟩) r.2.2.length cap,.int .i64 (sizeAt r.2.2 r.1)],.int .i64 0]) (by simp [results,Tryz.results29,go_sem,q0,q1]) rfl ?_
   exact ⟨q2,r,hev,hidx,Or.inr (Or.inr ⟨hnb.out,by omega,w.heap.size+1,_,_,_,xs1,by omega,n3,rfl⟩)⟩
end Go.Proofs.YtgifhgnccmnbiabGreat
