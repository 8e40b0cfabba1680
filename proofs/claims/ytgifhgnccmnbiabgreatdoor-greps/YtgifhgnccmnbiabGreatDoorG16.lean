/- Part of the proof. -/
import Derived.Test.YtgifhgnccmnbiabGreatDoorG15
import Derived.Lib.AppendStr
import Derived.Test.YtgifhgnccmnbiabGreatDoorG12
import Derived.Test.YtgifhgnccmnbiabGreatDoorG10
import Derived.Test.YtgifhgnccmnbiabGreatDoorG11
set_option linter.unusedVariables false
set_option linter.unusedSimpArgs false
set_option maxHeartbeats 4000000
set_option maxRecDepth 100000
namespace Go.Proofs.YtgifhgnccmnbiabGreatDoor
open Go.RowKit Go.IntWalk
structure ZB where
 p:Nat:=0
 n:Nat:=0
 out:ByteArray:=ByteArray.empty
 bP:List ByteArray:=[]
 last:ByteArray:=ByteArray.empty
def jJ(r:ZB):Nat:=257+r.bP.length
def pA(m:Nat)(r:ZB):Nat:=l6 (jJ r) m
def lJ(B:ByteArray)(m:Nat)(r:ZB):Bool:=decide (r.p+pA m r<=8*B.size)
def jb(r:ZB)(c:Nat):ByteArray:=if c=jJ r then r.last++r.last.extract 0 1 else pz r.bP c
def Eb(m:Nat)(r:ZB)(c:Nat):Option ZB:=
 if c=256 then some { r with p:=r.p+pA m r,n:=r.n+1,bP:=[],last:=ByteArray.empty}
 else if r.last.size=0/\256<c then none
 else if jJ r<c\/(c=jJ r/\¬jJ r<2 ^ m) then none
 else some { p:=r.p+pA m r,n:=r.n+1,out:=r.out++jb r c,bP:=if r.last.size≠0/\jJ r<2 ^ m then r.bP++[r.last++(jb r c).extract 0 1] else r.bP,last:=jb r c}
def Vq(B:ByteArray)(m:Nat)(r:ZB):Option ZB:=Eb m r (bW B r.p (pA m r)).1
def qj(B:ByteArray)(m:Nat):Nat->Option ZB
 | 0=>some {}
 | n+1=>(qj B m n).bind (Vq B m)
structure Vr (B:ByteArray)(r:ZB):Prop where
 p:9*r.n<=r.p
 pb:r.p<=8*B.size
 bP:r.bP.length<=r.n
 Vs:∀s,s∈r.bP->1<=s.size/\s.size<=r.n+1
 last:r.last.size<=r.n
 out:r.out.size<=5000*r.n
theorem zbi0(B:ByteArray):Vr B {}:=⟨by simp,by simp,by simp,by simp,Nat.le_refl 0,Nat.zero_le _⟩
theorem iX(a b:ByteArray):(a++b).size=a.size+b.size:=by simp
theorem Pq{r:ZB}{B:ByteArray}(h:Vr B r){c:Nat}(hc:c<256\/(257<=c/\c-257<r.bP.length)):1<=(pz r.bP c).size/\(pz r.bP c).size<=r.n+1:=by
 unfold pz;split
 ·exact⟨Nat.le_refl 1,by show 1<=_;omega⟩
 ·have:r.bP.getD (c-257) ByteArray.empty∈r.bP:=by
   rw[List.getD,List.getElem?_eq_getElem (by omega)];exact List.getElem_mem _
  exact h.Vs _ this
theorem Ec{r:ZB}{B:ByteArray}(h:Vr B r){c:Nat}(h0:c≠256)(hl:¬(r.last.size=0/\256<c))(hc:c<=jJ r):1<=(jb r c).size/\(jb r c).size<=r.n+1:=by
 unfold jb;split
 ·rename_i he
  have h1:r.last.size≠0:=fun hx=>hl ⟨hx,by unfold jJ at he;omega⟩;have:=h.last;rw[iX,ByteArray.size_extract];omega
 ·refine Pq h ?_;unfold jJ at *;omega
theorem Vr.take{B:ByteArray}{m:Nat}{r r':ZB}(h:Vr B r)(hg:lJ B m r=true)(hB:B.size<=4000){c:Nat}(ht:Eb m r c=some r'):Vr B r':=by
 have JF:r.p+pA m r<=8*B.size:=by unfold lJ at hg;simpa using hg
 have hw:=wB (jJ r) m;have We:pA m r=l6 (jJ r) m:=rfl;have h1:=h.p;have hn:r.n<=3600:=by have:=h.pb;omega
 unfold Eb at ht;split at ht
 ·simp only[Option.some.injEq]at ht;subst ht;exact⟨by simp only[];omega,JF,by simp,by simp,by show 0<=_;omega,by have:=h.out;simp only[];omega⟩
 ·split at ht
  ·cases ht
  ·split at ht
   ·cases ht
   ·rename_i h0 hl hc
    simp only[Option.some.injEq]at ht;subst ht;have hs:=Ec h h0 hl (by omega);have hla:=h.last;have hta:=h.bP;refine⟨by simp only[];omega,JF,?_,fun s ji=>?_,by simp only[];omega,by have:=h.out;simp only[];rw[iX];omega⟩
    ·simp only[];split
     ·rw[List.length_append,List.length_singleton];omega
     ·omega
    ·simp only[]at ji ⊢;split at ji
     ·rename_i hj
      rcases List.mem_append.1 ji with ji|ji
      ·have:=h.Vs s ji;omega
      ·simp at ji;subst ji;rw[iX,ByteArray.size_extract];omega
     ·have:=h.Vs s ji;omega
structure Ed (w0 w:World)(r:ZB)(ov tv:Value):Prop where
 out:w.ownsRow w0.heap.size 5 1 ov r.out.size (Lib.strCells r.out)
 bP:w.ownsRow w0.heap.size 9 1 tv r.bP.length (oF r.bP)
 kept:Kept [] w0 w
theorem FH(a b:ByteArray):Lib.strCells (a++b)=Lib.strCells a++Lib.strCells b:=by
 unfold Lib.strCells;rw[ByteArray.data_append,Array.toList_append,List.map_append]
theorem It(l:List ByteArray)(s:ByteArray):oF (l++[s])=oF l++[.string s]:=by simp[oF]
theorem Ed.iN{w0 w w':World}{r:ZB}{ov tv:Value}(h:Ed w0 w r ov tv)(k:Kept [] w w'):Ed w0 w' r ov tv:=
 ⟨aQ h.out k (fun _ _=>by simp),aQ h.bP k (fun _ _=>by simp),h.kept.trans k⟩
theorem Ee{w0 w w':World}{v:Value}{e z n:Nat}{xs:List Value}(k:Kept [] w0 w)(h:w.ownsRow w0.heap.size e z v n xs)(g:w.grownBy w' v.ownBlock):Kept [] w0 w':=
 ⟨g.os.trans k.os,g.tape.trans k.tape,g.output.trans k.output,Nat.le_trans k.size g.size,fun i hi _=>(g.block i (Nat.lt_of_lt_of_le hi k.size) (fun hc=>by have:=(h.lt i hc.symm).1;omega)).trans (k.block i hi (by simp))⟩
theorem Ed.zQ{w0 w w':World}{r:ZB}{ov tv v':Value}{s:ByteArray}(h:Ed w0 w r ov tv)(ho:w'.ownsRow w0.heap.size 5 1 v' (r.out.size+s.size) (Lib.strCells r.out++Lib.strCells s))(g:w.grownBy w' ov.ownBlock):
 Ed w0 w' { r with out:=r.out++s} v' tv:=
 ⟨by rw[show({r with out:=r.out++s}:ZB).out=r.out++s from rfl,iX,FH];exact ho,World.ownsRow.kept h.bP g (pV h.bP h.out (by decide)),Ee h.kept h.out g⟩
theorem Ed.M5{w0 w w':World}{r:ZB}{ov tv v':Value}{s:ByteArray}(h:Ed w0 w r ov tv)(ho:w'.ownsRow w0.heap.size 9 1 v' (r.bP.length+1) (oF r.bP++[.string s]))(g:w.grownBy w' tv.ownBlock):
 Ed w0 w' { r with bP:=r.bP++[s]} ov v':=
 ⟨World.ownsRow.kept h.out g (pV h.out h.bP (by decide)),by rw[show({r with bP:=r.bP++[s]}:ZB).bP=r.bP++[s] from rfl,It,List.length_append];exact ho,Ee h.kept h.bP g⟩
theorem Bq{B:ByteArray}{p w j C:Nat}(hj:j<w)(oC:p+w<=8*B.size)(h:(bW B p w).1=(bW B p (j+1)).1+C*2 ^ (j+1)):(bW B p w).1=(bW B p j).1+(2*C+pw B (p+j))*2 ^ j:=by
 have key:∀i,p+i<=8*B.size->(bW B p i).2=p+i:=by
  intro i;induction i with
  | zero=>intro _;rfl
  | succ i ih=>
    intro hi;show(d' B (bW B p i).2).2=_;rw[ih (by omega)];unfold d';rw[if_pos (by omega)];rfl
 have e:(bW B p (j+1)).1=(bW B p j).1+pw B (p+j)*2 ^ j:=by
  show(bW B p j).1+(d' B (bW B p j).2).1*2 ^ j=_;rw[key j (by omega)];unfold d';rw[if_pos (by omega)]
 rw[h,e,Nat.pow_succ,Nat.add_mul,Nat.add_assoc];congr 1
 rw[Nat.add_comm,<-Nat.mul_assoc,Nat.mul_comm (C*2 ^ j) 2,<-Nat.mul_assoc]
def QU(f:ByteArray):Prop:=3<=f.size/\f.size<=4000/\FB f/\9<=bt f 2/\bt f 2<=12
def wD:Ending:=.returned (.tuple #[.slice none 0 0,.int .i64 0,.bool false])
structure qk (f:ByteArray)(w w':World)(e:Ending):Prop where
 kept:Kept [] w w'
 out:(¬QU f/\e=wD)\/(QU f/\∃n r,qj (f.extract 3 f.size) (bt f 2) n=some r/\Vr (f.extract 3 f.size) r/\r.n=n/\(∀i,i<n->∃q,qj (f.extract 3 f.size) (bt f 2) i=some q/\lJ (f.extract 3 f.size) (bt f 2) q=true) /\
  ((lJ (f.extract 3 f.size) (bt f 2) r=true/\Vq (f.extract 3 f.size) (bt f 2) r=none/\e=wD) \/
   (lJ (f.extract 3 f.size) (bt f 2) r=false/\tE (f.extract 3 f.size) r.p=false/\e=wD) \/
   (lJ (f.extract 3 f.size) (bt f 2) r=false/\tE (f.extract 3 f.size) r.p=true/\∃ov tv,Ed w w' r ov tv/\e=.returned (.tuple #[ov,.int .i64 (n:Int),.bool true]))))
structure QV (f:ByteArray)(n:Nat)(r:ZB):Prop where
 it:qj (f.extract 3 f.size) (bt f 2) n=some r
 inv:Vr (f.extract 3 f.size) r
 num:r.n=n
 on:∀i,i<n->∃q,qj (f.extract 3 f.size) (bt f 2) i=some q/\lJ (f.extract 3 f.size) (bt f 2) q=true
theorem tkB_n{m:Nat}{r r':ZB}{c:Nat}(h:Eb m r c=some r'):r'.n=r.n+1:=by
 unfold Eb at h;split at h
 ·simp only[Option.some.injEq]at h;subst h;rfl
 ·split at h
  ·cases h
  ·split at h
   ·cases h
   ·simp only[Option.some.injEq]at h;subst h;rfl
theorem QV.next{f:ByteArray}{n:Nat}{r r':ZB}(h:QV f n r)(hf:f.size<=4000)(hg:lJ (f.extract 3 f.size) (bt f 2) r=true)(ht:Eb (bt f 2) r (bW (f.extract 3 f.size) r.p (pA (bt f 2) r)).1=some r'):QV f (n+1) r':=by
 refine⟨?_,h.inv.take hg (by simp;omega) ht,by rw[tkB_n ht,h.num],fun i hi=>?_⟩
 ·show(qj _ _ n).bind _=_;rw[h.it];exact ht
 ·by_cases oC:i=n
  ·subst oC;exact⟨r,h.it,hg⟩
  ·exact h.on i (by omega)
theorem QV.bad{f:ByteArray}{n:Nat}{r:ZB}{w w':World}(h:QV f n r)(hz:QU f)(hg:lJ (f.extract 3 f.size) (bt f 2) r=true)(ht:Eb (bt f 2) r (bW (f.extract 3 f.size) r.p (pA (bt f 2) r)).1=none)(k:Kept [] w w'):qk f w w' wD:=
 ⟨k,Or.inr ⟨hz,n,r,h.it,h.inv,h.num,h.on,Or.inl ⟨hg,ht,rfl⟩⟩⟩
theorem qm{w:World}{base:Nat}{e:TypeId}{size:Nat}{v:Value}{n:Nat}{xs:List Value}(h:w.ownsRow base e size v n xs):∃a c,v=.slice a n c:=by
 rcases h.2 with⟨h3,h4⟩|⟨g,cap,_,h3,_⟩
 ·exact⟨none,0,by rw[h3,h4]⟩
 ·exact⟨_,cap,h3⟩
theorem SR:(Tryz.prog.info? 5).map (fun i=>(i.zero,i.size,i.bytes))=some (some (.int .u8 0),1,1):=by kernel_rfl
theorem Wl:(Tryz.prog.info? 9).map (fun i=>(i.zero,i.size,i.bytes))=some (some (.string ⟨#[]⟩),1,16):=by kernel_rfl
theorem SS{s:ByteArray}(h:s.size=0):s=⟨#[]⟩:=by
 obtain⟨⟨l⟩⟩:=s;have:l=[]:=List.eq_nil_of_length_eq_zero (by simpa [ByteArray.size] using h);subst this;rfl
theorem Iu{s:ByteArray}(h:s.size≠0):(s.toList==([]:List UInt8))=false:=by
 unfold ByteArray.toList;rw[ByteArray.toList.loop.eq_1,if_pos (by omega)];have key:∀(k i:Nat) (r:List UInt8),s.size-i<=k->r≠[]->ByteArray.toList.loop s i r≠[]:=by
  intro k;induction k with
  | zero=>
    intro i r hk hr;rw[ByteArray.toList.loop.eq_1,if_neg (by omega)];simpa using hr
  | succ k ih=>
    intro i r hk hr;rw[ByteArray.toList.loop.eq_1];split
    ·exact ih _ _ (by omega) (by simp)
    ·simpa using hr
 rw[beq_eq_false_iff_ne];exact key s.size _ _ (by omega) (by simp)
set_option maxHeartbeats 8000000 in
theorem Ln(f:ByteArray)(hf:f.size<=maxLen)(w:World):
 Calls Tryz.prog 104 #[.string f] w fun e w'=>qk f w w' e:=by
 unfold maxLen at hf;have rJ:Hid (Kept [] w w):=Kept.refl _ _;by_cases h3:(f.size:Int)<3
 ·have hn:Hid (¬QU f):=fun h=>by have:=h.1;omega
  go_enter Tryz.func104,Tryz.ntmps104
  go_wp2
  go_ret3
  exact⟨rJ.out,Or.inl ⟨hn.out,rfl⟩⟩
 by_cases h4:(4000:Int)<(f.size:Int)
 ·have hn:Hid (¬QU f):=fun h=>by have:=h.2.1;omega
  have h3':(3:Int)<=(f.size:Int):=by omega
  clear h3;go_enter Tryz.func104,Tryz.ntmps104
  go_wp2
  go_ret3
  exact⟨rJ.out,Or.inl ⟨hn.out,rfl⟩⟩
 have h4':(f.size:Int)<=4000:=by omega
 have h3':(3:Int)<=(f.size:Int):=by omega
 have h2':(2:Int)<=(f.size:Int):=by omega
 have h2i:(2:Int)<(f.size:Int):=by omega
 clear h4 h3;by_cases hG:FB f
 ·have eG:f.extract 0 2=⟨#[83,90]⟩:=(iQ (by omega) 83 90).2 hG;have qO:Hid (FB f):=hG;clear hG;obtain⟨m,hm⟩:∃m,m=bt f 2:=⟨_,rfl⟩;have sZ:f[2].toNat=m:=by rw[hm,nh (by omega)]
  have hm255:m<256:=by rw[<-sZ];exact f[2].toNat_lt
  have sK:Hid (m=bt f 2):=hm;clear hm;by_cases Sx:(m:Int)<9
  ·have hn:Hid (¬QU f):=fun h=>by have:=h.2.2.2.1;rw[<-sK.out]at this;omega
   go_enter Tryz.func104,Tryz.ntmps104
   go_wp2
   go_ret3
   exact⟨rJ.out,Or.inl ⟨hn.out,rfl⟩⟩
  by_cases Fz:(12:Int)<(m:Int)
  ·have hn:Hid (¬QU f):=fun h=>by have:=h.2.2.2.2;rw[<-sK.out]at this;omega
   have hm9':(9:Int)<=(m:Int):=by omega
   clear Sx;go_enter Tryz.func104,Tryz.ntmps104
   go_wp2
   go_ret3
   exact⟨rJ.out,Or.inl ⟨hn.out,rfl⟩⟩
  have hm9':(9:Int)<=(m:Int):=by omega
  have hm12':(m:Int)<=12:=by omega
  have hz:Hid (QU f):=⟨by omega,by omega,qO.out,by rw[<-sK.out];omega,by rw[<-sK.out];omega⟩;clear Sx Fz qO;go_enter Tryz.func104,Tryz.ntmps104
  go_wp2_with fail
  go_loopw [7,8,9,10,11] (fun pv ov nv tv lv wr=>∃(n:Nat) (r:ZB),QV f n r/\pv=.int .i64 (r.p:Int)/\nv=.int .i64 (n:Int)/\lv=.string r.last/\Ed w wr r ov tv) (fun pv _ _ _ _ _=>(40000-intOf pv).toNat)
  case atStart=>exact⟨0,{},⟨rfl,zbi0 _,rfl,fun i hi=>by omega⟩,rfl,rfl,rfl,World.ownsRow_nil _ _ _ 1,World.ownsRow_nil _ _ _ 1,rJ.out⟩
  case round=>
   obtain⟨n,r,hs,rfl,rfl,rfl,Br⟩:=hrel;obtain⟨oa,oc,rfl⟩:=qm Br.out;obtain⟨ta,tc,rfl⟩:=qm Br.bP;have hB:(f.extract 3 f.size).size=f.size-3:=by simp
   have hp9:=hs.inv.p;have XA:=hs.inv.pb;have Lo:=hs.inv.bP;have hnum:=hs.num;rw[hB]at XA;have hn36:n<=3600:=by omega
   have hF:jJ r<=10000:=by unfold jJ;omega
   have XC:=wB (jJ r) m;have We:pA m r=l6 (jJ r) m:=rfl;have Zk:=fun w=>Po (jJ r) m (by omega) (by omega) (by omega) w;have eF:((jJ r:Nat):Int)=257+(r.bP.length:Int):=by unfold jJ;omega
   rw[<-We,eF]at Zk;have Zk:Hid (∀w,Calls _ _ _ w _):=Zk;rw[<-We]at XC;have qX:Hid (QV f n r):=hs;have jz:Hid (Ed _ _ _ _ _):=Br;have Zl:Hid (r.p+pA m r<=8*(f.size-3)->lJ (f.extract 3 f.size) (bt f 2) r=true):=fun h=>by unfold lJ;rw[hB,<-sK.out];exact decide_eq_true h
   have Zm:Hid (¬r.p+pA m r<=8*(f.size-3)->lJ (f.extract 3 f.size) (bt f 2) r=false):=fun h=>by unfold lJ;rw[hB,<-sK.out];exact decide_eq_false h
   have SU:Hid (_=_):=eF;clear hs Br We eF;by_cases zN:r.p+pA m r<=8*(f.size-3)
   ·have vb:Hid (_=true):=Zl.out zN;have hgI:¬ 8*((f.size:Int)-3)-(r.p:Int)<((pA m r:Nat):Int):=by omega
    clear Zl Zm;obtain⟨V,hV⟩:∃V,V=(bW (f.extract 3 f.size) r.p (pA m r)).1:=⟨_,rfl⟩;have hVlt:V<4096:=by
     have h1:=(wz (f.extract 3 f.size) r.p (pA m r)).1;have h2:2 ^ pA m r<=2 ^ 12:=Nat.pow_le_pow_right (by omega) XC.2;rw[<-hV]at h1;exact Nat.lt_of_lt_of_le h1 h2
    have hVH:Hid (V=_):=hV;clear hV;go_wp2_with fail
    refine(Zk.out _).mono ?_;rintro e w1 ⟨rfl,rfl⟩;clear Zk;go_wp2_with fail
    go_loop [14,15] (fun cv iv=>∃(j C:Nat),((j=0/\iv=.int .i64 (-1))\/∃k:Nat,j=k+1/\iv=.int .i64 (k:Int))/\cv=.int .i64 (C:Int)/\j<=pA m r/\V=(bW (f.extract 3 f.size) r.p j).1+C*2 ^ j) (fun _ iv=>(intOf iv+1).toNat)
    case atStart=>exact⟨pA m r,0,Or.inr ⟨pA m r-1,by omega,by go_num⟩,rfl,Nat.le_refl _,by rw[hVH.out];omega⟩
    case round=>
     obtain⟨j,C,hjv,rfl,hjw,hVC⟩:=hrel;rcases hjv with⟨rfl,rfl⟩|⟨k,rfl,rfl⟩
     ·have hCV:C=V:=by rw[hVC];show C=0+C*1;omega
      subst hCV;have hVC2:Hid (_=_):=hVH.out;clear hVC;obtain⟨i0,kQ,jh,dP,dB⟩:=info_parts SR;obtain⟨j0,Vp,XB,DA,E8⟩:=info_parts Wl;have hob:=qX.out.inv.out;have hlb:=qX.out.inv.last;have uP:Hid (∀r',Eb m r C=r'->Eb (bt f 2) r (bW (f.extract 3 f.size) r.p (pA (bt f 2) r)).1=r'):=fun r' h=>by rw[<-sK.out,<-hVC2.out];exact h
      obtain⟨M,hM⟩:∃M,M=2 ^ m:=⟨_,rfl⟩;have hM12:M<=4096:=by
       have h2:2 ^ m<=2 ^ 12:=Nat.pow_le_pow_right (by omega) (by omega);rw[<-hM]at h2;exact h2
      have Y9:wrap64 ((2:Int) ^ m)=(M:Int):=by
       rw[show((2:Int) ^ m)=(M:Int) by rw[hM];simp[Int.natCast_pow]];exact wrap64_in _ (by omega)
      have yT:Hid (M=2 ^ m):=hM;clear hM;have hoS:∀S:ByteArray,S.size<=4000->r.out.size+S.size<=100000000:=fun S h=>by omega
      have Wm:Hid (∀S:ByteArray,_):=hoS;have Bs:Hid (C≠256->C<jJ r->∀w v Bd,w.ownsRow Bd 9 1 v r.bP.length (oF r.bP)->Calls _ _ _ w _):=fun h1 h2 w v Bd h=>Pp r.bP v Bd C (by unfold jJ at h2;omega) (by omega) w h;have yY:Hid (C≠256->¬(r.last.size=0/\256<C)->C<=jJ r->1<=(jb r C).size/\(jb r C).size<=r.n+1):=fun a b c=>Ec qX.out.inv a b c;clear hoS;by_cases hC:C=256
      ·subst hC;have cy:Hid (QV f (n+1) _):=qX.out.next (by omega) vb.out (uP.out _ (if_pos rfl));have hme:Hid (Ed w _ { r with p:=r.p+pA m r,n:=r.n+1,bP:=[],last:=ByteArray.empty} (.slice oa r.out.size oc) (.slice none 0 0)):=⟨jz.out.out,World.ownsRow_nil _ _ _ 1,jz.out.kept⟩;clear Y9;go_wp2
       refine⟨⟨n+1,_,cy.out,by go_num,by go_num,rfl,hme.out⟩,?_⟩;simp only[intOf];omega
      have hCb:((C:Int)==256)=false:=beq_eq_false_iff_ne.2 (by omega);have lZ:Hid (C≠256):=hC;clear hC;by_cases CF:r.last.size=0
      ·have eL:r.last=⟨#[]⟩:=SS CF;by_cases Wn:(256:Int)<(C:Int)
       ·have kJ:Hid (Eb (bt f 2) r (bW (f.extract 3 f.size) r.p (pA (bt f 2) r)).1=none):=uP.out _ (by unfold Eb;rw[if_neg lZ.out,if_pos ⟨CF,by omega⟩]);clear CF;go_wp2
        go_ret3
        exact qX.out.bad hz.out vb.out kJ.out jz.out.kept
       ·have SV:C<jJ r:=by unfold jJ;omega
        obtain⟨S,hS⟩:∃S,S=pz r.bP C:=⟨_,rfl⟩;have Lp:jb r C=S:=by unfold jb;rw[if_neg (by omega),hS]
        have dd:=yY.out lZ.out (fun h=>by omega) (by omega);rw[Lp]at dd;have tF:=Bs.out lZ.out SV;rw[<-hS]at tF;have tF:Hid (∀w v Bd,_->Calls _ _ _ w _):=fun w v Bd=>tF w v Bd;have hoS:=Wm.out S (by omega);have cy:Hid (QV f (n+1) { p:=r.p+pA m r,n:=r.n+1,out:=r.out++S,bP:=r.bP,last:=S}):=qX.out.next (by omega) vb.out (uP.out _ (by
         unfold Eb;rw[if_neg lZ.out,if_neg (fun h=>by omega),if_neg (fun h=>by omega),Lp,if_neg (fun h=>h.1 CF)]))
        have n1:¬ 257+(r.bP.length:Int)<(C:Int):=by have:=SU.out;omega
        have n2:((C:Int)==257+(r.bP.length:Int))=false:=beq_eq_false_iff_ne.2 (by have:=SU.out;omega);clear hS Lp Bs yY CF uP;go_wp2_with (first
         | (go_at_call 152;refine(tF.out _ _ _ jz.out.bP).mono ?_;rintro e w2 ⟨rfl,k2⟩;have Bt:=jz.out.iN k2)
         | (at_builtin;refine Lib.wpList_append_own_string (P:=Tryz.prog) _ rfl (.tmp 121) (.tmp 122) 77 9 rfl w.heap.size 5 i0 Tryz.underlying77 Tryz.underlying9 kQ jh dP dB (.slice oa r.out.size oc) r.out.size (Lib.strCells r.out) rfl Bt.out S rfl ?_ ?_ ?_ ?_))
        ·unfold maxLen;omega
        ·omega
        ·exact Nat.le_trans (Nat.le_refl _) Bt.kept.size
        intro v3 w3 aG ay _;have sd:Hid (Ed w w3 { r with out:=r.out++S} v3 (.slice ta r.bP.length tc)):=Bt.zQ aG ay;clear aG ay;go_wp2
        refine⟨⟨n+1,_,cy.out,by go_num,by go_num,rfl,sd.out.out,sd.out.bP,sd.out.kept⟩,?_⟩;simp only[intOf];omega
      ·have d1:(r.last.toList==([]:List UInt8))=false:=Iu CF;have d2:(r.last.toList != ([]:List UInt8))=true:=by rw[bne,d1];rfl
       have hl1:(1:Int)<=(r.last.size:Int):=by omega
       by_cases hFC:257+(r.bP.length:Int)<(C:Int)
       ·have kJ:Hid (Eb (bt f 2) r (bW (f.extract 3 f.size) r.p (pA (bt f 2) r)).1=none):=uP.out _ (by unfold Eb;rw[if_neg lZ.out,if_neg (fun h=>CF h.1),if_pos (Or.inl (by have:=SU.out;omega))]);clear CF;go_wp2
        go_ret3
        exact qX.out.bad hz.out vb.out kJ.out jz.out.kept
       have hFC':¬ 257+(r.bP.length:Int)<(C:Int):=hFC;by_cases iS:(257+(r.bP.length:Int))<(M:Int)
       ·have hrN:jJ r<2 ^ m:=by rw[<-yT.out];exact Int.ofNat_lt.1 (by rw[SU.out];exact iS)
        by_cases SV:(C:Int)=257+(r.bP.length:Int)
        ·have n2:((C:Int)==257+(r.bP.length:Int))=true:=beq_iff_eq.2 SV;have Iv:C=jJ r:=by have:=SU.out;omega
         obtain⟨S,hS⟩:∃S,S=r.last++r.last.extract 0 1:=⟨_,rfl⟩;have Lp:jb r C=S:=by unfold jb;rw[if_pos Iv,hS]
         have dd:=yY.out lZ.out (fun h=>by omega) (by omega);rw[Lp]at dd;have hS1:(1:Int)<=(S.size:Int):=by omega
         have hoS:=Wm.out S (by omega);have cy:Hid (QV f (n+1) { p:=r.p+pA m r,n:=r.n+1,out:=r.out++S,bP:=r.bP++[r.last++S.extract 0 1],last:=S}):=qX.out.next (by omega) vb.out (uP.out _ (by
          unfold Eb;rw[if_neg lZ.out,if_neg (fun h=>CF h.1),if_neg (fun h=>by rcases h with h|h;omega;exact h.2 hrN),Lp,if_pos ⟨CF,hrN⟩]))
         have hSe:=hS.symm;clear hS Lp Bs yY CF uP SV Iv hFC;go_wp2_with (first
          | (at_builtin;refine Lib.wpList_append_own_string (P:=Tryz.prog) _ rfl (.tmp 121) (.tmp 122) 77 9 rfl w.heap.size 5 i0 Tryz.underlying77 Tryz.underlying9 kQ jh dP dB (.slice oa r.out.size oc) r.out.size (Lib.strCells r.out) rfl jz.out.out S rfl ?_ ?_ ?_ ?_))
         ·unfold maxLen;omega
         ·omega
         ·exact Nat.le_trans (Nat.le_refl _) jz.out.kept.size
         intro v3 w3 aG ay _;have sd:Hid (Ed w w3 { r with out:=r.out++S} v3 (.slice ta r.bP.length tc)):=jz.out.zQ aG ay;clear aG ay;go_wp2_with (at_builtin;refine wpList_append_own _ rfl (.tmp 129) (.tmp 134) 38 rfl w.heap.size 9 j0 _ 1 16 Tryz.underlying38 Vp XB DA E8 rfl (by decide) (.slice ta r.bP.length tc) r.bP.length (oF r.bP) rfl ?own ⟨w3.heap.size,0,none⟩ 1 1 [.string (r.last++S.extract 0 1)] rfl rfl ?c1 ?c2 ?b1 ?b2 ?b3 ?k)
         case own=>exact World.ownsRow.alloc sd.out.bP _
         case c1=>exact bM _ _ _ _ rfl
         case c2=>simp[Value.oneCell']
         case b1=>unfold maxLen;omega
         case b2=>omega
         case b3=>have:=sd.out.kept.size;simp;omega
         case k=>
          intro v4 w4 Iw Bu _;have Lq:Hid (Ed _ _ _ _ _):=(sd.out.iN ((Kept.refl [] w3).alloc _)).M5 Iw Bu;clear Iw Bu sd;go_wp2
          refine⟨⟨n+1,_,cy.out,by go_num,by go_num,rfl,Lq.out.out,Lq.out.bP,Lq.out.kept⟩,?_⟩;simp only[intOf];omega
        ·have n2:((C:Int)==257+(r.bP.length:Int))=false:=beq_eq_false_iff_ne.2 SV;have Iv:C<jJ r:=by have:=SU.out;omega
         obtain⟨S,hS⟩:∃S,S=pz r.bP C:=⟨_,rfl⟩;have Lp:jb r C=S:=by unfold jb;rw[if_neg (by omega),hS]
         have dd:=yY.out lZ.out (fun h=>by omega) (by omega);rw[Lp]at dd;have hS1:(1:Int)<=(S.size:Int):=by omega
         have tF:=Bs.out lZ.out Iv;rw[<-hS]at tF;have tF:Hid (∀w v Bd,_->Calls _ _ _ w _):=fun w v Bd=>tF w v Bd;have hoS:=Wm.out S (by omega);have cy:Hid (QV f (n+1) { p:=r.p+pA m r,n:=r.n+1,out:=r.out++S,bP:=r.bP++[r.last++S.extract 0 1],last:=S}):=qX.out.next (by omega) vb.out (uP.out _ (by
          unfold Eb;rw[if_neg lZ.out,if_neg (fun h=>CF h.1),if_neg (fun h=>by omega),Lp,if_pos ⟨CF,hrN⟩]))
         clear hS Lp Bs yY CF uP SV Iv hFC;go_wp2_with (first
          | (go_at_call 152;refine(tF.out _ _ _ jz.out.bP).mono ?_;rintro e w2 ⟨rfl,k2⟩;have Bt:=jz.out.iN k2)
          | (at_builtin;refine Lib.wpList_append_own_string (P:=Tryz.prog) _ rfl (.tmp 121) (.tmp 122) 77 9 rfl w.heap.size 5 i0 Tryz.underlying77 Tryz.underlying9 kQ jh dP dB (.slice oa r.out.size oc) r.out.size (Lib.strCells r.out) rfl Bt.out S rfl ?_ ?_ ?_ ?_))
         ·unfold maxLen;omega
         ·omega
         ·exact Nat.le_trans (Nat.le_refl _) Bt.kept.size
         intro v3 w3 aG ay _;have sd:Hid (Ed w w3 { r with out:=r.out++S} v3 (.slice ta r.bP.length tc)):=Bt.zQ aG ay;clear aG ay;go_wp2_with (at_builtin;refine wpList_append_own _ rfl (.tmp 129) (.tmp 134) 38 rfl w.heap.size 9 j0 _ 1 16 Tryz.underlying38 Vp XB DA E8 rfl (by decide) (.slice ta r.bP.length tc) r.bP.length (oF r.bP) rfl ?own ⟨w3.heap.size,0,none⟩ 1 1 [.string (r.last++S.extract 0 1)] rfl rfl ?c1 ?c2 ?b1 ?b2 ?b3 ?k)
         case own=>exact World.ownsRow.alloc sd.out.bP _
         case c1=>exact bM _ _ _ _ rfl
         case c2=>simp[Value.oneCell']
         case b1=>unfold maxLen;omega
         case b2=>omega
         case b3=>have:=sd.out.kept.size;simp;omega
         case k=>
          intro v4 w4 Iw Bu _;have Lq:Hid (Ed _ _ _ _ _):=(sd.out.iN ((Kept.refl [] w3).alloc _)).M5 Iw Bu;clear Iw Bu sd;go_wp2
          refine⟨⟨n+1,_,cy.out,by go_num,by go_num,rfl,Lq.out.out,Lq.out.bP,Lq.out.kept⟩,?_⟩;simp only[intOf];omega
       ·have hrN:¬jJ r<2 ^ m:=by rw[<-yT.out];exact fun h=>iS (by rw[<-SU.out];exact Int.ofNat_lt.2 h)
        by_cases SV:(C:Int)=257+(r.bP.length:Int)
        ·have n2:((C:Int)==257+(r.bP.length:Int))=true:=beq_iff_eq.2 SV;have kJ:Hid (Eb (bt f 2) r (bW (f.extract 3 f.size) r.p (pA (bt f 2) r)).1=none):=uP.out _ (by unfold Eb;rw[if_neg lZ.out,if_neg (fun h=>CF h.1),if_pos (Or.inr ⟨by have:=SU.out;omega,hrN⟩)]);have Ip:decide ((257+(r.bP.length:Int))<(M:Int))=false:=decide_eq_false iS;clear CF SV;go_wp2
         go_ret3
         exact qX.out.bad hz.out vb.out kJ.out jz.out.kept
        ·have n2:((C:Int)==257+(r.bP.length:Int))=false:=beq_eq_false_iff_ne.2 SV;have Iv:C<jJ r:=by have:=SU.out;omega
         obtain⟨S,hS⟩:∃S,S=pz r.bP C:=⟨_,rfl⟩;have Lp:jb r C=S:=by unfold jb;rw[if_neg (by omega),hS]
         have dd:=yY.out lZ.out (fun h=>by omega) (by omega);rw[Lp]at dd;have tF:=Bs.out lZ.out Iv;rw[<-hS]at tF;have tF:Hid (∀w v Bd,_->Calls _ _ _ w _):=fun w v Bd=>tF w v Bd;have hoS:=Wm.out S (by omega);have Ip:decide ((257+(r.bP.length:Int))<(M:Int))=false:=decide_eq_false iS;have cy:Hid (QV f (n+1) { p:=r.p+pA m r,n:=r.n+1,out:=r.out++S,bP:=r.bP,last:=S}):=qX.out.next (by omega) vb.out (uP.out _ (by
          unfold Eb;rw[if_neg lZ.out,if_neg (fun h=>CF h.1),if_neg (fun h=>by omega),Lp,if_neg (fun h=>hrN h.2)]))
         clear hS Lp Bs yY CF uP SV Iv hFC;go_wp2_with (first
          | (go_at_call 152;refine(tF.out _ _ _ jz.out.bP).mono ?_;rintro e w2 ⟨rfl,k2⟩;have Bt:=jz.out.iN k2)
          | (at_builtin;refine Lib.wpList_append_own_string (P:=Tryz.prog) _ rfl (.tmp 121) (.tmp 122) 77 9 rfl w.heap.size 5 i0 Tryz.underlying77 Tryz.underlying9 kQ jh dP dB (.slice oa r.out.size oc) r.out.size (Lib.strCells r.out) rfl Bt.out S rfl ?_ ?_ ?_ ?_))
         ·unfold maxLen;omega
         ·omega
         ·exact Nat.le_trans (Nat.le_refl _) Bt.kept.size
         intro v3 w3 aG ay _;have sd:Hid (Ed w w3 { r with out:=r.out++S} v3 (.slice ta r.bP.length tc)):=Bt.zQ aG ay;clear aG ay;go_wp2
         refine⟨⟨n+1,_,cy.out,by go_num,by go_num,rfl,sd.out.out,sd.out.bP,sd.out.kept⟩,?_⟩;simp only[intOf];omega
     ·have fP:=Is f (by omega) (r.p+k) (by omega);have ec:((r.p+k:Nat):Int)=(r.p:Int)+(k:Int):=by omega
      rw[ec]at fP;have fP:Hid (∀w,Calls _ _ _ w _):=fP;have oz:Hid (V=(bW (f.extract 3 f.size) r.p k).1+(2*C+pw (f.extract 3 f.size) (r.p+k))*2 ^ k):=by
       show V=_;rw[hVH.out]at hVC ⊢;exact Bq (by omega) (by rw[hB];omega) hVC
      have AK:pw (f.extract 3 f.size) (r.p+k)<2:=by unfold pw;omega
      have hCle:C<=V:=by
       have:C*1<=C*2 ^ (k+1):=Nat.mul_le_mul_left _ (Nat.one_le_two_pow);omega
      clear ec hVC;generalize pw (f.extract 3 f.size) (r.p+k)=bb at *;go_wp2_with fail
      refine(fP.out _).mono ?_;rintro e w2 ⟨rfl,rfl⟩;clear fP;go_wp2
      refine⟨⟨k,2*C+bb,?_,by go_num,by omega,oz.out⟩,?_⟩
      ·cases k with
       | zero=>exact Or.inl ⟨rfl,by go_num⟩
       | succ k=>exact Or.inr ⟨k,rfl,by go_num⟩
      ·simp only[intOf];omega
   ·have QH:Hid (_=false):=Zm.out zN;have hgI:8*((f.size:Int)-3)-(r.p:Int)<((pA m r:Nat):Int):=by omega
    clear Zl Zm;have dE:Hid (tE (f.extract 3 f.size) r.p=(decide (8*(f.size-3)-r.p<8)&&decide ((bW (f.extract 3 f.size) r.p (8*(f.size-3)-r.p)).1=0))):=by show tE _ _=_;unfold tE;rw[hB]
    have hzero:Hid (∀j,(∀i,i<j->pw (f.extract 3 f.size) (r.p+i)=0)->r.p+j<=8*(f.size-3)->(bW (f.extract 3 f.size) r.p j).1=0):=fun j=>by
     induction j with
     | zero=>intro _ _;rfl
     | succ j ih=>
       intro h1 h2;have h3:=ih (fun i hi=>h1 i (by omega)) (by omega);have h4:=h1 j (by omega);have key:=Bq (B:=f.extract 3 f.size) (p:=r.p) (w:=j+1) (j:=j) (C:=0) (by omega) (by rw[hB];omega) (by simp);rw[key,h3,h4];simp
    have zh:Hid (∀j i,i<j->pw (f.extract 3 f.size) (r.p+i)≠0->r.p+j<=8*(f.size-3)->(bW (f.extract 3 f.size) r.p j).1≠0):=fun j=>by
     induction j with
     | zero=>intro i hi;omega
     | succ j ih=>
       intro i hi hb h2;have key:=Bq (B:=f.extract 3 f.size) (p:=r.p) (w:=j+1) (j:=j) (C:=0) (by omega) (by rw[hB];omega) (by simp);rw[key];by_cases N9:i=j
       ·subst N9;have h5:0<(2*0+pw (f.extract 3 f.size) (r.p+i))*2 ^ i:=Nat.mul_pos (by omega) (Nat.two_pow_pos i);omega
       ·have:=ih i (by omega) hb (by omega);omega
    have r9:Hid (tE (f.extract 3 f.size) r.p=false->qk f w _ wD):=fun h=>⟨jz.out.kept,Or.inr ⟨hz.out,n,r,qX.out.it,qX.out.inv,qX.out.num,qX.out.on,Or.inr (Or.inl ⟨QH.out,h,rfl⟩)⟩⟩;have Bw:Hid (tE (f.extract 3 f.size) r.p=true->qk f w _ (.returned (.tuple #[.slice oa r.out.size oc,.int .i64 (n:Int),.bool true]))):=fun h=>⟨jz.out.kept,Or.inr ⟨hz.out,n,r,qX.out.it,qX.out.inv,qX.out.num,qX.out.on,Or.inr (Or.inr ⟨QH.out,h,_,_,jz.out,rfl⟩)⟩⟩;go_wp2_with fail
    refine(Zk.out _).mono ?_;rintro e w1 ⟨rfl,rfl⟩;clear Zk;go_wp2_with fail
    go_loop [19] (fun iv=>∃j:Nat,iv=.int .i64 ((r.p:Int)+(j:Int))/\r.p+j<=8*(f.size-3)/\(∀i,i<j->pw (f.extract 3 f.size) (r.p+i)=0)/\(0<j->8*(f.size-3)-r.p<8)) (fun iv=>(8*((f.size:Int)-3)-intOf iv).toNat)
    case atStart=>exact⟨0,by go_num,by omega,fun i hi=>by omega,fun h=>by omega⟩
    case round=>
     obtain⟨j,rfl,hj,iA,h8⟩:=hrel;have cP:Hid (∀i,_):=iA;have h8H:Hid (0<j->_):=h8;clear iA h8;by_cases hjl:(r.p:Int)+(j:Int)<8*((f.size:Int)-3)
     ·have fP:=Is f (by omega) (r.p+j) (by omega);have ec:((r.p+j:Nat):Int)=(r.p:Int)+(j:Int):=by omega
      rw[ec]at fP;have fP:Hid (∀w,Calls _ _ _ w _):=fP;clear ec;by_cases oX:pw (f.extract 3 f.size) (r.p+j)=0
      ·rw[oX]at fP;by_cases hw8:(8:Int)<=8*((f.size:Int)-3)-(r.p:Int)
       ·have Vi:Hid (qk f w _ wD):=r9.out (by rw[dE.out,decide_eq_false (show ¬ 8*(f.size-3)-r.p<8 by omega)];rfl);clear r9 Bw dE hzero zh oX;go_wp2_with fail
        refine(fP.out _).mono ?_;rintro e w2 ⟨rfl,rfl⟩;clear fP;go_wp2
        go_ret3
        exact Vi.out
       ·have oz:Hid (∀i,i<j+1->pw (f.extract 3 f.size) (r.p+i)=0):=fun i hi=>by
         by_cases N9:i=j
         ·subst N9;exact oX
         ·exact cP.out i (by omega)
        clear r9 Bw dE hzero zh oX cP h8H;go_wp2_with fail
        refine(fP.out _).mono ?_;rintro e w2 ⟨rfl,rfl⟩;clear fP;go_wp2
        refine⟨⟨j+1,by go_num,by omega,oz.out,fun _=>by omega⟩,?_⟩;simp only[intOf];omega
      ·have fx:((pw (f.extract 3 f.size) (r.p+j):Int) != 0)=true:=by simp;omega
       have Vi:Hid (qk f w _ wD):=r9.out (by
        rw[dE.out];have:=zh.out (8*(f.size-3)-r.p) j (by omega) oX (by omega);rw[decide_eq_false this,Bool.and_false])
       clear r9 Bw dE hzero zh;generalize pw (f.extract 3 f.size) (r.p+j)=bb at *;go_wp2_with fail
       refine(fP.out _).mono ?_;rintro e w2 ⟨rfl,rfl⟩;clear fP;go_wp2
       go_ret3
       exact Vi.out
     ·have hje:r.p+j=8*(f.size-3):=by omega
      have Vi:Hid (qk f w _ (.returned (.tuple #[.slice oa r.out.size oc,.int .i64 (n:Int),.bool true]))):=Bw.out (by
       rw[dE.out,show 8*(f.size-3)-r.p=j by omega,hzero.out j cP.out (by omega)];have:j<8:=by
        by_cases Vp:0<j
        ·have:=h8H.out Vp;omega
        ·omega
       rw[decide_eq_true this];rfl)
      clear r9 Bw dE hzero zh;go_wp2
      go_ret3
      exact Vi.out
 ·have hn:Hid (¬QU f):=fun h=>hG h.2.2.1;have d1:((f.extract 0 2).toList==[83,90])=false:=zO (by omega) 83 90 (fun h=>hG h);have d2:((f.extract 0 2).toList != [83,90])=true:=by simp[bne,d1]
  clear hG;go_enter Tryz.func104,Tryz.ntmps104
  go_wp2
  go_ret3
  exact⟨rJ.out,Or.inl ⟨hn.out,rfl⟩⟩
structure By (f:ByteArray)(n:Nat)(r:ZB):Prop where
 file:QU f
 it:qj (f.extract 3 f.size) (bt f 2) n=some r
 inv:Vr (f.extract 3 f.size) r
 num:r.n=n
 on:∀i,i<n->∃q,qj (f.extract 3 f.size) (bt f 2) i=some q/\lJ (f.extract 3 f.size) (bt f 2) q=true
 stop:lJ (f.extract 3 f.size) (bt f 2) r=false
 fin:tE (f.extract 3 f.size) r.p=true
def Zn(f:ByteArray):Prop:=¬QU f\/(QU f/\∃n r,qj (f.extract 3 f.size) (bt f 2) n=some r/\(∀i,i<n->∃q,qj (f.extract 3 f.size) (bt f 2) i=some q/\lJ (f.extract 3 f.size) (bt f 2) q=true) /\
 ((lJ (f.extract 3 f.size) (bt f 2) r=true/\Vq (f.extract 3 f.size) (bt f 2) r=none)\/(lJ (f.extract 3 f.size) (bt f 2) r=false/\tE (f.extract 3 f.size) r.p=false)))
theorem qk.two{f:ByteArray}{w w':World}{e:Ending}(h:qk f w w' e):(Zn f/\e=wD)\/∃n r ov tv,By f n r/\Ed w w' r ov tv/\e=.returned (.tuple #[ov,.int .i64 (n:Int),.bool true]):=by
 rcases h.out with⟨h1,h2⟩|⟨h1,n,r,Hc,hinv,hnum,iw,⟨a,b,c⟩|⟨a,b,c⟩|⟨a,b,ov,tv,hm,c⟩⟩
 ·exact Or.inl ⟨Or.inl h1,h2⟩
 ·exact Or.inl ⟨Or.inr ⟨h1,n,r,Hc,iw,Or.inl ⟨a,b⟩⟩,c⟩
 ·exact Or.inl ⟨Or.inr ⟨h1,n,r,Hc,iw,Or.inr ⟨a,b⟩⟩,c⟩
 ·exact Or.inr ⟨n,r,ov,tv,⟨h1,Hc,hinv,hnum,iw,a,b⟩,hm,c⟩
def aU(s:ByteArray):List Nat:=s.data.toList.map UInt8.toNat
theorem iR(s:ByteArray):(aU s).length=s.size:=by
 unfold aU;rw[List.length_map,Array.length_toList];rfl
theorem Bz(s:ByteArray)(i:Nat)(hi:i<s.size):(Lib.strCells s)[i]?=some (.int .u8 (((aU s).getD i 0:Nat):Int)):=by
 have h2:i<s.data.size:=hi;unfold Lib.strCells aU;rw[List.getElem?_map,List.getD,List.getElem?_map,Array.getElem?_toList,Array.getElem?_eq_getElem h2];rfl
section
variable {w0 w1:World}{b B C:Nat}{kind:Int}{n:Nat}{rl top:List Nat}{ps:List PI}{rv tv pv:Value}
theorem GM.M7(h:GM w0 b B C kind n rl top ps rv tv pv)(g:w0.grownBy w1 tv.ownBlock){v':Value}{x:Nat}(aG:w1.ownsRow C 3 1 v' (top.length+1) (aF top++[.int .i64 (x:Int)])):
 w1.cell? ⟨b,3,none⟩=some tv/\w1.frozen? ⟨b,3,none⟩=false/\b<w1.heap.size/\GM (w1.setCell ⟨b,3,none⟩ v') b B C kind n rl (top++[x]) ps rv v' pv /\
 (∀k,k<w0.heap.size->k<C->k≠b->(w1.setCell ⟨b,3,none⟩ v').heap[k]?=w0.heap[k]?)/\(∀wa,Kept [] wa w0->wa.heap.size<=b->Kept [] wa (w1.setCell ⟨b,3,none⟩ v')):=by
 have nd:∀k,k<C->some k≠tv.ownBlock:=fun k hk hc=>by have:=(h.top.lt k hc.symm).1;omega
 have CE:b<C:=Nat.lt_of_lt_of_le h.lt h.up;have hb:ah w1 b #[.int .i64 kind,.int .i64 (n:Int),rv,tv,pv] 71:=(g.block b h.aD.lt (nd b CE)).trans h.aD;have hr:w1.ownsRow B 3 1 rv rl.length (aF rl):=World.ownsRow.kept h.rules g (by
  cases hq:rv.ownBlock with
  | none=>exact Or.inl rfl
  | some q=>exact Or.inr (nd q (h.low q hq)))
 have hp:w1.ownsRow B 122 6 pv ps.length (gG ps):=World.ownsRow.kept h.pieces g (pV h.pieces h.top (by decide));refine⟨hb.cell 3,hb.frozen 3,hb.lt,⟨hb.set 3 v',h.lt,h.up,cB hr h.lt _ _,h.low,?_,cB hp h.lt _ _,h.small⟩,?_,?_⟩
 ·rw[fk,List.length_append];exact cB aG CE _ _
 ·intro k fG hk Wo;rw[Below.heap_setCell _ _ _ _ (by rintro rfl;exact Wo rfl)];exact g.block k fG (nd k hk)
 ·intro wa ka hwb;refine⟨g.os.trans ka.os,g.tape.trans ka.tape,g.output.trans ka.output,by simpa [World.setCell] using Nat.le_trans ka.size g.size,fun i hi _=>?_⟩;rw[Below.heap_setCell _ _ _ _ (by rintro rfl;omega)];exact(g.block i (Nat.lt_of_lt_of_le hi ka.size) (nd i (by omega))).trans (ka.block i hi (by simp))
end
end Go.Proofs.YtgifhgnccmnbiabGreatDoor
namespace Go.Proofs.YtgifhgnccmnbiabGreatDoor
structure fo where
 nodes:List DN
 start:Nat
 ps:List PN
 fold:Bool
 whole:Bool
 inv:Bool
abbrev jd:=Nat->Prop
inductive pB (D:fo)(S:jd)(b e:Prop):Nat->Prop
 | node {i:Nat}:i<D.nodes.length->S (3+i)->pB D S b e i
 | start:(S 0\/(S 1/\D.whole=false))->pB D S b e D.start
 | next {i:Nat} {x:DN}:pB D S b e i->D.nodes[i]?=some x->(x.kind=7\/(x.kind=2/\b)\/(x.kind=3/\e))->pB D S b e x.next
 | other {i:Nat} {x:DN}:pB D S b e i->D.nodes[i]?=some x->x.kind=7->pB D S b e x.other
def FI(D:fo)(S:jd)(b e:Prop):Prop:=∃i x,pB D S b e i/\D.nodes[i]?=some x/\x.kind=8
def Zo(D:fo)(S:jd)(b e:Prop)(c j:Nat):Prop:=∃i x p,pB D S b e i/\D.nodes[i]?=some x/\x.kind=1/\x.next=j/\D.ps[x.part]?=some p/\Ro p D.fold c=true
def nX(D:fo)(S:jd)(c:Nat):jd
 | 0=>False
 | 1=>S 0\/S 1
 | 2=>S 2\/(D.whole=false/\FI D S (S 0) False)
 | j+3=>Zo D S (S 0) False c j
def gh(D:fo)(u:List Nat)(S:jd):jd:=u.foldl (nX D) S
def FJ(D:fo)(S:jd):Prop:=S 2\/FI D S (S 0) True
def l8(i:Nat):jd:=fun k=>k=i
def Valid(S:jd):Prop:=S 0->∀k,S k->k=0
theorem pC(D:fo)(u v:List Nat)(S:jd):gh D (u++v) S=gh D v (gh D u S):=by unfold gh;rw[List.foldl_append]
theorem s9(i:Nat):Valid (l8 i):=fun h k hk=>by
 have h:0=i:=h;have hk:k=i:=hk;omega
theorem qn(D:fo)(S:jd)(c:Nat):Valid (nX D S c):=fun h=>h.elim
theorem pD(D:fo):∀(u:List Nat) (S:jd),Valid S->Valid (gh D u S)
 | [],S,h=>h
 | c :: u,S,_=>pD D u _ (qn D S c)
section
variable {D:fo}{S:jd}{e:Prop}
theorem SX{S':jd}{b b':Prop}(h:∀k,S k->S' k)(hb:b->b'){i:Nat}(g:pB D S b e i):pB D S' b' e i:=by
 induction g with
 | node h1 h2=>exact pB.node h1 (h _ h2)
 | start h1=>
   refine pB.start ?_;rcases h1 with h1|⟨h1,h2⟩
   ·exact Or.inl (h _ h1)
   ·exact Or.inr ⟨h _ h1,h2⟩
 | next _ h1 h2 ih=>
   refine pB.next ih h1 ?_;rcases h2 with h2|⟨h2,h3⟩|h2
   ·exact Or.inl h2
   ·exact Or.inr (Or.inl ⟨h2,hb h3⟩)
   ·exact Or.inr (Or.inr h2)
 | other _ h1 h2 ih=>exact pB.other ih h1 h2
theorem td(hv:Valid S){i:Nat}:pB D S (S 0) e i↔∃s,S s/\pB D (l8 s) (l8 s 0) e i:=by
 constructor
 ·intro g;induction g with
  | @node i h1 h2=>exact⟨3+i,h2,pB.node h1 rfl⟩
  | start h1=>
    rcases h1 with h1|⟨h1,h2⟩
    ·exact⟨0,h1,pB.start (Or.inl rfl)⟩
    ·exact⟨1,h1,pB.start (Or.inr ⟨rfl,h2⟩)⟩
  | next _ h1 h2 ih=>
    obtain⟨s,h3,h4⟩:=ih;refine⟨s,h3,pB.next h4 h1 ?_⟩;rcases h2 with h2|⟨h2,h5⟩|h2
    ·exact Or.inl h2
    ·exact Or.inr (Or.inl ⟨h2,(hv h5 s h3).symm⟩)
    ·exact Or.inr (Or.inr h2)
  | other _ h1 h2 ih=>
    obtain⟨s,h3,h4⟩:=ih;exact⟨s,h3,pB.other h4 h1 h2⟩
 ·rintro⟨s,h1,h2⟩;refine SX (fun k hk=>?_) (fun h=>?_) h2
  ·have hk:k=s:=hk;rw[hk];exact h1
  ·have h:0=s:=h;rw[h];exact h1
theorem BA(hv:Valid S)(c k:Nat):nX D S c k↔∃s,S s/\nX D (l8 s) c k:=by
 match k with
 | 0=>exact⟨fun h=>h.elim,fun ⟨_,_,h⟩=>h.elim⟩
 | 1=>
   constructor
   ·rintro(h|h)
    ·exact⟨0,h,Or.inl rfl⟩
    ·exact⟨1,h,Or.inr rfl⟩
   ·rintro⟨s,h1,h|h⟩
    ·have h:0=s:=h;rw[<-h]at h1;exact Or.inl h1
    ·have h:1=s:=h;rw[<-h]at h1;exact Or.inr h1
 | 2=>
   constructor
   ·rintro(h|⟨h1,i,x,h2,h3,h4⟩)
    ·exact⟨2,h,Or.inl rfl⟩
    ·obtain⟨s,h5,h6⟩:=(td hv).1 h2;exact⟨s,h5,Or.inr ⟨h1,i,x,h6,h3,h4⟩⟩
   ·rintro⟨s,h1,h|⟨h2,i,x,h3,h4,h5⟩⟩
    ·have h:2=s:=h;rw[<-h]at h1;exact Or.inl h1
    ·exact Or.inr ⟨h2,i,x,(td hv).2 ⟨s,h1,h3⟩,h4,h5⟩
 | j+3=>
   constructor
   ·rintro⟨i,x,p,h1,h2⟩;obtain⟨s,h5,h6⟩:=(td hv).1 h1;exact⟨s,h5,i,x,p,h6,h2⟩
   ·rintro⟨s,h1,i,x,p,h3,h2⟩;exact⟨i,x,p,(td hv).2 ⟨s,h1,h3⟩,h2⟩
theorem te:∀(u:List Nat) (S:jd),Valid S->∀k,gh D u S k↔∃s,S s/\gh D u (l8 s) k
 | [],S,_,k=>⟨fun h=>⟨k,h,rfl⟩,fun ⟨s,h1,h2⟩=>by
    have h2:k=s:=h2;rw[h2];exact h1⟩
 | c :: u,S,hv,k=>by
   show gh D u (nX D S c) k↔∃s,S s/\gh D u (nX D (l8 s) c) k;rw[te u _ (qn D S c) k];constructor
   ·rintro⟨j,h1,h2⟩;obtain⟨s,h3,h4⟩:=(BA hv c j).1 h1;exact⟨s,h3,(te u _ (qn D _ c) k).2 ⟨j,h4,h2⟩⟩
   ·rintro⟨s,h1,h2⟩;obtain⟨j,h3,h4⟩:=(te u _ (qn D _ c) k).1 h2;exact⟨j,(BA hv c j).2 ⟨s,h1,h3⟩,h4⟩
end
structure gX (D:fo)(R:Bool->ByteArray->Rel):Prop where
 done:∃x,D.nodes[0]?=some x/\x.kind=8
 mY:gI D.ps D.nodes 1 D.nodes.length 0 D.start R
theorem gX.only{D:fo}{R:gz}(h:gX D R){i:Nat}{x:DN}(hx:D.nodes[i]?=some x):x.kind=8↔i=0:=by
 obtain⟨y,h1,h2⟩:=h.done;constructor
 ·intro hk;by_cases hi:i=0
  ·exact hi
  ·have:=h.mY.ok i x (by omega) (List.getElem?_eq_some_iff.1 hx).1 hx;rcases this with h3|⟨h3,_⟩ <;> omega
 ·intro hi;subst hi;rw[h1]at hx;obtain rfl:=Option.some.inj hx;exact h2
theorem gX.Ix{D:fo}{R:gz}(h:gX D R):D.start<D.nodes.length:=by
 obtain⟨y,h1,_⟩:=h.done;have:=(List.getElem?_eq_some_iff.1 h1).1;rcases h.mY.first with h2 | h2 <;> omega
theorem gX.fR{D:fo}{R:gz}(h:gX D R){i:Nat}{x:DN}(hx:D.nodes[i]?=some x)(hk:x.kind≠8):x.next<D.nodes.length/\(x.kind=7->x.other<D.nodes.length):=by
 have hi:i≠0:=fun hc=>hk ((h.only hx).2 hc);obtain⟨y,h1,_⟩:=h.done;have h0:=(List.getElem?_eq_some_iff.1 h1).1;obtain⟨g1,g2⟩:=h.mY.goes i x (by omega) (List.getElem?_eq_some_iff.1 hx).1 hx;refine⟨by omega,fun h7=>?_⟩;have:=g2 h7;omega
theorem SY{D:fo}{R:gz}(h:gX D R){S:jd}{b e:Prop}{i:Nat}(g:pB D S b e i):i<D.nodes.length:=by
 induction g with
 | node h1 _=>exact h1
 | start _=>exact h.Ix
 | next _ h1 h2 ih=>exact(h.fR h1 (by rcases h2 with h2|h2|h2 <;> omega)).1
 | other _ h1 h2 ih=>exact(h.fR h1 (by omega)).2 h2
inductive Gy (D:fo)(t:ByteArray):Nat->Nat->Prop
 | start {a:Nat}:a<=t.size->(D.whole=true->a=0)->Gy D t D.start a
 | step {i a j b:Nat} {x:DN}:Gy D t i a->D.nodes[i]?=some x->vR D.ps D.fold t x a j b->Gy D t j b
section
variable {D:fo}{R:gz}{t:ByteArray}
theorem wE(h:gX D R)(m:Nat):Gy D t 0 m↔∃a,a<=t.size/\(D.whole=true->a=0)/\R D.fold t a m:=by
 constructor
 ·intro g;have key:∀i b,Gy D t i b->∃a,a<=t.size/\(D.whole=true->a=0)/\∀m,bT D.ps D.fold t D.nodes 1 D.nodes.length 0 i b m->bT D.ps D.fold t D.nodes 1 D.nodes.length 0 D.start a m:=by
   intro i b g;induction g with
   | @start a h1 h2=>exact⟨a,h1,h2,fun m h=>h⟩
   | @step i a j b x g1 g2 g3 ih=>
     obtain⟨a',h1,h2,h3⟩:=ih;refine⟨a',h1,h2,fun m hm=>h3 m ?_⟩;have hi:i≠0:=fun hc=>by
      have:=(h.only g2).2 hc;rcases g3 with⟨hk,_⟩|⟨hk,_⟩|⟨hk,_⟩|⟨hk,_⟩ <;> omega
     exact bT.step (by omega) (List.getElem?_eq_some_iff.1 g2).1 g2 g3 hm
  obtain⟨a,h1,h2,h3⟩:=key 0 m g;exact⟨a,h1,h2,(h.mY.iff D.fold t a m h1).1 (h3 m (bT.done m))⟩
 ·rintro⟨a,h1,h2,h3⟩;have g:=(h.mY.iff D.fold t a m h1).2 h3;have key:∀i a m,bT D.ps D.fold t D.nodes 1 D.nodes.length 0 i a m->Gy D t i a->Gy D t 0 m:=by
   intro i a m g;induction g with
   | done a=>exact fun h=>h
   | step _ _ g3 g4 _ ih=>exact fun h=>ih (Gy.step h g3 g4)
  exact key _ _ _ g (Gy.start h1 h2)
def setAt(D:fo)(t:ByteArray)(p:Nat):jd
 | 0=>p=0
 | 1=>0<p
 | 2=>D.whole=false/\∃q,q<p/\Gy D t 0 q
 | j+3=>∃i x a,Gy D t i a/\D.nodes[i]?=some x/\x.kind=1/\vR D.ps D.fold t x a j p
theorem M8(h:gX D R){p:Nat}(hp:p<=t.size){e:Prop}(he:e↔p=t.size)(i:Nat):pB D (setAt D t p) (setAt D t p 0) e i↔Gy D t i p:=by
 constructor
 ·intro g;induction g with
  | @node i h1 h2=>
    rw[Nat.add_comm]at h2;obtain⟨i',x,a,g1,g2,g3,g4⟩:=h2;exact Gy.step g1 g2 g4
  | start h1=>
    refine Gy.start hp (fun hw=>?_);rcases h1 with h1|⟨_,h2⟩
    ·exact h1
    ·rw[hw]at h2;cases h2
  | @next i x _ h1 h2 ih=>
    refine Gy.step ih h1 ?_;rcases h2 with h2|⟨h2,h3⟩|⟨h2,h3⟩
    ·exact Or.inl ⟨h2,Or.inl rfl,rfl⟩
    ·have h3:p=0:=h3;exact Or.inr (Or.inl ⟨h2,rfl,h3,h3⟩)
    ·exact Or.inr (Or.inr (Or.inl ⟨h2,rfl,he.1 h3,he.1 h3⟩))
  | @other i x _ h1 h2 ih=>exact Gy.step ih h1 (Or.inl ⟨h2,Or.inr rfl,rfl⟩)
 ·intro g;induction g with
  | @start a h1 h2=>
    refine pB.start ?_;by_cases ha:a=0
    ·exact Or.inl ha
    ·exact Or.inr ⟨show 0<a by omega,by
      cases hw:D.whole with
      | false=>rfl
      | true=>exact absurd (h2 hw) ha⟩
  | @step i a j b x g1 g2 g3 ih=>
    have g3':=g3;rcases g3 with⟨hk,hj,rfl⟩|⟨hk,rfl,ha,hb⟩|⟨hk,rfl,ha,hb⟩|⟨hk,rfl,q,MV,Cy⟩
    ·rcases hj with rfl|rfl
     ·exact pB.next (ih hp he) g2 (Or.inl hk)
     ·exact pB.other (ih hp he) g2 hk
    ·subst ha;subst hb;exact pB.next (ih hp he) g2 (Or.inr (Or.inl ⟨hk,rfl⟩))
    ·subst ha;subst hb;exact pB.next (ih hp he) g2 (Or.inr (Or.inr ⟨hk,he.2 rfl⟩))
    ·have bO:=(h.fR g2 (by omega)).1;refine pB.node bO ?_;rw[Nat.add_comm];exact⟨i,x,a,g1,g2,hk,g3'⟩
theorem Lr(h:gX D R){p:Nat}(hp:p<t.size)(k:Nat):nX D (setAt D t p) (t[p]'hp).toNat k↔setAt D t (p+1) k:=by
 have hr:=fun i=>M8 h (Nat.le_of_lt hp) (e:=False) (by constructor;exact fun h=>h.elim;intro h;omega) i;match k with
 | 0=>exact⟨fun h=>h.elim,fun h=>by
    have h:p+1=0:=h;omega⟩
 | 1=>exact⟨fun _=>show 0<p+1 by omega,fun _=>by
    show p=0\/0<p;omega⟩
 | 2=>
   constructor
   ·rintro(⟨h1,q,h2,h3⟩|⟨h1,i,x,h2,h3,h4⟩)
    ·exact⟨h1,q,by omega,h3⟩
    ·obtain rfl:=(h.only h3).1 h4;exact⟨h1,p,by omega,(hr 0).1 h2⟩
   ·rintro⟨h1,q,h2,h3⟩;by_cases hq:q=p
    ·subst hq;obtain⟨x,h4,h5⟩:=h.done;exact Or.inr ⟨h1,0,x,(hr 0).2 h3,h4,h5⟩
    ·exact Or.inl ⟨h1,q,by omega,h3⟩
 | j+3=>
   constructor
   ·rintro⟨i,x,q,h1,h2,h3,h4,h5,h6⟩;exact⟨i,x,p,(hr i).1 h1,h2,h3,Or.inr (Or.inr (Or.inr ⟨h3,h4.symm,q,h5,rfl,hp,h6⟩))⟩
   ·rintro⟨i,x,a,h1,h2,h3,h4⟩;rcases h4 with⟨hk,_⟩|⟨hk,_⟩|⟨hk,_⟩|⟨_,hj,q,h5,h6,h7,h8⟩
    ·omega
    ·omega
    ·omega
    ·obtain rfl:a=p:=by omega
     exact⟨i,x,q,(hr i).2 h1,h2,h3,hj.symm,h5,h8⟩
theorem Ef(h:gX D R):∀p,p<=t.size->gh D ((aU t).take p) (l8 0)=setAt D t p
 | 0,_=>by
   funext k
   refine propext ?_;show k=0↔setAt D t 0 k;match k with
   | 0=>exact⟨fun _=>rfl,fun _=>rfl⟩
   | 1=>exact⟨fun h=>by omega,fun h=>absurd h (Nat.lt_irrefl 0)⟩
   | 2=>exact⟨fun h=>by omega,fun ⟨_,q,h,_⟩=>absurd h (Nat.not_lt_zero _)⟩
   | j+3=>exact⟨fun h=>by omega,fun ⟨i,x,a,h1,h2,h3,h4⟩=>by
      rcases h4 with⟨hk,_⟩|⟨hk,_⟩|⟨hk,_⟩|⟨_,_,q,_,h6,_⟩
      ·omega
      ·omega
      ·omega
      ·omega⟩
 | p+1,hp=>by
   have hb:(aU t)[p]?=some (t[p]'(by omega)).toNat:=by
    have h2:p<t.data.size:=hp;unfold aU;rw[List.getElem?_map,Array.getElem?_toList,Array.getElem?_eq_getElem h2];rfl
   rw[List.take_add_one,hb,pC,Ef h p (by omega)];funext k
   exact propext (Lr h (by omega) k)
theorem S5(h:gX D R):FJ D (gh D (aU t) (l8 0))↔if D.whole=true then R D.fold t 0 t.size else ∃a b,a<=b/\b<=t.size/\R D.fold t a b:=by
 have e:gh D (aU t) (l8 0)=setAt D t t.size:=by
  have:=Ef (t:=t) h t.size (Nat.le_refl _);rwa [List.take_of_length_le (by rw[iR];exact Nat.le_refl _)]at this
 rw[e];have hr:=fun i=>M8 (t:=t) h (Nat.le_refl _) (e:=True) (by simp) i;have hd:FI D (setAt D t t.size) (setAt D t t.size 0) True↔Gy D t 0 t.size:=by
  constructor
  ·rintro⟨i,x,h1,h2,h3⟩;obtain rfl:=(h.only h2).1 h3;exact(hr 0).1 h1
  ·intro h1;obtain⟨x,h4,h5⟩:=h.done;exact⟨0,x,(hr 0).2 h1,h4,h5⟩
 unfold FJ;rw[hd];cases hw:D.whole with
 | true=>
   rw[if_pos rfl,wE h];constructor
   ·rintro(⟨h1,_⟩|⟨a,h1,h2,h3⟩)
    ·rw[hw]at h1;cases h1
    ·rw[h2 hw]at h3;exact h3
   ·intro h1;exact Or.inr ⟨0,Nat.zero_le _,fun _=>rfl,h1⟩
 | false=>
   rw[if_neg (by decide)];constructor
   ·rintro(⟨_,q,h1,h2⟩|h2)
    ·obtain⟨a,h3,_,h4⟩:=(wE h q).1 h2;have:=h.mY.bd h3 h4;exact⟨a,q,this.1,this.2,h4⟩
    ·obtain⟨a,h3,_,h4⟩:=(wE h _).1 h2;have:=h.mY.bd h3 h4;exact⟨a,_,this.1,this.2,h4⟩
   ·rintro⟨a,b,h1,h2,h3⟩;have g:Gy D t 0 b:=(wE h b).2 ⟨a,by omega,(fun hc=>by rw[hw]at hc;cases hc),h3⟩;by_cases hb:b=t.size
    ·rw[hb]at g;exact Or.inr g
    ·exact Or.inl ⟨hw,b,by omega,g⟩
end
def fs(x:List Nat)(fr dst a:Nat):List Nat:=(x.take (dst-a)).drop (fr-a)
theorem tf{x:List Nat}{fr dst a:Nat}(h:dst<=a):fs x fr dst a=[]:=by
 unfold fs;rw[show dst-a=0 by omega];simp
theorem Ls{x:List Nat}{fr dst a:Nat}(h:a+x.length<=fr):fs x fr dst a=[]:=by
 unfold fs;apply List.drop_eq_nil_of_le;rw[List.length_take];omega
theorem S7{fr dst a:Nat}:fs [] fr dst a=[]:=by unfold fs;simp
theorem S8{c fr dst a:Nat}(h1:a<dst)(h2:fr<=a):fs [c] fr dst a=[c]:=by
 unfold fs;obtain⟨k,hk⟩:∃k,dst-a=k+1:=⟨dst-a-1,by omega⟩;rw[hk,show fr-a=0 by omega];simp
theorem BB(x y:List Nat)(fr dst a:Nat):fs (x++y) fr dst a=fs x fr dst a++fs y fr dst (a+x.length):=by
 unfold fs;rw[List.take_append,List.drop_append,List.length_take];congr 1
 by_cases h:x.length<=dst-a
 ·rw[Nat.min_eq_right h,Nat.sub_sub,Nat.sub_sub]
 ·rw[show dst-a-x.length=0 by omega,show dst-(a+x.length)=0 by omega];simp
theorem Iy{y:List Nat}{fr dst a:Nat}:fs y fr dst (min a dst)=fs y fr dst a:=by
 by_cases h:a<=dst
 ·rw[Nat.min_eq_left h]
 ·rw[tf (by omega),tf (by omega)]
theorem BC(x:List Nat)(fr dst:Nat):fs x fr dst 0=(x.take dst).drop fr:=by unfold fs;simp
theorem Pr{x:List Nat}(h:∀c,c∈x->c<256){fr dst a:Nat}:∀c,c∈fs x fr dst a->c<256:=fun c hc=>by
 unfold fs at hc;exact h c (List.mem_of_mem_take (List.mem_of_mem_drop hc))
end Go.Proofs.YtgifhgnccmnbiabGreatDoor
namespace Go.Proofs.YtgifhgnccmnbiabGreatDoor
open Go.RowKit Go.IntWalk
structure TR (w:World)(n b:Nat)(t:TT)(rv sv:Value):Prop where
 aD:ah w b (t.cells rv sv) 86
 rules:w.ownsRow 0 221 6 rv t.rules.length (im t.rules)
 start:w.ownsRow 0 3 1 sv t.start.length (aF t.start)
 low:b<n
 Wp:∀g,rv.ownBlock=some g->g<n
 Wq:∀g,sv.ownBlock=some g->g<n
theorem Eg{w w':World}{n m base e z k:Nat}{v:Value}{xs:List Value}(h:w.ownsRow base e z v k xs)(hl:∀g,v.ownBlock=some g->g<n)(b:Below m w w')(hn:n<=m):w'.ownsRow base e z v k xs:=by
 refine⟨h.1,?_⟩;rcases h.2 with h1|⟨g,cap,cur,h1,h2,h3,h4⟩
 ·exact Or.inl h1
 ·exact Or.inr ⟨g,cap,cur,h1,h2,(b.block g (by have:=hl g (by rw[h1];rfl);omega)).trans h3,h4⟩
section
variable {w w':World}{n b:Nat}{t:TT}{rv sv:Value}
theorem TR.cell(h:TR w n b t rv sv)(j:Nat):w.cell? ⟨b,j,none⟩=(t.cells rv sv)[j]?:=h.aD.cell j
theorem TR.under(h:TR w n b t rv sv){m:Nat}(k:Below m w w')(hn:n<=m):TR w' n b t rv sv:=
 ⟨(k.block b (by have:=h.low;omega)).trans h.aD,Eg h.rules h.Wp k hn,Eg h.start h.Wq k hn,h.low,h.Wp,h.Wq⟩
theorem TR.kept(h:TR w n b t rv sv)(k:Kept [] w w'):TR w' n b t rv sv:=
 ⟨h.aD.kept k (by simp),aQ (S:=[]) h.rules k (fun _ _=>by simp),aQ (S:=[]) h.start k (fun _ _=>by simp),h.low,h.Wp,h.Wq⟩
end
theorem th{w:World}{n b:Nat}{t:TT}{rv sv:Value}(h:TR w n b t rv sv)(s:Nat)(hs:s<=100000)(hl:t.rules.length<=100000):
 Calls Tryz.prog 144 #[.pointer (some ⟨b,0,none⟩),.int .i64 (s:Int)] w fun e w'=>e=.returned (dT t.rules s).val/\Kept [] w w':=by
 have hk:Hid (∀o1,Kept [] w (w.alloc o1)):=fun o1=>(Kept.refl [] w).alloc _;have c2:w.cell? ⟨b,2,none⟩=some rv:=h.cell 2;have pU:b<w.heap.size:=h.aD.lt;by_cases h1:(s:Int)-256<0
 ·have e:dT t.rules s=⟨0,0,{}⟩:=by unfold dT;rw[if_neg (by omega)]
  rw[e];unfold RU.val RU.cells;clear h e c2;go_enter Tryz.func144,Tryz.ntmps144
  go_wp2
  refine bodyPost_ret (v:=.agg #[.int .i64 0,.int .i64 0,.int .i64 0,.int .i64 0,.int .i64 0,.int .i64 0]) (by simp[results,Tryz.results144,go_sem]) rfl ⟨rfl,hk.out _⟩
 ·obtain⟨k,rfl⟩:∃k:Nat,s=k+256:=⟨s-256,by omega⟩;have hn:Hid (∀x,t.rules[k]?=x->dT t.rules ((k+256:Nat):Int)=x.getD ⟨0,0,{}⟩):=fun x hx=>by
   unfold dT;rw[if_pos (by omega),show(((k+256:Nat):Int)-256).toNat=k by omega,hx]
  clear h1;by_cases h2:k<t.rules.length
  ·obtain⟨x,hx⟩:∃x,t.rules[k]?=some x:=⟨_,List.getElem?_eq_getElem h2⟩;rw[hn.out _ hx];obtain⟨g,cap,rfl⟩:=aO h.rules (by omega);have hgw:g<w.heap.size:=(h.rules.lt g rfl).2;have hc:∀j,j<6->w.cell? ⟨g,k*6+j,none⟩=x.cells[j]?:=fun j hj=>by
    obtain⟨u,hu⟩:∃u,x.cells[j]?=some u:=⟨_,List.getElem?_eq_getElem (by simp[RU.cells];omega)⟩;have:=h.rules.cells (g:=g) rfl (k*6+j) u (by rw[rX _ _ _ _ hx hj];exact hu);rw[cK]at this;rw[this,hu]
   obtain⟨l,r,⟨p1,p2,p3,p4⟩⟩:=x;have d0:w.cell? ⟨g,k*6,none⟩=some (.int .i64 l):=hc 0 (by omega);have d1:w.cell? ⟨g,k*6+1,none⟩=some (.int .i64 r):=hc 1 (by omega);have d2:w.cell? ⟨g,k*6+2,none⟩=some (.int .i64 p1):=hc 2 (by omega);have d3:w.cell? ⟨g,k*6+3,none⟩=some (.int .i64 p2):=hc 3 (by omega);have d4:w.cell? ⟨g,k*6+4,none⟩=some (.int .i64 p3):=hc 4 (by omega);have d5:w.cell? ⟨g,k*6+5,none⟩=some (.int .i64 p4):=hc 5 (by omega);show Calls _ _ _ _ (fun e w'=>e=.returned (.agg #[.int .i64 l,.int .i64 r,.int .i64 p1,.int .i64 p2,.int .i64 p3,.int .i64 p4])/\Kept [] w w');generalize t.rules.length=n0 at *;have lt:(k:Int)<(n0:Int):=by omega
   clear h hc hx hn;go_enter Tryz.func144,Tryz.ntmps144
   go_wp2
   refine bodyPost_ret (v:=.agg #[.int .i64 l,.int .i64 r,.int .i64 p1,.int .i64 p2,.int .i64 p3,.int .i64 p4]) (by simp[results,Tryz.results144,go_sem]) rfl ⟨rfl,hk.out _⟩
  ·rw[hn.out none (List.getElem?_eq_none (by omega))];show Calls _ _ _ _ (fun e w'=>e=.returned (.agg #[.int .i64 0,.int .i64 0,.int .i64 0,.int .i64 0,.int .i64 0,.int .i64 0])/\Kept [] w w');have hv:∃a cap,rv=.slice a t.rules.length cap:=by
    rcases h.rules.2 with⟨h3,h4⟩|⟨g,cap,_,h3,_⟩
    ·exact⟨none,0,by rw[h3,h4]⟩
    ·exact⟨_,cap,h3⟩
   obtain⟨a,cap,rfl⟩:=hv;generalize t.rules.length=n0 at *;have lt:¬(k:Int)<(n0:Int):=by omega
   clear h hn h2;go_enter Tryz.func144,Tryz.ntmps144
   go_wp2
   refine bodyPost_ret (v:=.agg #[.int .i64 0,.int .i64 0,.int .i64 0,.int .i64 0,.int .i64 0,.int .i64 0]) (by simp[results,Tryz.results144,go_sem]) rfl ⟨rfl,hk.out _⟩
theorem Ps{w:World}{n b:Nat}{t:TT}{rv sv:Value}(h:TR w n b t rv sv)(s:Nat)(hs:s<=100000)(hl:t.rules.length<=100000):
 Calls Tryz.prog 147 #[.pointer (some ⟨b,0,none⟩),.int .i64 (s:Int)] w fun e w'=>e=.returned (partAt t.rules s).val/\Kept [] w w':=by
 have hk:Kept [] w (w.alloc (.cells ph 84)):=(Kept.refl [] w).alloc _;have aA:Hid (∀w1,Kept [] (w.alloc (.cells ph 84)) w1->ah w1 w.heap.size ph 84/\(∀u0 u1 u2 u3,ah ((((w1.setCell ⟨w.heap.size,0,none⟩ u0).setCell ⟨w.heap.size,1,none⟩ u1).setCell ⟨w.heap.size,2,none⟩ u2).setCell ⟨w.heap.size,3,none⟩ u3) w.heap.size #[u0,u1,u2,u3] 84)/\∀u0 u1 u2 u3,Kept [] w ((((w1.setCell ⟨w.heap.size,0,none⟩ u0).setCell ⟨w.heap.size,1,none⟩ u1).setCell ⟨w.heap.size,2,none⟩ u2).setCell ⟨w.heap.size,3,none⟩ u3)):=fun w1 k1=>
  ⟨(ah.new w _ _).kept k1 (by simp),fun u0 u1 u2 u3=>So ((ah.new w _ _).kept k1 (by simp)) u0 u1 u2 u3,fun u0 u1 u2 u3=>Xx (hk.trans k1) (Nat.le_refl _) u0 u1 u2 u3⟩
 by_cases h1:(s:Int)<256
 ·have e:partAt t.rules s=tW s:=by unfold partAt;rw[if_pos (by omega)]
  rw[e];have hb:Hid (∀w,Calls _ _ _ w _):=fun w=>rW s w;clear e h hk;generalize tW s=p at *;obtain⟨p1,p2,p3,p4⟩:=p;unfold PT.val PT.arr at hb ⊢;unfold ph at aA;simp only[]at hb ⊢;go_enter Tryz.func147,Tryz.ntmps147
  go_wp2_with fail
  refine(hb.out _).mono ?_;rintro e w1 ⟨rfl,k1⟩;obtain⟨ck,hS,hK⟩:=aA.out _ k1;have hS:Hid (∀u0 u1 u2 u3,_):=hS;have hK:Hid (∀u0 u1 u2 u3,_):=hK;have c0:w1.cell? ⟨w.heap.size,0,none⟩=some (.int .i64 0):=ck.cell 0;have c1:w1.cell? ⟨w.heap.size,1,none⟩=some (.int .i64 0):=ck.cell 1;have c2:w1.cell? ⟨w.heap.size,2,none⟩=some (.int .i64 0):=ck.cell 2;have c3:w1.cell? ⟨w.heap.size,3,none⟩=some (.int .i64 0):=ck.cell 3;have f0:w1.frozen? ⟨w.heap.size,0,none⟩=false:=ck.frozen 0;have f1:w1.frozen? ⟨w.heap.size,1,none⟩=false:=ck.frozen 1;have f2:w1.frozen? ⟨w.heap.size,2,none⟩=false:=ck.frozen 2;have f3:w1.frozen? ⟨w.heap.size,3,none⟩=false:=ck.frozen 3;clear ck k1 hb aA;go_wp2
  exact bodyPost_ret (v:=.agg #[.int .i64 p1,.int .i64 p2,.int .i64 p3,.int .i64 p4]) (kK Tryz.results147 _ _ w.heap.size ⟨p1,p2,p3,p4⟩ rfl (hS.out _ _ _ _)) rfl ⟨rfl,hK.out _ _ _ _⟩
 ·have e:(dT t.rules s).pt=partAt t.rules s:=by
   unfold dT partAt;rw[if_pos (by omega),if_neg (by omega),show((s:Int)-256).toNat=s-256 by omega];cases t.rules[s-256]? <;> rfl
  have hr:Hid (Calls _ _ _ (w.alloc (.cells ph 84)) _):=th (h.kept hk) s hs hl;rw[<-e];clear e h hk;generalize dT t.rules (s:Int)=x at *;obtain⟨l,r,⟨p1,p2,p3,p4⟩⟩:=x;unfold RU.val RU.cells at hr;unfold PT.val PT.arr;unfold ph at aA hr;simp only[]at hr ⊢;have hfp:=Bb;go_enter Tryz.func147,Tryz.ntmps147
  go_wp2_with fail
  refine hr.out.mono ?_;rintro e w1 ⟨rfl,k1⟩;obtain⟨ck,hS,hK⟩:=aA.out _ k1;have hS:Hid (∀u0 u1 u2 u3,_):=hS;have hK:Hid (∀u0 u1 u2 u3,_):=hK;have c0:w1.cell? ⟨w.heap.size,0,none⟩=some (.int .i64 0):=ck.cell 0;have c1:w1.cell? ⟨w.heap.size,1,none⟩=some (.int .i64 0):=ck.cell 1;have c2:w1.cell? ⟨w.heap.size,2,none⟩=some (.int .i64 0):=ck.cell 2;have c3:w1.cell? ⟨w.heap.size,3,none⟩=some (.int .i64 0):=ck.cell 3;have f0:w1.frozen? ⟨w.heap.size,0,none⟩=false:=ck.frozen 0;have f1:w1.frozen? ⟨w.heap.size,1,none⟩=false:=ck.frozen 1;have f2:w1.frozen? ⟨w.heap.size,2,none⟩=false:=ck.frozen 2;have f3:w1.frozen? ⟨w.heap.size,3,none⟩=false:=ck.frozen 3;clear ck k1 hr aA;go_wp2
  exact bodyPost_ret (v:=.agg #[.int .i64 p1,.int .i64 p2,.int .i64 p3,.int .i64 p4]) (kK Tryz.results147 _ _ w.heap.size ⟨p1,p2,p3,p4⟩ rfl (hS.out _ _ _ _)) rfl ⟨rfl,hK.out _ _ _ _⟩
end Go.Proofs.YtgifhgnccmnbiabGreatDoor
