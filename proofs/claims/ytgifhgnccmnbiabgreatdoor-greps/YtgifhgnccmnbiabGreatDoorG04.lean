/- Part of the proof. -/
import Derived.Test.YtgifhgnccmnbiabGreatDoorG03
import Derived.Test.YtgifhgnccmnbiabGreatDoorG02
set_option linter.unusedVariables false
set_option linter.unusedSimpArgs false
set_option maxHeartbeats 4000000
set_option maxRecDepth 100000
namespace Go.Proofs.YtgifhgnccmnbiabGreatDoor
open Go.RowKit Go.IntWalk
theorem Ds(w:World)(base:Nat):cj w base (none,0,0) []:=World.ownsRow_nil w _ _ _
theorem add_plain(b:Nat)(t:ByteArray)(s:RS)(ns:List AN)(v:Value)(xs:List IV)(kind left right least most size:Int)(w:World)(h:NV w b t s ns v xs)(hl:ns.length<=1000)(hn:0<=size)(hn':size<=1000):
 Calls Tryz.prog 196 #[.pointer (some ⟨b,0,none⟩),.agg #[.int .i64 kind,.slice none 0 0,.bool false,.int .i64 left,.int .i64 right,.int .i64 least,.int .i64 most,.int .i64 size]] w fun e w'=>
  e=.returned (.int .i64 ((bL { kind:=kind,left:=left,right:=right,least:=least,most:=most,size:=size} (s,ns)).1:Int))/\NS w' b t (bL { kind:=kind,left:=left,right:=right,least:=least,most:=most,size:=size} (s,ns)).2/\Below b w w':=
 MB b t s ns v xs { kind:=kind,left:=left,right:=right,least:=least,most:=most,size:=size} (none,0,0) w h hl (Ds _ _) hn hn'
theorem sM(b:Nat)(t:ByteArray)(s:RS)(ns:List AN)(v:Value)(xs:List IV)(ao:Option Addr)(il ic:Nat)(cM:List (Int×Int))(neg:Bool)(w:World)(h:NV w b t s ns v xs)(hl:ns.length<=1000)(hx:cj w (b+1) (ao,il,ic) cM):
 Calls Tryz.prog 196 #[.pointer (some ⟨b,0,none⟩),.agg #[.int .i64 1,.slice ao il ic,.bool neg,.int .i64 0,.int .i64 0,.int .i64 0,.int .i64 0,.int .i64 1]] w fun e w'=>
  e=.returned (.int .i64 ((bL { kind:=1,cM:=cM,neg:=neg,size:=1} (s,ns)).1:Int))/\NS w' b t (bL { kind:=1,cM:=cM,neg:=neg,size:=1} (s,ns)).2/\Below b w w':=
 MB b t s ns v xs { kind:=1,cM:=cM,neg:=neg,size:=1} (ao,il,ic) w h hl hx (by show(0:Int)<=1;omega) (by show(1:Int)<=1000;omega)
theorem Hb(b l r:Nat)(kind:Int)(t:ByteArray)(s:RS)(ns:List AN)(v:Value)(xs:List IV)(w:World)(h:NV w b t s ns v xs)(hl:l<ns.length)(hr:r<ns.length)(hm:ns.length<=1000):
 Calls Tryz.prog 170 #[.pointer (some ⟨b,0,none⟩),.int .i64 kind,.int .i64 (l:Int),.int .i64 (r:Int)] w fun e w'=>
  e=.returned (.int .i64 ((bk kind l r (s,ns)).1:Int))/\NS w' b t (bk kind l r (s,ns)).2/\Below b w w':=by
 have h1:=sC h.sized l;have h2:=sC h.sized r;go_enter Tryz.func170,Tryz.ntmps170
 go_wp2_with fail
 refine(kP b l t s ns v xs _ h hl hm).mono ?_;rintro e w1 ⟨rfl,rfl⟩;go_wp2_with fail
 refine(kP b r t s ns v xs _ h hr hm).mono ?_;rintro e w1 ⟨rfl,rfl⟩;go_wp2_with fail
 refine(add_plain b t s ns v xs kind l r 0 0 (au ns l+au ns r) _ h hm (by omega) (by omega)).mono ?_;rintro e w1 ⟨rfl,hs,hb⟩;go_wp2
 go_ret;exact⟨rfl,hs,hb⟩
theorem Od(b p:Nat)(least most:Int)(t:ByteArray)(s:RS)(ns:List AN)(v:Value)(xs:List IV)(w:World)(h:NV w b t s ns v xs)(hp:p<ns.length)(hm:ns.length<=1000)
 (l0:0<=least) (l9:least<=9) (m0:-1<=most) (m9:most<=9):
 Calls Tryz.prog 208 #[.pointer (some ⟨b,0,none⟩),.int .i64 (p:Int),.int .i64 least,.int .i64 most] w fun e w'=>
  e=.returned (.int .i64 ((ch p (least,most) (s,ns)).1:Int))/\NS w' b t (ch p (least,most) (s,ns)).2/\Below b w w':=by
 have h1:=sC h.sized p;have bd:∀k:Int,0<=k->k<=9->0<=au ns p*k/\au ns p*k<=549:=fun k a c=>by
  have:=Int.mul_nonneg h1.1 a;have:=Int.mul_le_mul h1.2 c a (by omega:(0:Int)<=61);omega
 have core:∀(tm:Int),aY least most=tm->Calls Tryz.prog 196 #[.pointer (some ⟨b,0,none⟩),.agg #[.int .i64 6,.slice none 0 0,.bool false,.int .i64 p,.int .i64 0,.int .i64 least,.int .i64 most,.int .i64 (au ns p*tm)]] w fun e w'=>
  e=.returned (.int .i64 ((ch p (least,most) (s,ns)).1:Int))/\NS w' b t (ch p (least,most) (s,ns)).2/\Below b w w':=by
  intro tm ht;have e:ch p (least,most) (s,ns)=bL { kind:=6,left:=p,least:=least,most:=most,size:=au ns p*tm} (s,ns):=by simp only[ch,ht]
  rw[e];have:0<=tm/\tm<=9:=by
   rw[<-ht];unfold aY;repeat' split
   all_goals omega
  have:=bd tm this.1 this.2;exact add_plain b t s ns v xs 6 p 0 least most (au ns p*tm) w h hm (by omega) (by omega)
 by_cases he:most = -1
 ·subst he;by_cases hl:least<1
  ·have e:aY least (-1)=1:=by unfold aY;rw[if_pos rfl,if_pos hl]
   have hb:=bd 1 (by omega) (by omega);have core:=core 1 e;clear e bd;rw[Int.mul_one]at core;go_enter Tryz.func208,Tryz.ntmps208
   go_wp2_with fail
   refine(kP b p t s ns v xs _ h hp hm).mono ?_;rintro e w1 ⟨rfl,rfl⟩;go_wp2_with fail
   refine core.mono ?_;rintro e w1 ⟨rfl,hs,hb⟩;go_wp2
   go_ret;exact⟨rfl,hs,hb⟩
  ·have e:aY least (-1)=least:=by unfold aY;rw[if_pos rfl,if_neg hl]
   have hb:=bd least (by omega) (by omega);have core:=core _ e;clear e bd;go_enter Tryz.func208,Tryz.ntmps208
   go_wp2_with fail
   refine(kP b p t s ns v xs _ h hp hm).mono ?_;rintro e w1 ⟨rfl,rfl⟩;go_wp2_with fail
   refine core.mono ?_;rintro e w1 ⟨rfl,hs,hb⟩;go_wp2
   go_ret;exact⟨rfl,hs,hb⟩
 ·have oX:(most==-1)=false:=by simpa using he
  by_cases hl:most<1
  ·have e:aY least most=1:=by unfold aY;rw[if_neg he,if_pos hl]
   have hb:=bd 1 (by omega) (by omega);have core:=core 1 e;clear e bd;rw[Int.mul_one]at core;go_enter Tryz.func208,Tryz.ntmps208
   go_wp2_with fail
   refine(kP b p t s ns v xs _ h hp hm).mono ?_;rintro e w1 ⟨rfl,rfl⟩;go_wp2_with fail
   refine core.mono ?_;rintro e w1 ⟨rfl,hs,hb⟩;go_wp2
   go_ret;exact⟨rfl,hs,hb⟩
  ·have e:aY least most=most:=by unfold aY;rw[if_neg he,if_neg hl]
   have hb:=bd most (by omega) (by omega);have core:=core _ e;clear e bd;go_enter Tryz.func208,Tryz.ntmps208
   go_wp2_with fail
   refine(kP b p t s ns v xs _ h hp hm).mono ?_;rintro e w1 ⟨rfl,rfl⟩;go_wp2_with fail
   refine core.mono ?_;rintro e w1 ⟨rfl,hs,hb⟩;go_wp2
   go_ret;exact⟨rfl,hs,hb⟩
theorem NV.alloc{w:World}{b:Nat}{t:ByteArray}{s:RS}{ns:List AN}{v:Value}{xs:List IV}(h:NV w b t s ns v xs)(o:Obj):NV (w.alloc o) b t s ns v xs:=
 ⟨h.rd.kept (Kept.alloc (Kept.refl [] w) o) (by simp),h.row.alloc o,h.len,fun i n x a c=>World.ownsRow.alloc (h.items i n x a c) o,h.sized⟩
theorem Oe(w:World)(base:Nat)(lo hi:Int)(k:Nat)(hk:k=w.heap.size)(hb:base<=w.heap.size):
 cj (w.alloc (.cells #[.int .i64 lo,.int .i64 hi] 270)) base (some ⟨k,0,none⟩,1,1) [(lo,hi)]:=by
 subst hk;exact⟨rfl,.inr ⟨w.heap.size,1,#[.int .i64 lo,.int .i64 hi],rfl,hb,heap_alloc_new w _,Nat.le_refl _,by unfold maxLen;omega,rfl,rfl⟩⟩
theorem sN(b:Nat)(lo hi:Int)(t:ByteArray)(s:RS)(ns:List AN)(v:Value)(xs:List IV)(w:World)(h:NV w b t s ns v xs)(hm:ns.length<=1000):
 Calls Tryz.prog 214 #[.pointer (some ⟨b,0,none⟩),.agg #[.int .i64 lo,.int .i64 hi]] w fun e w'=>
  e=.returned (.int .i64 ((jR lo hi (s,ns)).1:Int))/\NS w' b t (jR lo hi (s,ns)).2/\Below b w w':=by
 have hb:=h.rd.aD.lt;go_enter Tryz.func214,Tryz.ntmps214
 go_wp2_with fail
 refine(sM b t s ns v xs (some ⟨w.heap.size+1,0,none⟩) 1 1 [(lo,hi)] false _ ((h.alloc _).alloc _) hm (Oe _ _ _ _ _ (by simp) (by simp;omega))).mono ?_;rintro e w1 ⟨rfl,hs,oV⟩;go_wp2
 go_ret;exact⟨rfl,hs,(((Below.refl _ _).alloc (by omega) _).alloc (by simp;omega) _).trans oV⟩
theorem Rr:(Tryz.prog.info? 270).map (fun i=>(i.zero,i.size,i.bytes))=some (some (.agg #[.int .i64 0,.int .i64 0]),2,16):=by kernel_rfl
def lenOf:Value->Nat|.slice _ n _=>n|_=>0
theorem Al{w:World}{base yt:Nat}{e:TypeId}{size:Nat}{v:Value}{n:Nat}{xs:List Value}(h:w.ownsRow base e size v n xs)(hb:yt<=base):w.ownsRow yt e size v n xs:=by
 refine⟨h.1,?_⟩;rcases h.2 with h2|⟨g,c,u,h3,h4,r⟩
 ·exact Or.inl h2
 ·exact Or.inr ⟨g,c,u,h3,Nat.le_trans hb h4,r⟩
theorem cj.scan{w w':World}{b B:Nat}{x:IV}{cM:List (Int×Int)}(h:cj w B x cM)(k:Kept [b] w w')(hB:b<B):cj w' B x cM:=by
 have gr:w.grownBy w' (some b):=⟨k.os,k.tape,k.output,k.size,fun i hi hn=>k.block i hi (by simpa using hn)⟩;refine World.ownsRow.kept h gr ?_;cases hv:(fF x).ownBlock with
 | none=>exact Or.inl rfl
 | some g=>refine Or.inr ?_;have:=re h hv;simp;omega
def Am(ns:List AN)(xs:List IV)(B:Nat):Prop:=∀(i:Nat) (n:AN) (y:IV),ns[i]?=some n->xs[i]?=some y->∀g,(fF y).ownBlock=some g->g<B
theorem NV.Ac{w:World}{b:Nat}{t:ByteArray}{s:RS}{ns:List AN}{v:Value}{xs:List IV}(h:NV w b t s ns v xs):Am ns xs w.heap.size:=
 fun i n y hn hy g hg=>(World.ownsRow.lt (h.items i n y hn hy) g hg).2
theorem Kg{b B:Nat}{t:ByteArray}{s:RS}{ns:List AN}{v:Value}{xs:List IV}{w w1:World}{x:IV}{cM:List (Int×Int)}{y:Int×Int}(h:NV w b t s ns v xs)(hx:cj w B x cM)
 (hB:b<B) (ho:Am ns xs B)
 (v':Value) (aG:w1.ownsRow B 270 2 v' (cM.length+1) (gq cM++[.int .i64 y.1,.int .i64 y.2])) (ay:w.grownBy w1 (fF x).ownBlock):
 ∃ao il ic,v'=.slice ao il ic/\cj w1 B (ao,il,ic) (cM++[y])/\NV w1 b t s ns v xs/\Below b w w1/\il=cM.length+1:=by
 obtain⟨g,cap,rfl⟩:=aO aG (by omega);have jK:∀k,(fF x).ownBlock=some k->B<=k:=fun k hk=>re hx hk;refine⟨_,_,_,rfl,?_,⟨⟨(ay.block b h.rd.aD.lt ?_).trans h.rd.aD,h.rd.fits,h.rd.small⟩,h.row.kept ay (pV h.row hx (by decide)),h.len,fun i n z hn hz=>?_,h.sized⟩,?_,rfl⟩
 ·unfold cj;rw[qZ,List.length_append];exact aG
 ·intro hc;have:=jK b hc.symm;omega
 ·refine World.ownsRow.kept (h.items i n z hn hz) ay ?_;cases hv:(fF z).ownBlock with
  | none=>exact Or.inl rfl
  | some g=>
    refine Or.inr (fun hc=>?_);have h1:=ho i n z hn hz g hv;have h2:=jK g hc.symm;omega
 ·exact⟨ay.os,ay.tape,ay.output,ay.size,fun k hk=>ay.block k (by have:=h.rd.aD.lt;omega) (fun hc=>by have:=jK k hc.symm;omega)⟩
theorem Rs(b:Nat)(t:ByteArray)(s:RS)(ns:List AN)(v:Value)(xs:List IV)(w:World)(h:NV w b t s ns v xs)(hm:ns.length<=1000):
 Calls Tryz.prog 213 #[.pointer (some ⟨b,0,none⟩)] w fun e w'=>
  e=.returned (.int .i64 ((nK t (s,ns)).1:Int))/\NS w' b t (nK t (s,ns)).2/\Below b w w':=by
 have hb:=h.rd.aD.lt;obtain⟨i0,kQ,jh,dP,dB⟩:=info_parts Rr;go_enter Tryz.func213,Tryz.ntmps213
 go_wp2_with fail
 refine(cE b 94 t s v _ h.rd (by omega) (by omega)).mono ?_;rintro e w1 ⟨rfl,h1,k1⟩;have n1:=h.scan h1 k1;have b1:Below b w w1:=k1.below (by omega) (by simp);clear k1 h1;have hB:b<w1.heap.size:=n1.rd.aD.lt;obtain⟨B,hBe⟩:∃B,B=w1.heap.size:=⟨_,rfl⟩;have ho:Am ns xs B:=by rw[hBe];exact n1.Ac
 have hBw:B<=w1.heap.size:=by omega
 rw[<-hBe]at hB;clear hBe;have iZ:Hid (t.size<=40):=h.rd.small;go_wp2_with fail
 go_loopw [4] (fun it wr=>∃cM ao il ic s',it=.slice ao il ic/\cj wr B (ao,il,ic) cM/\B<=wr.heap.size/\NV wr b t s' ns v xs/\Below b w wr/\fe t s' cM=fe t (ak t 94 s).2 []/\il=cM.length/\cM.length<=s'.1) (fun it _=>41-lenOf it)
 case atStart=>exact⟨[],none,0,0,_,rfl,Ds _ _,hBw,n1,b1,rfl,rfl,Nat.zero_le _⟩
 case round=>
  obtain⟨cM,ao,il,ic,s',rfl,hi,hBr,hn,oV,Hc,rfl,hle⟩:=hrel;have dD:=hn.rd.fits;have hbr:=hn.rd.aD.lt;have Hc:Hid (_=_):=Hc;by_cases hq:lL t s'=true
  ·have bO:=mH hq;have lN:=sD bO;have iw:Hid (_=_):=xe (acc:=cM) hq;go_wp2_with fail
   refine(zY b t s' v _ hn.rd).mono ?_;rintro e w2 ⟨rfl,rfl⟩;go_wp2_with fail
   refine(Q' b t s' v _ hn.rd).mono ?_;rintro e w2 ⟨rfl,h2,k2⟩;have n2:=hn.scan h2 k2;have i2:=hi.scan k2 hB;have lE:B<=w2.heap.size:=Nat.le_trans hBr k2.size;have b2:=oV.trans (k2.below (by omega) (by simp));go_wp2_with (at_builtin;refine wpList_append_own _ rfl (.tmp 13) (.tmp 15) 162 rfl B 270 i0 _ 2 16 Tryz.underlying162 kQ jh dP dB rfl (by decide) (fF (ao,cM.length,ic)) cM.length (gq cM) rfl ?own ⟨w2.heap.size+1,0,none⟩ 1 1 [.int .i64 (dn t s').1.1,.int .i64 (dn t s').1.2] rfl rfl ?c1 ?c2 ?b1 ?b2 ?b3 ?k)
   case own=>exact(World.ownsRow.alloc i2 _).alloc _
   case c1=>exact bM _ _ _ _ (by simp)
   case c2=>simp[Value.oneCell']
   case b1=>unfold maxLen;have:=iZ.out;simp only[Fits]at dD;omega
   case b2=>have:=iZ.out;simp only[Fits]at dD;omega
   case b3=>simp;omega
   case k=>
    intro v' w3 aG ay hnil;obtain⟨ao',il',ic',rfl,i3,n3,b3,rfl⟩:=Kg (x:=(ao,cM.length,ic)) ((n2.alloc _).alloc _) (World.ownsRow.alloc (World.ownsRow.alloc i2 _) _) hB ho v' aG ay;go_wp2
    refine⟨⟨cM++[(dn t s').1],ao',cM.length+1,ic',(dn t s').2,rfl,i3,by have:=ay.size;simp at this;omega,n3,b2.trans ((((Below.refl _ _).alloc (by have:=n2.rd.aD.lt;omega) _).alloc (by have:=n2.rd.aD.lt;simp;omega) _).trans b3),iw.out.symm.trans Hc.out,by simp,by simp;omega⟩,?_⟩;have:=iZ.out;simp only[lenOf];omega
  ·have hf:lL t s'=false:=by simpa using hq
   have cY:Hid (_=_):=mI (acc:=cM) hf;clear hq;go_wp2_with fail
   refine(zY b t s' v _ hn.rd).mono ?_;rintro e w2 ⟨rfl,rfl⟩;have hI:Hid (fe t (ak t 94 s).2 []=(cM,s')):=Hc.out.symm.trans cY.out;clear Hc cY;have hL:cM.length<=40:=by have:=iZ.out;simp only[Fits]at dD;omega
   have fin:∀(s2:RS),(if (ak t 93 s').1=false\/cM.length=0 then cN t else (ak t 93 s').2)=s2->Hid (nK t (s,ns)=bL { kind:=1,cM:=cM,neg:=(ak t 94 s).1,size:=1} (s2,ns)):=by
    intro s2 e;show nK t (s,ns)=_;unfold nK;simp only[];rw[hI.out];simp only[];rw[e]
   by_cases hc:(ak t 93 s').1=false
   ·have e:=fin _ (if_pos (Or.inl hc));clear fin hI;go_wp2_with fail
    refine(cE b 93 t s' v _ hn.rd (by omega) (by omega)).mono ?_;rintro e1 w3 ⟨rfl,h3,k3⟩;have n3:=hn.scan h3 k3;have i3:=hi.scan k3 hB;have b3:=oV.trans (k3.below (by omega) (by simp));go_wp2_with fail
    refine(fY b t _ v _ h3).mono ?_;rintro e1 w4 ⟨rfl,h4,k4⟩;have n4:=n3.scan h4 k4;have i4:=i3.scan k4 hB;have b4:=b3.trans (k4.below (by have:=h3.aD.lt;omega) (by simp));go_wp2_with fail
    refine(sM b t _ ns v xs ao cM.length ic cM _ _ n4 hm (Al i4 hB)).mono ?_;rw[<-e.out];rintro e1 w5 ⟨rfl,h5,b5⟩;go_wp2
    go_ret;exact⟨rfl,h5,b4.trans b5⟩
   have hc:(ak t 93 s').1=true:=by simpa using hc
   by_cases hz:cM.length=0
   ·have e:=fin _ (if_pos (Or.inr hz));clear fin hI;obtain rfl:=List.length_eq_zero_iff.1 hz;clear hz;go_wp2_with fail
    refine(cE b 93 t s' v _ hn.rd (by omega) (by omega)).mono ?_;rintro e1 w3 ⟨rfl,h3,k3⟩;have n3:=hn.scan h3 k3;have i3:=hi.scan k3 hB;have b3:=oV.trans (k3.below (by omega) (by simp));go_wp2_with fail
    refine(fY b t _ v _ h3).mono ?_;rintro e1 w4 ⟨rfl,h4,k4⟩;have n4:=n3.scan h4 k4;have i4:=i3.scan k4 hB;have b4:=b3.trans (k4.below (by have:=h3.aD.lt;omega) (by simp));go_wp2_with fail
    refine(sM b t _ ns v xs ao 0 ic [] _ _ n4 hm (Al i4 hB)).mono ?_;rw[<-e.out];rintro e1 w5 ⟨rfl,h5,b5⟩;go_wp2
    go_ret;exact⟨rfl,h5,b4.trans b5⟩
   ·have e:=fin _ (if_neg (by rw[hc];simpa using hz));clear fin hI;have hz':(((cM.length:Nat):Int)==0)=false:=by simpa using hz
    clear hz;go_wp2_with fail
    refine(cE b 93 t s' v _ hn.rd (by omega) (by omega)).mono ?_;rintro e1 w3 ⟨rfl,h3,k3⟩;have n3:=hn.scan h3 k3;have i3:=hi.scan k3 hB;have b3:=oV.trans (k3.below (by omega) (by simp));go_wp2_with fail
    refine(sM b t _ ns v xs ao cM.length ic cM _ _ n3 hm (Al i3 hB)).mono ?_;rw[<-e.out];rintro e1 w5 ⟨rfl,h5,b5⟩;go_wp2
    go_ret;exact⟨rfl,h5,b3.trans b5⟩
structure Out (t:ByteArray)(tag b:Nat)(w w':World)(st:PS)(k:Nat)(r:Nat×PS):Prop where
 ev:Ev t tag 0 st r
 ns:NS w' b t r.2
 JG:Below b w w'
 idx:r.1<r.2.2.length
 grow:st.2.length<r.2.2.length
 ge:st.1.1<=r.2.1.1
 ou:r.2.2.length+2*st.1.1+k<=st.2.length+2*r.2.1.1+1
theorem pX{t:ByteArray}{b:Nat}{w w':World}{s s':RS}{ns:List AN}{n:AN}(ev:Ev t 3 0 (s,ns) (bL n (s',ns)))(h:NS w' b t (bL n (s',ns)).2)(hb:Below b w w')(hs:s.1<s'.1):
 Out t 3 b w w' (s,ns) 2 (bL n (s',ns)):=
 ⟨ev,h,hb,by simp[bL],by simp[bL],by simp[bL];omega,by simp[bL];omega⟩
def Hd(t:ByteArray)(m:Nat):Prop:=
 ∀(b:Nat) (s:RS) (ns:List AN) (v:Value) (xs:List IV) (w:World),t.size-s.1<m->NV w b t s ns v xs->ns.length<=500+2*s.1 ->
  Calls Tryz.prog 136 #[.pointer (some ⟨b,0,none⟩)] w fun e w'=>∃r:Nat×PS,e=.returned (.int .i64 (r.1:Int))/\Out t 0 b w w' (s,ns) 0 r
def jM(t:ByteArray)(b:Nat)(s:RS)(ns:List AN)(w:World):Prop:=
 Calls Tryz.prog 205 #[.pointer (some ⟨b,0,none⟩)] w fun e w'=>∃r:Nat×PS,e=.returned (.int .i64 (r.1:Int))/\Out t 3 b w w' (s,ns) 2 r
section
variable {t:ByteArray}{b:Nat}{s:RS}{ns:List AN}{v:Value}{xs:List IV}{w:World}
theorem front(h:NV w b t s ns v xs)(hp:s.1<t.size):s.1<(aw t s).2.1/\b<w.heap.size:=⟨nH hp,h.rd.aD.lt⟩
theorem Rt(h:NV w b t s ns v xs)(hm:ns.length<=1000)(hp:s.1<t.size)(hc:(aw t s).1=46):jM t b s ns w:=by
 obtain⟨lN,pU⟩:=front h hp;have ev:Ev t 3 0 (s,ns) (jR 0 255 ((aw t s).2,ns)):=by
  have e:=Ev.plain (t:=t) (st:=(s,ns)) (by rw[hc];decide) (by rw[hc];decide);simp only[hc,de]at e;exact e
 unfold jM;go_enter Tryz.func205,Tryz.ntmps205
 go_wp2_with fail
 refine(cD b t s v _ h.rd).mono ?_;rintro e w1 ⟨rfl,h1,k1⟩;have n1:=h.scan h1 k1;have b1:Below b w w1:=k1.below (by omega) (by simp);go_wp2_with fail
 refine(sN b 0 255 t _ ns v xs _ n1 hm).mono ?_;rintro e w2 ⟨rfl,h2,b2⟩;go_wp2
 go_ret;exact⟨_,rfl,pX ev h2 (b1.trans b2) lN⟩
theorem Kh(h:NV w b t s ns v xs)(hm:ns.length<=1000)(hp:s.1<t.size)(hc:(aw t s).1=94):jM t b s ns w:=by
 obtain⟨lN,pU⟩:=front h hp;have ev:Ev t 3 0 (s,ns) (bL { kind:=2,size:=1} ((aw t s).2,ns)):=by
  have e:=Ev.plain (t:=t) (st:=(s,ns)) (by rw[hc];decide) (by rw[hc];decide);simp only[hc,de]at e;exact e
 unfold jM;go_enter Tryz.func205,Tryz.ntmps205
 go_wp2_with fail
 refine(cD b t s v _ h.rd).mono ?_;rintro e w1 ⟨rfl,h1,k1⟩;have n1:=h.scan h1 k1;have b1:Below b w w1:=k1.below (by omega) (by simp);go_wp2_with fail
 refine(add_plain b t _ ns v xs 2 0 0 0 0 1 _ n1 hm (by omega) (by omega)).mono ?_;rintro e w2 ⟨rfl,h2,b2⟩;go_wp2
 go_ret;exact⟨_,rfl,pX ev h2 (b1.trans b2) lN⟩
theorem Ru(h:NV w b t s ns v xs)(hm:ns.length<=1000)(hp:s.1<t.size)(hc:(aw t s).1=36):jM t b s ns w:=by
 obtain⟨lN,pU⟩:=front h hp;have ev:Ev t 3 0 (s,ns) (bL { kind:=3,size:=1} ((aw t s).2,ns)):=by
  have e:=Ev.plain (t:=t) (st:=(s,ns)) (by rw[hc];decide) (by rw[hc];decide);simp only[hc,de]at e;exact e
 unfold jM;go_enter Tryz.func205,Tryz.ntmps205
 go_wp2_with fail
 refine(cD b t s v _ h.rd).mono ?_;rintro e w1 ⟨rfl,h1,k1⟩;have n1:=h.scan h1 k1;have b1:Below b w w1:=k1.below (by omega) (by simp);go_wp2_with fail
 refine(add_plain b t _ ns v xs 3 0 0 0 0 1 _ n1 hm (by omega) (by omega)).mono ?_;rintro e w2 ⟨rfl,h2,b2⟩;go_wp2
 go_ret;exact⟨_,rfl,pX ev h2 (b1.trans b2) lN⟩
theorem Rv(h:NV w b t s ns v xs)(hm:ns.length<=1000)(hp:s.1<t.size)(hc:(aw t s).1=92):jM t b s ns w:=by
 obtain⟨lN,pU⟩:=front h hp;have hgt2:=kD (t:=t) (s:=(aw t s).2) (bU (Nat.le_of_lt hp));have ev:Ev t 3 0 (s,ns) (jR (aw t (aw t s).2).1 (aw t (aw t s).2).1 ((aw t (aw t s).2).2,ns)):=by
  have e:=Ev.plain (t:=t) (st:=(s,ns)) (by rw[hc];decide) (by rw[hc];decide);simp only[hc,de]at e;exact e
 unfold jM;go_enter Tryz.func205,Tryz.ntmps205
 go_wp2_with fail
 refine(cD b t s v _ h.rd).mono ?_;rintro e w1 ⟨rfl,h1,k1⟩;have n1:=h.scan h1 k1;have b1:Below b w w1:=k1.below (by omega) (by simp);go_wp2_with fail
 refine(cD b t _ v _ h1).mono ?_;rintro e w2 ⟨rfl,h2,k2⟩;have n2:=n1.scan h2 k2;have b2:Below b w w2:=b1.trans (k2.below (by have:=h1.aD.lt;omega) (by simp));go_wp2_with fail
 refine(sN b _ _ t _ ns v xs _ n2 hm).mono ?_;rintro e w3 ⟨rfl,h3,b3⟩;go_wp2
 go_ret;exact⟨_,rfl,pX ev h3 (b2.trans b3) (by omega)⟩
theorem Of(h:NV w b t s ns v xs)(hm:ns.length<=1000)(hp:s.1<t.size)(hc:(aw t s).1=91):jM t b s ns w:=by
 obtain⟨lN,pU⟩:=front h hp;have ev:Ev t 3 0 (s,ns) (nK t ((aw t s).2,ns)):=Ev.list (st:=(s,ns)) hc;unfold jM;go_enter Tryz.func205,Tryz.ntmps205
 go_wp2_with fail
 refine(cD b t s v _ h.rd).mono ?_;rintro e w1 ⟨rfl,h1,k1⟩;have n1:=h.scan h1 k1;have b1:Below b w w1:=k1.below (by omega) (by simp);go_wp2_with fail
 refine(Rs b t _ ns v xs _ n1 hm).mono ?_;rintro e w2 ⟨rfl,h2,b2⟩;go_wp2
 go_ret;have hl:(aw t s).2.1<=(if (ak t 93 (fe t (ak t 94 (aw t s).2).2 []).2).1=false\/(fe t (ak t 94 (aw t s).2).2 []).1.length=0 then cN t else (ak t 93 (fe t (ak t 94 (aw t s).2).2 []).2).2).1:=by
  split
  ·exact h1.fits
  ·exact Nat.le_trans cr (Nat.le_trans (De (bh (by omega) h1.fits)) cr)
 exact⟨_,rfl,pX ev h2 (b1.trans b2) (Nat.lt_of_lt_of_le lN hl)⟩
theorem Rw(c:Int)(h:NV w b t s ns v xs)(hm:ns.length<=1000)(hp:s.1<t.size)(hc:(aw t s).1=c)(vj:c=41\/c=124\/c=42\/c=43\/c=63\/c=123):jM t b s ns w:=by
 obtain⟨lN,pU⟩:=front h hp;have ev:Ev t 3 0 (s,ns) (jR c c (cN t,ns)):=by
  have e:=Ev.plain (t:=t) (st:=(s,ns)) (by simp only[hc];omega) (by simp only[hc];omega);simp only[hc,de]at e;rw[if_neg (by omega),if_neg (by omega),if_neg (by omega),if_neg (by omega),if_pos vj]at e;exact e
 unfold jM;rcases vj with rfl|rfl|rfl|rfl|rfl|rfl;all_goals
  go_enter Tryz.func205,Tryz.ntmps205
  go_wp2_with fail
  refine(cD b t s v _ h.rd).mono ?_;rintro e w1 ⟨rfl,h1,k1⟩;have n1:=h.scan h1 k1;have b1:Below b w w1:=k1.below (by omega) (by simp);go_wp2_with fail
  refine(fY b t _ v _ h1).mono ?_;rintro e w2 ⟨rfl,h2,k2⟩;have n2:=n1.scan h2 k2;have b2:Below b w w2:=b1.trans (k2.below (by have:=h1.aD.lt;omega) (by simp));go_wp2_with fail
  refine(sN b _ _ t _ ns v xs _ n2 hm).mono ?_;rintro e w3 ⟨rfl,h3,b3⟩;go_wp2
  go_ret;exact⟨_,rfl,pX ev h3 (b2.trans b3) hp⟩
theorem Og(h:NV w b t s ns v xs)(hm:ns.length<=1000)(hp:s.1<t.size)(c:Int)(hc:(aw t s).1=c)
 (n1:c≠40) (n2:c≠91) (n3:c≠46) (n4:c≠94) (n5:c≠36) (n6:c≠92) (n7:c≠41) (n8:c≠124) (n9:c≠42) (n10:c≠43) (n11:c≠63) (n12:c≠123):jM t b s ns w:=by
 obtain⟨lN,pU⟩:=front h hp;have ev:Ev t 3 0 (s,ns) (jR c c ((aw t s).2,ns)):=by
  have e:=Ev.plain (t:=t) (st:=(s,ns)) (by simp only[hc];omega) (by simp only[hc];omega);simp only[hc,de]at e;rw[if_neg n3,if_neg n4,if_neg n5,if_neg n6,if_neg (by omega)]at e;exact e
 have m1:=beq_eq_false_iff_ne.2 n1;have m2:=beq_eq_false_iff_ne.2 n2;have m3:=beq_eq_false_iff_ne.2 n3;have m4:=beq_eq_false_iff_ne.2 n4;have m5:=beq_eq_false_iff_ne.2 n5;have m6:=beq_eq_false_iff_ne.2 n6;have m7:=beq_eq_false_iff_ne.2 n7;have m8:=beq_eq_false_iff_ne.2 n8;have m9:=beq_eq_false_iff_ne.2 n9;have m10:=beq_eq_false_iff_ne.2 n10;have m11:=beq_eq_false_iff_ne.2 n11;have m12:=beq_eq_false_iff_ne.2 n12;clear n1 n2 n3 n4 n5 n6 n7 n8 n9 n10 n11 n12;unfold jM;go_enter Tryz.func205,Tryz.ntmps205
 go_wp2_with fail
 refine(cD b t s v _ h.rd).mono ?_;rw[hc];rintro e w1 ⟨rfl,h1,k1⟩;have n1:=h.scan h1 k1;have b1:Below b w w1:=k1.below (by omega) (by simp);go_wp2_with fail
 refine(sN b c c t _ ns v xs _ n1 hm).mono ?_;rintro e w2 ⟨rfl,h2,b2⟩;go_wp2
 go_ret;exact⟨_,rfl,pX ev h2 (b1.trans b2) lN⟩
end
theorem Ki{t:ByteArray}{r:Nat×PS}(h:(ak t 41 r.2.1).1=true):dv t r=(r.1,((ak t 41 r.2.1).2,r.2.2)):=by unfold dv;rw[if_pos h]
theorem He{t:ByteArray}{r:Nat×PS}(h:(ak t 41 r.2.1).1=false):dv t r=(r.1,(cN t,r.2.2)):=by unfold dv;rw[if_neg (by rw[h];decide)]
structure Mid (t:ByteArray)(Kj tag b:Nat)(w w':World)(st:PS)(k:Nat)(r:Nat×PS):Prop where
 ev:∀r',Ev t tag r.1 r.2 r'->Ev t Kj 0 st r'
 ns:NS w' b t r.2
 JG:Below b w w'
 idx:r.1<r.2.2.length
 grow:st.2.length<r.2.2.length
 ge:st.1.1<=r.2.1.1
 ou:r.2.2.length+2*st.1.1+k<=st.2.length+2*r.2.1.1+1
theorem Mid.out{t:ByteArray}{Kj tag b:Nat}{w w':World}{st:PS}{k:Nat}{r:Nat×PS}(h:Mid t Kj tag b w w' st k r)(e:Ev t tag r.1 r.2 r):Out t Kj b w w' st k r:=
 ⟨h.ev r e,h.ns,h.JG,h.idx,h.grow,h.ge,h.ou⟩
theorem Out.mid{t:ByteArray}{tag1 Kj tag b:Nat}{w w':World}{st:PS}{k:Nat}{r:Nat×PS}(h:Out t tag1 b w w' st k r)(e:∀r',Ev t tag r.1 r.2 r'->Ev t Kj 0 st r'):Mid t Kj tag b w w' st k r:=
 ⟨e,h.ns,h.JG,h.idx,h.grow,h.ge,h.ou⟩
def Hf(w:World)(b:Nat):Nat:=match w.cell? ⟨b,1,none⟩ with|some (.int _ n)=>n.toNat|_=>0
theorem sO{w:World}{b:Nat}{t:ByteArray}{s:RS}{v:Value}(h:RD w b t s v):Hf w b=s.1:=by unfold Hf;rw[h.c1];simp
section
variable {t:ByteArray}{b m:Nat}{s:RS}{ns:List AN}{v:Value}{xs:List IV}{w:World}
theorem Oh(H:Hd t m)(h:NV w b t s ns v xs)(hp:t.size-s.1<m)(hm:ns.length<=500+2*s.1):
 Calls Tryz.prog 212 #[.pointer (some ⟨b,0,none⟩)] w fun e w'=>∃r:Nat×PS,e=.returned (.int .i64 (r.1:Int))/\Ev t 0 0 (s,ns) r/\NS w' b t (dv t r).2/\Below b w w' /\
  r.1<r.2.2.length/\ns.length<r.2.2.length/\s.1<=(dv t r).2.1.1/\r.2.2.length+2*s.1<=ns.length+2*(dv t r).2.1.1+1:=by
 go_enter Tryz.func212,Tryz.ntmps212
 go_wp2_with fail
 refine(H b s ns v xs _ hp h hm).mono ?_;rintro e w1 ⟨r,rfl,o⟩;obtain⟨v1,xs1,n1⟩:=o.ns;have jK:=o.ge;have oY:=o.ou;simp only[]at jK oY;by_cases hc:(ak t 41 r.2.1).1=true
 ·have ix:Hid (_=_):=Ki hc;have hg:=nI hc;go_wp2_with fail
  refine(cE b 41 t _ v1 _ n1.rd (by omega) (by omega)).mono ?_;rintro e w2 ⟨rfl,h2,k2⟩;go_wp2
  go_ret;refine⟨r,rfl,o.ev,?_,o.JG.trans (k2.below (by have:=n1.rd.aD.lt;omega) (by simp)),o.idx,o.grow,?_,?_⟩
  ·rw[ix.out];exact⟨v1,xs1,n1.scan h2 k2⟩
  ·rw[ix.out];simp only[];omega
  ·rw[ix.out];simp only[];omega
 ·have hc:(ak t 41 r.2.1).1=false:=by simpa using hc
  have ix:Hid (_=_):=He hc;have dD:=n1.rd.fits;simp only[Fits]at dD;go_wp2_with fail
  refine(cE b 41 t _ v1 _ n1.rd (by omega) (by omega)).mono ?_;rintro e w2 ⟨rfl,h2,k2⟩;go_wp2_with fail
  refine(fY b t _ v1 _ h2).mono ?_;rintro e w3 ⟨rfl,h3,k3⟩;go_wp2
  go_ret;refine⟨r,rfl,o.ev,?_,o.JG.trans ((k2.trans k3).below (by have:=n1.rd.aD.lt;omega) (by simp)),o.idx,o.grow,?_,?_⟩
  ·rw[ix.out];exact⟨v1,xs1,(n1.scan h2 k2).scan h3 k3⟩
  ·rw[ix.out];simp only[cN];omega
  ·rw[ix.out];simp only[cN];omega
theorem Kk(H:Hd t m)(h:NV w b t s ns v xs)(hm:ns.length<=500+2*s.1)(hp:s.1<t.size)(Af:t.size-s.1<=m)(hc:(aw t s).1=40):jM t b s ns w:=by
 obtain⟨lN,pU⟩:=front h hp;have ev:=fun r=>Ev.group (t:=t) (st:=(s,ns)) (r1:=r) hc;unfold jM;go_enter Tryz.func205,Tryz.ntmps205
 go_wp2_with fail
 refine(cD b t s v _ h.rd).mono ?_;rintro e w1 ⟨rfl,h1,k1⟩;have n1:=h.scan h1 k1;have b1:Below b w w1:=k1.below (by omega) (by simp);go_wp2_with fail
 refine(Oh H n1 (by omega) (by omega)).mono ?_;rintro e w2 ⟨r,rfl,h2,h3,h4,h5,h6,h7,h8⟩;go_wp2
 go_ret;exact⟨dv t r,rfl,ev r h2,h3,b1.trans h4,h5,h6,by simp only[];omega,by simp only[dv]at h8 ⊢;omega⟩
theorem Rx(H:Hd t m)(h:NV w b t s ns v xs)(hm:ns.length<=500+2*s.1)(hp:s.1<t.size)(Af:t.size-s.1<=m):jM t b s ns w:=by
 have iZ:=h.rd.small;by_cases c1:(aw t s).1=40
 ·exact Kk H h hm hp Af c1
 by_cases c2:(aw t s).1=91
 ·exact Of h (by omega) hp c2
 by_cases c3:(aw t s).1=46
 ·exact Rt h (by omega) hp c3
 by_cases c4:(aw t s).1=94
 ·exact Kh h (by omega) hp c4
 by_cases c5:(aw t s).1=36
 ·exact Ru h (by omega) hp c5
 by_cases c6:(aw t s).1=92
 ·exact Rv h (by omega) hp c6
 by_cases c7:(aw t s).1=41\/(aw t s).1=124\/(aw t s).1=42\/(aw t s).1=43\/(aw t s).1=63\/(aw t s).1=123
 ·exact Rw _ h (by omega) hp rfl c7
 ·exact Og h (by omega) hp _ rfl c1 c2 c3 c4 c5 c6 (by omega) (by omega) (by omega) (by omega) (by omega) (by omega)
theorem Dt(H:Hd t m)(h:NV w b t s ns v xs)(hm:ns.length<=500+2*s.1)(hp:s.1<t.size)(Af:t.size-s.1<=m):
 Calls Tryz.prog 197 #[.pointer (some ⟨b,0,none⟩)] w fun e w'=>∃r:Nat×PS,e=.returned (.int .i64 (r.1:Int))/\Out t 2 b w w' (s,ns) 2 r:=by
 have ha:=Rx H h hm hp Af;unfold jM at ha;have iZ:Hid (t.size<=40):=h.rd.small;have ha:Hid (Calls _ _ _ _ _):=ha;go_enter Tryz.func197,Tryz.ntmps197
 go_wp2_with fail
 refine(ha.out).mono ?_;rintro e w1 ⟨r1,rfl,o1⟩;clear ha;go_wp2_with fail
 go_loopw [3] (fun it wr=>∃r:Nat×PS,it=.int .i64 (r.1:Int)/\Mid t 2 6 b w wr (s,ns) 2 r) (fun _ wr=>t.size-Hf wr b)
 case atStart=>exact⟨r1,rfl,o1.mid (fun r' e=>Ev.piece o1.ev e)⟩
 case round=>
  obtain⟨r,rfl,o⟩:=hrel;obtain⟨v2,xs2,n2⟩:=o.ns;have oY:=o.ou;have lF:=o.idx;have An:=sO n2.rd;have dD:=n2.rd.fits;simp only[Fits]at oY dD;have An:Hid (_=_):=An;by_cases hq:kN t r.2.1=true
  ·have bO:=lQ hq;have lN:=sE bO;obtain⟨l0,l9,m0,m9⟩:=sB t r.2.1;have sP:=fun r' e=>o.ev r' (Ev.rep (r:=r') hq e);go_wp2_with fail
   refine(Dg b t _ v2 _ n2.rd).mono ?_;rintro e w2 ⟨rfl,rfl⟩;go_wp2_with fail
   refine(JX b t _ v2 _ n2.rd).mono ?_;rintro e w3 ⟨rfl,h3,k3⟩;have n3:=n2.scan h3 k3;have b3:=o.JG.trans (k3.below (by have:=n2.rd.aD.lt;omega) (by simp));go_wp2_with fail
   refine(Od b r.1 _ _ t _ _ v2 xs2 _ n3 lF (by have:=iZ.out;omega) l0 l9 m0 m9).mono ?_;rintro e w4 ⟨rfl,h4,b4⟩;have Yy:Hf w4 b=(aC t r.2.1).2.1:=by obtain⟨v4,xs4,n4⟩:=h4;exact sO n4.rd
   have hg:=o.grow;have jK:=o.ge;have Yy:Hid (_=_):=Yy;go_wp2
   try simp only[]at hg jK
   refine⟨⟨ch r.1 (aC t r.2.1).1 ((aC t r.2.1).2,r.2.2),rfl,⟨sP,h4,b3.trans b4,?_,?_,?_,?_⟩⟩,?_⟩
   ·simp[ch,bL]
   ·simp[ch,bL];omega
   ·simp[ch,bL];omega
   ·simp[ch,bL];omega
   ·rw[An.out,Yy.out];omega
  ·have hq:kN t r.2.1=false:=by simpa using hq
   have sP:=o.out (Ev.gM hq);go_wp2_with fail
   refine(Dg b t _ v2 _ n2.rd).mono ?_;rintro e w2 ⟨rfl,rfl⟩;go_wp2
   go_ret;exact⟨r,rfl,sP⟩
theorem Ao(H:Hd t m)(h:NV w b t s ns v xs)(hm:ns.length<=500+2*s.1)(Af:t.size-s.1<=m):
 Calls Tryz.prog 168 #[.pointer (some ⟨b,0,none⟩)] w fun e w'=>∃r:Nat×PS,e=.returned (.int .i64 (r.1:Int))/\Out t 1 b w w' (s,ns) 0 r:=by
 have iZ:Hid (t.size<=40):=h.rd.small;have hb:=h.rd.aD.lt;have dD:=h.rd.fits;simp only[Fits]at dD;by_cases he:jj t s=true
 ·have ev:=Ev.empty (t:=t) (st:=(s,ns)) he;go_enter Tryz.func168,Tryz.ntmps168
  go_wp2_with fail
  refine(sG b t _ v _ h.rd).mono ?_;rintro e w1 ⟨rfl,rfl⟩;go_wp2_with fail
  refine(add_plain b t _ ns v xs 0 0 0 0 0 1 _ h (by have:=iZ.out;omega) (by omega) (by omega)).mono ?_;rintro e w1 ⟨rfl,h1,b1⟩;go_wp2
  go_ret;exact⟨_,rfl,ev,h1,b1,by simp[bL],by simp[bL],by simp[bL],by simp[bL];omega⟩
 have he:jj t s=false:=by simpa using he
 have yx:=Dt H h hm (nJ he) Af;have yx:Hid (Calls _ _ _ _ _):=yx;have ev0:=fun r1 r' (h1:Ev t 2 0 (s,ns) r1) h2=>Ev.branch (t:=t) (st:=(s,ns)) (r:=r') he h1 h2;go_enter Tryz.func168,Tryz.ntmps168
 go_wp2_with fail
 refine(sG b t _ v _ h.rd).mono ?_;rintro e w1 ⟨rfl,rfl⟩;go_wp2_with fail
 refine(yx.out).mono ?_;rintro e w2 ⟨r1,rfl,o1⟩;clear yx h hb he;go_wp2_with fail
 go_loopw [3] (fun it wr=>∃r:Nat×PS,it=.int .i64 (r.1:Int)/\Mid t 1 5 b w1 wr (s,ns) 2 r) (fun _ wr=>t.size-Hf wr b)
 case atStart=>exact⟨r1,rfl,o1.mid (fun r' e=>ev0 r1 r' o1.ev e)⟩
 case round=>
  obtain⟨r,rfl,o⟩:=hrel;obtain⟨v2,xs2,n2⟩:=o.ns;have oY:=o.ou;have lF:=o.idx;have jK:=o.ge;have hg:=o.grow;have An:Hid (_=_):=sO n2.rd;have dD:=n2.rd.fits;simp only[Fits]at oY dD jK hg;by_cases hq:jj t r.2.1=true
  ·have sP:=o.out (Ev.mM hq);go_wp2_with fail
   refine(sG b t _ v2 _ n2.rd).mono ?_;rintro e w3 ⟨rfl,rfl⟩;go_wp2
   go_ret;exact⟨r,rfl,sP.ev,sP.ns,sP.JG,sP.idx,sP.grow,sP.ge,by have:=sP.ou;omega⟩
  ·have hq:jj t r.2.1=false:=by simpa using hq
   have bO:=nJ hq;have yx:Hid (Calls _ _ _ _ _):=Dt H n2 (by have:=iZ.out;omega) bO (by omega);have sP:=fun r1 (h1:Ev t 2 0 r.2 r1) r' e=>o.ev r' (Ev.and (r:=r') hq h1 e);go_wp2_with fail
   refine(sG b t _ v2 _ n2.rd).mono ?_;rintro e w3 ⟨rfl,rfl⟩;go_wp2_with fail
   refine(yx.out).mono ?_;rintro e w4 ⟨r4,rfl,o4⟩;obtain⟨v4,xs4,n4⟩:=o4.ns;have Ry:=o4.ou;have G':=o4.idx;have hg4:=o4.grow;have Yz:=o4.ge;have ru:=n4.rd.fits;simp only[Fits]at Ry hg4 Yz ru;clear yx;go_wp2_with fail
   refine(Hb b r.1 r4.1 4 t _ _ v4 xs4 _ n4 (by omega) G' (by have:=iZ.out;omega)).mono ?_;rintro e w5 ⟨rfl,h5,b5⟩;have Kl:Hf w5 b=r4.2.1.1:=by obtain⟨v5,xs5,n5⟩:=h5;exact sO n5.rd
   have Kl:Hid (_=_):=Kl;go_wp2
   refine⟨⟨bk 4 r.1 r4.1 r4.2,rfl,⟨sP r4 o4.ev,h5,(o.JG.trans o4.JG).trans b5,?_,?_,?_,?_⟩⟩,?_⟩
   ·simp[bk,bL]
   ·simp[bk,bL];omega
   ·simp[bk,bL];omega
   ·simp[bk,bL];omega
   ·rw[An.out,Kl.out];omega
theorem ES(H:Hd t m):Hd t (m+1):=by
 intro b s ns v xs w Af h hm;have iZ:Hid (t.size<=40):=h.rd.small;have dD:=h.rd.fits;simp only[Fits]at dD;have hbc:Hid (Calls _ _ _ _ _):=Ao H h hm (by omega);go_enter Tryz.func136,Tryz.ntmps136
 go_wp2_with fail
 refine(hbc.out).mono ?_;rintro e w1 ⟨r1,rfl,o1⟩;clear hbc;go_wp2_with fail
 go_loopw [3] (fun it wr=>∃r:Nat×PS,it=.int .i64 (r.1:Int)/\Mid t 0 4 b w wr (s,ns) 0 r) (fun _ wr=>t.size-Hf wr b)
 case atStart=>exact⟨r1,rfl,o1.mid (fun r' e=>Ev.pattern o1.ev e)⟩
 case round=>
  obtain⟨r,rfl,o⟩:=hrel;obtain⟨v2,xs2,n2⟩:=o.ns;have oY:=o.ou;have lF:=o.idx;have jK:=o.ge;have hg:=o.grow;have An:Hid (_=_):=sO n2.rd;have dD:=n2.rd.fits;simp only[Fits]at oY dD jK hg;by_cases hq:(ak t 124 r.2.1).1=true
  ·have lN:=nI hq;have sP:=fun r1 h1 r' e=>o.ev r' (Ev.or (r:=r') (r1:=r1) hq h1 e);go_wp2_with fail
   refine(cE b 124 t _ v2 _ n2.rd (by omega) (by omega)).mono ?_;rintro e w3 ⟨rfl,h3,k3⟩;have n3:=n2.scan h3 k3;have b3:=o.JG.trans (k3.below (by have:=n2.rd.aD.lt;omega) (by simp));have hfit3:=n3.rd.fits;simp only[Fits]at hfit3;have hbc:Hid (Calls _ _ _ _ _):=Ao H n3 (by omega) (by omega);go_wp2_with fail
   refine(hbc.out).mono ?_;rintro e w4 ⟨r4,rfl,o4⟩;obtain⟨v4,xs4,n4⟩:=o4.ns;have Ry:=o4.ou;have G':=o4.idx;have hg4:=o4.grow;have Yz:=o4.ge;have ru:=n4.rd.fits;simp only[Fits]at Ry hg4 Yz ru;clear hbc;go_wp2_with fail
   refine(Hb b r.1 r4.1 5 t _ _ v4 xs4 _ n4 (by omega) G' (by have:=iZ.out;omega)).mono ?_;rintro e w5 ⟨rfl,h5,b5⟩;have Kl:Hf w5 b=r4.2.1.1:=by obtain⟨v5,xs5,n5⟩:=h5;exact sO n5.rd
   have Kl:Hid (_=_):=Kl;go_wp2
   refine⟨⟨bk 5 r.1 r4.1 r4.2,rfl,⟨sP r4 o4.ev,h5,(b3.trans o4.JG).trans b5,?_,?_,?_,?_⟩⟩,?_⟩
   ·simp[bk,bL]
   ·simp[bk,bL];omega
   ·simp[bk,bL];omega
   ·simp[bk,bL];omega
   ·rw[An.out,Kl.out];omega
  ·have hq:(ak t 124 r.2.1).1=false:=by simpa using hq
   have sP:=o.out (Ev.oP hq);have MH:ak t 124 r.2.1=(false,r.2.1):=by
    unfold ak at hq ⊢;split at hq
    ·cases hq
    ·rename_i hc;rw[if_neg hc]
   go_wp2_with fail
   refine(cE b 124 t _ v2 _ n2.rd (by omega) (by omega)).mono ?_;rintro e w3 ⟨rfl,h3,k3⟩;go_wp2
   go_ret;refine⟨r,rfl,sP.ev,?_,sP.JG.trans (k3.below (by have:=n2.rd.aD.lt;omega) (by simp)),sP.idx,sP.grow,sP.ge,sP.ou⟩;rw[MH]at h3;exact⟨v2,xs2,n2.scan h3 k3⟩
theorem yz(t:ByteArray):∀m,Hd t m
 | 0=>fun _ _ _ _ _ _ h=>by omega
 | m+1=>ES (yz t m)
end
def Oi:PS:=((0,false),[])
def vq(t:ByteArray)(r:Nat×PS):Prop:=r.2.1.2=true\/r.2.1.1<t.size
def ET(t:ByteArray)(w w':World)(e:Ending):Prop:=
 Below w.heap.size w w'/\∃r:Nat×PS,Ev t 0 0 Oi r/\r.1<r.2.2.length /\
  ((vq t r/\e=.returned (.tuple #[.agg #[.slice none 0 0,.int .i64 0],.int .i64 2])) \/
   (¬vq t r/\60<au r.2.2 r.1/\e=.returned (.tuple #[.agg #[.slice none 0 0,.int .i64 0],.int .i64 3])) \/
   (¬vq t r/\au r.2.2 r.1<=60/\∃b ao n c xs,w.heap.size<=b/\NV w' b t r.2.1 r.2.2 (.slice ao n c) xs/\e=.returned (.tuple #[.agg #[.slice ao n c,.int .i64 (au r.2.2 r.1)],.int .i64 0])))
theorem NV.start(w:World)(t:ByteArray)(h:t.size<=40)(k:Nat)(hk:k=w.heap.size):NV (w.alloc (.cells #[.string t,.int .i64 0,.slice none 0 0,.bool false] 214)) k t (0,false) [] (.slice none 0 0) []:=by
 subst hk;exact⟨⟨ah.new _ _ _,Nat.zero_le _,h⟩,World.ownsRow_nil _ _ _ _,rfl,fun i n x hn=>by simp at hn,fun n hn=>by simp at hn⟩
theorem Oj(t:ByteArray)(w:World)(h:40<t.size)(hs:t.size<=maxLen):
 Calls Tryz.prog 86 #[.string t] w fun e w'=>e=.returned (.tuple #[.agg #[.slice none 0 0,.int .i64 0],.int .i64 3])/\Below w.heap.size w w':=by
 unfold maxLen at hs;go_enter Tryz.func86,Tryz.ntmps86
 go_wp2
 refine bodyPost_ret (v:=.tuple #[.agg #[.slice none 0 0,.int .i64 0],.int .i64 3]) (by simp[results,Tryz.results86,go_sem]) rfl ⟨rfl,?_⟩;exact(Below.refl _ _).alloc (Nat.le_refl _) _
theorem zD{w x:World}{T:TypeId}{c0 c1:Value}(h:ah x w.heap.size #[c0,c1] T)(hb:Below w.heap.size w x)(u0 u1:Value):
 ((x.setCell ⟨w.heap.size,0,none⟩ u0).setCell ⟨w.heap.size,1,none⟩ u1).cell? ⟨w.heap.size,0,none⟩=some u0 /\
 ((x.setCell ⟨w.heap.size,0,none⟩ u0).setCell ⟨w.heap.size,1,none⟩ u1).cell? ⟨w.heap.size,1,none⟩=some u1 /\
 Below w.heap.size w ((x.setCell ⟨w.heap.size,0,none⟩ u0).setCell ⟨w.heap.size,1,none⟩ u1):=by
 have h2:=(h.set 0 u0).set 1 u1;refine⟨by rw[h2.cell];rfl,by rw[h2.cell];rfl,(hb.setCell (Nat.le_refl _) _).setCell (Nat.le_refl _) _⟩
theorem NV.other{w:World}{b k:Nat}{t:ByteArray}{s:RS}{ns:List AN}{v:Value}{xs:List IV}(h:NV w b t s ns v xs)(hk:k<b)(j:Nat)(u:Value):NV (w.setCell ⟨k,j,none⟩ u) b t s ns v xs:=by
 have gr:w.grownBy (w.setCell ⟨k,j,none⟩ u) (some k):=⟨rfl,rfl,rfl,by simp[World.setCell],fun i hi fx=>Below.heap_setCell _ _ _ _ (by rintro rfl;exact fx rfl)⟩;have iN:∀{e z m:Nat} {y:Value} {ys:List Value},w.ownsRow (b+1) e z y m ys->(w.setCell ⟨k,j,none⟩ u).ownsRow (b+1) e z y m ys:=fun {e z m y ys} hy=>by
  refine hy.kept gr ?_;cases hv:y.ownBlock with
  | none=>exact Or.inl rfl
  | some g=>refine Or.inr ?_;have:=re hy hv;simp;omega
 exact⟨⟨ah.other h.rd.aD _ _ (by omega),h.rd.fits,h.rd.small⟩,iN h.row,h.len,fun i n x a c=>iN (h.items i n x a c),h.sized⟩
theorem Rz(t:ByteArray)(w:World)(h:t.size<=40):
 Calls Tryz.prog 86 #[.string t] w fun e w'=>ET t w w' e:=by
 have hP:Hid (∀(w1:World) (k:Nat) (hk:NV w1 k t (0,false) [] (.slice none 0 0) []),_):=fun w1 k hk=>yz t (t.size+1) k (0,false) [] (.slice none 0 0) [] w1 (by simp only[];omega) hk (by simp);have nv:=fun o=>NV.start (w.alloc o) t h (w.heap.size+1) (by simp);have bz:∀o,ah ((w.alloc (.cells #[.slice none 0 0,.int .i64 0] 93)).alloc o) w.heap.size #[.slice none 0 0,.int .i64 0] 93:=fun o=>(ah.new _ _ _).alloc o;have bw:∀o1 o2,Below w.heap.size w ((w.alloc o1).alloc o2):=fun o1 o2=>((Below.refl _ _).alloc (Nat.le_refl _) _).alloc (by simp) _;go_enter Tryz.func86,Tryz.ntmps86
 go_wp2_with fail
 refine(hP.out _ _ (nv _)).mono ?_;rintro e w1 ⟨r,rfl,o⟩;obtain⟨v1,xs1,n1⟩:=o.ns;clear hP nv;have JH:Below w.heap.size w w1:=(bw _ _).trans (o.JG.mono (by omega));have uR:ah w1 w.heap.size #[.slice none 0 0,.int .i64 0] 93:=(o.JG.block w.heap.size (by omega)).trans (bz _);have sP:=o.ev;have lF:=o.idx;have oY:=o.ou;simp only[]at oY;have dD:=n1.rd.fits;simp only[Fits]at dD;clear bz bw o;have c1:=n1.rd.c1;by_cases bO:r.2.1.1<t.size
 ·go_wp2_with fail
  refine(fY _ t _ v1 _ n1.rd).mono ?_;rintro e w2 ⟨rfl,h2,k2⟩;have d3:=h2.c3;have bl2:=uR.kept k2 (by simp);have blw2:Below w.heap.size w w2:=JH.trans (k2.below (by have:=n1.rd.aD.lt;omega) (by simp));have g0:=bl2.frozen 0;have g1:=bl2.frozen 1;have g2:=bl2.cell 0;have g3:=bl2.cell 1;obtain⟨q0,q1,q2⟩:=zD bl2 blw2 (.slice none 0 0) (.int .i64 0);clear uR bl2;simp only[cN]at d3;go_wp2
  refine bodyPost_ret (v:=.tuple #[.agg #[.slice none 0 0,.int .i64 0],.int .i64 2]) (by simp[results,Tryz.results86,go_sem,q0,q1]) rfl ?_;exact⟨q2,r,sP,lF,Or.inl ⟨Or.inr bO,rfl⟩⟩
 have c3:=n1.rd.c3;have g0:=uR.frozen 0;have g1:=uR.frozen 1;have g2:=uR.cell 0;have g3:=uR.cell 1;by_cases dO:r.2.1.2=true
 ·obtain⟨q0,q1,q2⟩:=zD uR JH (.slice none 0 0) (.int .i64 0);clear uR;rw[dO]at c3;have dO:Hid (r.2.1.2=true):=dO;go_wp2
  refine bodyPost_ret (v:=.tuple #[.agg #[.slice none 0 0,.int .i64 0],.int .i64 2]) (by simp[results,Tryz.results86,go_sem,q0,q1]) rfl ?_;exact⟨q2,r,sP,lF,Or.inl ⟨Or.inl dO.out,rfl⟩⟩
 have CK:Hid (¬vq t r):=fun hc=>by rcases hc with hc|hc;exact dO hc;exact bO hc
 have dO:r.2.1.2=false:=by simpa using dO
 rw[dO]at c3;clear dO;have Cv:=sC n1.sized r.1;have dd:Hid (r.2.2.length<=1000):=by show _<=_;simp at oY;omega
 by_cases rq:60<au r.2.2 r.1
 ·obtain⟨q0,q1,q2⟩:=zD uR JH (.slice none 0 0) (.int .i64 0);clear uR;go_wp2_with fail
  refine(kP _ r.1 t _ _ v1 xs1 _ n1 lF dd.out).mono ?_;rintro e w2 ⟨rfl,rfl⟩;go_wp2
  refine bodyPost_ret (v:=.tuple #[.agg #[.slice none 0 0,.int .i64 0],.int .i64 3]) (by simp[results,Tryz.results86,go_sem,q0,q1]) rfl ?_;exact⟨q2,r,sP,lF,Or.inr (Or.inl ⟨CK.out,rq,rfl⟩)⟩
 ·obtain⟨g,cap,rfl⟩:=aO n1.row (by omega);have c2:=n1.rd.c2;obtain⟨q0,q1,q2⟩:=zD uR JH (.slice (some ⟨g,0,none⟩) r.2.2.length cap) (.int .i64 (au r.2.2 r.1));have n3:=(n1.other (k:=w.heap.size) (by omega) 0 (.slice (some ⟨g,0,none⟩) r.2.2.length cap)).other (k:=w.heap.size) (by omega) 1 (.int .i64 (au r.2.2 r.1));clear uR;go_wp2_with fail
  refine(kP _ r.1 t _ _ _ xs1 _ n1 lF dd.out).mono ?_;rintro e w2 ⟨rfl,rfl⟩;go_wp2
  refine bodyPost_ret (v:=.tuple #[.agg #[.slice (some ⟨g,0,none⟩) r.2.2.length cap,.int .i64 (au r.2.2 r.1)],.int .i64 0]) (by simp[results,Tryz.results86,go_sem,q0,q1]) rfl ?_;exact⟨q2,r,sP,lF,Or.inr (Or.inr ⟨CK.out,by omega,w.heap.size+1,_,_,_,xs1,by omega,n3,rfl⟩)⟩
end Go.Proofs.YtgifhgnccmnbiabGreatDoor
