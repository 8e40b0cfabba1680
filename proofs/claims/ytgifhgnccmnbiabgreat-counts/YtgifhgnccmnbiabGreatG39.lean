/- Files of codes: both sides read the same, code by code. No Go in it. -/
import Derived.Test.YtgifhgnccmnbiabGreatG38
import Derived.Test.YtgifhgnccmnbiabGreatG33
import Derived.Laws.IdiomStrings
import Derived.Lib.BufferRead
import Derived.Test.YtgifhgnccmnbiabGreatG37
import Derived.Test.YtgifhgnccmnbiabGreatG36
set_option linter.unusedVariables false
set_option linter.unusedSimpArgs false
set_option maxHeartbeats 4000000
set_option maxRecDepth 100000
namespace Go.Proofs.YtgifhgnccmnbiabGreat
open Go.RowKit Go.IntWalk
theorem bytesN_app (a b:ByteArray):bytesN (a++b)=bytesN a++bytesN b:=by
 unfold bytesN;rw [ByteArray.data_append,Array.toList_append,List.map_append]
theorem bytesN_one {c:Nat} (h:c<256):bytesN ⟨#[c.toUInt8]⟩=[c]:=by
 show [c.toUInt8.toNat]=[c]
 rw [Nat.toUInt8_eq,UInt8.toNat_ofNat',Nat.mod_eq_of_lt (by omega)]
theorem bytesN_nil {s:ByteArray}:bytesN s=[]↔s.size=0:=by
 rw [←bytesN_len];exact List.length_eq_zero_iff.symm
theorem bytesN_first {s:ByteArray} (h:s.size≠0):bytesN (s.extract 0 1)=[(bytesN s).headD 0]:=by
 unfold bytesN
 rw [ByteArray.data_extract]
 obtain ⟨⟨l⟩⟩:=s
 cases l with
 | nil=>exact absurd rfl h
 | cons x l=>simp
theorem ptOf_first {t:List Nat} (h:t≠[]):(ptOf t).first=t.headD 0:=by unfold ptOf;rw [if_neg h]
theorem numB_end {B:ByteArray} {p:Nat}:∀i,p+i≤8*B.size→(numB B p i).2=p+i:=by
 intro i
 induction i with
 | zero=>intro _;rfl
 | succ i ih=>
   intro hi
   show (nextB B (numB B p i).2).2=_
   rw [ih (by omega)]
   unfold nextB;rw [if_pos (by omega)];rfl
structure ZZ (B:ByteArray) (m:Nat) (s:CD×TT) (r:ZB) (T:List (List Nat)):Prop where
 bytes:s.1.B=B
 most:s.1.most=m
 p:s.1.p=r.p
 bad:s.1.bad=false
 sound:Sound s.2.rules T
 len:s.1.gone+r.tab.length=T.length
 ent:∀i,i<r.tab.length→bytesN (r.tab.getD i ByteArray.empty)=T.getD (s.1.gone+i) []
 last:(s.1.ahead=none∧r.last.size=0∧r.tab=[])∨∃a,s.1.ahead=some a∧a<256+T.length∧bytesN r.last=symT T a∧r.last.size≠0
 start:∀x,x∈s.2.start→x<256+T.length
 out:bytesN r.out=s.2.start.flatMap (symT T)
 whole:s.2.whole=ptOf (bytesN r.out)
 syms:s.2.syms=r.n
 kind:s.2.kind=90
theorem ZZ.free {B:ByteArray} {m:Nat} {s:CD×TT} {r:ZB} {T:List (List Nat)} (h:ZZ B m s r T):freeN s.2 s.1=frB r:=by
 have:=h.len
 have:=h.sound.len
 unfold freeN frB;omega
theorem ZZ.wide {B:ByteArray} {m:Nat} {s:CD×TT} {r:ZB} {T:List (List Nat)} (h:ZZ B m s r T):zwide s=zwB m r:=by unfold zwide zwB;rw [h.free,h.most]
theorem ZZ.go {B:ByteArray} {m:Nat} {s:CD×TT} {r:ZB} {T:List (List Nat)} (h:ZZ B m s r T):zgo s=zgoB B m r:=by
 unfold zgo zgoB;rw [h.bad,h.wide,h.p,h.bytes];rfl
theorem ZZ.ok {B:ByteArray} {m:Nat} {s:CD×TT} {r:ZB} {T:List (List Nat)} (h:ZZ B m s r T):zOk s=endB B r.p:=by
 unfold zOk;rw [h.bad,h.p,h.bytes];rfl
theorem ZZ.entry {B:ByteArray} {m:Nat} {s:CD×TT} {r:ZB} {T:List (List Nat)} (h:ZZ B m s r T) {c:Nat} (hc:c<256∨(257≤c∧c<frB r)):bytesN (entB r.tab c)=symT T (symC s.1.gone c)∧symC s.1.gone c<256+T.length:=by
 have hl:=h.len
 unfold entB symC symT
 rcases hc with hc | ⟨hc,hf⟩
 · rw [if_pos hc,if_pos hc,if_pos hc]
   exact ⟨bytesN_one hc,by omega⟩
 · unfold frB at hf
   have n1:¬c<256:=by omega
   have n2:¬s.1.gone+c-1<256:=by omega
   simp only [if_neg n1,if_neg n2]
   rw [h.ent _ (by omega),show s.1.gone+(c-257)=s.1.gone+c-1-256 by omega]
   exact ⟨rfl,by omega⟩
theorem flatMap_sym {T U:List (List Nat)} {l:List Nat} (h:∀x,x∈l→x<256+T.length):l.flatMap (symT (T++U))=l.flatMap (symT T):=by
 induction l with
 | nil=>rfl
 | cons x l ih=>
   rw [List.flatMap_cons,List.flatMap_cons,symT_app (h x (by simp)),ih (fun y hy=>h y (by simp [hy]))]
theorem ZZ.plain {B:ByteArray} {m:Nat} {s:CD×TT} {r:ZB} {T:List (List Nat)} (h:ZZ B m s r T) {q sy:Nat} {now:ByteArray} (hsy:sy<256+T.length) (hn:bytesN now=symT T sy) (hne:now.size≠0):
 ZZ B m ({ s.1 with p:=q,ahead:=some sy },addStart (upSyms s.2) sy) { p:=q,n:=r.n+1,out:=r.out++now,tab:=r.tab,last:=now } T:=by
 have ho:bytesN (r.out++now)=(s.2.start++[sy]).flatMap (symT T):=by
  rw [bytesN_app,h.out,hn,List.flatMap_append];simp
 refine ⟨h.bytes,h.most,rfl,h.bad,h.sound,h.len,h.ent,Or.inr ⟨sy,rfl,hsy,hn,hne⟩,?_,ho,?_,?_,h.kind⟩
 · intro x hx
   rcases List.mem_append.1 hx with hx | hx
   · exact h.start x hx
   · simp at hx;omega
 · show joinP s.2.whole (partAt s.2.rules sy)=ptOf (bytesN (r.out++now))
   rw [h.whole,h.sound.part (by rw [h.sound.len];exact hsy),join_ptOf,bytesN_app,hn]
 · show s.2.syms+1=r.n+1
   rw [h.syms]
theorem ZZ.join {B:ByteArray} {m:Nat} {s:CD×TT} {r:ZB} {T:List (List Nat)} (h:ZZ B m s r T) {a fb:Nat} {e:ByteArray} (ha:a<256+T.length) (hfb:fb<256) (he:bytesN e=symT T a++[fb]) (hl:(s.1.ahead=some a∧bytesN r.last=symT T a∧r.last.size≠0)):
 ZZ B m (s.1,addRuleT s.2 a fb) { r with tab:=r.tab++[e] } (T++[symT T a++symT T fb]):=by
 have hs:=h.sound.push (l:=a) (r:=fb) (by rw [h.sound.len];exact ha) (by omega)
 have hT:(T++[symT T a++symT T fb]).length=T.length+1:=by simp
 have hlen:=h.len
 refine ⟨h.bytes,h.most,h.p,h.bad,hs,?_,?_,Or.inr ⟨a,hl.1,by omega,by rw [symT_app ha];exact hl.2.1,hl.2.2⟩,?_,?_,h.whole,h.syms,h.kind⟩
 · show s.1.gone+(r.tab++[e]).length=_
   rw [hT,List.length_append,List.length_singleton];omega
 · intro i hi
   replace hi:i<(r.tab++[e]).length:=hi
   show bytesN ((r.tab++[e]).getD i ByteArray.empty)=_
   rw [List.length_append,List.length_singleton] at hi
   by_cases h2:i<r.tab.length
   · have:=h.ent i h2
     simp only [List.getD] at this ⊢
     rw [List.getElem?_append_left h2,List.getElem?_append_left (by omega)]
     exact this
   · have h3:i=r.tab.length:=by omega
     subst h3
     simp only [List.getD]
     rw [List.getElem?_append_right (Nat.le_refl _),hlen,List.getElem?_append_right (Nat.le_refl _)]
     simp only [Nat.sub_self,List.getElem?_cons_zero,Option.getD_some]
     rw [he]
     have:symT T fb=[fb]:=if_pos hfb
     rw [this]
 · intro x hx
   have:=h.start x hx
   omega
 · rw [h.out]
   exact (flatMap_sym h.start).symm
theorem ZZ.step {B:ByteArray} {m:Nat} {s:CD×TT} {r:ZB} {T:List (List Nat)} (h:ZZ B m s r T) (hg:zgoB B m r=true):
 (zsB B m r=none→(zstep s).1.bad=true)∧∀r',zsB B m r=some r'→∃T',ZZ B m (zstep s) r' T':=by
 have hg':r.p+zwB m r≤8*B.size:=by unfold zgoB at hg;simpa using hg
 have hz:zstep s=takeC { s.1 with p:=r.p+zwB m r } s.2 (numB B r.p (zwB m r)).1:=by
  unfold zstep;rw [h.bytes,h.p,h.wide,numB_end _ hg']
 rw [hz]
 unfold zsB
 generalize (numB B r.p (zwB m r)).1=c
 have eF:freeN s.2 { s.1 with p:=r.p+zwB m r }=frB r:=h.free
 have h':ZZ B m ({ s.1 with p:=r.p+zwB m r },s.2) { r with p:=r.p+zwB m r } T:=⟨h.bytes,h.most,rfl,h.bad,h.sound,h.len,h.ent,h.last,h.start,h.out,h.whole,h.syms,h.kind⟩
 have hF:257≤frB r:=by unfold frB;omega
 unfold takeC tkB
 rw [eF]
 by_cases hc:c=256
 · subst hc
   rw [if_pos rfl,if_pos rfl]
   refine ⟨fun hx=>by (cases hx),fun r' hr=>⟨T,?_⟩⟩
   simp only [Option.some.injEq] at hr
   subst hr
   exact ⟨h.bytes,h.most,rfl,h.bad,h.sound,h.sound.len,(fun i hi=>absurd hi (Nat.not_lt_zero _)),Or.inl ⟨rfl,rfl,rfl⟩,h.start,h.out,h.whole,by show s.2.syms+1=r.n+1;rw [h.syms],h.kind⟩
 rw [if_neg hc,if_neg hc]
 rcases h.last with ⟨la,lb,lc⟩ | ⟨a,la,lb,lt,lne⟩
 · have hF7:frB r=257:=by unfold frB;rw [lc];rfl
   have hj:joinsC { s.1 with p:=r.p+zwB m r } (frB r)=none:=by unfold joinsC;simp only [];rw [la]
   by_cases hb:256<c
   · rw [if_pos ⟨lb,hb⟩,if_pos (show badC _ c (frB r) by
      by_cases h7:c=257
      · exact Or.inr ⟨by omega,hj⟩
      · exact Or.inl (by omega))]
     exact ⟨fun _=>rfl,fun r' hr=>by (cases hr)⟩
   · rw [if_neg (fun hx=>hb hx.2),if_neg (by omega),if_neg (show ¬badC _ c (frB r) from fun hx=>by rcases hx with hx | hx <;> omega),hj]
     refine ⟨fun hx=>by (cases hx),fun r' hr=>⟨T,?_⟩⟩
     simp only [Option.some.injEq] at hr
     subst hr
     have hnow:nowB r c=entB r.tab c:=by unfold nowB;rw [if_neg (by omega)]
     obtain ⟨e1,e2⟩:=h.entry (c:=c) (Or.inl (by omega))
     have hne:(entB r.tab c).size≠0:=fun hx=>by
      have:=bytesN_nil.2 hx
      rw [e1] at this
      exact h.sound.ne (by rw [h.sound.len];exact e2) this
     rw [hnow,if_neg (fun hx=>hx.1 lb)]
     exact h'.plain e2 e1 hne
 · rw [if_neg (fun hx=>lne hx.1)]
   have hj:joinsC { s.1 with p:=r.p+zwB m r } (frB r)=if frB r<2 ^ m then some a else none:=by unfold joinsC;simp only [];rw [la,h.most]
   by_cases hb:frB r<c∨(c=frB r∧¬frB r<2 ^ m)
   · rw [if_pos hb,if_pos (show badC _ c (frB r) by
      rcases hb with hb | hb
      · exact Or.inl hb
      · exact Or.inr ⟨hb.1,by rw [hj,if_neg hb.2]⟩)]
     exact ⟨fun _=>rfl,fun r' hr=>by (cases hr)⟩
   · rw [if_neg hb,if_neg (show ¬badC _ c (frB r) from fun hx=>by
      rcases hx with hx | ⟨hx,hy⟩
      · exact hb (Or.inl hx)
      · by_cases hr:frB r<2 ^ m
        · rw [hj,if_pos hr] at hy;cases hy
        · exact hb (Or.inr ⟨hx,hr⟩))]
     refine ⟨fun hx=>by (cases hx),fun r' hr=>?_⟩
     simp only [Option.some.injEq] at hr
     subst hr
     have hle:c≤frB r:=by omega
     by_cases hroom:frB r<2 ^ m
     · rw [hj,if_pos hroom,if_pos ⟨lne,hroom⟩]
       -- the first byte of what is read now
       have hap:partAt s.2.rules a=ptOf (symT T a):=h.sound.part (by rw [h.sound.len];exact lb)
       have hane:symT T a≠[]:=h.sound.ne (by rw [h.sound.len];exact lb)
       have hfirst:bytesN ((nowB r c).extract 0 1)=[firstC s.2 s.1.gone a c (frB r)]:=by
        unfold firstC nowB
        by_cases hcF:c=frB r
        · rw [if_pos hcF,if_pos hcF,hap,ptOf_first hane]
          have hsz:(r.last++r.last.extract 0 1).size≠0:=by rw [ba_size_app];omega
          rw [bytesN_first hsz,bytesN_app,lt]
          cases hx:symT T a with
          | nil=>exact absurd hx hane
          | cons y l=>rfl
        · rw [if_neg hcF,if_neg hcF]
          obtain ⟨e1,e2⟩:=h.entry (c:=c) (by omega)
          have hne2:symT T (symC s.1.gone c)≠[]:=h.sound.ne (by rw [h.sound.len];exact e2)
          have hne:(entB r.tab c).size≠0:=fun hx=>by rw [←bytesN_nil,e1] at hx;exact hne2 hx
          rw [bytesN_first hne,e1,h.sound.part (by rw [h.sound.len];exact e2),ptOf_first hne2]
       have hfb:firstC s.2 s.1.gone a c (frB r)<256:=by
        have:=bytesN_lt ((nowB r c).extract 0 1) (firstC s.2 s.1.gone a c (frB r)) (by rw [hfirst];simp)
        exact this
       obtain ⟨fb,hfbg⟩:∃fb,fb=firstC s.2 s.1.gone a c (frB r):=⟨_,rfl⟩
       rw [←hfbg] at hfirst hfb
       have hent:bytesN (r.last++(nowB r c).extract 0 1)=symT T a++[fb]:=by rw [bytesN_app,lt,hfirst]
       have hJ:=h'.join (a:=a) (fb:=fb) lb hfb hent ⟨la,lt,lne⟩
       have hfbT:symT T fb=[fb]:=if_pos hfb
       have hnow:bytesN (nowB r c)=symT (T++[symT T a++symT T fb]) (symC s.1.gone c)∧symC s.1.gone c<256+(T++[symT T a++symT T fb]).length:=by
        by_cases hcF:c=frB r
        · have hsy:symC s.1.gone c=256+T.length:=by
           have:=h.len
           unfold symC frB at *
           rw [if_neg (by omega)];omega
          rw [hsy,symT_new]
          refine ⟨?_,by simp⟩
          have hn:nowB r c=r.last++r.last.extract 0 1:=by unfold nowB;rw [if_pos hcF]
          have h3:=hfirst
          rw [hn] at h3 ⊢
          have hsz:(r.last++r.last.extract 0 1).size≠0:=by rw [ba_size_app];omega
          rw [bytesN_first hsz,bytesN_app,lt,bytesN_first lne,lt] at h3
          rw [bytesN_app,lt,bytesN_first lne,lt,hfbT]
          cases hx:symT T a with
          | nil=>exact absurd hx hane
          | cons y l=>rw [hx] at h3;simpa using h3
        · obtain ⟨e1,e2⟩:=h.entry (c:=c) (by omega)
          have hn:nowB r c=entB r.tab c:=by unfold nowB;rw [if_neg hcF]
          rw [hn,e1,symT_app e2]
          exact ⟨rfl,by rw [List.length_append];omega⟩
       have hnne:(nowB r c).size≠0:=fun hx=>by
        have h5:=bytesN_nil.2 hx
        rw [hnow.1] at h5
        exact hJ.sound.ne (by rw [hJ.sound.len];exact hnow.2) h5
       refine ⟨T++[symT T a++symT T fb],?_⟩
       have hfin:=hJ.plain (q:=r.p+zwB m r) hnow.2 hnow.1 hnne
       rw [hfbg] at hfin ⊢
       exact hfin
     · rw [hj,if_neg hroom,if_neg (fun hx=>hroom hx.2)]
       have hcF:c≠frB r:=fun hx=>hb (Or.inr ⟨hx,hroom⟩)
       have hnow:nowB r c=entB r.tab c:=by unfold nowB;rw [if_neg hcF]
       obtain ⟨e1,e2⟩:=h.entry (c:=c) (by omega)
       have hne:(entB r.tab c).size≠0:=fun hx=>by
        have:=bytesN_nil.2 hx
        rw [e1] at this
        exact h.sound.ne (by rw [h.sound.len];exact e2) this
       rw [hnow]
       exact ⟨T,h'.plain e2 e1 hne⟩
theorem zz0 (f:ByteArray):ZZ (f.extract 3 f.size) (bt f 2) (z0 f) {} []:=
 ⟨rfl,rfl,rfl,rfl,Sound.nil,rfl,(fun i hi=>absurd hi (Nat.not_lt_zero _)),Or.inl ⟨rfl,rfl,rfl⟩,(fun x hx=>nomatch hx),rfl,rfl,rfl,rfl⟩
def OnB (f:ByteArray) (n:Nat):Prop:=∀i,i<n→∃q,zitB (f.extract 3 f.size) (bt f 2) i=some q∧zgoB (f.extract 3 f.size) (bt f 2) q=true
theorem zz_run {f:ByteArray}:∀n r,zitB (f.extract 3 f.size) (bt f 2) n=some r→OnB f n→∃T,ZZ (f.extract 3 f.size) (bt f 2) (zit (z0 f) n) r T
 | 0,r,h,_=>by
   simp only [zitB,Option.some.injEq] at h
   subst h
   exact ⟨[],zz0 f⟩
 | n+1,r,h,hon=>by
   obtain ⟨q,hq,hg⟩:=hon n (by omega)
   obtain ⟨T,hT⟩:=zz_run n q hq (fun i hi=>hon i (by omega))
   have h2:(zitB (f.extract 3 f.size) (bt f 2) n).bind (zsB (f.extract 3 f.size) (bt f 2))=some r:=h
   rw [hq] at h2
   exact (hT.step hg).2 r h2
theorem zz_on {f:ByteArray} {n:Nat} (hon:OnB f n):∀i,i<n→zgo (zit (z0 f) i)=true:=fun i hi=>by
 obtain ⟨q,hq,hg⟩:=hon i hi
 obtain ⟨T,hT⟩:=zz_run i q hq (fun j hj=>hon j (by omega))
 rw [hT.go];exact hg
theorem ZGood.file' {f:ByteArray} {n:Nat} {r:ZB} (h:ZGood f n r):SFile f (zit (z0 f) n).2∧(zit (z0 f) n).2.kind=90∧(zit (z0 f) n).2.syms=n∧(zit (z0 f) n).2.whole=ptOf (bytesN r.out):=by
 obtain ⟨T,hT⟩:=zz_run n r h.it h.on
 obtain ⟨z1,z2,z3,z4,z5⟩:=h.file
 refine ⟨SFile.codes (by omega) z2 z3 ?_ ⟨zz_on h.on,by rw [hT.go];exact h.stop⟩ (by rw [hT.ok];exact h.fin),hT.kind,by rw [hT.syms,h.num],hT.whole⟩
 unfold zMost
 rw [decide_eq_true z1,decide_eq_true z4,decide_eq_true z5];rfl
theorem ZNo.none {f:ByteArray} (h:ZNo f) (h4:f.size≤4000) (hz:isSZ f) (hm:zMost f=true) {n:Nat} (hr:ZRun f n) (hk:zOk (zit (z0 f) n)=true):False:=by
 rcases h with h | ⟨h,n0,r,hit,hon,⟨a,b⟩ | ⟨a,b⟩⟩
 · unfold zMost at hm
   simp only [Bool.and_eq_true,decide_eq_true_eq] at hm
   exact h ⟨hm.1.1,h4,hz,hm.1.2,hm.2⟩
 · obtain ⟨T,hT⟩:=zz_run n0 r hit hon
   have hb:=(hT.step a).1 b
   have hrun:ZRun f (n0+1):=by
    refine ⟨fun i hi=>?_,?_⟩
    · by_cases hin:i=n0
      · subst hin;rw [hT.go];exact a
      · exact zz_on hon i (by omega)
    · show zgo (zstep (zit (z0 f) n0))=false
      unfold zgo;rw [hb];rfl
   have:=hr.one hrun
   subst this
   have hk2:zOk (zstep (zit (z0 f) n0))=true:=hk
   unfold zOk at hk2
   rw [hb] at hk2
   cases hk2
 · obtain ⟨T,hT⟩:=zz_run n0 r hit hon
   have hrun:ZRun f n0:=⟨zz_on hon,by rw [hT.go];exact a⟩
   have:=hr.one hrun
   subst this
   rw [hT.ok,b] at hk
   cases hk
theorem flat_self:∀l:List Nat,(∀x,x∈l→x<256)→l.flatMap (symT [])=l
 | [],_=>rfl
 | x :: l,h=>by
   have e:symT [] x=[x]:=if_pos (h x (by simp))
   rw [List.flatMap_cons,e,flat_self l (fun y hy=>h y (by simp [hy]))];rfl
def bytesB (l:List Nat):ByteArray:=⟨(l.map Nat.toUInt8).toArray⟩
structure SText (t:TT) (T:List (List Nat)):Prop where
 sound:Sound t.rules T
 start:∀s,s∈t.start→s<256+t.rules.length
 whole:t.whole=ptOf (t.start.flatMap (symT T))
 rlen:t.rules.length≤9000
 slen:t.start.length≤9000
theorem SText.len {t:TT} {T:List (List Nat)} (h:SText t T) (hw:t.whole.len≤1099511627776):(t.start.flatMap (symT T)).length=t.whole.len:=by
 rw [h.whole,ptOf_len] at hw ⊢
 exact (capL_small hw).symm
theorem mem_flat {T:List (List Nat)}:∀{l:List Nat} {s:Nat},s∈l→(symT T s).length≤(l.flatMap (symT T)).length
 | x :: l,s,h=>by
   rw [List.flatMap_cons,List.length_append]
   rcases List.mem_cons.1 h with h | h
   · subst h;omega
   · have:=mem_flat (T:=T) h;omega
theorem Sound.byte {rs:List RU} {T:List (List Nat)} (h:Sound rs T):∀(k s:Nat),s<k→s<256+rs.length→∀c,c∈symT T s→c<256:=by
 intro k
 induction k with
 | zero=>intro s hs;omega
 | succ k ih=>
   intro s hs hs2 c hc
   by_cases h1:s<256
   · unfold symT at hc;rw [if_pos h1] at hc;simp at hc;omega
   · obtain ⟨x,hx⟩:∃x,rs[s-256]?=some x:=⟨_,List.getElem?_eq_getElem (by omega)⟩
     obtain ⟨u1,u2,u3,_⟩:=h.rule _ _ hx
     have e:symT T s=symT T x.l++symT T x.r:=by rw [←u3];unfold symT;rw [if_neg h1]
     rw [e] at hc
     rcases List.mem_append.1 hc with hc | hc
     · exact ih x.l (by omega) (by omega) c hc
     · exact ih x.r (by omega) (by omega) c hc
structure Ready1 (w:World) (gs bt gp N L:Nat) (inv:Bool) (mx:Int) (M:MP) (t:TT) (rv sv:Value) (T:List (List Nat)) (ps:PcF):Prop where
 si:SI w gs bt gp (256+t.rules.length) N L M.beg inv mx M t rv sv T ps (256+t.rules.length)
 st:SText t T
 len:(t.start.flatMap (symT T)).length≤1099511627776
section
variable {w w':World} {gs bt gp N L:Nat} {inv:Bool} {mx:Int} {M:MP} {t:TT} {rv sv:Value} {T:List (List Nat)} {ps:PcF}
theorem Ready1.kept (h:Ready1 w gs bt gp N L inv mx M t rv sv T ps) (q:Kept [] w w'):Ready1 w' gs bt gp N L inv mx M t rv sv T ps:=⟨h.si.kept q,h.st,h.len⟩
theorem Ready1.real (h:Ready1 w gs bt gp N L inv mx M t rv sv T ps) {s:Nat} (hs:s∈t.start):Real T s:=by
 have h1:=h.st.start s hs
 have h2:=h.st.sound.len
 have h3:=mem_flat (T:=T) hs
 exact ⟨by omega,by have:=h.len;omega⟩
theorem Ready1.pat (h:Ready1 w gs bt gp N L inv mx M t rv sv T ps) {s:Nat} (hs:Real T s):PAt w gp (s*8) (ps s).1 (ps s).2∧PGood M inv (symT T s) (ps s).1:=by
 have h2:=h.st.sound.len
 have hl:s<256+t.rules.length:=by have:=hs.1;omega
 exact ⟨h.si.sp.pat hl hl hs,(h.si.sp.good s hl hs).1⟩
theorem Ready1.nl (h:Ready1 w gs bt gp N L inv mx M t rv sv T ps):PAt w gp (10*8) (ps 10).1 (ps 10).2∧PGood M inv [10] (ps 10).1:=h.pat (s:=10) ⟨by omega,by show ([10]:List Nat).length≤_;decide⟩
end
theorem PieceOk.tail_le {M:MP} {inv:Bool} {x:List Nat} {p:PCE} (h:PieceOk M inv x p) (hn:p.nl≠0):p.tail≤p.len:=by
 rw [h.tail hn,h.len]
 have:=crA_rest_le x []
 simpa using this
theorem inLine_dec (M:MP) (Y:List Nat):decide ((plcOf M Y).beg<(plcOf M Y).pos) = !decide (restL Y=[]):=by
 have h:=inLine_ok M Y
 by_cases hr:restL Y=[]
 · rw [decide_eq_true hr,decide_eq_false (fun hc=>(h.1 hc) hr)];rfl
 · rw [decide_eq_false hr,decide_eq_true (h.2 hr)];rfl
theorem cnt_last {M:MP} {inv:Bool} {p:PCE} (h:PieceOk M inv [10] p) {X:List Nat} (hr:restL X≠[]):cnt M inv (compL X)+endsP inv p (plcOf M X).set=cnt M inv (linesL X):=by
 rw [ends_ok h,compL_app,crA_nl,linesL_cr,if_neg hr];rfl
theorem take_text {T:List (List Nat)} {l:List Nat} {q s:Nat} (hs:l[q]?=some s):(l.take (q+1)).flatMap (symT T)=(l.take q).flatMap (symT T)++symT T s:=by
 rw [List.take_add_one,hs,List.flatMap_append];simp
theorem take_len (T:List (List Nat)) (l:List Nat) (q:Nat):((l.take q).flatMap (symT T)).length≤(l.flatMap (symT T)).length:=by
 have:((l.take q).flatMap (symT T))++((l.drop q).flatMap (symT T))=l.flatMap (symT T):=by rw [←List.flatMap_append,List.take_append_drop]
 rw [←this,List.length_append];omega
theorem plc_bd (M:MP) (Y:List Nat) (h:Y.length≤1099511627776):(plcOf M Y).pos≤1099511627776∧(plcOf M Y).beg≤1099511627776∧(plcOf M Y).lines≤1099511627776:=by
 have:=comp_le Y
 unfold plcOf
 exact ⟨h,by simp only [];omega,by simp only [];omega⟩
theorem scount_any {w:World} {gs bt gp N L:Nat} {inv:Bool} {mx:Int} {M:MP} {t:TT} {rv sv:Value} {T:List (List Nat)} {ps:PcF} (h:Ready1 w gs bt gp N L inv mx M t rv sv T ps) (hm1:-9223372036854775808≤mx) (hm2:mx≤9223372036854775807):
 Calls Tryz.prog 8 #[.pointer (some ⟨gs,0,none⟩)] w fun e w'=>e=.returned (.int .i64 (capI mx (cnt M inv (linesL (t.start.flatMap (symT T))))))∧Kept [] w w':=by
 have hH:Hid (Ready1 _ _ _ _ _ _ _ _ _ _ _ _ _ _):=h
 obtain ⟨sa,sn,sc,hsv⟩:=own_shape h.si.sp.tr.start
 have hsn:sn=t.start.length:=by
  rcases h.si.sp.tr.start.2 with ⟨h1,h2⟩ | ⟨g,cap,_,h1,_⟩
  · rw [hsv] at h1;simp at h1;omega
  · rw [hsv] at h1;simp at h1;omega
 subst hsn
 have hslen:=h.st.slen
 have s0:w.cell? ⟨gs,0,none⟩=some (.pointer (some ⟨bt,0,none⟩)):=h.si.s.cell 0
 have s1:w.cell? ⟨gs,1,none⟩=some (UV M.beg):=h.si.s.cell 1
 have s3:w.cell? ⟨gs,3,none⟩=some (.int .i64 mx):=h.si.s.cell 3
 have t3:w.cell? ⟨bt,3,none⟩=some (.slice sa t.start.length sc):=by have:=h.si.sp.tr.cell 3;rw [hsv] at this;exact this
 have lgs:=h.si.s.lt
 have lbt:=h.si.sp.tr.blk.lt
 have hcell:Hid (∀(q s:Nat),t.start[q]?=some s→∃g,sa=some ⟨g,0,none⟩∧w.cell? ⟨g,q,none⟩=some (.int .i64 (s:Int))∧g<w.heap.size):=fun q s hs=>by
  have hq:=(List.getElem?_eq_some_iff.1 hs).1
  obtain ⟨g,cap,hv⟩:=own_form h.si.sp.tr.start (by omega)
  have hc:(symCells t.start)[q]?=some (.int .i64 (s:Int)):=by unfold symCells;rw [List.getElem?_map,hs];rfl
  have h3:=h.si.sp.tr.start.cells (g:=g) (by rw [hv];rfl) q _ hc
  rw [ptr_add] at h3
  rw [hsv] at hv
  simp only [Value.slice.injEq] at hv
  exact ⟨g,hv.1,h3,(h.si.sp.tr.start.lt g (by rw [hsv,hv.1];rfl)).2⟩
 have hst:Hid (Blk (w.alloc (.cells #[.int .i64 0,.int .i64 0,.int .i64 0,UV M.beg] 75)) w.heap.size (plCells (plcOf M [])) 75∧Kept [] w (w.alloc (.cells #[.int .i64 0,.int .i64 0,.int .i64 0,UV M.beg] 75))):=⟨Blk.new w _ _,(Kept.refl [] w).alloc _⟩
 have hlenX:=h.len
 have hlenH:Hid (∀q,((t.start.take q).flatMap (symT T)).length≤1099511627776):=fun q=>Nat.le_trans (take_len T t.start q) hlenX
 clear h hsv
 generalize hBG:M.beg=BG at *
 have hBGH:Hid (M.beg=BG):=hBG
 clear hBG
 go_enter Tryz.func8,Tryz.ntmps8
 go_wp2_with fail
 go_loopw [3,5] (fun cv iv wr=>∃q:Nat,cv=.int .i64 (cnt M inv (compL ((t.start.take q).flatMap (symT T))):Int)∧iv=.int .i64 (q:Int)∧q≤t.start.length∧Blk wr w.heap.size (plCells (plcOf M ((t.start.take q).flatMap (symT T)))) 75∧Kept [] w wr) (fun _ iv _=>((t.start.length:Int)-intOf iv).toNat)
 case atStart=>exact ⟨0,rfl,rfl,Nat.zero_le _,hst.out.1,hst.out.2⟩
 case round=>
  obtain ⟨q,rfl,rfl,hq,hB,hK⟩:=hrel
  clear hst
  have s0':=(hK.cell lgs 0).trans s0
  have s3':=(hK.cell lgs 3).trans s3
  have t3':=(hK.cell lbt 3).trans t3
  have hBH:Hid (Blk _ _ _ _):=hB
  have hKH:Hid (Kept _ _ _):=hK
  obtain ⟨b0,b1,b2,b3,bl⟩:=all4 hB
  have lwr:=hK.size
  have hYb:=hlenH.out q
  have hcb:cnt M inv (compL ((t.start.take q).flatMap (symT T)))≤1099511627776:=by
   have:=cnt_le M inv (compL ((t.start.take q).flatMap (symT T)))
   have:=comp_le ((t.start.take q).flatMap (symT T))
   omega
  obtain ⟨d1,d2,d3⟩:=plc_bd M _ hYb
  by_cases hlt:(q:Int)<(t.start.length:Int)
  · obtain ⟨s,hs⟩:∃s,t.start[q]?=some s:=⟨_,List.getElem?_eq_getElem (by omega)⟩
    obtain ⟨g,rfl,c1,lg⟩:=hcell.out q s hs
    have c1':=(hK.cell lg q).trans c1
    have hreal:=hH.out.real (List.mem_of_getElem? hs)
    have hR:=hH.out.kept hK
    obtain ⟨hpa,hpg⟩:=hR.pat hreal
    have hpc:Hid (∀w',Kept [] wr w'→Calls _ _ _ w' _):=fun w' k=>piece_at ((hR.kept k).si) (j:=s) (by have:=hreal.1;have:=hR.st.sound.len;omega)
    have hce:Hid (∀w',Kept [] wr w'→Calls _ _ _ w' _):=fun w' k=>countEnds_any (gs:=gs) (plcOf M ((t.start.take q).flatMap (symT T))).set ((hR.kept k).si.cinv) (hpa.kept k)
    have hbe:Hid (∀w',Kept [] wr w'→Calls _ _ _ w' _):=fun w' k=>behindC_any (hpa.kept k) (plcOf M ((t.start.take q).flatMap (symT T))) (fun hn=>hpg.ok.tail_le hn) d1 d2 d3
    have e1:=ends_ok hpg.ok ((t.start.take q).flatMap (symT T))
    have e2:=plc_ok hpg.ok ((t.start.take q).flatMap (symT T))
    rw [←take_text hs] at e1 e2
    rw [e2] at hbe
    have hcb2:cnt M inv (compL ((t.start.take (q+1)).flatMap (symT T)))≤1099511627776:=by
     have:=cnt_le M inv (compL ((t.start.take (q+1)).flatMap (symT T)))
     have:=comp_le ((t.start.take (q+1)).flatMap (symT T))
     have:=hlenH.out (q+1)
     omega
    clear hB hK hR hpa hpg hreal hs hH hcell s0 s1 s3 t3 c1 e2 hlenH
    generalize hP2:plcOf M ((t.start.take (q+1)).flatMap (symT T))=P2 at *
    have hP2H:Hid (_=P2):=hP2
    clear hP2
    generalize hC2:cnt M inv (compL ((t.start.take (q+1)).flatMap (symT T)))=C2 at *
    have hC2H:Hid (_=C2):=hC2
    clear hC2
    generalize plcOf M ((t.start.take q).flatMap (symT T))=P1 at *
    generalize cnt M inv (compL ((t.start.take q).flatMap (symT T)))=C1 at *
    generalize endsP inv (ps s).1 P1.set=EN at *
    have e1i:(C1:Int)+(EN:Int)=(C2:Int):=by omega
    have e1H:Hid ((C1:Int)+(EN:Int)=(C2:Int)):=e1i
    have hEb:EN≤1099511627776:=by omega
    clear e1 e1i
    unfold plCells at hbe
    go_wp2_with (first
     | (go_at_call 16;refine (hpc.out _ (Kept.refl _ _)).mono ?_;rintro _ _ ⟨rfl,rfl⟩)
     | (go_at_call 17;refine (hce.out _ (Kept.refl _ _)).mono ?_;rintro _ _ ⟨rfl,rfl⟩)
     | (go_at_call 18;refine (hbe.out _ (Kept.refl _ _)).mono ?_;rintro _ w5 ⟨rfl,k5⟩;have B5:Hid (Blk w5 _ _ _):=hBH.out.kept k5 (by simp);have K5:Hid (Kept [] w w5):=hKH.out.trans k5;obtain ⟨g0,g1,g2,g3,gl⟩:=all4 B5.out;obtain ⟨f0,f1,f2,f3⟩:=froz4 B5.out))
    refine ⟨⟨q+1,by rw [hC2H.out,e1H.out],by go_num,by omega,?_,?_⟩,?_⟩
    · rw [hP2H.out];exact res4 B5.out _ _ _ _
    · exact (((K5.out.setCell (Or.inr (by simp)) _).setCell (Or.inr (by simp)) _).setCell (Or.inr (by simp)) _).setCell (Or.inr (by simp)) _
    · simp only [intOf];omega
  · have hqe:q=t.start.length:=by omega
    subst hqe
    rw [List.take_length] at hBH b0 b1 b2 b3 hYb hcb d1 d2 d3 ⊢
    have hR:=hH.out.kept hK
    obtain ⟨hpa,hpg⟩:=hR.nl
    have hpc:Hid (∀w',Kept [] wr w'→Calls _ _ _ w' _):=fun w' k=>piece_at ((hR.kept k).si) (j:=10) (by omega)
    have hce:Hid (∀w',Kept [] wr w'→Calls _ _ _ w' _):=fun w' k=>countEnds_any (gs:=gs) (plcOf M (t.start.flatMap (symT T))).set ((hR.kept k).si.cinv) (hpa.kept k)
    have hil:Hid (∀w',Calls _ _ _ w' _):=fun w'=>isInLine_any w' (plcOf M (t.start.flatMap (symT T)))
    rw [inLine_dec] at hil
    have hle:=endsP_le inv (ps 10).1 (plcOf M (t.start.flatMap (symT T))).set
    have hib:=hpa.bd.inside
    have hlast:Hid (restL (t.start.flatMap (symT T))≠[]→cnt M inv (compL (t.start.flatMap (symT T)))+endsP inv (ps 10).1 (plcOf M (t.start.flatMap (symT T))).set=cnt M inv (linesL (t.start.flatMap (symT T)))):=cnt_last hpg.ok
    have hnone:Hid (restL (t.start.flatMap (symT T))=[]→cnt M inv (compL (t.start.flatMap (symT T)))=cnt M inv (linesL (t.start.flatMap (symT T)))):=fun hr=>by rw [linesL_cr,if_pos hr,List.append_nil]
    clear hB hK hR hpa hpg hH hcell s0 s1 s3 t3 hlenH
    generalize hX:t.start.flatMap (symT T)=X at *
    have hXH:Hid (t.start.flatMap (symT T)=X):=hX
    clear hX
    generalize plcOf M X=P1 at *
    generalize cnt M inv (compL X)=C1 at *
    generalize hCL:cnt M inv (linesL X)=CL at *
    have hCLH:Hid (cnt M inv (linesL X)=CL):=hCL
    clear hCL
    generalize endsP inv (ps 10).1 P1.set=EN at *
    by_cases hr:restL X=[]
    · have e:=hnone.out hr
      rw [decide_eq_true hr] at hil
      clear hnone hlast hpc hce hr hle hib
      subst e
      have hcap:Hid (∀w',Kept [] w w'→((0<mx∧mx<(C1:Int))→capI mx C1=mx)∧(¬(0<mx∧mx<(C1:Int))→capI mx C1=(C1:Int))):=fun _ _=>⟨fun h=>if_pos h,fun h=>if_neg h⟩
      by_cases hm:0<mx
      · by_cases hm3:mx<(C1:Int)
        · have e:Hid (capI mx C1=mx):=if_pos ⟨hm,hm3⟩
          clear hcap
          go_wp2_with (go_at_call 19;refine (hil.out _).mono ?_;rintro _ w5 ⟨rfl,k5⟩;have K5:Hid (Kept [] w w5):=hKH.out.trans k5;have s3q:=(k5.cell (by omega) 3).trans s3')
          go_ret
          exact ⟨by rw [hXH.out,hCLH.out,e.out];rfl,K5.out⟩
        · have e:Hid (capI mx C1=(C1:Int)):=if_neg (fun h=>hm3 h.2)
          clear hcap
          go_wp2_with (go_at_call 19;refine (hil.out _).mono ?_;rintro _ w5 ⟨rfl,k5⟩;have K5:Hid (Kept [] w w5):=hKH.out.trans k5;have s3q:=(k5.cell (by omega) 3).trans s3')
          go_ret
          exact ⟨by rw [hXH.out,hCLH.out,e.out];rfl,K5.out⟩
      · have e:Hid (capI mx C1=(C1:Int)):=if_neg (fun h=>hm h.1)
        clear hcap
        go_wp2_with (go_at_call 19;refine (hil.out _).mono ?_;rintro _ w5 ⟨rfl,k5⟩;have K5:Hid (Kept [] w w5):=hKH.out.trans k5;have s3q:=(k5.cell (by omega) 3).trans s3')
        go_ret
        exact ⟨by rw [hXH.out,hCLH.out,e.out];rfl,K5.out⟩
    · have e:=hlast.out hr
      have ei:(C1:Int)+(EN:Int)=(CL:Int):=by omega
      have eH:Hid ((C1:Int)+(EN:Int)=(CL:Int)):=ei
      have hEb:EN≤1099511627777:=by omega
      rw [decide_eq_false hr] at hil
      clear hnone hlast hr hle hib e ei
      by_cases hm:0<mx
      · by_cases hm3:mx<(C1:Int)+(EN:Int)
        · have e:Hid (capI mx CL=mx):=if_pos ⟨hm,by rw [←eH.out];exact hm3⟩
          go_wp2_with (first
           | (go_at_call 19;refine (hil.out _).mono ?_;rintro _ w5 ⟨rfl,k5⟩;have K5:Hid (Kept [] w w5):=hKH.out.trans k5;have s3q:=(k5.cell (by omega) 3).trans s3';have b3q:=(k5.cell bl 3).trans b3;have k5H:Hid (Kept [] wr w5):=k5)
           | (go_at_call 16;refine (hpc.out _ k5H.out).mono ?_;rintro _ _ ⟨rfl,rfl⟩)
           | (go_at_call 17;refine (hce.out _ k5H.out).mono ?_;rintro _ _ ⟨rfl,rfl⟩))
          go_ret
          exact ⟨by rw [hXH.out,hCLH.out,e.out];rfl,K5.out⟩
        · have e:Hid (capI mx CL=(C1:Int)+(EN:Int)):=by show capI _ _=_;rw [eH.out];exact if_neg (fun h=>hm3 (by rw [eH.out];exact h.2))
          go_wp2_with (first
           | (go_at_call 19;refine (hil.out _).mono ?_;rintro _ w5 ⟨rfl,k5⟩;have K5:Hid (Kept [] w w5):=hKH.out.trans k5;have s3q:=(k5.cell (by omega) 3).trans s3';have b3q:=(k5.cell bl 3).trans b3;have k5H:Hid (Kept [] wr w5):=k5)
           | (go_at_call 16;refine (hpc.out _ k5H.out).mono ?_;rintro _ _ ⟨rfl,rfl⟩)
           | (go_at_call 17;refine (hce.out _ k5H.out).mono ?_;rintro _ _ ⟨rfl,rfl⟩))
          go_ret
          exact ⟨by rw [hXH.out,hCLH.out,e.out];rfl,K5.out⟩
      · have e:Hid (capI mx CL=(C1:Int)+(EN:Int)):=by show capI _ _=_;rw [eH.out];exact if_neg (fun h=>hm h.1)
        go_wp2_with (first
         | (go_at_call 19;refine (hil.out _).mono ?_;rintro _ w5 ⟨rfl,k5⟩;have K5:Hid (Kept [] w w5):=hKH.out.trans k5;have s3q:=(k5.cell (by omega) 3).trans s3';have b3q:=(k5.cell bl 3).trans b3;have k5H:Hid (Kept [] wr w5):=k5)
         | (go_at_call 16;refine (hpc.out _ k5H.out).mono ?_;rintro _ _ ⟨rfl,rfl⟩)
         | (go_at_call 17;refine (hce.out _ k5H.out).mono ?_;rintro _ _ ⟨rfl,rfl⟩))
        go_ret
        exact ⟨by rw [hXH.out,hCLH.out,e.out];rfl,K5.out⟩
end Go.Proofs.YtgifhgnccmnbiabGreat
namespace Go.Proofs.YtgifhgnccmnbiabGreat
end Go.Proofs.YtgifhgnccmnbiabGreat
namespace Go.Proofs.YtgifhgnccmnbiabGreat
open Go.RowKit Go.IntWalk
section
variable {w0:World} {F gs bt gp N L most:Nat} {inv:Bool} {mx:Int} {M:MP} {t:TT} {rv sv:Value} {T:List (List Nat)} {ps:PcF}
end
theorem kept_growP {w0 w w':World} {v:Value} {e z n:Nat} {xs:List Value} (k:Kept [] w0 w) (h:w.ownsRow w0.heap.size e z v n xs) (g:w.grownBy w' v.ownBlock):Kept [] w0 w':=
 ⟨g.os.trans k.os,g.tape.trans k.tape,g.output.trans k.output,Nat.le_trans k.size g.size,fun i hi _=>(g.block i (Nat.lt_of_lt_of_le hi k.size) (fun hc=>by have:=(h.lt i hc.symm).1;omega)).trans (k.block i hi (by simp))⟩
end Go.Proofs.YtgifhgnccmnbiabGreat
