/- The words that a node takes; the part of each node takes them, and has room. No Go in it. -/
import Derived.Test.YtgifhgnccmnbiabGreatG07
import Derived.Test.YtgifhgnccmnbiabGreatG16
set_option linter.unusedVariables false
set_option linter.unusedSimpArgs false
set_option maxHeartbeats 4000000
set_option maxRecDepth 100000
namespace Go.Proofs.YtgifhgnccmnbiabGreat
inductive W (ns:List AN):Nat→List Nat→Prop
 | none {k n}:ns[k]?=some n→n.kind=0→W ns k []
 | step {k n}:ns[k]?=some n→(n.kind=1∨n.kind=2∨n.kind=3)→W ns k [k]
 | both {k n l r u v}:ns[k]?=some n→n.kind=4→n.left=((l:Nat):Int)→n.right=((r:Nat):Int)→W ns l u→W ns r v→W ns k (u++v)
 | left {k n l u}:ns[k]?=some n→n.kind=5→n.left=((l:Nat):Int)→W ns l u→W ns k u
 | right {k n r u}:ns[k]?=some n→n.kind=5→n.right=((r:Nat):Int)→W ns r u→W ns k u
 | rep {k n l} {us:List (List Nat)}:ns[k]?=some n→n.kind=6→n.left=((l:Nat):Int)→(∀u,u∈us→W ns l u)→n.least≤(us.length:Int)→(n.most = -1∨(us.length:Int)≤n.most)→W ns k us.flatten
section
variable {ns:List AN} {k:Nat} {n:AN} {u:List Nat}
theorem W.zero (hn:ns[k]?=some n) (hk:n.kind=0):W ns k u↔u=[]:=by
 constructor
 · intro h
   cases h with
   | none=>rfl
   | step a b=>rw [hn] at a;cases a;omega
   | both a b=>rw [hn] at a;cases a;omega
   | left a b=>rw [hn] at a;cases a;omega
   | right a b=>rw [hn] at a;cases a;omega
   | rep a b=>rw [hn] at a;cases a;omega
 · rintro rfl;exact W.none hn hk
theorem W.one (hn:ns[k]?=some n) (hk:n.kind=1∨n.kind=2∨n.kind=3):W ns k u↔u=[k]:=by
 constructor
 · intro h
   cases h with
   | none a b=>rw [hn] at a;cases a;omega
   | step=>rfl
   | both a b=>rw [hn] at a;cases a;omega
   | left a b=>rw [hn] at a;cases a;omega
   | right a b=>rw [hn] at a;cases a;omega
   | rep a b=>rw [hn] at a;cases a;omega
 · rintro rfl;exact W.step hn hk
theorem W.two (hn:ns[k]?=some n) (hk:n.kind=4) {l r:Nat} (hl:n.left=(l:Int)) (hr:n.right=(r:Int)):W ns k u↔∃x y,u=x++y∧W ns l x∧W ns r y:=by
 constructor
 · intro h
   cases h with
   | none a b=>rw [hn] at a;cases a;omega
   | step a b=>rw [hn] at a;cases a;omega
   | both a b c d x y=>
     rw [hn] at a;cases a
     rw [hl] at c;rw [hr] at d
     cases Int.ofNat_inj.1 c;cases Int.ofNat_inj.1 d
     exact ⟨_,_,rfl,x,y⟩
   | left a b=>rw [hn] at a;cases a;omega
   | right a b=>rw [hn] at a;cases a;omega
   | rep a b=>rw [hn] at a;cases a;omega
 · rintro ⟨x,y,rfl,h1,h2⟩;exact W.both hn hk hl hr h1 h2
theorem W.alt (hn:ns[k]?=some n) (hk:n.kind=5) {l r:Nat} (hl:n.left=(l:Int)) (hr:n.right=(r:Int)):W ns k u↔W ns l u∨W ns r u:=by
 constructor
 · intro h
   cases h with
   | none a b=>rw [hn] at a;cases a;omega
   | step a b=>rw [hn] at a;cases a;omega
   | both a b=>rw [hn] at a;cases a;omega
   | left a b c x=>rw [hn] at a;cases a;rw [hl] at c;cases Int.ofNat_inj.1 c;exact Or.inl x
   | right a b c x=>rw [hn] at a;cases a;rw [hr] at c;cases Int.ofNat_inj.1 c;exact Or.inr x
   | rep a b=>rw [hn] at a;cases a;omega
 · rintro (h | h)
   · exact W.left hn hk hl h
   · exact W.right hn hk hr h
theorem W.many (hn:ns[k]?=some n) (hk:n.kind=6) {l:Nat} (hl:n.left=(l:Int)):W ns k u↔∃m,n.least≤((m:Nat):Int)∧(n.most = -1∨(m:Int)≤n.most)∧Many (W ns l) m u:=by
 constructor
 · intro h
   cases h with
   | none a b=>rw [hn] at a;cases a;omega
   | step a b=>rw [hn] at a;cases a;omega
   | both a b=>rw [hn] at a;cases a;omega
   | left a b=>rw [hn] at a;cases a;omega
   | right a b=>rw [hn] at a;cases a;omega
   | rep a b c x y z=>rw [hn] at a;cases a;rw [hl] at c;cases Int.ofNat_inj.1 c;exact ⟨_,y,z,_,rfl,rfl,x⟩
 · rintro ⟨m,h1,h2,us,rfl,rfl,h3⟩;exact W.rep hn hk hl h3 h1 h2
end
def partN (ns:List AN) (q:Nat):GP:=partOfP (ns.getD q dummyN) q (partsQ ns q)
theorem partsQ_get (ns:List AN):∀q i,i<q→(partsQ ns q)[i]?=some (partN ns i)
 | 0,i,h=>by omega
 | q+1,i,h=>by
   rw [partsQ]
   by_cases hi:i<q
   · rw [List.getElem?_append_left (by rw [partsQ_length];exact hi)]
     exact partsQ_get ns q i hi
   · obtain rfl:i=q:=by omega
     rw [List.getElem?_append_right (by rw [partsQ_length];omega),partsQ_length,Nat.sub_self]
     rfl
theorem partAt_get (ns:List AN) {q l:Nat} (h:l<q):partAtP (partsQ ns q) (l:Int)=partN ns l:=by
 unfold partAtP
 rw [if_pos (by omega),Int.toNat_natCast,partsQ_get ns q l h]
 rfl
theorem stepP_fit (k:Nat):(stepP k).Fit:=by
 have h1:∀i,(1#64:B64).getLsbD i=true→i<1:=fun i h=>by
  rw [BitVec.getLsbD_one] at h
  simp at h
  omega
 exact ⟨by show (1:Nat)≤60;omega,h1,h1,fun s i h=>by simp [stepP] at h⟩
theorem stepP_lang (k:Nat) (u:List Nat):(stepP k).Lang u↔u=[k]:=by
 have hb:(1#64:B64).getLsbD 0=true:=by decide
 constructor
 · rintro ⟨l,hl,rfl⟩
   cases l with
   | nil=>simp [GP.Acc,stepP] at hl
   | cons d r=>
     have hd:=(stepP_fit k).first d hl.1
     simp only [stepP] at hd
     obtain rfl:d=0:=by omega
     cases r with
     | nil=>rfl
     | cons e r=>have:=hl.2.1;simp [stepP] at this
 · rintro rfl
   exact ⟨[0],⟨hb,hb⟩,rfl⟩
structure PartOfN (ns:List AN) (q:Nat):Prop where
 fit:(partN ns q).Fit
 count:((partN ns q).count:Int)≤sizeAt ns q
 lang:∀u,(partN ns q).Lang u↔W ns q u
 node:∀i,(partN ns q).node i≤q
theorem repN_le {a b:Int} (h0:0≤a) (hb:b = -1∨0≤b):((repN a b:Nat):Int)≤timesS a b:=by
 unfold repN timesS
 by_cases h:b = -1
 · rw [if_pos h,if_pos h];repeat' split
   all_goals omega
 · rw [if_neg h,if_neg h];split <;> omega
theorem beside_node (a b:GP) (q:Nat) (ha:∀i,a.node i≤q) (hb:∀i,b.node i≤q) (i:Nat):(besideP a b).node i≤q:=by
 simp only [besideP];split
 · exact hb _
 · exact ha _
theorem copies_node (a:GP) (q:Nat) (ha:∀i,a.node i≤q) (e:Bool) (l t:Nat):∀k i,(copiesP a e l t k).node i≤q
 | 0,i=>Nat.zero_le _
 | k+1,i=>by
   refine beside_node _ _ q (copies_node a q ha e l t k) (fun i=>?_) i
   unfold oneP
   simp only []
   repeat' split
   all_goals exact ha i
theorem part_step {ns:List AN} (hok:NodesOk ns) (hall:∀i,i<ns.length→sizeAt ns i≤60) (hlen:ns.length≤900) {q:Nat} (hq:q<ns.length) (ih:∀l,l<q→PartOfN ns l):
 PartOfN ns q∧∃n,ns[q]?=some n∧0≤n.kind∧n.kind≤6∧NodeFits n (partsQ ns q):=by
 obtain ⟨n,hn⟩:∃n,ns[q]?=some n:=⟨_,List.getElem?_eq_getElem hq⟩
 have hgd:ns.getD q dummyN=n:=by rw [List.getD_eq_getElem?_getD,hn];rfl
 have hsz:sizeAt ns q=n.size:=by unfold sizeAt;rw [hn];rfl
 have h60:=hall q hq
 obtain ⟨h1,h2,h3,h4⟩:=hok q n hn
 have hP:partN ns q=partOfP n q (partsQ ns q):=by unfold partN;rw [hgd]
 rcases h4 with ⟨hk,hl,hr,hs⟩ | ⟨hk,l,r,hlq,hrq,hl,hr,hs⟩ | ⟨hk,l,hlq,hl,hr,b1,b2,b3,b4,b5,hs⟩
 · refine ⟨?_,n,hn,by omega,by omega,⟨by omega,by omega,fun h=>by omega,fun h=>by omega,fun h=>by omega⟩⟩
   by_cases h0:n.kind=0
   · have e:partN ns q=noneP:=by rw [hP];unfold partOfP;rw [if_pos h0]
     exact ⟨by rw [e];exact noneP_fit,by rw [e,hsz];show ((0:Nat):Int)≤_;omega,fun u=>by rw [e,noneP_lang,W.zero hn h0],fun i=>by rw [e];exact Nat.zero_le _⟩
   · have e:partN ns q=stepP q:=by rw [hP];unfold partOfP;rw [if_neg h0,if_neg (by omega),if_neg (by omega),if_neg (by omega)]
     exact ⟨by rw [e];exact stepP_fit q,by rw [e,hsz];show ((1:Nat):Int)≤_;omega,fun u=>by rw [e,stepP_lang,W.one hn (by omega)],fun i=>by rw [e];simp only [stepP];split <;> omega⟩
 · have pl:=ih l hlq
   have pr:=ih r hrq
   have el:=partAt_get ns hlq
   have er:=partAt_get ns hrq
   have hsum:(partN ns l).count+(partN ns r).count≤60:=by
    have:=pl.count;have:=pr.count
    rw [hsz,hs] at h60
    split at h60 <;> omega
   have hcnt:(((partN ns l).count+(partN ns r).count:Nat):Int)≤sizeAt ns q:=by
    have:=pl.count;have:=pr.count
    rw [hsz,hs]
    rw [hsz,hs] at h60
    split <;> split at h60 <;> omega
   refine ⟨?_,n,hn,by omega,by omega,⟨by omega,by omega,fun _=>by rw [hl,hr,el,er];exact hsum,fun h=>by omega,fun h=>by omega⟩⟩
   rcases hk with hk | hk
   · have e:partN ns q=bothP (partN ns l) (partN ns r):=by rw [hP];unfold partOfP;rw [if_neg (by omega),if_pos hk,hl,hr,el,er]
     refine ⟨by rw [e];exact both_fit pl.fit pr.fit hsum,by rw [e];exact hcnt,fun u=>?_,fun i=>by rw [e];exact beside_node _ _ q (fun i=>by have:=pl.node i;omega) (fun i=>by have:=pr.node i;omega) i⟩
     rw [e,both_lang pl.fit pr.fit hsum,W.two hn hk hl hr]
     simp only [pl.lang,pr.lang]
   · have e:partN ns q=eitherP (partN ns l) (partN ns r):=by rw [hP];unfold partOfP;rw [if_neg (by omega),if_neg (by omega),if_pos hk,hl,hr,el,er]
     refine ⟨by rw [e];exact either_fit pl.fit pr.fit hsum,by rw [e];exact hcnt,fun u=>?_,fun i=>by rw [e];exact beside_node _ _ q (fun i=>by have:=pl.node i;omega) (fun i=>by have:=pr.node i;omega) i⟩
     rw [e,either_lang pl.fit pr.fit hsum,W.alt hn hk hl hr]
     simp only [pl.lang,pr.lang]
 · have pl:=ih l hlq
   have el:=partAt_get ns hlq
   have hle:=repN_le (a:=n.least) (b:=n.most) b1 (by omega)
   have hsl:1≤sizeAt ns l:=(hok.size (by omega)).1
   have hmul:((repN n.least n.most*(partN ns l).count:Nat):Int)≤sizeAt ns l*timesS n.least n.most:=by
    rw [Int.natCast_mul,Int.mul_comm]
    exact Int.mul_le_mul pl.count hle (by omega) (by omega)
   have hrep:repN n.least n.most*(partN ns l).count≤60:=by
    rw [hsz,hs] at h60
    split at h60 <;> omega
   have hcnt:((repN n.least n.most*(partN ns l).count:Nat):Int)≤sizeAt ns q:=by
    rw [hsz,hs]
    rw [hsz,hs] at h60
    split <;> split at h60 <;> omega
   refine ⟨?_,n,hn,by omega,by omega,⟨by omega,by omega,fun h=>by omega,fun _=>by rw [hl,el];exact pl.fit,fun _=>⟨b1,b2,b3,b4,by rw [hl,el];exact hrep⟩⟩⟩
   have e:partN ns q=repP (partN ns l) n.least n.most:=by rw [hP];unfold partOfP;rw [if_neg (by omega),if_neg (by omega),if_neg (by omega),if_pos hk,hl,el]
   have hnode:∀i,(partN ns q).node i≤q:=fun i=>by
    rw [e];unfold repP
    split <;> exact copies_node _ q (fun i=>by have:=pl.node i;omega) _ _ _ _ i
   by_cases hm:n.most = -1
   · have er:repN n.least n.most=(if n.least.toNat<1 then 1 else n.least.toNat):=by unfold repN;rw [if_pos hm]
     have ep:repP (partN ns l) n.least n.most=copiesP (partN ns l) true n.least.toNat (repN n.least n.most) (repN n.least n.most):=by rw [er];unfold repP;rw [if_pos hm]
     obtain ⟨f1,f2⟩:=copiesP_fit pl.fit true n.least.toNat (repN n.least n.most) (repN n.least n.most) hrep
     refine ⟨by rw [e,ep];exact f1,by rw [e,ep,f2];exact hcnt,fun u=>?_,hnode⟩
     rw [e,ep,er,endless_lang pl.fit n.least.toNat (by rw [←er];exact hrep),W.many hn hk hl]
     constructor
     · rintro ⟨m,h5,us,h6,h7,h8⟩;exact ⟨m,by omega,Or.inl hm,us,h6,h7,fun x hx=>(pl.lang x).1 (h8 x hx)⟩
     · rintro ⟨m,h5,_,us,h6,h7,h8⟩;exact ⟨m,by omega,us,h6,h7,fun x hx=>(pl.lang x).2 (h8 x hx)⟩
   · have er:repN n.least n.most=n.most.toNat:=by unfold repN;rw [if_neg hm]
     have ep:repP (partN ns l) n.least n.most=copiesP (partN ns l) false n.least.toNat (repN n.least n.most) (repN n.least n.most):=by rw [er];unfold repP;rw [if_neg hm]
     obtain ⟨f1,f2⟩:=copiesP_fit pl.fit false n.least.toNat (repN n.least n.most) (repN n.least n.most) hrep
     refine ⟨by rw [e,ep];exact f1,by rw [e,ep,f2];exact hcnt,fun u=>?_,hnode⟩
     rw [e,ep,er,upto_lang pl.fit n.least.toNat n.most.toNat (by rw [←er];exact hrep) (by omega),W.many hn hk hl]
     constructor
     · rintro ⟨m,h5,h9,us,h6,h7,h8⟩;exact ⟨m,by omega,Or.inr (by omega),us,h6,h7,fun x hx=>(pl.lang x).1 (h8 x hx)⟩
     · rintro ⟨m,h5,h9,us,h6,h7,h8⟩;exact ⟨m,by omega,by omega,us,h6,h7,fun x hx=>(pl.lang x).2 (h8 x hx)⟩
theorem part_all {ns:List AN} (hok:NodesOk ns) (hall:∀i,i<ns.length→sizeAt ns i≤60) (hlen:ns.length≤900):∀m q,q<m→q<ns.length→PartOfN ns q
 | 0,_,h,_=>by omega
 | m+1,q,h,hq=>(part_step hok hall hlen hq (fun l hl=>part_all hok hall hlen m l (by omega) (by omega))).1
theorem nodes_fit {ns:List AN} (hok:NodesOk ns) (hall:∀i,i<ns.length→sizeAt ns i≤60) (hlen:ns.length≤900):NodesFit ns:=fun q n hn=>by
 have hq:=(List.getElem?_eq_some_iff.1 hn).1
 obtain ⟨_,n',hn',h⟩:=part_step hok hall hlen hq (fun l hl=>part_all hok hall hlen q l hl (by omega))
 rw [hn] at hn'
 cases hn'
 exact h
theorem D.fw {t:ByteArray} {tag cur:Nat} {st:PS} {r:Nat×PS} (h:D t tag cur st r):Fits t st.1→Fw t st r:=by
 induction h with
 | pattern _ _ a b=>intro hf;have f1:=a hf;have f2:=b f1.fit;exact ⟨f2.fit,Nat.le_trans f1.ge f2.ge⟩
 | empty he=>intro hf;exact ⟨hf,Nat.le_refl _⟩
 | branch he _ _ a b=>intro hf;have f1:=a hf;have f2:=b f1.fit;exact ⟨f2.fit,Nat.le_trans f1.ge f2.ge⟩
 | piece _ _ a b=>intro hf;have f1:=a hf;have f2:=b f1.fit;exact ⟨f2.fit,Nat.le_trans f1.ge f2.ge⟩
 | @group cur st r1 he _ a=>
   intro hf
   have f1:=close_fw (a (fits_next hf))
   exact ⟨f1.fit,Nat.le_trans (next_ge hf) f1.ge⟩
 | @list cur st he=>
   intro hf
   have f1:=list_fw (t:=t) (st:=((nextS t st.1).2,st.2)) (fits_next hf)
   exact ⟨f1.fit,Nat.le_trans (next_ge hf) f1.ge⟩
 | @plain cur st h1 h2=>
   intro hf
   have f1:=plain_fw (t:=t) (c:=(nextS t st.1).1) (st:=((nextS t st.1).2,st.2)) (fits_next hf)
   exact ⟨f1.fit,Nat.le_trans (next_ge hf) f1.ge⟩
 | @or cur st r1 r he _ _ a b=>
   intro hf
   have f1:=a (fits_take (by omega) hf)
   have f2:=b f1.fit
   exact ⟨f2.fit,Nat.le_trans (take_ge (t:=t) (c:=124) (s:=st.1)) (Nat.le_trans f1.ge f2.ge)⟩
 | orEnd he=>intro hf;exact ⟨hf,Nat.le_refl _⟩
 | and he _ _ a b=>intro hf;have f1:=a hf;have f2:=b f1.fit;exact ⟨f2.fit,Nat.le_trans f1.ge f2.ge⟩
 | andEnd he=>intro hf;exact ⟨hf,Nat.le_refl _⟩
 | @rep cur st r he _ a=>
   intro hf
   have f2:=a (fits_repeat hf)
   exact ⟨f2.fit,Nat.le_trans (Nat.le_of_lt (repeat_gt (repS_lt he))) f2.ge⟩
 | repEnd he=>intro hf;exact ⟨hf,Nat.le_refl _⟩
theorem close_len (t:ByteArray) (r:Nat×PS):(closeS t r).2.2=r.2.2:=by unfold closeS;rfl
theorem plain_len (t:ByteArray) (c:Int) (st:PS):(plainS t c st).2.2.length=st.2.length+1:=by
 unfold plainS bytesS addS
 repeat' split
 all_goals simp
theorem D.nodes {t:ByteArray} {tag cur:Nat} {st:PS} {r:Nat×PS} (h:D t tag cur st r):Fits t st.1→(tag=2∨tag=3→st.1.1<t.size) →
 r.2.2.length+4*(t.size-r.2.1.1)+(if tag=2∨tag=3 then 3 else 0)≤st.2.length+4*(t.size-st.1.1)+(if tag=0∨tag=1 then 1 else 0):=by
 induction h with
 | pattern d1 _ a b=>
   intro hf _
   have h1:=a hf (by omega)
   have h2:=b (d1.fw hf).fit (by omega)
   simp at h1 h2 ⊢
   omega
 | empty he=>intro hf _;simp [addS];omega
 | branch he d1 _ a b=>
   intro hf _
   have h1:=a hf (fun _=>endS_lt he)
   have h2:=b (d1.fw hf).fit (by omega)
   simp at h1 h2 ⊢
   omega
 | piece d1 _ a b=>
   intro hf hl
   have h1:=a hf (fun _=>hl (Or.inl rfl))
   have h2:=b (d1.fw hf).fit (by omega)
   simp at h1 h2 ⊢
   omega
 | @group cur st r1 he d a=>
   intro hf hl
   have hlt:=hl (Or.inr rfl)
   have hgt:=next_gt hlt
   have hfn:(nextS t st.1).2.1≤t.size:=fits_next hf
   have h1:=a (fits_next hf) (by omega)
   have f0:=d.fw (fits_next hf)
   have f1:=(close_fw f0).ge
   have hcf:(closeS t r1).2.1.1≤t.size:=(close_fw f0).fit
   have hge:r1.2.1.1≤(closeS t r1).2.1.1:=by
    have g3:=take_ge (t:=t) (c:=41) (s:=r1.2.1)
    have:r1.2.1.1≤t.size:=f0.fit
    unfold closeS
    simp only []
    split
    · exact g3
    · exact this
   rw [close_len]
   simp at h1 ⊢
   omega
 | @list cur st he=>
   intro hf hl
   have hlt:=hl (Or.inr rfl)
   have hgt:=next_gt hlt
   have f1:=(list_fw (t:=t) (st:=((nextS t st.1).2,st.2)) (fits_next hf)).ge
   have hlen:(listS t ((nextS t st.1).2,st.2)).2.2.length=st.2.length+1:=by unfold listS;simp [addS]
   rw [hlen]
   simp at f1 ⊢
   omega
 | @plain cur st h1 h2=>
   intro hf hl
   have hlt:=hl (Or.inr rfl)
   have hgt:=next_gt hlt
   have f1:=(plain_fw (t:=t) (c:=(nextS t st.1).1) (st:=((nextS t st.1).2,st.2)) (fits_next hf)).ge
   rw [plain_len]
   simp at f1 ⊢
   omega
 | @or cur st r1 r he d1 _ a b=>
   intro hf _
   have hgt:=take_gt he
   have hft:(takeS t 124 st.1).2.1≤t.size:=fits_take (by omega) hf
   have h1:=a hft (by omega)
   have h2:=b (d1.fw hft).fit (by omega)
   simp [joinS,addS] at h1 h2 ⊢
   omega
 | orEnd he=>intro hf _;simp
 | @and cur st r1 r he d1 _ a b=>
   intro hf _
   have h1:=a hf (fun _=>endS_lt he)
   have h2:=b (d1.fw hf).fit (by omega)
   simp [joinS,addS] at h1 h2 ⊢
   omega
 | andEnd he=>intro hf _;simp
 | @rep cur st r he _ a=>
   intro hf _
   have hgt:=repeat_gt (repS_lt he)
   have hfr:(repeatS t st.1).2.1≤t.size:=fits_repeat hf
   have h2:=a hfr (by omega)
   simp [againS,addS] at h2 ⊢
   omega
 | repEnd he=>intro hf _;simp
structure Okay (t:ByteArray) (r:Nat×PS):Prop where
 ok:NodesOk r.2.2
 len:r.2.2.length≤900
 top:r.1+1=r.2.2.length
 all:∀i,i<r.2.2.length→sizeAt r.2.2 i≤60
theorem okay_of {t:ByteArray} {r:Nat×PS} (ht:t.size≤40) (h:Ev t 0 0 st0 r) (hs:sizeAt r.2.2 r.1≤60):Okay t r:=by
 have hf:Fits t st0.1:=Nat.zero_le _
 have d:=h.deriv hf
 have g:=d.gr (by omega) (fun q n hn=>by simp [st0] at hn) (fun h=>by omega)
 have hn:=d.nodes hf (by omega)
 simp [st0] at hn
 exact ⟨g.ok,by omega,g.top,fun i hi=>Int.le_trans (g.big i (Nat.zero_le _) hi) hs⟩
theorem all_ready:allReady:=fun t r ht h _ hs=>by
 have o:=okay_of ht h hs
 have hl:lastQ r.2.2 r.2.2.length=partN r.2.2 r.1:=by rw [←o.top];rfl
 have p:=part_all o.ok o.all o.len (r.1+1) r.1 (by omega) (by have:=o.top;omega)
 have hlen:=o.len
 have htop:=o.top
 refine ⟨o.len,nodes_fit o.ok o.all o.len,fun n hn=>?_,by rw [hl];exact p.fit.room,fun i=>by rw [hl];have:=p.node i;omega⟩
 obtain ⟨q,hq⟩:=List.mem_iff_getElem?.1 hn
 exact (o.ok q n hq).2.2.1
def Go1 (ns:List AN) (fold:Bool) (t:ByteArray) (k i j:Nat):Prop:=
 ∃n,ns[k]?=some n∧((n.kind=1∧j=i+1∧∃h:i<t.size,takesP n fold t[i].toNat=true)∨(n.kind=2∧i=0∧j=0)∨(n.kind=3∧i=t.size∧j=t.size))
def Tr (ns:List AN) (fold:Bool) (t:ByteArray):List Nat→Nat→Nat→Prop
 | [],i,j=>i=j∧i≤t.size
 | k :: u,i,j=>∃m,Go1 ns fold t k i m∧Tr ns fold t u m j
def Mat (ns:List AN) (fold:Bool) (t:ByteArray) (k i j:Nat):Prop:=∃u,W ns k u∧Tr ns fold t u i j
section
variable {ns:List AN} {fold:Bool} {t:ByteArray}
theorem Tr.le:∀{u:List Nat} {i j:Nat},Tr ns fold t u i j→i≤t.size∧j≤t.size∧i≤j
 | [],i,j,h=>by obtain ⟨rfl,h⟩:=h;exact ⟨h,h,Nat.le_refl _⟩
 | k :: u,i,j,h=>by
   obtain ⟨m,⟨n,_,hg⟩,h2⟩:=h
   have:=Tr.le h2
   rcases hg with ⟨_,rfl,h3,_⟩ | ⟨_,rfl,rfl⟩ | ⟨_,rfl,rfl⟩ <;> omega
theorem Tr.app:∀{u v:List Nat} {i j:Nat},Tr ns fold t (u++v) i j↔∃m,Tr ns fold t u i m∧Tr ns fold t v m j
 | [],v,i,j=>by
   constructor
   · intro h;exact ⟨i,⟨rfl,h.le.1⟩,h⟩
   · rintro ⟨m,⟨rfl,_⟩,h⟩;exact h
 | k :: u,v,i,j=>by
   constructor
   · rintro ⟨m,h1,h2⟩
     obtain ⟨m2,h3,h4⟩:=Tr.app.1 h2
     exact ⟨m2,⟨m,h1,h3⟩,h4⟩
   · rintro ⟨m2,⟨m,h1,h3⟩,h4⟩
     exact ⟨m,h1,Tr.app.2 ⟨m2,h3,h4⟩⟩
end
theorem follow_bit (m:MP) (S:B64):∀q b,(followQ m S q).getLsbD b=true↔∃s,s<q∧S.getLsbD s=true∧(m.next s).getLsbD b=true
 | 0,b=>by simp [followQ]
 | q+1,b=>by
   rw [followQ]
   split
   · rename_i h
     rw [bit_or,Bool.or_eq_true,follow_bit m S q b]
     constructor
     · rintro (⟨s,h1,h2⟩ | h1)
       · exact ⟨s,by omega,h2⟩
       · exact ⟨q,by omega,h,h1⟩
     · rintro ⟨s,h1,h2,h3⟩
       by_cases hs:s=q
       · subst hs;exact Or.inr h3
       · exact Or.inl ⟨s,by omega,h2,h3⟩
   · rename_i h
     rw [follow_bit m S q b]
     constructor
     · rintro ⟨s,h1,h2⟩;exact ⟨s,by omega,h2⟩
     · rintro ⟨s,h1,h2,h3⟩
       refine ⟨s,?_,h2,h3⟩
       by_cases hs:s=q
       · subst hs;exact absurd h2 h
       · omega
def cntN:Nat→B64→Nat
 | 0,_=>0
 | n+1,S=>cntN n S+if S.getLsbD n=true then 1 else 0
theorem cntN_le (S:B64):∀n,cntN n S≤n
 | 0=>Nat.le_refl _
 | n+1=>by have:=cntN_le S n;rw [cntN];split <;> omega
theorem cntN_mono {A B:B64} (h:∀b,A.getLsbD b=true→B.getLsbD b=true):∀n,cntN n A≤cntN n B
 | 0=>Nat.le_refl _
 | n+1=>by
   have:=cntN_mono h n
   rw [cntN,cntN]
   by_cases h1:A.getLsbD n=true
   · rw [if_pos h1,if_pos (h n h1)];omega
   · rw [if_neg h1];omega
theorem cntN_lt {A B:B64} (h:∀b,A.getLsbD b=true→B.getLsbD b=true) {c:Nat} (hA:¬A.getLsbD c=true) (hB:B.getLsbD c=true):∀n,c<n→cntN n A<cntN n B
 | 0,hc=>by omega
 | n+1,hc=>by
   rw [cntN,cntN]
   by_cases hcn:c=n
   · subst hcn
     have:=cntN_mono h c
     rw [if_neg hA,if_pos hB];omega
   · have:=cntN_lt h hA hB n (by omega)
     by_cases h1:A.getLsbD n=true
     · rw [if_pos h1,if_pos (h n h1)];omega
     · rw [if_neg h1];omega
section
variable {m:MP} {S free:B64}
theorem still_bit {q b:Nat}:(stillQ m free S (q+1)).getLsbD b=true↔(stillQ m free S q).getLsbD b=true∨((followP m (stillQ m free S q)).getLsbD b=true∧free.getLsbD b=true):=by
 rw [stillQ,bit_or,bit_and,Bool.or_eq_true,Bool.and_eq_true]
theorem still_up {b:Nat} (h:S.getLsbD b=true):∀q,(stillQ m free S q).getLsbD b=true
 | 0=>h
 | q+1=>still_bit.2 (Or.inl (still_up h q))
theorem still_same {q:Nat} (h:stillQ m free S (q+1)=stillQ m free S q):∀k,stillQ m free S (q+k+1)=stillQ m free S (q+k)
 | 0=>h
 | k+1=>by
   have ih:=still_same h k
   show stillQ m free S (q+k+1)|||(followP m (stillQ m free S (q+k+1))&&&free)=stillQ m free S (q+k+1)
   rw [ih]
   exact ih
theorem still_grows (hfree:∀b,free.getLsbD b=true→b<60) (hne:stillQ m free S 61≠stillQ m free S 60):∀q,q≤61→q≤cntN 60 (stillQ m free S q)
 | 0,_=>Nat.zero_le _
 | q+1,hq=>by
   have ih:=still_grows hfree hne q (by omega)
   have hn:stillQ m free S (q+1)≠stillQ m free S q:=fun hc=>hne (by
    have:=still_same hc (60-q)
    rwa [show q+(60-q)=60 by omega] at this)
   obtain ⟨b,hb⟩:∃b,¬((stillQ m free S (q+1)).getLsbD b=(stillQ m free S q).getLsbD b):=by
    apply Classical.byContradiction
    intro hc
    apply hn
    apply BitVec.eq_of_getLsbD_eq
    intro i hi
    apply Classical.byContradiction
    intro h;exact hc ⟨i,h⟩
   have hsub:∀b,(stillQ m free S q).getLsbD b=true→(stillQ m free S (q+1)).getLsbD b=true:=fun b h=>still_bit.2 (Or.inl h)
   have h1:¬(stillQ m free S q).getLsbD b=true:=fun h=>hb (by rw [h,hsub b h])
   have h2:(stillQ m free S (q+1)).getLsbD b=true:=by
    cases h:(stillQ m free S (q+1)).getLsbD b with
    | true=>rfl
    | false=>exfalso;apply hb;rw [h];cases h3:(stillQ m free S q).getLsbD b with
      | true=>exact absurd h3 h1
      | false=>rfl
   have hfb:free.getLsbD b=true:=by
    rcases still_bit.1 h2 with h | h
    · exact absurd h h1
    · exact h.2
   have:=cntN_lt hsub h1 h2 60 (hfree b hfb)
   omega
theorem still_closed (hfree:∀b,free.getLsbD b=true→b<60) {b:Nat} (h1:(followP m (stillP m S free)).getLsbD b=true) (h2:free.getLsbD b=true):(stillP m S free).getLsbD b=true:=by
 apply Classical.byContradiction
 intro hc
 have hne:stillQ m free S 61≠stillQ m free S 60:=fun he=>by
  apply hc
  show (stillQ m free S 60).getLsbD b=true
  rw [←he]
  exact still_bit.2 (Or.inr ⟨h1,h2⟩)
 have:=still_grows hfree hne 61 (Nat.le_refl _)
 have:=cntN_le (stillQ m free S 61) 60
 omega
theorem still_sound {Q:Nat→Prop} (h0:∀b,S.getLsbD b=true→Q b) (h1:∀S':B64,(∀b,S'.getLsbD b=true→Q b)→∀b,(followP m S').getLsbD b=true→free.getLsbD b=true→Q b):∀q b,(stillQ m free S q).getLsbD b=true→Q b
 | 0,b,h=>h0 b h
 | q+1,b,h=>by
   rcases still_bit.1 h with h | ⟨h2,h3⟩
   · exact still_sound h0 h1 q b h
   · exact h1 _ (still_sound h0 h1 q) b h2 h3
end
structure MF (m:MP) (ns:List AN) (P:GP) (fold whole:Bool):Prop where
 fit:P.Fit
 whole:m.whole=whole
 next:∀s,s<P.count→m.next s=P.next s
 start:m.next 60=P.first
 takes:∀c b,(m.takes c).getLsbD b=true↔c<256∧b<P.count∧∃n,ns[P.node b]?=some n∧n.kind=1∧takesP n fold c=true
 begins:∀b,m.begins.getLsbD b=true↔b<P.count∧∃n,ns[P.node b]?=some n∧n.kind=2
 ends:∀b,m.ends.getLsbD b=true↔b<P.count∧∃n,ns[P.node b]?=some n∧n.kind=3
 last:∀b,m.last.getLsbD b=true↔P.last.getLsbD b=true∨(b=60∧P.empty=true)
theorem one_bit {q b:Nat} (hq:q<64):(1#64 <<< q:B64).getLsbD b=true↔b=q:=by
 rw [bit_shl,BitVec.getLsbD_one]
 simp only [Bool.and_eq_true,decide_eq_true_eq,Bool.not_eq_true',decide_eq_false_iff_not]
 omega
theorem start_bit {b:Nat}:startB.getLsbD b=true↔b=60:=by
 have e:startB=1#64 <<< 60:=by decide
 rw [e];exact one_bit (by decide)
theorem found_bit {b:Nat}:foundB.getLsbD b=true↔b=61:=by
 have e:foundB=1#64 <<< 61:=by decide
 rw [e];exact one_bit (by decide)
structure MFq (m:MP) (ns:List AN) (P:GP) (fold whole:Bool) (q:Nat):Prop where
 whole:m.whole=whole
 next:∀s,s<q→m.next s=P.next s
 start:m.next 60=P.first
 takes:∀c b,(m.takes c).getLsbD b=true↔c<256∧b<q∧∃n,ns[P.node b]?=some n∧n.kind=1∧takesP n fold c=true
 begins:∀b,m.begins.getLsbD b=true↔b<q∧∃n,ns[P.node b]?=some n∧n.kind=2
 ends:∀b,m.ends.getLsbD b=true↔b<q∧∃n,ns[P.node b]?=some n∧n.kind=3
 last:∀b,m.last.getLsbD b=true↔P.last.getLsbD b=true∨(b=60∧P.empty=true)
theorem lt_succ_or {b q:Nat} {X:Nat→Prop}:(b<q+1∧X b)↔(b<q∧X b)∨(b=q∧X q):=by
 constructor
 · rintro ⟨h1,h2⟩
   by_cases h:b=q
   · subst h;exact Or.inr ⟨rfl,h2⟩
   · exact Or.inl ⟨by omega,h2⟩
 · rintro (⟨h1,h2⟩ | ⟨rfl,h2⟩)
   · exact ⟨by omega,h2⟩
   · exact ⟨by omega,h2⟩
theorem built (ns:List AN) (P:GP) (fold whole:Bool):∀q,q≤60→MFq (buildQ ns P fold whole q) ns P fold whole q
 | 0,_=>by
   refine ⟨rfl,fun s h=>by omega,rfl,fun c b=>?_,fun b=>?_,fun b=>?_,fun b=>?_⟩
   · simp [buildQ,build0,nextM]
   · simp [buildQ,build0,nextM]
   · simp [buildQ,build0,nextM]
   · simp only [buildQ,build0]
     split
     · rename_i h;rw [bit_or,Bool.or_eq_true,start_bit];simp [h]
     · rename_i h;simp [h]
 | q+1,hq=>by
   have ih:=built ns P fold whole q (by omega)
   have hnx:∀s,s<q+1→(nextM (buildQ ns P fold whole q) q (P.next q)).next s=P.next s:=fun s hs=>by
    simp only [nextM]
    by_cases h:s=q
    · subst h;rw [if_pos rfl]
    · rw [if_neg h];exact ih.next s (by omega)
   have hst:(nextM (buildQ ns P fold whole q) q (P.next q)).next 60=P.first:=by
    simp only [nextM];rw [if_neg (by omega)];exact ih.start
   rw [buildQ]
   cases hn:ns[P.node q]? with
   | none=>
     refine ⟨ih.whole,hnx,hst,fun c b=>?_,fun b=>?_,fun b=>?_,ih.last⟩
     · refine (ih.takes c b).trans ?_
       rw [lt_succ_or (X:=fun b=>∃n,ns[P.node b]?=some n∧n.kind=1∧takesP n fold c=true)]
       simp [hn]
     · refine (ih.begins b).trans ?_
       rw [lt_succ_or (X:=fun b=>∃n,ns[P.node b]?=some n∧n.kind=2)]
       simp [hn]
     · refine (ih.ends b).trans ?_
       rw [lt_succ_or (X:=fun b=>∃n,ns[P.node b]?=some n∧n.kind=3)]
       simp [hn]
   | some n=>
     have T:∀c b,(c<256∧b<q+1∧∃n,ns[P.node b]?=some n∧n.kind=1∧takesP n fold c=true)↔(((buildQ ns P fold whole q).takes c).getLsbD b=true∨(b=q∧c<256∧n.kind=1∧takesP n fold c=true)):=fun c b=>by
      rw [ih.takes c b,lt_succ_or (X:=fun b=>∃n,ns[P.node b]?=some n∧n.kind=1∧takesP n fold c=true)]
      simp only [hn,Option.some.injEq,exists_eq_left']
      constructor
      · rintro ⟨h1,h2 | h2⟩
        · exact Or.inl ⟨h1,h2⟩
        · exact Or.inr ⟨h2.1,h1,h2.2⟩
      · rintro (⟨h1,h2⟩ | ⟨h1,h2,h3⟩)
        · exact ⟨h1,Or.inl h2⟩
        · exact ⟨h2,Or.inr ⟨h1,h3⟩⟩
     have B:∀b,(b<q+1∧∃n,ns[P.node b]?=some n∧n.kind=2)↔((buildQ ns P fold whole q).begins.getLsbD b=true∨(b=q∧n.kind=2)):=fun b=>by
      rw [ih.begins b,lt_succ_or (X:=fun b=>∃n,ns[P.node b]?=some n∧n.kind=2)]
      simp only [hn,Option.some.injEq,exists_eq_left']
     have E:∀b,(b<q+1∧∃n,ns[P.node b]?=some n∧n.kind=3)↔((buildQ ns P fold whole q).ends.getLsbD b=true∨(b=q∧n.kind=3)):=fun b=>by
      rw [ih.ends b,lt_succ_or (X:=fun b=>∃n,ns[P.node b]?=some n∧n.kind=3)]
      simp only [hn,Option.some.injEq,exists_eq_left']
     simp only []
     unfold learnP
     by_cases k2:n.kind=2
     · rw [if_pos k2]
       refine ⟨ih.whole,hnx,hst,fun c b=>?_,fun b=>?_,fun b=>?_,ih.last⟩
       · rw [T];simp [k2,nextM]
       · rw [B];simp only [nextM];rw [bit_or,Bool.or_eq_true,one_bit (by omega)];simp [k2]
       · rw [E];simp [k2,nextM]
     · rw [if_neg k2]
       by_cases k3:n.kind=3
       · rw [if_pos k3]
         refine ⟨ih.whole,hnx,hst,fun c b=>?_,fun b=>?_,fun b=>?_,ih.last⟩
         · rw [T];simp [k3,nextM]
         · rw [B];simp [k3,nextM]
         · rw [E];simp only [nextM];rw [bit_or,Bool.or_eq_true,one_bit (by omega)];simp [k3]
       · rw [if_neg k3]
         by_cases k1:n.kind=1
         · rw [if_pos k1]
           refine ⟨ih.whole,hnx,hst,fun c b=>?_,fun b=>?_,fun b=>?_,ih.last⟩
           · rw [T]
             simp only [learnQ,nextM]
             split
             · rename_i h;rw [bit_or,Bool.or_eq_true,one_bit (by omega)];simp [h.1,h.2,k1]
             · rename_i h
               constructor
               · intro h1;exact Or.inl h1
               · rintro (h1 | ⟨_,h2,_,h3⟩)
                 · exact h1
                 · exact absurd ⟨h2,h3⟩ h
           · rw [B];simp [k1,nextM,learnQ]
           · rw [E];simp [k1,nextM,learnQ]
         · rw [if_neg k1]
           refine ⟨ih.whole,hnx,hst,fun c b=>?_,fun b=>?_,fun b=>?_,ih.last⟩
           · rw [T];simp [k1,nextM]
           · rw [B];simp [k2,nextM]
           · rw [E];simp [k3,nextM]
theorem mf_of (ns:List AN) (P:GP) (hP:P.Fit) (fold whole:Bool):MF (buildP ns P fold whole) ns P fold whole:=by
 have h:=built ns P fold whole P.count hP.room
 exact ⟨hP,h.whole,h.next,h.start,h.takes,h.begins,h.ends,h.last⟩
structure Emb (p t:ByteArray) (a:Nat):Prop where
 byte:∀i,i<p.size→pk t (a+i)=pk p i
 stop:pk t (a+p.size)=41
section
variable {p t:ByteArray} {a:Nat} (e:Emb p t a)
include e
end
section
variable {p t:ByteArray} {a:Nat} (e:Emb p t a)
include e
end
def shN (k:Nat) (n:AN):AN:=
 { n with left:=if n.kind=4∨n.kind=5∨n.kind=6 then n.left+(k:Int) else n.left,right:=if n.kind=4∨n.kind=5 then n.right+(k:Int) else n.right }
section
variable {p t:ByteArray} {a:Nat} (e:Emb p t a) (pre:List AN)
include e
end
def PowM (n:Nat) (R:Nat→Nat→Prop):Nat→Nat→Nat→Prop
 | 0,i,j=>i=j∧i≤n
 | c+1,i,j=>∃m,PowM n R c i m∧R m j
theorem PowM.congr {n:Nat} {R R':Nat→Nat→Prop} (h:∀i j,R i j↔R' i j):∀c i j,PowM n R c i j↔PowM n R' c i j
 | 0,i,j=>Iff.rfl
 | c+1,i,j=>by
   simp only [PowM]
   constructor
   · rintro ⟨m,h1,h2⟩;exact ⟨m,(PowM.congr h c i m).1 h1,(h m j).1 h2⟩
   · rintro ⟨m,h1,h2⟩;exact ⟨m,(PowM.congr h c i m).2 h1,(h m j).2 h2⟩
section
variable {ns:List AN} {fold:Bool} {t:ByteArray} {k:Nat} {n:AN} {i j:Nat}
theorem Mat.le (h:Mat ns fold t k i j):i≤t.size∧j≤t.size∧i≤j:=by
 obtain ⟨u,_,h⟩:=h;exact h.le
theorem Mat.zero (hn:ns[k]?=some n) (hk:n.kind=0):Mat ns fold t k i j↔i=j∧i≤t.size:=by
 constructor
 · rintro ⟨u,h1,h2⟩
   have:=(W.zero hn hk).1 h1
   subst this;exact h2
 · rintro h;exact ⟨[],(W.zero hn hk).2 rfl,h⟩
theorem Mat.one (hn:ns[k]?=some n) (hk:n.kind=1∨n.kind=2∨n.kind=3):Mat ns fold t k i j↔Go1 ns fold t k i j:=by
 constructor
 · rintro ⟨u,h1,h2⟩
   have:=(W.one hn hk).1 h1
   subst this
   obtain ⟨m,h3,rfl,_⟩:=h2
   exact h3
 · intro h
   refine ⟨[k],(W.one hn hk).2 rfl,j,h,rfl,?_⟩
   obtain ⟨n',_,⟨_,rfl,h3,_⟩ | ⟨_,rfl,rfl⟩ | ⟨_,rfl,rfl⟩⟩:=h <;> omega
theorem Mat.two (hn:ns[k]?=some n) (hk:n.kind=4) {l r:Nat} (hl:n.left=(l:Int)) (hr:n.right=(r:Int)):Mat ns fold t k i j↔∃m,Mat ns fold t l i m∧Mat ns fold t r m j:=by
 constructor
 · rintro ⟨u,h1,h2⟩
   obtain ⟨x,y,rfl,h3,h4⟩:=(W.two hn hk hl hr).1 h1
   obtain ⟨m,h5,h6⟩:=Tr.app.1 h2
   exact ⟨m,⟨x,h3,h5⟩,⟨y,h4,h6⟩⟩
 · rintro ⟨m,⟨x,h3,h5⟩,⟨y,h4,h6⟩⟩
   exact ⟨x++y,(W.two hn hk hl hr).2 ⟨x,y,rfl,h3,h4⟩,Tr.app.2 ⟨m,h5,h6⟩⟩
theorem Mat.alt (hn:ns[k]?=some n) (hk:n.kind=5) {l r:Nat} (hl:n.left=(l:Int)) (hr:n.right=(r:Int)):Mat ns fold t k i j↔Mat ns fold t l i j∨Mat ns fold t r i j:=by
 constructor
 · rintro ⟨u,h1,h2⟩
   rcases (W.alt hn hk hl hr).1 h1 with h | h
   · exact Or.inl ⟨u,h,h2⟩
   · exact Or.inr ⟨u,h,h2⟩
 · rintro (⟨u,h1,h2⟩ | ⟨u,h1,h2⟩)
   · exact ⟨u,(W.alt hn hk hl hr).2 (Or.inl h1),h2⟩
   · exact ⟨u,(W.alt hn hk hl hr).2 (Or.inr h1),h2⟩
theorem pow_many (l:Nat):∀c i j,(∃u,Many (W ns l) c u∧Tr ns fold t u i j)↔PowM t.size (Mat ns fold t l) c i j
 | 0,i,j=>by
   simp only [PowM]
   constructor
   · rintro ⟨u,h1,h2⟩
     have:=(many_zero _ _).1 h1
     subst this;exact h2
   · intro h;exact ⟨[],(many_zero _ _).2 rfl,h⟩
 | c+1,i,j=>by
   simp only [PowM]
   constructor
   · rintro ⟨u,h1,h2⟩
     obtain ⟨x,y,rfl,h3,h4⟩:=(many_succ _ _ _).1 h1
     obtain ⟨m,h5,h6⟩:=Tr.app.1 h2
     exact ⟨m,(pow_many l c i m).1 ⟨x,h3,h5⟩,⟨y,h4,h6⟩⟩
   · rintro ⟨m,h1,⟨y,h4,h6⟩⟩
     obtain ⟨x,h3,h5⟩:=(pow_many l c i m).2 h1
     exact ⟨x++y,(many_succ _ _ _).2 ⟨x,y,rfl,h3,h4⟩,Tr.app.2 ⟨m,h5,h6⟩⟩
theorem Mat.many (hn:ns[k]?=some n) (hk:n.kind=6) {l:Nat} (hl:n.left=(l:Int)):Mat ns fold t k i j↔∃c,n.least≤((c:Nat):Int)∧(n.most = -1∨(c:Int)≤n.most)∧PowM t.size (Mat ns fold t l) c i j:=by
 constructor
 · rintro ⟨u,h1,h2⟩
   obtain ⟨c,h3,h4,h5⟩:=(W.many hn hk hl).1 h1
   exact ⟨c,h3,h4,(pow_many l c i j).1 ⟨u,h5,h2⟩⟩
 · rintro ⟨c,h3,h4,h5⟩
   obtain ⟨u,h6,h7⟩:=(pow_many l c i j).2 h5
   exact ⟨u,(W.many hn hk hl).2 ⟨c,h3,h4,h6⟩,h7⟩
end
def In (ns ms:List AN) (k:Nat):Prop:=∀i n,ns[i]?=some n→ms[k+i]?=some (shN k n)
end Go.Proofs.YtgifhgnccmnbiabGreat
