/- The document's side: what a part matches, told part by part; when a part and a node match the same. No Go in it. -/
import Derived.Test.YtgifhgnccmnbiabGreatG06
import Derived.Test.YtgifhgnccmnbiabGreatG17
import Derived.Test.YtgifhgnccmnbiabGreatG18
set_option linter.unusedVariables false
set_option linter.unusedSimpArgs false
set_option maxHeartbeats 4000000
set_option maxRecDepth 100000
namespace Go.Proofs.YtgifhgnccmnbiabGreat
open Go.RowKit Go.IntWalk
abbrev Rel:=Nat→Nat→Prop
def oneR (p:PN) (fold:Bool) (t:ByteArray):Rel:=fun i j=>j=i+1∧∃h:i<t.size,inB p fold t[i].toNat=true
def thenR (n:Nat) (R S:Rel):Rel:=fun i j=>∃p,p<n+1∧i≤p∧p≤j∧R i p∧S p j
def eithR (R S:Rel):Rel:=fun i j=>i≤j∧(R i j∨S i j)
def seqR (n:Nat) (R:Nat→Rel) (l:List Nat):Rel:=l.foldl (fun S k=>thenR n S (R k)) (fun i j=>i=j)
def altR (R:Nat→Rel) (l:List Nat):Rel:=l.foldl (fun S k=>eithR S (R k)) (fun _ _=>False)
def timesB (n:Nat) (R:Nat→Rel) (p:PN):Rel:=
 match p.kids with
 | []=>fun _ _=>False
 | k :: _=>TimesR (R k) (n+1) p.least.toNat p.most
def bodyR (fold:Bool) (t:ByteArray) (R:Nat→Rel) (p:PN):Rel:=
 if p.kind=1 then oneR p fold t
 else if p.kind=2 then fun i j=>i=0∧j=0
 else if p.kind=3 then fun i j=>i=t.size∧j=t.size
 else if p.kind=4 then seqR t.size R p.kids
 else if p.kind=5 then altR R p.kids
 else timesB t.size R p
def MatF (ps:List PN) (fold:Bool) (t:ByteArray):Nat→Nat→Rel
 | 0,_=>fun _ _=>False
 | f+1,k=>match ps[k]? with
   | none=>fun _ _=>False
   | some p=>bodyR fold t (MatF ps fold t f) p
def MatR (ps:List PN) (fold:Bool) (t:ByteArray) (k:Nat):Rel:=MatF ps fold t (k+1) k
theorem foldR_same {α β:Type} {f g:α→β→α}:∀(l:List β) (a:α),(∀x,x∈l→∀y,f y x=g y x)→l.foldl f a=l.foldl g a
 | [],_,_=>rfl
 | x :: l,a,h=>by
   rw [List.foldl_cons,List.foldl_cons,h x (by simp)]
   exact foldR_same l _ (fun z hz y=>h z (by simp [hz]) y)
theorem seqR_congr {n:Nat} {R R':Nat→Rel} {l:List Nat} (h:∀k,k∈l→R k=R' k):seqR n R l=seqR n R' l:=
 foldR_same l _ (fun k hk S=>by rw [h k hk])
theorem altR_congr {R R':Nat→Rel} {l:List Nat} (h:∀k,k∈l→R k=R' k):altR R l=altR R' l:=
 foldR_same l _ (fun k hk S=>by rw [h k hk])
theorem bodyR_congr {fold:Bool} {t:ByteArray} {R R':Nat→Rel} {p:PN} (h:∀k,k∈p.kids→R k=R' k):bodyR fold t R p=bodyR fold t R' p:=by
 unfold bodyR
 rw [seqR_congr h,altR_congr h]
 have:timesB t.size R p=timesB t.size R' p:=by
  unfold timesB
  cases hk:p.kids with
  | nil=>rfl
  | cons k l=>simp only [];rw [h k (by rw [hk];simp)]
 rw [this]
theorem MatF_more {ps:List PN} {fold:Bool} {t:ByteArray} (hw:WfP ps):∀(f g i:Nat),i<f→i<g→MatF ps fold t f i=MatF ps fold t g i
 | 0,_,_,h,_=>by omega
 | _+1,0,_,_,h=>by omega
 | f+1,g+1,i,h1,h2=>by
   rw [MatF,MatF]
   cases hp:ps[i]? with
   | none=>rfl
   | some p=>
     simp only []
     exact bodyR_congr (fun k hk=>by have:=hw i p hp k hk;exact MatF_more hw f g k (by omega) (by omega))
theorem MatR_eq {ps:List PN} {fold:Bool} {t:ByteArray} (hw:WfP ps) {k:Nat} {p:PN} (hp:ps[k]?=some p):MatR ps fold t k=bodyR fold t (MatR ps fold t) p:=by
 show MatF ps fold t (k+1) k=_
 rw [MatF,hp]
 simp only []
 refine bodyR_congr (fun j hj=>?_)
 have:=hw k p hp j hj
 exact MatF_more hw k (j+1) j this (Nat.lt_succ_self _)
theorem seqR_snoc {n:Nat} {R:Nat→Rel} {l:List Nat} {k:Nat}:seqR n R (l++[k])=thenR n (seqR n R l) (R k):=by
 unfold seqR;rw [List.foldl_append];rfl
theorem altR_snoc {R:Nat→Rel} {l:List Nat} {k:Nat}:altR R (l++[k])=eithR (altR R l) (R k):=by
 unfold altR;rw [List.foldl_append];rfl
section
variable {N:Nat} {M R:Rel}
theorem PowM.bd (hM:∀a b,M a b→a≤N∧b≤N∧a≤b):∀{c i j:Nat},PowM N M c i j→i≤N∧j≤N∧i≤j
 | 0,i,j,h=>by simp only [PowM] at h;omega
 | c+1,i,j,h=>by
   simp only [PowM] at h
   obtain ⟨m,h1,h2⟩:=h
   have:=PowM.bd hM h1
   have:=hM _ _ h2
   omega
theorem PowM.add (hM:∀a b,M a b→a≤N∧b≤N∧a≤b) {a:Nat}:∀{b i j:Nat},PowM N M (a+b) i j↔∃p,PowM N M a i p∧PowM N M b p j
 | 0,i,j=>by
   constructor
   · intro h;exact ⟨j,h,rfl,(PowM.bd hM h).2.1⟩
   · rintro ⟨p,h1,rfl,_⟩;exact h1
 | b+1,i,j=>by
   show (∃m,PowM N M (a+b) i m∧M m j)↔∃p,PowM N M a i p∧∃m,PowM N M b p m∧M m j
   constructor
   · rintro ⟨m,h1,h2⟩
     obtain ⟨p,h3,h4⟩:=(PowM.add hM).1 h1
     exact ⟨p,h3,m,h4,h2⟩
   · rintro ⟨p,h3,m,h4,h2⟩
     exact ⟨m,(PowM.add hM).2 ⟨p,h3,h4⟩,h2⟩
theorem PowM.cons (hM:∀a b,M a b→a≤N∧b≤N∧a≤b) {c i p j:Nat} (h1:M i p) (h2:PowM N M c p j):PowM N M (c+1) i j:=by
 rw [Nat.add_comm]
 exact (PowM.add hM).2 ⟨p,⟨i,⟨rfl,(hM _ _ h1).1⟩,h1⟩,h2⟩
theorem pow_same (hM:∀a b,M a b→a≤N∧b≤N∧a≤b) (hR:∀a b,a≤N→b≤N→(R a b↔M a b)):∀(c i j:Nat),i≤N→j≤N→(PowR R (N+1) c i j↔PowM N M c i j)
 | 0,i,j,hi,hj=>by
   simp only [PowR,PowM]
   constructor
   · intro h;exact ⟨h,hi⟩
   · intro h;exact h.1
 | c+1,i,j,hi,hj=>by
   simp only [PowR,PowM]
   constructor
   · rintro ⟨p,h1,_,_,h2,h3⟩;exact ⟨p,(pow_same hM hR c i p hi (by omega)).1 h2,(hR p j (by omega) hj).1 h3⟩
   · rintro ⟨p,h2,h3⟩
     have b1:=PowM.bd hM h2
     have b2:=hM _ _ h3
     exact ⟨p,by omega,b1.2.2,b2.2.2,(pow_same hM hR c i p hi b1.2.1).2 h2,(hR p j b1.2.1 hj).2 h3⟩
theorem star_same (hM:∀a b,M a b→a≤N∧b≤N∧a≤b) (hR:∀a b,a≤N→b≤N→(R a b↔M a b)) {i j:Nat} (hi:i≤N) (hj:j≤N):Star R (N+1) i j↔∃c,PowM N M c i j:=by
 constructor
 · rintro ⟨k,h⟩
   have:∀{k i j:Nat},Hops R (N+1) k i j→i≤N→∃c,PowM N M c i j:=by
    intro k i j h
    induction h with
    | refl h=>intro hi;exact ⟨0,rfl,hi⟩
    | @step k i m j h0 h1 h2 ih=>
      intro hi
      have:=h2.bound
      obtain ⟨c,hc⟩:=ih (by omega)
      exact ⟨c+1,PowM.cons hM ((hR i m hi (by omega)).1 h0) hc⟩
   exact this h hi
 · rintro ⟨c,h⟩
   have:∀(c:Nat) {j:Nat},j≤N→PowM N M c i j→Star R (N+1) i j:=by
    intro c
    induction c with
    | zero=>rintro j hj ⟨rfl,_⟩;exact ⟨0,Hops.refl (by omega)⟩
    | succ c ih=>
      rintro j hj ⟨m,h1,h2⟩
      have b1:=PowM.bd hM h1
      have b2:=hM _ _ h2
      have s1:=ih b1.2.1 h1
      by_cases hmj:m=j
      · rw [←hmj];exact s1
      · exact s1.app ⟨1,Hops.step ((hR m j b1.2.1 hj).2 h2) (by omega) (Hops.refl (by omega))⟩
   exact this c hj h
theorem times_same (hM:∀a b,M a b→a≤N∧b≤N∧a≤b) (hR:∀a b,a≤N→b≤N→(R a b↔M a b)) {least most:Int} (h0:0≤least) (hm:most = -1∨least≤most) {i j:Nat} (hi:i≤N) (hj:j≤N):
 TimesR R (N+1) least.toNat most i j↔∃c:Nat,least≤(c:Int)∧(most = -1∨(c:Int)≤most)∧PowM N M c i j:=by
 unfold TimesR
 constructor
 · rintro (⟨h1,p,h2,h3,h4,h5,h6⟩ | ⟨h1,h2⟩)
   · obtain ⟨c,hc⟩:=(star_same hM hR (by omega) hj).1 h6
     exact ⟨least.toNat+c,by omega,Or.inl (by omega),(PowM.add hM).2 ⟨p,(pow_same hM hR _ i p hi (by omega)).1 h5,hc⟩⟩
   · rcases h2 with h2 | ⟨m,h2,h3,h4⟩
     · exact ⟨least.toNat,by omega,by omega,(pow_same hM hR _ i j hi hj).1 h2⟩
     · exact ⟨m,by omega,by omega,(pow_same hM hR _ i j hi hj).1 h4⟩
 · rintro ⟨c,h1,h2,h3⟩
   by_cases hneg:most<0
   · left
     refine ⟨hneg,?_⟩
     obtain ⟨d,rfl⟩:∃d,c=least.toNat+d:=⟨c-least.toNat,by omega⟩
     obtain ⟨p,h4,h5⟩:=(PowM.add hM).1 h3
     have b1:=PowM.bd hM h4
     have b2:=PowM.bd hM h5
     exact ⟨p,by omega,b1.2.2,b2.2.2,(pow_same hM hR _ i p hi b1.2.1).2 h4,(star_same hM hR b1.2.1 hj).2 ⟨d,h5⟩⟩
   · right
     refine ⟨by omega,?_⟩
     have h4:=(pow_same hM hR c i j hi hj).2 h3
     by_cases hc:c=least.toNat
     · left;rw [←hc];exact h4
     · right;exact ⟨c,by omega,by omega,h4⟩
end
inductive GoodT (ps:List PN):Nat→Prop
 | leaf {j:Nat} {p:PN}:ps[j]?=some p→(p.kind=1∨p.kind=2∨p.kind=3)→GoodT ps j
 | many {j:Nat} {p:PN}:ps[j]?=some p→(p.kind=4∨p.kind=5)→(∀k,k∈p.kids→GoodT ps k)→GoodT ps j
 | times {j k:Nat} {p:PN}:ps[j]?=some p→p.kind=6→p.kids=[k]→GoodT ps k→0≤p.least→p.least≤9→-1≤p.most→p.most≤9→GoodT ps j
theorem at_more {α:Type} {l m:List α} {i:Nat} {x:α} (h:l[i]?=some x):(l++m)[i]?=some x:=by
 rw [List.getElem?_append_left (List.getElem?_eq_some_iff.1 h).1];exact h
theorem GoodT.app {ps:List PN} {j:Nat} (h:GoodT ps j) (mp:List PN):GoodT (ps++mp) j:=by
 induction h with
 | leaf h1 h2=>exact GoodT.leaf (at_more h1) h2
 | many h1 h2 _ ih=>exact GoodT.many (at_more h1) h2 ih
 | times h1 h2 h3 _ h4 h5 h6 h7 ih=>exact GoodT.times (at_more h1) h2 h3 ih h4 h5 h6 h7
theorem at_new {α:Type} {l m:List α} {x:α}:(l++[x]++m)[l.length]?=some x:=by
 rw [List.append_assoc,List.getElem?_append_right (Nat.le_refl _),Nat.sub_self];rfl
structure Same (ns:List AN) (i:Nat) (ps:List PN) (j:Nat):Prop where
 iff:∀(mn:List AN) (mp:List PN),WfP (ps++mp)→∀(fold:Bool) (t:ByteArray) (a b:Nat),a≤t.size→b≤t.size→(MatR (ps++mp) fold t j a b↔Mat (ns++mn) fold t i a b)
 good:GoodT ps j
def listR (kind:Int) (n:Nat) (R:Nat→Rel) (l:List Nat):Rel:=if kind=4 then seqR n R l else altR R l
structure SameL (kind:Int) (ns:List AN) (i:Nat) (ps:List PN) (l:List Nat):Prop where
 iff:∀(mn:List AN) (mp:List PN),WfP (ps++mp)→∀(fold:Bool) (t:ByteArray) (a b:Nat),a≤t.size→b≤t.size→(listR kind t.size (MatR (ps++mp) fold t) l a b↔Mat (ns++mn) fold t i a b)
 good:∀k,k∈l→GoodT ps k
theorem Same.app {ns:List AN} {i:Nat} {ps:List PN} {j:Nat} (h:Same ns i ps j) (mn:List AN) (mp:List PN):Same (ns++mn) i (ps++mp) j:=⟨fun mn2 mp2 hw fold t a b ha hb=>by
 rw [List.append_assoc] at hw ⊢
 rw [List.append_assoc]
 exact h.iff _ _ hw fold t a b ha hb,h.good.app mp⟩
theorem SameL.app {kind:Int} {ns:List AN} {i:Nat} {ps:List PN} {l:List Nat} (h:SameL kind ns i ps l) (mn:List AN) (mp:List PN):SameL kind (ns++mn) i (ps++mp) l:=⟨fun mn2 mp2 hw fold t a b ha hb=>by
 rw [List.append_assoc] at hw ⊢
 rw [List.append_assoc]
 exact h.iff _ _ hw fold t a b ha hb,fun k hk=>(h.good k hk).app mp⟩
def LeafTie (n:AN) (x:PN):Prop:=
 (n.kind=1∧x.kind=1∧∀(fold:Bool) (c:Nat),c<256→takesP n fold c=inB x fold c)∨(n.kind=2∧x.kind=2)∨(n.kind=3∧x.kind=3)∨(n.kind=0∧x.kind=4∧x.kids=[])
theorem Same.leaf {ns:List AN} {ps:List PN} {n:AN} {x:PN} (h:LeafTie n x):Same (ns++[capN n]) ns.length (ps++[x]) ps.length:=by
 refine ⟨?_,?good⟩
 case good=>
  have hx0:(ps++[x])[ps.length]?=some x:=by have:=at_new (l:=ps) (x:=x) (m:=[]);rwa [List.append_nil] at this
  rcases h with ⟨_,h,_⟩ | ⟨_,h⟩ | ⟨_,h⟩ | ⟨_,h,h2⟩
  · exact GoodT.leaf hx0 (Or.inl h)
  · exact GoodT.leaf hx0 (Or.inr (Or.inl h))
  · exact GoodT.leaf hx0 (Or.inr (Or.inr h))
  · exact GoodT.many hx0 (Or.inl h) (fun k hk=>by rw [h2] at hk;cases hk)
 intro mn mp hw fold t a b ha hb
 have hn:(ns++[capN n]++mn)[ns.length]?=some (capN n):=at_new
 have hx:(ps++[x]++mp)[ps.length]?=some x:=at_new
 have hkind:(capN n).kind=n.kind:=rfl
 rw [MatR_eq hw hx]
 unfold bodyR
 rcases h with ⟨h1,h2,h3⟩ | ⟨h1,h2⟩ | ⟨h1,h2⟩ | ⟨h1,h2,h3⟩
 · rw [if_pos h2,Mat.one hn (by rw [hkind];omega)]
   unfold Go1 oneR
   constructor
   · rintro ⟨h4,h5,h6⟩
     exact ⟨_,hn,Or.inl ⟨h1,h4,h5,(h3 fold _ t[a].toNat_lt).trans h6⟩⟩
   · rintro ⟨n',h4,h5⟩
     rw [hn] at h4
     simp only [Option.some.injEq] at h4
     subst h4
     rcases h5 with ⟨_,h5,h6,h7⟩ | ⟨h5,_⟩ | ⟨h5,_⟩
     · exact ⟨h5,h6,(h3 fold _ t[a].toNat_lt).symm.trans h7⟩
     · rw [hkind] at h5;omega
     · rw [hkind] at h5;omega
 · rw [if_neg (by omega),if_pos h2,Mat.one hn (by rw [hkind];omega)]
   unfold Go1
   constructor
   · rintro h4;exact ⟨_,hn,Or.inr (Or.inl ⟨h1,h4⟩)⟩
   · rintro ⟨n',h4,h5⟩
     rw [hn] at h4
     simp only [Option.some.injEq] at h4
     subst h4
     rcases h5 with ⟨h5,_⟩ | ⟨_,h5⟩ | ⟨h5,_⟩
     · rw [hkind] at h5;omega
     · exact h5
     · rw [hkind] at h5;omega
 · rw [if_neg (by omega),if_neg (by omega),if_pos h2,Mat.one hn (by rw [hkind];omega)]
   unfold Go1
   constructor
   · rintro h4;exact ⟨_,hn,Or.inr (Or.inr ⟨h1,h4⟩)⟩
   · rintro ⟨n',h4,h5⟩
     rw [hn] at h4
     simp only [Option.some.injEq] at h4
     subst h4
     rcases h5 with ⟨h5,_⟩ | ⟨h5,_⟩ | ⟨_,h5⟩
     · rw [hkind] at h5;omega
     · rw [hkind] at h5;omega
     · exact h5
 · rw [if_neg (by omega),if_neg (by omega),if_neg (by omega),if_pos h2,h3,Mat.zero hn h1]
   show a=b↔_
   exact ⟨fun h=>⟨h,ha⟩,fun h=>h.1⟩
theorem Same.times {ns:List AN} {ps:List PN} {i j:Nat} (h:Same ns i ps j) {n:AN} {x:PN} (hn:n.kind=6) (hl:n.left=(i:Int)) (hx:x.kind=6) (hk:x.kids=[j]) (e1:n.least=x.least) (e2:n.most=x.most) (h0:0≤x.least) (h9:x.least≤9) (m0:-1≤x.most) (m9:x.most≤9) (hm:x.most = -1∨x.least≤x.most):
 Same (ns++[capN n]) ns.length (ps++[x]) ps.length:=by
 refine ⟨?_,?good⟩
 case good=>
  have hx0:(ps++[x])[ps.length]?=some x:=by have:=at_new (l:=ps) (x:=x) (m:=[]);rwa [List.append_nil] at this
  exact GoodT.times hx0 hx hk (h.good.app _) h0 h9 m0 m9
 intro mn mp hw fold t a b ha hb
 have hn2:(ns++[capN n]++mn)[ns.length]?=some (capN n):=at_new
 have hx2:(ps++[x]++mp)[ps.length]?=some x:=at_new
 rw [MatR_eq hw hx2,Mat.many hn2 hn hl]
 unfold bodyR
 rw [if_neg (by omega),if_neg (by omega),if_neg (by omega),if_neg (by omega),if_neg (by omega)]
 unfold timesB
 rw [hk]
 simp only []
 have hh:=(h.app [capN n] [x]).iff mn mp hw fold t
 have:=times_same (N:=t.size) (M:=Mat (ns++[capN n]++mn) fold t i) (R:=MatR (ps++[x]++mp) fold t j) (fun a b h=>h.le) (fun a b ha hb=>hh a b ha hb) h0 hm ha hb
 rw [this]
 show _↔∃c:Nat,n.least≤(c:Int)∧(n.most = -1∨(c:Int)≤n.most)∧_
 rw [e1,e2]
theorem SameL.one {kind:Int} {ns:List AN} {i:Nat} {ps:List PN} {j:Nat} (h:Same ns i ps j):SameL kind ns i ps [j]:=by
 refine ⟨?_,fun k hk=>by simp at hk;subst hk;exact h.good⟩
 intro mn mp hw fold t a b ha hb
 have hh:=h.iff mn mp hw fold t a b ha hb
 unfold listR
 split
 · show thenR t.size (fun i j=>i=j) (MatR (ps++mp) fold t j) a b↔_
   unfold thenR
   constructor
   · rintro ⟨p,h1,_,_,rfl,h2⟩;exact hh.1 h2
   · intro h1
     exact ⟨a,by omega,Nat.le_refl _,h1.le.2.2,rfl,hh.2 h1⟩
 · show eithR (fun _ _=>False) (MatR (ps++mp) fold t j) a b↔_
   unfold eithR
   constructor
   · rintro ⟨_,h1 | h1⟩
     · exact h1.elim
     · exact hh.1 h1
   · intro h1;exact ⟨h1.le.2.2,Or.inr (hh.2 h1)⟩
theorem SameL.next {kind:Int} (hkd:kind=4∨kind=5) {ns:List AN} {i:Nat} {ps:List PN} {l:List Nat} {r:Nat} {j:Nat} (h:SameL kind ns i ps l) (h2:Same ns r ps j) {n:AN} (hn:n.kind=kind) (hl:n.left=(i:Int)) (hr:n.right=(r:Int)):
 SameL kind (ns++[capN n]) ns.length ps (l++[j]):=by
 refine ⟨?_,fun k hk=>by
  rcases List.mem_append.1 hk with hk | hk
  · exact h.good k hk
  · simp at hk;subst hk;exact h2.good⟩
 intro mn mp hw fold t a b ha hb
 have hn2:(ns++[capN n]++mn)[ns.length]?=some (capN n):=at_new
 have x1:=fun a b ha hb=>h.iff ([capN n]++mn) mp hw fold t a b ha hb
 have x2:=fun a b ha hb=>h2.iff ([capN n]++mn) mp hw fold t a b ha hb
 rw [←List.append_assoc] at x1 x2
 unfold listR at x1 ⊢
 rcases hkd with rfl | rfl
 · rw [if_pos rfl] at x1 ⊢
   rw [seqR_snoc,Mat.two hn2 hn hl hr]
   unfold thenR
   constructor
   · rintro ⟨p,h1,_,_,h3,h4⟩;exact ⟨p,(x1 a p ha (by omega)).1 h3,(x2 p b (by omega) hb).1 h4⟩
   · rintro ⟨p,h3,h4⟩
     have b1:=h3.le
     have b2:=h4.le
     exact ⟨p,by omega,b1.2.2,b2.2.2,(x1 a p ha b1.2.1).2 h3,(x2 p b b1.2.1 hb).2 h4⟩
 · rw [if_neg (by decide)] at x1 ⊢
   rw [altR_snoc,Mat.alt hn2 hn hl hr]
   unfold eithR
   constructor
   · rintro ⟨_,h1 | h1⟩
     · exact Or.inl ((x1 a b ha hb).1 h1)
     · exact Or.inr ((x2 a b ha hb).1 h1)
   · rintro (h1 | h1)
     · exact ⟨h1.le.2.2,Or.inl ((x1 a b ha hb).2 h1)⟩
     · exact ⟨h1.le.2.2,Or.inr ((x2 a b ha hb).2 h1)⟩
theorem SameL.fin {kind:Int} (hkd:kind=4∨kind=5) {ns:List AN} {i:Nat} {ps:List PN} {l:List Nat} (h:SameL kind ns i ps l) {x:PN} (hx:x.kind=kind) (hk:x.kids=l):Same ns i (ps++[x]) ps.length:=by
 refine ⟨?_,?good⟩
 case good=>
  have hx0:(ps++[x])[ps.length]?=some x:=by have:=at_new (l:=ps) (x:=x) (m:=[]);rwa [List.append_nil] at this
  exact GoodT.many hx0 (by rw [hx];exact hkd) (fun k hkk=>by rw [hk] at hkk;exact (h.good k hkk).app _)
 intro mn mp hw fold t a b ha hb
 have hx2:(ps++[x]++mp)[ps.length]?=some x:=at_new
 rw [MatR_eq hw hx2]
 have x1:=h.iff mn ([x]++mp) (by rw [←List.append_assoc];exact hw) fold t a b ha hb
 rw [←List.append_assoc] at x1
 unfold listR at x1
 unfold bodyR
 rcases hkd with rfl | rfl
 · rw [if_pos rfl] at x1
   rw [if_neg (by omega),if_neg (by omega),if_neg (by omega),if_pos hx,hk]
   exact x1
 · rw [if_neg (by decide)] at x1
   rw [if_neg (by omega),if_neg (by omega),if_neg (by omega),if_neg (by omega),if_pos hx,hk]
   exact x1
end Go.Proofs.YtgifhgnccmnbiabGreat
namespace Go.Proofs.YtgifhgnccmnbiabGreat
structure DN where
 kind:Int
 part:Nat:=0
 next:Nat:=0
 other:Nat:=0
def forkN (a b:Nat):DN:={ kind:=7,next:=a,other:=b }
def EdgeD (ps:List PN) (fold:Bool) (t:ByteArray) (x:DN) (a j b:Nat):Prop:=
 (x.kind=7∧(j=x.next∨j=x.other)∧b=a)∨(x.kind=2∧j=x.next∧a=0∧b=0)∨(x.kind=3∧j=x.next∧a=t.size∧b=t.size) ∨
 (x.kind=1∧j=x.next∧∃p,ps[x.part]?=some p∧oneR p fold t a b)
theorem EdgeD.bd {ps:List PN} {fold:Bool} {t:ByteArray} {x:DN} {a j b:Nat} (h:EdgeD ps fold t x a j b) (ha:a≤t.size):a≤b∧b≤t.size:=by
 rcases h with ⟨_,_,rfl⟩ | ⟨_,_,rfl,rfl⟩ | ⟨_,_,rfl,rfl⟩ | ⟨_,_,p,_,rfl,h,_⟩ <;> omega
inductive PathD (ps:List PN) (fold:Bool) (t:ByteArray) (N:List DN) (lo hi nx:Nat):Nat→Nat→Nat→Prop
 | done (a:Nat):PathD ps fold t N lo hi nx nx a a
 | step {i a j b m:Nat} {x:DN}:lo≤i→i<hi→N[i]?=some x→EdgeD ps fold t x a j b→PathD ps fold t N lo hi nx j b m→PathD ps fold t N lo hi nx i a m
section
variable {ps:List PN} {fold:Bool} {t:ByteArray} {N N':List DN} {lo hi nx i a m:Nat}
theorem PathD.bd (h:PathD ps fold t N lo hi nx i a m):a≤t.size→a≤m∧m≤t.size:=by
 induction h with
 | done a=>intro h;exact ⟨Nat.le_refl _,h⟩
 | step h1 h2 h3 h4 _ ih=>
   intro ha
   have:=h4.bd ha
   have:=ih this.2
   omega
theorem PathD.agree (h:PathD ps fold t N lo hi nx i a m) (e:∀k,lo≤k→k<hi→N'[k]?=N[k]?):PathD ps fold t N' lo hi nx i a m:=by
 induction h with
 | done a=>exact PathD.done a
 | step h1 h2 h3 h4 _ ih=>exact PathD.step h1 h2 ((e _ h1 h2).trans h3) h4 ih
theorem PathD.join {lo' hi' nx' p:Nat} (h:PathD ps fold t N lo hi nx i a p) (h1:lo'≤lo) (h2:hi≤hi') (h3:PathD ps fold t N lo' hi' nx' nx p m):PathD ps fold t N lo' hi' nx' i a m:=by
 induction h with
 | done a=>exact h3
 | step g1 g2 g3 g4 _ ih=>exact PathD.step (by omega) (by omega) g3 g4 (ih h3)
theorem PathD.out (h:PathD ps fold t N lo hi nx i a m) (hn:nx<lo) (hi:i=nx):a=m:=by
 cases h with
 | done=>rfl
 | step h1 h2=>omega
def GoesIn (x:DN) (lo hi nx:Nat):Prop:=
 (x.next=nx∨(lo≤x.next∧x.next<hi))∧(x.kind=7→x.other=nx∨(lo≤x.other∧x.other<hi))
theorem GoesIn.edge {x:DN} {j b:Nat} (h:GoesIn x lo hi nx) (he:EdgeD ps fold t x a j b):j=nx∨(lo≤j∧j<hi):=by
 rcases he with ⟨hk,h1 | h1,_⟩ | ⟨_,h1,_⟩ | ⟨_,h1,_⟩ | ⟨_,h1,_⟩
 · rw [h1];exact h.1
 · rw [h1];exact h.2 hk
 · rw [h1];exact h.1
 · rw [h1];exact h.1
 · rw [h1];exact h.1
theorem GoesIn.wide {x:DN} {lo' hi' nx':Nat} (h:GoesIn x lo hi nx) (h1:lo'≤lo) (h2:hi≤hi') (h3:nx=nx'∨(lo'≤nx∧nx<hi')):GoesIn x lo' hi' nx':=by
 refine ⟨?_,fun hk=>?_⟩
 · rcases h.1 with h4 | h4
   · rw [h4];exact h3
   · right;omega
 · rcases h.2 hk with h4 | h4
   · rw [h4];exact h3
   · right;omega
theorem PathD.narrow {lo' hi' nx':Nat} (h:PathD ps fold t N lo' hi' nx' i a m) (h1:lo'≤lo) (hn:nx'<lo') (hc:∀k x,lo≤k→k<hi→N[k]?=some x→GoesIn x lo hi nx):
 (i=nx∨(lo≤i∧i<hi))→∃p,PathD ps fold t N lo hi nx i a p∧PathD ps fold t N lo' hi' nx' nx p m:=by
 induction h with
 | done a=>
   intro hi
   obtain rfl:nx'=nx:=by omega
   exact ⟨a,PathD.done a,PathD.done a⟩
 | @step i a j b m x g1 g2 g3 g4 g5 ih=>
   intro hi
   rcases hi with rfl | ⟨hi1,hi2⟩
   · exact ⟨a,PathD.done a,PathD.step g1 g2 g3 g4 g5⟩
   · obtain ⟨p,h3,h4⟩:=ih ((hc i x hi1 hi2 g3).edge g4)
     exact ⟨p,PathD.step hi1 hi2 g3 g4 h3,h4⟩
end
def NodeD (ps:List PN) (x:DN):Prop:=x.kind=7∨((x.kind=1∨x.kind=2∨x.kind=3)∧∃p,ps[x.part]?=some p∧p.kind=x.kind)
structure Frag (ps:List PN) (N:List DN) (lo hi nx at_:Nat) (R:Bool→ByteArray→Rel):Prop where
 le:lo≤hi
 len:hi≤N.length
 low:nx<lo
 first:at_=nx∨(lo≤at_∧at_<hi)
 goes:∀k x,lo≤k→k<hi→N[k]?=some x→GoesIn x lo hi nx
 ok:∀k x,lo≤k→k<hi→N[k]?=some x→NodeD ps x
 iff:∀(fold:Bool) (t:ByteArray) (a m:Nat),a≤t.size→(PathD ps fold t N lo hi nx at_ a m↔R fold t a m)
section
variable {ps:List PN} {N N':List DN} {lo mid hi nx at1 at2:Nat} {R R1 R2:Bool→ByteArray→Rel}
theorem Frag.agree (h:Frag ps N lo hi nx at1 R) (e:∀k,lo≤k→k<hi→N'[k]?=N[k]?) (hl:hi≤N'.length):Frag ps N' lo hi nx at1 R:=
 ⟨h.le,hl,h.low,h.first,fun k x a b c=>h.goes k x a b ((e k a b).symm.trans c),fun k x a b c=>h.ok k x a b ((e k a b).symm.trans c),
  fun fold t a m ha=>⟨fun g=>(h.iff fold t a m ha).1 (g.agree (fun k c d=>(e k c d).symm)),fun g=>((h.iff fold t a m ha).2 g).agree e⟩⟩
theorem Frag.more (h:Frag ps N lo hi nx at1 R) (M:List DN):Frag ps (N++M) lo hi nx at1 R:=
 h.agree (fun k _ hk=>List.getElem?_append_left (Nat.lt_of_lt_of_le hk h.len)) (by rw [List.length_append];have:=h.len;omega)
theorem Frag.turn (h:Frag ps N lo hi nx at1 R) (e:∀fold t a m,a≤t.size→(R fold t a m↔R2 fold t a m)):Frag ps N lo hi nx at1 R2:=
 ⟨h.le,h.len,h.low,h.first,h.goes,h.ok,fun fold t a m ha=>(h.iff fold t a m ha).trans (e fold t a m ha)⟩
theorem Frag.bd (h:Frag ps N lo hi nx at1 R) {fold:Bool} {t:ByteArray} {a m:Nat} (ha:a≤t.size) (hr:R fold t a m):a≤m∧m≤t.size:=((h.iff fold t a m ha).2 hr).bd ha
theorem Frag.none (hn:nx<lo) (hl:lo≤N.length):Frag ps N lo lo nx nx (fun _ _ a m=>a=m):=
 ⟨Nat.le_refl _,hl,hn,Or.inl rfl,fun k x a b=>by omega,fun k x a b=>by omega,fun fold t a m ha=>⟨fun h=>h.out hn rfl,fun h=>by rw [h];exact PathD.done _⟩⟩
theorem Frag.one {x:DN} (hn:nx<N.length) (hx:x.next=nx) (hk:x.kind=1∨x.kind=2∨x.kind=3) {p:PN} (hp:ps[x.part]?=some p) (hpk:p.kind=x.kind):
 Frag ps (N++[x]) N.length (N.length+1) nx N.length (fun fold t a m=>EdgeD ps fold t x a nx m):=by
 have hN:(N++[x])[N.length]?=some x:=by rw [List.getElem?_append_right (Nat.le_refl _),Nat.sub_self];rfl
 have get:∀k y,N.length≤k→k<N.length+1→(N++[x])[k]?=some y→y=x:=fun k y a b c=>by
  obtain rfl:k=N.length:=by omega
  rw [hN] at c;exact (Option.some.inj c).symm
 refine ⟨by omega,by simp,hn,Or.inr ⟨by omega,by omega⟩,fun k y a b c=>?_,fun k y a b c=>?_,fun fold t a m ha=>⟨fun h=>?_,fun h=>?_⟩⟩
 · rw [get k y a b c];exact ⟨Or.inl hx,fun h=>by omega⟩
 · rw [get k y a b c];exact Or.inr ⟨hk,p,hp,hpk⟩
 · cases h with
   | done=>omega
   | @step i a j b m y h1 h2 h3 h4 h5=>
     rw [hN] at h3
     obtain rfl:=Option.some.inj h3
     have hj:j=nx:=by
      rcases h4 with ⟨hk7,_⟩ | ⟨_,h4,_⟩ | ⟨_,h4,_⟩ | ⟨_,h4,_⟩ <;> omega
     subst hj
     have:=h5.out (by omega) rfl
     subst this
     exact h4
 · exact PathD.step (Nat.le_refl _) (by omega) hN h (PathD.done m)
theorem Frag.seq (h2:Frag ps N lo mid nx at2 R2) (h1:Frag ps N mid hi at2 at1 R1):Frag ps N lo hi nx at1 (fun fold t a m=>∃p,R1 fold t a p∧R2 fold t p m):=by
 have l1:=h1.le
 have l2:=h2.le
 have n2:=h2.low
 refine ⟨by omega,h1.len,n2,?_,fun k x a b c=>?_,fun k x a b c=>?_,fun fold t a m ha=>⟨fun h=>?_,?_⟩⟩
 · rcases h1.first with h | h
   · rw [h]
     rcases h2.first with h | h
     · exact Or.inl h
     · right;omega
   · right;omega
 · by_cases hk:k<mid
   · exact (h2.goes k x a hk c).wide (Nat.le_refl _) l1 (Or.inl rfl)
   · refine (h1.goes k x (by omega) b c).wide l2 (Nat.le_refl _) ?_
     rcases h2.first with h | h
     · exact Or.inl h
     · right;omega
 · by_cases hk:k<mid
   · exact h2.ok k x a hk c
   · exact h1.ok k x (by omega) b c
 · obtain ⟨p,g1,g2⟩:=h.narrow l2 n2 h1.goes h1.first
   obtain ⟨q,g3,g4⟩:=g2.narrow (Nat.le_refl _) n2 h2.goes h2.first
   have:=g4.out n2 rfl
   subst this
   exact ⟨p,(h1.iff fold t a p ha).1 g1,(h2.iff fold t p q (g1.bd ha).2).1 g3⟩
 · rintro ⟨p,g1,g2⟩
   have g1':=(h1.iff fold t a p ha).2 g1
   have g2':=(h2.iff fold t p m (g1'.bd ha).2).2 g2
   exact g1'.join l2 (Nat.le_refl _) (g2'.join (Nat.le_refl _) l1 (PathD.done m))
theorem Frag.fork (h1:Frag ps N lo mid nx at1 R1) (h2:Frag ps N mid N.length nx at2 R2) {b1 b2:Nat} (hb:(b1=at1∧b2=at2)∨(b1=at2∧b2=at1)):
 Frag ps (N++[forkN b1 b2]) lo (N.length+1) nx N.length (fun fold t a m=>R1 fold t a m∨R2 fold t a m):=by
 have l1:=h1.le
 have l2:=h2.le
 have n1:=h1.low
 have hN:(N++[forkN b1 b2])[N.length]?=some (forkN b1 b2):=by rw [List.getElem?_append_right (Nat.le_refl _),Nat.sub_self];rfl
 have e1:=h1.more [forkN b1 b2]
 have e2:=h2.more [forkN b1 b2]
 have f1:at1=nx∨(lo≤at1∧at1<N.length+1):=by
  rcases h1.first with h | h
  · exact Or.inl h
  · right;omega
 have f2:at2=nx∨(lo≤at2∧at2<N.length+1):=by
  rcases h2.first with h | h
  · exact Or.inl h
  · right;omega
 refine ⟨by omega,by simp,n1,Or.inr ⟨by omega,by omega⟩,fun k x a b c=>?_,fun k x a b c=>?_,fun fold t a m ha=>⟨fun h=>?_,?_⟩⟩
 · by_cases hk:k<mid
   · exact (e1.goes k x a hk c).wide (Nat.le_refl _) (by omega) (Or.inl rfl)
   · by_cases hk2:k<N.length
     · exact (e2.goes k x (by omega) hk2 c).wide l1 (by omega) (Or.inl rfl)
     · obtain rfl:k=N.length:=by omega
       rw [hN] at c
       obtain rfl:=Option.some.inj c
       rcases hb with ⟨rfl,rfl⟩ | ⟨rfl,rfl⟩
       · exact ⟨f1,fun _=>f2⟩
       · exact ⟨f2,fun _=>f1⟩
 · by_cases hk:k<mid
   · exact e1.ok k x a hk c
   · by_cases hk2:k<N.length
     · exact e2.ok k x (by omega) hk2 c
     · obtain rfl:k=N.length:=by omega
       rw [hN] at c
       obtain rfl:=Option.some.inj c
       exact Or.inl rfl
 · cases h with
   | done=>omega
   | @step i a j b m y g1 g2 g3 g4 g5=>
     rw [hN] at g3
     obtain rfl:=Option.some.inj g3
     obtain ⟨hj,rfl⟩:(j=at1∨j=at2)∧b=a:=by
      rcases g4 with ⟨_,h,h'⟩ | ⟨hk,_⟩ | ⟨hk,_⟩ | ⟨hk,_⟩
      · refine ⟨?_,h'⟩
        rcases hb with ⟨rfl,rfl⟩ | ⟨rfl,rfl⟩
        · exact h
        · exact h.symm
      · exact absurd hk (by show ¬(7:Int)=_;decide)
      · exact absurd hk (by show ¬(7:Int)=_;decide)
      · exact absurd hk (by show ¬(7:Int)=_;decide)
     rcases hj with rfl | rfl
     · obtain ⟨p,q1,q2⟩:=g5.narrow (Nat.le_refl _) n1 e1.goes e1.first
       have:=q2.out n1 rfl
       subst this
       exact Or.inl ((e1.iff fold t b p ha).1 q1)
     · obtain ⟨p,q1,q2⟩:=g5.narrow l1 n1 e2.goes e2.first
       have:=q2.out n1 rfl
       subst this
       exact Or.inr ((e2.iff fold t b p ha).1 q1)
 · have ed:∀j,(j=at1∨j=at2)→EdgeD ps fold t (forkN b1 b2) a j a:=fun j hj=>Or.inl ⟨rfl,by
    rcases hb with ⟨rfl,rfl⟩ | ⟨rfl,rfl⟩
    · exact hj
    · exact hj.symm,rfl⟩
   rintro (h | h)
   · exact PathD.step (by omega) (by omega) hN (ed _ (Or.inl rfl)) (((e1.iff fold t a m ha).2 h).join (Nat.le_refl _) (by omega) (PathD.done m))
   · exact PathD.step (by omega) (by omega) hN (ed _ (Or.inr rfl)) (((e2.iff fold t a m ha).2 h).join l1 (by omega) (PathD.done m))
inductive Rtc (R:Rel):Rel
 | refl (a:Nat):Rtc R a a
 | step {a p m:Nat}:R a p→Rtc R p m→Rtc R a m
theorem Frag.loop {k:Nat} (hn:nx<lo) (h:Frag ps N (lo+1) hi lo k R) (hf:N[lo]?=some (forkN nx k)):Frag ps N lo hi nx lo (fun fold t=>Rtc (R fold t)):=by
 have l1:=h.le
 have hlh:lo<hi:=by omega
 have hk:k=nx∨(lo≤k∧k<hi):=by
  rcases h.first with h | h
  · right;omega
  · right;omega
 refine ⟨by omega,h.len,hn,Or.inr ⟨Nat.le_refl _,by omega⟩,fun q x a b c=>?_,fun q x a b c=>?_,fun fold t a m ha=>⟨fun g=>?_,fun g=>?_⟩⟩
 · by_cases hq:q=lo
   · subst hq
     rw [hf] at c
     obtain rfl:=Option.some.inj c
     exact ⟨Or.inl rfl,fun _=>hk⟩
   · exact (h.goes q x (by omega) b c).wide (by omega) (Nat.le_refl _) (Or.inr ⟨Nat.le_refl _,by omega⟩)
 · by_cases hq:q=lo
   · subst hq
     rw [hf] at c
     obtain rfl:=Option.some.inj c
     exact Or.inl rfl
   · exact h.ok q x (by omega) b c
 · have key:∀i a m,PathD ps fold t N lo hi nx i a m→a≤t.size→(i=nx→a=m)∧(i=lo→Rtc (R fold t) a m)∧(lo+1≤i→i<hi→∃p,PathD ps fold t N (lo+1) hi lo i a p∧Rtc (R fold t) p m):=by
    intro i a m g
    induction g with
    | done a=>intro ha;exact ⟨fun _=>rfl,fun _=>Rtc.refl a,fun h _=>by omega⟩
    | @step i a j b m x g1 g2 g3 g4 g5 ih=>
      intro ha
      have hb:=g4.bd ha
      obtain ⟨i1,i2,i3⟩:=ih hb.2
      refine ⟨fun h=>by omega,fun hi=>?_,fun q1 q2=>?_⟩
      · subst hi
        rw [hf] at g3
        obtain rfl:=Option.some.inj g3
        rcases g4 with ⟨_,hj,rfl⟩ | ⟨hk,_⟩ | ⟨hk,_⟩ | ⟨hk,_⟩
        · rcases hj with hj | hj
          · rw [i1 hj];exact Rtc.refl m
          · rcases h.first with hk0 | hk0
            · exact i2 (hj.trans hk0)
            · obtain ⟨p,q1,q2⟩:=i3 (by rw [hj];exact hk0.1) (by rw [hj];exact hk0.2)
              have hj':j=k:=hj
              rw [hj'] at q1
              exact Rtc.step ((h.iff fold t b p ha).1 q1) q2
        · exact absurd hk (by show ¬(7:Int)=_;decide)
        · exact absurd hk (by show ¬(7:Int)=_;decide)
        · exact absurd hk (by show ¬(7:Int)=_;decide)
      · rcases (h.goes i x q1 q2 g3).edge g4 with hj | hj
        · exact ⟨b,PathD.step q1 q2 g3 g4 (by rw [hj];exact PathD.done b),i2 hj⟩
        · obtain ⟨p,q3,q4⟩:=i3 hj.1 hj.2
          exact ⟨p,PathD.step q1 q2 g3 g4 q3,q4⟩
   exact (key lo a m g ha).2.1 rfl
 · have key:∀a m,Rtc (R fold t) a m→a≤t.size→PathD ps fold t N lo hi nx lo a m:=by
    intro a m g
    induction g with
    | refl a=>intro _;exact PathD.step (Nat.le_refl _) (by omega) hf (Or.inl ⟨rfl,Or.inl rfl,rfl⟩) (PathD.done a)
    | @step a p m g1 _ ih=>
      intro ha
      have g1':=(h.iff fold t a p ha).2 g1
      exact PathD.step (Nat.le_refl _) (by omega) hf (Or.inl ⟨rfl,Or.inr rfl,rfl⟩) (g1'.join (by omega) (Nat.le_refl _) (ih (g1'.bd ha).2))
   exact key a m g ha
end
end Go.Proofs.YtgifhgnccmnbiabGreat
