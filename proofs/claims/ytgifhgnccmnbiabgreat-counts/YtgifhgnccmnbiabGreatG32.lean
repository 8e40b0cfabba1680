/- The document's answer: files of codes, as plain functions; what lies in memory. -/
import Derived.Test.YtgifhgnccmnbiabGreatG31
import Derived.Lib.AppendStr
set_option linter.unusedVariables false
set_option linter.unusedSimpArgs false
set_option maxHeartbeats 4000000
set_option maxRecDepth 100000
namespace Go.Proofs.YtgifhgnccmnbiabGreat
open Go.RowKit Go.IntWalk
structure ZB where
 p:Nat:=0
 n:Nat:=0
 out:ByteArray:=ByteArray.empty
 tab:List ByteArray:=[]
 last:ByteArray:=ByteArray.empty
def frB (r:ZB):Nat:=257+r.tab.length
def zwB (m:Nat) (r:ZB):Nat:=widP (frB r) m
def zgoB (B:ByteArray) (m:Nat) (r:ZB):Bool:=decide (r.p+zwB m r≤8*B.size)
def nowB (r:ZB) (c:Nat):ByteArray:=if c=frB r then r.last++r.last.extract 0 1 else entB r.tab c
def tkB (m:Nat) (r:ZB) (c:Nat):Option ZB:=
 if c=256 then some { r with p:=r.p+zwB m r,n:=r.n+1,tab:=[],last:=ByteArray.empty }
 else if r.last.size=0∧256<c then none
 else if frB r<c∨(c=frB r∧¬frB r<2 ^ m) then none
 else some { p:=r.p+zwB m r,n:=r.n+1,out:=r.out++nowB r c,tab:=if r.last.size≠0∧frB r<2 ^ m then r.tab++[r.last++(nowB r c).extract 0 1] else r.tab,last:=nowB r c }
def zsB (B:ByteArray) (m:Nat) (r:ZB):Option ZB:=tkB m r (numB B r.p (zwB m r)).1
def zitB (B:ByteArray) (m:Nat):Nat→Option ZB
 | 0=>some {}
 | n+1=>(zitB B m n).bind (zsB B m)
structure ZBI (B:ByteArray) (r:ZB):Prop where
 p:9*r.n≤r.p
 pb:r.p≤8*B.size
 tab:r.tab.length≤r.n
 ent:∀s,s∈r.tab→1≤s.size∧s.size≤r.n+1
 last:r.last.size≤r.n
 out:r.out.size≤5000*r.n
theorem zbi0 (B:ByteArray):ZBI B {}:=⟨by simp,by simp,by simp,by simp,Nat.le_refl 0,Nat.zero_le _⟩
theorem ba_size_app (a b:ByteArray):(a++b).size=a.size+b.size:=by simp
theorem entB_size {r:ZB} {B:ByteArray} (h:ZBI B r) {c:Nat} (hc:c<256∨(257≤c∧c-257<r.tab.length)):1≤(entB r.tab c).size∧(entB r.tab c).size≤r.n+1:=by
 unfold entB
 split
 · exact ⟨Nat.le_refl 1,by show 1≤_;omega⟩
 · have:r.tab.getD (c-257) ByteArray.empty∈r.tab:=by
    rw [List.getD,List.getElem?_eq_getElem (by omega)];exact List.getElem_mem _
   exact h.ent _ this
theorem nowB_size {r:ZB} {B:ByteArray} (h:ZBI B r) {c:Nat} (h0:c≠256) (hl:¬(r.last.size=0∧256<c)) (hc:c≤frB r):1≤(nowB r c).size∧(nowB r c).size≤r.n+1:=by
 unfold nowB
 split
 · rename_i he
   have h1:r.last.size≠0:=fun hx=>hl ⟨hx,by unfold frB at he;omega⟩
   have:=h.last
   rw [ba_size_app,ByteArray.size_extract]
   omega
 · refine entB_size h ?_
   unfold frB at *
   omega
theorem ZBI.take {B:ByteArray} {m:Nat} {r r':ZB} (h:ZBI B r) (hg:zgoB B m r=true) (hB:B.size≤4000) {c:Nat} (ht:tkB m r c=some r'):ZBI B r':=by
 have hg':r.p+zwB m r≤8*B.size:=by unfold zgoB at hg;simpa using hg
 have hw:=widP_bd (frB r) m
 have hwz:zwB m r=widP (frB r) m:=rfl
 have h1:=h.p
 have hn:r.n≤3600:=by have:=h.pb;omega
 unfold tkB at ht
 split at ht
 · simp only [Option.some.injEq] at ht
   subst ht
   exact ⟨by simp only [];omega,hg',by simp,by simp,by show 0≤_;omega,by have:=h.out;simp only [];omega⟩
 · split at ht
   · cases ht
   · split at ht
     · cases ht
     · rename_i h0 hl hc
       simp only [Option.some.injEq] at ht
       subst ht
       have hs:=nowB_size h h0 hl (by omega)
       have hla:=h.last
       have hta:=h.tab
       refine ⟨by simp only [];omega,hg',?_,fun s hs2=>?_,by simp only [];omega,by have:=h.out;simp only [];rw [ba_size_app];omega⟩
       · simp only []
         split
         · rw [List.length_append,List.length_singleton];omega
         · omega
       · simp only [] at hs2 ⊢
         split at hs2
         · rename_i hj
           rcases List.mem_append.1 hs2 with hs2 | hs2
           · have:=h.ent s hs2;omega
           · simp at hs2
             subst hs2
             rw [ba_size_app,ByteArray.size_extract]
             omega
         · have:=h.ent s hs2;omega
structure ZBM (w0 w:World) (r:ZB) (ov tv:Value):Prop where
 out:w.ownsRow w0.heap.size 5 1 ov r.out.size (Lib.strCells r.out)
 tab:w.ownsRow w0.heap.size 9 1 tv r.tab.length (strRow r.tab)
 kept:Kept [] w0 w
theorem strCells_app (a b:ByteArray):Lib.strCells (a++b)=Lib.strCells a++Lib.strCells b:=by
 unfold Lib.strCells
 rw [ByteArray.data_append,Array.toList_append,List.map_append]
theorem strRow_snoc (l:List ByteArray) (s:ByteArray):strRow (l++[s])=strRow l++[.string s]:=by simp [strRow]
theorem ZBM.keep {w0 w w':World} {r:ZB} {ov tv:Value} (h:ZBM w0 w r ov tv) (k:Kept [] w w'):ZBM w0 w' r ov tv:=
 ⟨row_stay h.out k (fun _ _=>by simp),row_stay h.tab k (fun _ _=>by simp),h.kept.trans k⟩
theorem grow_kept {w0 w w':World} {v:Value} {e z n:Nat} {xs:List Value} (k:Kept [] w0 w) (h:w.ownsRow w0.heap.size e z v n xs) (g:w.grownBy w' v.ownBlock):Kept [] w0 w':=
 ⟨g.os.trans k.os,g.tape.trans k.tape,g.output.trans k.output,Nat.le_trans k.size g.size,fun i hi _=>(g.block i (Nat.lt_of_lt_of_le hi k.size) (fun hc=>by have:=(h.lt i hc.symm).1;omega)).trans (k.block i hi (by simp))⟩
theorem ZBM.outGrow {w0 w w':World} {r:ZB} {ov tv v':Value} {s:ByteArray} (h:ZBM w0 w r ov tv) (ho:w'.ownsRow w0.heap.size 5 1 v' (r.out.size+s.size) (Lib.strCells r.out++Lib.strCells s)) (g:w.grownBy w' ov.ownBlock):
 ZBM w0 w' { r with out:=r.out++s } v' tv:=
 ⟨by rw [show ({ r with out:=r.out++s }:ZB).out=r.out++s from rfl,ba_size_app,strCells_app];exact ho,World.ownsRow.kept h.tab g (own_ne h.tab h.out (by decide)),grow_kept h.kept h.out g⟩
theorem ZBM.tabGrow {w0 w w':World} {r:ZB} {ov tv v':Value} {s:ByteArray} (h:ZBM w0 w r ov tv) (ho:w'.ownsRow w0.heap.size 9 1 v' (r.tab.length+1) (strRow r.tab++[.string s])) (g:w.grownBy w' tv.ownBlock):
 ZBM w0 w' { r with tab:=r.tab++[s] } ov v':=
 ⟨World.ownsRow.kept h.out g (own_ne h.out h.tab (by decide)),by rw [show ({ r with tab:=r.tab++[s] }:ZB).tab=r.tab++[s] from rfl,strRow_snoc,List.length_append];exact ho,grow_kept h.kept h.tab g⟩
theorem num_high {B:ByteArray} {p w j C:Nat} (hj:j<w) (hin:p+w≤8*B.size) (h:(numB B p w).1=(numB B p (j+1)).1+C*2 ^ (j+1)):(numB B p w).1=(numB B p j).1+(2*C+bitP B (p+j))*2 ^ j:=by
 have key:∀i,p+i≤8*B.size→(numB B p i).2=p+i:=by
  intro i
  induction i with
  | zero=>intro _;rfl
  | succ i ih=>
    intro hi
    show (nextB B (numB B p i).2).2=_
    rw [ih (by omega)]
    unfold nextB;rw [if_pos (by omega)];rfl
 have e:(numB B p (j+1)).1=(numB B p j).1+bitP B (p+j)*2 ^ j:=by
  show (numB B p j).1+(nextB B (numB B p j).2).1*2 ^ j=_
  rw [key j (by omega)]
  unfold nextB;rw [if_pos (by omega)]
 rw [h,e,Nat.pow_succ,Nat.add_mul,Nat.add_assoc]
 congr 1
 rw [Nat.add_comm,←Nat.mul_assoc,Nat.mul_comm (C*2 ^ j) 2,←Nat.mul_assoc]
def isZ (f:ByteArray):Prop:=3≤f.size∧f.size≤4000∧isSZ f∧9≤bt f 2∧bt f 2≤12
def badR3:Ending:=.returned (.tuple #[.slice none 0 0,.int .i64 0,.bool false])
structure CodesR (f:ByteArray) (w w':World) (e:Ending):Prop where
 kept:Kept [] w w'
 out:(¬isZ f∧e=badR3)∨(isZ f∧∃n r,zitB (f.extract 3 f.size) (bt f 2) n=some r∧ZBI (f.extract 3 f.size) r∧r.n=n∧(∀i,i<n→∃q,zitB (f.extract 3 f.size) (bt f 2) i=some q∧zgoB (f.extract 3 f.size) (bt f 2) q=true) ∧
  ((zgoB (f.extract 3 f.size) (bt f 2) r=true∧zsB (f.extract 3 f.size) (bt f 2) r=none∧e=badR3) ∨
   (zgoB (f.extract 3 f.size) (bt f 2) r=false∧endB (f.extract 3 f.size) r.p=false∧e=badR3) ∨
   (zgoB (f.extract 3 f.size) (bt f 2) r=false∧endB (f.extract 3 f.size) r.p=true∧∃ov tv,ZBM w w' r ov tv∧e=.returned (.tuple #[ov,.int .i64 (n:Int),.bool true]))))
structure ZBS (f:ByteArray) (n:Nat) (r:ZB):Prop where
 it:zitB (f.extract 3 f.size) (bt f 2) n=some r
 inv:ZBI (f.extract 3 f.size) r
 num:r.n=n
 on:∀i,i<n→∃q,zitB (f.extract 3 f.size) (bt f 2) i=some q∧zgoB (f.extract 3 f.size) (bt f 2) q=true
theorem tkB_n {m:Nat} {r r':ZB} {c:Nat} (h:tkB m r c=some r'):r'.n=r.n+1:=by
 unfold tkB at h
 split at h
 · simp only [Option.some.injEq] at h;subst h;rfl
 · split at h
   · cases h
   · split at h
     · cases h
     · simp only [Option.some.injEq] at h;subst h;rfl
theorem ZBS.next {f:ByteArray} {n:Nat} {r r':ZB} (h:ZBS f n r) (hf:f.size≤4000) (hg:zgoB (f.extract 3 f.size) (bt f 2) r=true) (ht:tkB (bt f 2) r (numB (f.extract 3 f.size) r.p (zwB (bt f 2) r)).1=some r'):ZBS f (n+1) r':=by
 refine ⟨?_,h.inv.take hg (by simp;omega) ht,by rw [tkB_n ht,h.num],fun i hi=>?_⟩
 · show (zitB _ _ n).bind _=_
   rw [h.it]
   exact ht
 · by_cases hin:i=n
   · subst hin;exact ⟨r,h.it,hg⟩
   · exact h.on i (by omega)
theorem ZBS.bad {f:ByteArray} {n:Nat} {r:ZB} {w w':World} (h:ZBS f n r) (hz:isZ f) (hg:zgoB (f.extract 3 f.size) (bt f 2) r=true) (ht:tkB (bt f 2) r (numB (f.extract 3 f.size) r.p (zwB (bt f 2) r)).1=none) (k:Kept [] w w'):CodesR f w w' badR3:=
 ⟨k,Or.inr ⟨hz,n,r,h.it,h.inv,h.num,h.on,Or.inl ⟨hg,ht,rfl⟩⟩⟩
theorem own_len {w:World} {base:Nat} {e:TypeId} {size:Nat} {v:Value} {n:Nat} {xs:List Value} (h:w.ownsRow base e size v n xs):∃a c,v=.slice a n c:=by
 rcases h.2 with ⟨h3,h4⟩ | ⟨g,cap,_,h3,_⟩
 · exact ⟨none,0,by rw [h3,h4]⟩
 · exact ⟨_,cap,h3⟩
theorem infoByte:(Tryz.prog.info? 5).map (fun i=>(i.zero,i.size,i.bytes))=some (some (.int .u8 0),1,1):=by kernel_rfl
theorem infoStr:(Tryz.prog.info? 9).map (fun i=>(i.zero,i.size,i.bytes))=some (some (.string ⟨#[]⟩),1,16):=by kernel_rfl
theorem ba_empty {s:ByteArray} (h:s.size=0):s=⟨#[]⟩:=by
 obtain ⟨⟨l⟩⟩:=s
 have:l=[]:=List.eq_nil_of_length_eq_zero (by simpa [ByteArray.size] using h)
 subst this;rfl
theorem ba_nonempty {s:ByteArray} (h:s.size≠0):(s.toList==([]:List UInt8))=false:=by
 unfold ByteArray.toList
 rw [ByteArray.toList.loop.eq_1,if_pos (by omega)]
 have key:∀(k i:Nat) (r:List UInt8),s.size-i≤k→r≠[]→ByteArray.toList.loop s i r≠[]:=by
  intro k
  induction k with
  | zero=>
    intro i r hk hr
    rw [ByteArray.toList.loop.eq_1,if_neg (by omega)]
    simpa using hr
  | succ k ih=>
    intro i r hk hr
    rw [ByteArray.toList.loop.eq_1]
    split
    · exact ih _ _ (by omega) (by simp)
    · simpa using hr
 rw [beq_eq_false_iff_ne]
 exact key s.size _ _ (by omega) (by simp)
set_option maxHeartbeats 8000000 in
theorem rcodes_any (f:ByteArray) (hf:f.size≤maxLen) (w:World):
 Calls Tryz.prog 41 #[.string f] w fun e w'=>CodesR f w w' e:=by
 unfold maxLen at hf
 have hk0:Hid (Kept [] w w):=Kept.refl _ _
 by_cases h3:(f.size:Int)<3
 · have hn:Hid (¬isZ f):=fun h=>by have:=h.1;omega
   go_enter Tryz.func41,Tryz.ntmps41
   go_wp2
   go_ret3
   exact ⟨hk0.out,Or.inl ⟨hn.out,rfl⟩⟩
 by_cases h4:(4000:Int)<(f.size:Int)
 · have hn:Hid (¬isZ f):=fun h=>by have:=h.2.1;omega
   have h3':(3:Int)≤(f.size:Int):=by omega
   clear h3
   go_enter Tryz.func41,Tryz.ntmps41
   go_wp2
   go_ret3
   exact ⟨hk0.out,Or.inl ⟨hn.out,rfl⟩⟩
 have h4':(f.size:Int)≤4000:=by omega
 have h3':(3:Int)≤(f.size:Int):=by omega
 have h2':(2:Int)≤(f.size:Int):=by omega
 have h2i:(2:Int)<(f.size:Int):=by omega
 clear h4 h3
 by_cases hG:isSZ f
 · have eG:f.extract 0 2=⟨#[83,90]⟩:=(head_bytes (by omega) 83 90).2 hG
   have hGH:Hid (isSZ f):=hG
   clear hG
   obtain ⟨m,hm⟩:∃m,m=bt f 2:=⟨_,rfl⟩
   have hm2:f[2].toNat=m:=by rw [hm,bt_lt (by omega)]
   have hm255:m<256:=by rw [←hm2];exact f[2].toNat_lt
   have hmH:Hid (m=bt f 2):=hm
   clear hm
   by_cases hm9:(m:Int)<9
   · have hn:Hid (¬isZ f):=fun h=>by have:=h.2.2.2.1;rw [←hmH.out] at this;omega
     go_enter Tryz.func41,Tryz.ntmps41
     go_wp2
     go_ret3
     exact ⟨hk0.out,Or.inl ⟨hn.out,rfl⟩⟩
   by_cases hm12:(12:Int)<(m:Int)
   · have hn:Hid (¬isZ f):=fun h=>by have:=h.2.2.2.2;rw [←hmH.out] at this;omega
     have hm9':(9:Int)≤(m:Int):=by omega
     clear hm9
     go_enter Tryz.func41,Tryz.ntmps41
     go_wp2
     go_ret3
     exact ⟨hk0.out,Or.inl ⟨hn.out,rfl⟩⟩
   have hm9':(9:Int)≤(m:Int):=by omega
   have hm12':(m:Int)≤12:=by omega
   have hz:Hid (isZ f):=⟨by omega,by omega,hGH.out,by rw [←hmH.out];omega,by rw [←hmH.out];omega⟩
   clear hm9 hm12 hGH
   go_enter Tryz.func41,Tryz.ntmps41
   go_wp2_with fail
   go_loopw [7,8,9,10,11] (fun pv ov nv tv lv wr=>∃(n:Nat) (r:ZB),ZBS f n r∧pv=.int .i64 (r.p:Int)∧nv=.int .i64 (n:Int)∧lv=.string r.last∧ZBM w wr r ov tv) (fun pv _ _ _ _ _=>(40000-intOf pv).toNat)
   case atStart=>exact ⟨0,{},⟨rfl,zbi0 _,rfl,fun i hi=>by omega⟩,rfl,rfl,rfl,World.ownsRow_nil _ _ _ 1,World.ownsRow_nil _ _ _ 1,hk0.out⟩
   case round=>
    obtain ⟨n,r,hs,rfl,rfl,rfl,hmem⟩:=hrel
    obtain ⟨oa,oc,rfl⟩:=own_len hmem.out
    obtain ⟨ta,tc,rfl⟩:=own_len hmem.tab
    have hB:(f.extract 3 f.size).size=f.size-3:=by simp
    have hp9:=hs.inv.p
    have hpb:=hs.inv.pb
    have htl:=hs.inv.tab
    have hnum:=hs.num
    rw [hB] at hpb
    have hn36:n≤3600:=by omega
    have hF:frB r≤10000:=by unfold frB;omega
    have hwd:=widP_bd (frB r) m
    have hwz:zwB m r=widP (frB r) m:=rfl
    have hwi:=fun w=>rwide_any (frB r) m (by omega) (by omega) (by omega) w
    have eF:((frB r:Nat):Int)=257+(r.tab.length:Int):=by unfold frB;omega
    rw [←hwz,eF] at hwi
    have hwi:Hid (∀w,Calls _ _ _ w _):=hwi
    rw [←hwz] at hwd
    have hsH:Hid (ZBS f n r):=hs
    have hmemH:Hid (ZBM _ _ _ _ _):=hmem
    have hgo1:Hid (r.p+zwB m r≤8*(f.size-3)→zgoB (f.extract 3 f.size) (bt f 2) r=true):=fun h=>by unfold zgoB;rw [hB,←hmH.out];exact decide_eq_true h
    have hgo2:Hid (¬r.p+zwB m r≤8*(f.size-3)→zgoB (f.extract 3 f.size) (bt f 2) r=false):=fun h=>by unfold zgoB;rw [hB,←hmH.out];exact decide_eq_false h
    have hFH:Hid (_=_):=eF
    clear hs hmem hwz eF
    by_cases hgo:r.p+zwB m r≤8*(f.size-3)
    · have hg1:Hid (_=true):=hgo1.out hgo
      have hgI:¬ 8*((f.size:Int)-3)-(r.p:Int)<((zwB m r:Nat):Int):=by omega
      clear hgo1 hgo2
      obtain ⟨V,hV⟩:∃V,V=(numB (f.extract 3 f.size) r.p (zwB m r)).1:=⟨_,rfl⟩
      have hVlt:V<4096:=by
       have h1:=(numB_bd (f.extract 3 f.size) r.p (zwB m r)).1
       have h2:2 ^ zwB m r≤2 ^ 12:=Nat.pow_le_pow_right (by omega) hwd.2
       rw [←hV] at h1
       exact Nat.lt_of_lt_of_le h1 h2
      have hVH:Hid (V=_):=hV
      clear hV
      go_wp2_with fail
      refine (hwi.out _).mono ?_
      rintro e w1 ⟨rfl,rfl⟩
      clear hwi
      go_wp2_with fail
      go_loop [14,15] (fun cv iv=>∃(j C:Nat),((j=0∧iv=.int .i64 (-1))∨∃k:Nat,j=k+1∧iv=.int .i64 (k:Int))∧cv=.int .i64 (C:Int)∧j≤zwB m r∧V=(numB (f.extract 3 f.size) r.p j).1+C*2 ^ j) (fun _ iv=>(intOf iv+1).toNat)
      case atStart=>exact ⟨zwB m r,0,Or.inr ⟨zwB m r-1,by omega,by go_num⟩,rfl,Nat.le_refl _,by rw [hVH.out];omega⟩
      case round=>
       obtain ⟨j,C,hjv,rfl,hjw,hVC⟩:=hrel
       rcases hjv with ⟨rfl,rfl⟩ | ⟨k,rfl,rfl⟩
       · have hCV:C=V:=by rw [hVC];show C=0+C*1;omega
         subst hCV
         have hVC2:Hid (_=_):=hVH.out
         clear hVC
         obtain ⟨i0,hi0,hz0,hz1,hz2⟩:=info_parts infoByte
         obtain ⟨j0,hj0,hw0,hw1,hw2⟩:=info_parts infoStr
         have hob:=hsH.out.inv.out
         have hlb:=hsH.out.inv.last
         have htk:Hid (∀r',tkB m r C=r'→tkB (bt f 2) r (numB (f.extract 3 f.size) r.p (zwB (bt f 2) r)).1=r'):=fun r' h=>by rw [←hmH.out,←hVC2.out];exact h
         obtain ⟨M,hM⟩:∃M,M=2 ^ m:=⟨_,rfl⟩
         have hM12:M≤4096:=by
          have h2:2 ^ m≤2 ^ 12:=Nat.pow_le_pow_right (by omega) (by omega)
          rw [←hM] at h2
          exact h2
         have hpow:wrap64 ((2:Int) ^ m)=(M:Int):=by
          rw [show ((2:Int) ^ m)=(M:Int) by rw [hM];simp [Int.natCast_pow]]
          exact wrap64_in _ (by omega)
         have hMH:Hid (M=2 ^ m):=hM
         clear hM
         have hoS:∀S:ByteArray,S.size≤4000→r.out.size+S.size≤100000000:=fun S h=>by omega
         have hoSH:Hid (∀S:ByteArray,_):=hoS
         have hentA:Hid (C≠256→C<frB r→∀w v Bd,w.ownsRow Bd 9 1 v r.tab.length (strRow r.tab)→Calls _ _ _ w _):=fun h1 h2 w v Bd h=>entry_any r.tab v Bd C (by unfold frB at h2;omega) (by omega) w h
         have hnowH:Hid (C≠256→¬(r.last.size=0∧256<C)→C≤frB r→1≤(nowB r C).size∧(nowB r C).size≤r.n+1):=fun a b c=>nowB_size hsH.out.inv a b c
         clear hoS
         by_cases hC:C=256
         · subst hC
           have hnext:Hid (ZBS f (n+1) _):=hsH.out.next (by omega) hg1.out (htk.out _ (if_pos rfl))
           have hme:Hid (ZBM w _ { r with p:=r.p+zwB m r,n:=r.n+1,tab:=[],last:=ByteArray.empty } (.slice oa r.out.size oc) (.slice none 0 0)):=⟨hmemH.out.out,World.ownsRow_nil _ _ _ 1,hmemH.out.kept⟩
           clear hpow
           go_wp2
           refine ⟨⟨n+1,_,hnext.out,by go_num,by go_num,rfl,hme.out⟩,?_⟩
           simp only [intOf];omega
         have hCb:((C:Int)==256)=false:=beq_eq_false_iff_ne.2 (by omega)
         have hCH:Hid (C≠256):=hC
         clear hC
         by_cases hl0:r.last.size=0
         · have eL:r.last=⟨#[]⟩:=ba_empty hl0
           by_cases hC2:(256:Int)<(C:Int)
           · have hno:Hid (tkB (bt f 2) r (numB (f.extract 3 f.size) r.p (zwB (bt f 2) r)).1=none):=htk.out _ (by unfold tkB;rw [if_neg hCH.out,if_pos ⟨hl0,by omega⟩])
             clear hl0
             go_wp2
             go_ret3
             exact hsH.out.bad hz.out hg1.out hno.out hmemH.out.kept
           · have hCF:C<frB r:=by unfold frB;omega
             obtain ⟨S,hS⟩:∃S,S=entB r.tab C:=⟨_,rfl⟩
             have hnS:nowB r C=S:=by unfold nowB;rw [if_neg (by omega),hS]
             have hsz:=hnowH.out hCH.out (fun h=>by omega) (by omega)
             rw [hnS] at hsz
             have hent:=hentA.out hCH.out hCF
             rw [←hS] at hent
             have hent:Hid (∀w v Bd,_→Calls _ _ _ w _):=fun w v Bd=>hent w v Bd
             have hoS:=hoSH.out S (by omega)
             have hnext:Hid (ZBS f (n+1) { p:=r.p+zwB m r,n:=r.n+1,out:=r.out++S,tab:=r.tab,last:=S }):=hsH.out.next (by omega) hg1.out (htk.out _ (by
              unfold tkB;rw [if_neg hCH.out,if_neg (fun h=>by omega),if_neg (fun h=>by omega),hnS,if_neg (fun h=>h.1 hl0)]))
             have n1:¬ 257+(r.tab.length:Int)<(C:Int):=by have:=hFH.out;omega
             have n2:((C:Int)==257+(r.tab.length:Int))=false:=beq_eq_false_iff_ne.2 (by have:=hFH.out;omega)
             clear hS hnS hentA hnowH hl0 htk
             go_wp2_with (first
              | (go_at_call 78;refine (hent.out _ _ _ hmemH.out.tab).mono ?_;rintro e w2 ⟨rfl,k2⟩;have mem2:=hmemH.out.keep k2)
              | (at_builtin;refine Lib.wpList_append_own_string (P:=Tryz.prog) _ rfl (.tmp 121) (.tmp 122) 128 9 rfl w.heap.size 5 i0 Tryz.underlying128 Tryz.underlying9 hi0 hz0 hz1 hz2 (.slice oa r.out.size oc) r.out.size (Lib.strCells r.out) rfl mem2.out S rfl ?_ ?_ ?_ ?_))
             · unfold maxLen;omega
             · omega
             · exact Nat.le_trans (Nat.le_refl _) mem2.kept.size
             intro v3 w3 hown hgrow _
             have mem3:Hid (ZBM w w3 { r with out:=r.out++S } v3 (.slice ta r.tab.length tc)):=mem2.outGrow hown hgrow
             clear hown hgrow
             go_wp2
             refine ⟨⟨n+1,_,hnext.out,by go_num,by go_num,rfl,mem3.out.out,mem3.out.tab,mem3.out.kept⟩,?_⟩
             simp only [intOf];omega
         · have d1:(r.last.toList==([]:List UInt8))=false:=ba_nonempty hl0
           have d2:(r.last.toList != ([]:List UInt8))=true:=by rw [bne,d1];rfl
           have hl1:(1:Int)≤(r.last.size:Int):=by omega
           by_cases hFC:257+(r.tab.length:Int)<(C:Int)
           · have hno:Hid (tkB (bt f 2) r (numB (f.extract 3 f.size) r.p (zwB (bt f 2) r)).1=none):=htk.out _ (by unfold tkB;rw [if_neg hCH.out,if_neg (fun h=>hl0 h.1),if_pos (Or.inl (by have:=hFH.out;omega))])
             clear hl0
             go_wp2
             go_ret3
             exact hsH.out.bad hz.out hg1.out hno.out hmemH.out.kept
           have hFC':¬ 257+(r.tab.length:Int)<(C:Int):=hFC
           by_cases hroom:(257+(r.tab.length:Int))<(M:Int)
           · have hrN:frB r<2 ^ m:=by rw [←hMH.out];exact Int.ofNat_lt.1 (by rw [hFH.out];exact hroom)
             by_cases hCF:(C:Int)=257+(r.tab.length:Int)
             · have n2:((C:Int)==257+(r.tab.length:Int))=true:=beq_iff_eq.2 hCF
               have hCFN:C=frB r:=by have:=hFH.out;omega
               obtain ⟨S,hS⟩:∃S,S=r.last++r.last.extract 0 1:=⟨_,rfl⟩
               have hnS:nowB r C=S:=by unfold nowB;rw [if_pos hCFN,hS]
               have hsz:=hnowH.out hCH.out (fun h=>by omega) (by omega)
               rw [hnS] at hsz
               have hS1:(1:Int)≤(S.size:Int):=by omega
               have hoS:=hoSH.out S (by omega)
               have hnext:Hid (ZBS f (n+1) { p:=r.p+zwB m r,n:=r.n+1,out:=r.out++S,tab:=r.tab++[r.last++S.extract 0 1],last:=S }):=hsH.out.next (by omega) hg1.out (htk.out _ (by
                unfold tkB;rw [if_neg hCH.out,if_neg (fun h=>hl0 h.1),if_neg (fun h=>by rcases h with h | h;omega;exact h.2 hrN),hnS,if_pos ⟨hl0,hrN⟩]))
               have hSe:=hS.symm
               clear hS hnS hentA hnowH hl0 htk hCF hCFN hFC
               go_wp2_with (first
                | (at_builtin;refine Lib.wpList_append_own_string (P:=Tryz.prog) _ rfl (.tmp 121) (.tmp 122) 128 9 rfl w.heap.size 5 i0 Tryz.underlying128 Tryz.underlying9 hi0 hz0 hz1 hz2 (.slice oa r.out.size oc) r.out.size (Lib.strCells r.out) rfl hmemH.out.out S rfl ?_ ?_ ?_ ?_))
               · unfold maxLen;omega
               · omega
               · exact Nat.le_trans (Nat.le_refl _) hmemH.out.kept.size
               intro v3 w3 hown hgrow _
               have mem3:Hid (ZBM w w3 { r with out:=r.out++S } v3 (.slice ta r.tab.length tc)):=hmemH.out.outGrow hown hgrow
               clear hown hgrow
               go_wp2_with (at_builtin;refine wpList_append_own _ rfl (.tmp 129) (.tmp 134) 167 rfl w.heap.size 9 j0 _ 1 16 Tryz.underlying167 hj0 hw0 hw1 hw2 rfl (by decide) (.slice ta r.tab.length tc) r.tab.length (strRow r.tab) rfl ?own ⟨w3.heap.size,0,none⟩ 1 1 [.string (r.last++S.extract 0 1)] rfl rfl ?c1 ?c2 ?b1 ?b2 ?b3 ?k)
               case own=>exact World.ownsRow.alloc mem3.out.tab _
               case c1=>exact cells_new _ _ _ _ rfl
               case c2=>simp [Value.oneCell']
               case b1=>unfold maxLen;omega
               case b2=>omega
               case b3=>have:=mem3.out.kept.size;simp;omega
               case k=>
                intro v4 w4 hown4 hgrow4 _
                have mem4:Hid (ZBM _ _ _ _ _):=(mem3.out.keep ((Kept.refl [] w3).alloc _)).tabGrow hown4 hgrow4
                clear hown4 hgrow4 mem3
                go_wp2
                refine ⟨⟨n+1,_,hnext.out,by go_num,by go_num,rfl,mem4.out.out,mem4.out.tab,mem4.out.kept⟩,?_⟩
                simp only [intOf];omega
             · have n2:((C:Int)==257+(r.tab.length:Int))=false:=beq_eq_false_iff_ne.2 hCF
               have hCFN:C<frB r:=by have:=hFH.out;omega
               obtain ⟨S,hS⟩:∃S,S=entB r.tab C:=⟨_,rfl⟩
               have hnS:nowB r C=S:=by unfold nowB;rw [if_neg (by omega),hS]
               have hsz:=hnowH.out hCH.out (fun h=>by omega) (by omega)
               rw [hnS] at hsz
               have hS1:(1:Int)≤(S.size:Int):=by omega
               have hent:=hentA.out hCH.out hCFN
               rw [←hS] at hent
               have hent:Hid (∀w v Bd,_→Calls _ _ _ w _):=fun w v Bd=>hent w v Bd
               have hoS:=hoSH.out S (by omega)
               have hnext:Hid (ZBS f (n+1) { p:=r.p+zwB m r,n:=r.n+1,out:=r.out++S,tab:=r.tab++[r.last++S.extract 0 1],last:=S }):=hsH.out.next (by omega) hg1.out (htk.out _ (by
                unfold tkB;rw [if_neg hCH.out,if_neg (fun h=>hl0 h.1),if_neg (fun h=>by omega),hnS,if_pos ⟨hl0,hrN⟩]))
               clear hS hnS hentA hnowH hl0 htk hCF hCFN hFC
               go_wp2_with (first
                | (go_at_call 78;refine (hent.out _ _ _ hmemH.out.tab).mono ?_;rintro e w2 ⟨rfl,k2⟩;have mem2:=hmemH.out.keep k2)
                | (at_builtin;refine Lib.wpList_append_own_string (P:=Tryz.prog) _ rfl (.tmp 121) (.tmp 122) 128 9 rfl w.heap.size 5 i0 Tryz.underlying128 Tryz.underlying9 hi0 hz0 hz1 hz2 (.slice oa r.out.size oc) r.out.size (Lib.strCells r.out) rfl mem2.out S rfl ?_ ?_ ?_ ?_))
               · unfold maxLen;omega
               · omega
               · exact Nat.le_trans (Nat.le_refl _) mem2.kept.size
               intro v3 w3 hown hgrow _
               have mem3:Hid (ZBM w w3 { r with out:=r.out++S } v3 (.slice ta r.tab.length tc)):=mem2.outGrow hown hgrow
               clear hown hgrow
               go_wp2_with (at_builtin;refine wpList_append_own _ rfl (.tmp 129) (.tmp 134) 167 rfl w.heap.size 9 j0 _ 1 16 Tryz.underlying167 hj0 hw0 hw1 hw2 rfl (by decide) (.slice ta r.tab.length tc) r.tab.length (strRow r.tab) rfl ?own ⟨w3.heap.size,0,none⟩ 1 1 [.string (r.last++S.extract 0 1)] rfl rfl ?c1 ?c2 ?b1 ?b2 ?b3 ?k)
               case own=>exact World.ownsRow.alloc mem3.out.tab _
               case c1=>exact cells_new _ _ _ _ rfl
               case c2=>simp [Value.oneCell']
               case b1=>unfold maxLen;omega
               case b2=>omega
               case b3=>have:=mem3.out.kept.size;simp;omega
               case k=>
                intro v4 w4 hown4 hgrow4 _
                have mem4:Hid (ZBM _ _ _ _ _):=(mem3.out.keep ((Kept.refl [] w3).alloc _)).tabGrow hown4 hgrow4
                clear hown4 hgrow4 mem3
                go_wp2
                refine ⟨⟨n+1,_,hnext.out,by go_num,by go_num,rfl,mem4.out.out,mem4.out.tab,mem4.out.kept⟩,?_⟩
                simp only [intOf];omega
           · have hrN:¬frB r<2 ^ m:=by rw [←hMH.out];exact fun h=>hroom (by rw [←hFH.out];exact Int.ofNat_lt.2 h)
             by_cases hCF:(C:Int)=257+(r.tab.length:Int)
             · have n2:((C:Int)==257+(r.tab.length:Int))=true:=beq_iff_eq.2 hCF
               have hno:Hid (tkB (bt f 2) r (numB (f.extract 3 f.size) r.p (zwB (bt f 2) r)).1=none):=htk.out _ (by unfold tkB;rw [if_neg hCH.out,if_neg (fun h=>hl0 h.1),if_pos (Or.inr ⟨by have:=hFH.out;omega,hrN⟩)])
               have hrd:decide ((257+(r.tab.length:Int))<(M:Int))=false:=decide_eq_false hroom
               clear hl0 hCF
               go_wp2
               go_ret3
               exact hsH.out.bad hz.out hg1.out hno.out hmemH.out.kept
             · have n2:((C:Int)==257+(r.tab.length:Int))=false:=beq_eq_false_iff_ne.2 hCF
               have hCFN:C<frB r:=by have:=hFH.out;omega
               obtain ⟨S,hS⟩:∃S,S=entB r.tab C:=⟨_,rfl⟩
               have hnS:nowB r C=S:=by unfold nowB;rw [if_neg (by omega),hS]
               have hsz:=hnowH.out hCH.out (fun h=>by omega) (by omega)
               rw [hnS] at hsz
               have hent:=hentA.out hCH.out hCFN
               rw [←hS] at hent
               have hent:Hid (∀w v Bd,_→Calls _ _ _ w _):=fun w v Bd=>hent w v Bd
               have hoS:=hoSH.out S (by omega)
               have hrd:decide ((257+(r.tab.length:Int))<(M:Int))=false:=decide_eq_false hroom
               have hnext:Hid (ZBS f (n+1) { p:=r.p+zwB m r,n:=r.n+1,out:=r.out++S,tab:=r.tab,last:=S }):=hsH.out.next (by omega) hg1.out (htk.out _ (by
                unfold tkB;rw [if_neg hCH.out,if_neg (fun h=>hl0 h.1),if_neg (fun h=>by omega),hnS,if_neg (fun h=>hrN h.2)]))
               clear hS hnS hentA hnowH hl0 htk hCF hCFN hFC
               go_wp2_with (first
                | (go_at_call 78;refine (hent.out _ _ _ hmemH.out.tab).mono ?_;rintro e w2 ⟨rfl,k2⟩;have mem2:=hmemH.out.keep k2)
                | (at_builtin;refine Lib.wpList_append_own_string (P:=Tryz.prog) _ rfl (.tmp 121) (.tmp 122) 128 9 rfl w.heap.size 5 i0 Tryz.underlying128 Tryz.underlying9 hi0 hz0 hz1 hz2 (.slice oa r.out.size oc) r.out.size (Lib.strCells r.out) rfl mem2.out S rfl ?_ ?_ ?_ ?_))
               · unfold maxLen;omega
               · omega
               · exact Nat.le_trans (Nat.le_refl _) mem2.kept.size
               intro v3 w3 hown hgrow _
               have mem3:Hid (ZBM w w3 { r with out:=r.out++S } v3 (.slice ta r.tab.length tc)):=mem2.outGrow hown hgrow
               clear hown hgrow
               go_wp2
               refine ⟨⟨n+1,_,hnext.out,by go_num,by go_num,rfl,mem3.out.out,mem3.out.tab,mem3.out.kept⟩,?_⟩
               simp only [intOf];omega
       · have hbit:=rbit_any f (by omega) (r.p+k) (by omega)
         have ec:((r.p+k:Nat):Int)=(r.p:Int)+(k:Int):=by omega
         rw [ec] at hbit
         have hbit:Hid (∀w,Calls _ _ _ w _):=hbit
         have hnx:Hid (V=(numB (f.extract 3 f.size) r.p k).1+(2*C+bitP (f.extract 3 f.size) (r.p+k))*2 ^ k):=by
          show V=_
          rw [hVH.out] at hVC ⊢
          exact num_high (by omega) (by rw [hB];omega) hVC
         have hbl:bitP (f.extract 3 f.size) (r.p+k)<2:=by unfold bitP;omega
         have hCle:C≤V:=by
          have:C*1≤C*2 ^ (k+1):=Nat.mul_le_mul_left _ (Nat.one_le_two_pow)
          omega
         clear ec hVC
         generalize bitP (f.extract 3 f.size) (r.p+k)=bb at *
         go_wp2_with fail
         refine (hbit.out _).mono ?_
         rintro e w2 ⟨rfl,rfl⟩
         clear hbit
         go_wp2
         refine ⟨⟨k,2*C+bb,?_,by go_num,by omega,hnx.out⟩,?_⟩
         · cases k with
           | zero=>exact Or.inl ⟨rfl,by go_num⟩
           | succ k=>exact Or.inr ⟨k,rfl,by go_num⟩
         · simp only [intOf];omega
    · have hg2:Hid (_=false):=hgo2.out hgo
      have hgI:8*((f.size:Int)-3)-(r.p:Int)<((zwB m r:Nat):Int):=by omega
      clear hgo1 hgo2
      have hend:Hid (endB (f.extract 3 f.size) r.p=(decide (8*(f.size-3)-r.p<8)&&decide ((numB (f.extract 3 f.size) r.p (8*(f.size-3)-r.p)).1=0))):=by show endB _ _=_;unfold endB;rw [hB]
      have hzero:Hid (∀j,(∀i,i<j→bitP (f.extract 3 f.size) (r.p+i)=0)→r.p+j≤8*(f.size-3)→(numB (f.extract 3 f.size) r.p j).1=0):=fun j=>by
       induction j with
       | zero=>intro _ _;rfl
       | succ j ih=>
         intro h1 h2
         have h3:=ih (fun i hi=>h1 i (by omega)) (by omega)
         have h4:=h1 j (by omega)
         have key:=num_high (B:=f.extract 3 f.size) (p:=r.p) (w:=j+1) (j:=j) (C:=0) (by omega) (by rw [hB];omega) (by simp)
         rw [key,h3,h4];simp
      have hone:Hid (∀j i,i<j→bitP (f.extract 3 f.size) (r.p+i)≠0→r.p+j≤8*(f.size-3)→(numB (f.extract 3 f.size) r.p j).1≠0):=fun j=>by
       induction j with
       | zero=>intro i hi;omega
       | succ j ih=>
         intro i hi hb h2
         have key:=num_high (B:=f.extract 3 f.size) (p:=r.p) (w:=j+1) (j:=j) (C:=0) (by omega) (by rw [hB];omega) (by simp)
         rw [key]
         by_cases hij:i=j
         · subst hij
           have h5:0<(2*0+bitP (f.extract 3 f.size) (r.p+i))*2 ^ i:=Nat.mul_pos (by omega) (Nat.two_pow_pos i)
           omega
         · have:=ih i (by omega) hb (by omega)
           omega
      have hbadE:Hid (endB (f.extract 3 f.size) r.p=false→CodesR f w _ badR3):=fun h=>⟨hmemH.out.kept,Or.inr ⟨hz.out,n,r,hsH.out.it,hsH.out.inv,hsH.out.num,hsH.out.on,Or.inr (Or.inl ⟨hg2.out,h,rfl⟩)⟩⟩
      have hgoodE:Hid (endB (f.extract 3 f.size) r.p=true→CodesR f w _ (.returned (.tuple #[.slice oa r.out.size oc,.int .i64 (n:Int),.bool true]))):=fun h=>⟨hmemH.out.kept,Or.inr ⟨hz.out,n,r,hsH.out.it,hsH.out.inv,hsH.out.num,hsH.out.on,Or.inr (Or.inr ⟨hg2.out,h,_,_,hmemH.out,rfl⟩)⟩⟩
      go_wp2_with fail
      refine (hwi.out _).mono ?_
      rintro e w1 ⟨rfl,rfl⟩
      clear hwi
      go_wp2_with fail
      go_loop [19] (fun iv=>∃j:Nat,iv=.int .i64 ((r.p:Int)+(j:Int))∧r.p+j≤8*(f.size-3)∧(∀i,i<j→bitP (f.extract 3 f.size) (r.p+i)=0)∧(0<j→8*(f.size-3)-r.p<8)) (fun iv=>(8*((f.size:Int)-3)-intOf iv).toNat)
      case atStart=>exact ⟨0,by go_num,by omega,fun i hi=>by omega,fun h=>by omega⟩
      case round=>
       obtain ⟨j,rfl,hj,hall,h8⟩:=hrel
       have hallH:Hid (∀i,_):=hall
       have h8H:Hid (0<j→_):=h8
       clear hall h8
       by_cases hjl:(r.p:Int)+(j:Int)<8*((f.size:Int)-3)
       · have hbit:=rbit_any f (by omega) (r.p+j) (by omega)
         have ec:((r.p+j:Nat):Int)=(r.p:Int)+(j:Int):=by omega
         rw [ec] at hbit
         have hbit:Hid (∀w,Calls _ _ _ w _):=hbit
         clear ec
         by_cases hb0:bitP (f.extract 3 f.size) (r.p+j)=0
         · rw [hb0] at hbit
           by_cases hw8:(8:Int)≤8*((f.size:Int)-3)-(r.p:Int)
           · have hf0:Hid (CodesR f w _ badR3):=hbadE.out (by rw [hend.out,decide_eq_false (show ¬ 8*(f.size-3)-r.p<8 by omega)];rfl)
             clear hbadE hgoodE hend hzero hone hb0
             go_wp2_with fail
             refine (hbit.out _).mono ?_
             rintro e w2 ⟨rfl,rfl⟩
             clear hbit
             go_wp2
             go_ret3
             exact hf0.out
           · have hnx:Hid (∀i,i<j+1→bitP (f.extract 3 f.size) (r.p+i)=0):=fun i hi=>by
              by_cases hij:i=j
              · subst hij;exact hb0
              · exact hallH.out i (by omega)
             clear hbadE hgoodE hend hzero hone hb0 hallH h8H
             go_wp2_with fail
             refine (hbit.out _).mono ?_
             rintro e w2 ⟨rfl,rfl⟩
             clear hbit
             go_wp2
             refine ⟨⟨j+1,by go_num,by omega,hnx.out,fun _=>by omega⟩,?_⟩
             simp only [intOf];omega
         · have hne:((bitP (f.extract 3 f.size) (r.p+j):Int) != 0)=true:=by simp;omega
           have hf0:Hid (CodesR f w _ badR3):=hbadE.out (by
            rw [hend.out]
            have:=hone.out (8*(f.size-3)-r.p) j (by omega) hb0 (by omega)
            rw [decide_eq_false this,Bool.and_false])
           clear hbadE hgoodE hend hzero hone
           generalize bitP (f.extract 3 f.size) (r.p+j)=bb at *
           go_wp2_with fail
           refine (hbit.out _).mono ?_
           rintro e w2 ⟨rfl,rfl⟩
           clear hbit
           go_wp2
           go_ret3
           exact hf0.out
       · have hje:r.p+j=8*(f.size-3):=by omega
         have hf0:Hid (CodesR f w _ (.returned (.tuple #[.slice oa r.out.size oc,.int .i64 (n:Int),.bool true]))):=hgoodE.out (by
          rw [hend.out,show 8*(f.size-3)-r.p=j by omega,hzero.out j hallH.out (by omega)]
          have:j<8:=by
           by_cases hj0:0<j
           · have:=h8H.out hj0;omega
           · omega
          rw [decide_eq_true this];rfl)
         clear hbadE hgoodE hend hzero hone
         go_wp2
         go_ret3
         exact hf0.out
 · have hn:Hid (¬isZ f):=fun h=>hG h.2.2.1
   have d1:((f.extract 0 2).toList==[83,90])=false:=head_ne (by omega) 83 90 (fun h=>hG h)
   have d2:((f.extract 0 2).toList != [83,90])=true:=by simp [bne,d1]
   clear hG
   go_enter Tryz.func41,Tryz.ntmps41
   go_wp2
   go_ret3
   exact ⟨hk0.out,Or.inl ⟨hn.out,rfl⟩⟩
end Go.Proofs.YtgifhgnccmnbiabGreat
