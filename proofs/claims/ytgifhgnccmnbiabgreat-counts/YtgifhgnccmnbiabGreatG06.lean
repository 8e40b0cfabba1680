/- The document's answer: the size of a part; a pattern's tree. -/
import Derived.Test.YtgifhgnccmnbiabGreatG05
import Derived.Test.YtgifhgnccmnbiabGreatG03
set_option linter.unusedVariables false
set_option linter.unusedSimpArgs false
set_option maxHeartbeats 4000000
set_option maxRecDepth 100000
namespace Go.Proofs.YtgifhgnccmnbiabGreat
open Go.RowKit Go.IntWalk
def sizeK (p:PN) (n:Int):Int:=
 if p.kind=1∨p.kind=2∨p.kind=3 then 1
 else if p.kind=4 then (if n<1 then 1 else n)
 else if p.kind=6 then (if 1<p.most then wrap64 (n*p.most) else if p.most<0∧1<p.least then wrap64 (n*p.least) else n)
 else n
def sizeG (ps:List PN):Nat→Nat→Int
 | 0,_=>0
 | f+1,i=>match ps[i]? with
   | none=>0
   | some p=>sizeK p (p.kids.foldl (fun n k=>wrap64 (n+sizeG ps f k)) 0)
def PM (w:World) (ps:List PN) (adrs:List Nat):Prop:=
 ∀(i:Nat) (p:PN),ps[i]?=some p→(∀k,k∈p.kids→k<i)∧∃F iv kv,PartOk w F adrs p (adrs.getD i 0) iv kv
theorem sizeG_more (ps:List PN) (hk:∀(i:Nat) (p:PN),ps[i]?=some p→∀k,k∈p.kids→k<i):∀(f g i:Nat),i<f→i<g→sizeG ps f i=sizeG ps g i
 | 0,_,_,h,_=>by omega
 | _+1,0,_,_,h=>by omega
 | f+1,g+1,i,h1,h2=>by
   rw [sizeG,sizeG]
   cases hp:ps[i]? with
   | none=>rfl
   | some p=>
     simp only []
     congr 1
     have:∀(l:List Nat) (n:Int),(∀k,k∈l→k<i)→l.foldl (fun n k=>wrap64 (n+sizeG ps f k)) n=l.foldl (fun n k=>wrap64 (n+sizeG ps g k)) n:=by
      intro l
      induction l with
      | nil=>intro n _;rfl
      | cons x r ih=>
        intro n hl
        rw [List.foldl_cons,List.foldl_cons,sizeG_more ps hk f g x (by have:=hl x (by simp);omega) (by have:=hl x (by simp);omega)]
        exact ih _ (fun k hk=>hl k (by simp [hk]))
     exact this p.kids 0 (hk i p hp)
theorem rsize_step (ps:List PN) (adrs:List Nat) (w:World) (hm:PM w ps adrs) (i:Nat) (p:PN) (hp:ps[i]?=some p)
 (ih:∀k,k<i→Calls Tryz.prog 40 #[ptrTo adrs k] w fun e w'=>e=.returned (.int .i64 (sizeG ps i k))∧w'=w):
 Calls Tryz.prog 40 #[ptrTo adrs i] w fun e w'=>e=.returned (.int .i64 (sizeG ps (i+1) i))∧w'=w:=by
 obtain ⟨hk,F,iv,kv,po⟩:=hm i p hp
 have hsz:Hid (sizeG ps (i+1) i=sizeK p (p.kids.foldl (fun n k=>wrap64 (n+sizeG ps i k)) 0)):=by
  show sizeG ps (i+1) i=_
  rw [sizeG,hp]
 have hl:p.kids.length≤maxLen:=by
  rcases po.kids.2 with ⟨_,h2⟩ | ⟨g,cap,cu,_,_,_,h4,h5,_⟩
  · omega
  · omega
 unfold maxLen at hl
 have ihH:Hid (∀k,k<i→_):=ih
 clear ih hm hp
 obtain ⟨a,ha⟩:∃a,a=adrs.getD i 0:=⟨_,rfl⟩
 rw [←ha] at po
 have e:ptrTo adrs i=.pointer (some ⟨a,0,none⟩):=by rw [ha];rfl
 rw [e]
 clear e ha
 have c0:=po.blk.cell 0
 have c3:=po.blk.cell 3
 have c4:=po.blk.cell 4
 have c5:=po.blk.cell 5
 have hlen:kv.2.1=p.kids.length:=by
  rcases po.kids.2 with ⟨h1,h2⟩ | ⟨g,cap,cu,h1,_⟩
  · simp [ivV] at h1;rw [h1.2.1,h2]
  · simp [ivV] at h1;exact h1.2.1
 obtain ⟨ko,kl,kc⟩:=kv
 simp only [] at hlen c3
 subst hlen
 have hcell:∀j,j<p.kids.length→∃g,ko=some ⟨g,0,none⟩∧w.cell? ⟨g,j,none⟩=some (ptrTo adrs (p.kids.getD j 0))∧j<kc:=by
  intro j hj
  rcases po.kids.2 with ⟨h1,h2⟩ | ⟨g,cap,cu,h1,h2,h3,h4,_⟩
  · omega
  · simp [ivV] at h1
    have hc:=po.kids.cells (g:=g) (by simp [ivV,h1.1,Value.ownBlock]) j (ptrTo adrs (p.kids.getD j 0)) (by simp [List.getD,hj])
    refine ⟨g,h1.1,?_,by rw [h1.2];omega⟩
    rwa [show (⟨g,0,none⟩:Addr).add j=⟨g,j,none⟩ by unfold Addr.add;split <;> simp_all] at hc
 have hcellH:Hid (∀j,j<p.kids.length→_):=hcell
 clear po hcell
 go_enter Tryz.func40,Tryz.ntmps40
 go_wp2_with fail
 go_loop [3,4] (fun n j=>∃c:Nat,c≤p.kids.length∧j=.int .i64 (c:Int)∧n=.int .i64 ((p.kids.take c).foldl (fun n k=>wrap64 (n+sizeG ps i k)) 0)) (fun _ j=>p.kids.length-(intOf j).toNat)
 case atStart=>exact ⟨0,Nat.zero_le _,rfl,rfl⟩
 case round=>
  obtain ⟨c,hc,rfl,rfl⟩:=hrel
  by_cases hlt:c<p.kids.length
  · obtain ⟨g,rfl,hcj,hck⟩:=hcellH.out c hlt
    have hget:p.kids.getD c 0=p.kids[c]:=by simp [List.getD,hlt]
    have hki:=hk (p.kids.getD c 0) (by rw [hget];exact List.getElem_mem hlt)
    have hnext:Hid ((p.kids.take (c+1)).foldl (fun n k=>wrap64 (n+sizeG ps i k)) 0=wrap64 ((p.kids.take c).foldl (fun n k=>wrap64 (n+sizeG ps i k)) 0+sizeG ps i (p.kids.getD c 0))):=by
     show _=_
     rw [List.take_succ_eq_append_getElem hlt,List.foldl_append,hget]
     rfl
    clear hget
    generalize p.kids.getD c 0=kk at *
    have ihc:Hid (Calls _ _ _ _ _):=ihH.out _ hki
    obtain ⟨y,hy⟩:∃y,ptrTo adrs kk=.pointer (some ⟨y,0,none⟩):=⟨_,rfl⟩
    rw [hy] at hcj
    have hyH:Hid (_=_):=hy
    clear hy
    generalize (p.kids.take c).foldl (fun n k=>wrap64 (n+sizeG ps i k)) 0=acc at *
    go_wp2_with fail
    rw [←hyH.out]
    refine ihc.out.mono ?_
    rintro e w2 ⟨rfl,rfl⟩
    go_wp2
    refine ⟨⟨c+1,by omega,by go_num,by rw [hnext.out]⟩,by simp [intOf];omega⟩
  · have hc2:c=p.kids.length:=by omega
    subst hc2
    rw [List.take_of_length_le (Nat.le_refl _)] at *
    generalize p.kids.foldl (fun n k=>wrap64 (n+sizeG ps i k)) 0=acc at *
    clear hk hcellH ihH
    by_cases k1:p.kind=1
    · have e:Hid (sizeK p acc=1):=if_pos (Or.inl k1)
      go_wp2
      go_ret
      exact ⟨ret_int (by rw [hsz.out,e.out]),rfl⟩
    have b1:(p.kind==1)=false:=by simpa using k1
    by_cases k2:p.kind=2
    · have e:Hid (sizeK p acc=1):=if_pos (Or.inr (Or.inl k2))
      go_wp2
      go_ret
      exact ⟨ret_int (by rw [hsz.out,e.out]),rfl⟩
    have b2:(p.kind==2)=false:=by simpa using k2
    by_cases k3:p.kind=3
    · have e:Hid (sizeK p acc=1):=if_pos (Or.inr (Or.inr k3))
      go_wp2
      go_ret
      exact ⟨ret_int (by rw [hsz.out,e.out]),rfl⟩
    have b3:(p.kind==3)=false:=by simpa using k3
    by_cases k4:p.kind=4
    · have e:Hid (sizeK p acc=if acc<1 then 1 else acc):=by show sizeK p acc=_;unfold sizeK;rw [if_neg (by omega),if_pos k4]
      by_cases l:acc<1
      · go_wp2
        go_ret
        exact ⟨ret_int (by rw [hsz.out,e.out,if_pos l]),rfl⟩
      · go_wp2
        go_ret
        exact ⟨ret_int (by rw [hsz.out,e.out,if_neg (by omega)]),rfl⟩
    have b4:(p.kind==4)=false:=by simpa using k4
    by_cases k6:p.kind=6
    · have e:Hid (sizeK p acc=if 1<p.most then wrap64 (acc*p.most) else if p.most<0∧1<p.least then wrap64 (acc*p.least) else acc):=by
       show sizeK p acc=_;unfold sizeK;rw [if_neg (by omega),if_neg k4,if_pos k6]
      clear k1 k2 k3 k4 b1 b2 b3 b4
      by_cases l:1<p.most
      · go_wp2
        go_ret
        exact ⟨ret_int (by rw [hsz.out,e.out,if_pos l]),rfl⟩
      by_cases l2:p.most<0
      · by_cases l3:1<p.least
        · go_wp2
          go_ret
          exact ⟨ret_int (by rw [hsz.out,e.out,if_neg (by omega),if_pos ⟨l2,l3⟩]),rfl⟩
        · go_wp2
          go_ret
          exact ⟨ret_int (by rw [hsz.out,e.out,if_neg (by omega),if_neg (by omega)]),rfl⟩
      · go_wp2
        go_ret
        exact ⟨ret_int (by rw [hsz.out,e.out,if_neg (by omega),if_neg (by omega)]),rfl⟩
    · have e:Hid (sizeK p acc=acc):=by show sizeK p acc=_;unfold sizeK;rw [if_neg (by omega),if_neg k4,if_neg k6]
      have b6:(p.kind==6)=false:=by simpa using k6
      clear k1 k2 k3 k4 k6
      go_wp2
      go_ret
      exact ⟨ret_int (by rw [hsz.out,e.out]),rfl⟩
theorem rsize_any (ps:List PN) (adrs:List Nat) (w:World) (hm:PM w ps adrs):
 ∀(n i:Nat),i<n→i<ps.length→Calls Tryz.prog 40 #[ptrTo adrs i] w fun e w'=>e=.returned (.int .i64 (sizeG ps (i+1) i))∧w'=w
 | 0,_,h,_=>by omega
 | n+1,i,h,hi=>by
   have hp:ps[i]?=some ps[i]:=List.getElem?_eq_getElem hi
   refine rsize_step ps adrs w hm i ps[i] hp (fun k hk=>?_)
   have h2:=rsize_any ps adrs w hm n k (by omega) (by omega)
   rwa [sizeG_more ps (fun i p hp=>(hm i p hp).1) (k+1) i k (by omega) hk] at h2
theorem RM.pm {w:World} {b:Nat} {t:ByteArray} {s:RS} {ps:List PN} {adrs:List Nat} {F:Nat→Prop} (h:RM w b t s ps adrs F):PM w ps adrs:=fun i p hp=>by
 obtain ⟨h1,iv,kv,h2⟩:=h.part i p hp
 exact ⟨h1,F,iv,kv,h2⟩
def rp0:RP:=((0,false),[])
def BadT (t:ByteArray) (r:Nat×RP):Prop:=r.2.1.2=true∨r.2.1.1<t.size
def szT (r:Nat×RP):Int:=sizeG r.2.2 (r.1+1) r.1
def TreeOut (t:ByteArray) (w w':World) (e:Ending):Prop:=
 Below w.heap.size w w'∧∃r:Nat×RP,EvR t 0 [] rp0 r∧r.1<r.2.2.length ∧
  ((BadT t r∧e=.returned (.tuple #[.pointer none,.int .i64 0,.int .i64 2])) ∨
   (¬BadT t r∧60<szT r∧e=.returned (.tuple #[.pointer none,.int .i64 0,.int .i64 3])) ∨
   (¬BadT t r∧szT r≤60∧∃adrs F b,w.heap.size≤b∧RM w' b t r.2.1 r.2.2 adrs F∧e=.returned (.tuple #[ptrTo adrs r.1,.int .i64 (szT r),.int .i64 0])))
theorem rtree_long (t:ByteArray) (w:World) (h:40<t.size) (hs:t.size≤maxLen):
 Calls Tryz.prog 20 #[.string t] w fun e w'=>e=.returned (.tuple #[.pointer none,.int .i64 0,.int .i64 3])∧w'=w:=by
 unfold maxLen at hs
 go_enter Tryz.func20,Tryz.ntmps20
 go_wp2
 go_ret3
 exact ⟨rfl,rfl⟩
theorem sfx_zero (t:ByteArray):sfx t 0=t:=by simp [sfx]
theorem rtree_any (t:ByteArray) (w:World) (h:t.size≤40):
 Calls Tryz.prog 20 #[.string t] w fun e w'=>TreeOut t w w' e:=by
 have hr:RM (w.alloc (.cells #[.string t,.bool false] 125)) w.heap.size t (0,false) [] [] (fun _=>False):=by
  refine ⟨⟨?_,Nat.zero_le _,h⟩,rfl,fun i p hp=>by simp at hp,fun k hk=>hk.elim⟩
  simp only [sfx_zero]
  exact Blk.new _ _ _
 have hC:Hid (Calls _ _ _ _ _):=rchoice_any t (t.size+1) w.heap.size (0,false) [] [] (fun _=>False) _ (by simp only [];omega) hr
 have bw:Below w.heap.size w (w.alloc (.cells #[.string t,.bool false] 125)):=(Below.refl _ _).alloc (Nat.le_refl _) _
 go_enter Tryz.func20,Tryz.ntmps20
 go_wp2_with fail
 refine hC.out.mono ?_
 clear hC hr
 rintro e w1 ⟨r,pv,rfl,ev,m,hge⟩
 obtain ⟨⟨adrs,F,hm,_,_,hpv⟩,k1,hidx⟩:=m
 simp only [List.nil_append] at hm hpv
 have b1:Below w.heap.size w w1:=bw.trans (k1.below (by simp) (by simp))
 have c0:=hm.rr.c0
 have c1:=hm.rr.c1
 have hfit:=hm.rr.fits
 simp only [Fits] at hfit
 obtain ⟨x,hx⟩:∃x,pv=.pointer (some ⟨x,0,none⟩):=⟨_,hpv⟩
 subst hx
 have evH:Hid (EvR t 0 [] rp0 r):=ev
 have hpvH:Hid (_=_):=hpv
 have hmH:Hid (RM _ _ _ _ _ _ _):=hm
 clear ev hpv bw k1
 cases hb:r.2.1.2 with
 | true=>
   rw [hb] at c1
   have hbH:Hid (BadT t r):=Or.inl hb
   go_wp2
   go_ret3
   exact ⟨b1,r,evH.out,hidx,Or.inl ⟨hbH.out,rfl⟩⟩
 | false=>
   rw [hb] at c1
   by_cases hlt:r.2.1.1<t.size
   · have hl:(0:Int)<((sfx t r.2.1.1).size:Int):=by rw [sfx_size];omega
     have hbH:Hid (BadT t r):=Or.inr hlt
     go_wp2
     go_ret3
     exact ⟨b1,r,evH.out,hidx,Or.inl ⟨hbH.out,rfl⟩⟩
   · have hl:¬(0:Int)<((sfx t r.2.1.1).size:Int):=by rw [sfx_size];omega
     have hnb:Hid (¬BadT t r):=fun hc=>by rcases hc with hc | hc;rw [hb] at hc;cases hc;exact hlt hc
     have hS:Hid (Calls _ _ _ _ _):=rsize_any r.2.2 adrs w1 hm.pm (r.1+1) r.1 (Nat.lt_succ_self _) hidx
     clear hm hb
     go_wp2_with fail
     rw [hpvH.out]
     refine hS.out.mono ?_
     clear hS
     rw [←hpvH.out]
     obtain ⟨z,hz⟩:∃z,z=sizeG r.2.2 (r.1+1) r.1:=⟨_,rfl⟩
     rw [←hz]
     rintro e w2 ⟨rfl,rfl⟩
     have hzH:Hid (z=szT r):=hz
     clear hz
     by_cases hbig:60<z
     · go_wp2
       go_ret3
       exact ⟨b1,r,evH.out,hidx,Or.inr (Or.inl ⟨hnb.out,by rw [←hzH.out];exact hbig,rfl⟩)⟩
     · go_wp2
       go_ret3
       exact ⟨b1,r,evH.out,hidx,Or.inr (Or.inr ⟨hnb.out,by rw [←hzH.out];omega,adrs,F,w.heap.size,Nat.le_refl _,hmH.out,by rw [←hpvH.out,←hzH.out];rfl⟩)⟩
def boolRow (n:Nat) (f:Nat→Bool):Array Value:=((List.range n).map (fun i=>Value.bool (f i))).toArray
theorem boolRow_get {n:Nat} (f:Nat→Bool) {i:Nat} (h:i<n):(boolRow n f)[i]?=some (.bool (f i)):=by simp [boolRow,h]
theorem boolRow_set {n:Nat} (f f':Nat→Bool) (i:Nat) (b:Bool) (h:∀j,j<n→f' j=if j=i then b else f j):(boolRow n f).setIfInBounds i (.bool b)=boolRow n f':=by
 apply Array.ext
 · simp [boolRow]
 · intro j h1 h2
   have hj:j<n:=by simpa [boolRow] using h2
   rw [Array.getElem_setIfInBounds (by simpa [boolRow] using hj)]
   simp only [boolRow,List.getElem_toArray,List.getElem_map,List.getElem_range]
   rw [h j hj]
   by_cases hij:i=j
   · subst hij;simp
   · rw [if_neg hij,if_neg (fun hc=>hij hc.symm)]
theorem boolRow_congr {n:Nat} {f f':Nat→Bool} (h:∀j,j<n→f j=f' j):boolRow n f=boolRow n f':=by
 apply Array.ext
 · simp [boolRow]
 · intro j h1 h2
   simp only [boolRow,List.getElem_toArray,List.getElem_map,List.getElem_range]
   rw [h j (by simpa [boolRow] using h1)]
theorem made_row (n:Nat):madeCells (Value.bool false).cells n=boolRow n (fun _=>false):=by
 apply Array.ext
 · simp [madeCells,boolRow]
 · intro i h1 h2
   simp [madeCells,boolRow,Value.cells,Nat.mod_one]
theorem make_row (n:Nat) (hn:n≤1000000) (w:World):(Instr.makeSlice 47 (.int .i64 (n:Int)) (.int .i64 (n:Int))).run Tryz.prog w=.ok (.slice (some ⟨w.heap.size,0,none⟩) n n) (w.alloc (.cells (boolRow n (fun _=>false)) 4)):=by
 obtain ⟨i0,hi0,hz0,hz1,hz2⟩:=info_parts infoBool
 have h:=run_make (P:=Tryz.prog) w 47 4 i0 (.bool false) Tryz.underlying47 hi0 hz0 .i64 .i64 (n:Int) (n:Int) (by omega) (by omega) (by rw [hz2];omega) (by omega)
 rw [hz1] at h
 simp only [Int.toNat_natCast,Nat.mul_one] at h
 rw [made_row] at h
 exact h
theorem infoRow:(Tryz.prog.info? 47).map (fun i=>(i.zero,i.size,i.bytes))=some (some (.slice none 0 0),1,24):=by kernel_rfl
def rowV (n g:Nat):Value:=.slice (some ⟨g,0,none⟩) n n
structure Tab (w:World) (B:Nat) (v:Value) (n:Nat) (rows:List Nat) (M:Nat→Nat→Bool):Prop where
 own:w.ownsRow B 47 1 v rows.length (rows.map (rowV n))
 row:∀i g,rows[i]?=some g→Blk w g (boolRow n (M i)) 4
 base:∀g,g∈rows→B≤g
 nodup:rows.Nodup
section
variable {w w':World} {B n:Nat} {v:Value} {rows:List Nat} {M:Nat→Nat→Bool}
theorem Tab.ne (h:Tab w B v n rows M) {i g:Nat} (hg:rows[i]?=some g):v.ownBlock≠some g:=fun hc=>by
 rcases h.own.2 with ⟨rfl,_⟩ | ⟨k,c,u,rfl,_,hk,_⟩
 · simp [Value.ownBlock] at hc
 · simp only [Value.ownBlock,Option.some.injEq] at hc
   subst hc
   have h5:=h.row i _ hg
   unfold Blk at h5
   rw [hk] at h5
   simp at h5
theorem Tab.lt (h:Tab w B v n rows M) {g:Nat} (hg:g∈rows):g<w.heap.size:=by
 obtain ⟨i,hi⟩:=List.mem_iff_getElem?.1 hg
 exact (h.row i g hi).lt
theorem Tab.kept {S:List Nat} (h:Tab w B v n rows M) (k:Kept S w w') (hs:∀g,g∈S→g<B∨w.heap.size≤g):Tab w' B v n rows M:=by
 refine ⟨row_keep (S:=S) h.own k (fun g hg hc=>?_),fun i g hg=>(h.row i g hg).kept k (fun hc=>?_),h.base,h.nodup⟩
 · have:=h.own.lt g hg;have:=hs g hc;omega
 · have h1:=h.base g (List.mem_iff_getElem?.2 ⟨i,hg⟩);have:=(h.row i g hg).lt;have:=hs g hc;omega
theorem Tab.nil (w:World) (B n:Nat) (M:Nat→Nat→Bool):Tab w B (.slice none 0 0) n [] M:=
 ⟨World.ownsRow_nil w B _ 1,fun i g hg=>by simp at hg,fun g hg=>by simp at hg,List.nodup_nil⟩
end
section
variable {w w':World} {B n:Nat} {v:Value} {rows:List Nat} {M M':Nat→Nat→Bool}
theorem Tab.mono {B':Nat} (h:Tab w B v n rows M) (hb:B'≤B):Tab w B' v n rows M:=
 ⟨own_base h.own hb,h.row,fun g hg=>Nat.le_trans hb (h.base g hg),h.nodup⟩
theorem Tab.head (h:Tab w B v n rows M) (hr:0<rows.length):
 ∃k cap,v=.slice (some ⟨k,0,none⟩) rows.length cap∧B≤k∧(∀i g,rows[i]?=some g→w.cell? ⟨k,i,none⟩=some (rowV n g)):=by
 obtain ⟨k,cap,rfl⟩:=own_form h.own hr
 refine ⟨k,cap,rfl,(h.own.lt k rfl).1,fun i g hg=>?_⟩
 have h1:=h.own.cells (g:=k) rfl i (rowV n g) (by simp [hg])
 rwa [show (⟨k,0,none⟩:Addr).add i=⟨k,i,none⟩ by unfold Addr.add;split <;> simp_all] at h1
theorem Tab.cell (h:Tab w B v n rows M) {i g j:Nat} (hg:rows[i]?=some g) (hj:j<n):w.cell? ⟨g,j,none⟩=some (.bool (M i j)):=by
 rw [(h.row i g hg).cell,boolRow_get _ hj]
end
inductive Hops (R:Nat→Nat→Prop) (n:Nat):Nat→Nat→Nat→Prop
 | refl {i:Nat}:i<n→Hops R n 0 i i
 | step {k i m j:Nat}:R i m→i<m→Hops R n k m j→Hops R n (k+1) i j
section
variable {R:Nat→Nat→Prop} {T:Nat→Nat→Bool} {n k a b i j p:Nat}
theorem Hops.bound (h:Hops R n k i j):i+k≤j∧j<n:=by
 induction h with
 | refl h=>exact ⟨Nat.le_refl _,h⟩
 | step _ h1 _ ih=>exact ⟨by omega,ih.2⟩
theorem Hops.app (h:Hops R n a i p) (h2:Hops R n b p j):Hops R n (a+b) i j:=by
 induction h with
 | refl h=>rw [Nat.zero_add];exact h2
 | @step k i m j h0 h1 _ ih=>
   rw [show k+1+b=(k+b)+1 by omega]
   exact Hops.step h0 h1 (ih h2)
def Star (R:Nat→Nat→Prop) (n i j:Nat):Prop:=∃k,Hops R n k i j
theorem Star.app (h:Star R n i p) (h2:Star R n p j):Star R n i j:=by
 obtain ⟨a,ha⟩:=h;obtain ⟨b,hb⟩:=h2;exact ⟨a+b,ha.app hb⟩
end
def PowR (R:Nat→Nat→Prop) (n:Nat):Nat→Nat→Nat→Prop
 | 0,i,j=>i=j
 | m+1,i,j=>∃p,p<n∧i≤p∧p≤j∧PowR R n m i p∧R p j
def TimesR (R:Nat→Nat→Prop) (n:Nat) (least:Nat) (most:Int) (i j:Nat):Prop:=
 (most<0∧∃p,p<n∧i≤p∧p≤j∧PowR R n least i p∧Star R n p j)∨(0≤most∧(PowR R n least i j∨∃m:Nat,least<m∧(m:Int)≤most∧PowR R n m i j))
def inB (p:PN) (fold:Bool) (c:Nat):Bool:=
 ((p.ins c || (fold&&(decide (65≤c)&&decide (c≤90))&&p.ins (c+32))) || (fold&&(decide (97≤c)&&decide (c≤122))&&p.ins (c-32))) != p.neg
theorem in_any (w:World) (F:Nat→Prop) (adrs:List Nat) (p:PN) (a:Nat) (iv kv:IV) (h:PartOk w F adrs p a iv kv) (hk:p.kind≤3) (fold:Bool) (c:Nat) (hc:c<256):
 Calls Tryz.prog 51 #[.pointer (some ⟨a,0,none⟩),.bool fold,.int .i64 (c:Int)] w fun e w'=>e=.returned (.bool (inB p fold c))∧w'=w:=by
 obtain ⟨g,rfl,hF,hg⟩:∃g,iv=(some ⟨g,0,none⟩,256,256)∧F g∧Blk w g (boolCells p.ins) 4:=by
  rcases h.ins with ⟨_,h1⟩ | ⟨h1,_⟩
  · exact h1
  · omega
 have c1:w.cell? ⟨a,1,none⟩=some (.slice (some ⟨g,0,none⟩) 256 256):=h.blk.cell 1
 have c2:w.cell? ⟨a,2,none⟩=some (.bool p.neg):=h.blk.cell 2
 have cg:∀i,i<256→w.cell? ⟨g,i,none⟩=some (.bool (p.ins i)):=fun i hi=>by rw [hg.cell,boolCells_get _ hi]
 unfold inB
 clear h hg
 obtain ⟨N,hN⟩:∃N,N=p.neg:=⟨_,rfl⟩
 obtain ⟨I,hI⟩:∃I,I=p.ins:=⟨_,rfl⟩
 rw [←hN] at c2 ⊢
 rw [←hI] at cg ⊢
 clear hN hI hk
 have d0:=cg c hc
 by_cases h1:65≤c∧c≤90
 · obtain ⟨h1,h2⟩:=h1
   have d1:=cg (c+32) (by omega)
   clear cg
   have e:Hid (∀x:Bool,(((I c || (fold&&(decide (65≤c)&&decide (c≤90))&&I (c+32))) || (fold&&(decide (97≤c)&&decide (c≤122))&&x)) != N)=((I c || (fold&&I (c+32))) != N)):=fun x=>by
    rw [decide_eq_true h1,decide_eq_true h2,decide_eq_false (show ¬ 97≤c by omega)];simp
   rw [e.out]
   clear e
   generalize I c=X at *
   generalize I (c+32)=Y at *
   cases fold <;> cases X <;> cases Y <;> cases N <;>
   · go_enter Tryz.func51,Tryz.ntmps51
     go_wp2
     go_ret
     exact ⟨rfl,rfl⟩
 · by_cases h2:97≤c∧c≤122
   · obtain ⟨h2,h3⟩:=h2
     obtain ⟨d,rfl⟩:∃d,c=d+32:=⟨c-32,by omega⟩
     have d1:=cg d (by omega)
     clear cg h1
     have e:Hid (∀x:Bool,(((I (d+32) || (fold&&(decide (65≤d+32)&&decide (d+32≤90))&&x)) || (fold&&(decide (97≤d+32)&&decide (d+32≤122))&&I (d+32-32))) != N)=((I (d+32) || (fold&&I d)) != N)):=fun x=>by
      rw [decide_eq_true h2,decide_eq_true h3,decide_eq_false (show ¬d+32≤90 by omega)];simp
     rw [e.out]
     clear e
     generalize I (d+32)=X at *
     generalize I d=Y at *
     cases fold <;> cases X <;> cases Y <;> cases N <;>
     · go_enter Tryz.func51,Tryz.ntmps51
       go_wp2
       go_ret
       exact ⟨rfl,rfl⟩
   · clear cg
     have e:Hid (∀x y:Bool,(((I c || (fold&&(decide (65≤c)&&decide (c≤90))&&x)) || (fold&&(decide (97≤c)&&decide (c≤122))&&y)) != N)=((I c) != N)):=fun x y=>by
      have a1:(decide (65≤c)&&decide (c≤90))=false:=by rw [←Bool.decide_and];exact decide_eq_false h1
      have a2:(decide (97≤c)&&decide (c≤122))=false:=by rw [←Bool.decide_and];exact decide_eq_false h2
      rw [a1,a2];simp
     rw [e.out]
     clear e
     have cs:c<65∨(90<c∧c<97)∨122<c:=by omega
     clear h1 h2
     generalize I c=X at *
     rcases cs with h1 | ⟨h1,h2⟩ | h1 <;> cases fold <;> cases X <;> cases N <;>
     · go_enter Tryz.func51,Tryz.ntmps51
       go_wp2
       go_ret
       exact ⟨rfl,rfl⟩
end Go.Proofs.YtgifhgnccmnbiabGreat
namespace Go.Proofs.YtgifhgnccmnbiabGreat
inductive D (t:ByteArray):Nat→Nat→PS→Nat×PS→Prop
 | pattern {cur st r1 r}:D t 1 0 st r1→D t 4 r1.1 r1.2 r→D t 0 cur st r
 | empty {cur st}:endS t st.1=true→D t 1 cur st (addS { kind:=0,size:=1 } st)
 | branch {cur st r1 r}:endS t st.1=false→D t 2 0 st r1→D t 5 r1.1 r1.2 r→D t 1 cur st r
 | piece {cur st r1 r}:D t 3 0 st r1→D t 6 r1.1 r1.2 r→D t 2 cur st r
 | group {cur st r1}:(nextS t st.1).1=40→D t 0 0 ((nextS t st.1).2,st.2) r1→D t 3 cur st (closeS t r1)
 | list {cur st}:(nextS t st.1).1=91→D t 3 cur st (listS t ((nextS t st.1).2,st.2))
 | plain {cur st}:(nextS t st.1).1≠40→(nextS t st.1).1≠91→D t 3 cur st (plainS t (nextS t st.1).1 ((nextS t st.1).2,st.2))
 | or {cur st r1 r}:(takeS t 124 st.1).1=true→D t 1 0 ((takeS t 124 st.1).2,st.2) r1→D t 4 (joinS 5 cur r1.1 r1.2).1 (joinS 5 cur r1.1 r1.2).2 r→D t 4 cur st r
 | orEnd {cur st}:(takeS t 124 st.1).1=false→D t 4 cur st (cur,st)
 | and {cur st r1 r}:endS t st.1=false→D t 2 0 st r1→D t 5 (joinS 4 cur r1.1 r1.2).1 (joinS 4 cur r1.1 r1.2).2 r→D t 5 cur st r
 | andEnd {cur st}:endS t st.1=true→D t 5 cur st (cur,st)
 | rep {cur st r}:repS t st.1=true→D t 6 (againS cur (repeatS t st.1).1 ((repeatS t st.1).2,st.2)).1 (againS cur (repeatS t st.1).1 ((repeatS t st.1).2,st.2)).2 r→D t 6 cur st r
 | repEnd {cur st}:repS t st.1=false→D t 6 cur st (cur,st)
def curOf (tag cur:Nat):Nat:=if 4≤tag then cur else 0
theorem D.ev {t:ByteArray} {tag cur:Nat} {st:PS} {r:Nat×PS} (h:D t tag cur st r):Ev t tag (curOf tag cur) st r:=by
 induction h with
 | pattern _ _ a b=>exact Ev.pattern a b
 | empty he=>exact Ev.empty he
 | branch he _ _ a b=>exact Ev.branch he a b
 | piece _ _ a b=>exact Ev.piece a b
 | group he _ a=>exact Ev.group he a
 | list he=>exact Ev.list he
 | plain h1 h2=>exact Ev.plain h1 h2
 | or he _ _ a b=>exact Ev.or he a b
 | orEnd he=>exact Ev.orEnd he
 | and he _ _ a b=>exact Ev.and he a b
 | andEnd he=>exact Ev.andEnd he
 | rep he _ a=>exact Ev.rep he a
 | repEnd he=>exact Ev.repEnd he
structure Fw (t:ByteArray) (st:PS) (r:Nat×PS):Prop where
 fit:Fits t r.2.1
 ge:st.1.1≤r.2.1.1
def Has (t:ByteArray) (tag cur:Nat) (st:PS):Prop:=∃r,D t tag cur st r∧Fw t st r
def HasGt (t:ByteArray) (tag cur:Nat) (st:PS):Prop:=∃r,D t tag cur st r∧Fw t st r∧st.1.1<r.2.1.1
theorem list_fw {t:ByteArray} {st:PS} (h:Fits t st.1):Fw t st (listS t st):=by
 have h1:=fits_take (t:=t) (c:=94) (by omega) h
 have g1:=take_ge (t:=t) (c:=94) (s:=st.1)
 have hfI:∀(f:Nat) (s:RS) (acc:List (Int×Int)),Fits t s→Fits t (itemsF t f s acc).2:=by
  intro f
  induction f with
  | zero=>intro s acc h;exact h
  | succ f ih=>
    intro s acc h
    rw [itemsF]
    split
    · exact ih _ _ (fits_item h)
    · exact h
 have h2:Fits t (itemsS t (takeS t 94 st.1).2 []).2:=hfI _ _ _ h1
 have g2:=itemsS_ge (t:=t) (s:=(takeS t 94 st.1).2) (acc:=[]) h1
 have h3:=fits_take (t:=t) (c:=93) (by omega) h2
 have g3:=take_ge (t:=t) (c:=93) (s:=(itemsS t (takeS t 94 st.1).2 []).2)
 unfold listS
 simp only [addS]
 split
 · exact ⟨fits_fail t,h⟩
 · exact ⟨h3,by simp only [];omega⟩
theorem plain_fw {t:ByteArray} {c:Int} {st:PS} (h:Fits t st.1):Fw t st (plainS t c st):=by
 have h1:=fits_next h
 have g1:=next_ge h
 unfold plainS bytesS addS
 repeat' split
 all_goals first | exact ⟨h,Nat.le_refl _⟩ | exact ⟨h1,g1⟩ | exact ⟨fits_fail t,h⟩
theorem close_fw {t:ByteArray} {st:PS} {r:Nat×PS} (h:Fw t st r):Fw t st (closeS t r):=by
 have h3:=fits_take (t:=t) (c:=41) (by omega) h.fit
 have g3:=take_ge (t:=t) (c:=41) (s:=r.2.1)
 have:=h.ge
 have:=h.fit
 unfold closeS
 split
 · exact ⟨h3,by simp only [];omega⟩
 · exact ⟨fits_fail t,by simp only [failS];simp only [Fits] at this;omega⟩
section
variable {t:ByteArray}
def Below' (t:ByteArray) (m:Nat):Prop:=∀st:PS,Fits t st.1→t.size-st.1.1<m →
 (∀cur,Has t 0 cur st)∧(∀cur,Has t 1 cur st)∧(st.1.1<t.size→∀cur,HasGt t 2 cur st∧HasGt t 3 cur st)∧(∀cur,Has t 4 cur st)∧(∀cur,Has t 5 cur st)∧(∀cur,Has t 6 cur st)
theorem below_step {m:Nat} (ih:Below' t m):Below' t (m+1):=by
 intro st hf hm
 have rep:∀cur,Has t 6 cur st:=fun cur=>by
  cases hr:repS t st.1 with
  | false=>exact ⟨_,D.repEnd hr,hf,Nat.le_refl _⟩
  | true=>
    have hlt:=repS_lt hr
    have hgt:=repeat_gt hlt
    have hfr:=fits_repeat hf
    obtain ⟨r,d,f⟩:=(ih (againS cur (repeatS t st.1).1 ((repeatS t st.1).2,st.2)).2 hfr (by show t.size-(repeatS t st.1).2.1<m;omega)).2.2.2.2.2 (againS cur (repeatS t st.1).1 ((repeatS t st.1).2,st.2)).1
    exact ⟨r,D.rep hr d,f.fit,by have:=f.ge;simp only [againS,addS] at this;omega⟩
 have atom:st.1.1<t.size→∀cur,HasGt t 3 cur st:=fun hlt cur=>by
  have hgt:=next_gt hlt
  have hfn:=fits_next (t:=t) (s:=st.1) hf
  by_cases h1:(nextS t st.1).1=40
  · obtain ⟨r,d,f⟩:=(ih ((nextS t st.1).2,st.2) hfn (by show t.size-(nextS t st.1).2.1<m;omega)).1 0
    have f2:=close_fw f
    exact ⟨_,D.group h1 d,⟨f2.fit,by have:=f2.ge;simp only [] at this;omega⟩,by have:=f2.ge;simp only [] at this;omega⟩
  · by_cases h2:(nextS t st.1).1=91
    · have f2:=list_fw (t:=t) (st:=((nextS t st.1).2,st.2)) hfn
      exact ⟨_,D.list h2,⟨f2.fit,by have:=f2.ge;simp only [] at this;omega⟩,by have:=f2.ge;simp only [] at this;omega⟩
    · have f2:=plain_fw (t:=t) (c:=(nextS t st.1).1) (st:=((nextS t st.1).2,st.2)) hfn
      exact ⟨_,D.plain h1 h2,⟨f2.fit,by have:=f2.ge;simp only [] at this;omega⟩,by have:=f2.ge;simp only [] at this;omega⟩
 have piece:st.1.1<t.size→∀cur,HasGt t 2 cur st:=fun hlt cur=>by
  obtain ⟨r1,d1,f1,g1⟩:=atom hlt 0
  obtain ⟨r,d,f⟩:=(ih r1.2 f1.fit (by omega)).2.2.2.2.2 r1.1
  exact ⟨r,D.piece d1 d,⟨f.fit,Nat.le_trans f1.ge f.ge⟩,by have:=f.ge;omega⟩
 have more:∀cur,Has t 5 cur st:=fun cur=>by
  cases he:endS t st.1 with
  | true=>exact ⟨_,D.andEnd he,hf,Nat.le_refl _⟩
  | false=>
    have hlt:=endS_lt he
    obtain ⟨r1,d1,f1,g1⟩:=piece hlt 0
    obtain ⟨r,d,f⟩:=(ih (joinS 4 cur r1.1 r1.2).2 f1.fit (by show t.size-r1.2.1.1<m;omega)).2.2.2.2.1 (joinS 4 cur r1.1 r1.2).1
    exact ⟨r,D.and he d1 d,⟨f.fit,Nat.le_trans f1.ge f.ge⟩⟩
 have branch:∀cur,Has t 1 cur st:=fun cur=>by
  cases he:endS t st.1 with
  | true=>exact ⟨_,D.empty he,hf,Nat.le_refl _⟩
  | false=>
    have hlt:=endS_lt he
    obtain ⟨r1,d1,f1,g1⟩:=piece hlt 0
    obtain ⟨r,d,f⟩:=(ih r1.2 f1.fit (by omega)).2.2.2.2.1 r1.1
    exact ⟨r,D.branch he d1 d,⟨f.fit,Nat.le_trans f1.ge f.ge⟩⟩
 have alts:∀cur,Has t 4 cur st:=fun cur=>by
  cases he:(takeS t 124 st.1).1 with
  | false=>exact ⟨_,D.orEnd he,hf,Nat.le_refl _⟩
  | true=>
    have hgt:=take_gt he
    have hft:=fits_take (t:=t) (c:=124) (by omega) hf
    obtain ⟨r1,d1,f1⟩:=(ih ((takeS t 124 st.1).2,st.2) hft (by show t.size-(takeS t 124 st.1).2.1<m;have:(takeS t 124 st.1).2.1≤t.size:=hft;omega)).2.1 0
    have g1:=f1.ge
    simp only [] at g1
    obtain ⟨r,d,f⟩:=(ih (joinS 5 cur r1.1 r1.2).2 f1.fit (by show t.size-r1.2.1.1<m;have:r1.2.1.1≤t.size:=f1.fit;have:(takeS t 124 st.1).2.1≤t.size:=hft;omega)).2.2.2.1 (joinS 5 cur r1.1 r1.2).1
    exact ⟨r,D.or he d1 d,⟨f.fit,by have:=f.ge;simp only [joinS,addS] at this;omega⟩⟩
 refine ⟨fun cur=>?_,branch,fun h cur=>⟨piece h cur,atom h cur⟩,alts,more,rep⟩
 obtain ⟨r1,d1,f1⟩:=branch 0
 by_cases hsame:r1.2.1.1=st.1.1
 · -- nothing read yet: what follows has as many bytes left
   have alts1:Has t 4 r1.1 r1.2:=by
    cases he:(takeS t 124 r1.2.1).1 with
    | false=>exact ⟨_,D.orEnd he,f1.fit,Nat.le_refl _⟩
    | true=>
      have hgt:=take_gt he
      have hft:=fits_take (t:=t) (c:=124) (by omega) f1.fit
      obtain ⟨r2,d2,f2⟩:=(ih ((takeS t 124 r1.2.1).2,r1.2.2) hft (by show t.size-(takeS t 124 r1.2.1).2.1<m;have:(takeS t 124 r1.2.1).2.1≤t.size:=hft;omega)).2.1 0
      have g2:=f2.ge
      simp only [] at g2
      obtain ⟨r,d,f⟩:=(ih (joinS 5 r1.1 r2.1 r2.2).2 f2.fit (by show t.size-r2.2.1.1<m;have:r2.2.1.1≤t.size:=f2.fit;have:(takeS t 124 r1.2.1).2.1≤t.size:=hft;omega)).2.2.2.1 (joinS 5 r1.1 r2.1 r2.2).1
      exact ⟨r,D.or he d2 d,⟨f.fit,by have:=f.ge;simp only [joinS,addS] at this;omega⟩⟩
   obtain ⟨r,d,f⟩:=alts1
   exact ⟨r,D.pattern d1 d,f.fit,Nat.le_trans f1.ge f.ge⟩
 · have hlt:st.1.1<r1.2.1.1:=by have:=f1.ge;omega
   obtain ⟨r,d,f⟩:=(ih r1.2 f1.fit (by have:r1.2.1.1≤t.size:=f1.fit;omega)).2.2.2.1 r1.1
   exact ⟨r,D.pattern d1 d,f.fit,Nat.le_trans f1.ge f.ge⟩
theorem below_all:∀m,Below' t m
 | 0=>fun _ _ h=>by omega
 | m+1=>below_step (below_all m)
end
theorem Ev.deriv {t:ByteArray} {st:PS} {r:Nat×PS} (hf:Fits t st.1) (h:Ev t 0 0 st r):D t 0 0 st r:=by
 obtain ⟨r',d,_⟩:=(below_all (t:=t) (t.size-st.1.1+1) st hf (by omega)).1 0
 have:=Ev.one h d.ev
 subst this
 exact d
end Go.Proofs.YtgifhgnccmnbiabGreat
