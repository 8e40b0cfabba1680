/- The document's answer: what is known of any symbol; the pattern's part of all rules, walked. -/
import Derived.Test.YtgifhgnccmnbiabGreatG43
set_option linter.unusedVariables false
set_option linter.unusedSimpArgs false
set_option maxHeartbeats 4000000
set_option maxRecDepth 100000
namespace Go.Proofs.YtgifhgnccmnbiabGreat
open Go.RowKit Go.IntWalk
theorem known_any {w:World} {b mb gn cap k:Nat} {kv nv rv tv pv:Value} {rl top:List Nat} {U:Nat→Nat→Value} {T:List (List Nat)} {D:DMa} {sel:List Nat→Bool} {adrs:List Nat} {F:Nat→Prop} {num:Bool} {mx:Int} {R:RelT}
 (hG:GLn w b kv nv rv tv pv rl top T.length U) (hL:Learned w D sel T U k) (hk:k≤T.length) (hT:T.length≤1000) (hM:DmIn w mb D adrs F num mx gn cap) (hR:MaOk D R) (hn:D.nodes.length≤10000) {s:Nat} (hs:s<256+k):
 Calls Tryz.prog 26 #[.pointer (some ⟨b,0,none⟩),.pointer (some ⟨mb,0,none⟩),.int .i64 (s:Int)] w fun e w'=>KnOut w w' e D sel (symT T s):=by
 by_cases h1:s<256
 · have e:symT T s=[s]:=if_pos h1
   rw [e]
   by_cases h2:s=10
   · subst h2;exact known_nl hM hn sel b
   · exact known_byte hM hR hn sel b h1 h2
 · obtain ⟨i,rfl⟩:∃i,s=i+256:=⟨s-256,by omega⟩
   have e:symT T (i+256)=T.getD i []:=by unfold symT;rw [if_neg h1,Nat.add_sub_cancel]
   rw [e]
   obtain ⟨v3,v4,c,g1,g2⟩:=hL i (by omega)
   exact known_rule hG hT (by omega) g1 (g2 (by omega)) _
structure TriP (w y:World) (ga gb gc:Nat) (ca cb cc:Array Value):Prop where
 k:Kept [] w y
 a:Blk y ga ca 92
 b:Blk y gb cb 92
 c:Blk y gc cc 92
 la:w.heap.size≤ga
 lb:ga<gb
 lc:gb<gc
section
variable {w y z:World} {ga gb gc:Nat} {ca cb cc:Array Value}
theorem TriP.more (h:TriP w y ga gb gc ca cb cc) (k:Kept [] y z):TriP w z ga gb gc ca cb cc:=⟨h.k.trans k,h.a.kept k (by simp),h.b.kept k (by simp),h.c.kept k (by simp),h.la,h.lb,h.lc⟩
theorem TriP.set (h:TriP w y ga gb gc ca cb cc) (j:Nat) (v:Value):TriP w (y.setCell ⟨gc,j,none⟩ v) ga gb gc ca cb (cc.setIfInBounds j v)∧StayT y (y.setCell ⟨gc,j,none⟩ v):=
 ⟨⟨h.k.setCell (Or.inr (by have:=h.la;have:=h.lb;have:=h.lc;show w.heap.size≤gc;omega)) _,h.a.other _ _ (by have:=h.lb;have:=h.lc;omega),h.b.other _ _ (by have:=h.lc;omega),h.c.set j v,h.la,h.lb,h.lc⟩,(StayT.refl y).set h.c (Or.inl rfl) _ _⟩
end
def set6At (w:World) (g o:Nat) (u0 u1 u2 u3 u4 u5:Value):World:=((((((w.setCell ⟨g,o,none⟩ u0).setCell ⟨g,o+1,none⟩ u1).setCell ⟨g,o+2,none⟩ u2).setCell ⟨g,o+3,none⟩ u3).setCell ⟨g,o+4,none⟩ u4).setCell ⟨g,o+5,none⟩ u5)
def arr6At (cur:Array Value) (o:Nat) (u0 u1 u2 u3 u4 u5:Value):Array Value:=(((((cur.setIfInBounds o u0).setIfInBounds (o+1) u1).setIfInBounds (o+2) u2).setIfInBounds (o+3) u3).setIfInBounds (o+4) u4).setIfInBounds (o+5) u5
theorem blk6At {w:World} {g:Nat} {cur:Array Value} {t:TypeId} (h:Blk w g cur t) (o:Nat) (u0 u1 u2 u3 u4 u5:Value):Blk (set6At w g o u0 u1 u2 u3 u4 u5) g (arr6At cur o u0 u1 u2 u3 u4 u5) t:=
 (((((h.set o u0).set (o+1) u1).set (o+2) u2).set (o+3) u3).set (o+4) u4).set (o+5) u5
theorem arr6_get (cur:Array Value) (o:Nat) (u0 u1 u2 u3 u4 u5:Value) (hb:o+5<cur.size) (q:Nat):(arr6At cur o u0 u1 u2 u3 u4 u5)[q]? =
 if q=o then some u0 else if q=o+1 then some u1 else if q=o+2 then some u2 else if q=o+3 then some u3 else if q=o+4 then some u4 else if q=o+5 then some u5 else cur[q]?:=by
 unfold arr6At
 simp only [Array.getElem?_setIfInBounds,Array.size_setIfInBounds]
 by_cases h0:q=o
 · subst h0
   rw [if_pos rfl,if_neg (by omega),if_neg (by omega),if_neg (by omega),if_neg (by omega),if_neg (by omega),if_pos rfl,if_pos (by omega)]
 · rw [if_neg h0]
   by_cases h1:q=o+1
   · subst h1
     rw [if_pos rfl,if_neg (by omega),if_neg (by omega),if_neg (by omega),if_neg (by omega),if_pos rfl,if_pos (by omega)]
   · rw [if_neg h1]
     by_cases h2:q=o+2
     · subst h2
       rw [if_pos rfl,if_neg (by omega),if_neg (by omega),if_neg (by omega),if_pos rfl,if_pos (by omega)]
     · rw [if_neg h2]
       by_cases h3:q=o+3
       · subst h3
         rw [if_pos rfl,if_neg (by omega),if_neg (by omega),if_pos rfl,if_pos (by omega)]
       · rw [if_neg h3]
         by_cases h4:q=o+4
         · subst h4
           rw [if_pos rfl,if_neg (by omega),if_pos rfl,if_pos (by omega)]
         · rw [if_neg h4]
           by_cases h5:q=o+5
           · subst h5
             rw [if_pos rfl,if_pos rfl,if_pos (by omega)]
           · rw [if_neg h5,if_neg (by omega),if_neg (by omega),if_neg (by omega),if_neg (by omega),if_neg (by omega),if_neg (by omega)]
theorem GLn.put {w:World} {b m gp cap:Nat} {kv nv rv tv:Value} {rl top:List Nat} {U:Nat→Nat→Value} (h:GLn w b kv nv rv tv (.slice (some ⟨gp,0,none⟩) m cap) rl top m U) {k:Nat} (hk:k<m) (p:PI) (v3 v4:IV) (c:Nat):
 (∀j,j<6→w.cell? ⟨gp,k*6+j,none⟩=some (U k j))∧(∀j,w.frozen? ⟨gp,j,none⟩=false)∧gp<w.heap.size ∧
 GLn (set6At w gp (k*6) (.int .i64 (p.long:Int)) (.int .i64 (p.ends:Int)) (.int .i64 (p.tail:Int)) (ivV v3) (ivV v4) (.int .i64 (c:Int))) b kv nv rv tv (.slice (some ⟨gp,0,none⟩) m cap) rl top m (fun i j=>if i=k then uPc p v3 v4 c j else U i j) ∧
 StayT w (set6At w gp (k*6) (.int .i64 (p.long:Int)) (.int .i64 (p.ends:Int)) (.int .i64 (p.tail:Int)) (ivV v3) (ivV v4) (.int .i64 (c:Int))) ∧
 ∀base,base≤gp→Below base w (set6At w gp (k*6) (.int .i64 (p.long:Int)) (.int .i64 (p.ends:Int)) (.int .i64 (p.tail:Int)) (ivV v3) (ivV v4) (.int .i64 (c:Int))):=by
 obtain ⟨gp',cap',cur,he,h2,h3⟩:=h.pcs (by omega)
 cases he
 have hsz:k*6+5<cur.size:=(Array.getElem?_eq_some_iff.1 (h3 k hk 5 (by omega))).1
 have st:∀{z:World} {cs:Array Value} (_:StayT w z) (_:Blk z gp cs 92) (i:Nat) (v:Value),StayT w (z.setCell ⟨gp,i,none⟩ v)∧Blk (z.setCell ⟨gp,i,none⟩ v) gp (cs.setIfInBounds i v) 92:=fun s b i v=>⟨s.set b (Or.inl rfl) i v,b.set i v⟩
 have hst:StayT w (set6At w gp (k*6) (.int .i64 (p.long:Int)) (.int .i64 (p.ends:Int)) (.int .i64 (p.tail:Int)) (ivV v3) (ivV v4) (.int .i64 (c:Int))):=by
  have s0:=st (StayT.refl w) h2 (k*6) (.int .i64 (p.long:Int))
  have s1:=st s0.1 s0.2 (k*6+1) (.int .i64 (p.ends:Int))
  have s2:=st s1.1 s1.2 (k*6+2) (.int .i64 (p.tail:Int))
  have s3:=st s2.1 s2.2 (k*6+3) (ivV v3)
  have s4:=st s3.1 s3.2 (k*6+4) (ivV v4)
  exact (st s4.1 s4.2 (k*6+5) (.int .i64 (c:Int))).1
 refine ⟨fun j hj=>by rw [h2.cell,h3 k hk j hj],fun j=>h2.frozen j,h2.lt,⟨hst.blk _ _ _ (by decide) (by decide) h.blk,own_stayT h.rules hst (by decide) (by decide),own_stayT h.top hst (by decide) (by decide),fun _=>⟨gp,cap,_,rfl,blk6At h2 _ _ _ _ _ _ _,fun i hi j hj=>?_⟩⟩,hst,fun base hb=>?_⟩
 · rw [arr6_get _ _ _ _ _ _ _ _ hsz]
   by_cases hik:i=k
   · subst hik
     simp only [if_pos]
     match j,hj with
     | 0,_=>rw [if_pos (by omega)];rfl
     | 1,_=>rw [if_neg (by omega),if_pos rfl];rfl
     | 2,_=>rw [if_neg (by omega),if_neg (by omega),if_pos rfl];rfl
     | 3,_=>rw [if_neg (by omega),if_neg (by omega),if_neg (by omega),if_pos rfl];rfl
     | 4,_=>rw [if_neg (by omega),if_neg (by omega),if_neg (by omega),if_neg (by omega),if_pos rfl];rfl
     | 5,_=>rw [if_neg (by omega),if_neg (by omega),if_neg (by omega),if_neg (by omega),if_neg (by omega),if_pos rfl];rfl
   · simp only [if_neg hik]
     rw [if_neg (by omega),if_neg (by omega),if_neg (by omega),if_neg (by omega),if_neg (by omega),if_neg (by omega)]
     exact h3 i hi j hj
 · exact ((((((Below.refl base w).setCell hb _).setCell hb _).setCell hb _).setCell hb _).setCell hb _).setCell hb _
end Go.Proofs.YtgifhgnccmnbiabGreat
