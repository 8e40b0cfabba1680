/- Package packed: a file read; Shape. -/
import Derived.Test.YtgifhgnccmnbiabGreatG29
set_option linter.unusedVariables false
set_option linter.unusedSimpArgs false
set_option maxHeartbeats 4000000
set_option maxRecDepth 100000
namespace Go.Proofs.YtgifhgnccmnbiabGreat
open Go.RowKit Go.IntWalk
def isSG (f:ByteArray):Prop:=bt f 0=83∧bt f 1=71
def isSZ (f:ByteArray):Prop:=bt f 0=83∧bt f 1=90
inductive SFile (f:ByteArray):TT→Prop
 | rules:2≤f.size→f.size≤4000→isSG f→sgOk f=true→SFile f (sgT f)
 | codes {n:Nat}:2≤f.size→f.size≤4000→isSZ f→zMost f=true→ZRun f n→zOk (zit (z0 f) n)=true→SFile f (zit (z0 f) n).2
theorem SFile.one {f:ByteArray} {t u:TT} (h:SFile f t) (h':SFile f u):t=u:=by
 cases h with
 | rules _ _ a _=>
   cases h' with
   | rules=>rfl
   | codes _ _ b=>have:=a.2;have:=b.2;omega
 | codes _ _ a _ r _=>
   cases h' with
   | rules _ _ b=>have:=a.2;have:=b.2;omega
   | codes _ _ _ _ r' _=>rw [r.one r']
structure OpenOut (f:ByteArray) (w w':World) (e:Ending):Prop where
 below:Below w.heap.size w w'
 out:((∀t,¬SFile f t)∧e=.returned (.tuple #[.agg ztext,.int .i64 4])) ∨
  ∃t,SFile f t∧((1099511627776<t.whole.len∧e=.returned (.tuple #[.agg ztext,.int .i64 5])) ∨
   (t.whole.len≤1099511627776∧∃rv sv,TVal w' w.heap.size t rv sv∧e=.returned (.tuple #[.agg (t.cells rv sv),.int .i64 0])))
theorem head_bytes {f:ByteArray} (h:2≤f.size) (a b:UInt8):f.extract 0 2=⟨#[a,b]⟩↔bt f 0=a.toNat∧bt f 1=b.toNat:=by
 have e:f.extract 0 2=⟨#[f[0],f[1]]⟩:=by
  apply ByteArray.ext
  rw [ByteArray.data_extract]
  apply Array.ext
  · simp;omega
  · intro i h1 h2
    have h2':i<2:=h2
    rw [Array.getElem_extract]
    rcases (by omega:i=0∨i=1) with rfl | rfl <;> rfl
 rw [e,bt_lt (by omega),bt_lt (by omega)]
 constructor
 · intro h2
   have h3:=congrArg ByteArray.data h2
   simp only [Array.mk.injEq,List.cons.injEq,and_true] at h3
   exact ⟨by rw [h3.1],by rw [h3.2]⟩
 · rintro ⟨h2,h3⟩
   rw [UInt8.toNat_inj.1 h2,UInt8.toNat_inj.1 h3]
theorem two8 {w1:World} {n:Nat} (hz:Blk w1 n ztext 61) (v0 v1 v2 v3 v4 v5 v6 v7 u0 u1 u2 u3 u4 u5 u6 u7:Value):
 Blk ((((((((((((((((w1.setCell ⟨(n+1),0,none⟩ v0).setCell ⟨(n+1),1,none⟩ v1).setCell ⟨(n+1),2,none⟩ v2).setCell ⟨(n+1),3,none⟩ v3).setCell ⟨(n+1),4,none⟩ v4).setCell ⟨(n+1),5,none⟩ v5).setCell ⟨(n+1),6,none⟩ v6).setCell ⟨(n+1),7,none⟩ v7).setCell ⟨n,0,none⟩ u0).setCell ⟨n,1,none⟩ u1).setCell ⟨n,2,none⟩ u2).setCell ⟨n,3,none⟩ u3).setCell ⟨n,4,none⟩ u4).setCell ⟨n,5,none⟩ u5).setCell ⟨n,6,none⟩ u6).setCell ⟨n,7,none⟩ u7) n #[u0,u1,u2,u3,u4,u5,u6,u7] 61∧Kept [n+1,n] w1 ((((((((((((((((w1.setCell ⟨(n+1),0,none⟩ v0).setCell ⟨(n+1),1,none⟩ v1).setCell ⟨(n+1),2,none⟩ v2).setCell ⟨(n+1),3,none⟩ v3).setCell ⟨(n+1),4,none⟩ v4).setCell ⟨(n+1),5,none⟩ v5).setCell ⟨(n+1),6,none⟩ v6).setCell ⟨(n+1),7,none⟩ v7).setCell ⟨n,0,none⟩ u0).setCell ⟨n,1,none⟩ u1).setCell ⟨n,2,none⟩ u2).setCell ⟨n,3,none⟩ u3).setCell ⟨n,4,none⟩ u4).setCell ⟨n,5,none⟩ u5).setCell ⟨n,6,none⟩ u6).setCell ⟨n,7,none⟩ u7):=by
 have k1:=kept8 w1 (n+1) v0 v1 v2 v3 v4 v5 v6 v7
 have h1:=hz.kept k1 (by simp)
 exact ⟨set8 h1 u0 u1 u2 u3 u4 u5 u6 u7,(k1.mono (by simp)).trans ((kept8 _ n u0 u1 u2 u3 u4 u5 u6 u7).mono (by simp))⟩
theorem two_list (a b:UInt8):(⟨#[a,b]⟩:ByteArray).toList=[a,b]:=by
 unfold ByteArray.toList
 rw [ByteArray.toList.loop.eq_1];simp [ByteArray.size]
 rw [ByteArray.toList.loop.eq_1];simp [ByteArray.size]
 rw [ByteArray.toList.loop.eq_1];simp [ByteArray.size]
 exact ⟨rfl,rfl⟩
theorem head_ne {f:ByteArray} (h:2≤f.size) (a b:UInt8) (hn:¬(bt f 0=a.toNat∧bt f 1=b.toNat)):((f.extract 0 2).toList==[a,b])=false:=by
 have e:f.extract 0 2=⟨#[f[0],f[1]]⟩:=(head_bytes h f[0] f[1]).2 ⟨bt_lt (by omega),bt_lt (by omega)⟩
 rw [e,two_list]
 rw [bt_lt (by omega),bt_lt (by omega)] at hn
 rw [beq_eq_false_iff_ne]
 intro hc
 simp only [List.cons.injEq,and_true] at hc
 exact hn ⟨by rw [hc.1],by rw [hc.2]⟩
theorem SFile.none_of {f:ByteArray} (h1:¬(isSG f∧sgOk f=true)) (h2:¬(isSZ f∧zMost f=true∧∃n,ZRun f n∧zOk (zit (z0 f) n)=true)):∀t,¬SFile f t:=fun t ht=>by
 cases ht with
 | rules _ _ a b=>exact h1 ⟨a,b⟩
 | codes _ _ a b c d=>exact h2 ⟨a,b,_,c,d⟩
theorem not_both {f:ByteArray} (h:isSG f):¬isSZ f:=fun h2=>by have:=h.2;have:=h2.2;omega
theorem read_file (f:ByteArray) (hf:f.size≤maxLen) (w:World):
 Calls Tryz.prog 13 #[.string f] w fun e w'=>OpenOut f w w' e:=by
 unfold maxLen at hf
 have hno:Hid (f.size<2∨4000<f.size→∀t,¬SFile f t):=fun h t ht=>by cases ht <;> omega
 have hz:Blk (w.alloc (.cells ztext 61)) w.heap.size ztext 61:=Blk.new w _ _
 have hB:Hid (Below w.heap.size w (w.alloc (.cells ztext 61))):=(Below.refl w.heap.size w).alloc (Nat.le_refl _) _
 by_cases h1:(4000:Int)<(f.size:Int)
 · have hn:Hid (∀t,¬SFile f t):=hno.out (Or.inr (by omega))
   go_enter Tryz.func13,Tryz.ntmps13
   go_wp2
   exact bodyPost_ret (v:=.tuple #[.agg ztext,.int .i64 4]) (results_text Tryz.results13 _ _ w.heap.size ztext rfl _ rfl rfl (Blk.new w _ _)) rfl ⟨hB.out,Or.inl ⟨hn.out,rfl⟩⟩
 · by_cases h2:(f.size:Int)<2
   · have hn:Hid (∀t,¬SFile f t):=hno.out (Or.inl (by omega))
     go_enter Tryz.func13,Tryz.ntmps13
     go_wp2
     exact bodyPost_ret (v:=.tuple #[.agg ztext,.int .i64 4]) (results_text Tryz.results13 _ _ w.heap.size ztext rfl _ rfl rfl (Blk.new w _ _)) rfl ⟨hB.out,Or.inl ⟨hn.out,rfl⟩⟩
   · have h1':(f.size:Int)≤4000:=by omega
     have h2':(2:Int)≤(f.size:Int):=by omega
     clear h1 h2
     by_cases hG:isSG f
     · have eG:f.extract 0 2=⟨#[83,71]⟩:=(head_bytes (by omega) 83 71).2 hG
       have hGH:Hid (isSG f):=hG
       clear hG
       have hc:Hid (Calls _ _ _ ((w.alloc (.cells ztext 61)).alloc (.cells ztext 61)) _):=readRules_any f (by omega) _
       unfold ztext at hc
       clear hz
       go_enter Tryz.func13,Tryz.ntmps13
       go_wp2_with fail
       refine hc.out.mono ?_
       rintro e w1 hout
       have hout2:RulesOut f ((w.alloc (.cells ztext 61)).alloc (.cells ztext 61)) w1 e:=hout
       have hbl:=hout2.below
       have ho:=hout2.out
       clear hc hout hout2
       have hz1:Blk w1 w.heap.size ztext 61:=(hbl.block _ (by simp;omega)).trans ((Blk.new w _ _).alloc _)
       have hz2:Blk w1 (w.heap.size+1) ztext 61:=by
        have e:(w.alloc (.cells ztext 61)).heap.size=w.heap.size+1:=by simp
        have:=Blk.new (w.alloc (.cells ztext 61)) ztext 61
        rw [e] at this
        exact (hbl.block _ (by simp)).trans this
       have hS:Hid (∀v0 v1 v2 v3 v4 v5 v6 v7 u0 u1 u2 u3 u4 u5 u6 u7,_∧_):=two8 hz1
       have hbel:Hid (∀w3,Kept [w.heap.size+1,w.heap.size] w1 w3→Below w.heap.size w w3):=fun w3 k=>((hB.out.alloc (by simp) _).trans (hbl.mono (by simp;omega))).trans (k.below (by have:=hz1.lt;omega) (by simp))
       have hlt2:w.heap.size+1<w1.heap.size:=hz2.lt
       unfold ztext at hz1 hz2
       have zc0:w1.cell? ⟨w.heap.size,0,none⟩=some (.int .i64 0):=hz1.cell 0
       have y0:w1.frozen? ⟨w.heap.size,0,none⟩=false:=hz1.frozen 0
       have x0:w1.cell? ⟨w.heap.size+1,0,none⟩=some (.int .i64 0):=hz2.cell 0
       have tf0:w1.frozen? ⟨w.heap.size+1,0,none⟩=false:=hz2.frozen 0
       have zc1:w1.cell? ⟨w.heap.size,1,none⟩=some (.int .i64 0):=hz1.cell 1
       have y1:w1.frozen? ⟨w.heap.size,1,none⟩=false:=hz1.frozen 1
       have x1:w1.cell? ⟨w.heap.size+1,1,none⟩=some (.int .i64 0):=hz2.cell 1
       have tf1:w1.frozen? ⟨w.heap.size+1,1,none⟩=false:=hz2.frozen 1
       have zc2:w1.cell? ⟨w.heap.size,2,none⟩=some (.slice none 0 0):=hz1.cell 2
       have y2:w1.frozen? ⟨w.heap.size,2,none⟩=false:=hz1.frozen 2
       have x2:w1.cell? ⟨w.heap.size+1,2,none⟩=some (.slice none 0 0):=hz2.cell 2
       have tf2:w1.frozen? ⟨w.heap.size+1,2,none⟩=false:=hz2.frozen 2
       have zc3:w1.cell? ⟨w.heap.size,3,none⟩=some (.slice none 0 0):=hz1.cell 3
       have y3:w1.frozen? ⟨w.heap.size,3,none⟩=false:=hz1.frozen 3
       have x3:w1.cell? ⟨w.heap.size+1,3,none⟩=some (.slice none 0 0):=hz2.cell 3
       have tf3:w1.frozen? ⟨w.heap.size+1,3,none⟩=false:=hz2.frozen 3
       have zc4:w1.cell? ⟨w.heap.size,4,none⟩=some (.int .i64 0):=hz1.cell 4
       have y4:w1.frozen? ⟨w.heap.size,4,none⟩=false:=hz1.frozen 4
       have x4:w1.cell? ⟨w.heap.size+1,4,none⟩=some (.int .i64 0):=hz2.cell 4
       have tf4:w1.frozen? ⟨w.heap.size+1,4,none⟩=false:=hz2.frozen 4
       have zc5:w1.cell? ⟨w.heap.size,5,none⟩=some (.int .i64 0):=hz1.cell 5
       have y5:w1.frozen? ⟨w.heap.size,5,none⟩=false:=hz1.frozen 5
       have x5:w1.cell? ⟨w.heap.size+1,5,none⟩=some (.int .i64 0):=hz2.cell 5
       have tf5:w1.frozen? ⟨w.heap.size+1,5,none⟩=false:=hz2.frozen 5
       have zc6:w1.cell? ⟨w.heap.size,6,none⟩=some (.int .i64 0):=hz1.cell 6
       have y6:w1.frozen? ⟨w.heap.size,6,none⟩=false:=hz1.frozen 6
       have x6:w1.cell? ⟨w.heap.size+1,6,none⟩=some (.int .i64 0):=hz2.cell 6
       have tf6:w1.frozen? ⟨w.heap.size+1,6,none⟩=false:=hz2.frozen 6
       have zc7:w1.cell? ⟨w.heap.size,7,none⟩=some (.int .i64 0):=hz1.cell 7
       have y7:w1.frozen? ⟨w.heap.size,7,none⟩=false:=hz1.frozen 7
       have x7:w1.cell? ⟨w.heap.size+1,7,none⟩=some (.int .i64 0):=hz2.cell 7
       have tf7:w1.frozen? ⟨w.heap.size+1,7,none⟩=false:=hz2.frozen 7
       clear hz1 hz2
       rcases ho with ⟨hok,rv,sv,htv,rfl⟩ | ⟨hok,rfl⟩
       · have hsf:SFile f (sgT f):=SFile.rules (by omega) (by omega) hGH.out hok
         obtain ⟨t,ht⟩:∃t,t=(sgT f):=⟨_,rfl⟩
         rw [←ht] at hsf htv ⊢
         have hsfH:Hid (SFile f t):=hsf
         have htvH:Hid (∀w3,Kept [w.heap.size+1,w.heap.size] w1 w3→TVal w3 w.heap.size t rv sv):=fun w3 k=>(htv.kept k (fun g hg=>by simp at hg ⊢;omega)).mono (by simp;omega)
         obtain ⟨ra,rn,rc,rfl⟩:=own_shape htv.rules
         obtain ⟨sa,sn,sc,rfl⟩:=own_shape htv.start
         clear hsf htv ht hbl
         unfold TT.cells
         by_cases hbig:(1099511627776:Int)<(t.whole.len:Int)
         · unfold ztext at *
           go_wp2
           refine bodyPost_ret (v:=.tuple #[.agg ztext,.int .i64 5]) (results_text Tryz.results13 _ _ w.heap.size ztext rfl _ rfl rfl (hS.out _ _ _ _ _ _ _ _ _ _ _ _ _ _ _ _ ).1) rfl ?_
           exact ⟨hbel.out _ (hS.out _ _ _ _ _ _ _ _ _ _ _ _ _ _ _ _ ).2,Or.inr ⟨t,hsfH.out,Or.inl ⟨by omega,rfl⟩⟩⟩
         · have hle:t.whole.len≤1099511627776:=by omega
           go_wp2
           refine bodyPost_ret (v:=.tuple #[.agg #[.int .i64 t.kind,.int .i64 t.syms,.slice ra rn rc,.slice sa sn sc,.int .i64 t.whole.len,.int .i64 t.whole.nl,.int .i64 t.whole.first,.int .i64 t.whole.last],.int .i64 0]) (results_text Tryz.results13 _ _ w.heap.size _ rfl _ rfl rfl (hS.out _ _ _ _ _ _ _ _ _ _ _ _ _ _ _ _ ).1) rfl ?_
           exact ⟨hbel.out _ (hS.out _ _ _ _ _ _ _ _ _ _ _ _ _ _ _ _ ).2,Or.inr ⟨t,hsfH.out,Or.inr ⟨hle,_,_,htvH.out _ (hS.out _ _ _ _ _ _ _ _ _ _ _ _ _ _ _ _ ).2,rfl⟩⟩⟩
       · have hno2:Hid (∀t,¬SFile f t):=SFile.none_of (fun h=>by rw [hok] at h;exact Bool.noConfusion h.2) (fun h=>not_both hGH.out h.1)
         clear hbl
         unfold ztext
         go_wp2
         refine bodyPost_ret (v:=.tuple #[.agg ztext,.int .i64 4]) (results_text Tryz.results13 _ _ w.heap.size ztext rfl _ rfl rfl (hS.out _ _ _ _ _ _ _ _ _ _ _ _ _ _ _ _ ).1) rfl ?_
         exact ⟨hbel.out _ (hS.out _ _ _ _ _ _ _ _ _ _ _ _ _ _ _ _ ).2,Or.inl ⟨hno2.out,rfl⟩⟩
     · by_cases hZ:isSZ f
       · have eG:f.extract 0 2=⟨#[83,90]⟩:=(head_bytes (by omega) 83 90).2 hZ
         have hZH:Hid (isSZ f):=hZ
         clear hZ
         have hc:Hid (Calls _ _ _ ((w.alloc (.cells ztext 61)).alloc (.cells ztext 61)) _):=readCodes_any f (by omega) _
         unfold ztext at hc
         clear hz
         go_enter Tryz.func13,Tryz.ntmps13
         go_wp2_with fail
         refine hc.out.mono ?_
         rintro e w1 hout
         have hout2:CodesOut f ((w.alloc (.cells ztext 61)).alloc (.cells ztext 61)) w1 e:=hout
         have hbl:=hout2.below
         have ho:=hout2.out
         clear hc hout hout2
         have hz1:Blk w1 w.heap.size ztext 61:=(hbl.block _ (by simp;omega)).trans ((Blk.new w _ _).alloc _)
         have hz2:Blk w1 (w.heap.size+1) ztext 61:=by
          have e:(w.alloc (.cells ztext 61)).heap.size=w.heap.size+1:=by simp
          have:=Blk.new (w.alloc (.cells ztext 61)) ztext 61
          rw [e] at this
          exact (hbl.block _ (by simp)).trans this
         have hS:Hid (∀v0 v1 v2 v3 v4 v5 v6 v7 u0 u1 u2 u3 u4 u5 u6 u7,_∧_):=two8 hz1
         have hbel:Hid (∀w3,Kept [w.heap.size+1,w.heap.size] w1 w3→Below w.heap.size w w3):=fun w3 k=>((hB.out.alloc (by simp) _).trans (hbl.mono (by simp;omega))).trans (k.below (by have:=hz1.lt;omega) (by simp))
         have hlt2:w.heap.size+1<w1.heap.size:=hz2.lt
         unfold ztext at hz1 hz2
         have zc0:w1.cell? ⟨w.heap.size,0,none⟩=some (.int .i64 0):=hz1.cell 0
         have y0:w1.frozen? ⟨w.heap.size,0,none⟩=false:=hz1.frozen 0
         have x0:w1.cell? ⟨w.heap.size+1,0,none⟩=some (.int .i64 0):=hz2.cell 0
         have tf0:w1.frozen? ⟨w.heap.size+1,0,none⟩=false:=hz2.frozen 0
         have zc1:w1.cell? ⟨w.heap.size,1,none⟩=some (.int .i64 0):=hz1.cell 1
         have y1:w1.frozen? ⟨w.heap.size,1,none⟩=false:=hz1.frozen 1
         have x1:w1.cell? ⟨w.heap.size+1,1,none⟩=some (.int .i64 0):=hz2.cell 1
         have tf1:w1.frozen? ⟨w.heap.size+1,1,none⟩=false:=hz2.frozen 1
         have zc2:w1.cell? ⟨w.heap.size,2,none⟩=some (.slice none 0 0):=hz1.cell 2
         have y2:w1.frozen? ⟨w.heap.size,2,none⟩=false:=hz1.frozen 2
         have x2:w1.cell? ⟨w.heap.size+1,2,none⟩=some (.slice none 0 0):=hz2.cell 2
         have tf2:w1.frozen? ⟨w.heap.size+1,2,none⟩=false:=hz2.frozen 2
         have zc3:w1.cell? ⟨w.heap.size,3,none⟩=some (.slice none 0 0):=hz1.cell 3
         have y3:w1.frozen? ⟨w.heap.size,3,none⟩=false:=hz1.frozen 3
         have x3:w1.cell? ⟨w.heap.size+1,3,none⟩=some (.slice none 0 0):=hz2.cell 3
         have tf3:w1.frozen? ⟨w.heap.size+1,3,none⟩=false:=hz2.frozen 3
         have zc4:w1.cell? ⟨w.heap.size,4,none⟩=some (.int .i64 0):=hz1.cell 4
         have y4:w1.frozen? ⟨w.heap.size,4,none⟩=false:=hz1.frozen 4
         have x4:w1.cell? ⟨w.heap.size+1,4,none⟩=some (.int .i64 0):=hz2.cell 4
         have tf4:w1.frozen? ⟨w.heap.size+1,4,none⟩=false:=hz2.frozen 4
         have zc5:w1.cell? ⟨w.heap.size,5,none⟩=some (.int .i64 0):=hz1.cell 5
         have y5:w1.frozen? ⟨w.heap.size,5,none⟩=false:=hz1.frozen 5
         have x5:w1.cell? ⟨w.heap.size+1,5,none⟩=some (.int .i64 0):=hz2.cell 5
         have tf5:w1.frozen? ⟨w.heap.size+1,5,none⟩=false:=hz2.frozen 5
         have zc6:w1.cell? ⟨w.heap.size,6,none⟩=some (.int .i64 0):=hz1.cell 6
         have y6:w1.frozen? ⟨w.heap.size,6,none⟩=false:=hz1.frozen 6
         have x6:w1.cell? ⟨w.heap.size+1,6,none⟩=some (.int .i64 0):=hz2.cell 6
         have tf6:w1.frozen? ⟨w.heap.size+1,6,none⟩=false:=hz2.frozen 6
         have zc7:w1.cell? ⟨w.heap.size,7,none⟩=some (.int .i64 0):=hz1.cell 7
         have y7:w1.frozen? ⟨w.heap.size,7,none⟩=false:=hz1.frozen 7
         have x7:w1.cell? ⟨w.heap.size+1,7,none⟩=some (.int .i64 0):=hz2.cell 7
         have tf7:w1.frozen? ⟨w.heap.size+1,7,none⟩=false:=hz2.frozen 7
         clear hz1 hz2
         rcases ho with ⟨hm,rfl⟩ | ⟨hm,n,hr,⟨hok,rv,sv,htv,rfl⟩ | ⟨hok,rfl⟩⟩
         · have hno2:Hid (∀t,¬SFile f t):=SFile.none_of (fun h=>hG h.1) (fun h=>by rw [hm] at h;exact Bool.noConfusion h.2.1)
           clear hbl
           unfold ztext
           go_wp2
           refine bodyPost_ret (v:=.tuple #[.agg ztext,.int .i64 4]) (results_text Tryz.results13 _ _ w.heap.size ztext rfl _ rfl rfl (hS.out _ _ _ _ _ _ _ _ _ _ _ _ _ _ _ _ ).1) rfl ?_
           exact ⟨hbel.out _ (hS.out _ _ _ _ _ _ _ _ _ _ _ _ _ _ _ _ ).2,Or.inl ⟨hno2.out,rfl⟩⟩
         · have hsf:SFile f (zit (z0 f) n).2:=SFile.codes (by omega) (by omega) hZH.out hm hr hok
           obtain ⟨t,ht⟩:∃t,t=(zit (z0 f) n).2:=⟨_,rfl⟩
           rw [←ht] at hsf htv ⊢
           have hsfH:Hid (SFile f t):=hsf
           have htvH:Hid (∀w3,Kept [w.heap.size+1,w.heap.size] w1 w3→TVal w3 w.heap.size t rv sv):=fun w3 k=>(htv.kept k (fun g hg=>by simp at hg ⊢;omega)).mono (by simp;omega)
           obtain ⟨ra,rn,rc,rfl⟩:=own_shape htv.rules
           obtain ⟨sa,sn,sc,rfl⟩:=own_shape htv.start
           clear hsf htv ht hbl
           unfold TT.cells
           by_cases hbig:(1099511627776:Int)<(t.whole.len:Int)
           · unfold ztext at *
             go_wp2
             refine bodyPost_ret (v:=.tuple #[.agg ztext,.int .i64 5]) (results_text Tryz.results13 _ _ w.heap.size ztext rfl _ rfl rfl (hS.out _ _ _ _ _ _ _ _ _ _ _ _ _ _ _ _ ).1) rfl ?_
             exact ⟨hbel.out _ (hS.out _ _ _ _ _ _ _ _ _ _ _ _ _ _ _ _ ).2,Or.inr ⟨t,hsfH.out,Or.inl ⟨by omega,rfl⟩⟩⟩
           · have hle:t.whole.len≤1099511627776:=by omega
             go_wp2
             refine bodyPost_ret (v:=.tuple #[.agg #[.int .i64 t.kind,.int .i64 t.syms,.slice ra rn rc,.slice sa sn sc,.int .i64 t.whole.len,.int .i64 t.whole.nl,.int .i64 t.whole.first,.int .i64 t.whole.last],.int .i64 0]) (results_text Tryz.results13 _ _ w.heap.size _ rfl _ rfl rfl (hS.out _ _ _ _ _ _ _ _ _ _ _ _ _ _ _ _ ).1) rfl ?_
             exact ⟨hbel.out _ (hS.out _ _ _ _ _ _ _ _ _ _ _ _ _ _ _ _ ).2,Or.inr ⟨t,hsfH.out,Or.inr ⟨hle,_,_,htvH.out _ (hS.out _ _ _ _ _ _ _ _ _ _ _ _ _ _ _ _ ).2,rfl⟩⟩⟩
         · have hno2:Hid (∀t,¬SFile f t):=SFile.none_of (fun h=>hG h.1) (fun h=>by obtain ⟨_,_,m,hm2,h3⟩:=h;rw [hm2.one hr,hok] at h3;exact Bool.noConfusion h3)
           clear hbl
           unfold ztext
           go_wp2
           refine bodyPost_ret (v:=.tuple #[.agg ztext,.int .i64 4]) (results_text Tryz.results13 _ _ w.heap.size ztext rfl _ rfl rfl (hS.out _ _ _ _ _ _ _ _ _ _ _ _ _ _ _ _ ).1) rfl ?_
           exact ⟨hbel.out _ (hS.out _ _ _ _ _ _ _ _ _ _ _ _ _ _ _ _ ).2,Or.inl ⟨hno2.out,rfl⟩⟩
       · have hno2:Hid (∀t,¬SFile f t):=SFile.none_of (fun h=>hG h.1) (fun h=>hZ h.1)
         have n1:¬f.extract 0 2=⟨#[83,71]⟩:=fun h=>hG ((head_bytes (by omega) 83 71).1 h)
         have n2:¬f.extract 0 2=⟨#[83,90]⟩:=fun h=>hZ ((head_bytes (by omega) 83 90).1 h)
         have d1:((f.extract 0 2).toList==[83,71])=false:=head_ne (by omega) 83 71 (fun h=>hG h)
         have d2:((f.extract 0 2).toList==[83,90])=false:=head_ne (by omega) 83 90 (fun h=>hZ h)
         have hz2:Hid (Blk ((w.alloc (.cells ztext 61)).alloc (.cells ztext 61)) w.heap.size ztext 61∧Below w.heap.size w ((w.alloc (.cells ztext 61)).alloc (.cells ztext 61))):=⟨hz.alloc _,hB.out.alloc (by simp) _⟩
         clear hz hG hZ n1 n2
         go_enter Tryz.func13,Tryz.ntmps13
         go_wp2
         exact bodyPost_ret (v:=.tuple #[.agg ztext,.int .i64 4]) (results_text Tryz.results13 _ _ w.heap.size ztext rfl _ rfl rfl hz2.out.1) rfl ⟨hz2.out.2,Or.inl ⟨hno2.out,rfl⟩⟩
def prI (f:ByteArray) (i:Nat):Int:=if i+2≤f.size then (bt f i:Int)+256*(bt f (i+1):Int) else -1
theorem prI_bd (f:ByteArray) (i:Nat):-1≤prI f i∧prI f i≤65535:=by
 have h1:=bt_bd f i
 have h2:=bt_bd f (i+1)
 unfold prI;split <;> omega
theorem prI_neg {f:ByteArray} {i:Nat}:prI f i<0↔¬i+2≤f.size:=by
 unfold prI;split
 · constructor
   · intro h;omega
   · intro h;omega
 · constructor
   · intro h;assumption
   · intro h;omega
theorem pairAt_any (f:ByteArray) (hf:f.size≤100000) (i:Nat) (hi:i≤100000) (w:World):
 Calls Tryz.prog 43 #[.string f,.int .i64 (i:Int)] w fun e w'=>e=.returned (.int .i64 (prI f i))∧Kept [] w w':=by
 have g0:¬(i:Int)<0:=by omega
 by_cases h:i+2≤f.size
 · have e:Hid (prI f i=(f[i].toNat:Int)+256*(f[i+1].toNat:Int)):=by
    show prI f i=_
    unfold prI;rw [if_pos h,bt_lt (by omega),bt_lt (by omega)]
   have g1:¬(f.size:Int)<(i:Int)+2:=by omega
   have g2:(i:Int)<(f.size:Int):=by omega
   have g3:(i:Int)+1<(f.size:Int):=by omega
   have g4:(0:Int)≤(i:Int)+1:=by omega
   have b1:=f[i].toNat_lt
   have b2:=f[i+1].toNat_lt
   have e1:IntKind.i64.wrap (f[i].toNat:Int)=(f[i].toNat:Int):=by rw [IntKind.wrap_i64];omega
   have e2:IntKind.i64.wrap (f[i+1].toNat:Int)=(f[i+1].toNat:Int):=by rw [IntKind.wrap_i64];omega
   go_enter Tryz.func43,Tryz.ntmps43
   go_wp2_with fail
   go_quiet (fail)
   go_wp2
   go_ret
   exact ⟨ret_int (by rw [e.out]),(Kept.refl [] w).drewN _⟩
 · have e:Hid (prI f i = -1):=if_neg h
   have g1:(f.size:Int)<(i:Int)+2:=by omega
   go_enter Tryz.func43,Tryz.ntmps43
   go_wp2
   go_ret
   exact ⟨ret_int (by rw [e.out]),Kept.refl _ _⟩
structure GOk (f:ByteArray):Prop where
 five:5≤f.size
 most:f.size≤4000
 sg:isSG f
 r:bt f 2≤100
 rules:∀k,k<2*bt f 2→0≤prI f (3+2*k)∧prI f (3+2*k)<256+((k / 2:Nat):Int)
 n0:0≤prI f (3+4*bt f 2)
 n1:prI f (3+4*bt f 2)≤1000
 size:(f.size:Int)=5+4*(bt f 2:Int)+2*prI f (3+4*bt f 2)
 syms:∀k:Nat,(k:Int)<prI f (3+4*bt f 2)→prI f (5+4*bt f 2+2*k)<256+(bt f 2:Int)
structure RulesR (f:ByteArray) (w w':World) (e:Ending):Prop where
 kept:Kept [] w w'
 out:(GOk f∧e=.returned (.tuple #[.int .i64 (prI f (3+4*bt f 2)),.bool true]))∨(¬GOk f∧e=.returned (.tuple #[.int .i64 0,.bool false]))
theorem rrules_any (f:ByteArray) (hf:f.size≤maxLen) (w:World):
 Calls Tryz.prog 42 #[.string f] w fun e w'=>RulesR f w w' e:=by
 unfold maxLen at hf
 have hk0:Hid (Kept [] w w):=Kept.refl _ _
 by_cases h5:(f.size:Int)<5
 · have hn:Hid (¬GOk f):=fun h=>by have:=h.five;omega
   go_enter Tryz.func42,Tryz.ntmps42
   go_wp2
   go_ret2
   exact ⟨hk0.out,Or.inr ⟨hn.out,rfl⟩⟩
 by_cases h4:(4000:Int)<(f.size:Int)
 · have hn:Hid (¬GOk f):=fun h=>by have:=h.most;omega
   have h5':(5:Int)≤(f.size:Int):=by omega
   clear h5
   go_enter Tryz.func42,Tryz.ntmps42
   go_wp2
   go_ret2
   exact ⟨hk0.out,Or.inr ⟨hn.out,rfl⟩⟩
 have h4':(f.size:Int)≤4000:=by omega
 have h5':(5:Int)≤(f.size:Int):=by omega
 have h2':(2:Int)≤(f.size:Int):=by omega
 have h2i:(2:Int)<(f.size:Int):=by omega
 clear h4 h5
 by_cases hG:isSG f
 · have eG:f.extract 0 2=⟨#[83,71]⟩:=(head_bytes (by omega) 83 71).2 hG
   have hGH:Hid (isSG f):=hG
   clear hG
   obtain ⟨r,hr⟩:∃r,r=bt f 2:=⟨_,rfl⟩
   have hr2:f[2].toNat=r:=by rw [hr,bt_lt (by omega)]
   have hr255:r<256:=by rw [←hr2];exact f[2].toNat_lt
   have hrH:Hid (r=bt f 2):=hr
   clear hr
   by_cases hrb:(100:Int)<(r:Int)
   · have hn:Hid (¬GOk f):=fun h=>by have:=h.r;rw [←hrH.out] at this;omega
     go_enter Tryz.func42,Tryz.ntmps42
     go_wp2
     go_ret2
     exact ⟨hk0.out,Or.inr ⟨hn.out,rfl⟩⟩
   · have hrb':(r:Int)≤100:=by omega
     clear hrb
     have hpa:Hid (∀i,i≤100000→∀w,Calls _ _ _ w _):=fun i hi w=>pairAt_any f (by omega) i hi w
     go_enter Tryz.func42,Tryz.ntmps42
     go_wp2_with fail
     go_loopw [5] (fun iv wr=>∃k:Nat,iv=.int .i64 (k:Int)∧k≤2*r∧(∀j,j<k→0≤prI f (3+2*j)∧prI f (3+2*j)<256+((j / 2:Nat):Int))∧Kept [] w wr) (fun iv _=>(2*(r:Int)-intOf iv).toNat)
     case atStart=>exact ⟨0,rfl,Nat.zero_le _,fun j hj=>by omega,hk0.out⟩
     case round=>
      obtain ⟨k,rfl,hk,hall,hkw⟩:=hrel
      have hallH:Hid (∀j,_):=hall
      have hkwH:Hid (Kept _ _ _):=hkw
      clear hall hkw
      by_cases hlt:(k:Int)<2*(r:Int)
      · have hc:=hpa.out (3+2*k) (by omega) wr
        have ecast:((3+2*k:Nat):Int)=3+2*(k:Int):=by omega
        rw [ecast] at hc
        have hc:Hid (Calls _ _ _ _ _):=hc
        have hb:=prI_bd f (3+2*k)
        have hrule:Hid (GOk f→0≤prI f (3+2*k)∧prI f (3+2*k)<256+((k / 2:Nat):Int)):=fun h=>h.rules k (by rw [←hrH.out];omega)
        have hnext:Hid (0≤prI f (3+2*k)∧prI f (3+2*k)<256+((k / 2:Nat):Int)→∀j,j<k+1→0≤prI f (3+2*j)∧prI f (3+2*j)<256+((j / 2:Nat):Int)):=fun h j hj=>by
         by_cases hjk:j=k
         · subst hjk;exact h
         · exact hallH.out j (by omega)
        have ediv:(k:Int).tdiv 2=((k / 2:Nat):Int):=(Int.ofNat_tdiv k 2).symm
        have hq2:k / 2≤200:=by omega
        clear ecast hpa
        generalize prI f (3+2*k)=v at *
        generalize k / 2=q at *
        go_wp2_with fail
        refine hc.out.mono ?_
        rintro e w2 ⟨rfl,k2⟩
        have hk2:Hid (Kept _ _ _):=hkwH.out.trans k2
        clear hc k2 hkwH
        by_cases hv0:v<0
        · have hn:Hid (¬GOk f):=fun h=>by have:=(hrule.out h).1;omega
          clear hrule hnext hallH
          go_wp2
          go_ret2
          exact ⟨hk2.out,Or.inr ⟨hn.out,rfl⟩⟩
        · by_cases hv1:256+(q:Int)≤v
          · have hn:Hid (¬GOk f):=fun h=>by have:=(hrule.out h).2;omega
            have hv0':0≤v:=by omega
            clear hrule hnext hallH hv0
            go_wp2
            go_ret2
            exact ⟨hk2.out,Or.inr ⟨hn.out,rfl⟩⟩
          · have hnx:Hid (∀j,j<k+1→_):=hnext.out ⟨by omega,by omega⟩
            have hv0':0≤v:=by omega
            have hv1':v<256+(q:Int):=by omega
            clear hrule hnext hallH hv0 hv1
            go_wp2
            refine ⟨⟨k+1,by go_num,by omega,hnx.out,hk2.out⟩,?_⟩
            simp only [intOf];omega
      · have hke:k=2*r:=by omega
        have hall2:Hid (∀j,j<2*r→0≤prI f (3+2*j)∧prI f (3+2*j)<256+((j / 2:Nat):Int)):=fun j hj=>hallH.out j (by omega)
        have hc:=hpa.out (3+4*r) (by omega) wr
        have ecast:((3+4*r:Nat):Int)=3+4*(r:Int):=by omega
        rw [ecast] at hc
        have hc:Hid (Calls _ _ _ _ _):=hc
        have hb:=prI_bd f (3+4*r)
        have hGk:Hid (GOk f→0≤prI f (3+4*r)∧prI f (3+4*r)≤1000∧(f.size:Int)=5+4*(r:Int)+2*prI f (3+4*r)∧∀j:Nat,(j:Int)<prI f (3+4*r)→prI f (5+4*r+2*j)<256+(r:Int)):=fun h=>by
         rw [hrH.out];exact ⟨h.n0,h.n1,h.size,h.syms⟩
        have hmk:Hid (0≤prI f (3+4*r)→prI f (3+4*r)≤1000→(f.size:Int)=5+4*(r:Int)+2*prI f (3+4*r)→(∀j:Nat,(j:Int)<prI f (3+4*r)→prI f (5+4*r+2*j)<256+(r:Int))→GOk f):=fun a b c d=>by
         rw [hrH.out] at a b c d hrb' hall2
         exact ⟨by omega,by omega,hGH.out,by omega,hall2.out,a,b,c,d⟩
        have hret:Hid (∀e w',RulesR f w w' e↔(Kept [] w w'∧((GOk f∧e=.returned (.tuple #[.int .i64 (prI f (3+4*r)),.bool true]))∨(¬GOk f∧e=.returned (.tuple #[.int .i64 0,.bool false]))))):=fun e w'=>by
         rw [hrH.out]
         exact ⟨fun h=>⟨h.kept,h.out⟩,fun h=>⟨h.1,h.2⟩⟩
        clear ecast hallH hke hk
        obtain ⟨n,hn⟩:∃n,n=prI f (3+4*r):=⟨_,rfl⟩
        rw [←hn] at hc hb hGk hmk
        have hnH:Hid (n=_):=hn
        clear hn
        have hlt':¬(k:Int)<2*(r:Int):=hlt
        go_wp2_with fail
        refine hc.out.mono ?_
        rintro e w2 ⟨rfl,k2⟩
        have hk2:Hid (Kept _ _ _):=hkwH.out.trans k2
        clear hc k2 hkwH
        by_cases hn0:n<0
        · have hno:Hid (¬GOk f):=fun h=>by have:=(hGk.out h).1;omega
          clear hGk hmk hpa
          go_wp2
          go_ret2
          exact (hret.out _ _).2 ⟨hk2.out,Or.inr ⟨hno.out,rfl⟩⟩
        by_cases hn1:1000<n
        · have hno:Hid (¬GOk f):=fun h=>by have:=(hGk.out h).2.1;omega
          have hn0':0≤n:=by omega
          clear hGk hmk hpa hn0
          go_wp2
          go_ret2
          exact (hret.out _ _).2 ⟨hk2.out,Or.inr ⟨hno.out,rfl⟩⟩
        have hn0':0≤n:=by omega
        have hn1':n≤1000:=by omega
        clear hn0 hn1
        by_cases hsz:(f.size:Int)=5+4*(r:Int)+2*n
        · have hszb:((f.size:Int) != 5+4*(r:Int)+2*n)=false:=by rw [hsz];simp
          have hszH:Hid (_=_):=hsz
          clear hsz
          go_wp2_with fail
          go_loopw [8] (fun iv wr=>∃j:Nat,iv=.int .i64 (j:Int)∧(j:Int)≤n∧(∀i:Nat,i<j→prI f (5+4*r+2*i)<256+(r:Int))∧Kept [] w wr) (fun iv _=>(n-intOf iv).toNat)
          case atStart=>exact ⟨0,rfl,hn0',fun i hi=>by omega,hk2.out⟩
          case round=>
           obtain ⟨j,rfl,hj,hall,hkw⟩:=hrel
           have hallH:Hid (∀i:Nat,_):=hall
           have hkwH:Hid (Kept _ _ _):=hkw
           clear hall hkw hk2
           by_cases hjn:(j:Int)<n
           · have hc:=fun w=>hpa.out (5+4*r+2*j) (by omega) w
             have ecast:((5+4*r+2*j:Nat):Int)=5+4*(r:Int)+2*(j:Int):=by omega
             rw [ecast] at hc
             have hc:Hid (∀w,Calls _ _ _ w _):=hc
             have hb2:=prI_bd f (5+4*r+2*j)
             have hrule:Hid (GOk f→prI f (5+4*r+2*j)<256+(r:Int)):=fun h=>(hGk.out h).2.2.2 j hjn
             have hnext:Hid (prI f (5+4*r+2*j)<256+(r:Int)→∀i:Nat,i<j+1→prI f (5+4*r+2*i)<256+(r:Int)):=fun h i hi=>by
              by_cases hij:i=j
              · subst hij;exact h
              · exact hallH.out i (by omega)
             clear ecast hpa hallH
             generalize prI f (5+4*r+2*j)=v at *
             go_wp2_with fail
             refine (hc.out _).mono ?_
             rintro e w3 ⟨rfl,k3⟩
             have hk3:Hid (Kept _ _ _):=hkwH.out.trans k3
             clear hc k3 hkwH
             by_cases hv1:256+(r:Int)≤v
             · have hno:Hid (¬GOk f):=fun h=>by have:=hrule.out h;omega
               clear hrule hnext hmk hGk
               go_wp2
               go_ret2
               exact (hret.out _ _).2 ⟨hk3.out,Or.inr ⟨hno.out,rfl⟩⟩
             · have hnx:Hid (∀i:Nat,i<j+1→_):=hnext.out (by omega)
               have hv1':v<256+(r:Int):=by omega
               clear hrule hnext hmk hGk hv1
               go_wp2
               refine ⟨⟨j+1,by go_num,by omega,hnx.out,hk3.out⟩,?_⟩
               simp only [intOf];omega
           · have hyes:Hid (GOk f):=hmk.out hn0' hn1' hszH.out (fun i hi=>hallH.out i (by omega))
             clear hmk hGk hallH hpa
             go_wp2
             go_ret2
             exact (hret.out _ _).2 ⟨hkwH.out,Or.inl ⟨hyes.out,by rw [hnH.out];rfl⟩⟩
        · have hno:Hid (¬GOk f):=fun h=>hsz (hGk.out h).2.2.1
          have hszb:((f.size:Int) != 5+4*(r:Int)+2*n)=true:=by simp [hsz]
          clear hGk hmk hpa hsz
          go_wp2
          go_ret2
          exact (hret.out _ _).2 ⟨hk2.out,Or.inr ⟨hno.out,rfl⟩⟩
 · have hn:Hid (¬GOk f):=fun h=>hG h.sg
   have d1:((f.extract 0 2).toList==[83,71])=false:=head_ne (by omega) 83 71 (fun h=>hG h)
   have d2:((f.extract 0 2).toList != [83,71])=true:=by simp [bne,d1]
   clear hG
   go_enter Tryz.func42,Tryz.ntmps42
   go_wp2
   go_ret2
   exact ⟨hk0.out,Or.inr ⟨hn.out,rfl⟩⟩
end Go.Proofs.YtgifhgnccmnbiabGreat
