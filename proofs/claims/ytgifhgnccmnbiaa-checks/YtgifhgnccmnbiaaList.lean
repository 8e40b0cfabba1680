/- The reader of patterns: bytes and lists. -/
import Derived.Test.YtgifhgnccmnbiaaBuild
set_option linter.unusedVariables false
set_option linter.unusedSimpArgs false
namespace Go.Proofs.Ytgifhgnccmnbiaa
open Go.RowKit Go.IntWalk

theorem own_alloc {w : World} {base : Nat} {e : TypeId} {size : Nat} {v : Value} {n : Nat} {xs : List Value} (h : w.ownsRow base e size v n xs) (o : Obj) : (w.alloc o).ownsRow base e size v n xs := h.alloc o
theorem NV.alloc {w : World} {b : Nat} {t : ByteArray} {s : RS} {ns : List AN} {v : Value} {xs : List IV} (h : NV w b t s ns v xs) (o : Obj) : NV (w.alloc o) b t s ns v xs :=
  ⟨h.rd.kept (Kept.alloc (Kept.refl [] w) o) (by simp), h.row.alloc o, h.len, fun i n x a c => World.ownsRow.alloc (h.items i n x a c) o, h.sized⟩

theorem items_one (w : World) (base : Nat) (lo hi : Int) (k : Nat) (hk : k = w.heap.size) (hb : base ≤ w.heap.size) :
    ItemsOk (w.alloc (.cells #[.int .i64 lo, .int .i64 hi] 208)) base (some ⟨k, 0, none⟩, 1, 1) [(lo, hi)] := by
  subst hk
  exact ⟨rfl, .inr ⟨w.heap.size, 1, #[.int .i64 lo, .int .i64 hi], rfl, hb, heap_alloc_new w _, Nat.le_refl _, by unfold maxLen; omega, rfl, rfl⟩⟩

set_option maxHeartbeats 400000 in
theorem bytes_any (b : Nat) (lo hi : Int) (t : ByteArray) (s : RS) (ns : List AN) (v : Value) (xs : List IV) (w : World) (h : NV w b t s ns v xs) (hm : ns.length ≤ 1000) :
    Calls Try.prog 159 #[.pointer (some ⟨b, 0, none⟩), .agg #[.int .i64 lo, .int .i64 hi]] w fun e w' =>
      e = .returned (.int .i64 ((bytesS lo hi (s, ns)).1 : Int)) ∧ NS w' b t (bytesS lo hi (s, ns)).2 ∧ Below b w w' := by
  have hb := h.rd.blk.lt
  go_enter Try.func159, Try.ntmps159
  go_wp2_with fail
  refine (add_items b t s ns v xs (some ⟨w.heap.size + 1, 0, none⟩) 1 1 [(lo, hi)] false _ ((h.alloc _).alloc _) hm (items_one _ _ _ _ _ (by simp) (by simp; omega))).mono ?_
  rintro e w1 ⟨rfl, hs, hbel⟩
  go_wp2
  go_ret
  exact ⟨rfl, hs, (((Below.refl _ _).alloc (by omega) _).alloc (by simp; omega) _).trans hbel⟩

theorem infoItem : (Try.prog.info? 208).map (fun i => (i.zero, i.size, i.bytes)) = some (some (.agg #[.int .i64 0, .int .i64 0]), 2, 16) := by kernel_rfl

def lenOf : Value → Nat | .slice _ n _ => n | _ => 0

theorem own_mono {w : World} {base base' : Nat} {e : TypeId} {size : Nat} {v : Value} {n : Nat} {xs : List Value} (h : w.ownsRow base e size v n xs) (hb : base' ≤ base) : w.ownsRow base' e size v n xs := by
  refine ⟨h.1, ?_⟩
  rcases h.2 with h2 | ⟨g, c, u, h3, h4, r⟩
  · exact Or.inl h2
  · exact Or.inr ⟨g, c, u, h3, Nat.le_trans hb h4, r⟩

theorem ItemsOk.scan {w w' : World} {b B : Nat} {x : IV} {its : List (Int × Int)} (h : ItemsOk w B x its) (k : Kept [b] w w') (hB : b < B) : ItemsOk w' B x its := by
  have gr : w.grownBy w' (some b) := ⟨k.os, k.tape, k.output, k.size, fun i hi hn => k.block i hi (by simpa using hn)⟩
  refine World.ownsRow.kept h gr ?_
  cases hv : (ivV x).ownBlock with
  | none => exact Or.inl rfl
  | some g => refine Or.inr ?_; have := own_ge h hv; simp; omega

/-- The nodes' items lie below B. -/
def OldItems (ns : List AN) (xs : List IV) (B : Nat) : Prop := ∀ (i : Nat) (n : AN) (y : IV), ns[i]? = some n → xs[i]? = some y → ∀ g, (ivV y).ownBlock = some g → g < B
theorem NV.old {w : World} {b : Nat} {t : ByteArray} {s : RS} {ns : List AN} {v : Value} {xs : List IV} (h : NV w b t s ns v xs) : OldItems ns xs w.heap.size :=
  fun i n y hn hy g hg => (World.ownsRow.lt (h.items i n y hn hy) g hg).2

/-- What is left behind the append of an item. -/
theorem items_more {b B : Nat} {t : ByteArray} {s : RS} {ns : List AN} {v : Value} {xs : List IV} {w w1 : World} {x : IV} {its : List (Int × Int)} {y : Int × Int} (h : NV w b t s ns v xs) (hx : ItemsOk w B x its)
    (hB : b < B) (ho : OldItems ns xs B)
    (v' : Value) (hown : w1.ownsRow B 208 2 v' (its.length + 1) (itemCells its ++ [.int .i64 y.1, .int .i64 y.2])) (hgrow : w.grownBy w1 (ivV x).ownBlock) :
    ∃ ao il ic, v' = .slice ao il ic ∧ ItemsOk w1 B (ao, il, ic) (its ++ [y]) ∧ NV w1 b t s ns v xs ∧ Below b w w1 ∧ il = its.length + 1 := by
  obtain ⟨g, cap, rfl⟩ := own_form hown (by omega)
  have hge : ∀ k, (ivV x).ownBlock = some k → B ≤ k := fun k hk => own_ge hx hk
  refine ⟨_, _, _, rfl, ?_, ⟨⟨(hgrow.block b h.rd.blk.lt ?_).trans h.rd.blk, h.rd.fits, h.rd.small⟩, h.row.kept hgrow (own_ne h.row hx (by decide)), h.len, fun i n z hn hz => ?_, h.sized⟩, ?_, rfl⟩
  · unfold ItemsOk
    rw [itemCells_snoc, List.length_append]
    exact hown
  · intro hc; have := hge b hc.symm; omega
  · refine World.ownsRow.kept (h.items i n z hn hz) hgrow ?_
    cases hv : (ivV z).ownBlock with
    | none => exact Or.inl rfl
    | some g =>
      refine Or.inr (fun hc => ?_)
      have h1 := ho i n z hn hz g hv
      have h2 := hge g hc.symm
      omega
  · exact ⟨hgrow.os, hgrow.tape, hgrow.output, hgrow.size, fun k hk => hgrow.block k (by have := h.rd.blk.lt; omega) (fun hc => by have := hge k hc.symm; omega)⟩

set_option maxHeartbeats 2000000 in
set_option maxRecDepth 100000 in
theorem list_any (b : Nat) (t : ByteArray) (s : RS) (ns : List AN) (v : Value) (xs : List IV) (w : World) (h : NV w b t s ns v xs) (hm : ns.length ≤ 1000) :
    Calls Try.prog 158 #[.pointer (some ⟨b, 0, none⟩)] w fun e w' =>
      e = .returned (.int .i64 ((listS t (s, ns)).1 : Int)) ∧ NS w' b t (listS t (s, ns)).2 ∧ Below b w w' := by
  have hb := h.rd.blk.lt
  obtain ⟨i0, hi0, hz0, hz1, hz2⟩ := info_parts infoItem
  go_enter Try.func158, Try.ntmps158
  go_wp2_with fail
  refine (take_any b 94 t s v _ h.rd (by omega) (by omega)).mono ?_
  rintro e w1 ⟨rfl, h1, k1⟩
  have n1 := h.scan h1 k1
  have b1 : Below b w w1 := k1.below (by omega) (by simp)
  clear k1 h1
  have hB : b < w1.heap.size := n1.rd.blk.lt
  obtain ⟨B, hBe⟩ : ∃ B, B = w1.heap.size := ⟨_, rfl⟩
  have ho : OldItems ns xs B := by rw [hBe]; exact n1.old
  have hBw : B ≤ w1.heap.size := by omega
  rw [← hBe] at hB
  clear hBe
  have hsm : Hid (t.size ≤ 40) := h.rd.small
  go_wp2_with fail
  go_loopw [4] (fun it wr => ∃ its ao il ic s', it = .slice ao il ic ∧ ItemsOk wr B (ao, il, ic) its ∧ B ≤ wr.heap.size ∧ NV wr b t s' ns v xs ∧ Below b w wr ∧ itemsS t s' its = itemsS t (takeS t 94 s).2 [] ∧ il = its.length ∧ its.length ≤ s'.1) (fun it _ => 41 - lenOf it)
  case atStart => exact ⟨[], none, 0, 0, _, rfl, items_nil _ _, hBw, n1, b1, rfl, rfl, Nat.zero_le _⟩
  case round =>
    obtain ⟨its, ao, il, ic, s', rfl, hi, hBr, hn, hbel, hit, rfl, hle⟩ := hrel
    have hfit := hn.rd.fits
    have hbr := hn.rd.blk.lt
    have hit : Hid (_ = _) := hit
    by_cases hq : itemQ t s' = true
    · have hlt := itemQ_lt hq
      have hgt := item_gt hlt
      have hon : Hid (_ = _) := itemsS_on (acc := its) hq
      go_wp2_with fail
      refine (atItem_any b t s' v _ hn.rd).mono ?_
      rintro e w2 ⟨rfl, rfl⟩
      go_wp2_with fail
      refine (item_any b t s' v _ hn.rd).mono ?_
      rintro e w2 ⟨rfl, h2, k2⟩
      have n2 := hn.scan h2 k2
      have i2 := hi.scan k2 hB
      have hB2 : B ≤ w2.heap.size := Nat.le_trans hBr k2.size
      have b2 := hbel.trans (k2.below (by omega) (by simp))
      go_wp2_with (at_builtin; refine wpList_append_own _ rfl (.tmp 13) (.tmp 15) 117 rfl B 208 i0 _ 2 16 Try.underlying117 hi0 hz0 hz1 hz2 rfl (by decide) (ivV (ao, its.length, ic)) its.length (itemCells its) rfl ?own ⟨w2.heap.size + 1, 0, none⟩ 1 1 [.int .i64 (itemS t s').1.1, .int .i64 (itemS t s').1.2] rfl rfl ?c1 ?c2 ?b1 ?b2 ?b3 ?k)
      case own => exact (World.ownsRow.alloc i2 _).alloc _
      case c1 => exact cells_new _ _ _ _ (by simp)
      case c2 => simp [Value.oneCell']
      case b1 => unfold maxLen; have := hsm.out; simp only [Fits] at hfit; omega
      case b2 => have := hsm.out; simp only [Fits] at hfit; omega
      case b3 => simp; omega
      case k =>
        intro v' w3 hown hgrow hnil
        obtain ⟨ao', il', ic', rfl, i3, n3, b3, rfl⟩ := items_more (x := (ao, its.length, ic)) ((n2.alloc _).alloc _) (World.ownsRow.alloc (World.ownsRow.alloc i2 _) _) hB ho v' hown hgrow
        go_wp2
        refine ⟨⟨its ++ [(itemS t s').1], ao', its.length + 1, ic', (itemS t s').2, rfl, i3, by have := hgrow.size; simp at this; omega, n3, b2.trans ((((Below.refl _ _).alloc (by have := n2.rd.blk.lt; omega) _).alloc (by have := n2.rd.blk.lt; simp; omega) _).trans b3), hon.out.symm.trans hit.out, by simp, by simp; omega⟩, ?_⟩
        have := hsm.out
        simp only [lenOf]
        omega
    · have hf : itemQ t s' = false := by simpa using hq
      have hoff : Hid (_ = _) := itemsS_off (acc := its) hf
      clear hq
      go_wp2_with fail
      refine (atItem_any b t s' v _ hn.rd).mono ?_
      rintro e w2 ⟨rfl, rfl⟩
      have hI : Hid (itemsS t (takeS t 94 s).2 [] = (its, s')) := hit.out.symm.trans hoff.out
      clear hit hoff
      have hL : its.length ≤ 40 := by have := hsm.out; simp only [Fits] at hfit; omega
      have fin : ∀ (s2 : RS), (if (takeS t 93 s').1 = false ∨ its.length = 0 then failS t else (takeS t 93 s').2) = s2 → Hid (listS t (s, ns) = addS { kind := 1, its := its, neg := (takeS t 94 s).1, size := 1 } (s2, ns)) := by
        intro s2 e
        show listS t (s, ns) = _
        unfold listS
        simp only []
        rw [hI.out]
        simp only []
        rw [e]
      by_cases hc : (takeS t 93 s').1 = false
      · have e := fin _ (if_pos (Or.inl hc))
        clear fin hI
        go_wp2_with fail
        refine (take_any b 93 t s' v _ hn.rd (by omega) (by omega)).mono ?_
        rintro e1 w3 ⟨rfl, h3, k3⟩
        have n3 := hn.scan h3 k3
        have i3 := hi.scan k3 hB
        have b3 := hbel.trans (k3.below (by omega) (by simp))
        go_wp2_with fail
        refine (fail_any b t _ v _ h3).mono ?_
        rintro e1 w4 ⟨rfl, h4, k4⟩
        have n4 := n3.scan h4 k4
        have i4 := i3.scan k4 hB
        have b4 := b3.trans (k4.below (by have := h3.blk.lt; omega) (by simp))
        go_wp2_with fail
        refine (add_items b t _ ns v xs ao its.length ic its _ _ n4 hm (own_mono i4 hB)).mono ?_
        rw [← e.out]
        rintro e1 w5 ⟨rfl, h5, b5⟩
        go_wp2
        go_ret
        exact ⟨rfl, h5, b4.trans b5⟩
      have hc : (takeS t 93 s').1 = true := by simpa using hc
      by_cases hz : its.length = 0
      · have e := fin _ (if_pos (Or.inr hz))
        clear fin hI
        obtain rfl := List.length_eq_zero_iff.1 hz
        clear hz
        go_wp2_with fail
        refine (take_any b 93 t s' v _ hn.rd (by omega) (by omega)).mono ?_
        rintro e1 w3 ⟨rfl, h3, k3⟩
        have n3 := hn.scan h3 k3
        have i3 := hi.scan k3 hB
        have b3 := hbel.trans (k3.below (by omega) (by simp))
        go_wp2_with fail
        refine (fail_any b t _ v _ h3).mono ?_
        rintro e1 w4 ⟨rfl, h4, k4⟩
        have n4 := n3.scan h4 k4
        have i4 := i3.scan k4 hB
        have b4 := b3.trans (k4.below (by have := h3.blk.lt; omega) (by simp))
        go_wp2_with fail
        refine (add_items b t _ ns v xs ao 0 ic [] _ _ n4 hm (own_mono i4 hB)).mono ?_
        rw [← e.out]
        rintro e1 w5 ⟨rfl, h5, b5⟩
        go_wp2
        go_ret
        exact ⟨rfl, h5, b4.trans b5⟩
      · have e := fin _ (if_neg (by rw [hc]; simpa using hz))
        clear fin hI
        have hz' : (((its.length : Nat) : Int) == 0) = false := by simpa using hz
        clear hz
        go_wp2_with fail
        refine (take_any b 93 t s' v _ hn.rd (by omega) (by omega)).mono ?_
        rintro e1 w3 ⟨rfl, h3, k3⟩
        have n3 := hn.scan h3 k3
        have i3 := hi.scan k3 hB
        have b3 := hbel.trans (k3.below (by omega) (by simp))
        go_wp2_with fail
        refine (add_items b t _ ns v xs ao its.length ic its _ _ n3 hm (own_mono i3 hB)).mono ?_
        rw [← e.out]
        rintro e1 w5 ⟨rfl, h5, b5⟩
        go_wp2
        go_ret
        exact ⟨rfl, h5, b3.trans b5⟩

end Go.Proofs.Ytgifhgnccmnbiaa
