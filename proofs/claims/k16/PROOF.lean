import PyProof.Rows.All
import Wide.All
import OpenK.AllK
import Wide.FinOn
import HandS.ForMost
import HandS.IsInst
import HandS.TupAny
import HandS.Flow
import HandS.Style
import HandS.RevRange
import HandS.Conv
import HandS.More
import HandS.Zip
import KE.KDictZip
import KE.KDictList
import KE.KRevSl
import HandS.ForExc
import HandS.ExcInit
import HandS.ExcField
import HandS.HotCalls
import HandS.SetFor
import KE.KExcIs
import KE.GoesEnum
import KE.GoesMore
import HandS.Star
import HandS.ExcOwn
import HandS.WordsExc
import HandS.Walk
import HandS.Codes
import HandS.Defaults
import HandS.Deep
import KE.DatumOrd
import HandS.Text
import PySem.Challenge.RW_leastmaker_k16_whole_lighter_parts
set_option Elab.async false
set_option linter.all false
set_option maxRecDepth 100000
set_option maxHeartbeats 2000000
namespace LmR
open PySem PySem.Spec PyProof.Rows L2
/-! ### t[::-1] of a tuple -/
section
variable {prog : Program} {w : World} {A : Around} {E : Value → Shared → Prop} {s : Shared}
theorem pick_rev (xs : Array Value) : ((List.range xs.size).filterMap fun (m : Nat) => xs[(((xs.size : Int) - 1) + (m : Int) * (-1)).toNat]?).toArray = xs.toList.reverse.toArray := by
  congr 1
  have e : ∀ n, n ≤ xs.size → ((List.range n).filterMap fun (m : Nat) => xs[(((xs.size : Int) - 1) + (m : Int) * (-1)).toNat]?) = (xs.toList.reverse).take n := by
    intro n
    induction n with
    | zero => intro _; rfl
    | succ n ih =>
      intro h
      rw [List.range_succ, List.filterMap_append, ih (by omega), List.take_add_one]
      congr 1
      have e1 : (((xs.size : Int) - 1) + (n : Int) * (-1)).toNat = xs.size - 1 - n := by omega
      have e2 : xs.toList.reverse[n]? = xs[xs.size - 1 - n]? := by
        rw [List.getElem?_reverse (by rw [Array.length_toList]; omega), Array.length_toList, Array.getElem?_toList]
      rw [e2]
      have hlt : xs.size - 1 - n < xs.size := by omega
      simp only [List.filterMap_cons, List.filterMap_nil]
      rw [e1, Array.getElem?_eq_getElem hlt]
      rfl
  rw [e xs.size (Nat.le_refl _)]
  exact List.take_of_length_le (by rw [List.length_reverse, Array.length_toList]; exact Nat.le_refl _)
theorem rev_applied {sl : Addr} {vl vu vs : Value} {n : Nat} {Q : Int × Int × Nat → Shared → Prop} (hs : s.heap.IsSliceOf sl vl vu vs) (pl : IsPart vl none) (pu : IsPart vu none) (ps : IsPart vs (some (-1)))
    (h : Q ((n : Int) - 1, -1, n) s) : wpAny (model prog w) A (Builtin.Slice.sliceApplied (.ref sl) (pure (n : Int))) Q E s := by
  obtain ⟨os, hos, hcs, hds⟩ := id hs
  unfold Builtin.Slice.sliceApplied Builtin.Slice.sliceFields
  refine wpAny_bind (wpAny_bind (wpAny_field hos hds (x := vl) rfl (wpAny_bind (wpAny_field hos hds (x := vu) rfl (wpAny_bind (wpAny_field hos hds (x := vs) rfl (wpAny_pure ?_)))))))
  refine wpAny_bind (HT.slicePart_ ps ?_)
  show wpAny _ _ (if ((-1 : Int) == 0) = true then _ else _) _ _ s
  rw [if_neg (by decide)]
  refine wpAny_bind (HT.slicePart_ pl (wpAny_bind (HT.slicePart_ pu (wpAny_bind (wpAny_pure ?_)))))
  have e : Builtin.Slice.sliceAdjust none none (-1) (n : Int) = ((n : Int) - 1, -1) := by
    simp [Builtin.Slice.sliceAdjust]
  have e2 : Builtin.Slice.slicePlaces ((n : Int) - 1) (-1) (-1) = n := by
    unfold Builtin.Slice.slicePlaces
    simp
    omega
  show wpAny _ _ (match Builtin.Slice.sliceAdjust none none (-1) (n : Int) with | (lo, hi) => pure (lo, (-1 : Int), Builtin.Slice.slicePlaces lo hi (-1))) _ _ s
  rw [e]
  show wpAny _ _ (pure ((n : Int) - 1, (-1 : Int), Builtin.Slice.slicePlaces ((n : Int) - 1) (-1) (-1))) _ _ s
  rw [e2]
  exact wpAny_pure h
theorem getItem_tuple_rev {t sl : Addr} {items : Array Value} {vl vu vs : Value} {Q : Value → Shared → Prop} (ht : IsTup s.heap t items) (hs : s.heap.IsSliceOf sl vl vu vs) (pl : IsPart vl none) (pu : IsPart vu none) (ps : IsPart vs (some (-1)))
    (h : Q (.ref s.heap.objs.size) { s with heap := s.heap.push { cls := .type "tuple", data := .seq items.toList.reverse.toArray } })
    (hsz : items.size ≤ sizeLine) : wpAny (model prog w) A (getItem (.ref t) (.ref sl)) Q E s := by
  have htake : sizeOk (.seq items.toList.reverse.toArray) := by
    show (items.toList.reverse).toArray.size ≤ sizeLine
    rw [List.size_toArray, List.length_reverse, Array.length_toList]
    omega
  obtain ⟨os, hos, hcs, hds⟩ := id hs
  have hTs : s.TypeIs (.ref sl) "slice" := ⟨os, hos, hcs⟩
  unfold getItem
  try with_reducible refine wpAny_holding ?_
  first | refine wpAny_bind (wpAny_pure ?_) | skip
  refine wpAny_bind (wpAny_sequenceKey ht.typeIs (by decide) ?_)
  refine wpAny_bind (wpAny_callSpecial?_slot (name := Str.ofString "__getitem__") ht.typeIs PyProof.Rows.slot_tuple_getitem
    (wpAny_call_entry PyProof.Rows.slot_tuple_getitem ht.typeIs PyProof.Rows.entry_tuple_getitem ?_ (PyProof.Rows.args_tuple_getitem _ _)))
  show wpAny _ _ (Builtin.Tuple.tupleItemsOf (.ref t) >>= _) _ _ s
  refine wpAny_bind (PyProof.Rows.tupleItemsOf_ ht ?_)
  refine wpAny_bind (wpAny_typeOf hTs ?_)
  rw [if_pos (by decide)]
  refine wpAny_bind (rev_applied hs pl pu ps ?_)
  have hno : ¬ (((items.size : Int) - 1 == 0 && (-1 : Int) == 1 && items.size == items.size) = true) := by
    intro q
    rw [Bool.and_eq_true, Bool.and_eq_true] at q
    exact absurd q.1.2 (by decide)
  show wpAny _ _ (if ((items.size : Int) - 1 == 0 && (-1 : Int) == 1 && items.size == items.size) = true then _ else _) _ _ s
  rw [if_neg hno, pick_rev]
  first
    | exact wpAny_bind (m := Builtin.Tuple.tupleExact _) (wpAny_newObj_type (wpAny_pure ⟨_, rfl, wpAny_pure h⟩) htake)
    | exact wpAny_bind (m := Builtin.Tuple.tupleExact _) (wpAny_newObj_type (wpAny_bind (wpAny_pure (wpAny_pure ⟨_, rfl, wpAny_pure h⟩))) htake)
    | exact wpAny_bind (wpAny_bind (m := Builtin.Tuple.tupleExact _) (wpAny_newObj_type (wpAny_pure (wpAny_pure ⟨_, rfl, wpAny_pure h⟩)) htake))
    | exact wpAny_bind (wpAny_bind (m := Builtin.Tuple.tupleExact _) (wpAny_newObj_type (wpAny_pure ⟨_, rfl, wpAny_pure h⟩) htake))
end
def tRevT (K : PySem.W.Frag) (te : TE) : TE := fun σ H Q => te σ H fun x H1 => ∃ a xs, x = .ref a ∧ SqT K H1 a xs ∧ ∀ p, H1 p = none → Q (.ref p) (upd H1 p (.tup xs.reverse))
section
variable {X : Cx}
theorem pe_revT {e : Expr} {te : TE} {k : Nat} {p1 p2 p3 pos : Pos} (he : PE X e te) : PE X (.Subscript e (.Slice none none (some (.UnaryOp .USub (.Constant (.int 1) k p1) p2)) p3) pos) (tRevT X.K te) := by
  refine ⟨fun pins s σ H Q I h => ?_⟩
  refine Subscript_ (thn (he.run pins s σ H _ I h) fun v s1 ⟨x, H1, I1, r1, q1⟩ => ?_)
  obtain ⟨a, xs, ex, hx, q⟩ := q1
  subst ex
  cases r1
  have hst : PO X (some (.UnaryOp .USub (.Constant (.int 1) k p1) p2)) (tPart (tUn (rU fun i => .int (-i)) (tC (.int 1)))) := po_some (pe_un un_neg pe_int)
  refine wpAny_Slice (thn (po_none.run pins s1 σ H1 (fun o H2 => o = none ∧ H2 = H1) I1 ⟨rfl, rfl⟩) fun vl s2 ⟨l, H2, I2, pl, el, e2⟩ => ?_)
  subst el e2
  refine thn (po_none.run pins s2 σ H2 (fun o H3 => o = none ∧ H3 = H2) I2 ⟨rfl, rfl⟩) fun vu s3 ⟨u, H3, I3, pu, eu, e3⟩ => ?_
  subst eu e3
  refine thn (hst.run pins s3 σ H3 (fun o H4 => o = some (-1) ∧ H4 = H3) I3 ⟨1, rfl, -1, rfl, rfl, rfl⟩) fun vs s4 ⟨o, H4, I4, ps, eo, e4⟩ => ?_
  subst eo e4
  have I5 : Inv X pins σ H4 { s4 with heap := s4.heap.push { cls := .type "slice", data := .fields #[vl, vu, vs] } } := I4.kept (t' := s4.toks) fun b ob q => Heap.get?_push_of_some _ q
  obtain ⟨its, r, ht, hz⟩ := I5.tuple hx
  have hlen := r.length
  show wpAny (model X.prog X.w) X.A (subscriptTail e (.Slice none none (some (.UnaryOp .USub (.Constant (.int 1) k p1) p2)) p3) (.ref a) (.ref s4.heap.objs.size)) (EP X pins σ Q) X.xe { s4 with heap := s4.heap.push { cls := .type "slice", data := .fields #[vl, vu, vs] } }
  refine tail_any (ops := [.ref a, .ref s4.heap.objs.size]) ht.typeIs (PyProof.Rows.slot_tuple_getitem.lookup) ?_ (by with_unfolding_all rfl)
  refine getItem_tuple_rev ht (Heap.IsSliceOf.new _ vl vu vs) pl pu ps ?_ (by rw [List.size_toArray]; omega)
  refine ⟨.ref _, _, I5.laid (t' := s4.toks) (o := .tup xs.reverse) (fun b ob q => Heap.get?_push_of_some _ q) (Nat.le_refl _) ?_, rfl, q _ (I5.hok.fresh (Nat.le_refl _))⟩
  exact ⟨by rw [List.length_reverse]; exact hz, its.reverse, r.reverse, ⟨_, Heap.get?_push_size _ rfl, rfl, _, rfl⟩⟩
end
/-! ### l.extend(t), t a tuple -/
theorem extend_tuple (l : Addr) (items : Array Value) (n : Nat) (b : Addr) (items2 : Array Value) (n2 : Nat) (dd : Option Addr) (sl : Array (Option Value)) (hs0 : ¬(!items.isEmpty && Builtin.List.listTooLong (items.size + items2.size)) = true) (hs1 : items.size ≤ sizeLine) (hs2 : items.size + items2.size ≤ sizeLine + 1 := by seq_fits) :
    Meets (Builtin.«list.extend» ⟨[.ref l, .ref b], []⟩) (fun _ R s => s.heap.get? l = some { cls := .type "list", dict := none, data := .seq items n, slots := #[] } ∧ s.heap.get? b = some { cls := .type "tuple", dict := dd, data := .seq items2 n2, slots := sl } ∧ R (.ok (.ret Value.none)) { s with heap := s.heap.update l (Obj.mapSeq fun x => x ++ items2), toks := s.toks }) :=
  .of_wp fun prog w A R s h => by
    obtain ⟨hp, g, d, tk, os⟩ := s; obtain ⟨hl, hb, h⟩ := h; have f1 := AutoSeq1.idx_int; have f2 := AutoSeq1.sub_tuple_tuple; have f3 := AutoSeq1.sub_list_list; have f4 := AutoSeq1.sub_tuple_list; have f5 := AutoSeq1.sub_list_tuple;
    have hz' : (items ++ items2).size ≤ sizeLine + 1 := by rw [Array.size_append]; exact hs2
    wp_walk using (wpAny_updateSeq hl rfl (hz := hs1) (_hz' := hz')), wpAny_loadPart' hl, wpAny_loadPart' hb; exact ⟨_, rfl, h⟩
def rExtT (K : PySem.W.Frag) : V → List V → Hp → VK → Prop := fun x vs H Q => ∃ l b xs zs, x = .ref l ∧ vs = [.ref b] ∧ H l = some (.lst xs) ∧ SqT K H b zs ∧ xs.length + zs.length ≤ sizeLine ∧ Q .non (upd H l (.lst (xs ++ zs)))
theorem mt_extendT {X : Cx} : MtM X "list.extend" (rExtT X.K) := by
  intro pins s σ H x vs v us Q I rx rv h
  obtain ⟨l, b, xs, zs, rfl, rfl, hH, hB, hz, q⟩ := h
  cases rx
  obtain ⟨u, rfl, ru⟩ := rv.one
  cases ru
  obtain ⟨z, its, n, r, hl, e⟩ := I.lstM hH
  obtain ⟨its2, r2, ⟨⟨cls, dd, dt, sl⟩, ho, hc, n2, hd⟩, _⟩ := I.tuple hB
  simp only at hc hd
  subst hc hd
  have hl2 := r2.length
  have hsz : its.toArray.size + its2.toArray.size ≤ sizeLine := by rw [List.size_toArray, List.size_toArray]; omega
  have hlong : ¬ (!its.toArray.isEmpty && Builtin.List.listTooLong (its.toArray.size + its2.toArray.size)) = true := by
    rw [notLongL hsz, Bool.and_false]
    exact Bool.false_ne_true
  refine call_meets F.slot_list_extend ⟨_, e, rfl⟩ F.entry_list_extend (F.args_list_extend_2 _ _)
    (extend_tuple l its.toArray n b its2.toArray n2 dd sl hlong (by rw [List.size_toArray]; omega) (by omega)) ⟨e, ho, ?_⟩
  refine ⟨.non, _, I.lset (its' := its ++ its2) hH e (by simp) (r.append r2) ?_, rfl, q⟩
  rw [List.length_append]
  omega
end LmR

set_option Elab.async false
set_option linter.all false
set_option maxRecDepth 100000
set_option maxHeartbeats 2000000
namespace LmR
open PySem PySem.Spec PyProof.Rows L2 RZ
theorem zip_no_len : typeLookup (.type "zip") "__len__" = pure none := by rw [typeLookup_type, builtinLookup_eq_fast]; kernel_rfl
theorem zip_no_hint : typeLookup (.type "zip") "__length_hint__" = pure none := by rw [typeLookup_type, builtinLookup_eq_fast]; kernel_rfl
section
variable {prog : Program} {w : World} {A : Around} {E : Value → Shared → Prop} {s : Shared}
theorem zipT_item_held {z TI TO T i1 i2 l1 l2 : Addr} {f : Bool} {oT : Obj} {k1 k2 : Nat} {xs ys : Array Value} {x y : Value} {Q : Value → Shared → Prop} (D : ZipApart z TI TO i1 i2 l1 l2)
    (hz : IsZipHeld s.heap z TI TO T f) (hT : s.heap.get? T = some oT) (hTI : IsPair s.heap TI (.ref i1) (.ref i2))
    (h1 : s.heap.IsTupleIter i1 l1 k1) (h2 : s.heap.IsTupleIter i2 l2 k2) (hl1 : s.heap.IsTuple l1 xs) (hl2 : s.heap.IsTuple l2 ys) (hx : xs[k1]? = some x) (hy : ys[k2]? = some y)
    (hQ : ∀ h', IsZipHeld h' z TI TO T true → h'.IsTupleIter i1 l1 (k1 + 1) → h'.IsTupleIter i2 l2 (k2 + 1) → IsPair h' s.heap.objs.size x y → h'.objs.size = s.heap.objs.size + 1 →
      (∀ c o, c ≠ z → c ≠ i1 → c ≠ i2 → s.heap.get? c = some o → h'.get? c = some o) → Q (.ref s.heap.objs.size) { s with heap := h' }) :
    wpAny (model prog w) A (Builtin.«zip.__next__» ⟨[.ref z], []⟩) (fun fin s' => ∃ v, fin = .done (.ret v) ∧ Q v s') E s := by
  show wpAny _ _ (field (.ref z) 2 >>= _) _ _ _
  refine wpAny_bind (wpAny_field hz rfl (x := .bool false) rfl ?_)
  show wpAny _ _ (field (.ref z) 3 >>= _) _ _ _
  refine wpAny_bind (wpAny_field hz rfl (x := .ref TI) rfl ?_)
  refine wpAny_bind (wpAny_seqItems hTI rfl ?_)
  show wpAny _ _ (Builtin.SmallTypes.ownedTupleIsFree (.ref z) >>= _) _ _ _
  refine wpAny_bind (wpAny_tupleHeld_zip hz hT fun h₁ hz₁ hs₁ => ?_)
  simp only [Bool.false_eq_true, if_false]
  refine wpAny_bind ?_
  rw [← Array.forIn_toList]
  simp only [List.forIn_cons, List.forIn_nil]
  refine wpAny_bind (wpAny_bind (wpAny_holding ?_))
  show wpAny _ _ (Builtin.SmallTypes.nextOf (.ref i1) >>= _) _ _ _
  refine wpAny_bind (nextOf_tuple_item (s := { s with heap := h₁ }) (h1.extBut hs₁.extBut D.i1z) (hl1.extBut hs₁.extBut D.l1z) hx fun h₂ h1₂ hs₂ => wpAny_pure ?_)
  refine wpAny_pure ?_
  refine wpAny_bind (wpAny_bind (wpAny_holding ?_))
  show wpAny _ _ (Builtin.SmallTypes.nextOf (.ref i2) >>= _) _ _ _
  refine wpAny_bind (nextOf_tuple_item (s := { s with heap := h₂ }) ((h2.extBut hs₁.extBut D.i2z).extBut hs₂.extBut D.i12.symm) ((hl2.extBut hs₁.extBut D.l2z).extBut hs₂.extBut D.l2i1) hy fun h₃ h2₃ hs₃ => wpAny_pure ?_)
  refine wpAny_pure (wpAny_pure ?_)
  show wpAny _ _ (newTuple [x, y] >>= _) _ _ _
  refine wpAny_bind (wpAny_newTuple ?_)
  have hsz : h₃.objs.size = s.heap.objs.size := by rw [hs₃.1, hs₂.1, hs₁.1]
  have hz₃ : IsZipHeld h₃ z TI TO T true := hs₃.extBut _ _ D.i2z.symm (hs₂.extBut _ _ D.i1z.symm hz₁)
  have hk : ∀ c o, c ≠ z → c ≠ i1 → c ≠ i2 → s.heap.get? c = some o → h₃.get? c = some o := fun c o c1 c2 c3 e => hs₃.extBut _ _ c3 (hs₂.extBut _ _ c2 (hs₁.extBut _ _ c1 e))
  have h1₃ : h₃.IsTupleIter i1 l1 (k1 + 1) := h1₂.extBut hs₃.extBut D.i12
  refine wpAny_pure ⟨_, rfl, ?_⟩
  show Q (.ref h₃.objs.size) _
  have hp : IsPair (h₃.push { cls := .type "tuple", data := .seq #[x, y] }) h₃.objs.size x y := Heap.get?_push_size _ rfl
  have hz4 : (h₃.push { cls := .type "tuple", data := .seq #[x, y] }).objs.size = h₃.objs.size + 1 := Heap.size_push ..
  rw [hsz] at hp hz4 ⊢
  exact hQ _ (Heap.get?_push_of_some _ hz₃) (h1₃.at fun o e => Heap.get?_push_of_some _ e) (h2₃.at fun o e => Heap.get?_push_of_some _ e) hp hz4 fun c o c1 c2 c3 e => Heap.get?_push_of_some _ (hk c o c1 c2 c3 e)
theorem zipT_end_held {z TI TO T i1 i2 l1 l2 : Addr} {f : Bool} {oT : Obj} {k1 k2 : Nat} {xs ys : Array Value} {Q : Fin → Shared → Prop} (hh : A.handled = none) (D : ZipApart z TI TO i1 i2 l1 l2)
    (hz : IsZipHeld s.heap z TI TO T f) (hT : s.heap.get? T = some oT) (hTI : IsPair s.heap TI (.ref i1) (.ref i2))
    (h1 : s.heap.IsTupleIter i1 l1 k1) (h2 : s.heap.IsTupleIter i2 l2 k2) (hl1 : s.heap.IsTuple l1 xs) (hl2 : s.heap.IsTuple l2 ys) (hx : xs[k1]? = none)
    (hE : ∀ h' e, (∀ c o, c ≠ z → c ≠ i1 → c ≠ i2 → s.heap.get? c = some o → h'.get? c = some o) → (∃ o, h'.get? e = some o ∧ o.cls = .type "StopIteration") → E (.ref e) { s with heap := h' }) :
    wpAny (model prog w) A (Builtin.«zip.__next__» ⟨[.ref z], []⟩) Q E s := by
  show wpAny _ _ (field (.ref z) 2 >>= _) _ _ _
  refine wpAny_bind (wpAny_field hz rfl (x := .bool false) rfl ?_)
  show wpAny _ _ (field (.ref z) 3 >>= _) _ _ _
  refine wpAny_bind (wpAny_field hz rfl (x := .ref TI) rfl ?_)
  refine wpAny_bind (wpAny_seqItems hTI rfl ?_)
  show wpAny _ _ (Builtin.SmallTypes.ownedTupleIsFree (.ref z) >>= _) _ _ _
  refine wpAny_bind (wpAny_tupleHeld_zip hz hT fun h₁ hz₁ hs₁ => ?_)
  simp only [Bool.false_eq_true, if_false]
  refine wpAny_bind ?_
  rw [← Array.forIn_toList]
  simp only [List.forIn_cons, List.forIn_nil]
  refine wpAny_bind (wpAny_bind (wpAny_holding ?_))
  show wpAny _ _ (Builtin.SmallTypes.nextOf (.ref i1) >>= _) _ _ _
  refine wpAny_bind (nextOf_tuple_end (s := { s with heap := h₁ }) hh (h1.extBut hs₁.extBut D.i1z) (hl1.extBut hs₁.extBut D.l1z) hx fun h₂ e hs₂ he => ?_)
  exact hE h₂ e (fun c o c1 c2 _ x => hs₂ _ _ c2 (hs₁.extBut _ _ c1 x)) he
/-- a zip of two tuples between two turns of list(..) -/
structure ZSt (h : Heap) (z TI TO i1 i2 l1 l2 S lo : Addr) (xs ys : Array Value) (i : Nat) : Prop where
  zip : (i = 0 ∧ IsZip h z TI TO .none ∧ ∃ a b, IsPair h TO a b) ∨ ∃ T f oT, IsZipHeld h z TI TO T f ∧ h.get? T = some oT ∧ lo ≤ T
  ti : IsPair h TI (.ref i1) (.ref i2)
  h1 : h.IsTupleIter i1 l1 i
  h2 : h.IsTupleIter i2 l2 i
  l1' : h.IsTuple l1 xs
  l2' : h.IsTuple l2 ys
/-- the addresses that are there ahead of the pairs -/
structure ZLo (z TI TO i1 i2 l1 l2 S lo : Addr) : Prop where
  z' : z < lo
  TI' : TI < lo
  TO' : TO < lo
  i1' : i1 < lo
  i2' : i2 < lo
  l1' : l1 < lo
  l2' : l2 < lo
  S' : S < lo
  Sz : S ≠ z
  STI : S ≠ TI
  STO : S ≠ TO
  Si1 : S ≠ i1
  Si2 : S ≠ i2
  Sl1 : S ≠ l1
  Sl2 : S ≠ l2
variable {z TI TO i1 i2 l1 l2 S lo : Addr} {xs ys : Array Value}
theorem ZSt.upd {h h' : Heap} {i : Nat} (L : ZLo z TI TO i1 i2 l1 l2 S lo) (st : ZSt h z TI TO i1 i2 l1 l2 S lo xs ys i) (k : ∀ b o, b ≠ S → h.get? b = some o → h'.get? b = some o) : ZSt h' z TI TO i1 i2 l1 l2 S lo xs ys i where
  zip := by
    rcases st.zip with ⟨e, hz, a, b, ht⟩ | ⟨T, f, oT, hz, hT, hl⟩
    · exact .inl ⟨e, k _ _ L.Sz.symm hz, a, b, k _ _ L.STO.symm ht⟩
    · exact .inr ⟨T, f, oT, k _ _ L.Sz.symm hz, k _ _ (fun e => by have := L.S'; rw [e] at hl; exact absurd hl (Nat.not_le.mpr this)) hT, hl⟩
  ti := k _ _ L.STI.symm st.ti
  h1 := st.h1.at fun o e => k _ _ L.Si1.symm e
  h2 := st.h2.at fun o e => k _ _ L.Si2.symm e
  l1' := by
    obtain ⟨o, ho, r⟩ := st.l1'
    exact ⟨o, k _ _ L.Sl1.symm ho, r⟩
  l2' := by
    obtain ⟨o, ho, r⟩ := st.l2'
    exact ⟨o, k _ _ L.Sl2.symm ho, r⟩
theorem tup_keep {h h' : Heap} {l : Addr} {its : Array Value} (t : h.IsTuple l its) (k : ∀ o, h.get? l = some o → h'.get? l = some o) : h'.IsTuple l its := by
  obtain ⟨o, ho, r⟩ := t
  exact ⟨o, k o ho, r⟩
theorem zst_item {i : Nat} {x y : Value} {Q : Option Value → Shared → Prop} (D : ZipApart z TI TO i1 i2 l1 l2) (L : ZLo z TI TO i1 i2 l1 l2 S lo) (hlo : lo ≤ s.heap.objs.size) (st : ZSt s.heap z TI TO i1 i2 l1 l2 S lo xs ys i) (hx : xs[i]? = some x) (hy : ys[i]? = some y)
    (hQ : ∀ h', ZSt h' z TI TO i1 i2 l1 l2 S lo xs ys (i + 1) → IsPair h' s.heap.objs.size x y → h'.objs.size = s.heap.objs.size + 1 →
      (∀ c o, c ≠ z → c ≠ TO → c ≠ i1 → c ≠ i2 → s.heap.get? c = some o → h'.get? c = some o) → Q (some (.ref s.heap.objs.size)) { s with heap := h' }) :
    wpAny (model prog w) A (pyNext (.ref z)) Q E s := by
  rcases st.zip with ⟨e, hz, a, b, ht⟩ | ⟨T, f, oT, hz, hT, hl⟩
  · refine pyNext_zipT_item D hz st.ti ht st.h1 st.h2 st.l1' st.l2' hx hy fun h' z' to' a1 a2 pr sz k => hQ h' ⟨.inr ⟨s.heap.objs.size, false, _, z', pr, hlo⟩, ?_, a1, a2, ?_, ?_⟩ pr sz k
    · exact k _ _ D.TIz D.TITO D.TIi1 D.TIi2 st.ti
    · exact tup_keep st.l1' fun o q => k _ _ D.l1z D.l1TO D.l1i1 D.l1i2 q
    · exact tup_keep st.l2' fun o q => k _ _ D.l2z D.l2TO D.l2i1 D.l2i2 q
  · have hTy : s.TypeIs (.ref z) "zip" := ⟨_, hz, rfl⟩
    unfold pyNext
    refine wpAny_bind (wpAny_attempt (wpAny_callSpecial?_slot (name := Str.ofString "__next__") hTy F.slot_zip_next
      (wpAny_call_entry F.slot_zip_next hTy F.entry_zip_next
        (zipT_item_held D hz hT st.ti st.h1 st.h2 st.l1' st.l2' hx hy fun h' z' a1 a2 pr sz k => wpAny_pure (hQ h' ⟨.inr ⟨T, true, oT, z', ?_, hl⟩, ?_, a1, a2, ?_, ?_⟩ pr sz fun c o c1 _ c3 c4 q => k c o c1 c3 c4 q)) (F.args_zip_next_1 _))))
    · exact k _ _ (fun e => by rw [e] at hl; exact absurd hl (Nat.not_le.mpr L.z')) (fun e => by rw [e] at hl; exact absurd hl (Nat.not_le.mpr L.i1')) (fun e => by rw [e] at hl; exact absurd hl (Nat.not_le.mpr L.i2')) hT
    · exact k _ _ D.TIz D.TIi1 D.TIi2 st.ti
    · exact tup_keep st.l1' fun o q => k _ _ D.l1z D.l1i1 D.l1i2 q
    · exact tup_keep st.l2' fun o q => k _ _ D.l2z D.l2i1 D.l2i2 q
theorem zst_done {i : Nat} {Q : Option Value → Shared → Prop} (hh : A.handled = none) (D : ZipApart z TI TO i1 i2 l1 l2) (st : ZSt s.heap z TI TO i1 i2 l1 l2 S lo xs ys i) (hx : xs[i]? = none)
    (hQ : ∀ h', (∀ c o, c ≠ z → c ≠ TO → c ≠ i1 → c ≠ i2 → s.heap.get? c = some o → h'.get? c = some o) → Q none { s with heap := h' }) : wpAny (model prog w) A (pyNext (.ref z)) Q E s := by
  rcases st.zip with ⟨e, hz, a, b, ht⟩ | ⟨T, f, oT, hz, hT, hl⟩
  · exact pyNext_zipT_end hh D hz st.ti ht st.h1 st.h2 st.l1' st.l2' (.inl hx) hQ
  · have hTy : s.TypeIs (.ref z) "zip" := ⟨_, hz, rfl⟩
    unfold pyNext
    refine wpAny_bind (wpAny_attempt (wpAny_callSpecial?_slot (name := Str.ofString "__next__") hTy F.slot_zip_next
      (wpAny_call_entry F.slot_zip_next hTy F.entry_zip_next (zipT_end_held hh D hz hT st.ti st.h1 st.h2 st.l1' st.l2' hx fun h' e hk he => ?_) (F.args_zip_next_1 _))))
    obtain ⟨o, ho, hc⟩ := he
    refine wpAny_bind (wpAny_isInstance (T := "StopIteration") (b := true) ⟨o, ho, hc⟩ isSubtype_stop ?_)
    exact wpAny_pure (hQ _ fun c o c1 _ c3 c4 q => hk c o c1 c3 c4 q)
/-- the pairs made so far -/
structure ZG (xs ys : Array Value) (lo : Addr) (h : Heap) (as : List Addr) : Prop where
  rise : as.Pairwise (· < ·)
  above : ∀ a ∈ as, lo ≤ a
  pairs : ∀ (j : Nat) (a : Addr), as[j]? = some a → ∃ x y, xs[j]? = some x ∧ ys[j]? = some y ∧ IsPair h a x y
theorem ZG.there {h : Heap} {as : List Addr} (g : ZG xs ys lo h as) {a : Addr} (ha : a ∈ as) : a < h.objs.size := by
  obtain ⟨j, hj⟩ := List.mem_iff_getElem?.mp ha
  obtain ⟨_, _, _, _, e⟩ := g.pairs j a hj
  exact Heap.lt_size e
theorem zl_loop {R : Result → Shared → Prop} (hh : A.handled = none) (D : ZipApart z TI TO i1 i2 l1 l2) (L : ZLo z TI TO i1 i2 l1 l2 S lo) (hl : xs.size = ys.size) (hn : xs.size ≤ sizeLine) (res : Value) {h₁ : Heap}
    (hR : ∀ h' tk acc c as, (∀ b o, b ≠ S → b ≠ z → b ≠ TO → b ≠ i1 → b ≠ i2 → h₁.get? b = some o → h'.get? b = some o) → h'.get? S = some { cls := .type "list", dict := none, data := .seq acc c, slots := #[] } → as.length = xs.size → ZG xs ys lo h' as →
      acc.toList = as.map Value.ref → R (.ok (.ret res)) { s with heap := h', toks := tk }) :
    ∀ (k i : Nat) (h : Heap) (tk c : Nat) (acc : Array Value) (as : List Addr), xs.size - i = k → i ≤ xs.size → ZSt h z TI TO i1 i2 l1 l2 S lo xs ys i → (∀ b o, b ≠ S → b ≠ z → b ≠ TO → b ≠ i1 → b ≠ i2 → h₁.get? b = some o → h.get? b = some o) →
      h.get? S = some { cls := .type "list", dict := none, data := .seq acc c, slots := #[] } → acc.toList = as.map Value.ref → as.length = i → ZG xs ys lo h as → lo ≤ h.objs.size →
      codeAny (model prog w) A (.builtin "list.extend.loop" ⟨[.ref S, .ref z, res], []⟩) R { s with heap := h, toks := tk } := by
  intro k
  induction k with
  | zero =>
    intro i h tk c acc as hk hi st hkeep hS hacc hal hG hlo
    have hin : i = xs.size := by omega
    refine codeAny_builtin PySem.F.entry_extend_loop ?_
    rw [Around.under_plainId PySem.F.plain_extend_loop _]
    show wpAny _ A.in1 (pyNext (.ref z) >>= _) _ _ _
    refine wpAny_bind (zst_done (s := { s with heap := h, toks := tk }) (A := A.in1) hh D st (Array.getElem?_eq_none (by omega)) fun h' he => ?_)
    refine wpAny_pure (hR h' tk acc c as (fun b o h1 h2 h3 h4 h5 e => he b o h2 h3 h4 h5 (hkeep b o h1 h2 h3 h4 h5 e)) (he S _ L.Sz L.STO L.Si1 L.Si2 hS) (by omega) ⟨hG.rise, hG.above, fun j a hj => ?_⟩ hacc)
    obtain ⟨x, y, e1, e2, e3⟩ := hG.pairs j a hj
    have ha := hG.above a (List.mem_of_getElem? hj)
    exact ⟨x, y, e1, e2, he a _ (Nat.ne_of_gt (Nat.lt_of_lt_of_le L.z' ha)) (Nat.ne_of_gt (Nat.lt_of_lt_of_le L.TO' ha)) (Nat.ne_of_gt (Nat.lt_of_lt_of_le L.i1' ha)) (Nat.ne_of_gt (Nat.lt_of_lt_of_le L.i2' ha)) e3⟩
  | succ k ih =>
    intro i h tk c acc as hk hi st hkeep hS hacc hal hG hlo
    have hlt : i < xs.size := by omega
    have hx : xs[i]? = some xs[i] := Array.getElem?_eq_getElem hlt
    have hlt2 : i < ys.size := by omega
    have hy : ys[i]? = some ys[i] := Array.getElem?_eq_getElem hlt2
    have hsz : acc.size = i := by rw [← Array.length_toList, hacc, List.length_map, hal]
    refine codeAny_builtin PySem.F.entry_extend_loop ?_
    rw [Around.under_plainId PySem.F.plain_extend_loop _]
    show wpAny _ A.in1 (pyNext (.ref z) >>= _) _ _ _
    refine wpAny_bind (zst_item (s := { s with heap := h, toks := tk }) (A := A.in1) D L hlo st hx hy fun h' st' ht hz hkp => ?_)
    dsimp only at ht hz hkp ⊢
    have hS' := hkp S _ L.Sz L.STO L.Si1 L.Si2 hS
    have up : ∀ b o, b ≠ S → h'.get? b = some o → (h'.update S (Obj.mapSeq (·.push (Value.ref h.objs.size)))).get? b = some o := fun b o hb e => (Heap.get?_update_other _ _ (Ne.symm hb)).trans e
    have hSl : S < h.objs.size := Heap.lt_size hS
    show wpAny _ A.in1 (updateSeq S (·.push (Value.ref h.objs.size)) >>= _) _ _ _
    refine wpAny_bind ?_
    refine wpAny_updateSeq hS' rfl (wpAny_pure ⟨plainId_quiet PySem.F.plain_extend_loop _, ih (i + 1) _ tk _ (acc.push (Value.ref h.objs.size)) (as ++ [h.objs.size]) (by omega) hlt (st'.upd L up)
      (fun b o h1 h2 h3 h4 h5 e => up b o h1 (hkp b o h2 h3 h4 h5 (hkeep b o h1 h2 h3 h4 h5 e))) (Heap.get?_update_self _ hS' rfl) (by rw [Array.toList_push, hacc, List.map_append]; rfl) (by rw [List.length_append, hal]; rfl) ⟨?_, ?_, ?_⟩ ?_⟩) (by rw [hsz]; omega) (by show (acc.push (Value.ref h.objs.size)).size ≤ sizeLine + 1; rw [Array.size_push, hsz]; omega)
    · refine List.pairwise_append.mpr ⟨hG.rise, List.pairwise_singleton _ _, fun a ha b hb => ?_⟩
      rw [List.mem_singleton.mp hb]
      exact hG.there ha
    · intro a ha
      rcases List.mem_append.mp ha with ha | ha
      · exact hG.above a ha
      · rw [List.mem_singleton.mp ha]; exact hlo
    · intro j b hj
      rcases Nat.lt_trichotomy j as.length with h1 | h1 | h1
      · rw [List.getElem?_append_left h1] at hj
        obtain ⟨x', y', e1, e2, e3⟩ := hG.pairs j b hj
        have hb := hG.above b (List.mem_of_getElem? hj)
        exact ⟨x', y', e1, e2, up b _ (Nat.ne_of_gt (Nat.lt_of_lt_of_le L.S' hb)) (hkp b _ (Nat.ne_of_gt (Nat.lt_of_lt_of_le L.z' hb)) (Nat.ne_of_gt (Nat.lt_of_lt_of_le L.TO' hb)) (Nat.ne_of_gt (Nat.lt_of_lt_of_le L.i1' hb)) (Nat.ne_of_gt (Nat.lt_of_lt_of_le L.i2' hb)) e3)⟩
      · subst h1
        have hb : h.objs.size = b := by simpa using hj
        subst hb
        exact ⟨xs[i], ys[i], by rw [hal]; exact hx, by rw [hal]; exact hy, up _ _ (Nat.ne_of_gt hSl) ht⟩
      · have hnone : (as ++ [h.objs.size])[j]? = none := List.getElem?_eq_none (by rw [List.length_append, List.length_singleton]; omega)
        rw [hnone] at hj; cases hj
    · have e : (h'.update S (Obj.mapSeq (·.push (Value.ref h.objs.size)))).get? h.objs.size = _ := up _ _ (Nat.ne_of_gt hSl) ht
      exact Nat.le_trans hlo (Nat.le_of_lt (Heap.lt_size e))
end
end LmR

set_option Elab.async false
set_option linter.all false
set_option maxRecDepth 100000
set_option maxHeartbeats 2000000
namespace LmR
open PySem PySem.Spec PyProof.Rows L2 RZ
section
variable {prog : Program} {w : World} {A : Around} {E : Value → Shared → Prop} {s : Shared}
variable {z TI TO i1 i2 l1 l2 S lo : Addr} {xs ys : Array Value}
theorem zl_extend {R : Result → Shared → Prop} (hh : A.handled = none) (D : ZipApart z TI TO i1 i2 l1 l2) (L : ZLo z TI TO i1 i2 l1 l2 S lo) (hl : xs.size = ys.size) (hn : xs.size ≤ sizeLine) (res : Value) (c₀ : Nat) (hlo : lo ≤ s.heap.objs.size)
    (st : ZSt s.heap z TI TO i1 i2 l1 l2 S lo xs ys 0) (hz : IsZip s.heap z TI TO .none) (hS : s.heap.get? S = some { cls := .type "list", data := .seq #[] c₀ })
    (hR : ∀ h' tk acc c as, (∀ b o, b ≠ S → b ≠ z → b ≠ TO → b ≠ i1 → b ≠ i2 → s.heap.get? b = some o → h'.get? b = some o) → h'.get? S = some { cls := .type "list", dict := none, data := .seq acc c, slots := #[] } → as.length = xs.size → ZG xs ys lo h' as →
      acc.toList = as.map Value.ref → R (.ok (.ret res)) { s with heap := h', toks := tk }) :
    wpAny (model prog w) A.in1 (Builtin.List.listExtendWith (.ref S) (.ref z) res)
      (fun fin s' => match fin with | .done f => R (.ok f) s' | .again c' => c'.quiet = true ∧ codeAny (model prog w) A c' R s') (fun e s' => R (.error e) s') s := by
  have hT : s.TypeIs (.ref z) "zip" := ⟨_, hz, rfl⟩
  unfold Builtin.List.listExtendWith
  refine wpAny_bind (wpAny_typeOf hT ?_)
  have h1 : Builtin.List.listSameRef (.ref S) (.ref z) = false := by simp [Builtin.List.listSameRef, L.Sz]
  have h2 : (Value.type "zip" == Value.type "list") = false := by decide
  have h3 : (Value.type "zip" == Value.type "tuple") = false := by decide
  simp only [h1, h2, h3, Bool.or_false, Bool.false_eq_true, if_false]
  refine wpAny_bind (wpAny_pyIter_zip hz ?_)
  refine wpAny_bind (wpAny_holding ?_)
  unfold Builtin.List.listLengthHint
  refine wpAny_bind (wpAny_specialOf hT zip_no_len ?_)
  show wpAny _ A.in1 (specialOf (Value.ref z) (Str.ofString "__length_hint__") >>= _) _ _ _
  refine wpAny_bind (wpAny_specialOf hT zip_no_hint ?_)
  refine wpAny_pure ?_
  show wpAny _ A.in1 (rule "list.extend.makes-room" >>= fun _ => Builtin.List.listTouch (.ref S) >>= fun _ =>
    again (.builtin "list.extend.loop" ⟨[.ref S, .ref z, res], []⟩)) _ _ _
  refine wpAny_bind (wpAny_rule ?_)
  refine wpAny_bind ?_
  show wpAny _ A.in1 (updateSeq S (·.push .none) >>= fun _ => updateSeq S (·.pop)) _ _ _
  refine wpAny_bind (wpAny_updateSeq hS rfl ?_)
  have hS₂ := Heap.get?_update_self (Obj.mapSeq (·.push Value.none)) hS rfl
  refine wpAny_updateSeq (hz := by seq_fits) hS₂ rfl ?_
  have hS₃ := Heap.get?_update_self (Obj.mapSeq (·.pop)) hS₂ rfl
  have oth : ∀ b o, b ≠ S → s.heap.get? b = some o → ((s.heap.update S (Obj.mapSeq (·.push Value.none))).update S (Obj.mapSeq (·.pop))).get? b = some o :=
    fun b o hb e => (Heap.get?_update_other _ _ (Ne.symm hb)).trans ((Heap.get?_update_other _ _ (Ne.symm hb)).trans e)
  refine wpAny_pure ⟨plainId_quiet PySem.F.plain_extend_loop _, zl_loop (s := s) (h₁ := s.heap) hh D L hl hn res hR xs.size 0 _ s.toks _ #[] [] (Nat.sub_zero _) (Nat.zero_le _) (st.upd L oth) (fun b o h1 _ _ _ _ e => oth b o h1 e) hS₃ rfl rfl ⟨List.Pairwise.nil, (fun _ ha => nomatch ha), (fun j a hj => by simp at hj)⟩ ?_⟩
  have zz := oth z _ L.Sz.symm hz
  have e1 : ((s.heap.update S (Obj.mapSeq (·.push Value.none))).update S (Obj.mapSeq (·.pop))).objs.size = s.heap.objs.size := by
    first
      | (rw [Heap.size_update, Heap.size_update])
      | (simp [Heap.update])
  rw [e1]
  exact hlo
theorem zl_init {R : Result → Shared → Prop} (hh : A.handled = none) (D : ZipApart z TI TO i1 i2 l1 l2) (L : ZLo z TI TO i1 i2 l1 l2 S lo) (hl : xs.size = ys.size) (hn : xs.size ≤ sizeLine) (hlo : lo ≤ s.heap.objs.size)
    (st : ZSt s.heap z TI TO i1 i2 l1 l2 S lo xs ys 0) (hz : IsZip s.heap z TI TO .none) (hS : s.heap.get? S = some { cls := .type "list", data := .seq #[] })
    (hR : ∀ h' tk acc c as, (∀ b o, b ≠ S → b ≠ z → b ≠ TO → b ≠ i1 → b ≠ i2 → s.heap.get? b = some o → h'.get? b = some o) → h'.get? S = some { cls := .type "list", dict := none, data := .seq acc c, slots := #[] } → as.length = xs.size → ZG xs ys lo h' as →
      acc.toList = as.map Value.ref → R (.ok (.ret .none)) { s with heap := h', toks := tk }) :
    wpAny (model prog w) A.in1 (Builtin.«list.__init__» ⟨[.ref S, .ref z], []⟩)
      (fun fin s' => match fin with | .done f => R (.ok f) s' | .again c' => c'.quiet = true ∧ codeAny (model prog w) A c' R s') (fun e s' => R (.error e) s') s := by
  show wpAny _ _ (do let old ← Builtin.List.listItems (.ref S); Builtin.List.listUpdate (.ref S) (fun _ => #[]); letGo old.toList.reverse; Builtin.List.listExtendWith (.ref S) (.ref z) .none) _ _ s
  refine wpAny_bind ?_
  unfold Builtin.List.listItems
  refine wpAny_bind (wpAny_seqItems hS rfl (wpAny_pure ?_))
  show wpAny _ _ (updateSeq S (fun _ => #[]) >>= fun _ => letGo (#[] : Array Value).toList.reverse >>= fun _ => Builtin.List.listExtendWith (.ref S) (.ref z) .none) _ _ s
  refine wpAny_bind (wpAny_updateSeq hS rfl ?_)
  have hS₂ := Heap.get?_update_self (Obj.mapSeq (fun _ => (#[] : Array Value))) hS rfl
  have oth : ∀ b o, b ≠ S → s.heap.get? b = some o → (s.heap.update S (Obj.mapSeq (fun _ => (#[] : Array Value)))).get? b = some o :=
    fun b o hb e => (Heap.get?_update_other _ _ (Ne.symm hb)).trans e
  refine wpAny_bind (wpAny_letGo ?_)
  have e1 : (s.heap.update S (Obj.mapSeq (fun _ => (#[] : Array Value)))).objs.size = s.heap.objs.size := by
    first
      | (rw [Heap.size_update])
      | (simp [Heap.update])
  refine zl_extend hh D L hl hn .none _ (by show lo ≤ (s.heap.update S _).objs.size; rw [e1]; exact hlo) (st.upd L oth) (oth z _ L.Sz.symm hz) hS₂ (fun h' tk acc c as hk hS' hl' hG hacc => ?_)
  exact hR h' tk acc c as (fun b o h1 h2 h3 h4 h5 e => hk b o h1 h2 h3 h4 h5 (oth b o h1 e)) hS' hl' hG hacc
theorem zl_call {Q : Value → Shared → Prop} (hh : A.handled = none) (D : ZipApart z TI TO i1 i2 l1 l2) (hl : xs.size = ys.size) (hn : xs.size ≤ sizeLine)
    (hz : IsZip s.heap z TI TO .none) (hTI : IsPair s.heap TI (.ref i1) (.ref i2)) (hTO : ∃ a b, IsPair s.heap TO a b) (h1 : s.heap.IsTupleIter i1 l1 0) (h2 : s.heap.IsTupleIter i2 l2 0) (hl1 : s.heap.IsTuple l1 xs) (hl2 : s.heap.IsTuple l2 ys)
    (hQ : ∀ h' tk acc c as, (∀ b o, b ≠ z → b ≠ TO → b ≠ i1 → b ≠ i2 → s.heap.get? b = some o → h'.get? b = some o) → h'.get? s.heap.objs.size = some { cls := .type "list", dict := none, data := .seq acc c, slots := #[] } → as.length = xs.size → ZG xs ys (s.heap.objs.size + 1) h' as →
      acc.toList = as.map Value.ref → Q (.ref s.heap.objs.size) { s with heap := h', toks := tk }) :
    wpAny (model prog w) A (call (.type "list") [.ref z]) Q E s := by
  refine callType_codes (Q₁ := fun obj s₁ => obj = .ref s.heap.objs.size ∧ s₁ = { s with heap := s.heap.push { cls := .type "list", data := .seq #[] } }) PySem.F.called_list (PySem.F.typeCall_list_1 _) PySem.F.entry_list_init
    (code_list_new _ ⟨rfl, rfl⟩) fun obj s₁ h₁ => ?_
  obtain ⟨rfl, rfl⟩ := h₁
  have hS : (s.heap.push { cls := .type "list", data := .seq #[] }).get? s.heap.objs.size = some { cls := .type "list", data := .seq #[] } := Heap.get?_push_size _ rfl
  have kp : ∀ b o, s.heap.get? b = some o → (s.heap.push { cls := .type "list", data := .seq #[] }).get? b = some o := fun b o e => Heap.get?_push_of_some _ e
  have lz := Heap.lt_size hz
  have lTI := Heap.lt_size hTI
  obtain ⟨ta, tb, hTO'⟩ := hTO
  have lTO := Heap.lt_size hTO'
  have li1 : i1 < s.heap.objs.size := let ⟨_, e, _⟩ := h1; Heap.lt_size e
  have li2 : i2 < s.heap.objs.size := let ⟨_, e, _⟩ := h2; Heap.lt_size e
  have ll1 : l1 < s.heap.objs.size := let ⟨_, e, _⟩ := hl1; Heap.lt_size e
  have ll2 : l2 < s.heap.objs.size := let ⟨_, e, _⟩ := hl2; Heap.lt_size e
  have L : ZLo z TI TO i1 i2 l1 l2 s.heap.objs.size (s.heap.objs.size + 1) := ⟨Nat.lt_succ_of_lt lz, Nat.lt_succ_of_lt lTI, Nat.lt_succ_of_lt lTO, Nat.lt_succ_of_lt li1, Nat.lt_succ_of_lt li2, Nat.lt_succ_of_lt ll1, Nat.lt_succ_of_lt ll2, Nat.lt_succ_self _,
    Nat.ne_of_gt lz, Nat.ne_of_gt lTI, Nat.ne_of_gt lTO, Nat.ne_of_gt li1, Nat.ne_of_gt li2, Nat.ne_of_gt ll1, Nat.ne_of_gt ll2⟩
  have st : ZSt (s.heap.push { cls := .type "list", data := .seq #[] }) z TI TO i1 i2 l1 l2 s.heap.objs.size (s.heap.objs.size + 1) xs ys 0 :=
    ⟨.inl ⟨rfl, kp _ _ hz, ta, tb, kp _ _ hTO'⟩, kp _ _ hTI, h1.at fun o e => kp _ _ e, h2.at fun o e => kp _ _ e, tup_keep hl1 fun o e => kp _ _ e, tup_keep hl2 fun o e => kp _ _ e⟩
  refine ⟨⟨_, hS, rfl⟩, PySem.F.args_list_init_2 _ _, zl_init (A := A.in1) hh D L hl hn (by show s.heap.objs.size + 1 ≤ (s.heap.push _).objs.size; rw [Heap.size_push]; exact Nat.le_refl _) st (kp _ _ hz) hS (fun h' tk acc c as hk hS' hl' hG hacc => ?_)⟩
  exact ⟨rfl, hQ h' tk acc c as (fun b o c1 c2 c3 c4 e => hk b o (Nat.ne_of_lt (Heap.lt_size e)) c1 c2 c3 c4 (kp b o e)) hS' hl' hG hacc⟩
end
/-! ### the rule -/
/-- pairs tracked at their addresses -/
def putZ : Hp → List Addr → List (V × V) → Hp
  | H, a :: as, p :: ps => putZ (upd H a (.tup [p.1, p.2])) as ps
  | H, _, _ => H
theorem putZ_off {b : Addr} : ∀ (as : List Addr) (ps : List (V × V)) (H : Hp), b ∉ as → putZ H as ps b = H b
  | [], _, _, _ => rfl
  | _ :: _, [], _, _ => rfl
  | a :: as, p :: ps, H, h => by
    show putZ (upd H a (.tup [p.1, p.2])) as ps b = H b
    rw [putZ_off as ps _ (fun z => h (List.mem_cons_of_mem _ z)), upd_ne (fun z => h (by rw [z]; exact List.mem_cons_self))]
theorem putZ_at : ∀ (as : List Addr) (ps : List (V × V)) (H : Hp) (j : Nat) (a : Addr) (p : V × V), as.Nodup → as[j]? = some a → ps[j]? = some p → putZ H as ps a = some (.tup [p.1, p.2])
  | [], _, _, j, _, _, _, h, _ => by simp at h
  | _ :: _, [], _, j, _, _, _, _, h => by simp at h
  | a :: as, p :: ps, H, 0, b, q, nd, h1, h2 => by
    have e1 : a = b := Option.some.inj h1
    have e2 : p = q := Option.some.inj h2
    subst e1 e2
    show putZ (upd H a (.tup [p.1, p.2])) as ps a = some (.tup [p.1, p.2])
    rw [putZ_off as ps _ (List.nodup_cons.mp nd).1, upd_same]
  | a :: as, p :: ps, H, j + 1, b, q, nd, h1, h2 => putZ_at as ps _ j b q (List.nodup_cons.mp nd).2 h1 h2
/-- list(zip(t, u)) of two tuples of one length -/
def tListZip (K : PySem.W.Frag) (ta : TA) : TE := fun σ H Q => ta σ H fun vs H1 => ∃ (a b : Addr) (xs ys : List V), vs = [.ref a, .ref b] ∧ SqT K H1 a xs ∧ SqT K H1 b ys ∧ xs.length = ys.length ∧
  ∀ (H' : Hp) (p : Addr) (ts : List Addr), Same H1 H' → H1 p = none → (∀ t ∈ ts, H1 t = none) → H' p = some (.lst (ts.map V.ref)) → ts.length = xs.length →
    (∀ (j : Nat) (t : Addr), ts[j]? = some t → ∃ x y, xs[j]? = some x ∧ ys[j]? = some y ∧ H' t = some (.tup [x, y])) → Q (.ref p) H'
section
variable {X : Cx}
theorem pe_listZip {e e2 : Expr} {ta : TA} {p p2 pos pos2 : Pos} (hc : X.calm = true) (hgl : Gl X "list") (hml : X.mg "list" = none) (hgz : Gl X "zip") (hmz : X.mg "zip" = none) (ha : PA X [e, e2] ta)
    (hs : starEach [e, e2] X.env = (false, eval e X.env) :: starEach [e2] X.env := by rfl) (hpl : (backTo pos2 (starEach [e2] X.env)).any (·.1) = false := by rfl)
    (hs2 : starEach [.Call (.Name "zip" p2) [e, e2] [] pos2] X.env = (false, eval (.Call (.Name "zip" p2) [e, e2] [] pos2) X.env) :: starEach [] X.env := by rfl) :
    PE X (.Call (.Name "list" p) [.Call (.Name "zip" p2) [e, e2] [] pos2] [] pos) (tListZip X.K ta) := by
  refine ⟨fun pins s σ H Q I h => ?_⟩
  refine wpAny_Call_Name_kw (ld_blt I hgl hml PyProof.Rows.boot_list ?_)
  refine PyProof.Rows.callWith_type1 ?_ hs2 rfl
  rw [hs2]
  show wpAny _ _ (spliced ((false, eval (.Call (.Name "zip" p2) [e, e2] [] pos2) X.env) :: backTo pos (starEach [] X.env))) _ _ s
  refine Calls.spliced_cons ?_
  refine Call_ (ld_blt I hgz hmz PyProof.Rows.boot_zip (PyProof.Rows.callWith_type1 (thn (ha.run pos2 pins s σ H _ I h) fun us s1 ⟨vs, H1, I1, r1, q1⟩ => ?_) hs hpl))
  obtain ⟨a, b, xs, ys, ex, hqx, hqy, hxy, q⟩ := q1
  subst ex
  cases r1 with
  | cons r rr =>
    cases rr with
    | cons r' rr =>
      cases rr
      cases r
      cases r'
      obtain ⟨its, rv, p1, hz1⟩ := I1.tuple hqx
      obtain ⟨its2, rv2, p2', _⟩ := I1.tuple hqy
      obtain ⟨o1, ho1, _⟩ := id p1
      obtain ⟨o2, ho2, _⟩ := id p2'
      have e1 := rv.length
      have e2 := rv2.length
      refine call_zipT (show s1.heap.IsTuple a its.toArray from p1) (show s1.heap.IsTuple b its2.toArray from p2') fun h' hz hTI hTO h1 h2 hsz hk => ?_
      refine Calls.spliced_nil ?_
      have D := PySem.W.ktu_apart s1.heap.objs.size a b (Heap.lt_size ho1) (Heap.lt_size ho2)
      refine zl_call (s := { s1 with heap := h' }) (xs := its.toArray) (ys := its2.toArray) (I1.ok.hd hc) D (by rw [List.size_toArray, List.size_toArray]; omega) (by rw [List.size_toArray]; omega) hz hTI ⟨_, _, hTO⟩ h1 h2 (tup_keep p1 fun o q => hk _ _ q) (tup_keep p2' fun o q => hk _ _ q) fun h2' tk acc c as hkk hS hl hG hacc => ?_
      have lo : ∀ b o, s1.heap.get? b = some o → h2'.get? b = some o := fun b o q => by
        have lb := Heap.lt_size q
        exact hkk b o (fun z => by rw [z] at lb; exact absurd lb (Nat.not_lt.mpr (Nat.le_add_right _ _))) (fun z => by rw [z] at lb; exact absurd lb (Nat.not_lt.mpr (Nat.le_add_right _ _))) (fun z => by rw [z] at lb; exact absurd lb (Nat.lt_irrefl _)) (fun z => by rw [z] at lb; exact absurd lb (Nat.not_lt.mpr (Nat.le_add_right _ _))) (hk b o q)
      have hsz' : h'.objs.size = s1.heap.objs.size + 5 := hsz
      have hal : as.length = xs.length := by
        rw [hl, List.size_toArray]
        omega
      have nd : as.Nodup := List.Pairwise.imp (fun {a b} (h : a < b) => Nat.ne_of_lt h) hG.rise
      have big : ∀ t ∈ as, h'.objs.size < t := fun t ht => hG.above t ht
      have hSn : h'.objs.size ∉ as := fun z => Nat.lt_irrefl _ (big _ z)
      have new : ∀ t ∈ as, H1 t = none := fun t ht => I1.hok.fresh (by have := big t ht; rw [hsz'] at this; exact Nat.le_of_lt (Nat.lt_of_le_of_lt (Nat.le_add_right _ _) this))
      have newS : H1 h'.objs.size = none := I1.hok.fresh (by rw [hsz']; exact Nat.le_add_right _ _)
      have lk : ∀ b o, s1.heap.get? b = some o → b ∉ as ∧ b ≠ h'.objs.size := fun b o q => by
        have lb := Heap.lt_size q
        refine ⟨fun z => ?_, fun z => ?_⟩
        · have := big b z
          rw [hsz'] at this
          exact absurd lb (Nat.not_lt.mpr (Nat.le_trans (Nat.le_add_right _ 5) (Nat.le_of_lt this)))
        · rw [z, hsz'] at lb
          exact absurd lb (Nat.not_lt.mpr (Nat.le_add_right _ _))
      have off : ∀ b, b ∉ as → b ≠ h'.objs.size → putZ (upd H1 h'.objs.size (.lst (as.map V.ref))) as (xs.zip ys) b = H1 b := fun b h1 h2 => by rw [putZ_off as _ _ h1, upd_ne h2]
      have kp : ∀ b u, H1 b = some u → putZ (upd H1 h'.objs.size (.lst (as.map V.ref))) as (xs.zip ys) b = some u := fun b u e => by
        rw [off b (fun z => by rw [new b z] at e; cases e) (fun z => by rw [z, newS] at e; cases e)]
        exact e
      have eS : putZ (upd H1 h'.objs.size (.lst (as.map V.ref))) as (xs.zip ys) h'.objs.size = some (.lst (as.map V.ref)) := by rw [putZ_off as _ _ hSn, upd_same]
      have prs : ∀ (j : Nat) (t : Addr), as[j]? = some t → ∃ x y u1 u2, xs[j]? = some x ∧ ys[j]? = some y ∧ RelV x u1 ∧ RelV y u2 ∧ IsPair h2' t u1 u2 ∧ putZ (upd H1 h'.objs.size (.lst (as.map V.ref))) as (xs.zip ys) t = some (.tup [x, y]) := fun j t ht => by
        obtain ⟨u1, u2, f1, f2, f3⟩ := hG.pairs j t ht
        have hj : j < xs.length := by
          have := (List.getElem?_eq_some_iff.mp ht).1
          omega
        have hj2 : j < ys.length := by omega
        have g1 : xs[j]? = some xs[j] := List.getElem?_eq_getElem hj
        have g2 : ys[j]? = some ys[j] := List.getElem?_eq_getElem hj2
        obtain ⟨w1, k1, r1⟩ := rv.get g1
        obtain ⟨w2, k2, r2⟩ := rv2.get g2
        have m1 : u1 = w1 := by
          rw [List.getElem?_toArray, k1] at f1
          exact (Option.some.inj f1).symm
        have m2 : u2 = w2 := by
          rw [List.getElem?_toArray, k2] at f2
          exact (Option.some.inj f2).symm
        subst m1 m2
        refine ⟨xs[j], ys[j], u1, u2, g1, g2, r1, r2, f3, ?_⟩
        exact putZ_at as (xs.zip ys) _ j t (xs[j], ys[j]) nd ht (by rw [List.getElem?_zip_eq_some]; exact ⟨g1, g2⟩)
      refine ⟨.ref _, putZ (upd H1 h'.objs.size (.lst (as.map V.ref))) as (xs.zip ys), ?_, rfl, q _ _ as kp newS new eS hal fun j t ht => ?_⟩
      · have Ik : Inv X pins σ H1 { s1 with heap := h2', toks := tk } := I1.kept (t' := tk) lo
        refine I1.call' (ch := []) rfl ⟨fun b o q _ _ _ => lo b o q, fun b o q _ _ _ => ⟨o.slots, lo b o q⟩, fun b o q n _ => ?_, fun b o q _ => ⟨o, lo b o q⟩, fun b zs q => kp b _ q, fun b o u q => kp b _ q, fun b ps q => ⟨#[], by rw [kp b _ q]; simp⟩⟩ (fun b u q => ?_) I1.bare fun b z => by simp at z
        · obtain ⟨z1, z2⟩ := lk b o q
          rw [off b z1 z2]
          exact n
        · by_cases hb : b ∈ as
          · obtain ⟨j, hj⟩ := List.mem_iff_getElem?.mp hb
            obtain ⟨x, y, u1, u2, _, _, r1, r2, f3, e⟩ := prs j b hj
            rw [e] at q
            cases q
            exact ⟨by show 2 ≤ sizeLine; decide, [u1, u2], .cons r1 (.cons r2 .nil), ⟨_, f3, rfl, _, rfl⟩⟩
          · by_cases hb2 : b = h'.objs.size
            · rw [hb2] at q ⊢
              rw [eS] at q
              cases q
              refine ⟨by rw [List.length_map]; omega, acc.toList, c, by rw [hacc]; exact (let rec go : ∀ as : List Addr, Vals (as.map V.ref) (as.map Value.ref) | [] => .nil | _ :: as => .cons rfl (go as); go as), ?_⟩
              rw [Array.toArray_toList]
              exact hS
            · rw [off b hb hb2] at q
              exact (I1.hok b u q).stay (fun d v _ y => lo d v y) (fun d y => kp d _ y) fun d xs y => kp d _ y
      · obtain ⟨x, y, _, _, g1, g2, _, _, _, e⟩ := prs j t ht
        exact ⟨x, y, g1, g2, e⟩
end
end LmR

set_option Elab.async false
set_option linter.all false
set_option maxRecDepth 100000
set_option maxHeartbeats 2000000
namespace Lm
open PySem PySem.Spec PyProof.Rows L2 LmR
/-! ### defs of the text, callable -/
/-- the def st stands in the text under the name x -/
def DefAt (K : PySem.W.Frag) (mg : Str → Option Value) (x : Str) (st : Stmt) (ps : List Str) : Prop := ∃ f fd, Fun K x x st f fd ∧ Binds K fd ps [] ∧ mg x = some (.ref f)
/-- what stands under the name x keeps sp, by at most level k -/
def Cal (P : Program) (w : World) (K : PySem.W.Frag) (mg : Str → Option Value) (base : Heap) (k : Nat) (x : Str) (ps : List Str) (sp : Sp) : Prop :=
  ∃ f fd, FnOk P w K mg base CX0 k f fd ps sp ∧ mg x = some (.ref f) ∧ PySem.W.keepIn K (.ref f) = true ∧ Binds K fd ps []
section
variable {P : Program} {w : World} {K : PySem.W.Frag} {mg : Str → Option Value} {base : Heap}
theorem Cal.mono {j k : Nat} {x : Str} {ps : List Str} {sp : Sp} (c : Cal P w K mg base j x ps sp) (h : j ≤ k) : Cal P w K mg base k x ps sp := by
  obtain ⟨f, fd, F, g, kp, b⟩ := c
  exact ⟨f, fd, F.mono h, g, kp, b⟩
theorem Cal.weak {k : Nat} {x : Str} {ps : List Str} {sp sp' : Sp} (c : Cal P w K mg base k x ps sp) (h : ∀ vs H Q E, sp' vs H Q E → sp vs H Q E) : Cal P w K mg base k x ps sp' := by
  obtain ⟨f, fd, F, g, kp, b⟩ := c
  exact ⟨f, fd, ⟨fun vs H Q E z => F.len vs H Q E (h vs H Q E z), fun A outer s H args us vs Q E r e b v z => F.run A outer s H args us vs Q E r e b v (h vs H Q E z)⟩, g, kp, b⟩
theorem cal_of {x : Str} {st : Stmt} {N ps : List Str} {k : Nat} {sp : Sp} (D : DefAt K mg x st ps) (S : FnScope N ps (defScope st)) (len : ∀ vs H Q E, sp vs H Q E → vs.length = ps.length)
    (hbody : ∀ (f : Addr) (cdv : Value) (A : Around) (outer : List Env) (s : Shared) (H : Hp) (vs : List V) (Q : VK) (E : XK), Room k (A.deeper (envOfC x (defScope st) s.heap.objs.size f cdv)) → sp vs H Q E →
      ∃ t, PSs (cxOf CX0 P w K mg base N x (defScope st) f cdv A outer s H E).nox (defBody st) t ∧ t { nx := fun _ H' => Q .non H', rt := Q } (start N vs) H) : Cal P w K mg base (k + 1) x ps sp := by
  obtain ⟨f, fd, F, b, g⟩ := D
  exact ⟨f, fd, F.ok S len (hbody f), g, F.kp, b⟩
/-- nothing is asked: no call is allowed -/
theorem cal_no {x : Str} {st : Stmt} {ps : List Str} {sp : Sp} (D : DefAt K mg x st ps) (no : ∀ vs H Q E, ¬ sp vs H Q E) {k : Nat} : Cal P w K mg base k x ps sp := by
  obtain ⟨f, fd, F, b, g⟩ := D
  exact ⟨f, fd, ⟨fun vs H Q E h => absurd h (no vs H Q E), fun A outer s H args us vs Q E _ _ _ _ h => absurd h (no vs H Q E)⟩, g, F.kp, b⟩
end
/-- f(e, ..) -/
theorem pe_cal {X : Cx} {k : Nat} {x : Str} {ps : List Str} {sp : Sp} {e : Expr} {es : List Expr} {t : TA} {p pos : Pos} (C : Cal X.prog X.w X.K X.mg X.base k x ps sp) (hr : Room k X.A) (hg : Gl X x) (ha : PA X (e :: es) t)
    (hdb : (x == ("__debug__" : Str)) = false := by decide) (he : starEach (e :: es) X.env = (false, eval e X.env) :: starEach es X.env := by rfl) (hpl : (backTo pos (starEach es X.env)).any (·.1) = false := by rfl) :
    PE X (.Call (.Name x p) (e :: es) [] pos) (tCall sp [] (fun _ _ _ => False) t) := by
  obtain ⟨f, fd, F, g, kp, b⟩ := C
  exact pe_call F hr hg g kp b .nil pass0 ha hdb he hpl
/-- the built-ins that the text names and no one has rebound -/
structure Bt (mg : Str → Option Value) : Prop where
  len : mg "len" = none
  isinstance : mg "isinstance" = none
  tuple : mg "tuple" = none
  list : mg "list" = none
  str : mg "str" = none
  int : mg "int" = none
  bool : mg "bool" = none
  range : mg "range" = none
  zip : mg "zip" = none
  enumerate : mg "enumerate" = none
  reversed : mg "reversed" = none
  max : mg "max" = none
  all : mg "all" = none
  min : mg "min" = none
  sum : mg "sum" = none
  any : mg "any" = none
  sorted : mg "sorted" = none
  set : mg "set" = none
  repr : mg "repr" = none
  abs : mg "abs" = none
/-! ### heaps -/
/-- all that was tracked is as it was, but what stands at ws -/
def Ex (ws : List Addr) (H H' : Hp) : Prop := ∀ b o, H b = some o → b ∉ ws → H' b = some o
theorem Ex.refl (ws : List Addr) (H : Hp) : Ex ws H H := fun _ _ h _ => h
theorem Ex.trans {ws : List Addr} {H H1 H2 : Hp} (a : Ex ws H H1) (b : Ex ws H1 H2) : Ex ws H H2 := fun c o h n => b c o (a c o h n) n
theorem Ex.mono {ws us : List Addr} {H H' : Hp} (a : Ex ws H H') (h : ∀ b ∈ ws, b ∈ us) : Ex us H H' := fun c o e n => a c o e fun m => n (h c m)
theorem Ex.of_same {ws : List Addr} {H H' : Hp} (a : Same H H') : Ex ws H H' := fun c o e _ => a c o e
theorem Ex.same {H H' : Hp} (a : Ex [] H H') : Same H H' := fun c o e => a c o e (by simp)
theorem Ex.new {ws : List Addr} {H : Hp} {p : Addr} {o : HO} (h : H p = none) : Ex ws H (upd H p o) := fun b u q _ => by rw [upd_ne (ne_of_none q h)]; exact q
theorem Ex.at {ws : List Addr} {H : Hp} {p : Addr} {o : HO} (h : p ∈ ws) : Ex ws H (upd H p o) := fun b u q n => by rw [upd_ne (fun z => n (by rw [z]; exact h))]; exact q
theorem same_new {H : Hp} {p : Addr} {o : HO} (h : H p = none) : Same H (upd H p o) := fun b u q => by rw [upd_ne (ne_of_none q h)]; exact q
theorem Ex.free {ws : List Addr} {H H' : Hp} (a : Ex ws H H') {p : Addr} (h : H' p = none) (n : p ∉ ws) : H p = none := by
  cases q : H p with
  | none => rfl
  | some o =>
    rw [a p o q n] at h
    cases h
theorem Ex.ne {ws : List Addr} {H H' : Hp} (a : Ex ws H H') {p q : Addr} {o : HO} (h : H q = some o) (hq : q ∉ ws) (hp : H' p = none) : q ≠ p := fun z => by
  rw [← z, a q o h hq] at hp
  cases hp
theorem small {n : Nat} (h : n ≤ 100000) : n ≤ sizeLine := Nat.le_trans h (by decide)
theorem smallL {n : Nat} (h : n ≤ 100000) : n < sizeLine := Nat.lt_of_le_of_lt h (by decide)
/-! ### data: None, truths, ints, texts, tuples of these -/
/-- without lists and dicts -/
def flat : PyData → Bool
  | .none => true
  | .bool _ => true
  | .int _ => true
  | .str _ => true
  | .list _ => false
  | .tuple xs => flats xs
  | .dict _ => false
where flats : List PyData → Bool
  | [] => true
  | d :: ds => flat d && flats ds
/-- the tuples that were there are there -/
def Tp (K : PySem.W.Frag) (H H' : Hp) : Prop := ∀ a xs, SqT K H a xs → SqT K H' a xs
theorem Ex.tp {K : PySem.W.Frag} {ws : List Addr} {H H' : Hp} (a : Ex ws H H') (h : ∀ b ∈ ws, ∀ xs, ¬ Rd H b (.tup xs)) : Tp K H H' := fun b xs q => by
  rcases q with (q | ⟨o, q⟩) | q
  · exact .inl (.inl (a b _ q fun m => h b m xs (.inl q)))
  · exact .inl (.inr ⟨o, a b _ q fun m => h b m xs (.inr ⟨o, q⟩)⟩)
  · exact .inr q
theorem Tp.refl (K : PySem.W.Frag) (H : Hp) : Tp K H H := fun _ _ h => h
theorem Tp.trans {K : PySem.W.Frag} {H H1 H2 : Hp} (a : Tp K H H1) (b : Tp K H1 H2) : Tp K H H2 := fun c xs h => b c xs (a c xs h)
theorem Tp.same {K : PySem.W.Frag} {H H' : Hp} (a : Same H H') : Tp K H H' := fun b xs q => by
  rcases q with (q | ⟨o, q⟩) | q
  · exact .inl (.inl (a b _ q))
  · exact .inl (.inr ⟨o, a b _ q⟩)
  · exact .inr q
/-- a list (or dict) that is written -/
theorem Tp.put {K : PySem.W.Frag} {H : Hp} {p : Addr} {o o' : HO} (h : H p = some o) (n1 : ∀ xs, o ≠ .tup xs) (n2 : ∀ u v, o ≠ .frz u v) : Tp K H (upd H p o') := fun b xs q => by
  rcases q with (q | ⟨u, q⟩) | q
  · have nb : b ≠ p := fun z => by
      rw [z, h] at q
      exact n1 xs (Option.some.inj q)
    exact .inl (.inl (by rw [upd_ne nb]; exact q))
  · have nb : b ≠ p := fun z => by
      rw [z, h] at q
      exact n2 _ _ (Option.some.inj q)
    exact .inl (.inr ⟨u, by rw [upd_ne nb]; exact q⟩)
  · exact .inr q
theorem Tp.lst {K : PySem.W.Frag} {H : Hp} {p : Addr} {xs : List V} {o' : HO} (h : H p = some (.lst xs)) : Tp K H (upd H p o') := Tp.put h (fun _ z => nomatch z) (fun _ _ z => nomatch z)
theorem Tp.dct {K : PySem.W.Frag} {H : Hp} {p : Addr} {xs : List (Key × V)} {o' : HO} (h : H p = some (.dK xs)) : Tp K H (upd H p o') := Tp.put h (fun _ z => nomatch z) (fun _ _ z => nomatch z)
theorem Tp.new {K : PySem.W.Frag} {H : Hp} {p : Addr} {o : HO} (h : H p = none) : Tp K H (upd H p o) := Tp.same (same_new h)
mutual
theorem dp_keep {K : PySem.W.Frag} {H H' : Hp} (t : Tp K H H') : ∀ (d : PyData) (v : V), flat d = true → Dp K H v d → Dp K H' v d
  | .none, _, _, h => by cases h; exact .non
  | .bool b, _, _, h => by cases h; exact .bl b
  | .int i, _, _, h => by cases h; exact .int i
  | .str x, _, _, h => by cases h; exact .str x
  | .list ds, _, f, _ => by simp [flat] at f
  | .tuple ds, _, f, h => by
    cases h with
    | tup q r => exact .tup (t _ _ q) (dps_keep t ds _ f r)
  | .dict ds, _, f, _ => by simp [flat] at f
theorem dps_keep {K : PySem.W.Frag} {H H' : Hp} (t : Tp K H H') : ∀ (ds : List PyData) (vs : List V), flat.flats ds = true → DpAll K H vs ds → DpAll K H' vs ds
  | [], _, _, h => by cases h; exact .nil
  | d :: ds, _, f, h => by
    rw [flat.flats, Bool.and_eq_true] at f
    cases h with
    | cons a b => exact .cons (dp_keep t d _ f.1 a) (dps_keep t ds _ f.2 b)
end
/-- flat data at v -/
def Fd (K : PySem.W.Frag) (H : Hp) (v : V) (d : PyData) : Prop := flat d = true ∧ Dp K H v d
theorem Fd.keep {K : PySem.W.Frag} {H H' : Hp} {v : V} {d : PyData} (h : Fd K H v d) (t : Tp K H H') : Fd K H' v d := ⟨h.1, dp_keep t d v h.1 h.2⟩
/-! ### rules within a comprehension: the written part by its name -/
section
variable {X : Cx} {K : PySem.W.Frag}
theorem ix_tupK (h : X.K = K) : IxR X (rIxT K) := h ▸ ix_tup
theorem ix_listK (h : X.K = K) : IxR X (rIxL K) := h ▸ ix_list
def rLenK (K : PySem.W.Frag) : List V → Hp → VK → Prop := fun xs H Q => ∃ p ys, xs = [.ref p] ∧ (SqL K H p ys ∨ SqT K H p ys) ∧ Q (.int ys.length) H
theorem call_len_seqK (h : X.K = K) : CallR X (.builtin "len") (rLenK K) := h ▸ call_len_seq
theorem pe_bm0K {T : String} {name : Str} {id : String} {r : V → List V → Hp → VK → Prop} {o : Expr} {to : TE} {apos cpos : Pos} (h : X.K = K) (pa : PlainAttrs T) (slot : Slot T name id) (hty : typeOf (.builtin id) = pure (.type "method_descriptor")) (hm : MtR X id r) (ho : PE X o to)
    (hbase : attributeBase o name X.env (eval o X.env) = eval o X.env := by rfl) (hline : (apos.endLine == cpos.line) = true := by rfl) : PE X (.Call (.Attribute o name apos) [] [] cpos) (tBM0 K T r to) := h ▸ pe_bm0 pa slot hty hm ho hbase hline
end
end Lm

set_option Elab.async false
set_option linter.all false
set_option maxRecDepth 100000
set_option maxHeartbeats 2000000
namespace Lm
open PySem PySem.Spec PyProof.Rows L2 LmR
/-! ### programs -/
inductive Bw where
  | least
  | most
  | atmost
  | both
  | either
def Bw.str : Bw → Str
  | .least => "least"
  | .most => "most"
  | .atmost => "atmost"
  | .both => "both"
  | .either => "either"
/-- the kind due to its parts; its own (true: truth) -/
def Bw.arg : Bw → Bool
  | .least => false
  | .most => false
  | .atmost => false
  | .both => true
  | .either => true
def Bw.own : Bw → Bool
  | .least => false
  | .most => false
  | .atmost => true
  | .both => true
  | .either => true
inductive Pg where
  | inp (k : Nat)
  | num (c : Int)
  | tr (b : Bool)
  | plus (c : Int) (a : Pg)
  | bin (w : Bw) (a b : Pg)
  | neg (a : Pg)
  | ite (p a b : Pg)
def trS : Bool → Str
  | true => "yes"
  | false => "no"
def kS : Bool → Str
  | true => "truth"
  | false => "num"
def word : Pg → Str
  | .inp _ => "in"
  | .num _ => "num"
  | .tr b => trS b
  | .plus _ _ => "plus"
  | .bin w _ _ => w.str
  | .neg _ => "not"
  | .ite _ _ _ => "if"
def enc : Pg → PyData
  | .inp k => .tuple [.str "in", .int k]
  | .num c => .tuple [.str "num", .int c]
  | .tr b => .tuple [.str (trS b)]
  | .plus c a => .tuple [.str "plus", .int c, enc a]
  | .bin w a b => .tuple [.str w.str, enc a, enc b]
  | .neg a => .tuple [.str "not", enc a]
  | .ite p a b => .tuple [.str "if", enc p, enc a, enc b]
theorem flat_enc : ∀ p : Pg, flat (enc p) = true
  | .inp _ => rfl
  | .num _ => rfl
  | .tr _ => rfl
  | .plus c a => by simp [enc, flat, flat.flats, flat_enc a]
  | .bin w a b => by simp [enc, flat, flat.flats, flat_enc a, flat_enc b]
  | .neg a => by simp [enc, flat, flat.flats, flat_enc a]
  | .ite p a b => by simp [enc, flat, flat.flats, flat_enc a, flat_enc b, flat_enc p]
/-- its kind by itself -/
def own (ks : List Bool) : Pg → Bool
  | .inp k => ks.getD k false
  | .num _ => false
  | .tr _ => true
  | .plus _ _ => false
  | .bin w _ _ => w.own
  | .neg _ => true
  | .ite _ a _ => own ks a
/-- it is let by -/
def Wk (ks : List Bool) : Pg → Prop
  | .inp k => k < ks.length
  | .num _ => True
  | .tr _ => True
  | .plus _ a => Wk ks a ∧ own ks a = false
  | .bin w a b => Wk ks a ∧ Wk ks b ∧ own ks a = w.arg ∧ own ks b = w.arg
  | .neg a => Wk ks a ∧ own ks a = true
  | .ite p a b => Wk ks p ∧ Wk ks a ∧ Wk ks b ∧ own ks p = true ∧ own ks b = own ks a
def parts : Pg → List Pg
  | .inp _ => []
  | .num _ => []
  | .tr _ => []
  | .plus _ a => [a]
  | .bin _ a b => [a, b]
  | .neg a => [a]
  | .ite p a b => [p, a, b]
def psz : Pg → Nat
  | .inp _ => 1
  | .num _ => 1
  | .tr _ => 1
  | .plus _ a => psz a + 1
  | .bin _ a b => psz a + psz b + 1
  | .neg a => psz a + 1
  | .ite p a b => psz p + psz a + psz b + 1
def dep : Pg → Nat
  | .inp _ => 1
  | .num _ => 1
  | .tr _ => 1
  | .plus _ a => dep a + 1
  | .bin _ a b => max (dep a) (dep b) + 1
  | .neg a => dep a + 1
  | .ite p a b => max (dep p) (max (dep a) (dep b)) + 1
def kn : Pg → List Pg
  | .inp k => [.inp k]
  | .num c => [.num c]
  | .tr b => [.tr b]
  | .plus c a => .plus c a :: kn a
  | .bin w a b => .bin w a b :: (kn a ++ kn b)
  | .neg a => .neg a :: kn a
  | .ite p a b => .ite p a b :: (kn p ++ (kn a ++ kn b))
theorem kn_len : ∀ p : Pg, (kn p).length = psz p
  | .inp _ => rfl
  | .num _ => rfl
  | .tr _ => rfl
  | .plus c a => by simp [kn, psz, kn_len a]
  | .bin w a b => by simp [kn, psz, kn_len a, kn_len b]
  | .neg a => by simp [kn, psz, kn_len a]
  | .ite p a b => by simp [kn, psz, kn_len a, kn_len b, kn_len p]; omega
theorem psz_pos (p : Pg) : 1 ≤ psz p := by cases p <;> simp [psz]
theorem dep_pos (p : Pg) : 1 ≤ dep p := by cases p <;> simp [dep]
theorem dep_le : ∀ p : Pg, dep p ≤ psz p
  | .inp _ => Nat.le_refl _
  | .num _ => Nat.le_refl _
  | .tr _ => Nat.le_refl _
  | .plus c a => by have := dep_le a; simp only [dep, psz]; omega
  | .bin w a b => by have := dep_le a; have := dep_le b; simp only [dep, psz]; omega
  | .neg a => by have := dep_le a; simp only [dep, psz]; omega
  | .ite p a b => by have := dep_le a; have := dep_le b; have := dep_le p; simp only [dep, psz]; omega
theorem kn_eq (p : Pg) : kn p = p :: (parts p).flatMap kn := by cases p <;> simp [kn, parts]
theorem psz_eq (p : Pg) : psz p = 1 + ((parts p).map psz).sum := by cases p <;> simp [psz, parts] <;> omega
/-- the things behind its word, as they stand in the tuple -/
def front : Pg → List V
  | .inp k => [.str "in", .int k]
  | .num c => [.str "num", .int c]
  | .tr b => [.str (trS b)]
  | .plus c _ => [.str "plus", .int c]
  | .bin w _ _ => [.str w.str]
  | .neg _ => [.str "not"]
  | .ite _ _ _ => [.str "if"]
/-- the program p stands at v -/
def At (K : PySem.W.Frag) (H : Hp) (v : V) (p : Pg) : Prop := Dp K H v (enc p)
def Ats (K : PySem.W.Frag) (H : Hp) (vs : List V) (ps : List Pg) : Prop := DpAll K H vs (ps.map enc)
theorem At.fd {K : PySem.W.Frag} {H : Hp} {v : V} {p : Pg} (h : At K H v p) : Fd K H v (enc p) := ⟨flat_enc p, h⟩
theorem At.keep {K : PySem.W.Frag} {H H' : Hp} {v : V} {p : Pg} (h : At K H v p) (t : Tp K H H') : At K H' v p := dp_keep t _ _ (flat_enc p) h
theorem flats_encs : ∀ ps : List Pg, flat.flats (ps.map enc) = true
  | [] => rfl
  | p :: ps => by simp [flat.flats, flat_enc p, flats_encs ps]
theorem Ats.keep {K : PySem.W.Frag} {H H' : Hp} {vs : List V} {ps : List Pg} (h : Ats K H vs ps) (t : Tp K H H') : Ats K H' vs ps := dps_keep t _ _ (flats_encs ps) h
theorem Ats.nil {K : PySem.W.Frag} {H : Hp} : Ats K H [] [] := DpAll.nil
theorem Ats.cons {K : PySem.W.Frag} {H : Hp} {v : V} {vs : List V} {p : Pg} {ps : List Pg} (h : At K H v p) (t : Ats K H vs ps) : Ats K H (v :: vs) (p :: ps) := DpAll.cons h t
theorem Ats.app {K : PySem.W.Frag} {H : Hp} : ∀ {vs us : List V} {ps qs : List Pg}, Ats K H vs ps → Ats K H us qs → Ats K H (vs ++ us) (ps ++ qs)
  | [], _, [], _, _, b => b
  | v :: vs, _, p :: ps, _, a, b => by
    cases a with
    | cons h t => exact Ats.cons h (Ats.app (vs := vs) (ps := ps) t b)
  | [], _, p :: ps, _, a, _ => by cases a
  | v :: vs, _, [], _, a, _ => by cases a
theorem Ats.len {K : PySem.W.Frag} {H : Hp} : ∀ {vs : List V} {ps : List Pg}, Ats K H vs ps → vs.length = ps.length
  | [], [], _ => rfl
  | v :: vs, p :: ps, a => by
    cases a with
    | cons h t => rw [List.length_cons, List.length_cons, Ats.len (vs := vs) (ps := ps) t]
  | [], p :: ps, a => by cases a
  | v :: vs, [], a => by cases a
theorem Ats.get {K : PySem.W.Frag} {H : Hp} : ∀ {vs : List V} {ps : List Pg}, Ats K H vs ps → ∀ (j : Nat) (v : V), vs[j]? = some v → ∃ p, ps[j]? = some p ∧ At K H v p
  | [], [], _, j, v, h => by simp at h
  | u :: vs, p :: ps, a, 0, v, h => by
    cases a with
    | cons x t =>
      have e := Option.some.inj h
      subst e
      exact ⟨p, rfl, x⟩
  | u :: vs, p :: ps, a, j + 1, v, h => by
    cases a with
    | cons x t => exact Ats.get (vs := vs) (ps := ps) t j v h
  | [], p :: ps, a, _, _, _ => by cases a
  | v :: vs, [], a, _, _, _ => by cases a
/-- the tuple that it is -/
theorem At.open {K : PySem.W.Frag} {H : Hp} {v : V} {p : Pg} (h : At K H v p) : ∃ (a : Addr) (vs : List V), v = .ref a ∧ SqT K H a (front p ++ vs) ∧ Ats K H vs (parts p) := by
  cases p with
  | inp k =>
    cases h with
    | tup q r =>
      cases r with
      | cons r1 r =>
        cases r with
        | cons r2 r =>
          cases r
          cases r1
          cases r2
          exact ⟨_, [], rfl, q, .nil⟩
  | num c =>
    cases h with
    | tup q r =>
      cases r with
      | cons r1 r =>
        cases r with
        | cons r2 r =>
          cases r
          cases r1
          cases r2
          exact ⟨_, [], rfl, q, .nil⟩
  | tr b =>
    cases h with
    | tup q r =>
      cases r with
      | cons r1 r =>
        cases r
        cases r1
        exact ⟨_, [], rfl, q, .nil⟩
  | plus c a =>
    cases h with
    | tup q r =>
      cases r with
      | cons r1 r =>
        cases r with
        | cons r2 r =>
          cases r1
          cases r2
          exact ⟨_, _, rfl, q, r⟩
  | bin w a b =>
    cases h with
    | tup q r =>
      cases r with
      | cons r1 r =>
        cases r1
        exact ⟨_, _, rfl, q, r⟩
  | neg a =>
    cases h with
    | tup q r =>
      cases r with
      | cons r1 r =>
        cases r1
        exact ⟨_, _, rfl, q, r⟩
  | ite p a b =>
    cases h with
    | tup q r =>
      cases r with
      | cons r1 r =>
        cases r1
        exact ⟨_, _, rfl, q, r⟩
theorem Ats.one {K : PySem.W.Frag} {H : Hp} {vs : List V} {p : Pg} (h : Ats K H vs [p]) : ∃ v, vs = [v] ∧ At K H v p := by
  cases h with
  | cons a r =>
    cases r
    exact ⟨_, rfl, a⟩
theorem Ats.two {K : PySem.W.Frag} {H : Hp} {vs : List V} {p q : Pg} (h : Ats K H vs [p, q]) : ∃ u v, vs = [u, v] ∧ At K H u p ∧ At K H v q := by
  cases h with
  | cons a r =>
    cases r with
    | cons b r =>
      cases r
      exact ⟨_, _, rfl, a, b⟩
theorem Ats.three {K : PySem.W.Frag} {H : Hp} {vs : List V} {p q r : Pg} (h : Ats K H vs [p, q, r]) : ∃ u v w, vs = [u, v, w] ∧ At K H u p ∧ At K H v q ∧ At K H w r := by
  cases h with
  | cons a t =>
    cases t with
    | cons b t =>
      cases t with
      | cons c t =>
        cases t
        exact ⟨_, _, _, rfl, a, b, c⟩
/-! ### sums of sizes -/
theorem kn_le : ∀ (p q : Pg), q ∈ kn p → psz q ≤ psz p
  | .inp _, q, h => by simp [kn] at h; rw [h]; exact Nat.le_refl _
  | .num _, q, h => by simp [kn] at h; rw [h]; exact Nat.le_refl _
  | .tr _, q, h => by simp [kn] at h; rw [h]; exact Nat.le_refl _
  | .plus c a, q, h => by
    simp only [kn, List.mem_cons] at h
    rcases h with h | h
    · rw [h]; exact Nat.le_refl _
    · have := kn_le a q h; simp only [psz]; omega
  | .bin w a b, q, h => by
    simp only [kn, List.mem_cons, List.mem_append] at h
    rcases h with h | h | h
    · rw [h]; exact Nat.le_refl _
    · have := kn_le a q h; simp only [psz]; omega
    · have := kn_le b q h; simp only [psz]; omega
  | .neg a, q, h => by
    simp only [kn, List.mem_cons] at h
    rcases h with h | h
    · rw [h]; exact Nat.le_refl _
    · have := kn_le a q h; simp only [psz]; omega
  | .ite p a b, q, h => by
    simp only [kn, List.mem_cons, List.mem_append] at h
    rcases h with h | h | h | h
    · rw [h]; exact Nat.le_refl _
    · have := kn_le p q h; simp only [psz]; omega
    · have := kn_le a q h; simp only [psz]; omega
    · have := kn_le b q h; simp only [psz]; omega
theorem kn_wk (ks : List Bool) : ∀ (p q : Pg), Wk ks p → q ∈ kn p → Wk ks q
  | .inp _, q, w, h => by simp [kn] at h; rw [h]; exact w
  | .num _, q, w, h => by simp [kn] at h; rw [h]; exact w
  | .tr _, q, w, h => by simp [kn] at h; rw [h]; exact w
  | .plus c a, q, w, h => by
    simp only [kn, List.mem_cons] at h
    rcases h with h | h
    · rw [h]; exact w
    · exact kn_wk ks a q w.1 h
  | .bin _ a b, q, w, h => by
    simp only [kn, List.mem_cons, List.mem_append] at h
    rcases h with h | h | h
    · rw [h]; exact w
    · exact kn_wk ks a q w.1 h
    · exact kn_wk ks b q w.2.1 h
  | .neg a, q, w, h => by
    simp only [kn, List.mem_cons] at h
    rcases h with h | h
    · rw [h]; exact w
    · exact kn_wk ks a q w.1 h
  | .ite p a b, q, w, h => by
    simp only [kn, List.mem_cons, List.mem_append] at h
    rcases h with h | h | h | h
    · rw [h]; exact w
    · exact kn_wk ks p q w.1 h
    · exact kn_wk ks a q w.2.1 h
    · exact kn_wk ks b q w.2.2.1 h
end Lm

set_option Elab.async false
set_option linter.all false
set_option maxRecDepth 100000
set_option maxHeartbeats 2000000
namespace Lm
open PySem PySem.Spec PyProof.Rows L2 LmR
/-! ### a def called within an except suite, handed the exception -/
structure FnP (P : Program) (w : World) (K : PySem.W.Frag) (mg : Str → Option Value) (base : Heap) (p : Addr × Obj) (k : Nat) (f : Addr) (fd : FuncData) (ps : List Str) (sp : Sp) : Prop where
  len : ∀ vs H Q E, sp vs H Q E → vs.length = ps.length
  run : ∀ (A : Around) (outer : List Env) (s : Shared) (H : Hp) (args : Args) (us : List Value) (vs : List V) (Q : VK) (E : XK), L2H.RoomH k A → L2H.PinOk outer H s p → Env0 P w K mg base A outer s H → BindsTo s fd args (ps.zip us) → Vals vs us → sp vs H Q E →
    codeAny (model P w) A (.call (.ref f) args) (CR CX0 outer P w H s Q E) s
theorem fn_ofP {P : Program} {w : World} {K : PySem.W.Frag} {mg : Str → Option Value} {base : Heap} {k : Nat} {x : Str} {st : Stmt} {f : Addr} {fd : FuncData} {N ps : List Str} {sp : Sp} {p : Addr × Obj} (F : Fun K x x st f fd) (S : FnScope N ps (defScope st))
    (len : ∀ vs H Q E, sp vs H Q E → vs.length = ps.length)
    (hbody : ∀ (cdv : Value) (A : Around) (outer : List Env) (s : Shared) (H : Hp) (vs : List V) (Q : VK) (E : XK), L2H.RoomH k (A.deeper (envOfC x (defScope st) s.heap.objs.size f cdv)) → sp vs H Q E →
      ∃ t, PSs (L2H.cxH CX0 P w K mg base N x (defScope st) f cdv A outer s H E p) (defBody st) t ∧ t { nx := fun _ H' => Q .non H', rt := Q } (L2.start N vs) H) : FnP P w K mg base p (k + 1) f fd ps sp := by
  obtain ⟨oc, od, kV, doc, pm, an, cdv, ct, osl, rfl, lk, hcd⟩ := F.ex
  refine ⟨len, fun A outer s H args us vs Q E hr hpin e0 hb r hsp => ?_⟩
  have hl := len _ _ _ _ hsp
  have KX : K.In s.heap := e0.mod.kin.keeps fun b o e => (e0.bs b o e).1
  have lim : s.heap.NoLimit := e0.mod.nolimit.keeps fun b o e => (e0.bs b o e).1
  have hkind : ∀ y ∈ ps.zip us, (defScope st).names.lookup y.1 = some .local ∨ ((defScope st).names.lookup y.1 = some .cell ∧ ((cellsFrom (s.heap.objs.size + 1) (defScope st).names []).lookup y.1).isSome = true) := fun ⟨n, v⟩ hy => by
    rcases S.par n (List.of_mem_zip hy).1 with q | q
    · exact .inl q
    · exact .inr ⟨q, PySem.W.cellsFrom_some _ _ _ (.inl q)⟩
  refine codeAny_call_function hr.depth (KX _ _ lk) rfl S.co S.gen rfl (PySem.W.codeRec_of KX hcd) (hb _ _ _ _ ?_)
  refine wpAny_newFunctionEnv_cells S.kind hkind fun env he s1 y => ?_
  subst he
  refine ⟨lim.keeps y.toInCall.keep, codeAny_func ?_⟩
  obtain ⟨t, ht, hq⟩ := hbody cdv A outer s H vs Q E (hr.deeper _) hsp
  have I : Inv (L2H.cxH CX0 P w K mg base N x (defScope st) f cdv A outer s H E p) [] (L2.start N vs) H s1 := L2H.inv_startH S hpin e0 hl r y
  refine wpAny_mono (ht.run [] s1 (L2.start N vs) H _ I hq) (fun fl s' hs => ?_) fun e s' hs => hs
  have fin : ∀ {σ' : L2.St} {H' : Hp} {v : V} {u : Value}, Inv (L2H.cxH CX0 P w K mg base N x (defScope st) f cdv A outer s H E p) [] σ' H' s' → RelV v u → Q v H' → CE outer P w H s Q u s' :=
    fun {σ' H' v u} J rv q => ⟨v, H', J.os, J.bare, J.base, J.hok, rv, q⟩
  cases fl with
  | ret u =>
    obtain ⟨v, σ', H', J, rv, q⟩ := hs
    exact fin J rv q
  | next =>
    obtain ⟨σ', H', J, q⟩ := hs
    exact fin (v := V.non) (u := Value.none) J rfl q
  | brk =>
    obtain ⟨_, _, _, q⟩ := hs
    exact False.elim q
  | cont =>
    obtain ⟨_, _, _, q⟩ := hs
    exact False.elim q
theorem pe_callP {X : Cx} {k : Nat} {f : Addr} {fd : FuncData} {ps : List Str} {sp : Sp} {x : Str} {q pos : Pos} {e : Expr} {es : List Expr} {t : TA} {p : Addr × Obj} (F : FnP X.prog X.w X.K X.mg X.base p k f fd ps sp) (hr : L2H.RoomH k X.A) (hp : p ∈ X.pn) (hg : Gl X x) (hm : X.mg x = some (.ref f)) (hk : PySem.W.keepIn X.K (.ref f) = true) (hb : Binds X.K fd ps [])
    (ha : PA X (e :: es) t) (hdb : (x == ("__debug__" : Str)) = false := by decide) (he : starEach (e :: es) X.env = (false, eval e X.env) :: starEach es X.env := by rfl) (hpl : (backTo pos (starEach es X.env)).any (·.1) = false := by rfl) :
    PE X (.Call (.Name x q) (e :: es) [] pos) (tCall sp [] (fun _ _ _ => False) t) := by
  refine ⟨fun pins s σ H Q I h => ?_⟩
  refine wpAny_Call_Name_kw (ld_glob I hg hm ?_ hdb)
  refine PySem.W.callWith_K (h₀ := X.base) I.ok.mod.kin hk (thn (ha.run pos pins s σ H _ I h) fun us s1 ⟨vs, H1, I1, r, q⟩ => ⟨I1.kIn, ?_⟩) he hpl
  have q : sp vs H1 Q (fun _ _ _ => False) := by
    have z : sp (vs ++ []) H1 Q (fun _ _ _ => False) := q
    rw [List.append_nil] at z
    exact z
  have hl : us.length = ps.length := by rw [← r.length]; exact F.len _ _ _ _ q
  have b := hb s1 us I1.kIn (by rw [List.append_nil]; exact hl)
  rw [List.append_nil] at b
  have P1 := I1.pin p (List.mem_append_left _ hp)
  have hpin : L2H.PinOk X.stack H1 s1 p := ⟨P1.1, P1.2.1, fun hm => (List.mem_cons.mp (I1.stkSub p.1 hm)).elim P1.2.2.1 P1.2.2.2.1, P1.2.2.2.2⟩
  refine wpAny_call (codeAny_mono (F.run X.A X.stack s1 H1 ⟨us, []⟩ us vs Q (fun _ _ _ => False) hr hpin I1.env0 b r q) fun r s' hq => ?_)
  cases r with
  | error e => exact hq.elim
  | ok fl =>
    cases fl with
    | ret u => exact I1.after hq
    | next => exact False.elim hq
    | brk => exact False.elim hq
    | cont => exact False.elim hq
/-! ### isinstance of an exception that is pinned -/
structure ExK (K : PySem.W.Frag) (C : Addr) : Prop where
  cl : (PySem.W.clsIn K C).isSome = true
  ga : PySem.W.findIn K (.ref C) "__getattribute__" = some (some (.builtin "BaseException.__getattribute__"))
  gg : PySem.W.findIn K (.ref C) "__getattr__" = some none
  ex : PySem.W.subIn K (.ref C) (.type "BaseException") = some true
  ca : PySem.W.findIn K (.ref C) "__class__" = some (some (.builtin "object.__class__"))
  gn : PySem.W.specialIn K (.builtin "object.__class__") "__get__" = some (some (.builtin "getset_descriptor.__get__"))
  tk : PySem.W.takesIn K (.builtin "object.__class__") = some true
  ob : PySem.W.mroIn K C (.type "object") = some true
/-- isinstance(e, c), e the exception at a of the class at C -/
def rIsP (K : PySem.W.Frag) (C a : Addr) : List V → Hp → VK → Prop := fun xs H Q => ∃ (D : Addr) (b : Bool), xs = [.ref a, .ref D] ∧ PySem.W.kitOne K (.ref C) (.ref D) = some b ∧ Q (.bl b) H
theorem call_isP {X : Cx} {a C : Addr} {oe : Obj} {dct : Option Addr} (k : ExK X.K C) (hz : Zc (.ref C) dct oe) (hf : ∃ vs, oe.data = .fields vs) (hp : (a, oe) ∈ X.pn) (hd : ∀ pins σ H s, Inv X pins σ H s → ∃ od : Option Obj, PySem.W.InstAt s.heap a oe C od) : CallR X (.builtin "isinstance") (rIsP X.K C a) := by
  intro pins s σ H xs us Q I r h
  obtain ⟨D, b, rfl, e, q⟩ := h
  obtain ⟨u1, u2, rfl, r1, r2⟩ := vals2 r
  cases (show u1 = Value.ref a from r1)
  cases (show u2 = Value.ref D from r2)
  obtain ⟨od, J⟩ := hd pins σ H s I
  exact PySem.W.kia_one (PySem.W.kitx_exc k.cl k.ga k.gg k.ex k.ca k.gn k.tk k.ob) I.kIn J e (fun z => nomatch z) fun tk => ⟨.bl b, H, I.tok tk, rfl, q⟩
/-! ### xs.count(True) of truths -/
theorem mt_countB {X : Cx} : MtR X "list.count" (fun x xs H Q => ∃ (p : Addr) (bs : List Bool), x = .ref p ∧ xs = [.bl true] ∧ SqL X.K H p (bs.map V.bl) ∧ Q (.int (bs.count true : Nat)) H) := by
  intro pins s σ H x xs v us Q I rx rxs h
  obtain ⟨p, bs, rfl, rfl, hs, q⟩ := h
  cases rx
  obtain ⟨u, rfl, ru⟩ := rxs.one
  cases (show u = Value.bool true from ru)
  obtain ⟨its, rv, ⟨⟨cls, dd, data, sl⟩, n, ho, hc, hdn, hd⟩, hlen⟩ := I.list hs
  simp only at hc hd
  subst hc hd
  have key : ∀ (bs : List Bool) (its : List Value), Vals (bs.map V.bl) its → its = bs.map Value.bool := by
    intro bs
    induction bs with
    | nil => intro its r; cases r; rfl
    | cons b bs ih =>
      intro its r
      cases r with
      | cons a r =>
        rename_i u us'
        rw [List.map_cons, ih us' r]
        congr 1
  have ei := key bs its rv
  subst ei
  let g : Value → Bool := fun y => y == .bool true
  refine call_meets PySem.F.slot_list_count ⟨_, ho, rfl⟩ PySem.F.entry_list_count (PySem.F.args_list_count_2 _ _)
    (SeqAt.list_countAt p (bs.map Value.bool).toArray n dd sl (.bool true) g) ⟨ho, fun y hy => ?_, ?_⟩
  · have hy' : y ∈ bs.map Value.bool := by simpa using hy
    obtain ⟨b, _, rfl⟩ := List.mem_map.mp hy'
    have eg : g (.bool b) = eqV (.bl b) (.bl true) := by cases b <;> rfl
    rw [eg]
    exact eqAt_V (y := .bl b) (x := .bl true) rfl rfl rfl rfl
  · have ec : ((bs.map Value.bool).toArray.toList.countP g) = bs.count true := by
      show (bs.map Value.bool).countP g = _
      rw [List.countP_map]
      unfold List.count
      congr 1
      funext b
      cases b <;> rfl
    refine ⟨.int (bs.count true : Nat), H, I.tok _, ⟨s.toks, ?_⟩, q⟩
    show Value.int (((bs.map Value.bool).toArray.toList.countP g : Nat) : Int) s.toks = Value.int ((bs.count true : Nat) : Int) s.toks
    rw [ec]
end Lm

set_option Elab.async false
set_option linter.all false
set_option maxRecDepth 100000
set_option maxHeartbeats 2000000
namespace Lm
open PySem PySem.Spec PyProof.Rows L2 LmR
abbrev oEnum (a : Addr) : Obj := { cls := .type "enumerate", data := .fields #[.none, .bool false, .ref a, rawInt 0, .none, .none] }
/-- enumerate(v): two new cells -/
theorem enum_new1 {v : Value} {o : Obj} {G : Heap → Prop} (B : Begins v o G) :
    Meets (Builtin.«enumerate.__new__» ⟨[.type "enumerate", v], []⟩) (fun _ R s => G s.heap ∧ R (.ok (.ret (.ref (s.heap.push o).objs.size))) { s with heap := (s.heap.push o).push (oEnum s.heap.objs.size) }) :=
  .of_wp fun prog w A R s hh => by
    obtain ⟨hp, g, d, tk, os⟩ := s
    obtain ⟨hG, hR⟩ := hh
    have hsub := sub_enumerate
    have go : ∀ {A' : Around} {E : Value → Shared → Prop} {Q : Value → Shared → Prop}, Q (.ref hp.objs.size) ⟨hp.push o, g, d, tk, os⟩ → wpAny (model prog w) A' (pyIter v) Q E ⟨hp, g, d, tk, os⟩ :=
      fun q => B.iter prog w _ _ _ _ hG q
    wp_walk using go
    refine wpAny_stack_any fun st => wpAny_pure ?_
    split
    · rename_i c _ _ _ _ _
      cases (c == Value.type "enumerate") <;> (wp_walk using go; exact ⟨_, rfl, hR⟩)
    · wp_walk using go
      exact ⟨_, rfl, hR⟩
theorem enum_call1 {prog : Program} {w : World} {A : Around} {E : Value → Shared → Prop} {s : Shared} {v : Value} {o : Obj} {G : Heap → Prop} {Q : Value → Shared → Prop} (B : Begins v o G) (hG : G s.heap)
    (hQ : ∀ h2, IsEnum h2 (s.heap.objs.size + 1) s.heap.objs.size 0 .none → h2.get? s.heap.objs.size = some o → (∀ b ob, s.heap.get? b = some ob → h2.get? b = some ob) → Q (.ref (s.heap.objs.size + 1)) { s with heap := h2 }) :
    wpAny (model prog w) A (call (.type "enumerate") [v]) Q E s := by
  refine callType_new F.called_enumerate (by decide) (F.typeCall_enumerate_1 _) (F.newCall_enumerate_1 _) (fun obj => F.args_object_init_2 obj _) F.entry_enumerate_new (enum_new1 B) ⟨hG, ?_⟩
  have z : (s.heap.push o).objs.size = s.heap.objs.size + 1 := Heap.size_push ..
  show _ ∧ _
  rw [z]
  have he : IsEnum ((s.heap.push o).push (oEnum s.heap.objs.size)) (s.heap.objs.size + 1) s.heap.objs.size 0 .none := by
    have y := Heap.get?_push_size (s.heap.push o) (o := oEnum s.heap.objs.size) rfl
    rw [z] at y
    exact y
  exact ⟨⟨_, he, rfl⟩, hQ _ he (Heap.get?_push_of_some _ (Heap.get?_push_size _ B.free)) fun b ob x => Heap.get?_push_of_some _ (Heap.get?_push_of_some _ x)⟩
theorem enum_over {prog : Program} {w : World} {A : Around} {E : Value → Shared → Prop} {s : Shared} {e it a : Addr} {i : Nat} {items : Array Value} {c : Int} {old : Value} {Q : Option Value → Shared → Prop} (hd : A.handled = none)
    (he : IsEnum s.heap e it c old) (hit : s.heap.IsTupleIter it a i) (ht : s.heap.IsTuple a items) (hx : items[i]? = none) (hQ : ∀ h2, Heap.ExtBut it s.heap h2 → Q none { s with heap := h2 }) : wpAny (model prog w) A (pyNext (.ref e)) Q E s := by
  have D : Draws prog w A.in1 it [it, a] i (fun _ _ => True) (fun j h => j = i ∧ h.IsTupleIter it a i ∧ h.IsTuple a items) :=
    { live := fun _ _ st => by obtain ⟨_, ⟨o, ho, _⟩, _⟩ := st; exact ⟨o, ho⟩
      frame := fun _ _ _ st hk => ⟨st.1, st.2.1.at fun o q => hk it (by simp) o q, st.2.2.at fun o q => hk a (by simp) o q⟩
      item := fun j s Q E hj st _ => absurd st.1 (Nat.ne_of_lt hj)
      done := fun s Q E st hE => wpAny_nextOf_tuple_end (by first | exact hd | (show A.in1.handled = none; exact hd)) st.2.1 st.2.2 hx hE }
  exact wpAny_pyNext_enum_endD D he ⟨rfl, hit, ht⟩ hQ
/-- the tuple at a: each item, its number ahead of it, in a new pair -/
def IteT (K : PySem.W.Frag) (a : Addr) : It :=
  ⟨fun i H => ∃ (xs : List V) (x : V), SqT K H a xs ∧ xs[i]? = some x,
    fun i H v H' => ∃ T x, v = .ref T ∧ H T = none ∧ H' = upd H T (.tup [.int (i : Nat), x]) ∧ ∀ xs, SqT K H a xs → xs[i]? = some x,
    fun i H => ∃ xs : List V, SqT K H a xs ∧ xs.length ≤ i⟩
theorem turn_enumT {P : Program} {w : World} {K : PySem.W.Frag} {elts : List Expr} {kk : Nat} {tpos : Pos} (a e it : Addr) :
    Turn P w K (.Tuple elts kk tpos) (IteT K a) [e, it] e (fun i h => (∃ old, IsEnum h e it ((i : Nat) : Int) old) ∧ h.IsTupleIter it a i ∧ e ≠ it ∧ a ≠ e ∧ a ≠ it) where
  mem := by simp
  obj := fun i h st b hb => by
    obtain ⟨⟨old, he⟩, ⟨o, ho, hc, hd⟩, _⟩ := st
    have e' : b = e ∨ b = it := by simpa using hb
    rcases e' with z | z
    · rw [z]; exact ⟨_, he, fun v q => nomatch q⟩
    · rw [z]; exact ⟨o, ho, fun v q => by rw [hd] at q; cases q⟩
  keep := fun i h h' st k => by
    obtain ⟨⟨old, he⟩, hi, r⟩ := st
    exact ⟨⟨old, k e (by simp) _ he⟩, hi.at fun o q => k it (by simp) o q, r⟩
  item := by
    intro X hP hw hK hc i pins s σ H E I hf st hg
    subst hP hw hK
    obtain ⟨⟨old, he⟩, hit, hne, hae, hai⟩ := st
    obtain ⟨xs, x, hq, hx⟩ := hg
    obtain ⟨its, rv, p, hz⟩ := I.tuple hq
    obtain ⟨u, hu, ru⟩ := rv.get hx
    have ht : s.heap.IsTuple a its.toArray := p
    have hel : e < s.heap.objs.size := Heap.lt_size he
    have hil : it < s.heap.objs.size := by obtain ⟨_, q, _⟩ := hit; exact Heap.lt_size q
    have D := Draws.tuple (prog := X.prog) (w := X.w) (A := X.A.in1) (I.ok.hd hc) it a hai its.toArray
    have hlt : i < its.toArray.size := by
      have z : i < its.length := (List.getElem?_eq_some_iff.mp hu).1
      simpa using z
    refine wpAny_pyNext_enum_itemD D he ⟨hit, ht⟩ hlt hne (by simp [hne, Ne.symm hae]) fun y h' tk hy ho hst hT hsz hk => ?_
    have ey : y = u := by
      have z : its[i]? = some y := by simpa using hy
      rw [hu] at z
      exact (Option.some.inj z).symm
    subst ey
    refine ⟨_, rfl, wpAny_letOwnedTupleGo_enum (s := { s with heap := h', toks := tk + 1 }) ho fun h'' he' sb => ?_⟩
    have hT2 : h''.get? s.heap.objs.size = some { cls := .type "tuple", data := .seq #[.int i tk, y] } := (sb.2 _ (Nat.ne_of_gt hel)).trans hT
    have new : ObjOk X.prog X.w (upd H s.heap.objs.size (.tup [.int (i : Nat), x])) h'' s.heap.objs.size (.tup [.int (i : Nat), x]) :=
      ⟨by show 2 ≤ sizeLine; decide, [.int i tk, y], .cons ⟨_, rfl⟩ (.cons ru .nil), ⟨_, hT2, rfl, _, rfl⟩⟩
    have I1 : Inv X pins σ (upd H s.heap.objs.size (.tup [.int (i : Nat), x])) { s with heap := h'', toks := tk + 1 } :=
      I.turnedNew (ch := [e, it]) (fun b ob hb q => (sb.2 b (fun z => hb (by simp [z]))).trans (hk b ob (fun z => hb (by simp [z])) (fun z => hb (by simp [z])) q)) hf (Nat.le_refl _) new
    have fr : H s.heap.objs.size = none := I.hok.fresh (Nat.le_refl _)
    refine ⟨.ref s.heap.objs.size, _, I1, rfl, ⟨_, x, rfl, fr, rfl, fun ys hy => by rw [I.tuple_inj hy hq]; exact hx⟩, ⟨⟨y, ?_⟩, hst.1.at fun o q => (sb.2 it (Ne.symm hne)).trans q, hne, hae, hai⟩, fun b hb => ?_⟩
    · have e1 : ((i + 1 : Nat) : Int) = (i : Int) + 1 := by omega
      rw [e1]; exact he'
    · have e' : b = e ∨ b = it := by simpa using hb
      have hb' : b < s.heap.objs.size := by rcases e' with z | z <;> rw [z] <;> assumption
      rw [upd_ne (Nat.ne_of_lt hb')]
      exact (hf b hb).1
  done := by
    intro X hP hw hK hc i pins s σ H E I hf st hg
    subst hP hw hK
    obtain ⟨⟨old, he⟩, hit, hne, hae, hai⟩ := st
    obtain ⟨xs, hq, hx⟩ := hg
    obtain ⟨its, rv, p, hz⟩ := I.tuple hq
    have ht : s.heap.IsTuple a its.toArray := p
    obtain ⟨f0, f1, f2, f3, f4, f5⟩ := hf it (by simp)
    have hl := rv.length
    have hT : s.TypeIs (.ref e) "enumerate" := ⟨_, he, rfl⟩
    refine enum_over (I.ok.hd hc) he hit ht (by simp; omega) fun h' eb => ⟨rfl, I.turned (t' := s.toks) (fun b o hb q => eb b o hb q) f0 f1 f3 f4 f5⟩
  self := fun A i s Q E st h => by
    obtain ⟨⟨_, he⟩, _⟩ := st
    exact wpAny_pyIter_enum he h
def iEnumT (K : PySem.W.Frag) (ta : TA) : TI := fun σ H R => ta σ H fun vs H1 => ∃ a xs, vs = [.ref a] ∧ SqT K H1 a xs ∧ R (IteT K a) H1
theorem pi_enumT {X : Cx} {e : Expr} {ta : TA} {p pos tpos : Pos} {elts : List Expr} {kk : Nat} (hg : Gl X "enumerate") (hm : X.mg "enumerate" = none) (ha : PA X [e] ta) (hs : starEach [e] X.env = [(false, eval e X.env)] := by rfl) :
    PI X (.Tuple elts kk tpos) (.Call (.Name "enumerate" p) [e] [] pos) (iEnumT X.K ta) := by
  refine ⟨fun pins s σ H R I h => ?_⟩
  refine Call_ (ld_blt I hg hm boot_enumerate (PyProof.Rows.callWith_type1 (thn (ha.run pos pins s σ H _ I h) fun us s1 ⟨vs, H1, I1, r1, q1⟩ => ?_) hs rfl))
  obtain ⟨a, xs, ex, hq, q⟩ := q1
  subst ex
  cases r1 with
  | cons r rr =>
    cases rr
    cases r
    obtain ⟨its, rv, pt, hz⟩ := I1.tuple hq
    have ht : s1.heap.IsTuple a its.toArray := pt
    have hal : a < s1.heap.objs.size := by obtain ⟨_, q, _⟩ := ht; exact Heap.lt_size q
    refine enum_call1 (begins_tuple a its.toArray) ht fun h2 he hit hk => wpAny_pyIter_enum he ?_
    have I2 : Inv X pins σ H1 { s1 with heap := h2 } := I1.kept (t' := s1.toks) hk
    refine ⟨s1.heap.objs.size + 1, [s1.heap.objs.size + 1, s1.heap.objs.size], _, _, H1, rfl, I2, turn_enumT a (s1.heap.objs.size + 1) s1.heap.objs.size, ⟨⟨.none, he⟩, ⟨_, hit, rfl, rfl⟩, Nat.succ_ne_self _, Nat.ne_of_lt (Nat.lt_succ_of_lt hal), Nat.ne_of_lt hal⟩, fun b hb => ?_, q⟩
    have e' : b = s1.heap.objs.size + 1 ∨ b = s1.heap.objs.size := by simpa using hb
    have hle : s1.heap.objs.size ≤ b := by rcases e' with z | z <;> rw [z] <;> first | exact Nat.le_succ _ | exact Nat.le_refl _
    exact I1.fpOk hle (I1.hok.fresh hle)
end Lm

set_option Elab.async false
set_option linter.all false
set_option maxRecDepth 100000
set_option maxHeartbeats 2000000
namespace Lm
open PySem PySem.Spec PyProof.Rows L2 LmR
/-! ### defs that may refuse -/
def CalX (P : Program) (w : World) (K : PySem.W.Frag) (mg : Str → Option Value) (base : Heap) (k : Nat) (x : Str) (ps : List Str) (sp : Sp) : Prop :=
  ∃ f fd, FnOk P w K mg base (L2.CX P w) k f fd ps sp ∧ mg x = some (.ref f) ∧ PySem.W.keepIn K (.ref f) = true ∧ Binds K fd ps []
section
variable {P : Program} {w : World} {K : PySem.W.Frag} {mg : Str → Option Value} {base : Heap}
theorem calx_of {x : Str} {st : Stmt} {N ps : List Str} {k : Nat} {sp : Sp} (D : DefAt K mg x st ps) (S : FnScope N ps (defScope st)) (len : ∀ vs H Q E, sp vs H Q E → vs.length = ps.length)
    (hbody : ∀ (f : Addr) (cdv : Value) (A : Around) (outer : List Env) (s : Shared) (H : Hp) (vs : List V) (Q : VK) (E : XK), Room k (A.deeper (envOfC x (defScope st) s.heap.objs.size f cdv)) → sp vs H Q E →
      ∃ t, PSs (cxOf (L2.CX P w) P w K mg base N x (defScope st) f cdv A outer s H E) (defBody st) t ∧ t { nx := fun _ H' => Q .non H', rt := Q } (start N vs) H) : CalX P w K mg base (k + 1) x ps sp := by
  obtain ⟨f, fd, F, b, g⟩ := D
  exact ⟨f, fd, F.okX S len (hbody f), g, F.kp, b⟩
end
theorem pe_calX {X : Cx} {W : WX} {k : Nat} {x : Str} {ps : List Str} {sp : Sp} {e : Expr} {es : List Expr} {t : TA} {p pos : Pos} (C : CalX X.prog X.w X.K X.mg X.base k x ps sp) (tk : Takes X W) (hr : Room k X.A) (hg : Gl X x) (ha : PA X (e :: es) t)
    (hdb : (x == ("__debug__" : Str)) = false := by decide) (he : starEach (e :: es) X.env = (false, eval e X.env) :: starEach es X.env := by rfl) (hpl : (backTo pos (starEach es X.env)).any (·.1) = false := by rfl) :
    PE X (.Call (.Name x p) (e :: es) [] pos) (tCallS sp (WE W) t) := by
  obtain ⟨f, fd, F, g, kp, b⟩ := C
  exact pe_callS F hr hg g kp b (fun σ => passAt tk σ) ha hdb he hpl
/-! ### classes of refusals -/
/-- the class x at C, its __init__ (st) keeps the fields fs -/
structure Rf (K : PySem.W.Frag) (mg : Str → Option Value) (x q : Str) (C fI : Addr) (fd : FuncData) (st : Stmt) (fs : List Str) : Prop where
  g : mg x = some (.ref C)
  o : OexC K C
  f : XfC K C
  k : ExK K C
  te : PySem.W.exmOne K (.ref C) (.ref C) = some true
  fld : ∀ n ∈ fs, PySem.W.findIn K (.ref C) n = some none
  iC : PySem.W.findIn K (.ref C) "__init__" = some (some (.ref fI))
  tI : PySem.W.typeIn K (.ref fI) = some (.type "function")
  F : Fun K "__init__" q st fI fd
  b : Binds K fd ("self" :: fs) []
/-- __init__(self, f, g) -/
def spIni2 (C : Addr) (f g : Str) : Sp := fun vs H Q E => ∃ a x y, vs = [.ref a, x, y] ∧ H a = some (exo a C none) ∧
  ∀ (d : Addr) (H' : Hp), H d = none → H' a = some (exo a C (some d)) → H' d = some (exd d [(g, y), (f, x)]) → (∀ b, b ≠ a → b ≠ d → H' b = H b) → Q .non H'
def spIni1 (C : Addr) (f : Str) : Sp := fun vs H Q E => ∃ a x, vs = [.ref a, x] ∧ H a = some (exo a C none) ∧
  ∀ (d : Addr) (H' : Hp), H d = none → H' a = some (exo a C (some d)) → H' d = some (exd d [(f, x)]) → (∀ b, b ≠ a → b ≠ d → H' b = H b) → Q .non H'
/-- what refusing leaves: the fields at d, all else as it was -/
def Raised (H H' : Hp) (d : Addr) (fs : List (Str × V)) : Prop := H d = none ∧ H' d = some (.xd fs) ∧ ∀ b, b ≠ d → H' b = H b
theorem Raised.same {H H' : Hp} {d : Addr} {fs : List (Str × V)} (r : Raised H H' d fs) : Same H H' := fun b o e => by
  have n : b ≠ d := fun z => by rw [z, r.1] at e; cases e
  rw [r.2.2 b n]; exact e
theorem mk_two {C : Addr} {f g : Str} {x y : V} {H : Hp} {Q : XK} (hq : ∀ d H', Raised H H' d [(g, y), (f, x)] → Q (.ref C) (some d) H') :
    [x, y].length ≤ 1000 ∧ ∀ a, H a = none → spIni2 C f g (.ref a :: ([x, y] ++ [])) (upd H a (exo a C none))
      (fun v H2 => v = .non ∧ ∃ (d : Addr) (fs : List (Str × V)), H2 a = some (exo a C (some d)) ∧ H2 d = some (exd d fs) ∧ H d = none ∧ Q (.ref C) (some d) (upd (del H2 a) d (.xd fs))) (fun _ _ _ => False) := by
  refine ⟨by show 2 ≤ 1000; decide, fun a ha => ⟨a, x, y, rfl, upd_same, fun d H' hd h1 h2 h3 => ⟨rfl, d, _, h1, h2, ?_, hq d _ ⟨?_, upd_same, fun b hb => ?_⟩⟩⟩⟩
  all_goals
    have nd : d ≠ a := fun z => by rw [z, upd_same] at hd; cases hd
  · rw [upd_ne nd] at hd; exact hd
  · rw [upd_ne nd] at hd; exact hd
  · rw [upd_ne hb]
    by_cases z : b = a
    · rw [z, del_same, ha]
    · rw [del_ne z, h3 b z hb, upd_ne z]
theorem mk_one {C : Addr} {f : Str} {x : V} {H : Hp} {Q : XK} (hq : ∀ d H', Raised H H' d [(f, x)] → Q (.ref C) (some d) H') :
    [x].length ≤ 1000 ∧ ∀ a, H a = none → spIni1 C f (.ref a :: ([x] ++ [])) (upd H a (exo a C none))
      (fun v H2 => v = .non ∧ ∃ (d : Addr) (fs : List (Str × V)), H2 a = some (exo a C (some d)) ∧ H2 d = some (exd d fs) ∧ H d = none ∧ Q (.ref C) (some d) (upd (del H2 a) d (.xd fs))) (fun _ _ _ => False) := by
  refine ⟨by show 1 ≤ 1000; decide, fun a ha => ⟨a, x, rfl, upd_same, fun d H' hd h1 h2 h3 => ⟨rfl, d, _, h1, h2, ?_, hq d _ ⟨?_, upd_same, fun b hb => ?_⟩⟩⟩⟩
  all_goals
    have nd : d ≠ a := fun z => by rw [z, upd_same] at hd; cases hd
  · rw [upd_ne nd] at hd; exact hd
  · rw [upd_ne nd] at hd; exact hd
  · rw [upd_ne hb]
    by_cases z : b = a
    · rw [z, del_same, ha]
    · rw [del_ne z, h3 b z hb, upd_ne z]
theorem pass_no {X : Cx} : Passes (L2.CX X.prog X.w) X (fun _ _ _ => False) := fun _ _ _ _ _ _ _ c => by
  obtain ⟨_, _, _, _, _, _, _, _, _, _, _, _, z⟩ := c
  exact z.elim
/-- raise x(e, ..) -/
theorem ps_ref {X : Cx} {W : WX} {x q : Str} {C fI : Addr} {fd : FuncData} {st : Stmt} {fs : List Str} {sp : Sp} {k : Nat} {e : Expr} {es : List Expr} {ta : TA} {p pos pos' : Pos} (R : Rf X.K X.mg x q C fI fd st fs) (F : FnOk X.prog X.w X.K X.mg X.base (L2.CX X.prog X.w) k fI fd ("self" :: fs) sp) (hr : Room (k + 1) X.A)
    (hc : X.calm = true) (tk : Takes X W) (hg : Gl X x) (ha : PA X (e :: es) ta)
    (hdb : (x == ("__debug__" : Str)) = false := by decide) (he : starEach (e :: es) X.env = (false, eval e X.env) :: starEach es X.env := by rfl) (hpl : (backTo pos (starEach es X.env)).any (·.1) = false := by rfl) :
    PS X (.Raise (some (.Call (.Name x p) (e :: es) [] pos)) none pos') (fun _ σ H => tMkO C sp [] ta σ H fun cls d H' => W cls d σ H') :=
  ps_raise hc tk (pmk_oex R.o R.iC R.tI F hr R.b .nil pass_no hg R.g ha hdb he hpl)
end Lm
namespace Lm
open PySem PySem.Spec PyProof.Rows L2 LmR
/-! ### x not in a tuple of texts, x any flat data -/
def strIn (ss : List Str) : PyData → Bool
  | .str s => ss.any fun y => y == s
  | _ => false
def rNotInD (K : PySem.W.Frag) : R2 := fun x y H Q => ∃ (p : Addr) (ss : List Str) (d : PyData), y = .ref p ∧ SqT K H p (ss.map V.str) ∧ Fd K H x d ∧ Q (.bl (!strIn ss d)) H
theorem all_str : ∀ ss : List Str, (ss.map V.str).all flatV = true
  | [] => rfl
  | _ :: ss => by rw [List.map_cons, List.all_cons, all_str ss]; rfl
theorem inV_str (ss : List Str) (x : V) (d : PyData) (h : ∀ y : Str, eqV (.str y) x = strIn [y] d) : inV x (ss.map V.str) = strIn ss d := by
  unfold inV
  induction ss with
  | nil => cases d <;> rfl
  | cons s ss ih =>
    rw [List.map_cons, List.any_cons, ih, h s]
    cases d with
    | str z => simp [strIn]
    | _ => rfl
theorem op_notInD {X : Cx} {K : PySem.W.Frag} (hK : X.K = K) (hu : X.A.units + 1 < cLine) : OpR X (compareOp .NotIn) (rNotInD K) := by
  subst hK
  intro pins s σ H x y v u Q I rx ry h
  obtain ⟨p, ss, d, rfl, hq, ⟨fd, hd⟩, q⟩ := h
  by_cases ht : ∃ ds, d = .tuple ds
  · obtain ⟨ds, rfl⟩ := ht
    cases hd with
    | tup qa r =>
      rename_i a vs
      cases rx
      cases ry
      obtain ⟨its, rv, pl, hz⟩ := I.tuple hq
      obtain ⟨itz, rz, plz, hzz⟩ := I.tuple qa
      refine SeqAt.notIn_tupleAt (fun _ => false) pl (fun w hw => ?_) ⟨.bl _, H, I, rfl, ?_⟩
      · have hw' : w ∈ its := by simpa using hw
        have st : ∀ (ss : List Str) (its : List Value), Vals (ss.map V.str) its → ∀ w ∈ its, ∃ b t, w = .str b t := by
          intro ss
          induction ss with
          | nil => intro its r w hw; cases r; cases hw
          | cons z ss ih =>
            intro its r w hw
            cases r with
            | cons ra rb =>
              rcases List.mem_cons.mp hw with e | e
              · obtain ⟨t, et⟩ := ra
                exact ⟨z, t, e.trans et⟩
              · exact ih _ rb w e
        obtain ⟨b, t, rfl⟩ := st ss its rv w hw'
        exact SeqAt.EqAt.str_tuple b t plz (by first | exact hu | (show X.A.units + 1 < cLine; exact hu) | (have := hu; omega))
      · have e : (!(its.toArray.any fun _ => false)) = !strIn ss (.tuple ds) := by simp [strIn]
        rw [e]
        exact q
  · have fx : flatV x = true ∧ ∀ y : Str, eqV (.str y) x = strIn [y] d := by
      cases hd with
      | non => exact ⟨rfl, fun _ => rfl⟩
      | bl b => exact ⟨rfl, fun _ => rfl⟩
      | int i => exact ⟨rfl, fun _ => rfl⟩
      | str z => exact ⟨rfl, fun y => by simp [strIn, eqV]⟩
      | lst q r => simp [flat] at fd
      | tup q r => exact absurd ⟨_, rfl⟩ ht
    refine op_notIn_seq pins s σ H x _ v u Q I rx ry ⟨p, _, rfl, .inr hq, fx.1, all_str ss, ?_⟩
    rw [if_pos rfl, inV_str ss x d fx.2]
    exact q
/-! ### for i, x in enumerate(tuple) -/
theorem for_enumT {K : PySem.W.Frag} {a : Addr} {xs : List V} {g : TG} {tb : TS} {D : Ends} {σ : L2.St} {H : Hp} (Pv : Nat → L2.St → Hp → Prop) (h0 : Pv 0 σ H) (hq : ∀ i σ H, Pv i σ H → SqT K H a xs)
    (hstep : ∀ i x σ H T, xs[i]? = some x → Pv i σ H → H T = none → g (.ref T) σ (upd H T (.tup [.int (i : Nat), x])) fun σ2 H2 => tb { D with nx := Pv (i + 1), ct := Pv (i + 1), bk := D.nx } σ2 H2)
    (hend : ∀ σ H, Pv xs.length σ H → D.nx σ H) :
    ∃ W : Nat → Nat → L2.St → Hp → Prop, (∃ m, W 0 m σ H) ∧ ∀ i m σ H, W i m σ H →
      ((IteT K a).stop i H ∧ D.nx σ H) ∨ ((IteT K a).go i H ∧ ∃ N : L2.St → Hp → Prop, (∀ σ' H', N σ' H' → ∃ m', m' < m ∧ W (i + 1) m' σ' H') ∧ ∀ x H', (IteT K a).yld i H x H' → g x σ H' fun σ2 H2 => tb { D with nx := N, ct := N, bk := D.nx } σ2 H2) := by
  refine ⟨fun i m σ H => i ≤ xs.length ∧ m = xs.length - i ∧ Pv i σ H, ⟨_, Nat.zero_le _, rfl, h0⟩, fun i m σ H ⟨hi, hm, hp⟩ => ?_⟩
  have hs := hq i σ H hp
  rcases Nat.lt_or_ge i xs.length with hlt | hge
  · obtain ⟨x, hx⟩ : ∃ x, xs[i]? = some x := ⟨xs[i], List.getElem?_eq_getElem hlt⟩
    refine .inr ⟨⟨xs, x, hs, hx⟩, Pv (i + 1), fun σ' H' h' => ⟨xs.length - (i + 1), by omega, hlt, rfl, h'⟩, ?_⟩
    rintro y H' ⟨T, z, rfl, hT, rfl, hz⟩
    have e := hz xs hs
    rw [hx] at e
    cases e
    exact hstep i x σ H T hx hp hT
  · have e : i = xs.length := Nat.le_antisymm hi hge
    refine .inl ⟨⟨xs, hs, hge⟩, hend σ H (e ▸ hp)⟩
/-- the defs within a class -/
def clsBody : Stmt → List Stmt
  | .ClassDef _ _ _ b _ _ _ _ _ _ _ => b
  | _ => []
end Lm
namespace Lm
open PySem PySem.Spec PyProof.Rows L2 LmR
/-- isinstance(e, c), e the exception at a, of the class at C, its fields at dd -/
def rIsX (K : PySem.W.Frag) (C a dd : Addr) : List V → Hp → VK → Prop := fun xs H Q => ∃ (D : Addr) (b : Bool), xs = [.ref a, .ref D] ∧ PySem.W.kitOne K (.ref C) (.ref D) = some b ∧ (∃ fs, H dd = some (.xd fs)) ∧ Q (.bl b) H
theorem call_isX {X : Cx} {a C dd : Addr} {oe : Obj} (k : ExK X.K C) (hz : Zc (.ref C) (some dd) oe) (hf : ∃ vs, oe.data = .fields vs) (hp : (a, oe) ∈ X.pn) : CallR X (.builtin "isinstance") (rIsX X.K C a dd) := by
  intro pins s σ H xs us Q I r h
  obtain ⟨D, b, rfl, e, ⟨fs, ea⟩, q⟩ := h
  obtain ⟨u1, u2, rfl, r1, r2⟩ := vals2 r
  cases (show u1 = Value.ref a from r1)
  cases (show u2 = Value.ref D from r2)
  obtain ⟨ha, _⟩ := I.pin (a, oe) (List.mem_append_left _ hp)
  obtain ⟨vs, hd⟩ := hf
  have hx : ObjOk X.prog X.w H s.heap dd (.xd fs) := I.hok dd _ ea
  obtain ⟨mA, hns, hr⟩ := hx
  obtain ⟨od, ho, hl⟩ := lookIn_ns hns
  have J : PySem.W.InstAt s.heap a oe C (some od) := ⟨ha, hz.1, by unfold PySem.W.notCls; rw [hd] <;> rfl, by rw [hz.2]; exact ho⟩
  exact PySem.W.kia_one (PySem.W.kitx_exc k.cl k.ga k.gg k.ex k.ca k.gn k.tk k.ob) I.kIn J e (fun z => nomatch z) fun tk => ⟨.bl b, H, I.tok tk, rfl, q⟩
/-- the twelve classes, and of which of them the class at C is -/
structure Srt (K : PySem.W.Frag) (mg : Str → Option Value) (C : Addr) (c1 c2 c3 c4 c5 c6 c7 c8 c9 c10 c11 c12 : Addr) (b1 b2 b3 b4 b5 b6 b7 b8 b9 b10 b11 b12 : Bool) : Prop where
  g1 : mg "NoHead" = some (.ref c1)
  g2 : mg "NoProgram" = some (.ref c2)
  g3 : mg "NoText" = some (.ref c3)
  g4 : mg "NoStock" = some (.ref c4)
  g5 : mg "NoAnswer" = some (.ref c5)
  g6 : mg "NoInputs" = some (.ref c6)
  g7 : mg "Clash" = some (.ref c7)
  g8 : mg "NoRow" = some (.ref c8)
  g9 : mg "NoQuestion" = some (.ref c9)
  g10 : mg "NoDoer" = some (.ref c10)
  g11 : mg "NotKept" = some (.ref c11)
  g12 : mg "NoName" = some (.ref c12)
  k1 : PySem.W.kitOne K (.ref C) (.ref c1) = some b1
  k2 : PySem.W.kitOne K (.ref C) (.ref c2) = some b2
  k3 : PySem.W.kitOne K (.ref C) (.ref c3) = some b3
  k4 : PySem.W.kitOne K (.ref C) (.ref c4) = some b4
  k5 : PySem.W.kitOne K (.ref C) (.ref c5) = some b5
  k6 : PySem.W.kitOne K (.ref C) (.ref c6) = some b6
  k7 : PySem.W.kitOne K (.ref C) (.ref c7) = some b7
  k8 : PySem.W.kitOne K (.ref C) (.ref c8) = some b8
  k9 : PySem.W.kitOne K (.ref C) (.ref c9) = some b9
  k10 : PySem.W.kitOne K (.ref C) (.ref c10) = some b10
  k11 : PySem.W.kitOne K (.ref C) (.ref c11) = some b11
  k12 : PySem.W.kitOne K (.ref C) (.ref c12) = some b12
def Sorts (K : PySem.W.Frag) (mg : Str → Option Value) (C : Addr) (bs : List Bool) : Prop := ∃ c1 c2 c3 c4 c5 c6 c7 c8 c9 c10 c11 c12 b1 b2 b3 b4 b5 b6 b7 b8 b9 b10 b11 b12,
  Srt K mg C c1 c2 c3 c4 c5 c6 c7 c8 c9 c10 c11 c12 b1 b2 b3 b4 b5 b6 b7 b8 b9 b10 b11 b12 ∧ bs = [b1, b2, b3, b4, b5, b6, b7, b8, b9, b10, b11, b12]
def spSorts (C a : Addr) (cls : Value) (d : Option Addr) (bs : List Bool) : Sp := fun vs H Q _ => vs = [.ref a] ∧ cls = .ref C ∧ ∃ dd fs, d = some dd ∧ H dd = some (.xd fs) ∧ ∀ H' l, Same H H' → H' l = some (.lst (bs.map V.bl)) → Q (.ref l) H'
end Lm

set_option Elab.async false
set_option linter.all false
set_option maxRecDepth 100000
set_option maxHeartbeats 2000000
namespace Lm
open PySem PySem.Spec PyProof.Rows L2 LmR
theorem call_isiK {X : Cx} {K : PySem.W.Frag} (h : X.K = K) : CallR X (.builtin "isinstance") (rIsi K) := h ▸ call_isi
theorem walk_enumT {K : PySem.W.Frag} {a : Addr} {xs : List V} : Walk (IteT K a) xs.length (fun H => SqT K H a xs) (YPair (fun i => some (.int (i : Nat))) (fun i => xs[i]?)) := by
  refine ⟨fun i H hi q => ⟨xs, xs[i], q, by simp [hi]⟩, fun H q => ⟨xs, q, Nat.le_refl _⟩, fun i H x H' hi q y => ?_⟩
  obtain ⟨T, z, h1, h2, h3, h4⟩ := y
  exact ⟨T, _, z, h1, h2, h3, rfl, h4 xs q⟩
end Lm

set_option Elab.async false
set_option linter.all false
set_option maxRecDepth 100000
set_option maxHeartbeats 2000000
namespace Lm
open PySem PySem.Spec PyProof.Rows L2 LmR
/-! ### defs with a parameter that is written by its name, or left out -/
def DefKw (K : PySem.W.Frag) (mg : Str → Option Value) (x : Str) (st : Stmt) (ps : List Str) (n : Nat) (ks : List Str) (dvs : List V) : Prop :=
  ∃ f fd, Fun K x x st f fd ∧ mg x = some (.ref f) ∧ KBn K fd ps n ks (fun us ws => us ++ ws) (fun us ws => us ++ ws) ∧ ∃ ds, Vals dvs ds ∧ Binds K fd ps ds
def CalKw (P : Program) (w : World) (K : PySem.W.Frag) (mg : Str → Option Value) (base : Heap) (k : Nat) (x : Str) (ps : List Str) (n : Nat) (ks : List Str) (dvs : List V) (sp : Sp) : Prop :=
  ∃ f fd, FnOk P w K mg base CX0 k f fd ps sp ∧ mg x = some (.ref f) ∧ PySem.W.keepIn K (.ref f) = true ∧ KBn K fd ps n ks (fun us ws => us ++ ws) (fun us ws => us ++ ws) ∧ ∃ ds, Vals dvs ds ∧ Binds K fd ps ds
section
variable {P : Program} {w : World} {K : PySem.W.Frag} {mg : Str → Option Value} {base : Heap}
theorem CalKw.mono {j k : Nat} {x : Str} {ps : List Str} {n : Nat} {ks : List Str} {dvs : List V} {sp : Sp} (c : CalKw P w K mg base j x ps n ks dvs sp) (h : j ≤ k) : CalKw P w K mg base k x ps n ks dvs sp := by
  obtain ⟨f, fd, F, g⟩ := c
  exact ⟨f, fd, F.mono h, g⟩
theorem calkw_of {x : Str} {st : Stmt} {N ps : List Str} {k n : Nat} {ks : List Str} {dvs : List V} {sp : Sp} (D : DefKw K mg x st ps n ks dvs) (S : FnScope N ps (defScope st)) (len : ∀ vs H Q E, sp vs H Q E → vs.length = ps.length)
    (hbody : ∀ (f : Addr) (cdv : Value) (A : Around) (outer : List Env) (s : Shared) (H : Hp) (vs : List V) (Q : VK) (E : XK), Room k (A.deeper (envOfC x (defScope st) s.heap.objs.size f cdv)) → sp vs H Q E →
      ∃ t, PSs (cxOf CX0 P w K mg base N x (defScope st) f cdv A outer s H E).nox (defBody st) t ∧ t { nx := fun _ H' => Q .non H', rt := Q } (start N vs) H) : CalKw P w K mg base (k + 1) x ps n ks dvs sp := by
  obtain ⟨f, fd, F, g, b⟩ := D
  exact ⟨f, fd, F.ok S len (hbody f), g, F.kp, b⟩
end
/-- f(e, .., k = v) -/
theorem pe_calK {X : Cx} {k n : Nat} {x : Str} {ps ks : List Str} {dvs : List V} {sp : Sp} {e : Expr} {es : List Expr} {kws : List Keyword} {t tk : TA} {p pos : Pos} (C : CalKw X.prog X.w X.K X.mg X.base k x ps n ks dvs sp) (hr : Room k X.A) (hg : Gl X x) (ha : PA X (e :: es) t) (hkw : PK X kws tk)
    (hall : (backToKw pos (keywordEach kws X.env)).all (·.1.isSome) = true := by rfl) (hks : (backToKw pos (keywordEach kws X.env)).filterMap (·.1) = ks := by rfl) (hdb : (x == ("__debug__" : Str)) = false := by decide) (he : starEach (e :: es) X.env = (false, eval e X.env) :: starEach es X.env := by rfl)
    (hpl : ((backTo pos (starEach (e :: es) X.env)).any (·.1) || (backToKw pos (keywordEach kws X.env)).any (·.1.isNone)) = false := by rfl) :
    PE X (.Call (.Name x p) (e :: es) kws pos) (tCallN n ks.length sp (fun us ws => us ++ ws) (fun _ _ _ => False) t tk) := by
  obtain ⟨f, fd, F, g, kp, b, _⟩ := C
  exact pe_callN F hr hg g kp b pass0 ha hkw hall hks hdb he hpl
/-- f(e, ..), what is written by its name left out -/
theorem pe_calD {X : Cx} {k n : Nat} {x : Str} {ps ks : List Str} {dvs : List V} {sp : Sp} {e : Expr} {es : List Expr} {t : TA} {p pos : Pos} (C : CalKw X.prog X.w X.K X.mg X.base k x ps n ks dvs sp) (hr : Room k X.A) (hg : Gl X x) (ha : PA X (e :: es) t)
    (hdb : (x == ("__debug__" : Str)) = false := by decide) (he : starEach (e :: es) X.env = (false, eval e X.env) :: starEach es X.env := by rfl) (hpl : (backTo pos (starEach es X.env)).any (·.1) = false := by rfl) :
    PE X (.Call (.Name x p) (e :: es) [] pos) (tCall sp dvs (fun _ _ _ => False) t) := by
  obtain ⟨f, fd, F, g, kp, _, ds, hd, b⟩ := C
  exact pe_call F hr hg g kp b hd pass0 ha hdb he hpl
/-- how a def of one parameter and one that may be left out binds -/
theorem defkw_mk {K : PySem.W.Frag} {h : Heap} {mg : Str → Option Value} {x y z : Str} {st : Stmt} {f D : Addr} {oc : Value} {od an : Option Addr} {osl : Array (Option Value)} {doc pm cdv ct u : Value} {v : V} (X : K.In h) (G : h.Ns mainGlobals mg)
    (a : PySem.W.nsIn K mainGlobals x = some (some (.ref f))) (l : K.lookup f = some ⟨oc, od, .func (PySem.W.fnOf x x (defArgs st) (defBody st) (defScope st) .none (.ref D) doc pm an cdv ct), osl⟩) (c : PySem.W.codeIn K cdv x = true) (k : PySem.W.keepIn K (.ref f) = true)
    (d : PySem.W.nsIn K D z = some (some u)) (r : RelV v u)
    (hb : ∀ (doc pm : Value) (an : Option Addr) (cdv ct u w : Value), bindArgs (PySem.W.fnOf x x (defArgs st) (defBody st) (defScope st) .none (.ref D) doc pm an cdv ct) ⟨[u], [(z, w)]⟩ = pure [(y, u), (z, w)])
    (hd : ∀ (doc pm : Value) (an : Option Addr) (cdv ct u w : Value), KwChain D [(z, w)] (bindArgs (PySem.W.fnOf x x (defArgs st) (defBody st) (defScope st) .none (.ref D) doc pm an cdv ct) ⟨[u], []⟩) [(y, u), (z, w)]) : DefKw K mg x st [y, z] 1 [z] [v] := by
  refine ⟨f, _, fun_mk l c k, PySem.W.mg_of X G a, ⟨fun s us ws _ l1 l2 => ?_, fun r1 r2 => r1.append r2⟩, [u], .cons r .nil, fun s us X' hl => ?_⟩
  · match us, ws, l1, l2 with
    | [u'], [w'], _, _ => exact .of_eq (hb _ _ _ _ _ u' w')
  · have l1 : us.length = 1 := by simpa using hl
    match us, l1 with
    | [u'], _ => exact BindsTo.of_looks fun M => KwChain.looks X' (fun q hq => by rw [List.mem_singleton.mp hq]; exact d) (hd _ _ _ _ _ u' u)
end Lm

set_option Elab.async false
set_option linter.all false
namespace Lm
open PySem PySem.Spec PyProof.Rows L2 LmR
/-- a < b of data of a Lean type -/
def rLtDat (α : Type) [DecidableEq α] [PySem.W.DatumOrd α] (K : PySem.W.Frag) : R2 := fun x y H Q => ∃ a b : α, Dp K H x (PySem.W.Datum.toD a) ∧ Dp K H y (PySem.W.Datum.toD b) ∧ Q (.bl (PySem.W.DatumOrd.lt a b)) H
theorem op_ltDat {X : Cx} {α : Type} [DecidableEq α] [PySem.W.DatumOrd α] (hu : X.A.units + PySem.W.Datum.depth α < cLine) : OpR X (compareOp .Lt) (rLtDat α X.K) := by
  intro pins s σ H x y v u Q I rx ry h
  obtain ⟨a, b, ha, hb, q⟩ := h
  exact PySem.W.lt_datum (x := a) (y := b) (Dp.reads I _ x v ha rx) (Dp.reads I _ y u hb ry) hu ⟨.bl _, H, I, rfl, q⟩
end Lm

set_option Elab.async false
set_option linter.all false
set_option maxRecDepth 100000
namespace Lm
open PySem PySem.Spec PyProof.Rows L2 LmR
mutual
theorem dp_same {K : PySem.W.Frag} {H H' : Hp} (s : Same H H') : ∀ (d : PyData) (v : V), Dp K H v d → Dp K H' v d
  | .none, _, h => by cases h; exact .non
  | .bool b, _, h => by cases h; exact .bl b
  | .int i, _, h => by cases h; exact .int i
  | .str x, _, h => by cases h; exact .str x
  | .list ds, _, h => by
    cases h with
    | lst q r => exact .lst (s.seq q) (dps_same s ds _ r)
  | .tuple ds, _, h => by
    cases h with
    | tup q r => exact .tup (Tp.same s _ _ q) (dps_same s ds _ r)
  | .dict ds, _, h => by cases h
theorem dps_same {K : PySem.W.Frag} {H H' : Hp} (s : Same H H') : ∀ (ds : List PyData) (vs : List V), DpAll K H vs ds → DpAll K H' vs ds
  | [], _, h => by cases h; exact .nil
  | d :: ds, _, h => by
    cases h with
    | cons a b => exact .cons (dp_same s d _ a) (dps_same s ds _ b)
end
theorem defkw_mk2 {K : PySem.W.Frag} {h : Heap} {mg : Str → Option Value} {x y1 y2 z : Str} {st : Stmt} {f D : Addr} {oc : Value} {od an : Option Addr} {osl : Array (Option Value)} {doc pm cdv ct u : Value} {v : V} (X : K.In h) (G : h.Ns mainGlobals mg)
    (a : PySem.W.nsIn K mainGlobals x = some (some (.ref f))) (l : K.lookup f = some ⟨oc, od, .func (PySem.W.fnOf x x (defArgs st) (defBody st) (defScope st) .none (.ref D) doc pm an cdv ct), osl⟩) (c : PySem.W.codeIn K cdv x = true) (k : PySem.W.keepIn K (.ref f) = true)
    (d : PySem.W.nsIn K D z = some (some u)) (r : RelV v u)
    (hb : ∀ (doc pm : Value) (an : Option Addr) (cdv ct u1 u2 w : Value), bindArgs (PySem.W.fnOf x x (defArgs st) (defBody st) (defScope st) .none (.ref D) doc pm an cdv ct) ⟨[u1, u2], [(z, w)]⟩ = pure [(y1, u1), (y2, u2), (z, w)])
    (hd : ∀ (doc pm : Value) (an : Option Addr) (cdv ct u1 u2 w : Value), KwChain D [(z, w)] (bindArgs (PySem.W.fnOf x x (defArgs st) (defBody st) (defScope st) .none (.ref D) doc pm an cdv ct) ⟨[u1, u2], []⟩) [(y1, u1), (y2, u2), (z, w)]) : DefKw K mg x st [y1, y2, z] 2 [z] [v] := by
  refine ⟨f, _, fun_mk l c k, PySem.W.mg_of X G a, ⟨fun s us ws _ l1 l2 => ?_, fun r1 r2 => r1.append r2⟩, [u], .cons r .nil, fun s us X' hl => ?_⟩
  · match us, ws, l1, l2 with
    | [u1, u2], [w'], _, _ => exact .of_eq (hb _ _ _ _ _ u1 u2 w')
  · have l1 : us.length = 2 := by simpa using hl
    match us, l1 with
    | [u1, u2], _ => exact BindsTo.of_looks fun M => KwChain.looks X' (fun q hq => by rw [List.mem_singleton.mp hq]; exact d) (hd _ _ _ _ _ u1 u2 u)
end Lm

set_option Elab.async false
set_option linter.all false
set_option maxRecDepth 100000
set_option maxHeartbeats 2000000
namespace Lm
open PySem PySem.Spec PyProof.Rows L2 LmR
def topS (i : Nat) : Stmt := PySem.Challenge.pw_leastmaker_k16_whole_lighter_parts.main.body.getD i (.Pass ⟨0, 0, 0, 0⟩)
section
variable {P : Program} {w : World} {K : PySem.W.Frag} {mg : Str → Option Value} {base : Heap}
/-! ### cell, flow, draw -/
abbrev s_l_cell : Stmt := topS 16
theorem sc_l_cell : FnScope ["_law_script", "_law_k", "_law_number"] ["_law_script", "_law_k"] (defScope s_l_cell) := ⟨rfl, rfl, rfl, by decide +kernel, rfl, by decide +kernel, by decide +kernel⟩
def spCell (K : PySem.W.Frag) : Sp := fun vs H Q _ => ∃ (a : Addr) (ns : List Int) (k : Int), vs = [.ref a, .int k] ∧ SqL K H a (ns.map V.int) ∧ 0 ≤ k ∧ ∀ i, Q (.int i) H
theorem ok_l_cell (B : Bt mg) (D : DefAt K mg "_law_cell" s_l_cell ["_law_script", "_law_k"]) : Cal P w K mg base 1 "_law_cell" ["_law_script", "_law_k"] (spCell K) := by
  refine cal_of D sc_l_cell (fun vs H Q E h => ?_) (fun f cdv A outer s H vs Q E hr h => ?_)
  · obtain ⟨a, ns, k, rfl, _⟩ := h
    rfl
  obtain ⟨a, ns, k, rfl, hS, h0, q⟩ := h
  refine ⟨_, (pss_cons (ps_if (pt_cmpR op_lt (pv 1) (pe_callB call_len_seq (by rfl) B.len PySem.boot_len (pa_cons (pv 0) pa_nil)) (nomark _))
        (pss_one (ps_ret (pe_ix ix_list (pv 0) (pv 1) (fun _ _ => rfl))))
        pss_nil)
      (pss_cons (ps_set (i := 2) sc_l_cell.nd rfl (.inl rfl) (pe_op op_add (pe_op op_mul (pv 1) pe_int) pe_int))
      (pss_cons (ps_if (pt_cmpR op_gt (pe_callB call_len_seq (by rfl) B.len PySem.boot_len (pa_cons (pv 0) pa_nil)) pe_int (nomark _))
        (pss_one (ps_set (i := 2) sc_l_cell.nd rfl (.inl rfl) (pe_op op_add (pe_op op_mul (pe_op op_mod (pe_ix ix_list (pv 0) (pe_op op_mod (pe_op op_mul (pv 1) pe_int) (pe_callB call_len_seq (by rfl) B.len PySem.boot_len (pa_cons (pv 0) pa_nil))) (fun _ _ => rfl)) pe_int) pe_int) (pe_op op_mul (pv 1) pe_int))))
        pss_nil)
      (pss_one (ps_ret (pe_op op_mul (pe_op op_mod (pv 2) pe_int) pe_int)))))), ?_⟩
  have hl : (ns.map V.int).length = ns.length := List.length_map _
  refine ⟨_, rfl, _, rfl, a, _, rfl, .inl hS, _, _, rfl, rfl, _, rfl, ite2 (fun c => ?_) (fun c => ?_)⟩
  · have c' : k < (((ns.map V.int).length : Nat) : Int) := of_decide_eq_true c
    rw [hl] at c'
    have e : (ns.map V.int)[k.toNat]? = some (.int ns[k.toNat]) := by
      rw [List.getElem?_map, List.getElem?_eq_getElem (by omega)]
      rfl
    exact ⟨_, rfl, _, rfl, a, _, _, _, rfl, rfl, hS, at_of (j := k.toNat) (by omega) e, q _⟩
  · refine ⟨_, rfl, _, _, rfl, rfl, .inr ⟨by decide, by decide⟩, _, _, rfl, rfl, ?_⟩
    refine ⟨_, rfl, a, _, rfl, .inl hS, _, _, rfl, rfl, _, rfl, ite2 (fun c2 => ?_) (fun c2 => ?_)⟩
    · have c2' : (((ns.map V.int).length : Nat) : Int) > 0 := of_decide_eq_true c2
      rw [hl] at c2'
      have hp : (0 : Int) < (((ns.map V.int).length : Nat) : Int) := by rw [hl]; omega
      have b1 : 0 ≤ (k * 7) % (((ns.map V.int).length : Nat) : Int) := Int.emod_nonneg _ (by omega)
      have b2 : (k * 7) % (((ns.map V.int).length : Nat) : Int) < (((ns.map V.int).length : Nat) : Int) := Int.emod_lt_of_pos _ hp
      generalize hj : (k * 7) % (((ns.map V.int).length : Nat) : Int) = j at b1 b2
      rw [hl] at b2
      have e : (ns.map V.int)[j.toNat]? = some (.int ns[j.toNat]) := by
        rw [List.getElem?_map, List.getElem?_eq_getElem (by omega)]
        rfl
      have m1 : 0 ≤ ns[j.toNat] % 2147483629 := Int.emod_nonneg _ (by decide)
      have m2 : ns[j.toNat] % 2147483629 < 2147483629 := Int.emod_lt_of_pos _ (by decide)
      refine ⟨_, rfl, _, rfl, _, _, rfl, rfl, .inr ⟨by decide, by decide⟩, _, rfl, a, _, rfl, .inl hS, _, _, rfl, rfl, hp, a, _, _, V.int ns[j.toNat], rfl, rfl, hS, ?_, _, _, rfl, rfl, (by show (0 : Int) < 2147483629; decide), _, _, rfl, rfl, .inl ⟨by omega, by omega⟩, _, rfl, _, _, rfl, rfl, .inr ⟨by decide, by decide⟩, _, _, rfl, rfl, ?_⟩
      · rw [hj]
        exact at_of (j := j.toNat) (by omega) e
      · have n1 := Int.emod_nonneg (ns[j.toNat] % 2147483629 * 48271 + k * 7919) (show (2147483647 : Int) ≠ 0 by decide)
        have n2 := Int.emod_lt_of_pos (ns[j.toNat] % 2147483629 * 48271 + k * 7919) (show (0 : Int) < 2147483647 by decide)
        exact ⟨_, rfl, _, _, rfl, rfl, (by show (0 : Int) < 2147483647; decide), _, _, rfl, rfl, .inr ⟨by decide, by decide⟩, q _⟩
    · exact ⟨_, rfl, _, _, rfl, rfl, (by show (0 : Int) < 2147483647; decide), _, _, rfl, rfl, .inr ⟨by decide, by decide⟩, q _⟩
/-! the flow that is drawn from -/
def Flow (H : Hp) (f : Addr) : Prop := ∃ own cnt seed : Int, H f = some (.lst [.int own, .int cnt, .int seed]) ∧ 0 ≤ seed ∧ seed < 2 ^ 40
abbrev s_l_flow : Stmt := topS 17
theorem sc_l_flow : FnScope ["_law_script", "_law_k", "_law_cell_here", "_law_own_here"] ["_law_script", "_law_k"] (defScope s_l_flow) := ⟨rfl, rfl, rfl, by decide +kernel, rfl, by decide +kernel, by decide +kernel⟩
def spFlow (K : PySem.W.Frag) : Sp := fun vs H Q _ => ∃ (a : Addr) (ns : List Int) (k : Int), vs = [.ref a, .int k] ∧ SqL K H a (ns.map V.int) ∧ 0 ≤ k ∧ k ≤ 63 ∧ ∀ (p : Addr) (o : HO), H p = none → Flow (upd H p o) p → Q (.ref p) (upd H p o)
theorem ok_l_flow (C_l_cell : Cal P w K mg base 1 "_law_cell" ["_law_script", "_law_k"] (spCell K)) (D : DefAt K mg "_law_flow" s_l_flow ["_law_script", "_law_k"]) : Cal P w K mg base 2 "_law_flow" ["_law_script", "_law_k"] (spFlow K) := by
  refine cal_of D sc_l_flow (fun vs H Q E h => ?_) (fun f cdv A outer s H vs Q E hr h => ?_)
  · obtain ⟨a, ns, k, rfl, _⟩ := h
    rfl
  obtain ⟨a, ns, k, rfl, hS, h0, h1, q⟩ := h
  have hr' : Room 1 _ := hr
  refine ⟨_, (pss_cons (ps_set (i := 2) sc_l_flow.nd rfl (.inl rfl) (pe_cal C_l_cell hr' (by rfl) (pa_cons (pv 0) (pa_cons (pv 1) pa_nil))))
      (pss_cons (ps_set (i := 3) sc_l_flow.nd rfl (.inl rfl) pe_int)
      (pss_cons (ps_if (pt_cmpR op_ge (pv 2) (pe_op op_pow pe_int pe_int) (nomark _))
        (pss_one (ps_set (i := 3) sc_l_flow.nd rfl (.inl rfl) (pv 2)))
        pss_nil)
      (pss_one (ps_ret (pe_lst (pa_cons (pv 3) (pa_cons pe_int (pa_cons (pe_op op_add (pe_op op_mod (pv 2) pe_int) (pe_op op_mul pe_int (pv 1))) pa_nil))))))))), ?_⟩
  refine ⟨_, rfl, _, rfl, a, ns, k, rfl, hS, h0, fun i => ?_⟩
  have m1 : 0 ≤ i % 2147483629 := Int.emod_nonneg _ (by decide)
  have m2 : i % 2147483629 < 2147483629 := Int.emod_lt_of_pos _ (by decide)
  have pw : CPow 10 18 := ⟨by decide, by decide, by decide⟩
  refine ⟨_, rfl, _, _, rfl, rfl, pw, _, _, rfl, rfl, _, rfl, ite2 (fun c => ?_) (fun c => ?_)⟩
  · refine ⟨_, rfl, _, rfl, _, rfl, _, _, rfl, rfl, (by show (0 : Int) < 2147483629; decide), _, rfl, _, _, rfl, rfl, .inl ⟨by decide, by decide⟩, _, _, rfl, rfl, (by show 3 ≤ sizeLine; decide), fun p hp => q p _ hp ⟨_, _, _, upd_same, by omega, by omega⟩⟩
  · refine ⟨_, rfl, _, rfl, _, _, rfl, rfl, (by show (0 : Int) < 2147483629; decide), _, rfl, _, _, rfl, rfl, .inl ⟨by decide, by decide⟩, _, _, rfl, rfl, (by show 3 ≤ sizeLine; decide), fun p hp => q p _ hp ⟨_, _, _, upd_same, by omega, by omega⟩⟩
/-- the flow at f was drawn from, nothing else changed -/
structure Dr (f : Addr) (H H' : Hp) : Prop where
  off : ∀ b, b ≠ f → H' b = H b
  fl : Flow H' f
theorem Flow.lst {H : Hp} {f : Addr} (h : Flow H f) : ∃ xs, H f = some (.lst xs) := by
  obtain ⟨a, b, c, e, _⟩ := h
  exact ⟨_, e⟩
theorem Dr.ex {f : Addr} {H H' : Hp} (d : Dr f H H') : Ex [f] H H' := fun b o h n => by
  rw [d.off b (fun z => n (by rw [z]; simp))]
  exact h
theorem Dr.trans {f : Addr} {H H1 H2 : Hp} (a : Dr f H H1) (b : Dr f H1 H2) : Dr f H H2 := ⟨fun c n => (b.off c n).trans (a.off c n), b.fl⟩
theorem Dr.tp {f : Addr} {H H' : Hp} (d : Dr f H H') (h : Flow H f) : Tp K H H' := by
  obtain ⟨xs, e⟩ := h.lst
  refine d.ex.tp fun b hb ys q => ?_
  rw [List.mem_singleton.mp hb] at q
  rcases q with q | ⟨o, q⟩
  · rw [e] at q; cases q
  · rw [e] at q; cases q
abbrev s_l_draw : Stmt := topS 18
theorem sc_l_draw : FnScope ["_law_flow_here", "_law_many", "_law_number", "_law_digit"] ["_law_flow_here", "_law_many"] (defScope s_l_draw) := ⟨rfl, rfl, rfl, by decide +kernel, rfl, by decide +kernel, by decide +kernel⟩
def spDraw : Sp := fun vs H Q _ => ∃ (f : Addr) (m : Int), vs = [.ref f, .int m] ∧ Flow H f ∧ 0 < m ∧ m < 1073741824 ∧ ∀ (d : Int) (H' : Hp), 0 ≤ d → d < m → Dr f H H' → Q (.int d) H'
theorem dr_put {f : Addr} {H H0 : Hp} {xs : List V} (o : ∀ b, b ≠ f → H0 b = H b) (fl : Flow (upd H0 f (.lst xs)) f) : Dr f H (upd H0 f (.lst xs)) := ⟨fun b n => by rw [upd_ne n]; exact o b n, fl⟩
theorem ok_l_draw (D : DefAt K mg "_law_draw" s_l_draw ["_law_flow_here", "_law_many"]) : Cal P w K mg base 1 "_law_draw" ["_law_flow_here", "_law_many"] (spDraw) := by
  refine cal_of D sc_l_draw (fun vs H Q E h => ?_) (fun f cdv A outer s H vs Q E hr h => ?_)
  · obtain ⟨a, m, rfl, _⟩ := h
    rfl
  obtain ⟨a, m, rfl, ⟨own, cnt, seed, hf, s0, s1⟩, m0, m1, q⟩ := h
  refine ⟨_, (pss_cons (ps_if (pt_cmpR op_gt (pe_ix ix_list (pv 0) pe_int (fun _ _ => rfl)) pe_int (nomark _))
        (pss_cons (ps_set (i := 3) sc_l_draw.nd rfl (.inl rfl) (pe_op op_mod (pe_ix ix_list (pv 0) pe_int (fun _ _ => rfl)) (pv 1)))
      (pss_cons (ps_asg (pe_op op_fdiv (pe_ix ix_list (pv 0) pe_int (fun _ _ => rfl)) (pv 1)) (pg_sub (pv 0) pe_int set_list))
      (pss_one (ps_ret (pv 3)))))
        pss_nil)
      (pss_cons (ps_asg (pe_op op_add (pe_ix ix_list (pv 0) pe_int (fun _ _ => rfl)) pe_int) (pg_sub (pv 0) pe_int set_list))
      (pss_cons (ps_set (i := 2) sc_l_draw.nd rfl (.inl rfl) (pe_op op_mod (pe_op op_add (pe_op op_add (pe_op op_mul (pe_ix ix_list (pv 0) pe_int (fun _ _ => rfl)) (pe_op op_add pe_int (pe_op op_mul pe_int (pe_ix ix_list (pv 0) pe_int (fun _ _ => rfl))))) (pe_op op_mul pe_int (pe_ix ix_list (pv 0) pe_int (fun _ _ => rfl)))) pe_int) pe_int))
      (pss_cons (ps_set (i := 2) sc_l_draw.nd rfl (.inl rfl) (pe_op op_mod (pe_op op_mul (pv 2) (pv 2)) pe_int))
      (pss_one (ps_ret (pe_op op_mod (pe_op op_fdiv (pe_op op_mod (pe_op op_mul (pe_op op_add (pv 2) pe_int) (pe_op op_add (pv 2) pe_int)) pe_int) pe_int) (pv 1)))))))), ?_⟩
  have L : SqL K H a [.int own, .int cnt, .int seed] := SqL.of hf
  refine ⟨_, rfl, a, _, 0, .int own, rfl, rfl, L, rfl, _, _, rfl, rfl, _, rfl, ite2 (fun c => ?_) (fun c => ?_)⟩
  · have b1 : 0 ≤ own % m := Int.emod_nonneg _ (by omega)
    have b2 : own % m < m := Int.emod_lt_of_pos _ m0
    refine ⟨_, rfl, a, _, 0, .int own, rfl, rfl, L, rfl, _, rfl, _, _, rfl, rfl, m0, ?_⟩
    refine ⟨_, rfl, a, _, 0, .int own, rfl, rfl, L, rfl, _, rfl, _, _, rfl, rfl, ⟨m0, m1⟩, ?_⟩
    refine ⟨_, rfl, a, _, 0, 0, rfl, rfl, hf, rfl, ?_⟩
    exact ⟨_, rfl, q _ _ b1 b2 (dr_put (fun _ _ => rfl) ⟨_, _, _, upd_same, s0, s1⟩)⟩
  · refine ⟨_, rfl, a, _, 1, .int cnt, rfl, rfl, L, rfl, _, _, rfl, rfl, ?_⟩
    refine ⟨_, rfl, a, _, 1, 1, rfl, rfl, hf, rfl, ?_⟩
    have hf2 : (upd H a (.lst (List.set [.int own, .int cnt, .int seed] 1 (.int (cnt + 1))))) a = some (.lst [.int own, .int (cnt + 1), .int seed]) := upd_same
    generalize hH : upd H a (.lst (List.set [.int own, .int cnt, .int seed] 1 (.int (cnt + 1)))) = H2 at hf2
    have off : ∀ b, b ≠ a → H2 b = H b := fun b n => by
      rw [← hH, upd_ne n]
    have L2' : SqL K H2 a [.int own, .int (cnt + 1), .int seed] := SqL.of hf2
    refine ⟨_, rfl, a, _, 2, .int seed, rfl, rfl, L2', rfl, _, rfl, a, _, 1, .int (cnt + 1), rfl, rfl, L2', rfl, _, _, rfl, rfl, .inl ⟨by decide, by decide⟩, _, _, rfl, rfl, _, _, rfl, rfl, .inl ⟨by omega, by omega⟩, ?_⟩
    refine ⟨_, rfl, a, _, 1, .int (cnt + 1), rfl, rfl, L2', rfl, _, _, rfl, rfl, .inl ⟨by decide, by decide⟩, _, _, rfl, rfl, _, _, rfl, rfl, _, _, rfl, rfl, (by show (0 : Int) < 2147483629; decide), ?_⟩
    have n1 := Int.emod_nonneg (seed * (48271 + 2 * (cnt + 1)) + 7919 * (cnt + 1) + 1) (show (2147483629 : Int) ≠ 0 by decide)
    have n2 := Int.emod_lt_of_pos (seed * (48271 + 2 * (cnt + 1)) + 7919 * (cnt + 1) + 1) (show (0 : Int) < 2147483629 by decide)
    generalize (seed * (48271 + 2 * (cnt + 1)) + 7919 * (cnt + 1) + 1) % 2147483629 = n at n1 n2
    refine ⟨_, rfl, _, rfl, _, _, rfl, rfl, .inl ⟨by omega, by omega⟩, _, _, rfl, rfl, (by show (0 : Int) < 2147483587; decide), ?_⟩
    have k1 := Int.emod_nonneg (n * n) (show (2147483587 : Int) ≠ 0 by decide)
    have k2 := Int.emod_lt_of_pos (n * n) (show (0 : Int) < 2147483587 by decide)
    generalize n * n % 2147483587 = k at k1 k2
    refine ⟨_, rfl, _, _, rfl, rfl, _, rfl, _, _, rfl, rfl, _, _, rfl, rfl, .inl ⟨by omega, by omega⟩, _, _, rfl, rfl, (by show (0 : Int) < 2147483579; decide), _, _, rfl, rfl, ⟨by decide, by decide⟩, _, rfl, _, _, rfl, rfl, m0, ?_⟩
    exact q _ _ (Int.emod_nonneg _ (by omega)) (Int.emod_lt_of_pos _ m0) ⟨off, ⟨_, _, _, hf2, s0, s1⟩⟩
end
end Lm

set_option Elab.async false
set_option linter.all false
set_option maxRecDepth 100000
set_option maxHeartbeats 2000000
namespace Lm
open PySem PySem.Spec PyProof.Rows L2 LmR
/-! ### flat data: kinds, sizes -/
def tyn : PyData → String
  | .none => "NoneType"
  | .bool _ => "bool"
  | .int _ => "int"
  | .str _ => "str"
  | .list _ => "list"
  | .tuple _ => "tuple"
  | .dict _ => "dict"
theorem tyx_tup {K : PySem.W.Frag} {H : Hp} {a : Addr} {xs : List V} (q : SqT K H a xs) : TyX K H (.ref a) (.type "tuple") := by
  rcases q with (q | ⟨o, q⟩) | ⟨o, its, n, hk, hc, _⟩
  · exact .base (.tup q)
  · exact .fTuple q
  · exact .kTuple hk hc
theorem Fd.ty {K : PySem.W.Frag} {H : Hp} {v : V} {d : PyData} (h : Fd K H v d) : TyX K H v (.type (tyn d)) := by
  obtain ⟨f, h⟩ := h
  cases h with
  | non => exact .base .non
  | bl b => exact .base (.bl b)
  | int i => exact .base (.int i)
  | str x => exact .base (.str x)
  | lst q r => simp [flat] at f
  | tup q r => exact tyx_tup q
def isTup : PyData → Bool
  | .tuple _ => true
  | _ => false
def isBl : PyData → Bool
  | .bool _ => true
  | _ => false
def isStr : PyData → Bool
  | .str _ => true
  | _ => false
def isInt : PyData → Bool
  | .bool _ => true
  | .int _ => true
  | _ => false
theorem kit_tup {K : PySem.W.Frag} (d : PyData) (h : flat d = true) : PySem.W.kitOne K (.type (tyn d)) (.type "tuple") = some (isTup d) := by
  cases d <;> first | (simp [flat] at h; done) | exact kit_ty (a := "NoneType") (r := true) (by decide +kernel) | exact kit_ty (a := "NoneType") (r := false) (by decide +kernel) | exact kit_ty (a := "bool") (r := true) (by decide +kernel) | exact kit_ty (a := "bool") (r := false) (by decide +kernel) | exact kit_ty (a := "int") (r := true) (by decide +kernel) | exact kit_ty (a := "int") (r := false) (by decide +kernel) | exact kit_ty (a := "str") (r := true) (by decide +kernel) | exact kit_ty (a := "str") (r := false) (by decide +kernel) | exact kit_ty (a := "tuple") (r := true) (by decide +kernel) | exact kit_ty (a := "tuple") (r := false) (by decide +kernel)
theorem kit_bl {K : PySem.W.Frag} (d : PyData) (h : flat d = true) : PySem.W.kitOne K (.type (tyn d)) (.type "bool") = some (isBl d) := by
  cases d <;> first | (simp [flat] at h; done) | exact kit_ty (a := "NoneType") (r := true) (by decide +kernel) | exact kit_ty (a := "NoneType") (r := false) (by decide +kernel) | exact kit_ty (a := "bool") (r := true) (by decide +kernel) | exact kit_ty (a := "bool") (r := false) (by decide +kernel) | exact kit_ty (a := "int") (r := true) (by decide +kernel) | exact kit_ty (a := "int") (r := false) (by decide +kernel) | exact kit_ty (a := "str") (r := true) (by decide +kernel) | exact kit_ty (a := "str") (r := false) (by decide +kernel) | exact kit_ty (a := "tuple") (r := true) (by decide +kernel) | exact kit_ty (a := "tuple") (r := false) (by decide +kernel)
theorem kit_str {K : PySem.W.Frag} (d : PyData) (h : flat d = true) : PySem.W.kitOne K (.type (tyn d)) (.type "str") = some (isStr d) := by
  cases d <;> first | (simp [flat] at h; done) | exact kit_ty (a := "NoneType") (r := true) (by decide +kernel) | exact kit_ty (a := "NoneType") (r := false) (by decide +kernel) | exact kit_ty (a := "bool") (r := true) (by decide +kernel) | exact kit_ty (a := "bool") (r := false) (by decide +kernel) | exact kit_ty (a := "int") (r := true) (by decide +kernel) | exact kit_ty (a := "int") (r := false) (by decide +kernel) | exact kit_ty (a := "str") (r := true) (by decide +kernel) | exact kit_ty (a := "str") (r := false) (by decide +kernel) | exact kit_ty (a := "tuple") (r := true) (by decide +kernel) | exact kit_ty (a := "tuple") (r := false) (by decide +kernel)
theorem kit_int {K : PySem.W.Frag} (d : PyData) (h : flat d = true) : PySem.W.kitOne K (.type (tyn d)) (.type "int") = some (isInt d) := by
  cases d <;> first | (simp [flat] at h; done) | exact kit_ty (a := "NoneType") (r := true) (by decide +kernel) | exact kit_ty (a := "NoneType") (r := false) (by decide +kernel) | exact kit_ty (a := "bool") (r := true) (by decide +kernel) | exact kit_ty (a := "bool") (r := false) (by decide +kernel) | exact kit_ty (a := "int") (r := true) (by decide +kernel) | exact kit_ty (a := "int") (r := false) (by decide +kernel) | exact kit_ty (a := "str") (r := true) (by decide +kernel) | exact kit_ty (a := "str") (r := false) (by decide +kernel) | exact kit_ty (a := "tuple") (r := true) (by decide +kernel) | exact kit_ty (a := "tuple") (r := false) (by decide +kernel)
/-- how many things are in it -/
def dsz : PyData → Nat
  | .tuple xs => 1 + dszs xs
  | _ => 1
where dszs : List PyData → Nat
  | [] => 0
  | d :: ds => dsz d + dszs ds
theorem dsz_pos (d : PyData) : 1 ≤ dsz d := by cases d <;> simp [dsz]
theorem dszs_len : ∀ ds : List PyData, ds.length ≤ dsz.dszs ds
  | [] => Nat.le_refl _
  | d :: ds => by
    have h1 := dsz_pos d
    have h2 := dszs_len ds
    simp only [dsz.dszs, List.length_cons]
    omega
theorem dszs_app : ∀ ds es : List PyData, dsz.dszs (ds ++ es) = dsz.dszs ds + dsz.dszs es
  | [], es => by simp [dsz.dszs]
  | d :: ds, es => by
    have h := dszs_app ds es
    simp only [List.cons_append, dsz.dszs]
    omega
/-- a pair of two things alike -/
def Pr (K : PySem.W.Frag) (H : Hp) (t : Addr) (d : PyData) : Prop := ∃ x y, H t = some (.tup [x, y]) ∧ Fd K H x d ∧ Fd K H y d
theorem Pr.keep {K : PySem.W.Frag} {H H' : Hp} {t : Addr} {d : PyData} (h : Pr K H t d) (s : ∀ xs, H t = some (.tup xs) → H' t = some (.tup xs)) (t' : Tp K H H') : Pr K H' t d := by
  obtain ⟨x, y, e, a, b⟩ := h
  exact ⟨x, y, s _ e, a.keep t', b.keep t'⟩
theorem while_m {c : TT} {tb : TS} {D : Ends} {σ : L2.St} {H : Hp} (W : Nat → L2.St → Hp → Prop) (h0 : ∃ m, W m σ H)
    (hs : ∀ m σ H, W m σ H → c σ H fun b H1 => if b = true then ∃ N : L2.St → Hp → Prop, (∀ σ' H', N σ' H' → ∃ m', m' < m ∧ W m' σ' H') ∧ tb { D with nx := N, ct := N, bk := D.nx } σ H1 else D.nx σ H1) : tWhile c tb D σ H := ⟨W, h0, hs⟩
theorem dpall_get {K : PySem.W.Frag} {H : Hp} : ∀ {vs : List V} {ds : List PyData}, DpAll K H vs ds → ∀ (j : Nat) (v : V), vs[j]? = some v → ∃ d, ds[j]? = some d ∧ Dp K H v d
  | _, _, .nil, j, v, h => by simp at h
  | _, _, .cons a b, 0, v, h => by
    have e := Option.some.inj h
    subst e
    exact ⟨_, rfl, a⟩
  | _, _, .cons a b, j + 1, v, h => dpall_get b j v h
theorem dpall_len {K : PySem.W.Frag} {H : Hp} : ∀ {vs : List V} {ds : List PyData}, DpAll K H vs ds → vs.length = ds.length
  | _, _, .nil => rfl
  | _, _, .cons a b => by rw [List.length_cons, List.length_cons, dpall_len b]
theorem flats_get : ∀ {ds : List PyData}, flat.flats ds = true → ∀ (j : Nat) (d : PyData), ds[j]? = some d → flat d = true
  | [], _, j, d, h => by simp at h
  | e :: ds, f, 0, d, h => by
    rw [flat.flats, Bool.and_eq_true] at f
    have e := Option.some.inj h
    subst e
    exact f.1
  | e :: ds, f, j + 1, d, h => by
    rw [flat.flats, Bool.and_eq_true] at f
    exact flats_get f.2 j d h
section
variable {P : Program} {w : World} {K : PySem.W.Frag} {mg : Str → Option Value} {base : Heap}
end
end Lm

set_option Elab.async false
set_option linter.all false
set_option maxRecDepth 100000
set_option maxHeartbeats 2000000
namespace Lm
open PySem PySem.Spec PyProof.Rows L2 LmR
section
variable {P : Program} {w : World} {K : PySem.W.Frag} {mg : Str → Option Value} {base : Heap}
/-- the flow was drawn from, what else stands at ws may have changed, things were made -/
structure Gr (ws : List Addr) (f : Addr) (H H' : Hp) : Prop where
  ex : Ex (f :: ws) H H'
  fl : Flow H' f
theorem Dr.gr {f : Addr} {H H' : Hp} {ws : List Addr} (d : Dr f H H') : Gr ws f H H' := ⟨d.ex.mono fun b hb => by rw [List.mem_singleton.mp hb]; exact List.mem_cons_self, d.fl⟩
theorem Gr.trans {ws : List Addr} {f : Addr} {H H1 H2 : Hp} (a : Gr ws f H H1) (b : Gr ws f H1 H2) : Gr ws f H H2 := ⟨a.ex.trans b.ex, b.fl⟩
theorem Gr.mono {ws us : List Addr} {f : Addr} {H H' : Hp} (a : Gr ws f H H') (h : ∀ b ∈ ws, b ∈ us) : Gr us f H H' := ⟨a.ex.mono fun b hb => by
  rcases List.mem_cons.mp hb with z | z
  · rw [z]; exact List.mem_cons_self
  · exact List.mem_cons_of_mem _ (h b z), a.fl⟩
theorem Gr.new {ws : List Addr} {f : Addr} {H : Hp} {p : Addr} {o : HO} (fl : Flow H f) (h : H p = none) : Gr ws f H (upd H p o) := by
  refine ⟨Ex.new h, ?_⟩
  obtain ⟨a, b, c, e, r⟩ := fl
  exact ⟨a, b, c, by rw [upd_ne (ne_of_none e h)]; exact e, r⟩
theorem Gr.tp {f : Addr} {H H' : Hp} (a : Gr [] f H H') (h : Flow H f) : Tp K H H' := by
  obtain ⟨xs, e⟩ := h.lst
  refine a.ex.tp fun b hb ys q => ?_
  rw [List.mem_singleton.mp hb] at q
  rcases q with q | ⟨o, q⟩
  · rw [e] at q; cases q
  · rw [e] at q; cases q
def kVs (ks : List Bool) : List V := ks.map fun b => V.str (kS b)
def wKV (ka : Addr) (c i n : Int) : List (Key × V) := [(Sum.inr "kinds", .ref ka), (Sum.inr "cmp", .int c), (Sum.inr "if", .int i), (Sum.inr "any", .int n)]
def Wld (H : Hp) (wd ka : Addr) : Prop := ∃ c i n : Int, H wd = some (.dK (wKV ka c i n))
theorem wv_kinds (ka : Addr) (c i n : Int) : valV (wKV ka c i n) (Sum.inr "kinds") = some (.ref ka) := rfl
theorem wv_cmp (ka : Addr) (c i n : Int) : valV (wKV ka c i n) (Sum.inr "cmp") = some (.int c) := rfl
theorem wv_if (ka : Addr) (c i n : Int) : valV (wKV ka c i n) (Sum.inr "if") = some (.int i) := rfl
theorem wv_any (ka : Addr) (c i n : Int) : valV (wKV ka c i n) (Sum.inr "any") = some (.int n) := rfl
theorem wp_cmp (ka : Addr) (c i n z : Int) : putK (wKV ka c i n) (Sum.inr "cmp") (.int z) = wKV ka z i n := rfl
theorem wp_if (ka : Addr) (c i n z : Int) : putK (wKV ka c i n) (Sum.inr "if") (.int z) = wKV ka c z n := rfl
theorem wp_any (ka : Addr) (c i n z : Int) : putK (wKV ka c i n) (Sum.inr "any") (.int z) = wKV ka c i z := rfl
/-- a dict with the kinds -/
def Kin (H : Hp) (wd ka : Addr) : Prop := ∃ kvs, H wd = some (.dK kvs) ∧ valV kvs (Sum.inr "kinds") = some (.ref ka)
theorem Wld.kin {H : Hp} {wd ka : Addr} (h : Wld H wd ka) : Kin H wd ka := by
  obtain ⟨c, i, n, e⟩ := h
  exact ⟨_, e, rfl⟩
/-- its numbers are from -1000 to 1000 -/
def Nb : Pg → Prop
  | .inp _ => True
  | .num c => -1000 ≤ c ∧ c ≤ 1000
  | .tr _ => True
  | .plus c a => (-1000 ≤ c ∧ c ≤ 1000) ∧ Nb a
  | .bin _ a b => Nb a ∧ Nb b
  | .neg a => Nb a
  | .ite p a b => Nb p ∧ Nb a ∧ Nb b
def Wn (ks : List Bool) (p : Pg) : Prop := Wk ks p ∧ Nb p
abbrev s_l_numeral : Stmt := topS 19
theorem sc_l_numeral : FnScope ["_law_flow_here"] ["_law_flow_here"] (defScope s_l_numeral) := ⟨rfl, rfl, rfl, by decide +kernel, rfl, by decide +kernel, by decide +kernel⟩
def spNumeral : Sp := fun vs H Q _ => ∃ f : Addr, vs = [.ref f] ∧ Flow H f ∧ ∀ (i : Int) (H' : Hp), -1000 ≤ i → i ≤ 1000 → Gr [] f H H' → Q (.int i) H'
theorem ok_l_numeral (C_l_draw : Cal P w K mg base 1 "_law_draw" ["_law_flow_here", "_law_many"] (spDraw)) (D : DefAt K mg "_law_numeral" s_l_numeral ["_law_flow_here"]) : Cal P w K mg base 2 "_law_numeral" ["_law_flow_here"] (spNumeral) := by
  refine cal_of D sc_l_numeral (fun vs H Q E h => ?_) (fun f cdv A outer s H vs Q E hr h => ?_)
  · obtain ⟨a, rfl, _⟩ := h
    rfl
  obtain ⟨a, rfl, fl, q⟩ := h
  have hr' : Room 1 _ := hr
  refine ⟨_, (pss_one (ps_ret (pe_ix ix_list (pe_lst (pa_cons (pe_cal C_l_draw hr' (by rfl) (pa_cons (pv 0) (pa_cons pe_int pa_nil))) (pa_cons (pe_op op_sub pe_int (pe_cal C_l_draw hr' (by rfl) (pa_cons (pv 0) (pa_cons pe_int pa_nil)))) (pa_cons (pe_op op_sub (pe_cal C_l_draw hr' (by rfl) (pa_cons (pv 0) (pa_cons pe_int pa_nil))) pe_int) pa_nil)))) (pe_cal C_l_draw hr' (by rfl) (pa_cons (pv 0) (pa_cons pe_int pa_nil))) (fun _ _ => rfl)))), ?_⟩
  refine ⟨_, rfl, a, 4, rfl, fl, by decide, by decide, fun d1 H1 x1 y1 r1 => ?_⟩
  refine ⟨_, rfl, a, 4, rfl, r1.fl, by decide, by decide, fun d2 H2 x2 y2 r2 => ⟨_, _, rfl, rfl, ?_⟩⟩
  refine ⟨_, rfl, a, 2001, rfl, r2.fl, by decide, by decide, fun d3 H3 x3 y3 r3 => ⟨_, _, rfl, rfl, ?_⟩⟩
  refine ⟨(by show 3 ≤ sizeLine; decide), fun p hp => ?_⟩
  have g3 : Gr [] a H (upd H3 p (.lst [.int d1, .int (0 - d2), .int (d3 - 1000)])) := (((r1.trans r2).trans r3).gr).trans (Gr.new r3.fl hp)
  refine ⟨_, rfl, a, 3, rfl, g3.fl, by decide, by decide, fun d4 H4 x4 y4 r4 => ?_⟩
  have npa : p ≠ a := fun z => by
    obtain ⟨xs, e⟩ := r3.fl.lst
    rw [z, e] at hp
    cases hp
  have e4 : H4 p = some (.lst [.int d1, .int (0 - d2), .int (d3 - 1000)]) := by
    rw [r4.off p npa]
    exact upd_same
  have g4 := g3.trans r4.gr
  rcases (show d4 = 0 ∨ d4 = 1 ∨ d4 = 2 by omega) with z | z | z
  · subst z
    exact ⟨p, _, 0, .int d1, rfl, rfl, SqL.of e4, rfl, q _ _ (by omega) (by omega) g4⟩
  · subst z
    exact ⟨p, _, 1, .int (0 - d2), rfl, rfl, SqL.of e4, rfl, q _ _ (by omega) (by omega) g4⟩
  · subst z
    exact ⟨p, _, 2, .int (d3 - 1000), rfl, rfl, SqL.of e4, rfl, q _ _ (by omega) (by omega) g4⟩
/-! ### the world: the kinds of the inputs and what may still be used -/
end
end Lm

set_option Elab.async false
set_option linter.all false
set_option maxRecDepth 100000
set_option maxHeartbeats 2000000
namespace Lm
open PySem PySem.Spec PyProof.Rows L2 LmR
/-- a loop over enumerate(list) -/
theorem for_enum {K : PySem.W.Frag} {a : Addr} {xs : List V} {g : TG} {tb : TS} {D : Ends} {σ : L2.St} {H : Hp} (Pv : Nat → L2.St → Hp → Prop) (h0 : Pv 0 σ H) (hq : ∀ i σ H, Pv i σ H → SqL K H a xs)
    (hs : ∀ (i : Nat) (x : V) (T : Addr) (σ : L2.St) (H : Hp), xs[i]? = some x → Pv i σ H → H T = none → g (.ref T) σ (upd H T (.tup [.int (i : Nat), x])) fun σ2 H2 => tb { D with nx := Pv (i + 1), ct := Pv (i + 1), bk := D.nx } σ2 H2) (hd : ∀ σ H, Pv xs.length σ H → D.nx σ H) :
    ∃ W : Nat → Nat → L2.St → Hp → Prop, (∃ m, W 0 m σ H) ∧ ∀ i m σ H, W i m σ H →
      ((Ite K a).stop i H ∧ D.nx σ H) ∨ ((Ite K a).go i H ∧ ∃ N : L2.St → Hp → Prop, (∀ σ' H', N σ' H' → ∃ m', m' < m ∧ W (i + 1) m' σ' H') ∧ ∀ v H', (Ite K a).yld i H v H' → g v σ H' fun σ2 H2 => tb { D with nx := N, ct := N, bk := D.nx } σ2 H2) := by
  refine ⟨fun i m σ H => m = xs.length - i ∧ i ≤ xs.length ∧ Pv i σ H, ⟨xs.length, rfl, Nat.zero_le _, h0⟩, ?_⟩
  rintro i m σ H ⟨rfl, hi, p⟩
  have qx := hq i σ H p
  by_cases hlt : i < xs.length
  · have hx : xs[i]? = some xs[i] := List.getElem?_eq_getElem hlt
    refine .inr ⟨⟨xs, _, qx, hx⟩, Pv (i + 1), fun σ' H' p' => ⟨xs.length - (i + 1), by omega, rfl, hlt, p'⟩, fun v H' y => ?_⟩
    obtain ⟨T, x', rfl, hT, rfl, f1⟩ := y
    exact hs i x' T σ H (f1 xs qx) p hT
  · have e : i = xs.length := by omega
    subst e
    exact .inl ⟨⟨xs, qx, Nat.le_refl _⟩, hd σ H p⟩
/-! ### the words that a program may be made with -/
inductive Ch where
  | plus
  | bin (w : Bw)
  | neg
  | ite
def Ch.str : Ch → Str
  | .plus => "plus"
  | .bin w => w.str
  | .neg => "not"
  | .ite => "if"
def Ch.fits (k : Bool) : Ch → Prop
  | .plus => k = false
  | .bin w => w.own = k
  | .neg => k = true
  | .ite => True
def Ch.ps (k : Bool) : Ch → List Bool
  | .plus => [false]
  | .bin w => [w.arg, w.arg]
  | .neg => [true]
  | .ite => [true, k, k]
def Ch.front (num : Int) : Ch → List V
  | .plus => [.str "plus", .int num]
  | .bin w => [.str w.str]
  | .neg => [.str "not"]
  | .ite => [.str "if"]
def Ch.sort : Ch → Str
  | .bin .least => "cmp"
  | .bin .most => "cmp"
  | .bin .atmost => "cmp"
  | .ite => "if"
  | _ => "any"
theorem map1 {α β : Type} {f : α → β} {l : List α} {x : β} (h : l.map f = [x]) : ∃ a, l = [a] ∧ f a = x := by
  match l, h with
  | [a], h => exact ⟨a, rfl, by simpa using h⟩
  | [], h => simp at h
  | a :: b :: r, h => simp at h
theorem map2 {α β : Type} {f : α → β} {l : List α} {x y : β} (h : l.map f = [x, y]) : ∃ a b, l = [a, b] ∧ f a = x ∧ f b = y := by
  match l, h with
  | [a, b], h => exact ⟨a, b, rfl, by simpa using h⟩
  | [], h => simp at h
  | [a], h => simp at h
  | a :: b :: c :: r, h => simp at h
theorem map3 {α β : Type} {f : α → β} {l : List α} {x y z : β} (h : l.map f = [x, y, z]) : ∃ a b c, l = [a, b, c] ∧ f a = x ∧ f b = y ∧ f c = z := by
  match l, h with
  | [a, b, c], h => exact ⟨a, b, c, rfl, by simpa using h⟩
  | [], h => simp at h
  | [a], h => simp at h
  | [a, b], h => simp at h
  | a :: b :: c :: d :: r, h => simp at h
/-- what is made of parts of the kinds due -/
theorem Ch.make {K : PySem.W.Frag} {H : Hp} {ks : List Bool} {k : Bool} {num : Int} (c : Ch) (hf : c.fits k) {t : Addr} {vs : List V} {ps : List Pg} (ha : Ats K H vs ps) (hw : ∀ p ∈ ps, Wn ks p) (hn : -1000 ≤ num ∧ num ≤ 1000) (hk : ps.map (own ks) = c.ps k)
    (ht : H t = some (.tup (c.front num ++ vs))) :
    ∃ p, At K H (.ref t) p ∧ Wn ks p ∧ own ks p = k ∧ psz p = 1 + (ps.map psz).sum := by
  cases c with
  | plus =>
    obtain ⟨a, rfl, e⟩ := map1 hk
    obtain ⟨v, rfl, h⟩ := ha.one
    exact ⟨.plus num a, .tup (.inl (.inl ht)) (.cons (.str _) (.cons (.int _) (.cons h .nil))), ⟨⟨(hw a (by simp)).1, e⟩, hn, (hw a (by simp)).2⟩, hf.symm, by simp [psz]; omega⟩
  | bin w =>
    obtain ⟨a, b, rfl, e1, e2⟩ := map2 hk
    obtain ⟨u, v, rfl, h1, h2⟩ := ha.two
    exact ⟨.bin w a b, .tup (.inl (.inl ht)) (.cons (.str _) (.cons h1 (.cons h2 .nil))), ⟨⟨(hw a (by simp)).1, (hw b (by simp)).1, e1, e2⟩, (hw a (by simp)).2, (hw b (by simp)).2⟩, hf, by simp [psz]; omega⟩
  | neg =>
    obtain ⟨a, rfl, e⟩ := map1 hk
    obtain ⟨v, rfl, h⟩ := ha.one
    exact ⟨.neg a, .tup (.inl (.inl ht)) (.cons (.str _) (.cons h .nil)), ⟨⟨(hw a (by simp)).1, e⟩, (hw a (by simp)).2⟩, hf.symm, by simp [psz]; omega⟩
  | ite =>
    obtain ⟨p, a, b, rfl, e1, e2, e3⟩ := map3 hk
    obtain ⟨u, v, z, rfl, h1, h2, h3⟩ := ha.three
    exact ⟨.ite p a b, .tup (.inl (.inl ht)) (.cons (.str _) (.cons h1 (.cons h2 (.cons h3 .nil)))), ⟨⟨(hw p (by simp)).1, (hw a (by simp)).1, (hw b (by simp)).1, e1, by rw [e2, e3]⟩, (hw p (by simp)).2, (hw a (by simp)).2, (hw b (by simp)).2⟩, e2, by simp [psz]; omega⟩
theorem Gr.put {ws : List Addr} {f : Addr} {H H' : Hp} {p : Addr} {o : HO} (g : Gr ws f H H') (h : H p = none) (n : p ≠ f) : Gr ws f H (upd H' p o) := by
  refine ⟨fun b u hb nb => ?_, ?_⟩
  · rw [upd_ne (ne_of_none hb h)]
    exact g.ex b u hb nb
  · obtain ⟨x, y, z, e, r⟩ := g.fl
    exact ⟨x, y, z, by rw [upd_ne n.symm]; exact e, r⟩
section
variable {P : Program} {w : World} {K : PySem.W.Frag} {mg : Str → Option Value} {base : Heap}
end
end Lm

set_option Elab.async false
set_option linter.all false
set_option maxRecDepth 100000
set_option maxHeartbeats 2000000
namespace Lm
open PySem PySem.Spec PyProof.Rows L2 LmR
section
variable {P : Program} {w : World} {K : PySem.W.Frag} {mg : Str → Option Value} {base : Heap}
abbrev s_l_kinds : Stmt := topS 20
theorem sc_l_kinds : FnScope ["_law_flow_here", "_law_k"] ["_law_flow_here"] (defScope s_l_kinds) := ⟨rfl, rfl, rfl, by decide +kernel, rfl, by decide +kernel, by decide +kernel⟩
def spKinds (K : PySem.W.Frag) : Sp := fun vs H Q _ => ∃ f : Addr, vs = [.ref f] ∧ Flow H f ∧ ∀ (a : Addr) (ks : List Bool) (H' : Hp), Gr [] f H H' → ks.length ≤ 3 → H' a = some (.tup (kVs ks)) → Q (.ref a) H'
theorem ok_l_kinds (B : Bt mg) (C_l_draw : Cal P w K mg base 1 "_law_draw" ["_law_flow_here", "_law_many"] (spDraw)) (D : DefAt K mg "_law_kinds" s_l_kinds ["_law_flow_here"]) : Cal P w K mg base 2 "_law_kinds" ["_law_flow_here"] (spKinds K) := by
  refine cal_of D sc_l_kinds (fun vs H Q E h => ?_) (fun f cdv A outer s H vs Q E hr h => ?_)
  · obtain ⟨a, rfl, _⟩ := h
    rfl
  obtain ⟨f, rfl, fl, q⟩ := h
  have hr' : Room 1 _ := hr
  refine ⟨_, (pss_one (ps_ret (pe_callTy call_tuple_of (by rfl) B.tuple PyProof.Rows.boot_tuple (pa_cons (pe_lc (own := [("_law_k", 1)]) (g := gName 1) rfl sc_l_kinds.nd (pi_range1 (by rfl) B.range (pa_cons (pe_cal C_l_draw hr' (by rfl) (pa_cons (pv 0) (pa_cons pe_int pa_nil))) pa_nil)) (blkOk_by (own := [("_law_k", 1)]) (N := ["_law_flow_here", "_law_k"]) (sc := defScope s_l_kinds) (by decide +kernel)) (fun _ _ _ _ _ => (pg_name (i := 1) sc_l_kinds.nd rfl (.inl rfl))) (fun _ _ _ _ _ => pts_nil) (fun _ _ _ _ _ => (pe_ix (ix_listK (K := K) rfl) (pe_lst (pa_cons pe_str (pa_cons pe_str (pa_cons pe_str pa_nil)))) (pe_cal C_l_draw hr' (by rfl) (pa_cons (pv 0) (pa_cons pe_int pa_nil))) (fun _ _ => rfl)))) pa_nil)))), ?_⟩
  refine ⟨_, rfl, f, 4, rfl, fl, by decide, by decide, fun n H1 n0 n1 dr1 => ⟨n, rfl, by omega, by omega, fun D hD => lc_range (lo := 0) (n := n.toNat) (fun i H' => Gr [] f H H' ∧ ∃ ks : List Bool, ks.length = i ∧ H' D = some (.lst (kVs ks))) ?_ ?_ ?_⟩⟩
  · exact ⟨dr1.gr.trans (Gr.new dr1.fl hD), [], rfl, upd_same⟩
  · rintro i H' hi ⟨g, ks, hl, hA⟩
    refine ⟨rfl, (by show 3 ≤ sizeLine; decide), fun p hp => ?_⟩
    have gp : Gr [] f H (upd H' p (.lst [.str "num", .str "truth", .str "num"])) := g.trans (Gr.new g.fl hp)
    have nDf : D ≠ f := fun z => by
      obtain ⟨xs, e⟩ := dr1.fl.lst
      rw [z, e] at hD
      cases hD
    have npf : p ≠ f := fun z => by
      obtain ⟨xs, e⟩ := g.fl.lst
      rw [z, e] at hp
      cases hp
    have npD : p ≠ D := fun z => by
      rw [z, hA] at hp
      cases hp
    have D0 : H D = none := dr1.ex.free hD (by simp [nDf])
    refine ⟨_, rfl, f, 3, rfl, gp.fl, by decide, by decide, fun j H2 j0 j1 dr2 => ?_⟩
    have hp2 : H2 p = some (.lst [.str "num", .str "truth", .str "num"]) := by rw [dr2.off p npf]; exact upd_same
    have hA2 : H2 D = some (.lst (kVs ks)) := by rw [dr2.off D nDf, upd_ne npD.symm]; exact hA
    have g2 := gp.trans dr2.gr
    have kl : (kVs ks).length = ks.length := List.length_map _
    have fin : ∀ b : Bool, ∃ acc, H2 D = some (.lst acc) ∧ acc.length < sizeLine ∧ (Gr [] f H (upd H2 D (.lst (acc ++ [V.str (kS b)]))) ∧ ∃ ks : List Bool, ks.length = i + 1 ∧ (upd H2 D (.lst (acc ++ [V.str (kS b)]))) D = some (.lst (kVs ks))) := fun b =>
      ⟨_, hA2, by rw [kl]; exact smallL (by omega), g2.put D0 nDf, ks ++ [b], by rw [List.length_append, hl]; rfl, by rw [upd_same]; unfold kVs; rw [List.map_append]; rfl⟩
    rcases (show j = 0 ∨ j = 1 ∨ j = 2 by omega) with z | z | z
    · subst z
      exact ⟨p, _, 0, .str "num", rfl, rfl, SqL.of hp2, rfl, fin false⟩
    · subst z
      exact ⟨p, _, 1, .str "truth", rfl, rfl, SqL.of hp2, rfl, fin true⟩
    · subst z
      exact ⟨p, _, 2, .str "num", rfl, rfl, SqL.of hp2, rfl, fin false⟩
  · rintro H' ⟨g, ks, hl, hA⟩
    exact ⟨D, _, rfl, .inl ⟨SqL.of hA, fun t ht => q t ks _ (g.trans (Gr.new g.fl ht)) (by omega) upd_same⟩⟩
end
end Lm

set_option Elab.async false
set_option linter.all false
set_option maxRecDepth 100000
set_option maxHeartbeats 2000000
namespace Lm
open PySem PySem.Spec PyProof.Rows L2 LmR
theorem pe_gr {X : Cx} {x : Str} {a : Addr} {pos : Pos} (hg : Gl X x) (hm : X.mg x = some (.ref a)) (hd : (x == ("__debug__" : Str)) = false := by decide) : PE X (.Name x pos) (tC (.ref a)) := pe_glob (v := .ref a) hg hm rfl hd
/-! ### the table of forms -/
def nn : Pg → Nat
  | .inp _ => 1
  | .num _ => 1
  | .tr _ => 0
  | .plus _ _ => 1
  | .bin _ _ _ => 0
  | .neg _ => 0
  | .ite _ _ _ => 0
def due : Pg → List V
  | .inp _ => []
  | .num _ => []
  | .tr _ => []
  | .plus _ _ => [.str (kS false)]
  | .bin w _ _ => [.str (kS w.arg), .str (kS w.arg)]
  | .neg _ => [.str (kS true)]
  | .ite _ _ _ => [.str (kS true), .non, .non]
def ownV : Pg → V
  | .inp _ => .non
  | .num _ => .str (kS false)
  | .tr _ => .str (kS true)
  | .plus _ _ => .str (kS false)
  | .bin w _ _ => .str (kS w.own)
  | .neg _ => .str (kS true)
  | .ite _ _ _ => .non
/-- a tuple of the written part -/
def KTup (K : PySem.W.Frag) (a : Addr) (xs : List V) : Prop := ∃ (o : Obj) (its : Array Value) (n : Nat), K.lookup a = some o ∧ o.cls = .type "tuple" ∧ o.data = .seq its n ∧ its.size ≤ sizeLine ∧ Vals xs its.toList
theorem KTup.sq {K : PySem.W.Frag} {a : Addr} {xs : List V} (h : KTup K a xs) (H : Hp) : SqT K H a xs := .inr h
/-- FORMS stands at d -/
structure Forms (K : PySem.W.Frag) (w : World) (mg : Str → Option Value) (d : Addr) : Prop where
  g : mg "FORMS" = some (.ref d)
  k : ∃ es n, KDict K w d es n
  e : ∀ p : Pg, ∃ t u : Addr, PySem.W.nsIn K d (word p) = some (some (.ref t)) ∧ KTup K t [.int (nn p), .ref u, ownV p] ∧ KTup K u (due p)
theorem Forms.at {K : PySem.W.Frag} {w : World} {mg : Str → Option Value} {d : Addr} (F : Forms K w mg d) (p : Pg) : ∃ t u : Addr, KDct K w d (word p) (.ref t) ∧ KTup K t [.int (nn p), .ref u, ownV p] ∧ KTup K u (due p) := by
  obtain ⟨t, u, e, a, b⟩ := F.e p
  obtain ⟨es, n, D⟩ := F.k
  exact ⟨t, u, ⟨es, n, .ref t, D.at_, D.lit, e, rfl⟩, a, b⟩
theorem due_len (p : Pg) : (due p).length = (parts p).length := by cases p <;> rfl
theorem front_len (p : Pg) : (front p).length = 1 + nn p := by cases p <;> rfl
theorem at_word (p : Pg) (vs : List V) : atI (front p ++ vs) 0 = some (.str (word p)) := at_of (j := 0) rfl (by cases p <;> rfl)
theorem at_num (p : Pg) (vs : List V) (h : nn p ≠ 0) : ∃ i, atI (front p ++ vs) 1 = some (.int i) := by
  cases p <;> first | exact absurd rfl h | exact ⟨_, at_of (j := 1) rfl rfl⟩
theorem kTT {K : PySem.W.Frag} : PySem.W.kitOne K (.type "tuple") (.type "tuple") = some true := kit_ty (by decide +kernel)
theorem kSS {K : PySem.W.Frag} : PySem.W.kitOne K (.type "str") (.type "str") = some true := kit_ty (by decide +kernel)
section
variable {P : Program} {w : World} {K : PySem.W.Frag} {mg : Str → Option Value} {base : Heap}
abbrev s_is_whole : Stmt := topS 3
theorem sc_is_whole : FnScope ["thing"] ["thing"] (defScope s_is_whole) := ⟨rfl, rfl, rfl, by decide +kernel, rfl, by decide +kernel, by decide +kernel⟩
def spWhole (K : PySem.W.Frag) : Sp := fun vs H Q _ => ∃ (v : V) (d : PyData), vs = [v] ∧ Fd K H v d ∧ Q (.bl (isInt d && !isBl d)) H
theorem ok_is_whole (B : Bt mg) (D : DefAt K mg "is_whole" s_is_whole ["thing"]) : Cal P w K mg base 1 "is_whole" ["thing"] (spWhole K) := by
  refine cal_of D sc_is_whole (fun vs H Q E h => ?_) (fun f cdv A outer s H vs Q E hr h => ?_)
  · obtain ⟨v, d, rfl, _⟩ := h
    rfl
  obtain ⟨v, d, rfl, hv, q⟩ := h
  refine ⟨_, (pss_one (ps_ret (pe_and (pe_callB call_isi (by rfl) B.isinstance (by decide +kernel) (pa_cons (pv 0) (pa_cons (pe_bltn (v := .ty "int") (by rfl) B.int PyProof.Rows.boot_int rfl) pa_nil))) (pe_one (pe_not (pe_callB call_isi (by rfl) B.isinstance (by decide +kernel) (pa_cons (pv 0) (pa_cons (pe_bltn (v := .ty "bool") (by rfl) B.bool PyProof.Rows.boot_bool rfl) pa_nil)))))))), ?_⟩
  refine ⟨_, rfl, v, _, _, _, _, rfl, .ty _, hv.ty, kit_int d hv.1, _, rfl, ite2 (fun c => ?_) (fun c => ?_)⟩
  · rw [c] at q
    exact ⟨_, rfl, v, _, _, _, _, rfl, .ty _, hv.ty, kit_bl d hv.1, _, rfl, q⟩
  · rw [Bool.eq_false_iff.mpr c] at q
    exact q
abbrev s_many_numbers : Stmt := topS 5
theorem sc_many_numbers : FnScope ["word"] ["word"] (defScope s_many_numbers) := ⟨rfl, rfl, rfl, by decide +kernel, rfl, by decide +kernel, by decide +kernel⟩
def spMN : Sp := fun vs H Q _ => ∃ p : Pg, vs = [.str (word p)] ∧ Q (.int (nn p)) H
theorem ok_many_numbers {d : Addr} (F : Forms K w mg d) (D : DefAt K mg "many_numbers" s_many_numbers ["word"]) : Cal P w K mg base 1 "many_numbers" ["word"] (spMN) := by
  refine cal_of D sc_many_numbers (fun vs H Q E h => ?_) (fun f cdv A outer s H vs Q E hr h => ?_)
  · obtain ⟨p, rfl, _⟩ := h
    rfl
  obtain ⟨p, rfl, q⟩ := h
  have hFORMS := F.g
  refine ⟨_, (pss_one (ps_ret (pe_ix ix_tup (pe_ix ix_kdict (pe_gr (by rfl) hFORMS) (pv 0) (fun _ _ => rfl)) pe_int (fun _ _ => rfl)))), ?_⟩
  obtain ⟨t, u, e, a, b⟩ := F.at p
  exact ⟨_, rfl, d, word p, .ref t, rfl, rfl, e, t, _, 0, .int (nn p), rfl, rfl, a.sq _, rfl, q⟩
abbrev s_many_parts : Stmt := topS 6
theorem sc_many_parts : FnScope ["word"] ["word"] (defScope s_many_parts) := ⟨rfl, rfl, rfl, by decide +kernel, rfl, by decide +kernel, by decide +kernel⟩
def spMP : Sp := fun vs H Q _ => ∃ p : Pg, vs = [.str (word p)] ∧ Q (.int ((parts p).length : Nat)) H
theorem ok_many_parts {d : Addr} (B : Bt mg) (F : Forms K w mg d) (D : DefAt K mg "many_parts" s_many_parts ["word"]) : Cal P w K mg base 1 "many_parts" ["word"] (spMP) := by
  refine cal_of D sc_many_parts (fun vs H Q E h => ?_) (fun f cdv A outer s H vs Q E hr h => ?_)
  · obtain ⟨p, rfl, _⟩ := h
    rfl
  obtain ⟨p, rfl, q⟩ := h
  have hFORMS := F.g
  refine ⟨_, (pss_one (ps_ret (pe_callB call_len_seq (by rfl) B.len PySem.boot_len (pa_cons (pe_ix ix_tup (pe_ix ix_kdict (pe_gr (by rfl) hFORMS) (pv 0) (fun _ _ => rfl)) pe_int (fun _ _ => rfl)) pa_nil)))), ?_⟩
  obtain ⟨t, u, e, a, b⟩ := F.at p
  rw [← due_len] at q
  exact ⟨_, rfl, d, word p, .ref t, rfl, rfl, e, t, _, 1, .ref u, rfl, rfl, a.sq _, rfl, u, _, rfl, .inr (b.sq _), q⟩
abbrev s_has_form : Stmt := topS 4
theorem sc_has_form : FnScope ["thing", "word"] ["thing"] (defScope s_has_form) := ⟨rfl, rfl, rfl, by decide +kernel, rfl, by decide +kernel, by decide +kernel⟩
def spHF (K : PySem.W.Frag) : Sp := fun vs H Q _ => ∃ (v : V) (p : Pg), vs = [v] ∧ At K H v p ∧ Q (.bl true) H
theorem ok_has_form {d : Addr} (B : Bt mg) (F : Forms K w mg d) (C_is_whole : Cal P w K mg base 1 "is_whole" ["thing"] (spWhole K)) (C_many_numbers : Cal P w K mg base 1 "many_numbers" ["word"] (spMN)) (C_many_parts : Cal P w K mg base 1 "many_parts" ["word"] (spMP)) (D : DefAt K mg "has_form" s_has_form ["thing"]) : Cal P w K mg base 2 "has_form" ["thing"] (spHF K) := by
  refine cal_of D sc_has_form (fun vs H Q E h => ?_) (fun f cdv A outer s H vs Q E hr h => ?_)
  · obtain ⟨v, p, rfl, _⟩ := h
    rfl
  obtain ⟨v, p, rfl, hv, q⟩ := h
  have hFORMS := F.g
  obtain ⟨es, n, kd⟩ := F.k
  have hr' : Room 1 _ := hr
  refine ⟨_, (pss_cons (ps_if (PW.pt (pw_or (pt_not (pt_val (pe_callB call_isi (by rfl) B.isinstance (by decide +kernel) (pa_cons (pv 0) (pa_cons (pe_bltn (v := .ty "tuple") (by rfl) B.tuple PyProof.Rows.boot_tuple rfl) pa_nil))))) (pw_or (pt_cmpR op_eq (pe_callB call_len_seq (by rfl) B.len PySem.boot_len (pa_cons (pv 0) pa_nil)) pe_int (nomark _)) (pw_or1 (pt_not (pt_val (pe_callB call_isi (by rfl) B.isinstance (by decide +kernel) (pa_cons (pe_ix ix_tup (pv 0) pe_int (fun _ _ => rfl)) (pa_cons (pe_bltn (v := .ty "str") (by rfl) B.str PyProof.Rows.boot_str rfl) pa_nil)))))))))
        (pss_one (ps_ret pe_bl))
        pss_nil)
      (pss_cons (ps_set (i := 1) sc_has_form.nd rfl (.inl rfl) (pe_ix ix_tup (pv 0) pe_int (fun _ _ => rfl)))
      (pss_cons (ps_if (PW.pt (pw_or (pt_cmpR (op_notIn_kd kd) (pv 1) (pe_gr (by rfl) hFORMS) rfl) (pw_or1 (pt_cmpR op_ne (pe_callB call_len_seq (by rfl) B.len PySem.boot_len (pa_cons (pv 0) pa_nil)) (pe_op op_add (pe_op op_add pe_int (pe_cal C_many_numbers hr' (by rfl) (pa_cons (pv 1) pa_nil))) (pe_cal C_many_parts hr' (by rfl) (pa_cons (pv 1) pa_nil))) (nomark _)))))
        (pss_one (ps_ret pe_bl))
        pss_nil)
      (pss_one (ps_ret (pe_or (pe_cmpR op_eq (pe_cal C_many_numbers hr' (by rfl) (pa_cons (pv 1) pa_nil)) pe_int (nomark _)) (pe_one (pe_cal C_is_whole hr' (by rfl) (pa_cons (pe_ix ix_tup (pv 0) pe_int (fun _ _ => rfl)) pa_nil))))))))), ?_⟩
  obtain ⟨a, vs, rfl, ha, hvs⟩ := hv.open
  obtain ⟨t, u, e, _, _⟩ := F.e p
  have hl : (front p ++ vs).length = 1 + nn p + (parts p).length := by rw [List.length_append, front_len, hvs.len]
  refine ⟨_, rfl, _, _, _, _, _, rfl, .ty _, tyx_tup ha, kTT, _, rfl, ?_⟩
  refine ⟨_, rfl, a, _, rfl, .inr ha, rfl, _, rfl, ite2 (fun z => ?_) (fun _ => ?_)⟩
  · have z' : V.int (((front p ++ vs).length : Nat) : Int) = V.int 0 := of_decide_eq_true z
    have z2 := V.int.inj z'
    omega
  refine ⟨_, rfl, a, _, 0, _, rfl, rfl, ha, at_word p vs, _, _, _, _, _, rfl, .ty _, .base (.str _), kSS, _, rfl, ?_⟩
  refine ⟨_, rfl, a, _, 0, _, rfl, rfl, ha, at_word p vs, ?_⟩
  refine ⟨_, rfl, word p, _, rfl, rfl, e, _, rfl, ?_⟩
  refine ⟨_, rfl, a, _, rfl, .inr ha, _, rfl, p, rfl, _, _, rfl, rfl, _, rfl, p, rfl, _, _, rfl, rfl, rfl, _, rfl, iteNS ?_ ?_⟩
  · rw [hl]
    exact congrArg V.int (by omega)
  refine ⟨_, rfl, p, rfl, rfl, _, rfl, ite2 (fun _ => q) (fun z => ?_)⟩
  have hn : nn p ≠ 0 := fun y => z (decide_eq_true (by rw [y]; rfl))
  obtain ⟨i, ei⟩ := at_num p vs hn
  exact ⟨_, rfl, a, _, 1, _, rfl, rfl, ha, ei, .int i, .int i, rfl, ⟨rfl, .int i⟩, q⟩
theorem cut_from (n : Nat) (xs ys : List V) (h : xs.length = n) : cutV (xs ++ ys) (some (n : Int)) none = ys := by
  unfold cutV
  rw [show HT.sIx (xs ++ ys).length 0 (some (n : Int)) = min n (xs ++ ys).length from HT.sIx_nat _ 0 n, HT.sIx_none]
  have e : min n (xs ++ ys).length = n := by rw [List.length_append]; omega
  rw [e, ← h, List.drop_left, List.length_append, Nat.add_sub_cancel_left, List.take_length]
abbrev s_parts_of : Stmt := topS 7
theorem sc_parts_of : FnScope ["knot"] ["knot"] (defScope s_parts_of) := ⟨rfl, rfl, rfl, by decide +kernel, rfl, by decide +kernel, by decide +kernel⟩
def spPO (K : PySem.W.Frag) : Sp := fun vs H Q _ => ∃ (v : V) (p : Pg), vs = [v] ∧ At K H v p ∧ ∀ (t : Addr) (us : List V), H t = none → Ats K H us (parts p) → Q (.ref t) (upd H t (.tup us))
theorem ok_parts_of (C_many_numbers : Cal P w K mg base 1 "many_numbers" ["word"] (spMN)) (D : DefAt K mg "parts_of" s_parts_of ["knot"]) : Cal P w K mg base 2 "parts_of" ["knot"] (spPO K) := by
  refine cal_of D sc_parts_of (fun vs H Q E h => ?_) (fun f cdv A outer s H vs Q E hr h => ?_)
  · obtain ⟨v, p, rfl, _⟩ := h
    rfl
  obtain ⟨v, p, rfl, hv, q⟩ := h
  have hr' : Room 1 _ := hr
  refine ⟨_, (pss_one (ps_ret (pe_slice sl_tup (pv 0) (po_some (pe_op op_add pe_int (pe_cal C_many_numbers hr' (by rfl) (pa_cons (pe_ix ix_tup (pv 0) pe_int (fun _ _ => rfl)) pa_nil)))) po_none))), ?_⟩
  obtain ⟨a, vs, rfl, ha, hvs⟩ := hv.open
  have e1 : (1 : Int) + (nn p : Int) = ((1 + nn p : Nat) : Int) := by omega
  refine ⟨_, rfl, _, rfl, a, _, 0, _, rfl, rfl, ha, at_word p vs, p, rfl, _, _, rfl, rfl, _, rfl, a, _, rfl, ha, ?_, fun t ht => ?_⟩
  · rintro ⟨z, _⟩
    rw [e1, show HT.sIx (front p ++ vs).length 0 (some ((1 + nn p : Nat) : Int)) = min (1 + nn p) (front p ++ vs).length from HT.sIx_nat _ 0 _, List.length_append, front_len] at z
    omega
  · rw [e1, cut_from _ _ _ (front_len p)]
    exact q t vs ht hvs
end
end Lm

set_option Elab.async false
set_option linter.all false
set_option maxRecDepth 100000
set_option maxHeartbeats 2000000
namespace Lm
open PySem PySem.Spec PyProof.Rows L2 LmR
/-! ### forests -/
def knf (fs : List Pg) : List Pg := fs.flatMap kn
theorem knf_cons (q : Pg) (fs : List Pg) : knf (q :: fs) = q :: knf (parts q ++ fs) := by
  unfold knf
  rw [List.flatMap_cons, kn_eq, List.flatMap_append, List.cons_append]
theorem knf_one (p : Pg) : knf [p] = kn p := by simp [knf]
theorem knf_drop : ∀ (j : Nat) (fs : List Pg), ∃ gs, (knf fs).drop j = knf gs
  | 0, fs => ⟨fs, rfl⟩
  | j + 1, [] => ⟨[], by simp [knf]⟩
  | j + 1, q :: fs => by
    rw [knf_cons, List.drop_succ_cons]
    exact knf_drop j _
theorem knf_inj : ∀ (n : Nat) (fs gs : List Pg), (knf fs).length ≤ n → knf fs = knf gs → fs = gs
  | n, [], [], _, _ => rfl
  | n, [], q :: gs, _, h => by rw [knf_cons] at h; simp [knf] at h
  | n, q :: fs, [], _, h => by rw [knf_cons] at h; simp [knf] at h
  | 0, q :: fs, r :: gs, l, _ => by rw [knf_cons] at l; simp at l
  | n + 1, q :: fs, r :: gs, l, h => by
    rw [knf_cons, knf_cons] at h
    rw [knf_cons, List.length_cons] at l
    obtain ⟨rfl, h⟩ := List.cons.inj h
    have e := knf_inj n _ _ (by omega) h
    rw [List.append_cancel_left e]
/-- one knot more from the end -/
theorem knf_step {p : Pg} {j : Nat} {x : Pg} {fs : List Pg} (hx : (kn p)[j]? = some x) (hf : (kn p).drop (j + 1) = knf fs) : ∃ rest, fs = parts x ++ rest ∧ (kn p).drop j = knf (x :: rest) := by
  obtain ⟨gs, hg⟩ := knf_drop j [p]
  rw [knf_one] at hg
  obtain ⟨hj, ex⟩ := List.getElem?_eq_some_iff.mp hx
  have e : (kn p).drop j = x :: (kn p).drop (j + 1) := by rw [List.drop_eq_getElem_cons hj, ex]
  rw [e, hf] at hg
  cases gs with
  | nil => simp [knf] at hg
  | cons q rest =>
    rw [knf_cons] at hg
    obtain ⟨rfl, h⟩ := List.cons.inj hg
    refine ⟨rest, knf_inj _ _ _ (Nat.le_refl _) h, ?_⟩
    rw [e, hf, knf_cons, h]
/-! ### which word it is -/
theorem word_in {p : Pg} (h : V.str (word p) = V.str "in") : ∃ k, p = .inp k := by
  cases p with
  | inp k => exact ⟨k, rfl⟩
  | tr b => cases b <;> first | exact absurd h (show ¬ V.str ("num" : Str) = V.str "in" by decide +kernel) | exact absurd h (show ¬ V.str ("yes" : Str) = V.str "in" by decide +kernel) | exact absurd h (show ¬ V.str ("no" : Str) = V.str "in" by decide +kernel) | exact absurd h (show ¬ V.str ("plus" : Str) = V.str "in" by decide +kernel) | exact absurd h (show ¬ V.str ("least" : Str) = V.str "in" by decide +kernel) | exact absurd h (show ¬ V.str ("most" : Str) = V.str "in" by decide +kernel) | exact absurd h (show ¬ V.str ("atmost" : Str) = V.str "in" by decide +kernel) | exact absurd h (show ¬ V.str ("both" : Str) = V.str "in" by decide +kernel) | exact absurd h (show ¬ V.str ("either" : Str) = V.str "in" by decide +kernel) | exact absurd h (show ¬ V.str ("not" : Str) = V.str "in" by decide +kernel) | exact absurd h (show ¬ V.str ("if" : Str) = V.str "in" by decide +kernel)
  | bin w a b => cases w <;> first | exact absurd h (show ¬ V.str ("num" : Str) = V.str "in" by decide +kernel) | exact absurd h (show ¬ V.str ("yes" : Str) = V.str "in" by decide +kernel) | exact absurd h (show ¬ V.str ("no" : Str) = V.str "in" by decide +kernel) | exact absurd h (show ¬ V.str ("plus" : Str) = V.str "in" by decide +kernel) | exact absurd h (show ¬ V.str ("least" : Str) = V.str "in" by decide +kernel) | exact absurd h (show ¬ V.str ("most" : Str) = V.str "in" by decide +kernel) | exact absurd h (show ¬ V.str ("atmost" : Str) = V.str "in" by decide +kernel) | exact absurd h (show ¬ V.str ("both" : Str) = V.str "in" by decide +kernel) | exact absurd h (show ¬ V.str ("either" : Str) = V.str "in" by decide +kernel) | exact absurd h (show ¬ V.str ("not" : Str) = V.str "in" by decide +kernel) | exact absurd h (show ¬ V.str ("if" : Str) = V.str "in" by decide +kernel)
  | _ => first | exact absurd h (show ¬ V.str ("num" : Str) = V.str "in" by decide +kernel) | exact absurd h (show ¬ V.str ("yes" : Str) = V.str "in" by decide +kernel) | exact absurd h (show ¬ V.str ("no" : Str) = V.str "in" by decide +kernel) | exact absurd h (show ¬ V.str ("plus" : Str) = V.str "in" by decide +kernel) | exact absurd h (show ¬ V.str ("least" : Str) = V.str "in" by decide +kernel) | exact absurd h (show ¬ V.str ("most" : Str) = V.str "in" by decide +kernel) | exact absurd h (show ¬ V.str ("atmost" : Str) = V.str "in" by decide +kernel) | exact absurd h (show ¬ V.str ("both" : Str) = V.str "in" by decide +kernel) | exact absurd h (show ¬ V.str ("either" : Str) = V.str "in" by decide +kernel) | exact absurd h (show ¬ V.str ("not" : Str) = V.str "in" by decide +kernel) | exact absurd h (show ¬ V.str ("if" : Str) = V.str "in" by decide +kernel)
theorem word_if {p : Pg} (h : V.str (word p) = V.str "if") : ∃ q a b, p = .ite q a b := by
  cases p with
  | ite q a b => exact ⟨q, a, b, rfl⟩
  | tr b => cases b <;> first | exact absurd h (show ¬ V.str ("in" : Str) = V.str "if" by decide +kernel) | exact absurd h (show ¬ V.str ("num" : Str) = V.str "if" by decide +kernel) | exact absurd h (show ¬ V.str ("yes" : Str) = V.str "if" by decide +kernel) | exact absurd h (show ¬ V.str ("no" : Str) = V.str "if" by decide +kernel) | exact absurd h (show ¬ V.str ("plus" : Str) = V.str "if" by decide +kernel) | exact absurd h (show ¬ V.str ("least" : Str) = V.str "if" by decide +kernel) | exact absurd h (show ¬ V.str ("most" : Str) = V.str "if" by decide +kernel) | exact absurd h (show ¬ V.str ("atmost" : Str) = V.str "if" by decide +kernel) | exact absurd h (show ¬ V.str ("both" : Str) = V.str "if" by decide +kernel) | exact absurd h (show ¬ V.str ("either" : Str) = V.str "if" by decide +kernel) | exact absurd h (show ¬ V.str ("not" : Str) = V.str "if" by decide +kernel)
  | bin w a b => cases w <;> first | exact absurd h (show ¬ V.str ("in" : Str) = V.str "if" by decide +kernel) | exact absurd h (show ¬ V.str ("num" : Str) = V.str "if" by decide +kernel) | exact absurd h (show ¬ V.str ("yes" : Str) = V.str "if" by decide +kernel) | exact absurd h (show ¬ V.str ("no" : Str) = V.str "if" by decide +kernel) | exact absurd h (show ¬ V.str ("plus" : Str) = V.str "if" by decide +kernel) | exact absurd h (show ¬ V.str ("least" : Str) = V.str "if" by decide +kernel) | exact absurd h (show ¬ V.str ("most" : Str) = V.str "if" by decide +kernel) | exact absurd h (show ¬ V.str ("atmost" : Str) = V.str "if" by decide +kernel) | exact absurd h (show ¬ V.str ("both" : Str) = V.str "if" by decide +kernel) | exact absurd h (show ¬ V.str ("either" : Str) = V.str "if" by decide +kernel) | exact absurd h (show ¬ V.str ("not" : Str) = V.str "if" by decide +kernel)
  | _ => first | exact absurd h (show ¬ V.str ("in" : Str) = V.str "if" by decide +kernel) | exact absurd h (show ¬ V.str ("num" : Str) = V.str "if" by decide +kernel) | exact absurd h (show ¬ V.str ("yes" : Str) = V.str "if" by decide +kernel) | exact absurd h (show ¬ V.str ("no" : Str) = V.str "if" by decide +kernel) | exact absurd h (show ¬ V.str ("plus" : Str) = V.str "if" by decide +kernel) | exact absurd h (show ¬ V.str ("least" : Str) = V.str "if" by decide +kernel) | exact absurd h (show ¬ V.str ("most" : Str) = V.str "if" by decide +kernel) | exact absurd h (show ¬ V.str ("atmost" : Str) = V.str "if" by decide +kernel) | exact absurd h (show ¬ V.str ("both" : Str) = V.str "if" by decide +kernel) | exact absurd h (show ¬ V.str ("either" : Str) = V.str "if" by decide +kernel) | exact absurd h (show ¬ V.str ("not" : Str) = V.str "if" by decide +kernel)
theorem word_plus {p : Pg} (h : V.str (word p) = V.str "plus") : ∃ c a, p = .plus c a := by
  cases p with
  | plus c a => exact ⟨c, a, rfl⟩
  | tr b => cases b <;> first | exact absurd h (show ¬ V.str ("in" : Str) = V.str "plus" by decide +kernel) | exact absurd h (show ¬ V.str ("num" : Str) = V.str "plus" by decide +kernel) | exact absurd h (show ¬ V.str ("yes" : Str) = V.str "plus" by decide +kernel) | exact absurd h (show ¬ V.str ("no" : Str) = V.str "plus" by decide +kernel) | exact absurd h (show ¬ V.str ("least" : Str) = V.str "plus" by decide +kernel) | exact absurd h (show ¬ V.str ("most" : Str) = V.str "plus" by decide +kernel) | exact absurd h (show ¬ V.str ("atmost" : Str) = V.str "plus" by decide +kernel) | exact absurd h (show ¬ V.str ("both" : Str) = V.str "plus" by decide +kernel) | exact absurd h (show ¬ V.str ("either" : Str) = V.str "plus" by decide +kernel) | exact absurd h (show ¬ V.str ("not" : Str) = V.str "plus" by decide +kernel) | exact absurd h (show ¬ V.str ("if" : Str) = V.str "plus" by decide +kernel)
  | bin w a b => cases w <;> first | exact absurd h (show ¬ V.str ("in" : Str) = V.str "plus" by decide +kernel) | exact absurd h (show ¬ V.str ("num" : Str) = V.str "plus" by decide +kernel) | exact absurd h (show ¬ V.str ("yes" : Str) = V.str "plus" by decide +kernel) | exact absurd h (show ¬ V.str ("no" : Str) = V.str "plus" by decide +kernel) | exact absurd h (show ¬ V.str ("least" : Str) = V.str "plus" by decide +kernel) | exact absurd h (show ¬ V.str ("most" : Str) = V.str "plus" by decide +kernel) | exact absurd h (show ¬ V.str ("atmost" : Str) = V.str "plus" by decide +kernel) | exact absurd h (show ¬ V.str ("both" : Str) = V.str "plus" by decide +kernel) | exact absurd h (show ¬ V.str ("either" : Str) = V.str "plus" by decide +kernel) | exact absurd h (show ¬ V.str ("not" : Str) = V.str "plus" by decide +kernel) | exact absurd h (show ¬ V.str ("if" : Str) = V.str "plus" by decide +kernel)
  | _ => first | exact absurd h (show ¬ V.str ("in" : Str) = V.str "plus" by decide +kernel) | exact absurd h (show ¬ V.str ("num" : Str) = V.str "plus" by decide +kernel) | exact absurd h (show ¬ V.str ("yes" : Str) = V.str "plus" by decide +kernel) | exact absurd h (show ¬ V.str ("no" : Str) = V.str "plus" by decide +kernel) | exact absurd h (show ¬ V.str ("least" : Str) = V.str "plus" by decide +kernel) | exact absurd h (show ¬ V.str ("most" : Str) = V.str "plus" by decide +kernel) | exact absurd h (show ¬ V.str ("atmost" : Str) = V.str "plus" by decide +kernel) | exact absurd h (show ¬ V.str ("both" : Str) = V.str "plus" by decide +kernel) | exact absurd h (show ¬ V.str ("either" : Str) = V.str "plus" by decide +kernel) | exact absurd h (show ¬ V.str ("not" : Str) = V.str "plus" by decide +kernel) | exact absurd h (show ¬ V.str ("if" : Str) = V.str "plus" by decide +kernel)
theorem word_num {p : Pg} (h : V.str (word p) = V.str "num") : ∃ c, p = .num c := by
  cases p with
  | num c => exact ⟨c, rfl⟩
  | tr b => cases b <;> first | exact absurd h (show ¬ V.str ("in" : Str) = V.str "num" by decide +kernel) | exact absurd h (show ¬ V.str ("yes" : Str) = V.str "num" by decide +kernel) | exact absurd h (show ¬ V.str ("no" : Str) = V.str "num" by decide +kernel) | exact absurd h (show ¬ V.str ("plus" : Str) = V.str "num" by decide +kernel) | exact absurd h (show ¬ V.str ("least" : Str) = V.str "num" by decide +kernel) | exact absurd h (show ¬ V.str ("most" : Str) = V.str "num" by decide +kernel) | exact absurd h (show ¬ V.str ("atmost" : Str) = V.str "num" by decide +kernel) | exact absurd h (show ¬ V.str ("both" : Str) = V.str "num" by decide +kernel) | exact absurd h (show ¬ V.str ("either" : Str) = V.str "num" by decide +kernel) | exact absurd h (show ¬ V.str ("not" : Str) = V.str "num" by decide +kernel) | exact absurd h (show ¬ V.str ("if" : Str) = V.str "num" by decide +kernel)
  | bin w a b => cases w <;> first | exact absurd h (show ¬ V.str ("in" : Str) = V.str "num" by decide +kernel) | exact absurd h (show ¬ V.str ("yes" : Str) = V.str "num" by decide +kernel) | exact absurd h (show ¬ V.str ("no" : Str) = V.str "num" by decide +kernel) | exact absurd h (show ¬ V.str ("plus" : Str) = V.str "num" by decide +kernel) | exact absurd h (show ¬ V.str ("least" : Str) = V.str "num" by decide +kernel) | exact absurd h (show ¬ V.str ("most" : Str) = V.str "num" by decide +kernel) | exact absurd h (show ¬ V.str ("atmost" : Str) = V.str "num" by decide +kernel) | exact absurd h (show ¬ V.str ("both" : Str) = V.str "num" by decide +kernel) | exact absurd h (show ¬ V.str ("either" : Str) = V.str "num" by decide +kernel) | exact absurd h (show ¬ V.str ("not" : Str) = V.str "num" by decide +kernel) | exact absurd h (show ¬ V.str ("if" : Str) = V.str "num" by decide +kernel)
  | _ => first | exact absurd h (show ¬ V.str ("in" : Str) = V.str "num" by decide +kernel) | exact absurd h (show ¬ V.str ("yes" : Str) = V.str "num" by decide +kernel) | exact absurd h (show ¬ V.str ("no" : Str) = V.str "num" by decide +kernel) | exact absurd h (show ¬ V.str ("plus" : Str) = V.str "num" by decide +kernel) | exact absurd h (show ¬ V.str ("least" : Str) = V.str "num" by decide +kernel) | exact absurd h (show ¬ V.str ("most" : Str) = V.str "num" by decide +kernel) | exact absurd h (show ¬ V.str ("atmost" : Str) = V.str "num" by decide +kernel) | exact absurd h (show ¬ V.str ("both" : Str) = V.str "num" by decide +kernel) | exact absurd h (show ¬ V.str ("either" : Str) = V.str "num" by decide +kernel) | exact absurd h (show ¬ V.str ("not" : Str) = V.str "num" by decide +kernel) | exact absurd h (show ¬ V.str ("if" : Str) = V.str "num" by decide +kernel)
section
variable {P : Program} {w : World} {K : PySem.W.Frag} {mg : Str → Option Value} {base : Heap}
end
end Lm

set_option Elab.async false
set_option linter.all false
set_option maxRecDepth 100000
set_option maxHeartbeats 2000000
namespace Lm
open PySem PySem.Spec PyProof.Rows L2 LmR
def kD (b : Bool) : PyData := .str (kS b)
theorem sh0 : SeqAt.shaped (.tuple []) = true := by decide +kernel
theorem sh1 (a : Bool) : SeqAt.shaped (.tuple [kD a]) = true := by revert a; decide +kernel
theorem sh2 (a b : Bool) : SeqAt.shaped (.tuple [kD a, kD b]) = true := by revert a b; decide +kernel
theorem sh3 (a b c : Bool) : SeqAt.shaped (.tuple [kD a, kD b, kD c]) = true := by revert a b c; decide +kernel
theorem eqv_sh {d : PyData} (h : SeqAt.shaped d = true) : PyData.eqv d d = true := by
  unfold SeqAt.shaped at h
  rw [Bool.and_eq_true] at h
  exact SeqAt.eqv_refl d h.1
/-- the kinds of some programs -/
def kids (ks : List Bool) (ps : List Pg) : List V := ps.map fun p => V.str (kS (own ks p))
section
variable {P : Program} {w : World} {K : PySem.W.Frag} {mg : Str → Option Value} {base : Heap}
theorem knf_len : ∀ fs : List Pg, fs.length ≤ (knf fs).length
  | [] => Nat.le_refl _
  | q :: fs => by
    have := knf_len fs
    have h : knf (q :: fs) = kn q ++ knf fs := by simp [knf]
    rw [h, List.length_append, kn_len, List.length_cons]
    have := psz_pos q
    omega
abbrev s_knots : Stmt := topS 2
theorem sc_knots : FnScope ["program", "told", "waiting", "knot"] ["program"] (defScope s_knots) := ⟨rfl, rfl, rfl, by decide +kernel, rfl, by decide +kernel, by decide +kernel⟩
def spKnots (K : PySem.W.Frag) : Sp := fun vs H Q _ => ∃ (v : V) (p : Pg), vs = [v] ∧ At K H v p ∧ psz p ≤ 10000 ∧ ∀ (l : Addr) (us : List V) (H' : Hp), Same H H' → H l = none → H' l = some (.lst us) → Ats K H' us (kn p) → Q (.ref l) H'
theorem ok_knots (C_has_form : Cal P w K mg base 2 "has_form" ["thing"] (spHF K)) (C_parts_of : Cal P w K mg base 2 "parts_of" ["knot"] (spPO K)) (D : DefAt K mg "knots" s_knots ["program"]) : Cal P w K mg base 3 "knots" ["program"] (spKnots K) := by
  refine cal_of D sc_knots (fun vs H Q E h => ?_) (fun f cdv A outer s H vs Q E hr h => ?_)
  · obtain ⟨v, p, rfl, _⟩ := h
    rfl
  obtain ⟨v, p, rfl, hv, hsz, q⟩ := h
  have hr' : Room 2 _ := hr
  refine ⟨_, (pss_cons (ps_set (i := 1) sc_knots.nd rfl (.inl rfl) (pe_lst pa_nil))
      (pss_cons (ps_set (i := 2) sc_knots.nd rfl (.inl rfl) (pe_lst (pa_cons (pv 0) pa_nil)))
      (pss_cons (ps_while PassesOwn.never (pt_truth (pv 2) (by intro _; rfl))
        (pss_cons (ps_set (i := 3) sc_knots.nd rfl (.inl rfl) (pe_bm0 PySem.F.plainAttrs_list PySem.F.slot_list_pop PySem.F.type_list_pop mt_pop (pv 2)))
      (pss_cons (ps_expr (pe_bm PySem.F.plainAttrs_list PySem.F.slot_list_append PySem.F.type_list_append mt_append (pv 1) (pa_cons (pv 3) pa_nil)))
      (pss_one (ps_if (pt_val (pe_cal C_has_form hr' (by rfl) (pa_cons (pv 3) pa_nil)))
        (pss_one (ps_expr (pe_bm PySem.F.plainAttrs_list PySem.F.slot_list_extend PySem.F.type_list_extend mt_extendT (pv 2) (pa_cons (pe_revT (pe_cal C_parts_of hr' (by rfl) (pa_cons (pv 3) pa_nil))) pa_nil))))
        pss_nil)))))
      (pss_one (ps_ret (pv 1)))))), ?_⟩
  refine ⟨(by show 0 ≤ sizeLine; decide), fun lt hlt => ⟨_, rfl, (by show 1 ≤ sizeLine; decide), fun lw hlw => ?_⟩⟩
  have s1 : Same H (upd H lt (.lst [])) := same_new hlt
  have s2 : Same (upd H lt (.lst [])) (upd (upd H lt (.lst [])) lw (.lst [v])) := same_new hlw
  have lw0 : H lw = none := s1.free hlw
  have ntw : lt ≠ lw := fun z => by rw [← z, upd_same] at hlw; cases hlw
  refine ⟨fun m σ H' => ∃ (fs done : List Pg) (us ws : List V) (y3 : Option V), σ = [some v, some (.ref lt), some (.ref lw), y3] ∧ m = (knf fs).length ∧ Same H H' ∧ H' lt = some (.lst us) ∧ H' lw = some (.lst ws.reverse) ∧ Ats K H' ws fs ∧ Ats K H' us done ∧ done ++ knf fs = kn p, ?_, ?_⟩
  · refine ⟨_, [p], [], [], [v], none, rfl, rfl, s1.trans s2, s2 _ _ upd_same, upd_same, .cons (hv.keep (Tp.same (s1.trans s2))) .nil, .nil, by rw [knf_one]; rfl⟩
  · rintro m σ H' ⟨fs, done, us, ws, y3, rfl, rfl, sm, ht, hw, aw, au, ek⟩
    have lk : done.length + (knf fs).length = psz p := by rw [← kn_len, ← ek, List.length_append]
    refine ⟨_, rfl, _, .inl ⟨_, SqL.of hw, rfl⟩, ite2 (fun c => ?_) (fun c => ?_)⟩
    · cases ws with
      | nil => simp at c
      | cons x ws =>
        cases fs with
        | nil => cases aw
        | cons r fs =>
          obtain ⟨ax, aws⟩ : At K H' x r ∧ Ats K H' ws fs := by
            cases aw with
            | cons a b => exact ⟨a, b⟩
          rw [List.reverse_cons] at hw
          rw [knf_cons] at ek lk ⊢
          rw [List.length_cons] at lk ⊢
          refine ⟨fun σ' H2 => ∃ m', m' < (knf (parts r ++ fs)).length + 1 ∧ ∃ (fs done : List Pg) (us ws : List V) (y3 : Option V), σ' = [some v, some (.ref lt), some (.ref lw), y3] ∧ m' = (knf fs).length ∧ Same H H2 ∧ H2 lt = some (.lst us) ∧ H2 lw = some (.lst ws.reverse) ∧ Ats K H2 ws fs ∧ Ats K H2 us done ∧ done ++ knf fs = kn p, fun σ' H2 h => h, ?_⟩
          refine ⟨_, rfl, .inl ⟨rfl, _, SqL.of hw⟩, lw, _, x, rfl, rfl, hw, ?_, ?_⟩
          · rw [List.length_append, List.length_singleton, Nat.add_sub_cancel, List.getElem?_append_right (Nat.le_refl _), Nat.sub_self]
            rfl
          rw [List.dropLast_concat]
          have t2 : Tp K H' (upd H' lw (.lst ws.reverse)) := Tp.lst hw
          have hw2 : (upd H' lw (.lst ws.reverse)) lw = some (.lst ws.reverse) := upd_same
          have ht2 : (upd H' lw (.lst ws.reverse)) lt = some (.lst us) := by rw [upd_ne ntw]; exact ht
          have sm2 : Same H (upd H' lw (.lst ws.reverse)) := fun b o z => by
            rw [upd_ne (ne_of_none z lw0)]
            exact sm b o z
          generalize upd H' lw (.lst ws.reverse) = H2 at t2 hw2 ht2 sm2
          have ul : us.length = done.length := au.len
          refine ⟨_, rfl, .inl ⟨rfl, _, SqL.of ht2⟩, _, rfl, lt, _, _, rfl, rfl, ht2, smallL (by omega), ?_⟩
          have t3 : Tp K H2 (upd H2 lt (.lst (us ++ [x]))) := Tp.lst ht2
          have hw3 : (upd H2 lt (.lst (us ++ [x]))) lw = some (.lst ws.reverse) := by rw [upd_ne ntw.symm]; exact hw2
          have ht3 : (upd H2 lt (.lst (us ++ [x]))) lt = some (.lst (us ++ [x])) := upd_same
          have sm3 : Same H (upd H2 lt (.lst (us ++ [x]))) := fun b o z => by
            rw [upd_ne (ne_of_none z hlt)]
            exact sm2 b o z
          generalize upd H2 lt (.lst (us ++ [x])) = H3 at t3 hw3 ht3 sm3
          have t13 := t2.trans t3
          have ax3 := ax.keep t13
          refine ⟨_, rfl, x, r, rfl, ax3, _, rfl, ?_⟩
          refine ⟨_, rfl, .inl ⟨rfl, _, SqL.of hw3⟩, _, rfl, x, r, rfl, ax3, fun t vs ht' hvs => ?_⟩
          have s4 : Same H3 (upd H3 t (.tup vs)) := same_new ht'
          refine ⟨t, vs, rfl, .inl (.inl upd_same), fun t2' ht2' => ?_⟩
          have s5 : Same (upd H3 t (.tup vs)) (upd (upd H3 t (.tup vs)) t2' (.tup vs.reverse)) := same_new ht2'
          have s35 := s4.trans s5
          have hw5 := s35 _ _ hw3
          have ht5 := s35 _ _ ht3
          have vl := hvs.len
          have wl := aws.len
          have kl := knf_len (parts r ++ fs)
          rw [List.length_append] at kl
          refine ⟨lw, t2', _, _, rfl, rfl, hw5, .inl (.inl upd_same), by rw [List.length_reverse, List.length_reverse]; exact small (by omega), ?_⟩
          have t6 : Tp K H3 (upd (upd (upd H3 t (.tup vs)) t2' (.tup vs.reverse)) lw (.lst (ws.reverse ++ vs.reverse))) := (Tp.same s35).trans (Tp.lst hw5)
          refine ⟨(knf (parts r ++ fs)).length, Nat.lt_succ_self _, parts r ++ fs, done ++ [r], us ++ [x], vs ++ ws, some x, rfl, rfl, ?_, by rw [upd_ne ntw]; exact ht5, by rw [upd_same, List.reverse_append], (hvs.keep t6).app ((aws.keep t13).keep t6), ((au.keep t13).keep t6).app (.cons (ax3.keep t6) .nil), by rw [← ek, List.append_assoc]; rfl⟩
          intro b o z
          rw [upd_ne (ne_of_none z lw0)]
          exact s35 _ _ (sm3 b o z)
    · cases ws with
      | cons x ws => exact absurd (by simp) c
      | nil =>
        cases fs with
        | cons r fs => cases aw
        | nil =>
          have ed : done = kn p := by rw [← ek]; simp [knf]
          rw [ed] at au
          exact ⟨_, rfl, q lt us H' sm hlt ht au⟩
end
end Lm

set_option Elab.async false
set_option linter.all false
set_option maxRecDepth 100000
set_option maxHeartbeats 2000000
namespace Lm
open PySem PySem.Spec PyProof.Rows L2 LmR
section
variable {P : Program} {w : World} {K : PySem.W.Frag} {mg : Str → Option Value} {base : Heap}
end
end Lm

set_option Elab.async false
set_option linter.all false
set_option maxRecDepth 100000
set_option maxHeartbeats 2000000
namespace Lm
open PySem PySem.Spec PyProof.Rows L2 LmR
theorem in_nums (p : Pg) : inV (.str (word p)) [.str "in", .str "num", .str "plus"] = decide (nn p = 1) := by
  cases p with
  | tr b => cases b <;> rfl
  | bin w a b => cases w <;> rfl
  | _ => rfl
theorem in_words (p : Pg) : inV (.str (word p)) [.str "yes", .str "no", .str "not", .str "if", .str "least", .str "most", .str "atmost", .str "both", .str "either"] = decide (nn p = 0) := by
  cases p with
  | tr b => cases b <;> rfl
  | bin w a b => cases w <;> rfl
  | _ => rfl
theorem in_leaf (p : Pg) : inV (.str (word p)) [.str "in", .str "num"] = decide (nn p = 1 ∧ parts p = []) := by
  cases p with
  | tr b => cases b <;> rfl
  | bin w a b => cases w <;> rfl
  | plus c a => exact (show false = decide (1 = 1 ∧ [a] = []) by simp)
  | inp k => exact (show true = decide (1 = 1 ∧ ([] : List Pg) = []) by simp)
  | num k => exact (show true = decide (1 = 1 ∧ ([] : List Pg) = []) by simp)
  | neg a => rfl
  | ite p a b => rfl
def manyL : List (Key × V) := [(Sum.inr "in", .int 0), (Sum.inr "num", .int 0), (Sum.inr "yes", .int 0), (Sum.inr "no", .int 0), (Sum.inr "plus", .int 1), (Sum.inr "not", .int 1), (Sum.inr "if", .int 3)]
def manyKV : List (Key × V) := mergeK [] manyL
theorem many_get (p : Pg) : (valV manyKV (Sum.inr (word p))).getD (.int 2) = .int ((parts p).length : Nat) := by
  cases p with
  | tr b => cases b <;> rfl
  | bin w a b => cases w <;> rfl
  | _ => rfl
theorem kII {K : PySem.W.Frag} : PySem.W.kitOne K (.type "int") (.type "int") = some true := kit_ty (by decide +kernel)
theorem kIB {K : PySem.W.Frag} : PySem.W.kitOne K (.type "int") (.type "bool") = some false := kit_ty (by decide +kernel)
theorem fl_str {x : Str} : flatV (.str x) = true := rfl
section
variable {P : Program} {w : World} {K : PySem.W.Frag} {mg : Str → Option Value} {base : Heap}
abbrev s_l_has_form : Stmt := topS 21
theorem sc_l_has_form : FnScope ["_law_knot", "_law_many", "_law_words"] ["_law_knot"] (defScope s_l_has_form) := ⟨rfl, rfl, rfl, by decide +kernel, rfl, by decide +kernel, by decide +kernel⟩
def spLHF (K : PySem.W.Frag) : Sp := fun vs H Q _ => ∃ (v : V) (p : Pg), vs = [v] ∧ At K H v p ∧ ∀ H', Same H H' → Q (.bl true) H'
theorem ok_l_has_form (B : Bt mg) (D : DefAt K mg "_law_has_form" s_l_has_form ["_law_knot"]) : Cal P w K mg base 1 "_law_has_form" ["_law_knot"] (spLHF K) := by
  refine cal_of D sc_l_has_form (fun vs H Q E h => ?_) (fun f cdv A outer s H vs Q E hr h => ?_)
  · obtain ⟨v, p, rfl, _⟩ := h
    rfl
  obtain ⟨v, p, rfl, hv, q⟩ := h
  refine ⟨_, (pss_cons (ps_if (PW.pt (pw_or (pt_not (pt_val (pe_callB call_isi (by rfl) B.isinstance (by decide +kernel) (pa_cons (pv 0) (pa_cons (pe_bltn (v := .ty "tuple") (by rfl) B.tuple PyProof.Rows.boot_tuple rfl) pa_nil))))) (pw_or (pt_cmpR op_eq (pe_callB call_len_seq (by rfl) B.len PySem.boot_len (pa_cons (pv 0) pa_nil)) pe_int (nomark _)) (pw_or1 (pt_not (pt_val (pe_callB call_isi (by rfl) B.isinstance (by decide +kernel) (pa_cons (pe_ix ix_tup (pv 0) pe_int (fun _ _ => rfl)) (pa_cons (pe_bltn (v := .ty "str") (by rfl) B.str PyProof.Rows.boot_str rfl) pa_nil)))))))))
        (pss_one (ps_ret pe_bl))
        pss_nil)
      (pss_cons (ps_set (i := 1) sc_l_has_form.nd rfl (.inl rfl) (pe_dget2 (hu_of hr) (pe_disp (pps_cons pe_str pe_int (pps_cons pe_str pe_int (pps_cons pe_str pe_int (pps_cons pe_str pe_int (pps_cons pe_str pe_int (pps_cons pe_str pe_int (pps_cons pe_str pe_int pps_nil))))))) (by rfl) (by rfl) (fun z => by cases z) (by decide)) (pe_ix ix_tup (pv 0) pe_int (fun _ _ => rfl)) pe_int (by constructor <;> rfl)))
      (pss_cons (ps_if (pt_cmpR op_in_seq (pe_ix ix_tup (pv 0) pe_int (fun _ _ => rfl)) (pe_tup (pa_cons pe_str (pa_cons pe_str (pa_cons pe_str pa_nil)))) rfl)
        (pss_one (ps_ret (pe_and (pe_cmpR op_eq (pe_callB call_len_seq (by rfl) B.len PySem.boot_len (pa_cons (pv 0) pa_nil)) (pe_op op_add (pv 1) pe_int) (nomark _)) (pe_and (pe_callB call_isi (by rfl) B.isinstance (by decide +kernel) (pa_cons (pe_ix ix_tup (pv 0) pe_int (fun _ _ => rfl)) (pa_cons (pe_bltn (v := .ty "int") (by rfl) B.int PyProof.Rows.boot_int rfl) pa_nil))) (pe_one (pe_not (pe_callB call_isi (by rfl) B.isinstance (by decide +kernel) (pa_cons (pe_ix ix_tup (pv 0) pe_int (fun _ _ => rfl)) (pa_cons (pe_bltn (v := .ty "bool") (by rfl) B.bool PyProof.Rows.boot_bool rfl) pa_nil)))))))))
        pss_nil)
      (pss_cons (ps_set (i := 2) sc_l_has_form.nd rfl (.inl rfl) (pe_tup (pa_cons pe_str (pa_cons pe_str (pa_cons pe_str (pa_cons pe_str (pa_cons pe_str (pa_cons pe_str (pa_cons pe_str (pa_cons pe_str (pa_cons pe_str pa_nil)))))))))))
      (pss_one (ps_ret (pe_and (pe_cmpR op_in_seq (pe_ix ix_tup (pv 0) pe_int (fun _ _ => rfl)) (pv 2) rfl) (pe_one (pe_cmpR op_eq (pe_callB call_len_seq (by rfl) B.len PySem.boot_len (pa_cons (pv 0) pa_nil)) (pe_op op_add (pv 1) pe_int) (nomark _)))))))))), ?_⟩
  obtain ⟨a, vs, rfl, ha, hvs⟩ := hv.open
  have hl : (front p ++ vs).length = 1 + nn p + (parts p).length := by rw [List.length_append, front_len, hvs.len]
  refine ⟨_, rfl, _, _, _, _, _, rfl, .ty _, tyx_tup ha, kTT, _, rfl, ?_⟩
  refine ⟨_, rfl, a, _, rfl, .inr ha, rfl, _, rfl, ite2 (fun z => ?_) (fun _ => ?_)⟩
  · have z' : V.int (((front p ++ vs).length : Nat) : Int) = V.int 0 := of_decide_eq_true z
    have z2 := V.int.inj z'
    omega
  refine ⟨_, rfl, a, _, 0, _, rfl, rfl, ha, at_word p vs, _, _, _, _, _, rfl, .ty _, .base (.str _), kSS, _, rfl, ?_⟩
  -- many
  refine fun d hd => ⟨upd_same, manyL, rfl, (by show 7 ≤ 15; decide), ?_⟩
  refine ⟨d, rfl, .inl ⟨_, .inl upd_same⟩, ?_⟩
  have s1 : Same H (upd (upd H d (.dK [])) d (.dK manyKV)) := fun b o z => by
    rw [upd_ne (ne_of_none z hd), upd_ne (ne_of_none z hd)]
    exact z
  have e1 : (upd (upd H d (.dK [])) d (.dK manyKV)) d = some (.dK manyKV) := upd_same
  show (tOp (rIxT K) (tVar 0) (tC (V.int 0))) _ (upd (upd H d (.dK [])) d (.dK manyKV)) _
  generalize upd (upd H d (.dK [])) d (.dK manyKV) = H1 at s1 e1
  have ha1 := Tp.same (K := K) s1 _ _ ha
  refine ⟨_, rfl, a, _, 0, _, rfl, rfl, ha1, at_word p vs, _, DGet.k (k := Sum.inr (word p)) e1, ?_⟩
  rw [many_get]
  refine ⟨_, rfl, a, _, 0, _, rfl, rfl, ha1, at_word p vs, (by show 3 ≤ sizeLine; decide), fun t ht => ?_⟩
  have s2 : Same H1 (upd H1 t (.tup [.str "in", .str "num", .str "plus"])) := same_new ht
  have ha2 := Tp.same (K := K) s2 _ _ ha1
  have q2 := q _ (s1.trans s2)
  refine ⟨t, _, rfl, .inr (.inl (.inl upd_same)), rfl, rfl, _, rfl, ?_⟩
  show if inV (.str (word p)) [.str "in", .str "num", .str "plus"] = true then _ else _
  rw [in_nums]
  generalize upd H1 t (.tup [.str "in", .str "num", .str "plus"]) = H2 at s2 ha2 q2
  refine ite2 (fun z => ?_) (fun z => ?_)
  · have hn : nn p = 1 := of_decide_eq_true z
    obtain ⟨i, ei⟩ := at_num p vs (by omega)
    refine ⟨_, rfl, a, _, rfl, .inr ha2, _, rfl, _, _, rfl, rfl, rfl, _, rfl, ?_⟩
    rw [hl, show decide (V.int (((1 + nn p + (parts p).length : Nat)) : Int) = V.int (((parts p).length : Nat) + 2)) = true from decide_eq_true (congrArg V.int (by omega))]
    refine ⟨_, rfl, a, _, 1, _, rfl, rfl, ha2, ei, _, _, _, _, _, rfl, .ty _, .base (.int i), kII, _, rfl, ?_⟩
    exact ⟨_, rfl, a, _, 1, _, rfl, rfl, ha2, ei, _, _, _, _, _, rfl, .ty _, .base (.int i), kIB, _, rfl, q2⟩
  · have hn : nn p = 0 := by
      have hz : nn p ≠ 1 := fun y => z (decide_eq_true y)
      cases p <;> first | rfl | exact absurd rfl hz
    refine ⟨(by show 9 ≤ sizeLine; decide), fun t2 ht2 => ?_⟩
    have s3 : Same H2 (upd H2 t2 (.tup [.str "yes", .str "no", .str "not", .str "if", .str "least", .str "most", .str "atmost", .str "both", .str "either"])) := same_new ht2
    have ha3 := Tp.same (K := K) s3 _ _ ha2
    refine ⟨_, rfl, a, _, 0, _, rfl, rfl, ha3, at_word p vs, _, rfl, t2, _, rfl, .inr (.inl (.inl upd_same)), rfl, rfl, _, rfl, ?_⟩
    show if inV (.str (word p)) [.str "yes", .str "no", .str "not", .str "if", .str "least", .str "most", .str "atmost", .str "both", .str "either"] = true then _ else _
    rw [in_words, decide_eq_true hn]
    refine ⟨_, rfl, a, _, rfl, .inr ha3, _, rfl, _, _, rfl, rfl, rfl, ?_⟩
    rw [hl, show decide (V.int (((1 + nn p + (parts p).length : Nat)) : Int) = V.int (((parts p).length : Nat) + 1)) = true from decide_eq_true (congrArg V.int (by omega))]
    exact q _ (s1.trans (s2.trans s3))
abbrev s_l_parts : Stmt := topS 22
theorem sc_l_parts : FnScope ["_law_knot"] ["_law_knot"] (defScope s_l_parts) := ⟨rfl, rfl, rfl, by decide +kernel, rfl, by decide +kernel, by decide +kernel⟩
def spLP (K : PySem.W.Frag) : Sp := fun vs H Q _ => ∃ (v : V) (p : Pg), vs = [v] ∧ At K H v p ∧ ∀ (t : Addr) (us : List V) (H' : Hp), Same H H' → H' t = some (.tup us) → Ats K H' us (parts p) → Q (.ref t) H'
theorem ok_l_parts (B : Bt mg) (D : DefAt K mg "_law_parts" s_l_parts ["_law_knot"]) : Cal P w K mg base 1 "_law_parts" ["_law_knot"] (spLP K) := by
  refine cal_of D sc_l_parts (fun vs H Q E h => ?_) (fun f cdv A outer s H vs Q E hr h => ?_)
  · obtain ⟨v, p, rfl, _⟩ := h
    rfl
  obtain ⟨v, p, rfl, hv, q⟩ := h
  refine ⟨_, (pss_cons (ps_if (pt_cmpR op_in_seq (pe_ix ix_tup (pv 0) pe_int (fun _ _ => rfl)) (pe_tup (pa_cons pe_str (pa_cons pe_str pa_nil))) rfl)
        (pss_one (ps_ret (pe_tup pa_nil)))
        pss_nil)
      (pss_one (ps_ret (pe_slice sl_tup (pv 0) (po_some (pe_op op_add pe_int (pe_callTy call_int1 (by rfl) B.int PyProof.Rows.boot_int (pa_cons (pe_cmpR op_eq (pe_ix ix_tup (pv 0) pe_int (fun _ _ => rfl)) pe_str (nomark _)) pa_nil)))) po_none)))), ?_⟩
  obtain ⟨a, vs, rfl, ha, hvs⟩ := hv.open
  refine ⟨_, rfl, a, _, 0, _, rfl, rfl, ha, at_word p vs, (by show 2 ≤ sizeLine; decide), fun t ht => ?_⟩
  have s2 : Same H (upd H t (.tup [.str "in", .str "num"])) := same_new ht
  have ha2 := Tp.same (K := K) s2 _ _ ha
  refine ⟨t, _, rfl, .inr (.inl (.inl upd_same)), rfl, rfl, _, rfl, ?_⟩
  show if inV (.str (word p)) [.str "in", .str "num"] = true then _ else _
  rw [in_leaf]
  generalize upd H t (.tup [.str "in", .str "num"]) = H2 at s2 ha2
  refine ite2 (fun z => ?_) (fun z => ?_)
  · obtain ⟨_, hp⟩ := of_decide_eq_true z
    exact ⟨(by show 0 ≤ sizeLine; decide), fun t2 ht2 => q t2 [] _ (s2.trans (same_new ht2)) upd_same (by rw [hp]; exact .nil)⟩
  · have e1 : (1 : Int) + (if (decide (V.str (word p) = V.str "plus")) = true then (1 : Int) else 0) = ((1 + nn p : Nat) : Int) := by
      have hz : ¬ (nn p = 1 ∧ parts p = []) := fun y => z (decide_eq_true y)
      cases p with
      | inp k => exact absurd ⟨rfl, rfl⟩ hz
      | num k => exact absurd ⟨rfl, rfl⟩ hz
      | tr b => cases b <;> rfl
      | plus c a => rfl
      | bin w a b => cases w <;> rfl
      | neg a => rfl
      | ite p a b => rfl
    refine ⟨_, rfl, _, rfl, a, _, 0, _, rfl, rfl, ha2, at_word p vs, rfl, .inr ⟨_, rfl, _, _, rfl, rfl, _, rfl, a, _, rfl, ha2, ?_, fun t2 ht2 => ?_⟩⟩
    · rintro ⟨y, _⟩
      have y' : HT.sIx (front p ++ vs).length 0 (some ((1 : Int) + (if (decide (V.str (word p) = V.str "plus")) = true then (1 : Int) else 0))) = 0 := y
      rw [e1, show HT.sIx (front p ++ vs).length 0 (some ((1 + nn p : Nat) : Int)) = min (1 + nn p) (front p ++ vs).length from HT.sIx_nat _ 0 _, List.length_append, front_len] at y'
      omega
    · have ec : cutV (front p ++ vs) (some ((1 : Int) + (if (decide (V.str (word p) = V.str "plus")) = true then (1 : Int) else 0))) none = vs := by rw [e1]; exact cut_from _ _ _ (front_len p)
      have st : Same H2 (upd H2 t2 (.tup vs)) := same_new ht2
      show Q (.ref t2) (upd H2 t2 (.tup (cutV (front p ++ vs) (some ((1 : Int) + (if (decide (V.str (word p) = V.str "plus")) = true then (1 : Int) else 0))) none)))
      rw [ec]
      exact q t2 vs _ (s2.trans st) upd_same (hvs.keep (Tp.same (s2.trans st)))
end
end Lm

set_option Elab.async false
set_option linter.all false
set_option maxRecDepth 100000
set_option maxHeartbeats 2000000
namespace Lm
open PySem PySem.Spec PyProof.Rows L2 LmR
theorem dep_part (p q : Pg) (h : q ∈ parts p) : dep q + 1 ≤ dep p := by
  cases p with
  | inp k => simp [parts] at h
  | num k => simp [parts] at h
  | tr k => simp [parts] at h
  | plus c a => simp only [parts, List.mem_singleton] at h; subst h; simp only [dep]; omega
  | bin w a b =>
    simp only [parts, List.mem_cons, List.not_mem_nil, or_false] at h
    rcases h with rfl | rfl <;> (simp only [dep]; omega)
  | neg a => simp only [parts, List.mem_singleton] at h; subst h; simp only [dep]; omega
  | ite r a b =>
    simp only [parts, List.mem_cons, List.not_mem_nil, or_false] at h
    rcases h with rfl | rfl | rfl <;> (simp only [dep]; omega)
theorem psz_part (p q : Pg) (h : q ∈ parts p) : psz q + 1 ≤ psz p := by
  cases p with
  | inp k => simp [parts] at h
  | num k => simp [parts] at h
  | tr k => simp [parts] at h
  | plus c a => simp only [parts, List.mem_singleton] at h; subst h; simp only [psz]; omega
  | bin w a b =>
    simp only [parts, List.mem_cons, List.not_mem_nil, or_false] at h
    rcases h with rfl | rfl <;> (simp only [psz]; omega)
  | neg a => simp only [parts, List.mem_singleton] at h; subst h; simp only [psz]; omega
  | ite r a b =>
    simp only [parts, List.mem_cons, List.not_mem_nil, or_false] at h
    rcases h with rfl | rfl | rfl <;> (simp only [psz]; omega)
theorem dsz_enc : ∀ p : Pg, dsz (enc p) ≤ 4 * psz p
  | .inp _ => by simp [enc, dsz, dsz.dszs, psz]
  | .num _ => by simp [enc, dsz, dsz.dszs, psz]
  | .tr _ => by simp [enc, dsz, dsz.dszs, psz]
  | .plus c a => by have := dsz_enc a; simp [enc, dsz, dsz.dszs, psz]; omega
  | .bin w a b => by have := dsz_enc a; have := dsz_enc b; simp [enc, dsz, dsz.dszs, psz]; omega
  | .neg a => by have := dsz_enc a; simp [enc, dsz, dsz.dszs, psz]; omega
  | .ite p a b => by have := dsz_enc a; have := dsz_enc b; have := dsz_enc p; simp [enc, dsz, dsz.dszs, psz]; omega
theorem dszs_le (m : Nat) : ∀ ps : List Pg, (∀ p ∈ ps, psz p ≤ m) → dsz.dszs (ps.map enc) ≤ ps.length * (4 * m)
  | [], _ => by simp [dsz.dszs]
  | p :: ps, h => by
    have h1 := dszs_le m ps fun q hq => h q (List.mem_cons_of_mem _ hq)
    have h2 := dsz_enc p
    have h3 := h p List.mem_cons_self
    simp only [List.map_cons, dsz.dszs, List.length_cons, Nat.add_mul]
    omega
/-- the data of some programs in a tuple -/
theorem fd_knots {K : PySem.W.Frag} {H : Hp} {t : Addr} {us : List V} {ps : List Pg} (h : H t = some (.tup us)) (a : Ats K H us ps) : Fd K H (.ref t) (.tuple (ps.map enc)) := ⟨by simp [flat, flats_encs], .tup (.inl (.inl h)) a⟩
theorem kLL {K : PySem.W.Frag} : PySem.W.kitOne K (.type "list") (.type "list") = some true := kit_ty (by decide +kernel)
theorem pg_tupK {X : Cx} {K : PySem.W.Frag} {es : List Expr} {k : Nat} {t : TGs} {n : Nat} {pos : Pos} (hK : X.K = K) (hc : X.calm = true) (h : PGs X es t)
    (hn : (assignEach es X.env).length = n := by rfl) (hst : (assignEach es X.env).findIdx? (·.1) = none := by rfl) : PG X (.Tuple es k pos) (gTup K n t) := hK ▸ pg_tup hc h hn hst
section
variable {P : Program} {w : World} {K : PySem.W.Frag} {mg : Str → Option Value} {base : Heap}
abbrev s_l_knots : Stmt := topS 23
theorem sc_l_knots : FnScope ["_law_program", "_law_found", "_law_part"] ["_law_program"] (defScope s_l_knots) := ⟨rfl, rfl, rfl, by decide +kernel, rfl, by decide +kernel, by decide +kernel⟩
def spLK (K : PySem.W.Frag) (n : Nat) : Sp := fun vs H Q _ => ∃ (v : V) (p : Pg), vs = [v] ∧ At K H v p ∧ dep p ≤ n ∧ psz p ≤ 10000 ∧ ∀ (l : Addr) (us : List V) (H' : Hp), Same H H' → H l = none → H' l = some (.lst us) → Ats K H' us (kn p) → Q (.ref l) H'
theorem ok_l_knots1 {n : Nat} (C_l_has_form : Cal P w K mg base 1 "_law_has_form" ["_law_knot"] (spLHF K)) (C_l_parts : Cal P w K mg base 1 "_law_parts" ["_law_knot"] (spLP K)) (C_l_knots : Cal P w K mg base (n + 1) "_law_knots" ["_law_program"] (spLK K n)) (D : DefAt K mg "_law_knots" s_l_knots ["_law_program"]) : Cal P w K mg base (n + 1 + 1) "_law_knots" ["_law_program"] (spLK K (n + 1)) := by
  refine cal_of D sc_l_knots (fun vs H Q E h => ?_) (fun f cdv A outer s H vs Q E hr h => ?_)
  · obtain ⟨v, p, rfl, _⟩ := h
    rfl
  obtain ⟨v, p, rfl, hv, hdep, hsz, q⟩ := h
  have C_l_has_form := C_l_has_form.mono (k := n + 1) (by omega)
  have C_l_parts := C_l_parts.mono (k := n + 1) (by omega)
  have hr' : Room (n + 1) _ := hr
  refine ⟨_, (pss_cons (ps_set (i := 1) sc_l_knots.nd rfl (.inl rfl) (pe_lst (pa_cons (pv 0) pa_nil)))
      (pss_cons (ps_if (pt_val (pe_cal C_l_has_form hr' (by rfl) (pa_cons (pv 0) pa_nil)))
        (pss_one (ps_for PassesOwn.never rfl (pi_tup (pe_cal C_l_parts hr' (by rfl) (pa_cons (pv 0) pa_nil))) (pg_name (i := 2) sc_l_knots.nd rfl (.inl rfl))
        (pss_one (ps_expr (pe_bm PySem.F.plainAttrs_list PySem.F.slot_list_extend PySem.F.type_list_extend mt_extend (pv 1) (pa_cons (pe_cal C_l_knots hr' (by rfl) (pa_cons (pv 2) pa_nil)) pa_nil))))))
        pss_nil)
      (pss_one (ps_ret (pv 1))))), ?_⟩
  refine ⟨_, rfl, (by show 1 ≤ sizeLine; decide), fun l hl => ?_⟩
  have s1 : Same H (upd H l (.lst [v])) := same_new hl
  have l1 : (upd H l (.lst [v])) l = some (.lst [v]) := upd_same
  generalize upd H l (.lst [v]) = H1 at s1 l1
  have hv1 := hv.keep (Tp.same s1)
  refine ⟨_, rfl, v, p, rfl, hv1, fun H2 s2 => ⟨_, rfl, ?_⟩⟩
  have hv2 := hv1.keep (Tp.same s2)
  refine ⟨_, rfl, v, p, rfl, hv2, fun t vs H3 s3 ht hvs => ?_⟩
  have s13 := s2.trans s3
  refine ⟨t, rfl, ⟨_, .inl (.inl ht)⟩, for_tup (K := K) (a := t) (xs := vs) (fun i σ' H' => ∃ (us : List V) (y2 : Option V), σ' = [some v, some (.ref l), y2] ∧ Same H H' ∧ H' t = some (.tup vs) ∧ Ats K H' vs (parts p) ∧ H' l = some (.lst us) ∧ Ats K H' us (p :: knf ((parts p).take i))) ?_ ?_ ?_ ?_⟩
  · exact ⟨[v], none, rfl, s1.trans s13, ht, hvs, s13 _ _ l1, .cons (hv.keep (Tp.same (s1.trans s13))) (by simp [knf]; exact .nil)⟩
  · rintro i σ' H' _ ⟨us, y2, rfl, sm, ht', _⟩
    exact .inl (.inl ht')
  · rintro i x σ' H' hx ⟨us, y2, rfl, sm, ht', hvs', hl', hus⟩
    obtain ⟨r, hr1, har⟩ := hvs'.get i x hx
    have hmem := List.mem_of_getElem? hr1
    have d1 := dep_part p r hmem
    have z1 := psz_part p r hmem
    refine ⟨_, rfl, .inl ⟨rfl, _, SqL.of hl'⟩, _, rfl, x, r, rfl, har, by omega, by omega, fun l2 us2 H4 s4 l20 hl2 hus2 => ?_⟩
    have hl4 := s4 _ _ hl'
    have nl : l ≠ l2 := fun z => by
      rw [← z, hl'] at l20
      cases l20
    have e1 : us.length = 1 + (knf ((parts p).take i)).length := by rw [hus.len, List.length_cons]; omega
    have e2 : us2.length = psz r := by rw [hus2.len, kn_len]
    have e3 : (knf ((parts p).take (i + 1))) = knf ((parts p).take i) ++ kn r := by
      rw [List.take_add_one, hr1]
      simp [knf]
    have e4 : (knf ((parts p).take (i + 1))).length ≤ psz p := by
      have z : knf (parts p) = knf ((parts p).take (i + 1)) ++ knf ((parts p).drop (i + 1)) := by
        unfold knf
        rw [← List.flatMap_append, List.take_append_drop]
      have z2 : psz p = 1 + (knf (parts p)).length := by
        rw [← kn_len, kn_eq]
        simp [knf]
        omega
      rw [z, List.length_append] at z2
      omega
    rw [e3, List.length_append, kn_len] at e4
    refine ⟨l, l2, us, us2, rfl, rfl, hl4, hl2, small (by omega), us ++ us2, _, rfl, fun b o z => ?_, ?_, ?_, upd_same, ?_⟩
    · rw [upd_ne (ne_of_none z hl)]
      exact s4 _ _ (sm b o z)
    · rw [upd_ne (fun z => by rw [z, hl'] at ht'; cases ht')]
      exact s4 _ _ ht'
    · exact (hvs'.keep (Tp.same s4)).keep (Tp.lst hl4)
    · have t5 : Tp K H4 (upd H4 l (.lst (us ++ us2))) := Tp.lst hl4
      have z := ((hus.keep (Tp.same s4)).keep t5).app (hus2.keep t5)
      rw [e3]
      exact z
  · rintro σ' H' ⟨us, y2, rfl, sm, ht', hvs', hl', hus⟩
    rw [hvs.len, List.take_length] at hus
    refine ⟨_, rfl, q l us H' sm hl hl' ?_⟩
    rw [kn_eq]
    exact hus
theorem ok_l_knots (C_l_has_form : Cal P w K mg base 1 "_law_has_form" ["_law_knot"] (spLHF K)) (C_l_parts : Cal P w K mg base 1 "_law_parts" ["_law_knot"] (spLP K)) (D : DefAt K mg "_law_knots" s_l_knots ["_law_program"]) : ∀ n : Nat, Cal P w K mg base (n + 1) "_law_knots" ["_law_program"] (spLK K n)
  | 0 => cal_no D fun vs H Q E h => by
    obtain ⟨v, p, _, _, h1, _⟩ := h
    have := dep_pos p
    omega
  | n + 1 => ok_l_knots1 C_l_has_form C_l_parts (ok_l_knots C_l_has_form C_l_parts D n) D
abbrev s_l_own : Stmt := topS 24
theorem sc_l_own : FnScope ["_law_kinds_here", "_law_knot"] ["_law_kinds_here", "_law_knot"] (defScope s_l_own) := ⟨rfl, rfl, rfl, by decide +kernel, rfl, by decide +kernel, by decide +kernel⟩
def spLO (K : PySem.W.Frag) (n : Nat) : Sp := fun vs H Q _ => ∃ (ka : Addr) (ks : List Bool) (v : V) (p : Pg), vs = [.ref ka, v] ∧ SqT K H ka (kVs ks) ∧ At K H v p ∧ Wk ks p ∧ dep p ≤ n ∧ ∀ H', Same H H' → Q (.str (kS (own ks p))) H'
theorem in_num4 (p : Pg) (h1 : ∀ k, p ≠ .inp k) (h2 : ∀ q a b, p ≠ .ite q a b) (ks : List Bool) : inV (.str (word p)) [.str "num", .str "plus", .str "least", .str "most"] = !(own ks p) := by
  cases p with
  | tr b => cases b <;> rfl
  | bin w a b => cases w <;> rfl
  | inp k => exact absurd rfl (h1 k)
  | ite q a b => exact absurd rfl (h2 q a b)
  | _ => rfl
theorem ok_l_own1 {n : Nat} (B : Bt mg) (C_l_own : Cal P w K mg base (n + 1) "_law_own" ["_law_kinds_here", "_law_knot"] (spLO K n)) (D : DefAt K mg "_law_own" s_l_own ["_law_kinds_here", "_law_knot"]) : Cal P w K mg base (n + 1 + 1) "_law_own" ["_law_kinds_here", "_law_knot"] (spLO K (n + 1)) := by
  refine cal_of D sc_l_own (fun vs H Q E h => ?_) (fun f cdv A outer s H vs Q E hr h => ?_)
  · obtain ⟨ka, ks, v, p, rfl, _⟩ := h
    rfl
  obtain ⟨ka, ks, v, p, rfl, hk, hv, hw, hdep, q⟩ := h
  have hr' : Room (n + 1) _ := hr
  refine ⟨_, (pss_cons (ps_if (pt_cmpR op_eq (pe_ix ix_tup (pv 1) pe_int (fun _ _ => rfl)) pe_str (nomark _))
        (pss_one (ps_ret (pe_cal C_l_own hr' (by rfl) (pa_cons (pv 0) (pa_cons (pe_ix ix_tup (pv 1) pe_int (fun _ _ => rfl)) pa_nil)))))
        pss_nil)
      (pss_cons (ps_if (pt_cmpR op_eq (pe_ix ix_tup (pv 1) pe_int (fun _ _ => rfl)) pe_str (nomark _))
        (pss_one (ps_ret (pe_ix ix_tup (pv 0) (pe_ix ix_tup (pv 1) pe_int (fun _ _ => rfl)) (fun _ _ => rfl))))
        pss_nil)
      (pss_one (ps_ret (pe_ix ix_list (pe_lst (pa_cons pe_str (pa_cons pe_str pa_nil))) (pe_callTy call_int1 (by rfl) B.int PyProof.Rows.boot_int (pa_cons (pe_cmpR op_in_seq (pe_ix ix_tup (pv 1) pe_int (fun _ _ => rfl)) (pe_tup (pa_cons pe_str (pa_cons pe_str (pa_cons pe_str (pa_cons pe_str pa_nil))))) rfl) pa_nil)) (fun _ _ => rfl)))))), ?_⟩
  obtain ⟨a, vs, rfl, ha, hvs⟩ := hv.open
  refine ⟨_, rfl, a, _, 0, _, rfl, rfl, ha, at_word p vs, rfl, _, rfl, ite2 (fun z => ?_) (fun z => ?_)⟩
  · have z' : V.str (word p) = V.str "if" := of_decide_eq_true z
    obtain ⟨r, x, y, rfl⟩ := word_if z'
    obtain ⟨u1, u2, u3, rfl, a1, a2, a3⟩ := hvs.three
    have d1 := dep_part (.ite r x y) x (by simp [parts])
    exact ⟨_, rfl, _, rfl, a, _, 2, u2, rfl, rfl, ha, rfl, ka, ks, u2, x, rfl, hk, a2, hw.2.1, by omega, q⟩
  refine ⟨_, rfl, a, _, 0, _, rfl, rfl, ha, at_word p vs, rfl, _, rfl, ite2 (fun y => ?_) (fun y => ?_)⟩
  · have y' : V.str (word p) = V.str "in" := of_decide_eq_true y
    obtain ⟨k, rfl⟩ := word_in y'
    have hk' : k < ks.length := hw
    have ek : (kVs ks)[k]? = some (.str (kS (own ks (.inp k)))) := by
      unfold kVs
      rw [List.getElem?_map, List.getElem?_eq_getElem hk']
      show some (V.str (kS ks[k])) = some (V.str (kS (ks.getD k false)))
      rw [List.getD_eq_getElem?_getD, List.getElem?_eq_getElem hk']
      rfl
    exact ⟨_, rfl, _, rfl, a, _, 1, .int k, rfl, rfl, ha, at_of (j := 1) rfl rfl, ka, _, _, _, rfl, rfl, hk, at_of (j := k) rfl ek, q _ (Same.refl _)⟩
  · have h1 : ∀ k, p ≠ .inp k := fun k e => y (decide_eq_true (by rw [e]; rfl))
    have h2 : ∀ r x u, p ≠ .ite r x u := fun r x u e => z (decide_eq_true (by rw [e]; rfl))
    refine ⟨(by show 2 ≤ sizeLine; decide), fun l hl => ?_⟩
    have s1 : Same H (upd H l (.lst [.str "truth", .str "num"])) := same_new hl
    have ha1 := Tp.same (K := K) s1 _ _ ha
    refine ⟨_, rfl, a, _, 0, _, rfl, rfl, ha1, at_word p vs, (by show 4 ≤ sizeLine; decide), fun t ht => ?_⟩
    have s2 := same_new (o := .tup [.str "num", .str "plus", .str "least", .str "most"]) ht
    refine ⟨t, _, rfl, .inr (.inl (.inl upd_same)), rfl, rfl, .inr ⟨_, rfl, ?_⟩⟩
    have hl2 := s2 _ _ (upd_same (H := H) (a := l) (o := .lst [.str "truth", .str "num"]))
    show (rIxL K) (.ref l) (.int (if inV (.str (word p)) [.str "num", .str "plus", .str "least", .str "most"] = true then 1 else 0)) _ _
    rw [in_num4 p h1 h2 ks]
    have qq := q _ (s1.trans s2)
    revert qq
    cases own ks p with
    | true => intro qq; exact ⟨l, _, 0, .str "truth", rfl, rfl, SqL.of hl2, rfl, qq⟩
    | false => intro qq; exact ⟨l, _, 1, .str "num", rfl, rfl, SqL.of hl2, rfl, qq⟩
theorem ok_l_own (B : Bt mg) (D : DefAt K mg "_law_own" s_l_own ["_law_kinds_here", "_law_knot"]) : ∀ n : Nat, Cal P w K mg base (n + 1) "_law_own" ["_law_kinds_here", "_law_knot"] (spLO K n)
  | 0 => cal_no D fun vs H Q E h => by
    obtain ⟨ka, ks, v, p, _, _, _, _, h1, _⟩ := h
    have := dep_pos p
    omega
  | n + 1 => ok_l_own1 B (ok_l_own B D n) D
end
end Lm

set_option Elab.async false
set_option linter.all false
set_option maxRecDepth 100000
set_option maxHeartbeats 2000000
namespace Lm
open PySem PySem.Spec PyProof.Rows L2 LmR
theorem dpall_app {K : PySem.W.Frag} {H : Hp} : ∀ {xs ys : List V} {ds es : List PyData}, DpAll K H xs ds → DpAll K H ys es → DpAll K H (xs ++ ys) (ds ++ es)
  | [], _, _, _, .nil, b => b
  | _ :: _, _, _, _, .cons a r, b => .cons a (dpall_app r b)
theorem flats_app : ∀ ds es : List PyData, flat.flats ds = true → flat.flats es = true → flat.flats (ds ++ es) = true
  | [], _, _, b => b
  | d :: ds, es, a, b => by
    rw [flat.flats, Bool.and_eq_true] at a
    rw [List.cons_append, flat.flats, a.1, flats_app ds es a.2 b]
    rfl
theorem flats_get2 : ∀ ds : List PyData, flat.flats ds = true → ∀ (i : Nat) (d : PyData), ds[i]? = some d → flat d = true
  | [], _, _, _, h => by simp at h
  | d :: ds, a, i, e, h => by
    rw [flat.flats, Bool.and_eq_true] at a
    cases i with
    | zero => simp at h; rw [← h]; exact a.1
    | succ i => exact flats_get2 ds a.2 i e (by simpa using h)
theorem fd_tup {K : PySem.W.Frag} {H : Hp} {t : Addr} {vs : List V} {ds : List PyData} (h : H t = some (.tup vs)) (r : DpAll K H vs ds) (f : flat.flats ds = true) : Fd K H (.ref t) (.tuple ds) := ⟨f, .tup (.inl (.inl h)) r⟩
theorem cut_take {xs : List V} {j : Nat} (h : j ≤ xs.length) : cutV xs none (some (j : Int)) = xs.take j := by
  unfold cutV
  rw [HT.sIx_none, show HT.sIx xs.length xs.length (some (j : Int)) = min j xs.length from HT.sIx_nat _ _ j]
  rw [Nat.min_eq_left h, List.drop_zero, Nat.sub_zero]
section
variable {K : PySem.W.Frag}
theorem cutV_all {xs : List V} {lo hi : Option Int} (h : HT.sIx xs.length 0 lo = 0 ∧ HT.sIx xs.length xs.length hi = xs.length) : cutV xs lo hi = xs := by
  unfold cutV
  rw [h.1, h.2, List.drop_zero, Nat.sub_zero, List.take_length]
theorem slA_any {a : Addr} {xs : List V} {lo hi : Option Int} {H : Hp} {Q : VK} (ha : SqT K H a xs) (q : ∀ p H', Same H H' → SqT K H' p (cutV xs lo hi) → Q (.ref p) H') : rSlA K (.ref a) lo hi H Q :=
  ⟨a, xs, rfl, ha, fun h => q a H (fun _ _ z => z) (by rw [cutV_all h]; exact ha), fun _ p hp => q p _ (same_new hp) (.inl (.inl upd_same))⟩
theorem catA_any {a b : Addr} {xs ys : List V} {H : Hp} {Q : VK} (ha : SqT K H a xs) (hb : SqT K H b ys) (hz : xs.length + ys.length ≤ sizeLine) (q : ∀ p H', Same H H' → SqT K H' p (xs ++ ys) → Q (.ref p) H') : rCatA K (.ref a) (.ref b) H Q :=
  ⟨a, b, xs, ys, rfl, rfl, ha, hb, hz, fun e => q b H (fun _ _ z => z) (by rw [e]; exact hb), fun _ e => q a H (fun _ _ z => z) (by rw [e, List.append_nil]; exact ha), fun _ _ p hp => q p _ (same_new hp) (.inl (.inl upd_same))⟩
theorem dpall_drop {H : Hp} : ∀ (n : Nat) {xs : List V} {ds : List PyData}, DpAll K H xs ds → DpAll K H (xs.drop n) (ds.drop n)
  | 0, _, _, r => r
  | n + 1, [], [], .nil => .nil
  | n + 1, _ :: _, _ :: _, .cons a r => dpall_drop n r
theorem dpall_take {H : Hp} : ∀ (n : Nat) {xs : List V} {ds : List PyData}, DpAll K H xs ds → DpAll K H (xs.take n) (ds.take n)
  | 0, _, _, _ => .nil
  | n + 1, [], [], .nil => .nil
  | n + 1, _ :: _, _ :: _, .cons a r => .cons a (dpall_take n r)
theorem dszs_drop : ∀ (n : Nat) (ds : List PyData), dsz.dszs (ds.drop n) ≤ dsz.dszs ds
  | 0, _ => Nat.le_refl _
  | n + 1, [] => Nat.le_refl _
  | n + 1, d :: ds => by
    have := dszs_drop n ds
    simp only [List.drop_succ_cons, dsz.dszs]
    omega
theorem dszs_take : ∀ (n : Nat) (ds : List PyData), dsz.dszs (ds.take n) ≤ dsz.dszs ds
  | 0, _ => Nat.zero_le _
  | n + 1, [] => Nat.le_refl _
  | n + 1, d :: ds => by
    have := dszs_take n ds
    simp only [List.take_succ_cons, dsz.dszs]
    omega
theorem flats_drop : ∀ (n : Nat) (ds : List PyData), flat.flats ds = true → flat.flats (ds.drop n) = true
  | 0, _, h => h
  | n + 1, [], h => h
  | n + 1, d :: ds, h => by
    rw [flat.flats, Bool.and_eq_true] at h
    exact flats_drop n ds h.2
theorem flats_take : ∀ (n : Nat) (ds : List PyData), flat.flats ds = true → flat.flats (ds.take n) = true
  | 0, _, _ => rfl
  | n + 1, [], h => h
  | n + 1, d :: ds, h => by
    rw [flat.flats, Bool.and_eq_true] at h
    rw [List.take_succ_cons, flat.flats, h.1, flats_take n ds h.2]
    rfl
/-- what is picked out of a list of data -/
theorem pick {H : Hp} {xs : List V} {ds : List PyData} (r : DpAll K H xs ds) (f : flat.flats ds = true) {i : Int} (h0 : 0 ≤ i) (h1 : i < (ds.length : Nat)) : ∃ v d, atI xs i = some v ∧ Fd K H v d ∧ d ∈ ds := by
  have hl := dpall_len r
  have hlt : i.toNat < xs.length := by omega
  obtain ⟨d, hd, hD⟩ := dpall_get r i.toNat xs[i.toNat] (List.getElem?_eq_getElem hlt)
  refine ⟨xs[i.toNat], d, at_of (j := i.toNat) (by omega) (List.getElem?_eq_getElem hlt), ⟨flats_get2 ds f _ d hd, hD⟩, List.mem_of_getElem? hd⟩
theorem cut_dp {H : Hp} {xs : List V} {ds : List PyData} (r : DpAll K H xs ds) (lo hi : Option Int) : ∃ es, DpAll K H (cutV xs lo hi) es ∧ (flat.flats ds = true → flat.flats es = true) ∧ dsz.dszs es ≤ dsz.dszs ds ∧ es.length ≤ ds.length := by
  unfold cutV
  refine ⟨_, dpall_take _ (dpall_drop _ r), fun f => flats_take _ _ (flats_drop _ _ f), Nat.le_trans (dszs_take _ _) (dszs_drop _ _), ?_⟩
  rw [List.length_take, List.length_drop]
  omega
end
end Lm

set_option Elab.async false
set_option linter.all false
set_option maxRecDepth 100000
set_option maxHeartbeats 2000000
namespace Lm
open PySem PySem.Spec PyProof.Rows L2 LmR
theorem gr_same {ws : List Addr} {f : Addr} {H H' : Hp} (fl : Flow H f) (s : Same H H') : Gr ws f H H' := ⟨Ex.of_same s, by
  obtain ⟨x, y, z, e, r⟩ := fl
  exact ⟨x, y, z, s _ _ e, r⟩⟩
theorem fl_nf {f : Addr} {H : Hp} (g : Flow H f) {D : Addr} (h : H D = none) : D ≠ f := fun z => by
  obtain ⟨xs, e⟩ := g.lst
  rw [z, e] at h
  cases h
theorem gr_put {ws : List Addr} {f : Addr} {H H' : Hp} {p : Addr} {o : HO} (g : Gr ws f H H') (h : H p = none) (n : p ≠ f) : Gr ws f H (upd H' p o) := by
  refine ⟨fun b u hb nb => ?_, ?_⟩
  · rw [upd_ne (ne_of_none hb h)]
    exact g.ex b u hb nb
  · obtain ⟨x, y, z, e, r⟩ := g.fl
    exact ⟨x, y, z, by rw [upd_ne n.symm]; exact e, r⟩
theorem iteY3 {c : Prop} [Decidable c] {A B : Prop} (h : c) (a : A) : if c then A else B := by rw [if_pos h]; exact a
/-- a key's data -/
def vK : V → PyData
  | .int i => .int i
  | .str s => .str s
  | _ => .none
def isKey (v : V) : Prop := (∃ i, v = .int i) ∨ ∃ s, v = .str s
theorem key_dp {K : PySem.W.Frag} {H : Hp} {v : V} (h : isKey v) : Dp K H v (vK v) := by
  rcases h with ⟨i, rfl⟩ | ⟨s, rfl⟩
  · exact .int i
  · exact .str s
theorem vK_flat (v : V) : flat (vK v) = true := by cases v <;> rfl
theorem vK_sz (v : V) : dsz (vK v) = 1 := by cases v <;> rfl
def pdat (ps : List (PyData × Int)) : List PyData := ps.map fun p => .tuple [p.1, .int p.2]
theorem pdat_flat : ∀ ps : List (PyData × Int), (∀ p ∈ ps, flat p.1 = true) → flat.flats (pdat ps) = true
  | [], _ => rfl
  | p :: ps, h => by
    have h1 := h p List.mem_cons_self
    have h2 := pdat_flat ps fun q hq => h q (List.mem_cons_of_mem _ hq)
    show (flat (.tuple [p.1, .int p.2]) && flat.flats (pdat ps)) = true
    rw [h2, Bool.and_true]
    simp [flat, flat.flats, h1]
/-- the words that a stock may have -/
def stockWs : List Str := ["yes", "no", "least", "most", "atmost", "not", "both", "either", "if"]
theorem map_erase {α β : Type} (f : α → β) : ∀ (l : List α) (k : Nat), (l.map f).eraseIdx k = (l.eraseIdx k).map f
  | [], k => by simp
  | x :: l, 0 => rfl
  | x :: l, k + 1 => by
    show f x :: (l.map f).eraseIdx k = f x :: (l.eraseIdx k).map f
    rw [map_erase f l k]
theorem six_nat {d : Int} {n : Nat} (h0 : 0 ≤ d) (h1 : d < (n : Int)) : seqIndex? d n = some d.toNat := by
  unfold seqIndex?
  simp
  omega
section
variable {P : Program} {w : World} {K : PySem.W.Frag} {mg : Str → Option Value} {base : Heap}
abbrev s_l_pairs : Stmt := topS 26
theorem sc_l_pairs : FnScope ["_law_flow_here", "_law_some", "_law_thing"] ["_law_flow_here", "_law_some"] (defScope s_l_pairs) := ⟨rfl, rfl, rfl, by decide +kernel, rfl, by decide +kernel, by decide +kernel⟩
def spLPairs (K : PySem.W.Frag) : Sp := fun vs H Q _ => ∃ (f l : Addr) (ks : List V), vs = [.ref f, .ref l] ∧ Flow H f ∧ H l = some (.lst ks) ∧ l ≠ f ∧ ks.length ≤ 10 ∧ (∀ v ∈ ks, isKey v) ∧
  ∀ (t : Addr) (ps : List (PyData × Int)) (H' : Hp), Gr [] f H H' → Fd K H' (.ref t) (.tuple (pdat ps)) → ps.map (·.1) = ks.map vK → (∀ p ∈ ps, 1 ≤ p.2 ∧ p.2 ≤ 9) → Q (.ref t) H'
theorem ok_l_pairs (B : Bt mg) (C_l_draw : Cal P w K mg base 1 "_law_draw" ["_law_flow_here", "_law_many"] (spDraw)) (D : DefAt K mg "_law_pairs" s_l_pairs ["_law_flow_here", "_law_some"]) : Cal P w K mg base 2 "_law_pairs" ["_law_flow_here", "_law_some"] (spLPairs K) := by
  refine cal_of D sc_l_pairs (fun vs H Q E h => ?_) (fun f cdv A outer s H vs Q E hr h => ?_)
  · obtain ⟨f, l, ks, rfl, _⟩ := h
    rfl
  obtain ⟨f, l, ks, rfl, fl, hl, nlf, hk, hkey, q⟩ := h
  have hr' : Room 1 _ := hr
  refine ⟨_, (pss_one (ps_ret (pe_callTy call_tuple_of (by rfl) B.tuple PyProof.Rows.boot_tuple (pa_cons (pe_lc (own := [("_law_thing", 2)]) (g := gName 2) rfl sc_l_pairs.nd (pi_list (pv 1)) (blkOk_by (own := [("_law_thing", 2)]) (N := ["_law_flow_here", "_law_some", "_law_thing"]) (sc := defScope s_l_pairs) (by decide +kernel)) (fun _ _ _ _ _ => (pg_name (i := 2) sc_l_pairs.nd rfl (.inl rfl))) (fun _ _ _ _ _ => pts_nil) (fun _ _ _ _ _ => (pe_tup (pa_cons (pv 2) (pa_cons (pe_op op_add pe_int (pe_cal C_l_draw hr' (by rfl) (pa_cons (pv 0) (pa_cons (pe_ix (ix_listK (K := K) rfl) (pe_lst (pa_cons pe_int (pa_cons pe_int (pa_cons pe_int (pa_cons pe_int pa_nil))))) (pe_cal C_l_draw hr' (by rfl) (pa_cons (pv 0) (pa_cons pe_int pa_nil))) (fun _ _ => rfl)) pa_nil)))) pa_nil))))) pa_nil)))), ?_⟩
  refine ⟨_, rfl, l, rfl, ⟨_, SqL.of hl⟩, fun D hD => lc_list (K := K) (a := l) (xs := ks) (fun j H' => Gr [] f H H' ∧ ∃ (ts : List V) (ps : List (PyData × Int)), H' D = some (.lst ts) ∧ DpAll K H' ts (pdat ps) ∧ ps.map (·.1) = (ks.take j).map vK ∧ ∀ p ∈ ps, 1 ≤ p.2 ∧ p.2 ≤ 9) ?_ ?_ ?_ ?_⟩
  · exact ⟨Gr.new fl hD, [], [], upd_same, .nil, rfl, fun p hp => absurd hp (by simp)⟩
  · rintro j H' _ ⟨g, _⟩
    exact SqL.of (g.ex _ _ hl (by simp [nlf]))
  · rintro j x H' hx ⟨g, ts, ps, hD', hts, hps, hw⟩
    have nDf := fl_nf fl hD
    have hi : j < ks.length := (List.getElem?_eq_some_iff.mp hx).1
    have kx := hkey x (List.mem_of_getElem? hx)
    have pfl : flat.flats (pdat ps) = true := pdat_flat ps fun p hp => by
      have z : p.1 ∈ ps.map (·.1) := List.mem_map.mpr ⟨p, hp, rfl⟩
      rw [hps] at z
      obtain ⟨y, _, e⟩ := List.mem_map.mp z
      rw [← e]
      exact vK_flat y
    have tl : ts.length ≤ 10 := by
      have z := dpall_len hts
      have y := congrArg List.length hps
      rw [List.length_map, List.length_map, List.length_take] at y
      have x : (pdat ps).length = ps.length := List.length_map _
      omega
    refine ⟨rfl, _, rfl, _, rfl, (by show 4 ≤ sizeLine; decide), fun p hp => ?_⟩
    have npf := fl_nf g.fl hp
    have gp : Gr [] f H (upd H' p (.lst [.int 1, .int 2, .int 3, .int 9])) := g.trans (Gr.new g.fl hp)
    have tp0 : Tp K H' (upd H' p (.lst [.int 1, .int 2, .int 3, .int 9])) := Tp.new hp
    have hp0 : (upd H' p (.lst [.int 1, .int 2, .int 3, .int 9])) p = some (.lst [.int 1, .int 2, .int 3, .int 9]) := upd_same
    have hD0 : (upd H' p (.lst [.int 1, .int 2, .int 3, .int 9])) D = some (.lst ts) := by rw [upd_ne (ne_of_none hD' hp)]; exact hD'
    generalize upd H' p (.lst [.int 1, .int 2, .int 3, .int 9]) = H0 at gp tp0 hp0 hD0
    refine ⟨_, rfl, f, 4, rfl, gp.fl, by decide, by decide, fun i H2 i0 i1 dr2 => ?_⟩
    have hp2 : H2 p = _ := (dr2.off p npf).trans hp0
    have hD2 : H2 D = _ := (dr2.off D nDf).trans hD0
    have g2 := gp.trans dr2.gr
    have tp2 := tp0.trans (dr2.tp gp.fl)
    obtain ⟨wd, ewd, w0, w1⟩ : ∃ wd : Int, atI [V.int 1, V.int 2, V.int 3, V.int 9] i = some (V.int wd) ∧ 1 ≤ wd ∧ wd ≤ 9 := by
      rcases (show i = 0 ∨ i = 1 ∨ i = 2 ∨ i = 3 by omega) with z | z | z | z
      · subst z; exact ⟨1, rfl, by decide, by decide⟩
      · subst z; exact ⟨2, rfl, by decide, by decide⟩
      · subst z; exact ⟨3, rfl, by decide, by decide⟩
      · subst z; exact ⟨9, rfl, by decide, by decide⟩
    refine ⟨p, _, i, _, rfl, rfl, SqL.of hp2, ewd, f, wd, rfl, g2.fl, by omega, by omega, fun d H3 d0 d1 dr3 => ⟨_, _, rfl, rfl, (by show 2 ≤ sizeLine; decide), fun t ht => ?_⟩⟩
    have g3 := g2.trans dr3.gr
    have tp3 := tp2.trans (dr3.tp g2.fl)
    have hD3 : H3 D = _ := (dr3.off D nDf).trans hD2
    have g4 : Gr [] f H (upd H3 t (.tup [x, .int (1 + d)])) := g3.trans (Gr.new g3.fl ht)
    have tp4 : Tp K H' (upd H3 t (.tup [x, .int (1 + d)])) := tp3.trans (Tp.new ht)
    have et : (upd H3 t (.tup [x, .int (1 + d)])) t = some (.tup [x, .int (1 + d)]) := upd_same
    have hD4 : (upd H3 t (.tup [x, .int (1 + d)])) D = some (.lst ts) := by rw [upd_ne (ne_of_none hD3 ht)]; exact hD3
    generalize upd H3 t (.tup [x, .int (1 + d)]) = H4 at g4 tp4 et hD4
    have t5 : Tp K H4 (upd H4 D (.lst (ts ++ [.ref t]))) := Tp.lst hD4
    refine ⟨ts, hD4, smallL (by omega), gr_put g4 hD nDf, ts ++ [.ref t], ps ++ [(vK x, 1 + d)], upd_same, ?_, ?_, fun p hp => ?_⟩
    · rw [show pdat (ps ++ [(vK x, 1 + d)]) = pdat ps ++ [.tuple [vK x, .int (1 + d)]] by unfold pdat; rw [List.map_append]; rfl]
      exact dpall_app (dps_keep (tp4.trans t5) _ _ pfl hts) (.cons (.tup (t5 _ _ (.inl (.inl et))) (.cons (key_dp kx) (.cons (.int _) .nil))) .nil)
    · rw [List.map_append, hps, List.take_add_one, hx, List.map_append]
      rfl
    · rcases List.mem_append.mp hp with z | z
      · exact hw p z
      · rw [List.mem_singleton.mp z]
        exact ⟨by show 1 ≤ 1 + d; omega, by show 1 + d ≤ 9; omega⟩
  rintro H1 ⟨g1, ts, ps, hD1, hts, hps, hw⟩
  rw [List.take_length] at hps
  have pfl : flat.flats (pdat ps) = true := pdat_flat ps fun p hp => by
    have z : p.1 ∈ ps.map (·.1) := List.mem_map.mpr ⟨p, hp, rfl⟩
    rw [hps] at z
    obtain ⟨y, _, e⟩ := List.mem_map.mp z
    rw [← e]
    exact vK_flat y
  refine ⟨D, ts, rfl, .inl ⟨SqL.of hD1, fun t ht => ?_⟩⟩
  exact q t ps _ (g1.trans (Gr.new g1.fl ht)) ⟨pfl, .tup (.inl (.inl upd_same)) (dps_keep (Tp.new ht) _ _ pfl hts)⟩ hps hw
abbrev s_l_unlike : Stmt := topS 27
theorem sc_l_unlike : FnScope ["_law_flow_here", "_law_many", "_law_least", "_law_found", "_law_k", "_law_number", "_law_turn"] ["_law_flow_here", "_law_many", "_law_least"] (defScope s_l_unlike) := ⟨rfl, rfl, rfl, by decide +kernel, rfl, by decide +kernel, by decide +kernel⟩
def spUnl (K : PySem.W.Frag) : Sp := fun vs H Q _ => ∃ (f : Addr) (m least : Int), vs = [.ref f, .int m, .int least] ∧ Flow H f ∧ 0 ≤ m ∧ m ≤ 10 ∧
  ∀ (L : Addr) (ns : List Int) (H' : Hp), Gr [] f H H' → H L = none → H' L = some (.lst (ns.map V.int)) → (ns.length : Int) = m → (∀ n ∈ ns, -1010 ≤ n ∧ n ≤ 1010) → Q (.ref L) H'
theorem ints_flat : ∀ ns : List Int, (ns.map V.int).all flatV = true
  | [] => rfl
  | n :: ns => by rw [List.map_cons, List.all_cons, ints_flat ns]; rfl
theorem ok_l_unlike (B : Bt mg) (C_l_numeral : Cal P w K mg base 2 "_law_numeral" ["_law_flow_here"] (spNumeral)) (D : DefAt K mg "_law_unlike" s_l_unlike ["_law_flow_here", "_law_many", "_law_least"]) : Cal P w K mg base 3 "_law_unlike" ["_law_flow_here", "_law_many", "_law_least"] (spUnl K) := by
  refine cal_of D sc_l_unlike (fun vs H Q E h => ?_) (fun f cdv A outer s H vs Q E hr h => ?_)
  · obtain ⟨f, m, least, rfl, _⟩ := h
    rfl
  obtain ⟨f, m, least, rfl, fl, m0, m10, q⟩ := h
  have hr' : Room 2 _ := hr
  refine ⟨_, (pss_cons (ps_set (i := 3) sc_l_unlike.nd rfl (.inl rfl) (pe_lst pa_nil))
      (pss_cons (ps_for PassesOwn.never rfl (pi_range1 (by rfl) B.range (pa_cons (pv 1) pa_nil)) (pg_name (i := 4) sc_l_unlike.nd rfl (.inl rfl))
        (pss_cons (ps_set (i := 5) sc_l_unlike.nd rfl (.inl rfl) (pe_cal C_l_numeral hr' (by rfl) (pa_cons (pv 0) pa_nil)))
      (pss_cons (ps_for PassesOwn.never rfl (pi_range1 (by rfl) B.range (pa_cons pe_int pa_nil)) (pg_name (i := 6) sc_l_unlike.nd rfl (.inl rfl))
        (pss_one (ps_if (PW.pt (pw_or (pt_cmpR op_in_seq (pv 5) (pv 3) rfl) (pw_or1 (pt_cmpR op_lt (pe_callB call_abs (by rfl) B.abs (by decide +kernel) (pa_cons (pv 5) pa_nil)) (pv 2) (nomark _)))))
        (pss_one (ps_set (i := 5) sc_l_unlike.nd rfl (.inl rfl) (pe_ix ix_list (pe_lst (pa_cons (pe_op op_add (pv 5) pe_int) (pa_cons (pe_op op_sub (pe_op op_sub pe_int pe_int) (pv 6)) pa_nil))) (pe_callTy call_int1 (by rfl) B.int PyProof.Rows.boot_int (pa_cons (pe_cmpR op_gt (pv 5) pe_int (nomark _)) pa_nil)) (fun _ _ => rfl))))
        pss_nil)))
      (pss_one (ps_expr (pe_bm PySem.F.plainAttrs_list PySem.F.slot_list_append PySem.F.type_list_append mt_append (pv 3) (pa_cons (pv 5) pa_nil)))))))
      (pss_one (ps_ret (pv 3))))), ?_⟩
  refine ⟨(by show 0 ≤ sizeLine; decide), fun L hL => ?_⟩
  have nLf := fl_nf fl hL
  have g1 : Gr [] f H (upd H L (.lst [])) := Gr.new fl hL
  have hL1 : (upd H L (.lst [])) L = some (.lst []) := upd_same
  generalize upd H L (.lst []) = H1 at g1 hL1
  refine ⟨_, rfl, m, rfl, by omega, by omega, for_range (lo := 0) (n := m.toNat) (fun i σ' H' => (∃ y4 y5 y6 : Option V, σ' = [some (.ref f), some (.int m), some (.int least), some (.ref L), y4, y5, y6]) ∧ Gr [] f H H' ∧ ∃ ns : List Int, H' L = some (.lst (ns.map V.int)) ∧ ns.length = i ∧ ∀ n ∈ ns, -1010 ≤ n ∧ n ≤ 1010) ⟨⟨_, _, _, rfl⟩, g1, [], hL1, rfl, fun n hn => absurd hn (by simp)⟩ ?_ ?_⟩
  · rintro i σ' H' hi ⟨⟨y4, y5, y6, rfl⟩, g, ns, hL', hl, hb⟩
    refine ⟨_, rfl, f, rfl, g.fl, fun n0 H2 b0 b1 g2 => ?_⟩
    have hL2 : H2 L = some (.lst (ns.map V.int)) := g2.ex _ _ hL' (by simp [nLf])
    have gg := g.trans g2
    refine ⟨4, rfl, by decide, by decide, for_range (lo := 0) (n := 4) (fun t σ' H' => (∃ (n : Int) (y6 : Option V), -1010 ≤ n ∧ n ≤ 1000 + (t : Int) ∧ σ' = [some (.ref f), some (.int m), some (.int least), some (.ref L), some (.int (0 + (i : Int))), some (.int n), y6]) ∧ Gr [] f H H' ∧ H' L = some (.lst (ns.map V.int))) ⟨⟨_, _, by omega, by omega, rfl⟩, gg, hL2⟩ ?_ ?_⟩
    · rintro t σ' H6 ht ⟨⟨n, z6, c0, c1, rfl⟩, g6, hL6⟩
      have t4 : t < 4 := ht
      refine ⟨_, rfl, _, rfl, L, _, rfl, .inl (SqL.of hL6), rfl, ints_flat ns, _, rfl, ite2 (fun c => ?_) (fun c => ?_)⟩
      · refine iteY3 rfl ?_
        refine ⟨_, rfl, _, _, rfl, rfl, _, _, rfl, rfl, _, rfl, _, _, rfl, rfl, (by show 2 ≤ sizeLine; decide), fun p hp => ?_⟩
        have nLp : L ≠ p := ne_of_none hL6 hp
        have g7 : Gr [] f H (upd H6 p (.lst [.int (n + 1), .int (0 - 3 - (0 + (t : Int)))])) := g6.trans (Gr.new g6.fl hp)
        have hL7 : (upd H6 p (.lst [.int (n + 1), .int (0 - 3 - (0 + (t : Int)))])) L = some (.lst (ns.map V.int)) := by rw [upd_ne nLp]; exact hL6
        refine ⟨_, rfl, _, _, rfl, rfl, .inr ⟨_, rfl, ?_⟩⟩
        by_cases c9 : n > 990
        · have e9 : decide (n > 990) = true := decide_eq_true c9
          refine ⟨p, _, 1, _, rfl, ?_, SqL.of upd_same, rfl, ⟨_, _, by omega, by omega, rfl⟩, g7, hL7⟩
          show V.int (if decide (n > 990) = true then 1 else 0) = V.int 1
          rw [e9]; rfl
        · have e9 : decide (n > 990) = false := decide_eq_false c9
          refine ⟨p, _, 0, _, rfl, ?_, SqL.of upd_same, rfl, ⟨_, _, by omega, by omega, rfl⟩, g7, hL7⟩
          show V.int (if decide (n > 990) = true then 1 else 0) = V.int 0
          rw [e9]; rfl
      · refine ⟨_, rfl, n, rfl, _, rfl, _, _, rfl, rfl, _, rfl, ite2 (fun c2 => ?_) (fun c2 => ?_)⟩
        · refine ⟨_, rfl, _, _, rfl, rfl, _, _, rfl, rfl, _, rfl, _, _, rfl, rfl, (by show 2 ≤ sizeLine; decide), fun p hp => ?_⟩
          have nLp : L ≠ p := ne_of_none hL6 hp
          have g7 : Gr [] f H (upd H6 p (.lst [.int (n + 1), .int (0 - 3 - (0 + (t : Int)))])) := g6.trans (Gr.new g6.fl hp)
          have hL7 : (upd H6 p (.lst [.int (n + 1), .int (0 - 3 - (0 + (t : Int)))])) L = some (.lst (ns.map V.int)) := by rw [upd_ne nLp]; exact hL6
          refine ⟨_, rfl, _, _, rfl, rfl, .inr ⟨_, rfl, ?_⟩⟩
          by_cases c9 : n > 990
          · have e9 : decide (n > 990) = true := decide_eq_true c9
            refine ⟨p, _, 1, _, rfl, ?_, SqL.of upd_same, rfl, ⟨_, _, by omega, by omega, rfl⟩, g7, hL7⟩
            show V.int (if decide (n > 990) = true then 1 else 0) = V.int 1
            rw [e9]; rfl
          · have e9 : decide (n > 990) = false := decide_eq_false c9
            refine ⟨p, _, 0, _, rfl, ?_, SqL.of upd_same, rfl, ⟨_, _, by omega, by omega, rfl⟩, g7, hL7⟩
            show V.int (if decide (n > 990) = true then 1 else 0) = V.int 0
            rw [e9]; rfl
        · exact ⟨⟨_, _, by omega, by omega, rfl⟩, g6, hL6⟩
    · rintro σ' H6 ⟨⟨n, z6, c0, c1, rfl⟩, g6, hL6⟩
      refine ⟨_, rfl, .inl ⟨rfl, _, SqL.of hL6⟩, _, rfl, L, _, _, rfl, rfl, hL6, by rw [List.length_map]; exact smallL (by omega), ?_⟩
      refine ⟨⟨_, _, _, rfl⟩, gr_put g6 hL nLf, ns ++ [n], by rw [upd_same, List.map_append]; rfl, by rw [List.length_append, hl]; rfl, fun x hx => ?_⟩
      rcases List.mem_append.mp hx with z | z
      · exact hb x z
      · rw [List.mem_singleton.mp z]
        have : n ≤ 1000 + 4 := c1
        omega
  · rintro σ' H' ⟨⟨y4, y5, y6, rfl⟩, g, ns, hL', hl, hb⟩
    exact ⟨_, rfl, q L ns H' g hL hL' (by omega) hb⟩
abbrev s_l_stock : Stmt := topS 28
theorem sc_l_stock : FnScope ["_law_flow_here", "_law_words", "_law_some", "_law_k", "_law_numbers", "_law_steps"] ["_law_flow_here"] (defScope s_l_stock) := ⟨rfl, rfl, rfl, by decide +kernel, rfl, by decide +kernel, by decide +kernel⟩
/-- a stock, drawn -/
def stkD (ps1 ps2 ps3 : List (PyData × Int)) : PyData := .tuple [.tuple (pdat ps1), .tuple (pdat ps2), .tuple (pdat ps3)]
structure StkOk (ps1 ps2 ps3 : List (PyData × Int)) : Prop where
  k1 : ∃ ns : List Int, ps1.map (·.1) = ns.map PyData.int ∧ ns.length ≤ 3 ∧ ∀ n ∈ ns, -1010 ≤ n ∧ n ≤ 1010
  k2 : ∃ ns : List Int, ps2.map (·.1) = ns.map PyData.int ∧ ns.length ≤ 2 ∧ ∀ n ∈ ns, -1010 ≤ n ∧ n ≤ 1010
  k3 : ∃ ws : List Str, ps3.map (·.1) = ws.map PyData.str ∧ ws.length ≤ 6 ∧ ∀ x ∈ ws, x ∈ stockWs
  w1 : ∀ p ∈ ps1, 1 ≤ p.2 ∧ p.2 ≤ 9
  w2 : ∀ p ∈ ps2, 1 ≤ p.2 ∧ p.2 ≤ 9
  w3 : ∀ p ∈ ps3, 1 ≤ p.2 ∧ p.2 ≤ 9
def spStock (K : PySem.W.Frag) : Sp := fun vs H Q _ => ∃ f : Addr, vs = [.ref f] ∧ Flow H f ∧ ∀ (t : Addr) (ps1 ps2 ps3 : List (PyData × Int)) (H' : Hp), Gr [] f H H' → Fd K H' (.ref t) (stkD ps1 ps2 ps3) → StkOk ps1 ps2 ps3 → Q (.ref t) H'
theorem words_split : Txt.split "yes no least most atmost not both either if" " " = stockWs := by decide +kernel
theorem erase_mem {α : Type} {l : List α} {k : Nat} {x : α} (h : x ∈ l.eraseIdx k) : x ∈ l := List.mem_of_mem_eraseIdx h
theorem map_vK_int (ns : List Int) : (ns.map V.int).map vK = ns.map PyData.int := by rw [List.map_map]; rfl
theorem map_vK_str (ns : List Str) : (ns.map V.str).map vK = ns.map PyData.str := by rw [List.map_map]; rfl
theorem ok_l_stock (B : Bt mg) (C_l_draw : Cal P w K mg base 1 "_law_draw" ["_law_flow_here", "_law_many"] (spDraw)) (C_l_unlike : Cal P w K mg base 3 "_law_unlike" ["_law_flow_here", "_law_many", "_law_least"] (spUnl K)) (C_l_pairs : Cal P w K mg base 2 "_law_pairs" ["_law_flow_here", "_law_some"] (spLPairs K)) (D : DefAt K mg "_law_stock" s_l_stock ["_law_flow_here"]) : Cal P w K mg base 4 "_law_stock" ["_law_flow_here"] (spStock K) := by
  refine cal_of D sc_l_stock (fun vs H Q E h => ?_) (fun f cdv A outer s H vs Q E hr h => ?_)
  · obtain ⟨f, rfl, _⟩ := h
    rfl
  obtain ⟨f, rfl, fl, q⟩ := h
  have C_l_draw := C_l_draw.mono (k := 3) (by decide)
  have C_l_pairs := C_l_pairs.mono (k := 3) (by decide)
  have hr' : Room 3 _ := hr
  refine ⟨_, (pss_cons (ps_set (i := 1) sc_l_stock.nd rfl (.inl rfl) (pe_bm PySem.F.plainAttrs_str PySem.F.slot_str_split PySem.F.type_str_split mt_split pe_str (pa_cons pe_str pa_nil)))
      (pss_cons (ps_set (i := 2) sc_l_stock.nd rfl (.inl rfl) (pe_lst pa_nil))
      (pss_cons (ps_for PassesOwn.never rfl (pi_range1 (by rfl) B.range (pa_cons (pe_cal C_l_draw hr' (by rfl) (pa_cons (pv 0) (pa_cons pe_int pa_nil))) pa_nil)) (pg_name (i := 3) sc_l_stock.nd rfl (.inl rfl))
        (pss_one (ps_expr (pe_bm PySem.F.plainAttrs_list PySem.F.slot_list_append PySem.F.type_list_append mt_append (pv 2) (pa_cons (pe_bm PySem.F.plainAttrs_list PySem.F.slot_list_pop PySem.F.type_list_pop mt_popAt (pv 1) (pa_cons (pe_cal C_l_draw hr' (by rfl) (pa_cons (pv 0) (pa_cons (pe_callB call_len_seq (by rfl) B.len PySem.boot_len (pa_cons (pv 1) pa_nil)) pa_nil))) pa_nil)) pa_nil)))))
      (pss_cons (ps_set (i := 4) sc_l_stock.nd rfl (.inl rfl) (pe_cal C_l_unlike hr' (by rfl) (pa_cons (pv 0) (pa_cons (pe_cal C_l_draw hr' (by rfl) (pa_cons (pv 0) (pa_cons pe_int pa_nil))) (pa_cons pe_int pa_nil)))))
      (pss_cons (ps_set (i := 5) sc_l_stock.nd rfl (.inl rfl) (pe_cal C_l_unlike hr' (by rfl) (pa_cons (pv 0) (pa_cons (pe_cal C_l_draw hr' (by rfl) (pa_cons (pv 0) (pa_cons pe_int pa_nil))) (pa_cons pe_int pa_nil)))))
      (pss_one (ps_ret (pe_tup (pa_cons (pe_cal C_l_pairs hr' (by rfl) (pa_cons (pv 0) (pa_cons (pv 4) pa_nil))) (pa_cons (pe_cal C_l_pairs hr' (by rfl) (pa_cons (pv 0) (pa_cons (pv 5) pa_nil))) (pa_cons (pe_cal C_l_pairs hr' (by rfl) (pa_cons (pv 0) (pa_cons (pv 2) pa_nil))) pa_nil))))))))))), ?_⟩
  refine ⟨rfl, "yes no least most atmost not both either if", " ", rfl, rfl, by decide +kernel, by decide +kernel, fun lw hlw => ?_⟩
  rw [words_split]
  have nwf := fl_nf fl hlw
  have g1 : Gr [] f H (upd H lw (.lst (stockWs.map V.str))) := Gr.new fl hlw
  have e1 : (upd H lw (.lst (stockWs.map V.str))) lw = some (.lst (stockWs.map V.str)) := upd_same
  generalize upd H lw (.lst (stockWs.map V.str)) = H1 at g1 e1
  refine ⟨(by show 0 ≤ sizeLine; decide), fun ls hls => ?_⟩
  have nsf := fl_nf g1.fl hls
  have nws : lw ≠ ls := ne_of_none e1 hls
  have ls0 : H ls = none := g1.ex.free hls (by simp [nsf])
  have g2 : Gr [] f H (upd H1 ls (.lst [])) := g1.trans (Gr.new g1.fl hls)
  have e2 : (upd H1 ls (.lst [])) ls = some (.lst []) := upd_same
  have ew2 : (upd H1 ls (.lst [])) lw = some (.lst (stockWs.map V.str)) := by rw [upd_ne nws]; exact e1
  generalize upd H1 ls (.lst []) = H2 at g2 e2 ew2
  refine ⟨_, rfl, f, 7, rfl, g2.fl, by decide, by decide, fun m H3 m0 m1 dr3 => ?_⟩
  have g3 := g2.trans dr3.gr
  have e3 : H3 ls = _ := (dr3.off ls nsf).trans e2
  have ew3 : H3 lw = _ := (dr3.off lw nwf).trans ew2
  refine ⟨m, rfl, by omega, by omega, for_range (lo := 0) (n := m.toNat) (fun i σ' H' => (∃ y3 y4 y5 : Option V, σ' = [some (.ref f), some (.ref lw), some (.ref ls), y3, y4, y5]) ∧ Gr [] f H H' ∧ ∃ ws us : List Str, H' lw = some (.lst (ws.map V.str)) ∧ H' ls = some (.lst (us.map V.str)) ∧ ws.length + i = 9 ∧ us.length = i ∧ (∀ x ∈ ws, x ∈ stockWs) ∧ ∀ x ∈ us, x ∈ stockWs) ⟨⟨_, _, _, rfl⟩, g3, stockWs, [], ew3, e3, rfl, rfl, fun x hx => hx, fun x hx => absurd hx (by simp)⟩ ?_ ?_⟩
  · rintro i σ' H' hi ⟨⟨y3, y4, y5, rfl⟩, g, ws, us, hw, hs, wl, ul, hws, hus⟩
    have i7 : i < 7 := by omega
    refine ⟨_, rfl, .inl ⟨rfl, _, SqL.of hs⟩, _, rfl, .inl ⟨rfl, _, SqL.of hw⟩, _, rfl, _, rfl, lw, _, rfl, .inl (SqL.of hw), ?_⟩
    refine ⟨f, _, rfl, g.fl, by rw [List.length_map]; omega, by rw [List.length_map]; omega, fun d H4 d0 d1 dr4 => ?_⟩
    have g4 := g.trans dr4.gr
    have hw4 : H4 lw = _ := (dr4.off lw nwf).trans hw
    have hs4 : H4 ls = _ := (dr4.off ls nsf).trans hs
    rw [List.length_map] at d1
    have dl : d.toNat < ws.length := by omega
    have e5 : (ws.map V.str)[d.toNat]? = some (.str ws[d.toNat]) := by rw [List.getElem?_map, List.getElem?_eq_getElem dl]; rfl
    have si : seqIndex? d (ws.map V.str).length = some d.toNat := by
      rw [List.length_map]
      exact six_nat d0 (by omega)
    refine ⟨lw, _, d, d.toNat, _, rfl, rfl, hw4, by omega, by omega, si, e5, ?_⟩
    have g5 : Gr [] f H (upd H4 lw (.lst ((ws.map V.str).eraseIdx d.toNat))) := gr_put g4 hlw nwf
    have hw5 : (upd H4 lw (.lst ((ws.map V.str).eraseIdx d.toNat))) lw = some (.lst ((ws.eraseIdx d.toNat).map V.str)) := by rw [upd_same, map_erase]
    have hs5 : (upd H4 lw (.lst ((ws.map V.str).eraseIdx d.toNat))) ls = some (.lst (us.map V.str)) := by rw [upd_ne nws.symm]; exact hs4
    generalize upd H4 lw (.lst ((ws.map V.str).eraseIdx d.toNat)) = H5 at g5 hw5 hs5
    refine ⟨ls, _, _, rfl, rfl, hs5, by rw [List.length_map]; exact smallL (by omega), ?_⟩
    refine ⟨⟨_, _, _, rfl⟩, gr_put g5 ls0 nsf, ws.eraseIdx d.toNat, us ++ [ws[d.toNat]], by rw [upd_ne nws]; exact hw5, by rw [upd_same, List.map_append]; rfl, by rw [List.length_eraseIdx_of_lt dl]; omega, by rw [List.length_append, ul]; rfl, fun x hx => hws x (erase_mem hx), fun x hx => ?_⟩
    rcases List.mem_append.mp hx with z | z
    · exact hus x z
    · rw [List.mem_singleton.mp z]
      exact hws _ (List.getElem_mem dl)
  · rintro σ' H4 ⟨⟨y3, y4, y5, rfl⟩, g4, ws, us, hw4, hs4, wl, ul, hws, hus⟩
    refine ⟨_, rfl, _, rfl, f, 4, rfl, g4.fl, by decide, by decide, fun m1' H5 a0 a1 dr5 => ?_⟩
    have g5 := g4.trans dr5.gr
    have hs5 : H5 ls = _ := (dr5.off ls nsf).trans hs4
    refine ⟨f, m1', 0, rfl, g5.fl, a0, by omega, fun L1 ns1 H6 g6 L10 hL1 l1 b1 => ?_⟩
    have g06 := g5.trans g6
    have n1f := fl_nf g5.fl L10
    have hs6 : H6 ls = _ := g6.ex _ _ hs5 (by simp [nsf])
    refine ⟨_, rfl, _, rfl, f, 3, rfl, g06.fl, by decide, by decide, fun m2' H7 c0 c1 dr7 => ?_⟩
    have g07 := g06.trans dr7.gr
    have hL7 : H7 L1 = _ := (dr7.off L1 n1f).trans hL1
    have hs7 : H7 ls = _ := (dr7.off ls nsf).trans hs6
    refine ⟨f, m2', 1, rfl, g07.fl, c0, by omega, fun L2 ns2 H8 g8 L20 hL2 l2 b2 => ?_⟩
    have g08 := g07.trans g8
    have n2f := fl_nf g07.fl L20
    have hL8 : H8 L1 = _ := g8.ex _ _ hL7 (by simp [n1f])
    have hs8 : H8 ls = _ := g8.ex _ _ hs7 (by simp [nsf])
    -- three tuples
    refine ⟨_, rfl, _, rfl, f, L1, _, rfl, g08.fl, hL8, n1f, by rw [List.length_map]; omega, fun v hv => ?_, fun t1 ps1 H9 g9 h1 k1 w1 => ?_⟩
    · obtain ⟨n, _, rfl⟩ := List.mem_map.mp hv
      exact .inl ⟨n, rfl⟩
    have g09 := g08.trans g9
    have hL9 : H9 L2 = _ := g9.ex _ _ hL2 (by simp [n2f])
    have hs9 : H9 ls = _ := g9.ex _ _ hs8 (by simp [nsf])
    refine ⟨_, rfl, _, rfl, f, L2, _, rfl, g09.fl, hL9, n2f, by rw [List.length_map]; omega, fun v hv => ?_, fun t2 ps2 Ha ga h2 k2 w2 => ?_⟩
    · obtain ⟨n, _, rfl⟩ := List.mem_map.mp hv
      exact .inl ⟨n, rfl⟩
    have g0a := g09.trans ga
    have hsa : Ha ls = _ := ga.ex _ _ hs9 (by simp [nsf])
    refine ⟨_, rfl, _, rfl, f, ls, _, rfl, g0a.fl, hsa, nsf, by rw [List.length_map]; omega, fun v hv => ?_, fun t3 ps3 Hb gb h3 k3 w3 => ⟨(by show 3 ≤ sizeLine; decide), fun t ht => ?_⟩⟩
    · obtain ⟨n, _, rfl⟩ := List.mem_map.mp hv
      exact .inr ⟨n, rfl⟩
    have sn := same_new (o := .tup [.ref t1, .ref t2, .ref t3]) ht
    have h1' := (h1.keep (ga.tp g09.fl)).keep (gb.tp g0a.fl) |>.keep (Tp.same sn)
    have h2' := (h2.keep (gb.tp g0a.fl)).keep (Tp.same sn)
    have h3' := h3.keep (Tp.same sn)
    rw [map_vK_int] at k1 k2
    rw [map_vK_str] at k3
    refine q t ps1 ps2 ps3 _ ((g0a.trans gb).trans (Gr.new gb.fl ht)) ?_ ⟨⟨ns1, k1, by omega, b1⟩, ⟨ns2, k2, by omega, b2⟩, ⟨us, k3, by omega, hus⟩, w1, w2, w3⟩
    exact fd_tup upd_same (.cons h1'.2 (.cons h2'.2 (.cons h3'.2 .nil))) (by simp [flat.flats, h1'.1, h2'.1, h3'.1])
end
end Lm

set_option Elab.async false
set_option linter.all false
set_option maxRecDepth 100000
set_option maxHeartbeats 2000000
namespace Lm
open PySem PySem.Spec PyProof.Rows L2 LmR
/-! ### stocks -/
structure Stk where
  a : List (V × Int)
  b : List (V × Int)
  c : List (V × Int)
def Stk.part (S : Stk) : Nat → List (V × Int)
  | 0 => S.a
  | 1 => S.b
  | _ => S.c
def kd (l : List (V × Int)) : List PyData := l.map fun x => .tuple [vK x.1, .int x.2]
def Stk.D (S : Stk) : PyData := .tuple [.tuple (kd S.a), .tuple (kd S.b), .tuple (kd S.c)]
structure Stk.Ok (S : Stk) : Prop where
  a : ∀ x ∈ S.a, ∃ i, x.1 = V.int i ∧ -1010 ≤ i ∧ i ≤ 1010
  b : ∀ x ∈ S.b, ∃ i, x.1 = V.int i ∧ -1010 ≤ i ∧ i ≤ 1010
  c : ∀ x ∈ S.c, ∃ s, x.1 = V.str s ∧ s ∈ stockWs
  la : S.a.length ≤ 10
  lb : S.b.length ≤ 10
  lc : S.c.length ≤ 10
  w : ∀ n, ∀ x ∈ S.part n, 1 ≤ x.2 ∧ x.2 ≤ 9
theorem Stk.Ok.key {S : Stk} (h : S.Ok) (n : Nat) : ∀ x ∈ S.part n, isKey x.1 := fun x hx => by
  match n, hx with
  | 0, hx => obtain ⟨i, e, _⟩ := h.a x hx; exact .inl ⟨i, e⟩
  | 1, hx => obtain ⟨i, e, _⟩ := h.b x hx; exact .inl ⟨i, e⟩
  | n + 2, hx => obtain ⟨s, e, _⟩ := h.c x hx; exact .inr ⟨s, e⟩
theorem Stk.Ok.len {S : Stk} (h : S.Ok) (n : Nat) : (S.part n).length ≤ 10 := by
  match n with
  | 0 => exact h.la
  | 1 => exact h.lb
  | n + 2 => exact h.lc
/-- the first pair with this key: its number, its weight -/
def lookS (v : V) : List (V × Int) → Option (Nat × Int)
  | [] => none
  | x :: l => if x.1 = v then some (0, x.2) else (lookS v l).map fun r => (r.1 + 1, r.2)
theorem lookS_cons (v : V) (x : V × Int) (l : List (V × Int)) : lookS v (x :: l) = if x.1 = v then some (0, x.2) else (lookS v l).map fun r => (r.1 + 1, r.2) := rfl
def prt : Pg → Nat
  | .num _ => 0
  | .plus _ _ => 1
  | _ => 2
def keyP : Pg → V
  | .num c => .int c
  | .plus c _ => .int c
  | p => .str (word p)
/-- a knot's place and weight -/
def stnd (S : Stk) : Pg → Option (Nat × Nat × Int)
  | .inp k => some (0, k, 1)
  | p => (lookS (keyP p) (S.part (prt p))).map fun r => (prt p + 1, r.1, r.2)
theorem stnd_not (S : Stk) (p : Pg) (h : ∀ k, p ≠ .inp k) : stnd S p = (lookS (keyP p) (S.part (prt p))).map fun r => (prt p + 1, r.1, r.2) := by
  cases p with
  | inp k => exact absurd rfl (h k)
  | _ => rfl
def StdAt (K : PySem.W.Frag) (H : Hp) (u : V) : Option (Nat × Nat × Int) → Prop
  | none => u = .non
  | some (x, y, l) => ∃ t t2 : Addr, u = .ref t ∧ SqT K H t [.ref t2, .int l] ∧ SqT K H t2 [.int (x : Nat), .int (y : Nat)]
/-- a program's weight -/
def wtL (S : Stk) : List Pg → Option Int
  | [] => some 0
  | q :: qs => match stnd S q with
    | none => none
    | some (_, _, l) => (wtL S qs).map fun r => l + r
def optI : Option Int → V
  | none => .non
  | some i => .int i
theorem wtL_none {S : Stk} {q : Pg} {qs : List Pg} (h : stnd S q = none) : wtL S (q :: qs) = none := by
  show (match stnd S q with | none => none | some (_, _, l) => (wtL S qs).map fun r => l + r) = _
  rw [h]
theorem wtL_some {S : Stk} {q : Pg} {qs : List Pg} {x y : Nat} {l : Int} (h : stnd S q = some (x, y, l)) : wtL S (q :: qs) = (wtL S qs).map fun r => l + r := by
  show (match stnd S q with | none => none | some (_, _, l) => (wtL S qs).map fun r => l + r) = _
  rw [h]
/-- the pairs of a part, read -/
theorem kd_read {K : PySem.W.Frag} {H : Hp} {xs : List V} {l : List (V × Int)} (r : DpAll K H xs (kd l)) (hk : ∀ x ∈ l, isKey x.1) (j : Nat) (x : V) (hx : xs[j]? = some x) : ∃ (b : Addr) (y : V × Int), l[j]? = some y ∧ x = .ref b ∧ SqT K H b [y.1, .int y.2] := by
  obtain ⟨d, hd, hD⟩ := dpall_get r j x hx
  unfold kd at hd
  rw [List.getElem?_map] at hd
  cases e : l[j]? with
  | none => rw [e] at hd; cases hd
  | some y =>
    rw [e] at hd
    have ed := Option.some.inj hd
    subst ed
    cases hD with
    | tup qb rb => cases rb with
      | cons r1 r => cases r with
        | cons r2 r =>
          cases r
          cases r2
          have k := hk y (List.mem_of_getElem? e)
          refine ⟨_, y, rfl, rfl, ?_⟩
          rcases k with ⟨i, ei⟩ | ⟨s, es⟩
          · rw [ei] at r1 ⊢
            cases r1
            exact qb
          · rw [es] at r1 ⊢
            cases r1
            exact qb
theorem part_read {K : PySem.W.Frag} {H : Hp} {t : Addr} {S : Stk} (h : Fd K H (.ref t) S.D) : ∃ v1 v2 v3, SqT K H t [v1, v2, v3] ∧ ∀ n, n ≤ 2 → ∃ (v : V) (b : Addr) (ys : List V), [v1, v2, v3][n]? = some v ∧ v = .ref b ∧ SqT K H b ys ∧ DpAll K H ys (kd (S.part n)) := by
  obtain ⟨v1, v2, v3, q, r1, r2, r3⟩ : ∃ v1 v2 v3, SqT K H t [v1, v2, v3] ∧ Dp K H v1 (.tuple (kd S.a)) ∧ Dp K H v2 (.tuple (kd S.b)) ∧ Dp K H v3 (.tuple (kd S.c)) := by
    cases h.2 with
    | tup q r => cases r with
      | cons r1 r => cases r with
        | cons r2 r => cases r with
          | cons r3 r => cases r; exact ⟨_, _, _, q, r1, r2, r3⟩
  have one : ∀ {v : V} {ds : List PyData}, Dp K H v (.tuple ds) → ∃ (b : Addr) (ys : List V), v = .ref b ∧ SqT K H b ys ∧ DpAll K H ys ds := fun h => by
    cases h with
    | tup q r => exact ⟨_, _, rfl, q, r⟩
  refine ⟨v1, v2, v3, q, fun n hn => ?_⟩
  rcases (show n = 0 ∨ n = 1 ∨ n = 2 by omega) with z | z | z <;> subst z
  · obtain ⟨b, ys, e, a1, a2⟩ := one r1
    exact ⟨v1, b, ys, rfl, e, a1, a2⟩
  · obtain ⟨b, ys, e, a1, a2⟩ := one r2
    exact ⟨v2, b, ys, rfl, e, a1, a2⟩
  · obtain ⟨b, ys, e, a1, a2⟩ := one r3
    exact ⟨v3, b, ys, rfl, e, a1, a2⟩
section
variable {P : Program} {w : World} {K : PySem.W.Frag} {mg : Str → Option Value} {base : Heap}
abbrev s_place_of : Stmt := topS 14
theorem sc_place_of : FnScope ["knot"] ["knot"] (defScope s_place_of) := ⟨rfl, rfl, rfl, by decide +kernel, rfl, by decide +kernel, by decide +kernel⟩
def spPlace (K : PySem.W.Frag) : Sp := fun vs H Q _ => ∃ (v : V) (p : Pg), vs = [v] ∧ At K H v p ∧ (∀ k, p ≠ .inp k) ∧ ∀ t H', Same H H' → H' t = some (.tup [.int (prt p : Nat), keyP p]) → Q (.ref t) H'
theorem ok_place_of (D : DefAt K mg "place_of" s_place_of ["knot"]) : Cal P w K mg base 1 "place_of" ["knot"] (spPlace K) := by
  refine cal_of D sc_place_of (fun vs H Q E h => ?_) (fun f cdv A outer s H vs Q E hr h => ?_)
  · obtain ⟨v, p, rfl, _⟩ := h
    rfl
  obtain ⟨v, p, rfl, hv, hin, q⟩ := h
  refine ⟨_, (pss_cons (ps_if (pt_cmpR op_eq (pe_ix ix_tup (pv 0) pe_int (fun _ _ => rfl)) pe_str (nomark _))
        (pss_one (ps_ret (pe_tup (pa_cons pe_int (pa_cons (pe_ix ix_tup (pv 0) pe_int (fun _ _ => rfl)) pa_nil)))))
        pss_nil)
      (pss_cons (ps_if (pt_cmpR op_eq (pe_ix ix_tup (pv 0) pe_int (fun _ _ => rfl)) pe_str (nomark _))
        (pss_one (ps_ret (pe_tup (pa_cons pe_int (pa_cons (pe_ix ix_tup (pv 0) pe_int (fun _ _ => rfl)) pa_nil)))))
        pss_nil)
      (pss_one (ps_ret (pe_tup (pa_cons pe_int (pa_cons (pe_ix ix_tup (pv 0) pe_int (fun _ _ => rfl)) pa_nil))))))), ?_⟩
  obtain ⟨a, vs, rfl, ha, hvs⟩ := hv.open
  refine ⟨_, rfl, a, _, 0, _, rfl, rfl, ha, at_word p vs, rfl, _, rfl, ite2 (fun c => ?_) (fun c => ?_)⟩
  · have hw : word p = "num" := V.str.inj (of_decide_eq_true c)
    cases p with
    | num k => exact ⟨_, rfl, a, _, 1, _, rfl, rfl, ha, at_of (j := 1) rfl rfl, (by show 2 ≤ sizeLine; decide), fun t ht => q t _ (same_new ht) upd_same⟩
    | inp k => exact absurd rfl (hin k)
    | tr b => exact absurd hw (show ¬ trS b = "num" by cases b <;> decide +kernel)
    | plus k x => exact absurd hw (show ¬ ("plus" : Str) = "num" by decide +kernel)
    | bin bw x y => exact absurd hw (show ¬ bw.str = "num" by cases bw <;> decide +kernel)
    | neg x => exact absurd hw (show ¬ ("not" : Str) = "num" by decide +kernel)
    | ite x y z => exact absurd hw (show ¬ ("if" : Str) = "num" by decide +kernel)
  have n1 : word p ≠ "num" := fun e => c (decide_eq_true (by rw [e]))
  refine ⟨_, rfl, a, _, 0, _, rfl, rfl, ha, at_word p vs, rfl, _, rfl, ite2 (fun c => ?_) (fun c => ?_)⟩
  · have hw : word p = "plus" := V.str.inj (of_decide_eq_true c)
    cases p with
    | plus k x => exact ⟨_, rfl, a, _, 1, _, rfl, rfl, ha, at_of (j := 1) rfl rfl, (by show 2 ≤ sizeLine; decide), fun t ht => q t _ (same_new ht) upd_same⟩
    | num k => exact absurd rfl n1
    | inp k => exact absurd rfl (hin k)
    | tr b => exact absurd hw (show ¬ trS b = "plus" by cases b <;> decide +kernel)
    | bin bw x y => exact absurd hw (show ¬ bw.str = "plus" by cases bw <;> decide +kernel)
    | neg x => exact absurd hw (show ¬ ("not" : Str) = "plus" by decide +kernel)
    | ite x y z => exact absurd hw (show ¬ ("if" : Str) = "plus" by decide +kernel)
  have n2 : word p ≠ "plus" := fun e => c (decide_eq_true (by rw [e]))
  have e1 : prt p = 2 ∧ keyP p = .str (word p) := by
    cases p with
    | num k => exact absurd rfl n1
    | plus k x => exact absurd rfl n2
    | _ => exact ⟨rfl, rfl⟩
  rw [e1.1, e1.2] at q
  exact ⟨_, rfl, a, _, 0, _, rfl, rfl, ha, at_word p vs, (by show 2 ≤ sizeLine; decide), fun t ht => q t _ (same_new ht) upd_same⟩
abbrev s_standing_of : Stmt := topS 13
theorem sc_standing_of : FnScope ["knot", "stock", "part", "key", "at", "own", "load"] ["knot", "stock"] (defScope s_standing_of) := ⟨rfl, rfl, rfl, by decide +kernel, rfl, by decide +kernel, by decide +kernel⟩
def spStand (K : PySem.W.Frag) : Sp := fun vs H Q _ => ∃ (v : V) (p : Pg) (t : Addr) (S : Stk), vs = [v, .ref t] ∧ At K H v p ∧ Fd K H (.ref t) S.D ∧ S.Ok ∧ ∀ u H', Same H H' → StdAt K H' u (stnd S p) → Q u H'
theorem ok_standing_of (B : Bt mg) (C_place_of : Cal P w K mg base 1 "place_of" ["knot"] (spPlace K)) (D : DefAt K mg "standing_of" s_standing_of ["knot", "stock"]) : Cal P w K mg base 2 "standing_of" ["knot", "stock"] (spStand K) := by
  refine cal_of D sc_standing_of (fun vs H Q E h => ?_) (fun f cdv A outer s H vs Q E hr h => ?_)
  · obtain ⟨v, p, t, S, rfl, _⟩ := h
    rfl
  obtain ⟨v, p, t, S, rfl, hv, ht, hS, q⟩ := h
  have hr' : Room 1 _ := hr
  refine ⟨_, (pss_cons (ps_if (pt_cmpR op_eq (pe_ix ix_tup (pv 0) pe_int (fun _ _ => rfl)) pe_str (nomark _))
        (pss_one (ps_ret (pe_tup (pa_cons (pe_tup (pa_cons pe_int (pa_cons (pe_ix ix_tup (pv 0) pe_int (fun _ _ => rfl)) pa_nil))) (pa_cons pe_int pa_nil)))))
        pss_nil)
      (pss_cons (ps_asg (pe_cal C_place_of hr' (by rfl) (pa_cons (pv 0) pa_nil)) (pg_tup rfl (pgs_cons (pg_name (i := 2) sc_standing_of.nd rfl (.inl rfl)) (pgs_cons (pg_name (i := 3) sc_standing_of.nd rfl (.inl rfl)) pgs_nil))))
      (pss_cons (ps_for PassesOwn.never rfl (pi_enumT (by rfl) B.enumerate (pa_cons (pe_ix ix_tup (pv 1) (pv 2) (fun _ _ => rfl)) pa_nil)) (pg_tup rfl (pgs_cons (pg_name (i := 4) sc_standing_of.nd rfl (.inl rfl)) (pgs_cons (pg_tup rfl (pgs_cons (pg_name (i := 5) sc_standing_of.nd rfl (.inl rfl)) (pgs_cons (pg_name (i := 6) sc_standing_of.nd rfl (.inl rfl)) pgs_nil))) pgs_nil)))
        (pss_one (ps_if (pt_cmpR op_eq (pv 5) (pv 3) (nomark _))
        (pss_one (ps_ret (pe_tup (pa_cons (pe_tup (pa_cons (pe_op op_add (pv 2) pe_int) (pa_cons (pv 4) pa_nil))) (pa_cons (pv 6) pa_nil)))))
        pss_nil)))
      (pss_one (ps_ret pe_non))))), ?_⟩
  obtain ⟨a, vs, rfl, ha, hvs⟩ := hv.open
  refine ⟨_, rfl, a, _, 0, _, rfl, rfl, ha, at_word p vs, rfl, _, rfl, ite2 (fun c => ?_) (fun c => ?_)⟩
  · have hw : word p = "in" := V.str.inj (of_decide_eq_true c)
    cases p with
    | inp k =>
      refine ⟨_, rfl, a, _, 1, _, rfl, rfl, ha, at_of (j := 1) rfl rfl, (by show 2 ≤ sizeLine; decide), fun t2 ht2 => ⟨(by show 2 ≤ sizeLine; decide), fun t3 ht3 => q _ _ ((same_new ht2).trans (same_new ht3)) ⟨t3, t2, rfl, .inl (.inl upd_same), .inl (.inl ?_)⟩⟩⟩
      rw [upd_ne (ne_of_none upd_same ht3)]
      exact upd_same
    | num k => exact absurd hw (show ¬ ("num" : Str) = "in" by decide +kernel)
    | plus k x => exact absurd hw (show ¬ ("plus" : Str) = "in" by decide +kernel)
    | tr b => exact absurd hw (show ¬ trS b = "in" by cases b <;> decide +kernel)
    | bin bw x y => exact absurd hw (show ¬ bw.str = "in" by cases bw <;> decide +kernel)
    | neg x => exact absurd hw (show ¬ ("not" : Str) = "in" by decide +kernel)
    | ite x y z => exact absurd hw (show ¬ ("if" : Str) = "in" by decide +kernel)
  have hin : ∀ k, p ≠ .inp k := fun k e => c (decide_eq_true (by rw [e]; rfl))
  have est := stnd_not S p hin
  refine ⟨_, rfl, .ref a, p, rfl, hv, hin, fun t1 H1 s1 h1 => ⟨t1, _, rfl, .inl (.inl h1), rfl, _, _, rfl, _, _, rfl, rfl, ?_⟩⟩
  obtain ⟨v1, v2, v3, qt, rd⟩ := part_read (ht.keep (Tp.same s1))
  have pp : prt p ≤ 2 := by cases p <;> simp [prt]
  obtain ⟨vk, b, ys, ek, rfl, qb, rb⟩ := rd (prt p) pp
  have hyl : ys.length = (S.part (prt p)).length := by
    rw [dpall_len rb]
    exact List.length_map _
  refine ⟨_, rfl, _, rfl, t, _, _, _, rfl, rfl, qt, at_of (j := prt p) rfl ek, b, ys, rfl, qb, for_enumT (K := K) (xs := ys) (fun i σ H' => (∃ y4 y5 y6 : Option V, σ = [some (.ref a), some (.ref t), some (.int (prt p : Nat)), some (keyP p), y4, y5, y6]) ∧ Same H1 H' ∧ lookS (keyP p) (S.part (prt p)) = (lookS (keyP p) ((S.part (prt p)).drop i)).map fun r => (r.1 + i, r.2)) ?_ ?_ ?_ ?_⟩
  · refine ⟨⟨_, _, _, rfl⟩, Same.refl _, ?_⟩
    rw [List.drop_zero]
    cases lookS (keyP p) (S.part (prt p)) <;> rfl
  · rintro i σ H' ⟨_, s', _⟩
    exact Tp.same s' _ _ qb
  · rintro i x σ H' T hx ⟨⟨y4, y5, y6, rfl⟩, s', el⟩ hT
    obtain ⟨c', y, hy, rfl, qc⟩ := kd_read rb (hS.key _) i x hx
    have sm := same_new (o := .tup [.int (i : Nat), .ref c']) hT
    have eT : (upd H' T (.tup [.int (i : Nat), .ref c'])) T = some (.tup [.int (i : Nat), .ref c']) := upd_same
    have s2 := s'.trans sm
    generalize upd H' T (.tup [.int (i : Nat), .ref c']) = H2 at s2 eT
    have hst : (S.part (prt p)).drop i = y :: (S.part (prt p)).drop (i + 1) := by
      obtain ⟨hi, e⟩ := List.getElem?_eq_some_iff.mp hy
      rw [List.drop_eq_getElem_cons hi, e]
    rw [hst] at el
    refine ⟨T, _, rfl, .inl (.inl eT), rfl, _, _, rfl, _, _, rfl, c', _, rfl, Tp.same s2 _ _ qc, rfl, _, _, rfl, _, _, rfl, rfl, rfl, ?_⟩
    have fl1 : flatV y.1 = true := by
      rcases hS.key _ y (List.mem_of_getElem? hy) with ⟨i, e⟩ | ⟨z, e⟩ <;> rw [e] <;> rfl
    have sc : scal y.1 (keyP p) = true := by
      have hm := List.mem_of_getElem? hy
      cases p with
      | num k => obtain ⟨i, e, _⟩ := hS.a y hm; rw [e]; rfl
      | plus k x => obtain ⟨i, e, _⟩ := hS.b y hm; rw [e]; rfl
      | inp k => exact absurd rfl (hin k)
      | tr b => obtain ⟨z, e, _⟩ := hS.c y hm; rw [e]; rfl
      | bin bw x y => obtain ⟨z, e, _⟩ := hS.c _ hm; rw [e]; rfl
      | neg x => obtain ⟨z, e, _⟩ := hS.c y hm; rw [e]; rfl
      | ite x y z => obtain ⟨z, e, _⟩ := hS.c _ hm; rw [e]; rfl
    refine ⟨_, rfl, _, rfl, ?_⟩
    by_cases cy : y.1 = keyP p
    · have el' : lookS (keyP p) (S.part (prt p)) = some (i, y.2) := by
        rw [el, lookS_cons, if_pos cy]
        show some (0 + i, y.2) = _
        rw [Nat.zero_add]
      rw [el'] at est
      refine ⟨sc, _, rfl, ?_⟩
      show if decide (y.1 = keyP p) = true then _ else _
      rw [if_pos (decide_eq_true cy)]
      refine ⟨_, rfl, _, _, rfl, rfl, _, rfl, (by show 2 ≤ sizeLine; decide), fun t2 ht2 => ⟨_, rfl, (by show 2 ≤ sizeLine; decide), fun t3 ht3 => q _ _ ((s1.trans s2).trans ((same_new ht2).trans (same_new ht3))) ?_⟩⟩
      rw [est]
      refine ⟨t3, t2, rfl, .inl (.inl upd_same), .inl (.inl ?_)⟩
      rw [upd_ne (ne_of_none upd_same ht3)]
      exact upd_same
    · refine ⟨sc, _, rfl, ?_⟩
      show if decide (y.1 = keyP p) = true then _ else _
      rw [if_neg (by rw [decide_eq_false cy]; decide)]
      refine ⟨⟨_, _, _, rfl⟩, s2, ?_⟩
      rw [el, lookS_cons, if_neg cy]
      cases lookS (keyP p) ((S.part (prt p)).drop (i + 1)) with
      | none => rfl
      | some r =>
        show some (r.1 + 1 + i, r.2) = some (r.1 + (i + 1), r.2)
        rw [Nat.add_assoc, Nat.add_comm 1 i]
  · rintro σ H' ⟨⟨y4, y5, y6, rfl⟩, s', el⟩
    rw [hyl, List.drop_length] at el
    refine q _ _ (s1.trans s') ?_
    rw [est, el]
    rfl
abbrev s_weight : Stmt := topS 10
theorem sc_weight : FnScope ["program", "stock", "total", "knot", "standing"] ["program", "stock"] (defScope s_weight) := ⟨rfl, rfl, rfl, by decide +kernel, rfl, by decide +kernel, by decide +kernel⟩
def spWeight (K : PySem.W.Frag) : Sp := fun vs H Q _ => ∃ (v : V) (p : Pg) (t : Addr) (S : Stk), vs = [v, .ref t] ∧ At K H v p ∧ psz p ≤ 10000 ∧ Fd K H (.ref t) S.D ∧ S.Ok ∧ ∀ H', Same H H' → Q (optI (wtL S (kn p))) H'
theorem ok_weight {aS : Addr} (C_knots : Cal P w K mg base 3 "knots" ["program"] (spKnots K)) (C_standing_of : Cal P w K mg base 2 "standing_of" ["knot", "stock"] (spStand K)) (D : DefKw K mg "weight" s_weight ["program", "stock"] 1 ["stock"] [.ref aS]) : CalKw P w K mg base 4 "weight" ["program", "stock"] 1 ["stock"] [.ref aS] (spWeight K) := by
  refine calkw_of D sc_weight (fun vs H Q E h => ?_) (fun f cdv A outer s H vs Q E hr h => ?_)
  · obtain ⟨v, p, t, S, rfl, _⟩ := h
    rfl
  obtain ⟨v, p, t, S, rfl, hv, hz, ht, hS, q⟩ := h
  have C_standing_of := C_standing_of.mono (k := 3) (by decide)
  have hr' : Room 3 _ := hr
  refine ⟨_, (pss_cons (ps_set (i := 2) sc_weight.nd rfl (.inl rfl) pe_int)
      (pss_cons (ps_for PassesOwn.never rfl (pi_list (pe_cal C_knots hr' (by rfl) (pa_cons (pv 0) pa_nil))) (pg_name (i := 3) sc_weight.nd rfl (.inl rfl))
        (pss_cons (ps_set (i := 4) sc_weight.nd rfl (.inl rfl) (pe_cal C_standing_of hr' (by rfl) (pa_cons (pv 3) (pa_cons (pv 1) pa_nil))))
      (pss_cons (ps_if (pt_cmpR op_isN (pv 4) pe_non (nomark _))
        (pss_one (ps_ret pe_non))
        pss_nil)
      (pss_one (ps_aug (i := 2) sc_weight.nd rfl (.inl rfl) (pe_ix ix_tup (pv 4) pe_int (fun _ _ => rfl)) ip_add)))))
      (pss_one (ps_ret (pv 2))))), ?_⟩
  refine ⟨_, rfl, v, p, rfl, hv, hz, fun lk us H2 s2 lk0 hlk hus => ?_⟩
  have ul : us.length = (kn p).length := hus.len
  refine ⟨lk, rfl, ⟨_, SqL.of hlk⟩, for_list (K := K) (a := lk) (xs := us) (fun i σ H' => (∃ (tot : Int) (y3 y4 : Option V), σ = [some v, some (.ref t), some (.int tot), y3, y4] ∧ wtL S (kn p) = (wtL S ((kn p).drop i)).map fun r => tot + r) ∧ Same H2 H') ?_ ?_ ?_ ?_⟩
  · refine ⟨⟨0, _, _, rfl, ?_⟩, Same.refl _⟩
    rw [List.drop_zero]
    cases wtL S (kn p) with
    | none => rfl
    | some r => show some r = some (0 + r); rw [Int.zero_add]
  · rintro i σ H' _ ⟨_, s'⟩
    exact SqL.of (s' _ _ hlk)
  · rintro i x σ H' hx ⟨⟨tot, y3, y4, rfl, el⟩, s'⟩
    obtain ⟨r, hr1, har⟩ := (hus.keep (Tp.same s')).get i x hx
    have hst : (kn p).drop i = r :: (kn p).drop (i + 1) := by
      obtain ⟨hi, e⟩ := List.getElem?_eq_some_iff.mp hr1
      rw [List.drop_eq_getElem_cons hi, e]
    rw [hst] at el
    refine ⟨_, rfl, _, rfl, x, r, t, S, rfl, har, ht.keep (Tp.same (s2.trans s')), hS, fun u H3 s3 hu => ?_⟩
    cases est : stnd S r with
    | none =>
      rw [est] at hu
      have hu' : u = .non := hu
      subst hu'
      rw [wtL_none est] at el
      refine ⟨_, rfl, rfl, _, rfl, iteT ?_⟩
      have q' := q H3 (s2.trans (s'.trans s3))
      rw [el] at q'
      exact q'
    | some z =>
      obtain ⟨x', y', l⟩ := z
      rw [est] at hu
      obtain ⟨t1, t2, rfl, q1, q2⟩ := hu
      rw [wtL_some est] at el
      refine ⟨_, rfl, rfl, _, rfl, iteF ⟨_, rfl, _, rfl, t1, _, 1, _, rfl, rfl, q1, rfl, _, _, rfl, rfl, ⟨_, _, _, rfl, ?_⟩, s'.trans s3⟩⟩
      rw [el]
      cases wtL S ((kn p).drop (i + 1)) with
      | none => rfl
      | some r' => show some (tot + (l + r')) = some (tot + l + r'); rw [Int.add_assoc]
  · rintro σ H' ⟨⟨tot, y3, y4, rfl, el⟩, s'⟩
    rw [ul, List.drop_length] at el
    have q' := q H' (s2.trans s')
    rw [el] at q'
    have e : ((wtL S []).map fun r => tot + r) = some tot := by show some (tot + 0) = _; rw [Int.add_zero]
    rw [e] at q'
    exact ⟨_, rfl, q'⟩
end
end Lm

set_option Elab.async false
set_option linter.all false
set_option maxRecDepth 100000
set_option maxHeartbeats 4000000
namespace Lm
open PySem PySem.Spec PyProof.Rows L2 LmR
theorem op_in_seqK {X : Cx} {K : PySem.W.Frag} (h : X.K = K) : OpR X (compareOp .In) (rIn K false) := h ▸ op_in_seq
theorem op_notIn_seqK {X : Cx} {K : PySem.W.Frag} (h : X.K = K) : OpR X (compareOp .NotIn) (rIn K true) := h ▸ op_notIn_seq
/-- of the kinds and of the stock -/
def Ofs (S : Stk) (ks : List Bool) (p : Pg) : Prop := Wk ks p ∧ ∀ q ∈ kn p, stnd S q ≠ none
theorem look_in {v : V} : ∀ {l : List (V × Int)}, (∃ x ∈ l, x.1 = v) → lookS v l ≠ none
  | [], h => by obtain ⟨x, hx, _⟩ := h; cases hx
  | y :: l, h => by
    rw [lookS_cons]
    by_cases c : y.1 = v
    · rw [if_pos c]; intro z; cases z
    · rw [if_neg c]
      have ih : lookS v l ≠ none := look_in (by
        obtain ⟨x, hx, e⟩ := h
        rcases List.mem_cons.mp hx with z | z
        · rw [z] at e; exact absurd e c
        · exact ⟨x, z, e⟩)
      intro z
      cases hz : lookS v l with
      | none => exact ih hz
      | some r => rw [hz] at z; cases z
def InC (S : Stk) (w : Str) : Prop := ∃ x ∈ S.c, x.1 = V.str w
def ChOk (S : Stk) : Ch → Prop
  | .plus => S.b ≠ []
  | c => InC S c.str
/-- a word of the stock that takes parts -/
theorem ch_of {S : Stk} {w : Str} (h : InC S w) (hw : w ∈ stockWs) (h1 : w ≠ "yes") (h2 : w ≠ "no") : ∃ c : Ch, V.str w = .str c.str ∧ ChOk S c := by
  simp only [stockWs, List.mem_cons, List.not_mem_nil, or_false] at hw
  rcases hw with rfl | rfl | rfl | rfl | rfl | rfl | rfl | rfl | rfl
  · exact absurd rfl h1
  · exact absurd rfl h2
  · exact ⟨.bin .least, rfl, h⟩
  · exact ⟨.bin .most, rfl, h⟩
  · exact ⟨.bin .atmost, rfl, h⟩
  · exact ⟨.neg, rfl, h⟩
  · exact ⟨.bin .both, rfl, h⟩
  · exact ⟨.bin .either, rfl, h⟩
  · exact ⟨.ite, rfl, h⟩
/-- what a word tells, asked for this kind -/
def telB (b : Bool) : Ch → Bool
  | .plus => false
  | .bin .least => false
  | .bin .most => false
  | .ite => b
  | _ => true
theorem tel_fits {b : Bool} {c : Ch} (h : telB b c = b) : c.fits b := by
  cases c with
  | plus => exact h.symm
  | bin w => cases w <;> exact h
  | neg => exact h.symm
  | ite => exact True.intro
def tellKV (b : Bool) : List (Key × V) := mergeK [] [(Sum.inr "plus", .str "num"), (Sum.inr "least", .str "num"), (Sum.inr "most", .str "num"), (Sum.inr "if", .str (kS b))]
theorem tell_get (b : Bool) (c : Ch) : (valV (tellKV b) (Sum.inr c.str)).getD (.str "truth") = .str (kS (telB b c)) := by
  cases c with
  | plus => rfl
  | neg => rfl
  | ite => rfl
  | bin w => cases w <;> rfl
theorem kS_inj {a b : Bool} (h : V.str (kS a) = V.str (kS b)) : a = b := by
  cases a <;> cases b <;> first | rfl | exact absurd h (by decide +kernel)
/-- a leaf of the stock -/
def Lv (K : PySem.W.Frag) (S : Stk) (ks : List Bool) (b : Bool) (H : Hp) (v : V) : Prop := ∃ p, At K H v p ∧ Ofs S ks p ∧ own ks p = b ∧ psz p = 1
theorem Lv.keep {K : PySem.W.Frag} {S : Stk} {ks : List Bool} {b : Bool} {H H' : Hp} {v : V} (h : Lv K S ks b H v) (t : Tp K H H') : Lv K S ks b H' v := by
  obtain ⟨p, a, r⟩ := h
  exact ⟨p, a.keep t, r⟩
/-- what is made of parts of the kinds due -/
theorem Ch.mkO {K : PySem.W.Frag} {H : Hp} {S : Stk} {ks : List Bool} {k : Bool} {num : Int} (c : Ch) (hf : c.fits k) (hc : ChOk S c) {t : Addr} {vs : List V} {ps : List Pg} (ha : Ats K H vs ps) (hw : ∀ p ∈ ps, Ofs S ks p) (hn : c = .plus → ∃ x ∈ S.b, x.1 = .int num) (hk : ps.map (own ks) = c.ps k)
    (ht : H t = some (.tup (c.front num ++ vs))) : ∃ p, At K H (.ref t) p ∧ Ofs S ks p ∧ own ks p = k ∧ psz p = 1 + (ps.map psz).sum := by
  have all : ∀ p, parts p = ps → stnd S p ≠ none → ∀ q ∈ kn p, stnd S q ≠ none := fun p hp hs q hq => by
    rw [kn_eq] at hq
    rcases List.mem_cons.mp hq with z | z
    · rw [z]; exact hs
    · obtain ⟨r, hr, hq⟩ := List.mem_flatMap.mp z
      rw [hp] at hr
      exact (hw r hr).2 q hq
  have st : ∀ p : Pg, (∀ k, p ≠ .inp k) → lookS (keyP p) (S.part (prt p)) ≠ none → stnd S p ≠ none := fun p h1 h2 => by
    rw [stnd_not S p h1]
    intro z
    cases hz : lookS (keyP p) (S.part (prt p)) with
    | none => exact h2 hz
    | some r => rw [hz] at z; cases z
  cases c with
  | plus =>
    obtain ⟨a, rfl, e⟩ := map1 hk
    obtain ⟨v, rfl, h⟩ := ha.one
    exact ⟨.plus num a, .tup (.inl (.inl ht)) (.cons (.str _) (.cons (.int _) (.cons h .nil))), ⟨⟨(hw a (by simp)).1, e⟩, all _ rfl (st _ (fun k z => nomatch z) (look_in (hn rfl)))⟩, hf.symm, by simp [psz]; omega⟩
  | bin w =>
    obtain ⟨a, b, rfl, e1, e2⟩ := map2 hk
    obtain ⟨u, v, rfl, h1, h2⟩ := ha.two
    exact ⟨.bin w a b, .tup (.inl (.inl ht)) (.cons (.str _) (.cons h1 (.cons h2 .nil))), ⟨⟨(hw a (by simp)).1, (hw b (by simp)).1, e1, e2⟩, all _ rfl (st _ (fun k z => nomatch z) (look_in hc))⟩, hf, by simp [psz]; omega⟩
  | neg =>
    obtain ⟨a, rfl, e⟩ := map1 hk
    obtain ⟨v, rfl, h⟩ := ha.one
    exact ⟨.neg a, .tup (.inl (.inl ht)) (.cons (.str _) (.cons h .nil)), ⟨⟨(hw a (by simp)).1, e⟩, all _ rfl (st _ (fun k z => nomatch z) (look_in hc))⟩, hf.symm, by simp [psz]; omega⟩
  | ite =>
    obtain ⟨p, a, b, rfl, e1, e2, e3⟩ := map3 hk
    obtain ⟨u, v, z, rfl, h1, h2, h3⟩ := ha.three
    exact ⟨.ite p a b, .tup (.inl (.inl ht)) (.cons (.str _) (.cons h1 (.cons h2 (.cons h3 .nil)))), ⟨⟨(hw p (by simp)).1, (hw a (by simp)).1, (hw b (by simp)).1, e1, by rw [e2, e3]⟩, all _ rfl (st _ (fun k z => nomatch z) (look_in hc))⟩, e2, by simp [psz]; omega⟩
/-- words that take parts, in a list -/
def WsAt (S : Stk) (ok : Ch → Prop) (vs : List V) : Prop := ∀ v ∈ vs, ∃ c : Ch, v = .str c.str ∧ ChOk S c ∧ ok c
/-- a leaf goes behind the leaves -/
theorem lv_add {K : PySem.W.Frag} {S : Stk} {ks : List Bool} {b : Bool} {H0 H' : Hp} {D p : Addr} {o : HO} {acc : List V} (hD : H0 D = none) (sm : Same H0 H') (hA : H' D = some (.lst acc)) (hP : ∀ v ∈ acc, Lv K S ks b H' v) (hp : H' p = none)
    (hl : ∀ H'' : Hp, H'' p = some o → Lv K S ks b H'' (.ref p)) :
    (upd H' p o) D = some (.lst acc) ∧ Same H0 (upd (upd H' p o) D (.lst (acc ++ [.ref p]))) ∧ ∀ v ∈ acc ++ [.ref p], Lv K S ks b (upd (upd H' p o) D (.lst (acc ++ [.ref p]))) v := by
  have sp : Same H' (upd H' p o) := same_new hp
  have hD' : (upd H' p o) D = some (.lst acc) := sp _ _ hA
  have tp : Tp K H' (upd (upd H' p o) D (.lst (acc ++ [.ref p]))) := (Tp.same sp).trans (Tp.lst hD')
  have npD : p ≠ D := fun z => by
    rw [z, hA] at hp
    cases hp
  refine ⟨hD', fun b o z => ?_, fun v hv => ?_⟩
  · rw [upd_ne (ne_of_none z hD)]
    exact sp _ _ (sm _ _ z)
  · rcases List.mem_append.mp hv with z | z
    · exact (hP v z).keep tp
    · rw [List.mem_singleton.mp z]
      exact hl _ (by rw [upd_ne npD, upd_same])
theorem lv_inp {K : PySem.W.Frag} {S : Stk} {ks : List Bool} {b : Bool} {H : Hp} {p : Addr} {i : Nat} (hi : ks[i]? = some b) (hp : H p = some (.tup [.str "in", .int (i : Int)])) : Lv K S ks b H (.ref p) := by
  refine ⟨.inp i, .tup (.inl (.inl hp)) (.cons (.str _) (.cons (.int _) .nil)), ⟨(List.getElem?_eq_some_iff.mp hi).1, fun q hq => ?_⟩, ?_, rfl⟩
  · rw [kn_eq] at hq
    rw [show q = .inp i by simpa [parts] using hq]
    intro z
    cases z
  · show ks.getD i false = b
    rw [List.getD_eq_getElem?_getD, hi]
    rfl
theorem lv_num {K : PySem.W.Frag} {S : Stk} {ks : List Bool} {H : Hp} {p : Addr} {i : Int} (hi : ∃ x ∈ S.a, x.1 = V.int i) (hp : H p = some (.tup [.str "num", .int i])) : Lv K S ks false H (.ref p) := by
  refine ⟨.num i, .tup (.inl (.inl hp)) (.cons (.str _) (.cons (.int _) .nil)), ⟨True.intro, fun q hq => ?_⟩, rfl, rfl⟩
  rw [kn_eq] at hq
  rw [show q = .num i by simpa [parts] using hq, stnd_not S (.num i) (fun k z => nomatch z)]
  intro z
  have := look_in hi
  cases hz : lookS (V.int i) S.a with
  | none => exact this hz
  | some r =>
    have z' : (lookS (V.int i) S.a).map (fun r => (0 + 1, r.1, r.2)) = none := z
    rw [hz] at z'
    cases z'
theorem lv_tr {K : PySem.W.Frag} {S : Stk} {ks : List Bool} {H : Hp} {p : Addr} {w : Bool} (hi : InC S (word (.tr w))) (hp : H p = some (.tup [.str (word (.tr w))])) : Lv K S ks true H (.ref p) := by
  refine ⟨.tr w, .tup (.inl (.inl (by rw [hp]; cases w <;> rfl))) (.cons (.str _) .nil), ⟨True.intro, fun q hq => ?_⟩, rfl, rfl⟩
  rw [kn_eq] at hq
  rw [show q = .tr w by simpa [parts] using hq, stnd_not S (.tr w) (fun k z => nomatch z)]
  intro z
  have := look_in hi
  cases hz : lookS (V.str (word (.tr w))) S.c with
  | none => exact this hz
  | some r =>
    have z' : (lookS (V.str (word (.tr w))) S.c).map (fun r => (2 + 1, r.1, r.2)) = none := z
    rw [hz] at z'
    cases z'
theorem ifS_cut {tt : TT} {A B : TS} {D : Ends} {σ : L2.St} {H : Hp} (I J : Hp → Prop) (h : ∀ Q : Bool → Hp → Prop, (∀ H', I H' → Q true H') → (∀ H', J H' → Q false H') → tt σ H Q) (ha : ∀ H', I H' → A D σ H') (hb : ∀ H', J H' → B D σ H') : tIfS tt A B D σ H :=
  h _ (fun H' i => iteT (ha H' i)) (fun H' j => iteF (hb H' j))
theorem Ch.str_inj {c d : Ch} (h : V.str c.str = V.str d.str) : c = d := by
  cases c with
  | plus => cases d with
    | plus => rfl
    | bin w => cases w <;> exact absurd h (by decide +kernel)
    | neg => exact absurd h (by decide +kernel)
    | ite => exact absurd h (by decide +kernel)
  | neg => cases d with
    | neg => rfl
    | bin w => cases w <;> exact absurd h (by decide +kernel)
    | plus => exact absurd h (by decide +kernel)
    | ite => exact absurd h (by decide +kernel)
  | ite => cases d with
    | ite => rfl
    | bin w => cases w <;> exact absurd h (by decide +kernel)
    | plus => exact absurd h (by decide +kernel)
    | neg => exact absurd h (by decide +kernel)
  | bin w => cases d with
    | bin u => cases w <;> cases u <;> first | rfl | exact absurd h (by decide +kernel)
    | plus => cases w <;> exact absurd h (by decide +kernel)
    | neg => cases w <;> exact absurd h (by decide +kernel)
    | ite => cases w <;> exact absurd h (by decide +kernel)
/-- the parts of a word, written down -/
def PL (Hb H : Hp) (b : Bool) (kvs : List (Key × V)) (c : Ch) : Prop := ∃ pl, valV kvs (Sum.inr c.str) = some (.ref pl) ∧ Hb pl = none ∧ H pl = some (.lst ((c.ps b).map fun b => V.str (kS b)))
theorem pl_ne {Hb H1 H2 : Hp} {b : Bool} {kvs : List (Key × V)} {c c' : Ch} {v : V} (ne : c' ≠ c) (old : ∀ pl o, Hb pl = none → H1 pl = some (.lst o) → H2 pl = some (.lst o)) (h : PL Hb H1 b kvs c') : PL Hb H2 b (putK kvs (Sum.inr c.str) v) c' := by
  obtain ⟨pl, e1, e2, e3⟩ := h
  refine ⟨pl, ?_, e2, old _ _ e2 e3⟩
  rw [valV_put, if_neg fun z => ne (Ch.str_inj (congrArg V.str (Sum.inr.inj z)))]
  exact e1
theorem pl_step {Hb H1 H2 : Hp} {b : Bool} {kvs : List (Key × V)} {c : Ch} {xs : List V} {pl : Addr} {i : Nat} (hx : xs[i]? = some (.str c.str)) (h1 : Hb pl = none) (h2 : H2 pl = some (.lst ((c.ps b).map fun b => V.str (kS b)))) (old : ∀ pl o, Hb pl = none → H1 pl = some (.lst o) → H2 pl = some (.lst o))
    (h : ∀ x ∈ xs.take i, ∀ c' : Ch, x = .str c'.str → c' ≠ c → PL Hb H1 b kvs c') : ∀ x ∈ xs.take (i + 1), ∀ c' : Ch, x = .str c'.str → PL Hb H2 b (putK kvs (Sum.inr c.str) (.ref pl)) c' := by
  intro x hx' c' e
  by_cases ec : c' = c
  · subst ec
    exact ⟨pl, by rw [valV_put, if_pos rfl], h1, h2⟩
  · rw [List.take_add_one, hx] at hx'
    rcases List.mem_append.mp hx' with z | z
    · exact pl_ne ec old (h x z c' e ec)
    · have z' : x = V.str c.str := by simpa using z
      exact absurd (Ch.str_inj (e.symm.trans z')) ec
theorem lay_enc' : ∀ p : Pg, (enc p).canLay0 = true
  | .inp k => by show (PyData.strOk "in" && (true && true)) = true; decide +kernel
  | .num c => by show (PyData.strOk "num" && (true && true)) = true; decide +kernel
  | .tr b => by cases b <;> decide +kernel
  | .plus c a => by
    show (PyData.strOk "plus" && (true && ((enc a).canLay0 && true))) = true
    rw [lay_enc' a]; decide +kernel
  | .bin w a b => by
    show (PyData.strOk w.str && ((enc a).canLay0 && ((enc b).canLay0 && true))) = true
    rw [lay_enc' a, lay_enc' b]; cases w <;> decide +kernel
  | .neg a => by
    show (PyData.strOk "not" && ((enc a).canLay0 && true)) = true
    rw [lay_enc' a]; decide +kernel
  | .ite p a b => by
    show (PyData.strOk "if" && ((enc p).canLay0 && ((enc a).canLay0 && ((enc b).canLay0 && true)))) = true
    rw [lay_enc' p, lay_enc' a, lay_enc' b]; decide +kernel
theorem depth_enc' : ∀ p : Pg, (enc p).depth ≤ dep p
  | .inp k => by show max 0 (max 0 0) + 1 ≤ 1; decide
  | .num c => by show max 0 (max 0 0) + 1 ≤ 1; decide
  | .tr b => by show max 0 0 + 1 ≤ 1; decide
  | .plus c a => by
    have := depth_enc' a
    show max 0 (max 0 (max (enc a).depth 0)) + 1 ≤ dep a + 1
    omega
  | .bin w a b => by
    have := depth_enc' a; have := depth_enc' b
    show max 0 (max (enc a).depth (max (enc b).depth 0)) + 1 ≤ max (dep a) (dep b) + 1
    omega
  | .neg a => by
    have := depth_enc' a
    show max 0 (max (enc a).depth 0) + 1 ≤ dep a + 1
    omega
  | .ite p a b => by
    have := depth_enc' a; have := depth_enc' b; have := depth_enc' p
    show max 0 (max (enc p).depth (max (enc a).depth (max (enc b).depth 0))) + 1 ≤ max (dep p) (max (dep a) (dep b)) + 1
    omega
theorem lays_all : ∀ ds : List PyData, (∀ d ∈ ds, d.canLay0 = true ∧ d.depth ≤ 60) → PyData.canLayAll0 ds = true ∧ PyData.depthAll ds ≤ 60
  | [], _ => ⟨rfl, Nat.zero_le _⟩
  | d :: ds, h => by
    obtain ⟨h1, h2⟩ := lays_all ds fun x hx => h x (List.mem_cons_of_mem _ hx)
    obtain ⟨k1, k2⟩ := h d List.mem_cons_self
    refine ⟨?_, ?_⟩
    · show (d.canLay0 && PyData.canLayAll0 ds) = true
      rw [k1, h1]
      rfl
    · show max d.depth (PyData.depthAll ds) ≤ 60
      omega
theorem sh_list (ds : List PyData) (h : ∀ d ∈ ds, d.canLay0 = true ∧ d.depth ≤ 60) : SeqAt.shaped (.list ds) = true := by
  obtain ⟨h1, h2⟩ := lays_all ds h
  unfold SeqAt.shaped
  have h3 : (PyData.list ds).canLay0 = true := h1
  rw [h3, Bool.true_and]
  exact decide_eq_true (show PyData.depthAll ds + 1 ≤ 64 by omega)
/-- programs, or None -/
inductive OAts (K : PySem.W.Frag) (H : Hp) : List V → List (Option Pg) → Prop
  | nil : OAts K H [] []
  | non {vs : List V} {os : List (Option Pg)} : OAts K H vs os → OAts K H (.non :: vs) (none :: os)
  | cons {v : V} {p : Pg} {vs : List V} {os : List (Option Pg)} : At K H v p → OAts K H vs os → OAts K H (v :: vs) (some p :: os)
theorem OAts.keep {K : PySem.W.Frag} {H H' : Hp} (t : Tp K H H') {vs : List V} {os : List (Option Pg)} (h : OAts K H vs os) : OAts K H' vs os := by
  induction h with
  | nil => exact .nil
  | non _ ih => exact .non ih
  | cons a _ ih => exact .cons (a.keep t) ih
theorem OAts.snoc {K : PySem.W.Frag} {H : Hp} {u : V} {o : Option Pg} (hu : OAts K H [u] [o]) {vs : List V} {os : List (Option Pg)} (h : OAts K H vs os) : OAts K H (vs ++ [u]) (os ++ [o]) := by
  induction h with
  | nil => exact hu
  | non _ ih => exact .non ih
  | cons a _ ih => exact .cons a ih
def encO : Option Pg → PyData
  | none => .none
  | some p => enc p
theorem OAts.dps {K : PySem.W.Frag} {H : Hp} {vs : List V} {os : List (Option Pg)} (h : OAts K H vs os) : DpAll K H vs (os.map encO) := by
  induction h with
  | nil => exact .nil
  | non _ ih => exact .cons .non ih
  | cons a _ ih => exact .cons a ih
theorem OAts.len {K : PySem.W.Frag} {H : Hp} {vs : List V} {os : List (Option Pg)} (h : OAts K H vs os) : vs.length = os.length := by
  induction h with
  | nil => rfl
  | non _ ih => exact congrArg (· + 1) ih
  | cons _ _ ih => exact congrArg (· + 1) ih
theorem OAts.all {K : PySem.W.Frag} {H : Hp} {vs : List V} {os : List (Option Pg)} (h : OAts K H vs os) : os.any Option.isNone = false → ∃ ps, os = ps.map some ∧ Ats K H vs ps := by
  induction h with
  | nil => exact fun _ => ⟨[], rfl, .nil⟩
  | non _ ih => exact fun z => by simp at z
  | cons a _ ih =>
    intro z
    obtain ⟨ps, rfl, r⟩ := ih (by simpa using z)
    exact ⟨_ :: ps, rfl, .cons a r⟩
theorem eqv_enc (p : Pg) : PyData.eqv (enc p) .none = false := by
  cases p <;> rfl
theorem anyO : ∀ os : List (Option Pg), (os.map encO).any (fun z => PyData.eqv z .none) = os.any Option.isNone
  | [] => rfl
  | none :: os => rfl
  | some p :: os => by
    show (PyData.eqv (enc p) .none || (os.map encO).any _) = (false || _)
    rw [eqv_enc, anyO os]
def Ch.frontD (num : Int) : Ch → List PyData
  | .plus => [.str "plus", .int num]
  | .bin w => [.str w.str]
  | .neg => [.str "not"]
  | .ite => [.str "if"]
theorem front_dp {K : PySem.W.Frag} {H : Hp} (num : Int) (c : Ch) : DpAll K H (c.front num) (c.frontD num) := by
  cases c with
  | plus => exact .cons (.str _) (.cons (.int _) .nil)
  | bin w => exact .cons (.str _) .nil
  | neg => exact .cons (.str _) .nil
  | ite => exact .cons (.str _) .nil
theorem front_any (num : Int) (c : Ch) : (c.frontD num).any (fun z => PyData.eqv z .none) = false := by
  cases c <;> rfl
theorem front_lay (num : Int) (c : Ch) : ∀ d ∈ c.frontD num, d.canLay0 = true ∧ d.depth ≤ 60 := by
  intro d hd
  cases c with
  | plus =>
    rcases List.mem_cons.mp hd with rfl | hd
    · exact ⟨by decide +kernel, by decide⟩
    · rw [List.mem_singleton.mp hd]
      exact ⟨rfl, Nat.zero_le _⟩
  | bin w => rw [List.mem_singleton.mp hd]; cases w <;> exact ⟨by decide +kernel, Nat.zero_le _⟩
  | neg => rw [List.mem_singleton.mp hd]; exact ⟨by decide +kernel, Nat.zero_le _⟩
  | ite => rw [List.mem_singleton.mp hd]; exact ⟨by decide +kernel, Nat.zero_le _⟩
def pszO : Option Pg → Nat
  | none => 0
  | some p => psz p
theorem boolQ {Q : Bool → Hp → Prop} {c : Bool} {H : Hp} (h1 : c = true → Q true H) (h2 : c = false → Q false H) : Q c H := by
  cases c
  · exact h2 rfl
  · exact h1 rfl
theorem le_sum {n : Nat} : ∀ {l : List Nat}, n ∈ l → n ≤ l.sum
  | [], h => by cases h
  | m :: l, h => by
    rw [List.sum_cons]
    rcases List.mem_cons.mp h with rfl | h
    · omega
    · have := le_sum h
      omega
/-- what came of the parts -/
structure Got (S : Stk) (ks : List Bool) (due : List Bool) (os : List (Option Pg)) (left room : Int) : Prop where
  of : ∀ p, some p ∈ os → Ofs S ks p
  own : ∀ (j : Nat) (p : Pg), os[j]? = some (some p) → due[j]? = some (own ks p)
  sum : ((os.map pszO).sum : Int) + left ≤ room - 1
theorem Got.nil {S : Stk} {ks due : List Bool} {room : Int} : Got S ks due [] (room - 1) room := ⟨fun p h => (by cases h), fun j p h => (by simp at h), (by simp)⟩
theorem Got.snoc {S : Stk} {ks due : List Bool} {os : List (Option Pg)} {left room : Int} (g : Got S ks due os left room) {o : Option Pg} {b : Bool} {m : Int} (hb : due[os.length]? = some b) (h0 : 0 ≤ m) (h : ∀ p, o = some p → Ofs S ks p ∧ Lm.own ks p = b ∧ (psz p : Int) ≤ m) : Got S ks due (os ++ [o]) (left - m) room := by
  refine ⟨fun p hp => ?_, fun j p hj => ?_, ?_⟩
  · rcases List.mem_append.mp hp with z | z
    · exact g.of p z
    · exact (h p (List.mem_singleton.mp z).symm).1
  · by_cases c : j < os.length
    · rw [List.getElem?_append_left c] at hj
      exact g.own j p hj
    · rw [List.getElem?_append_right (Nat.le_of_not_lt c)] at hj
      have j0 : j - os.length = 0 := by
        have := (List.getElem?_eq_some_iff.mp hj).1
        simpa using this
      rw [j0] at hj
      have ej : j = os.length := by omega
      rw [ej, (h p (Option.some.inj hj)).2.1, hb]
  · have hs := g.sum
    rw [List.map_append, List.sum_append]
    cases o with
    | none => simp [pszO]; omega
    | some p =>
      have := (h p rfl).2.2
      simp [pszO]
      omega
theorem Got.map {S : Stk} {ks due : List Bool} {ps : List Pg} {left room : Int} (g : Got S ks due (ps.map some) left room) (hl : ps.length = due.length) : (∀ p ∈ ps, Ofs S ks p) ∧ ps.map (Lm.own ks) = due ∧ ((ps.map psz).sum : Int) + left ≤ room - 1 := by
  refine ⟨fun p hp => g.of p (List.mem_map.mpr ⟨p, hp, rfl⟩), ?_, ?_⟩
  · refine List.ext_getElem? fun j => ?_
    rw [List.getElem?_map]
    cases e : ps[j]? with
    | none =>
      have : ps.length ≤ j := List.getElem?_eq_none_iff.mp e
      exact (List.getElem?_eq_none_iff.mpr (by omega)).symm
    | some p => exact (g.own j p (by rw [List.getElem?_map, e]; rfl)).symm
  · have hs := g.sum
    rw [List.map_map] at hs
    exact hs
section
variable {P : Program} {w : World} {K : PySem.W.Frag} {mg : Str → Option Value} {base : Heap}
abbrev s_l_of_stock : Stmt := topS 29
theorem sc_l_of_stock : FnScope ["_law_flow_here", "_law_shop", "_law_kinds_here", "_law_kind", "_law_room", "_law_down", "_law_words", "_law_tells", "_law_leaves", "_law_parts_here", "_law_word", "_law_left", "_law_found", "_law_k", "_law_one", "_law_share", "_law_heavy", "_law_number"] ["_law_flow_here", "_law_shop", "_law_kinds_here", "_law_kind", "_law_room", "_law_down"] (defScope s_l_of_stock) := ⟨rfl, rfl, rfl, by decide +kernel, rfl, by decide +kernel, by decide +kernel⟩
def spOS (K : PySem.W.Frag) (n : Nat) : Sp := fun vs H Q _ => ∃ (f t ka : Addr) (S : Stk) (ks : List Bool) (b : Bool) (room down : Int), vs = [.ref f, .ref t, .ref ka, .str (kS b), .int room, .int down] ∧ Flow H f ∧ Fd K H (.ref t) S.D ∧ S.Ok ∧ SqT K H ka (kVs ks) ∧ ks.length ≤ 3 ∧ 1 ≤ room ∧ room ≤ 24 ∧ 0 ≤ down ∧ down < n ∧
  ∀ u H', Gr [] f H H' → (u = .non ∨ ∃ p, At K H' u p ∧ Ofs S ks p ∧ own ks p = b ∧ (psz p : Int) ≤ room) → Q u H'
theorem ok_l_of_stock1 {n : Nat} (B : Bt mg) (C_l_draw : Cal P w K mg base 1 "_law_draw" ["_law_flow_here", "_law_many"] (spDraw)) (C_l_of_stock : Cal P w K mg base (n + 1) "_law_of_stock" ["_law_flow_here", "_law_shop", "_law_kinds_here", "_law_kind", "_law_room", "_law_down"] (spOS K n)) (D : DefAt K mg "_law_of_stock" s_l_of_stock ["_law_flow_here", "_law_shop", "_law_kinds_here", "_law_kind", "_law_room", "_law_down"]) : Cal P w K mg base (n + 1 + 1) "_law_of_stock" ["_law_flow_here", "_law_shop", "_law_kinds_here", "_law_kind", "_law_room", "_law_down"] (spOS K (n + 1)) := by
  refine cal_of D sc_l_of_stock (fun vs H Q E h => ?_) (fun f cdv A outer s H vs Q E hr h => ?_)
  · obtain ⟨f, t, ka, S, ks, b, room, down, rfl, _⟩ := h
    rfl
  have hu65 : (A.deeper (envOfC "_law_of_stock" (defScope s_l_of_stock) s.heap.objs.size f cdv)).units + 65 < cLine := by
    have := hr.un
    omega
  obtain ⟨f, t, ka, S, ks, b, room, down, rfl, fl, ht, hS, hk, hk3, r1, r2, d0, d1, q⟩ := h
  have C_l_draw := C_l_draw.mono (k := n + 1) (by omega)
  have hr' : Room (n + 1) _ := hr
  refine ⟨_, (pss_cons (ps_set (i := 6) sc_l_of_stock.nd rfl (.inl rfl) (pe_op op_cat (pe_lc (own := [("_law_word", 10), ("_law_heavy", 16)]) (g := gTup K 2 (gCons (gName 10) (gCons (gName 16) gNil))) rfl sc_l_of_stock.nd (pi_tup (pe_ix ix_tup (pv 1) pe_int (fun _ _ => rfl))) (blkOk_by (own := [("_law_word", 10), ("_law_heavy", 16)]) (N := ["_law_flow_here", "_law_shop", "_law_kinds_here", "_law_kind", "_law_room", "_law_down", "_law_words", "_law_tells", "_law_leaves", "_law_parts_here", "_law_word", "_law_left", "_law_found", "_law_k", "_law_one", "_law_share", "_law_heavy", "_law_number"]) (sc := defScope s_l_of_stock) (by decide +kernel)) (fun _ _ _ _ _ => (pg_tupK (K := K) rfl rfl (pgs_cons (pg_name (i := 10) sc_l_of_stock.nd rfl (.inl rfl)) (pgs_cons (pg_name (i := 16) sc_l_of_stock.nd rfl (.inl rfl)) pgs_nil)))) (fun _ _ _ _ _ => (pts_one (pt_cmpR (op_notIn_seqK (K := K) rfl) (pv 10) (pe_tup (pa_cons pe_str (pa_cons pe_str pa_nil))) rfl))) (fun _ _ _ _ _ => (pv 10))) (pe_op op_rep (pe_lst (pa_cons pe_str pa_nil)) (pe_callTy call_int1 (by rfl) B.int PyProof.Rows.boot_int (pa_cons (pe_cmpR op_gt (pe_callB call_len_seq (by rfl) B.len PySem.boot_len (pa_cons (pe_ix ix_tup (pv 1) pe_int (fun _ _ => rfl)) pa_nil)) pe_int (nomark _)) pa_nil)))))
      (pss_cons (ps_set (i := 7) sc_l_of_stock.nd rfl (.inr rfl) (pe_disp (pps_cons pe_str pe_str (pps_cons pe_str pe_str (pps_cons pe_str pe_str (pps_cons pe_str (pv 3) pps_nil)))) (by rfl) (by rfl) (fun z => by cases z) (by decide)))
      (pss_cons (ps_setLc (i := 6) (own := [("_law_word", 10)]) (g := gName 10) rfl sc_l_of_stock.nd rfl rfl (sw_true rfl rfl rfl (by decide +kernel)) (pi_list (pv 6)) (blkOk_by (own := [("_law_word", 10)]) (N := ["_law_flow_here", "_law_shop", "_law_kinds_here", "_law_kind", "_law_room", "_law_down", "_law_words", "_law_tells", "_law_leaves", "_law_parts_here", "_law_word", "_law_left", "_law_found", "_law_k", "_law_one", "_law_share", "_law_heavy", "_law_number"]) (sc := defScope s_l_of_stock) (by decide +kernel)) (fun _ _ _ _ _ => (pg_name (i := 10) sc_l_of_stock.nd rfl (.inl rfl))) (fun _ _ _ _ _ => (pts_one (pt_cmpR op_eq (pe_dget2 (hu_of hr) (pv 7) (pv 10) pe_str (by constructor <;> rfl)) (pv 3) (nomark _)))) (fun _ _ _ _ _ => (pv 10)))
      (pss_cons (ps_setLc (i := 8) (own := [("_law_k", 13)]) (g := gName 13) rfl sc_l_of_stock.nd rfl rfl (sw_true rfl rfl rfl (by decide +kernel)) (pi_range1 (by rfl) B.range (pa_cons (pe_callB call_len_seq (by rfl) B.len PySem.boot_len (pa_cons (pv 2) pa_nil)) pa_nil)) (blkOk_by (own := [("_law_k", 13)]) (N := ["_law_flow_here", "_law_shop", "_law_kinds_here", "_law_kind", "_law_room", "_law_down", "_law_words", "_law_tells", "_law_leaves", "_law_parts_here", "_law_word", "_law_left", "_law_found", "_law_k", "_law_one", "_law_share", "_law_heavy", "_law_number"]) (sc := defScope s_l_of_stock) (by decide +kernel)) (fun _ _ _ _ _ => (pg_name (i := 13) sc_l_of_stock.nd rfl (.inl rfl))) (fun _ _ _ _ _ => (pts_one (pt_cmpR op_eq (pe_ix (ix_tupK (K := K) rfl) (pv 2) (pv 13) (fun _ _ => rfl)) (pv 3) (nomark _)))) (fun _ _ _ _ _ => (pe_tup (pa_cons pe_str (pa_cons (pv 13) pa_nil)))))
      (pss_cons (ps_set (i := 8) sc_l_of_stock.nd rfl (.inl rfl) (pe_op op_cat (pv 8) (pe_lc (own := [("_law_number", 17), ("_law_heavy", 16)]) (g := gTup K 2 (gCons (gName 17) (gCons (gName 16) gNil))) rfl sc_l_of_stock.nd (pi_tup (pe_ix ix_tup (pv 1) pe_int (fun _ _ => rfl))) (blkOk_by (own := [("_law_number", 17), ("_law_heavy", 16)]) (N := ["_law_flow_here", "_law_shop", "_law_kinds_here", "_law_kind", "_law_room", "_law_down", "_law_words", "_law_tells", "_law_leaves", "_law_parts_here", "_law_word", "_law_left", "_law_found", "_law_k", "_law_one", "_law_share", "_law_heavy", "_law_number"]) (sc := defScope s_l_of_stock) (by decide +kernel)) (fun _ _ _ _ _ => (pg_tupK (K := K) rfl rfl (pgs_cons (pg_name (i := 17) sc_l_of_stock.nd rfl (.inl rfl)) (pgs_cons (pg_name (i := 16) sc_l_of_stock.nd rfl (.inl rfl)) pgs_nil)))) (fun _ _ _ _ _ => (pts_one (pt_cmpR op_eq (pv 3) pe_str (nomark _)))) (fun _ _ _ _ _ => (pe_tup (pa_cons pe_str (pa_cons (pv 17) pa_nil)))))))
      (pss_cons (ps_set (i := 8) sc_l_of_stock.nd rfl (.inl rfl) (pe_op op_cat (pv 8) (pe_lc (own := [("_law_word", 10), ("_law_heavy", 16)]) (g := gTup K 2 (gCons (gName 10) (gCons (gName 16) gNil))) rfl sc_l_of_stock.nd (pi_tup (pe_ix ix_tup (pv 1) pe_int (fun _ _ => rfl))) (blkOk_by (own := [("_law_word", 10), ("_law_heavy", 16)]) (N := ["_law_flow_here", "_law_shop", "_law_kinds_here", "_law_kind", "_law_room", "_law_down", "_law_words", "_law_tells", "_law_leaves", "_law_parts_here", "_law_word", "_law_left", "_law_found", "_law_k", "_law_one", "_law_share", "_law_heavy", "_law_number"]) (sc := defScope s_l_of_stock) (by decide +kernel)) (fun _ _ _ _ _ => (pg_tupK (K := K) rfl rfl (pgs_cons (pg_name (i := 10) sc_l_of_stock.nd rfl (.inl rfl)) (pgs_cons (pg_name (i := 16) sc_l_of_stock.nd rfl (.inl rfl)) pgs_nil)))) (fun _ _ _ _ _ => (pts_one (PW.pt (pw_and (pt_cmpR (op_in_seqK (K := K) rfl) (pv 10) (pe_tup (pa_cons pe_str (pa_cons pe_str pa_nil))) rfl) (pw_and1 (pt_cmpR op_eq (pv 3) pe_str (nomark _))))))) (fun _ _ _ _ _ => (pe_tup (pa_cons (pv 10) pa_nil))))))
      (pss_cons (ps_set (i := 9) sc_l_of_stock.nd rfl (.inr rfl) pe_dnewK)
      (pss_cons (ps_for PassesOwn.never rfl (pi_list (pv 6)) (pg_name (i := 10) sc_l_of_stock.nd rfl (.inl rfl))
        (pss_cons (ps_dput (hu_of hr) (pv 9) (pv 10) (pe_dget1 (hu_of hr) (pe_disp (pps_cons pe_str (pe_lst (pa_cons pe_str pa_nil)) (pps_cons pe_str (pe_lst (pa_cons pe_str pa_nil)) (pps_cons pe_str (pe_op op_rep (pe_lst (pa_cons pe_str pa_nil)) pe_int) (pps_cons pe_str (pe_op op_rep (pe_lst (pa_cons pe_str pa_nil)) pe_int) pps_nil)))) (by rfl) (by rfl) (fun z => by cases z) (by decide)) (pv 10) (by constructor <;> rfl)) rfl)
      (pss_one (ps_if (pt_cmpR op_isN (pe_dget (hu_of hr) (pv 9) (pv 10) (fun _ _ => rfl)) pe_non (nomark _))
        (pss_one (ps_dput (hu_of hr) (pv 9) (pv 10) (pe_ix ix_list (pe_lst (pa_cons (pe_lst (pa_cons pe_str (pa_cons pe_str pa_nil))) (pa_cons (pe_lst (pa_cons pe_str (pa_cons (pv 3) (pa_cons (pv 3) pa_nil)))) pa_nil))) (pe_callTy call_int1 (by rfl) B.int PyProof.Rows.boot_int (pa_cons (pe_cmpR op_eq (pv 10) pe_str (nomark _)) pa_nil)) (fun _ _ => rfl)) rfl))
        pss_nil))))
      (pss_cons (ps_setLc (i := 6) (own := [("_law_word", 10)]) (g := gName 10) rfl sc_l_of_stock.nd rfl rfl (sw_true rfl rfl rfl (by decide +kernel)) (pi_list (pv 6)) (blkOk_by (own := [("_law_word", 10)]) (N := ["_law_flow_here", "_law_shop", "_law_kinds_here", "_law_kind", "_law_room", "_law_down", "_law_words", "_law_tells", "_law_leaves", "_law_parts_here", "_law_word", "_law_left", "_law_found", "_law_k", "_law_one", "_law_share", "_law_heavy", "_law_number"]) (sc := defScope s_l_of_stock) (by decide +kernel)) (fun _ _ _ _ _ => (pg_name (i := 10) sc_l_of_stock.nd rfl (.inl rfl))) (fun _ _ _ _ _ => (pts_one (PW.pt (pw_and (pt_cmpR op_lt (pe_callB (call_len_seqK (K := K) rfl) (by rfl) B.len PySem.boot_len (pa_cons (pe_dget (hu_of hr) (pv 9) (pv 10) (fun _ _ => rfl)) pa_nil)) (pv 4) (nomark _)) (pw_and1 (pt_cmpR op_gt (pv 5) pe_int (nomark _))))))) (fun _ _ _ _ _ => (pv 10)))
      (C8.pss_cut (ps_if (PW.pt (pw_and (pt_cmpR op_gt (pe_callB call_len_seq (by rfl) B.len PySem.boot_len (pa_cons (pv 6) pa_nil)) pe_int (nomark _)) (pw_and1 (PW.pt (pw_or (pt_cmpR op_eq (pe_callB call_len_seq (by rfl) B.len PySem.boot_len (pa_cons (pv 8) pa_nil)) pe_int (nomark _)) (pw_or1 (pt_cmpR op_gt (pe_cal C_l_draw hr' (by rfl) (pa_cons (pv 0) (pa_cons pe_int pa_nil))) pe_int (nomark _))))))))
        (pss_cons (ps_par (i := 10) (j := 11) rfl sc_l_of_stock.nd rfl rfl (by decide) rfl rfl (pa_cons (pe_ix ix_list (pv 6) (pe_cal C_l_draw hr' (by rfl) (pa_cons (pv 0) (pa_cons (pe_callB call_len_seq (by rfl) B.len PySem.boot_len (pa_cons (pv 6) pa_nil)) pa_nil))) (fun _ _ => rfl)) (pa_cons (pe_op op_sub (pv 4) pe_int) pa_nil)) rfl)
      (pss_cons (ps_set (i := 12) sc_l_of_stock.nd rfl (.inl rfl) (pe_lst (pa_cons (pv 10) pa_nil)))
      (C8.pss_cut (ps_if (pt_cmpR op_eq (pv 10) pe_str (nomark _))
        (pss_one (ps_expr (pe_bm PySem.F.plainAttrs_list PySem.F.slot_list_append PySem.F.type_list_append mt_append (pv 12) (pa_cons (pe_ix ix_tup (pe_ix ix_tup (pe_ix ix_tup (pv 1) pe_int (fun _ _ => rfl)) (pe_cal C_l_draw hr' (by rfl) (pa_cons (pv 0) (pa_cons (pe_callB call_len_seq (by rfl) B.len PySem.boot_len (pa_cons (pe_ix ix_tup (pv 1) pe_int (fun _ _ => rfl)) pa_nil)) pa_nil))) (fun _ _ => rfl)) pe_int (fun _ _ => rfl)) pa_nil))))
        pss_nil)
      (pss_cons (ps_for PassesOwn.never rfl (pi_enum (by rfl) B.enumerate (pa_cons (pe_dget (hu_of hr) (pv 9) (pv 10) (fun _ _ => rfl)) pa_nil)) (pg_tup rfl (pgs_cons (pg_name (i := 13) sc_l_of_stock.nd rfl (.inl rfl)) (pgs_cons (pg_name (i := 14) sc_l_of_stock.nd rfl (.inl rfl)) pgs_nil)))
        (pss_cons (ps_set (i := 15) sc_l_of_stock.nd rfl (.inl rfl) (pe_op op_add pe_int (pe_cal C_l_draw hr' (by rfl) (pa_cons (pv 0) (pa_cons (pe_op op_sub (pv 11) (pe_op op_sub (pe_op op_sub (pe_callB call_len_seq (by rfl) B.len PySem.boot_len (pa_cons (pe_dget (hu_of hr) (pv 9) (pv 10) (fun _ _ => rfl)) pa_nil)) (pv 13)) pe_int)) pa_nil)))))
      (pss_cons (ps_set (i := 11) sc_l_of_stock.nd rfl (.inl rfl) (pe_op op_sub (pv 11) (pv 15)))
      (pss_one (ps_expr (pe_bm PySem.F.plainAttrs_list PySem.F.slot_list_append PySem.F.type_list_append mt_append (pv 12) (pa_cons (pe_cal C_l_of_stock hr' (by rfl) (pa_cons (pv 0) (pa_cons (pv 1) (pa_cons (pv 2) (pa_cons (pv 14) (pa_cons (pv 15) (pa_cons (pe_op op_sub (pv 5) pe_int) pa_nil))))))) pa_nil)))))))
      (pss_one (ps_if (pt_cmpR (L2.op_notInD hu65) pe_non (pv 12) rfl)
        (pss_one (ps_ret (pe_callTy call_tuple_of (by rfl) B.tuple PyProof.Rows.boot_tuple (pa_cons (pv 12) pa_nil))))
        pss_nil))))))
        pss_nil)
      (pss_one (ps_ret (pe_ifExp (pt_cmpR op_gt (pe_callB call_len_seq (by rfl) B.len PySem.boot_len (pa_cons (pv 8) pa_nil)) pe_int (nomark _)) (pe_ix ix_list (pv 8) (pe_cal C_l_draw hr' (by rfl) (pa_cons (pv 0) (pa_cons (pe_callB call_len_seq (by rfl) B.len PySem.boot_len (pa_cons (pv 8) pa_nil)) pa_nil))) (fun _ _ => rfl)) pe_non))))))))))))), ?_⟩
  obtain ⟨v1, v2, v3, qt, rd⟩ := part_read ht
  obtain ⟨w1, b1, x1, e1, rfl, q1, p1⟩ := rd 0 (by decide)
  obtain ⟨w2, b2, x2, e2, rfl, q2, p2⟩ := rd 1 (by decide)
  obtain ⟨w3, b3, x3, e3, rfl, q3, p3⟩ := rd 2 (by decide)
  have e1' := Option.some.inj e1
  have e2' := Option.some.inj e2
  have e3' := Option.some.inj e3
  subst e1' e2' e3'
  have l1 : x1.length = S.a.length := (dpall_len p1).trans (List.length_map _)
  have l2 : x2.length = S.b.length := (dpall_len p2).trans (List.length_map _)
  have l3 : x3.length = S.c.length := (dpall_len p3).trans (List.length_map _)
  have la := hS.la
  have lb := hS.lb
  have lc := hS.lc
  -- words
  refine ⟨_, rfl, t, _, 2, _, rfl, rfl, qt, rfl, b3, rfl, ⟨_, q3⟩, fun D1 hD1 => lc_tup (K := K) (a := b3) (xs := x3) (fun j H' => Same H H' ∧ ∃ us, H' D1 = some (.lst us) ∧ us.length ≤ j ∧ WsAt S (fun _ => True) us) ?_ ?_ ?_ ?_⟩
  · exact ⟨same_new hD1, [], upd_same, Nat.le_refl _, fun v hv => by cases hv⟩
  · rintro j H' _ ⟨s', _⟩
    exact Tp.same s' _ _ q3
  · rintro j x H' hx ⟨s', us, hD', ul, hus⟩
    obtain ⟨bb, y, hy, rfl, qb⟩ := kd_read p3 (hS.key 2) j x hx
    have jl : j < x3.length := (List.getElem?_eq_some_iff.mp hx).1
    have hy' := List.mem_of_getElem? (show S.c[j]? = some y from hy)
    obtain ⟨wd, ew, hwd⟩ := hS.c y hy'
    refine ⟨bb, _, rfl, Tp.same s' _ _ qb, rfl, _, _, rfl, _, _, rfl, rfl, ?_⟩
    refine ⟨rfl, _, rfl, (by show 2 ≤ sizeLine; decide), fun tt htt => ⟨tt, _, rfl, .inr (.inl (.inl upd_same)), by rw [ew]; rfl, rfl, _, rfl, ?_⟩⟩
    have s2 := same_new (o := .tup [.str "yes", .str "no"]) htt
    generalize upd H' tt (.tup [.str "yes", .str "no"]) = H2 at s2
    have hD2 := s2 _ _ hD'
    refine ite2 (fun c => ?_) (fun c => ⟨s'.trans s2, us, hD2, by omega, hus⟩)
    have c' : (!inV y.1 [.str "yes", .str "no"]) = true := c
    rw [ew] at c'
    have n1 : wd ≠ "yes" := fun e => by rw [e] at c'; exact absurd c' (by decide +kernel)
    have n2 : wd ≠ "no" := fun e => by rw [e] at c'; exact absurd c' (by decide +kernel)
    obtain ⟨cc, ecc, hcc⟩ := ch_of ⟨y, hy', ew⟩ hwd n1 n2
    refine ⟨_, rfl, us, hD2, smallL (by omega), fun b o z => ?_, us ++ [y.1], upd_same, by rw [List.length_append]; show us.length + 1 ≤ _; omega, fun v hv => ?_⟩
    · rw [upd_ne (ne_of_none z hD1)]
      exact s2 _ _ (s' _ _ z)
    · rcases List.mem_append.mp hv with z | z
      · exact hus v z
      · rw [List.mem_singleton.mp z, ew]
        exact ⟨cc, ecc, hcc, True.intro⟩
  rintro H1 ⟨s1, us1, hD1', ul1, hus1⟩
  refine ⟨(by show 1 ≤ sizeLine; decide), fun lp hlp => ?_⟩
  have s2 := same_new (o := .lst [.str "plus"]) hlp
  have elp : (upd H1 lp (.lst [.str "plus"])) lp = some (.lst [.str "plus"]) := upd_same
  generalize upd H1 lp (.lst [.str "plus"]) = H2 at s2 elp
  have s02 := s1.trans s2
  refine ⟨_, rfl, t, _, 1, _, rfl, rfl, Tp.same s02 _ _ qt, rfl, b2, x2, rfl, .inr (Tp.same s02 _ _ q2), _, _, rfl, rfl, .inr ⟨_, rfl, ?_⟩⟩
  generalize ek : (if decide (0 < (x2.length : Int)) = true then (1 : Int) else 0) = k1
  have hk1 : k1 = 0 ∨ (k1 = 1 ∧ S.b ≠ []) := by
    rw [← ek]
    split
    · rename_i z
      refine .inr ⟨rfl, fun z' => ?_⟩
      rw [z'] at l2
      have z2 := of_decide_eq_true z
      rw [l2] at z2
      exact absurd z2 (by decide)
    · exact .inl rfl
  have hzs : (List.replicate k1.toNat [V.str "plus"]).flatten.length ≤ 1 ∧ WsAt S (fun _ => True) (List.replicate k1.toNat [V.str "plus"]).flatten := by
    rcases hk1 with rfl | ⟨rfl, hb⟩
    · exact ⟨by decide, fun v hv => by simp at hv⟩
    · exact ⟨by decide, fun v hv => ⟨.plus, (by simpa using hv : v = V.str "plus"), hb, True.intro⟩⟩
  refine ⟨lp, k1, _, rfl, rfl, elp, by omega, by omega, (by show 1 * k1.toNat ≤ sizeLine; rcases hk1 with rfl | ⟨rfl, _⟩ <;> decide), fun lq hlq => ?_⟩
  generalize (List.replicate k1.toNat [V.str "plus"]).flatten = zs at hzs
  have elq : (upd H2 lq (.lst zs)) lq = some (.lst zs) := upd_same
  have s3 := same_new (o := .lst zs) hlq
  generalize upd H2 lq (.lst zs) = H3 at s3 elq
  have s03 := s02.trans s3
  have hw1 : ∃ ws, us1 ++ zs = ws ∧ ws.length ≤ 11 ∧ WsAt S (fun _ => True) ws := ⟨_, rfl, by rw [List.length_append]; omega, fun v hv => (List.mem_append.mp hv).elim (hus1 v) (hzs.2 v)⟩
  refine ⟨D1, lq, us1, zs, rfl, rfl, (s2.trans s3) _ _ hD1', elq, Nat.le_of_lt (smallL (by omega)), fun dw hdw => ?_⟩
  obtain ⟨ws1, ew1, lw1, hws1⟩ := hw1
  rw [ew1]
  have edw : (upd H3 dw (.lst ws1)) dw = some (.lst ws1) := upd_same
  have s4 := s03.trans (same_new (o := .lst ws1) hdw)
  generalize upd H3 dw (.lst ws1) = H4 at s4 edw
  clear s2 s3 s03 s02 elp elq hzs hk1 ek hD1' hus1 s1 hlp hlq hdw
  -- tells
  refine fun dt hdt => ⟨_, rfl, upd_same, [(Sum.inr "plus", .str "num"), (Sum.inr "least", .str "num"), (Sum.inr "most", .str "num"), (Sum.inr "if", .str (kS b))], rfl, (by show 4 ≤ 15; decide), ?_⟩
  have edt : (upd (upd H4 dt (.dK [])) dt (.dK (mergeK [] [(Sum.inr "plus", .str "num"), (Sum.inr "least", .str "num"), (Sum.inr "most", .str "num"), (Sum.inr "if", .str (kS b))]))) dt = some (.dK (mergeK [] [(Sum.inr "plus", .str "num"), (Sum.inr "least", .str "num"), (Sum.inr "most", .str "num"), (Sum.inr "if", .str (kS b))])) := upd_same
  have s5 : Same H4 (upd (upd H4 dt (.dK [])) dt (.dK (mergeK [] [(Sum.inr "plus", .str "num"), (Sum.inr "least", .str "num"), (Sum.inr "most", .str "num"), (Sum.inr "if", .str (kS b))]))) := fun b o z => by
    rw [upd_ne (ne_of_none z hdt), upd_ne (ne_of_none z hdt)]
    exact z
  generalize upd (upd H4 dt (.dK [])) dt (.dK (mergeK [] [(Sum.inr "plus", .str "num"), (Sum.inr "least", .str "num"), (Sum.inr "most", .str "num"), (Sum.inr "if", .str (kS b))])) = H5 at s5 edt
  replace edt : H5 dt = some (.dK (tellKV b)) := edt
  replace edw := s5 _ _ edw
  replace s5 := s4.trans s5
  clear s4 hdt
  -- the words that tell the kind
  refine ⟨_, rfl, dw, rfl, ⟨_, SqL.of edw⟩, fun D2 hD2 => lc_list (K := K) (a := dw) (xs := ws1) (fun j H' => Same H5 H' ∧ ∃ us, H' D2 = some (.lst us) ∧ us.length ≤ j ∧ WsAt S (fun c => telB b c = b) us) ?_ ?_ ?_ ?_⟩
  · exact ⟨same_new hD2, [], upd_same, Nat.le_refl _, fun v hv => by cases hv⟩
  · rintro j H' _ ⟨s', _⟩
    exact SqL.of (s' _ _ edw)
  · rintro j x H' hx ⟨s', us, hD', ul, hus⟩
    have jl : j < ws1.length := (List.getElem?_eq_some_iff.mp hx).1
    obtain ⟨c, rfl, hc, _⟩ := hws1 x (List.mem_of_getElem? hx)
    refine ⟨rfl, _, rfl, dt, rfl, .inl ⟨_, .inl (s' _ _ edt)⟩, _, rfl, _, DGet.k (k := Sum.inr c.str) (s' _ _ edt), ?_⟩
    rw [tell_get]
    refine ⟨_, rfl, rfl, _, rfl, ite2 (fun z => ?_) (fun z => ⟨s', us, hD', by omega, hus⟩)⟩
    have z' := kS_inj (of_decide_eq_true z)
    refine ⟨_, rfl, us, hD', smallL (by omega), fun b o q => ?_, us ++ [.str c.str], upd_same, by rw [List.length_append]; show us.length + 1 ≤ _; omega, fun v hv => ?_⟩
    · rw [upd_ne (ne_of_none q hD2)]
      exact s' _ _ q
    · rcases List.mem_append.mp hv with y | y
      · exact hus v y
      · rw [List.mem_singleton.mp y]
        exact ⟨c, rfl, hc, z'⟩
  rintro H6 ⟨s6, ws2, hD2', lw2, hws2⟩
  replace s6 := s5.trans s6
  clear s5 edt edw hws1
  have lw2' : ws2.length ≤ 11 := by omega
  -- leaves: the inputs
  refine ⟨_, rfl, ka, _, rfl, .inr (Tp.same s6 _ _ hk), (((kVs ks).length : Nat) : Int), rfl, by have := hk3; unfold kVs; rw [List.length_map]; omega, by unfold kVs; rw [List.length_map]; omega, fun D3 hD3 => lc_range (lo := 0) (n := (((kVs ks).length : Nat) : Int).toNat) (fun i H' => Same H6 H' ∧ ∃ acc, H' D3 = some (.lst acc) ∧ acc.length ≤ i ∧ ∀ v ∈ acc, Lv K S ks b H' v) ?_ ?_ ?_⟩
  · exact ⟨same_new hD3, [], upd_same, Nat.le_refl _, fun v hv => by cases hv⟩
  · rintro i H' hi ⟨sm, acc, hA, hl, hP⟩
    have hi' : i < ks.length := by
      unfold kVs at hi
      rw [List.length_map] at hi
      omega
    have ek : (kVs ks)[i]? = some (.str (kS ks[i])) := by
      unfold kVs
      rw [List.getElem?_map, List.getElem?_eq_getElem hi']
      rfl
    refine ⟨rfl, _, rfl, _, rfl, ka, _, _, _, rfl, rfl, Tp.same (s6.trans sm) _ _ hk, at_of (j := i) (by omega) ek, _, rfl, rfl, _, rfl, ite2 (fun c => ?_) (fun c => ⟨sm, acc, hA, by omega, hP⟩)⟩
    have c2 : ks[i] = b := kS_inj (of_decide_eq_true c)
    refine ⟨_, rfl, (by show 2 ≤ sizeLine; decide), fun p hp => ?_⟩
    obtain ⟨a1, a2, a3⟩ := lv_add (o := .tup [.str "in", .int (0 + (i : Int))]) hD3 sm hA hP hp fun H'' e => lv_inp (i := i) (by rw [List.getElem?_eq_getElem hi', c2]) (by rw [e, Int.zero_add])
    exact ⟨acc, a1, smallL (by omega), a2, _, upd_same, by rw [List.length_append]; show acc.length + 1 ≤ _; omega, a3⟩
  rintro H7 ⟨s7, lv1, hD3', ll1, hlv1⟩
  have ll1' : lv1.length ≤ 3 := by
    unfold kVs at ll1
    rw [List.length_map] at ll1
    omega
  replace hD2' := s7 _ _ hD2'
  replace s7 := s6.trans s7
  clear s6
  -- leaves: the numbers
  refine ⟨_, rfl, _, rfl, t, _, 0, _, rfl, rfl, Tp.same s7 _ _ qt, rfl, b1, rfl, ⟨_, Tp.same s7 _ _ q1⟩, fun D4 hD4 => lc_tup (K := K) (a := b1) (xs := x1) (fun j H' => Same H7 H' ∧ ∃ acc, H' D4 = some (.lst acc) ∧ acc.length ≤ j ∧ ∀ v ∈ acc, Lv K S ks b H' v) ?_ ?_ ?_ ?_⟩
  · exact ⟨same_new hD4, [], upd_same, Nat.le_refl _, fun v hv => by cases hv⟩
  · rintro j H' _ ⟨s', _⟩
    exact Tp.same (s7.trans s') _ _ q1
  · rintro j x H' hx ⟨sm, acc, hA, hl, hP⟩
    obtain ⟨bb, y, hy, rfl, qb⟩ := kd_read p1 (hS.key 0) j x hx
    have jl : j < x1.length := (List.getElem?_eq_some_iff.mp hx).1
    have hy' := List.mem_of_getElem? (show S.a[j]? = some y from hy)
    obtain ⟨num, en, _⟩ := hS.a y hy'
    refine ⟨bb, _, rfl, Tp.same (s7.trans sm) _ _ qb, rfl, _, _, rfl, _, _, rfl, rfl, ?_⟩
    refine ⟨rfl, _, rfl, rfl, _, rfl, ite2 (fun c => ?_) (fun c => ⟨sm, acc, hA, by omega, hP⟩)⟩
    have c2 : b = false := kS_inj (of_decide_eq_true c)
    refine ⟨_, rfl, (by show 2 ≤ sizeLine; decide), fun p hp => ?_⟩
    obtain ⟨a1, a2, a3⟩ := lv_add (o := .tup [.str "num", y.1]) hD4 sm hA hP hp fun H'' e => by
      rw [c2]
      exact lv_num (i := num) ⟨y, hy', en⟩ (by rw [e, en])
    exact ⟨acc, a1, smallL (by omega), a2, _, upd_same, by rw [List.length_append]; show acc.length + 1 ≤ _; omega, a3⟩
  rintro H8 ⟨s8, lv2, hD4', ll2, hlv2⟩
  have hlv8 : ∀ v ∈ lv1 ++ lv2, Lv K S ks b H8 v := fun v hv => (List.mem_append.mp hv).elim (fun z => (hlv1 v z).keep (Tp.same s8)) (hlv2 v)
  replace hD2' := s8 _ _ hD2'
  replace hD3' := s8 _ _ hD3'
  replace s8 := s7.trans s8
  clear s7 hlv1 hlv2
  refine ⟨D3, D4, lv1, lv2, rfl, rfl, hD3', hD4', Nat.le_of_lt (smallL (by omega)), fun dl hdl => ?_⟩
  obtain ⟨lv3, e3', l3', hlv3⟩ : ∃ lv3, lv1 ++ lv2 = lv3 ∧ lv3.length ≤ 13 ∧ ∀ v ∈ lv3, Lv K S ks b H8 v := ⟨_, rfl, by rw [List.length_append]; omega, hlv8⟩
  rw [e3']
  have s9 := same_new (o := .lst lv3) hdl
  have edl : (upd H8 dl (.lst lv3)) dl = some (.lst lv3) := upd_same
  generalize upd H8 dl (.lst lv3) = H9 at s9 edl
  replace hlv3 : ∀ v ∈ lv3, Lv K S ks b H9 v := fun v hv => (hlv3 v hv).keep (Tp.same s9)
  replace hD2' := s9 _ _ hD2'
  replace s9 := s8.trans s9
  clear s8 hlv8 hD3' hD4' e3' hdl
  -- leaves: yes and no
  refine ⟨_, rfl, _, rfl, t, _, 2, _, rfl, rfl, Tp.same s9 _ _ qt, rfl, b3, rfl, ⟨_, Tp.same s9 _ _ q3⟩, fun D5 hD5 => lc_tup (K := K) (a := b3) (xs := x3) (fun j H' => Same H9 H' ∧ ∃ acc, H' D5 = some (.lst acc) ∧ acc.length ≤ j ∧ ∀ v ∈ acc, Lv K S ks b H' v) ?_ ?_ ?_ ?_⟩
  · exact ⟨same_new hD5, [], upd_same, Nat.le_refl _, fun v hv => by cases hv⟩
  · rintro j H' _ ⟨s', _⟩
    exact Tp.same (s9.trans s') _ _ q3
  · rintro j x H' hx ⟨sm, acc, hA, hl, hP⟩
    obtain ⟨bb, y, hy, rfl, qb⟩ := kd_read p3 (hS.key 2) j x hx
    have jl : j < x3.length := (List.getElem?_eq_some_iff.mp hx).1
    have hy' := List.mem_of_getElem? (show S.c[j]? = some y from hy)
    obtain ⟨wd, ew, hwd⟩ := hS.c y hy'
    refine ⟨bb, _, rfl, Tp.same (s9.trans sm) _ _ qb, rfl, _, _, rfl, _, _, rfl, rfl, ?_⟩
    refine ⟨rfl, _, rfl, (by show 2 ≤ sizeLine; decide), fun tt htt => ⟨tt, _, rfl, .inr (.inl (.inl upd_same)), by rw [ew]; rfl, rfl, _, rfl, ?_⟩⟩
    have s2 := same_new (o := .tup [.str "yes", .str "no"]) htt
    generalize upd H' tt (.tup [.str "yes", .str "no"]) = H2 at s2
    have sm2 := sm.trans s2
    have hA2 := s2 _ _ hA
    have hP2 : ∀ v ∈ acc, Lv K S ks b H2 v := fun v hv => (hP v hv).keep (Tp.same s2)
    have no : Same H9 H2 ∧ ∃ acc, H2 D5 = some (.lst acc) ∧ acc.length ≤ j + 1 ∧ ∀ v ∈ acc, Lv K S ks b H2 v := ⟨sm2, acc, hA2, by omega, hP2⟩
    refine ite2 (fun c => ?_) (fun c => no)
    refine ⟨_, rfl, rfl, _, rfl, ite2 (fun c2 => ?_) (fun c2 => no)⟩
    have c3 : b = true := kS_inj (of_decide_eq_true c2)
    have c' : inV y.1 [.str "yes", .str "no"] = true := c
    obtain ⟨wb, ewb⟩ : ∃ wb : Bool, y.1 = .str (word (.tr wb)) := by
      rw [ew] at c'
      simp only [stockWs, List.mem_cons, List.not_mem_nil, or_false] at hwd
      rcases hwd with rfl | rfl | rfl | rfl | rfl | rfl | rfl | rfl | rfl
      · exact ⟨true, ew⟩
      · exact ⟨false, ew⟩
      all_goals exact absurd c' (by decide +kernel)
    refine ⟨_, rfl, (by show 1 ≤ sizeLine; decide), fun p hp => ?_⟩
    obtain ⟨a1, a2, a3⟩ := lv_add (o := .tup [y.1]) hD5 sm2 hA2 hP2 hp fun H'' e => by
      rw [c3]
      exact lv_tr (w := wb) ⟨y, hy', ewb⟩ (by rw [e, ewb])
    exact ⟨acc, a1, smallL (by omega), a2, _, upd_same, by rw [List.length_append]; show acc.length + 1 ≤ _; omega, a3⟩
  rintro H10 ⟨s10, lv4, hD5', ll4, hlv4⟩
  have hlv10 : ∀ v ∈ lv3 ++ lv4, Lv K S ks b H10 v := fun v hv => (List.mem_append.mp hv).elim (fun z => (hlv3 v z).keep (Tp.same s10)) (hlv4 v)
  replace hD2' := s10 _ _ hD2'
  replace edl := s10 _ _ edl
  replace s10 := s9.trans s10
  clear s9 hlv3 hlv4
  refine ⟨dl, D5, lv3, lv4, rfl, rfl, edl, hD5', Nat.le_of_lt (smallL (by omega)), fun dm hdm => ?_⟩
  obtain ⟨ls, els, lls, hls⟩ : ∃ ls, lv3 ++ lv4 = ls ∧ ls.length ≤ 23 ∧ ∀ v ∈ ls, Lv K S ks b H10 v := ⟨_, rfl, by rw [List.length_append]; omega, hlv10⟩
  rw [els]
  have s11 := same_new (o := .lst ls) hdm
  have edm : (upd H10 dm (.lst ls)) dm = some (.lst ls) := upd_same
  generalize upd H10 dm (.lst ls) = H11 at s11 edm
  replace hls : ∀ v ∈ ls, Lv K S ks b H11 v := fun v hv => (hls v hv).keep (Tp.same s11)
  replace hD2' := s11 _ _ hD2'
  replace s11 := s10.trans s11
  clear s10 hlv10 edl hD5' els hdm
  -- parts
  refine fun dp hdp => ?_
  refine ⟨_, rfl, D2, rfl, ⟨_, SqL.of ((same_new hdp) _ _ hD2')⟩, for_list (K := K) (a := D2) (xs := ws2) (fun i σ' H' => ∃ (y10 : Option V) (kvs : List (Key × V)), σ' = [some (V.ref f), some (.ref t), some (.ref ka), some (.str (kS b)), some (.int room), some (.int down), some (.ref D2), some (.ref dt), some (.ref dm), some (.ref dp), y10, none, none, none, none, none, none, none] ∧ Same H11 H' ∧ H' dp = some (.dK kvs) ∧ kvs.length ≤ 2 * i ∧ ∀ x ∈ ws2.take i, ∀ c : Ch, x = .str c.str → PL H11 H' b kvs c) ?_ ?_ ?_ ?_⟩
  · exact ⟨none, [], rfl, same_new hdp, upd_same, Nat.zero_le _, fun x hx => by simp at hx⟩
  · rintro i σ' H' _ ⟨y10, kvs, rfl, s', _⟩
    exact SqL.of (s' _ _ hD2')
  · rintro i x σ' H' hx ⟨y10, kvs, rfl, s', edp, lk, hpl⟩
    have il : i < ws2.length := (List.getElem?_eq_some_iff.mp hx).1
    obtain ⟨c, rfl, hc, hct⟩ := hws2 x (List.mem_of_getElem? hx)
    refine fun dd hdd => ?_
    have sA := same_new (o := .dK []) hdd
    have edd : (upd H' dd (.dK [])) dd = some (.dK []) := upd_same
    generalize upd H' dd (.dK []) = A1 at sA edd
    refine ⟨(by show 1 ≤ sizeLine; decide), fun p1 hp1 => ?_⟩
    have sB := same_new (o := .lst [V.str "num"]) hp1
    have e1 : (upd A1 p1 (.lst [V.str "num"])) p1 = some (.lst [V.str "num"]) := upd_same
    generalize upd A1 p1 (.lst [V.str "num"]) = A2 at sB e1
    refine ⟨(by show 1 ≤ sizeLine; decide), fun p2 hp2 => ?_⟩
    have sC := same_new (o := .lst [V.str "truth"]) hp2
    have e2 : (upd A2 p2 (.lst [V.str "truth"])) p2 = some (.lst [V.str "truth"]) := upd_same
    generalize upd A2 p2 (.lst [V.str "truth"]) = A3 at sC e2
    refine ⟨(by show 1 ≤ sizeLine; decide), fun q3 hq3 => ?_⟩
    have sD := same_new (o := .lst [V.str "truth"]) hq3
    have e3 : (upd A3 q3 (.lst [V.str "truth"])) q3 = some (.lst [V.str "truth"]) := upd_same
    generalize upd A3 q3 (.lst [V.str "truth"]) = A4 at sD e3
    refine ⟨q3, 2, _, rfl, rfl, e3, by decide, by decide, (by show 1 * 2 ≤ sizeLine; decide), fun p3 hp3 => ?_⟩
    have sE := same_new (o := .lst (List.replicate (Int.toNat 2) [V.str "truth"]).flatten) hp3
    have e4 : (upd A4 p3 (.lst (List.replicate (Int.toNat 2) [V.str "truth"]).flatten)) p3 = some (.lst [V.str "truth", V.str "truth"]) := upd_same
    generalize upd A4 p3 (.lst (List.replicate (Int.toNat 2) [V.str "truth"]).flatten) = A5 at sE e4
    refine ⟨(by show 1 ≤ sizeLine; decide), fun q4 hq4 => ?_⟩
    have sF := same_new (o := .lst [V.str "truth"]) hq4
    have e5 : (upd A5 q4 (.lst [V.str "truth"])) q4 = some (.lst [V.str "truth"]) := upd_same
    generalize upd A5 q4 (.lst [V.str "truth"]) = A6 at sF e5
    refine ⟨q4, 2, _, rfl, rfl, e5, by decide, by decide, (by show 1 * 2 ≤ sizeLine; decide), fun p4 hp4 => ?_⟩
    have sG := same_new (o := .lst (List.replicate (Int.toNat 2) [V.str "truth"]).flatten) hp4
    have e6 : (upd A6 p4 (.lst (List.replicate (Int.toNat 2) [V.str "truth"]).flatten)) p4 = some (.lst [V.str "truth", V.str "truth"]) := upd_same
    generalize upd A6 p4 (.lst (List.replicate (Int.toNat 2) [V.str "truth"]).flatten) = A7 at sG e6
    have z1 := (sC.trans (sD.trans (sE.trans (sF.trans sG)))) _ _ e1
    have z2 := (sD.trans (sE.trans (sF.trans sG))) _ _ e2
    have z3 := (sF.trans sG) _ _ e4
    have zD := (sB.trans (sC.trans (sD.trans (sE.trans (sF.trans sG))))) _ _ edd
    have n1 : H11 p1 = none := (s'.trans sA).free hp1
    have n2 : H11 p2 = none := (s'.trans (sA.trans sB)).free hp2
    have n3 : H11 p3 = none := (s'.trans (sA.trans (sB.trans (sC.trans sD)))).free hp3
    have n4 : H11 p4 = none := (s'.trans (sA.trans (sB.trans (sC.trans (sD.trans (sE.trans sF)))))).free hp4
    have sM : Same H' A7 := sA.trans (sB.trans (sC.trans (sD.trans (sE.trans (sF.trans sG)))))
    have d1 : p1 ≠ dd := fun z => by rw [z, zD] at z1; cases z1
    have d2 : p2 ≠ dd := fun z => by rw [z, zD] at z2; cases z2
    have d3 : p3 ≠ dd := fun z => by rw [z, zD] at z3; cases z3
    have d4 : p4 ≠ dd := fun z => by rw [z, zD] at e6; cases e6
    clear sA sB sC sD sE sF sG edd e1 e2 e3 e4 e5 hp1 hp2 hq3 hp3 hq4 hp4
    refine ⟨zD, [(Sum.inr "plus", .ref p1), (Sum.inr "not", .ref p2), (Sum.inr "both", .ref p3), (Sum.inr "either", .ref p4)], rfl, (by show 4 ≤ 15; decide), ?_⟩
    have sN : Same H' (upd A7 dd (.dK (mergeK [] [(Sum.inr "plus", .ref p1), (Sum.inr "not", .ref p2), (Sum.inr "both", .ref p3), (Sum.inr "either", .ref p4)]))) := fun b o z => by
      rw [upd_ne (ne_of_none z hdd)]
      exact sM b o z
    have f1 : (upd A7 dd (.dK (mergeK [] [(Sum.inr "plus", .ref p1), (Sum.inr "not", .ref p2), (Sum.inr "both", .ref p3), (Sum.inr "either", .ref p4)]))) p1 = _ := (upd_ne d1).trans z1
    have f2 : (upd A7 dd (.dK (mergeK [] [(Sum.inr "plus", .ref p1), (Sum.inr "not", .ref p2), (Sum.inr "both", .ref p3), (Sum.inr "either", .ref p4)]))) p2 = _ := (upd_ne d2).trans z2
    have f3 : (upd A7 dd (.dK (mergeK [] [(Sum.inr "plus", .ref p1), (Sum.inr "not", .ref p2), (Sum.inr "both", .ref p3), (Sum.inr "either", .ref p4)]))) p3 = _ := (upd_ne d3).trans z3
    have f4 : (upd A7 dd (.dK (mergeK [] [(Sum.inr "plus", .ref p1), (Sum.inr "not", .ref p2), (Sum.inr "both", .ref p3), (Sum.inr "either", .ref p4)]))) p4 = _ := (upd_ne d4).trans e6
    have fD : (upd A7 dd (.dK (mergeK [] [(Sum.inr "plus", .ref p1), (Sum.inr "not", .ref p2), (Sum.inr "both", .ref p3), (Sum.inr "either", .ref p4)]))) dd = some (.dK (mergeK [] [(Sum.inr "plus", .ref p1), (Sum.inr "not", .ref p2), (Sum.inr "both", .ref p3), (Sum.inr "either", .ref p4)])) := upd_same
    generalize upd A7 dd (.dK (mergeK [] [(Sum.inr "plus", .ref p1), (Sum.inr "not", .ref p2), (Sum.inr "both", .ref p3), (Sum.inr "either", .ref p4)])) = A8 at sN f1 f2 f3 f4 fD
    clear z1 z2 z3 zD sM d1 d2 d3 d4 e6 hdd
    refine ⟨dd, rfl, .inl ⟨_, .inl fD⟩, _, rfl, _, DGet.k (k := Sum.inr c.str) fD, ?_⟩
    have hv : (∃ pl, (valV (mergeK [] [(Sum.inr "plus", .ref p1), (Sum.inr "not", .ref p2), (Sum.inr "both", .ref p3), (Sum.inr "either", .ref p4)]) (Sum.inr c.str)).getD .non = .ref pl ∧ H11 pl = none ∧ A8 pl = some (.lst ((c.ps b).map fun b => V.str (kS b)))) ∨ ((valV (mergeK [] [(Sum.inr "plus", .ref p1), (Sum.inr "not", .ref p2), (Sum.inr "both", .ref p3), (Sum.inr "either", .ref p4)]) (Sum.inr c.str)).getD .non = .non ∧ ((c.ps b = [false, false] ∧ V.str c.str ≠ V.str "if") ∨ c = .ite)) := by
      cases c with
      | plus => exact .inl ⟨p1, rfl, n1, f1⟩
      | neg => exact .inl ⟨p2, rfl, n2, f2⟩
      | ite => exact .inr ⟨rfl, .inr rfl⟩
      | bin w =>
        cases w with
        | both => exact .inl ⟨p3, rfl, n3, f3⟩
        | either => exact .inl ⟨p4, rfl, n4, f4⟩
        | least => exact .inr ⟨rfl, .inl ⟨rfl, by decide +kernel⟩⟩
        | most => exact .inr ⟨rfl, .inl ⟨rfl, by decide +kernel⟩⟩
        | atmost => exact .inr ⟨rfl, .inl ⟨rfl, by decide +kernel⟩⟩
    generalize (valV (mergeK [] [(Sum.inr "plus", .ref p1), (Sum.inr "not", .ref p2), (Sum.inr "both", .ref p3), (Sum.inr "either", .ref p4)]) (Sum.inr c.str)).getD .non = v0 at hv
    have edp8 := sN _ _ edp
    clear f1 f2 f3 f4 fD n1 n2 n3 n4
    have bd : dp ≠ f := fun z => by
      obtain ⟨xs, e⟩ := fl.lst
      rw [z, s11 _ _ e] at hdp
      cases hdp
    have lk' : kvs.length < 22 := by omega
    refine ⟨_, rfl, _, rfl, dp, _, rfl, DPut.k (k := Sum.inr c.str) edp8 (smallL (by omega)), ?_⟩
    have o9 : ∀ pl o, H11 pl = none → H' pl = some (.lst o) → (upd A8 dp (.dK (putK kvs (Sum.inr c.str) v0))) pl = some (.lst o) := fun pl o _ z => by
      rw [upd_ne fun y => by rw [y, edp] at z; cases z]
      exact sN _ _ z
    have s9 : Same H11 (upd A8 dp (.dK (putK kvs (Sum.inr c.str) v0))) := fun q o z => by
      rw [upd_ne (ne_of_none z hdp)]
      exact sN _ _ (s' _ _ z)
    have e9 : (upd A8 dp (.dK (putK kvs (Sum.inr c.str) v0))) dp = some (.dK (putK kvs (Sum.inr c.str) v0)) := upd_same
    have k9 : ∀ pl o, A8 pl = some (.lst o) → (upd A8 dp (.dK (putK kvs (Sum.inr c.str) v0))) pl = some (.lst o) := fun pl o z => by
      rw [upd_ne fun y => by rw [y, edp8] at z; cases z]
      exact z
    generalize upd A8 dp (.dK (putK kvs (Sum.inr c.str) v0)) = A9 at o9 s9 e9 k9
    refine ⟨_, rfl, _, rfl, dp, v0, rfl, .inl ⟨_, Sum.inr c.str, .inl e9, rfl, by rw [valV_put, if_pos rfl]⟩, rfl, _, rfl, ?_⟩
    rcases hv with ⟨pl, rfl, nl, el⟩ | ⟨rfl, hcc⟩
    · refine iteF ?_
      exact ⟨_, _, rfl, s9, e9, by have := length_putK kvs (Sum.inr c.str) (V.ref pl); omega, pl_step hx nl (k9 _ _ el) o9 fun x' hx' c' e' _ => hpl x' hx' c' e'⟩
    · refine iteT ?_
      refine ⟨(by show 2 ≤ sizeLine; decide), fun m1 hm1 => ?_⟩
      have sA := same_new (o := .lst [V.str "num", V.str "num"]) hm1
      have e1 : (upd A9 m1 (.lst [V.str "num", V.str "num"])) m1 = some (.lst [V.str "num", V.str "num"]) := upd_same
      generalize upd A9 m1 (.lst [V.str "num", V.str "num"]) = B1 at sA e1
      refine ⟨_, rfl, _, rfl, (by show 3 ≤ sizeLine; decide), fun m2 hm2 => ?_⟩
      have sB := same_new (o := .lst [V.str "truth", V.str (kS b), V.str (kS b)]) hm2
      have e2 : (upd B1 m2 (.lst [V.str "truth", V.str (kS b), V.str (kS b)])) m2 = some (.lst [V.str "truth", V.str (kS b), V.str (kS b)]) := upd_same
      generalize upd B1 m2 (.lst [V.str "truth", V.str (kS b), V.str (kS b)]) = B2 at sB e2
      refine ⟨(by show 2 ≤ sizeLine; decide), fun m3 hm3 => ?_⟩
      have sC := same_new (o := .lst [V.ref m1, V.ref m2]) hm3
      have e3 : (upd B2 m3 (.lst [V.ref m1, V.ref m2])) m3 = some (.lst [V.ref m1, V.ref m2]) := upd_same
      generalize upd B2 m3 (.lst [V.ref m1, V.ref m2]) = B3 at sC e3
      have n1 : H11 m1 = none := s9.free hm1
      have n2 : H11 m2 = none := (s9.trans sA).free hm2
      have f1 := (sB.trans sC) _ _ e1
      have f2 := sC _ _ e2
      have sN2 := sA.trans (sB.trans sC)
      have fp := sN2 _ _ e9
      have fin : ∀ m : Addr, H11 m = none → B3 m = some (.lst ((c.ps b).map fun b => V.str (kS b))) → ∃ (y10 : Option V) (kvs' : List (Key × V)), [some (V.ref f), some (.ref t), some (.ref ka), some (.str (kS b)), some (.int room), some (.int down), some (.ref D2), some (.ref dt), some (.ref dm), some (.ref dp), some (V.str c.str), none, none, none, none, none, none, none] = [some (V.ref f), some (.ref t), some (.ref ka), some (.str (kS b)), some (.int room), some (.int down), some (.ref D2), some (.ref dt), some (.ref dm), some (.ref dp), y10, none, none, none, none, none, none, none] ∧ Same H11 (upd B3 dp (.dK (putK (putK kvs (Sum.inr c.str) V.non) (Sum.inr c.str) (.ref m)))) ∧ (upd B3 dp (.dK (putK (putK kvs (Sum.inr c.str) V.non) (Sum.inr c.str) (.ref m)))) dp = some (.dK kvs') ∧ kvs'.length ≤ 2 * (i + 1) ∧ ∀ x ∈ ws2.take (i + 1), ∀ c' : Ch, x = .str c'.str → PL H11 (upd B3 dp (.dK (putK (putK kvs (Sum.inr c.str) V.non) (Sum.inr c.str) (.ref m)))) b kvs' c' := fun m nm em => by
        refine ⟨_, _, rfl, fun q o z => ?_, upd_same, ?_, ?_⟩
        · rw [upd_ne (ne_of_none z hdp)]
          exact sN2 _ _ (s9 _ _ z)
        · have h1 := length_putK kvs (Sum.inr c.str) V.non
          have h2 := length_putK (putK kvs (Sum.inr c.str) V.non) (Sum.inr c.str) (V.ref m)
          omega
        · have old : ∀ pl o, A9 pl = some (.lst o) → (upd B3 dp (.dK (putK (putK kvs (Sum.inr c.str) V.non) (Sum.inr c.str) (.ref m)))) pl = some (.lst o) := fun pl o z => by
            rw [upd_ne fun y => by rw [y, e9] at z; cases z]
            exact sN2 _ _ z
          refine pl_step (H1 := A9) hx nm ?_ (fun pl o _ z => old pl o z) fun x' hx' c' e' ne => pl_ne ne o9 (hpl x' hx' c' e')
          rw [upd_ne fun y => by rw [y, fp] at em; cases em]
          exact em
      refine ⟨_, rfl, rfl, .inr ⟨_, rfl, ?_⟩⟩
      rcases hcc with ⟨ep, ne⟩ | rfl
      · rw [show (if decide (V.str c.str = V.str "if") = true then (1 : Int) else 0) = 0 from if_neg fun z => ne (of_decide_eq_true z)]
        exact ⟨m3, _, 0, .ref m1, rfl, rfl, SqL.of e3, rfl, _, rfl, _, rfl, dp, _, rfl, DPut.k (k := Sum.inr c.str) fp (smallL (by have := length_putK kvs (Sum.inr c.str) V.non; omega)), fin m1 n1 (by rw [ep]; exact f1)⟩
      · rw [show (if decide (V.str Ch.ite.str = V.str "if") = true then (1 : Int) else 0) = 1 from if_pos (decide_eq_true rfl)]
        exact ⟨m3, _, 1, .ref m2, rfl, rfl, SqL.of e3, rfl, _, rfl, _, rfl, dp, _, rfl, DPut.k (k := Sum.inr Ch.ite.str) fp (smallL (by have := length_putK kvs (Sum.inr Ch.ite.str) V.non; omega)), fin m2 n2 f2⟩
  rintro σ' H12 ⟨y10, kvs, rfl, s12, edp, lk, hpl⟩
  rw [List.take_length] at hpl
  replace hls : ∀ v ∈ ls, Lv K S ks b H12 v := fun v hv => (hls v hv).keep (Tp.same s12)
  replace edm := s12 _ _ edm
  replace hD2' := s12 _ _ hD2'
  have fre : ∀ pl, H11 pl = none → pl ≠ f := fun pl e z => by
    obtain ⟨xs, e'⟩ := fl.lst
    rw [z, s11 _ _ e'] at e
    cases e
  replace s12 := s11.trans s12
  clear s11
  -- the words that there is room for
  refine ⟨_, rfl, D2, rfl, ⟨_, SqL.of hD2'⟩, fun D6 hD6 => lc_list (K := K) (a := D2) (xs := ws2) (fun j H' => Same H12 H' ∧ ∃ us, H' D6 = some (.lst us) ∧ us.length ≤ j ∧ WsAt S (fun c => (telB b c = b ∧ ((c.ps b).length : Int) < room ∧ 0 < down) ∧ V.str c.str ∈ ws2) us) ?_ ?_ ?_ ?_⟩
  · exact ⟨same_new hD6, [], upd_same, Nat.le_refl _, fun v hv => by cases hv⟩
  · rintro j H' _ ⟨s', _⟩
    exact SqL.of (s' _ _ hD2')
  · rintro j x H' hx ⟨s', us, hD', ul, hus⟩
    have jl : j < ws2.length := (List.getElem?_eq_some_iff.mp hx).1
    have hxm := List.mem_of_getElem? hx
    obtain ⟨c, rfl, hc, hct⟩ := hws2 x hxm
    obtain ⟨pl, ev, _, epl⟩ := hpl _ hxm c rfl
    have no : Same H12 H' ∧ ∃ us, H' D6 = some (.lst us) ∧ us.length ≤ j + 1 ∧ WsAt S (fun c => (telB b c = b ∧ ((c.ps b).length : Int) < room ∧ 0 < down) ∧ V.str c.str ∈ ws2) us := ⟨s', us, hD', by omega, hus⟩
    refine ⟨rfl, _, rfl, _, rfl, dp, .ref pl, rfl, .inl ⟨_, Sum.inr c.str, .inl (s' _ _ edp), rfl, ev.symm⟩, pl, _, rfl, .inl (SqL.of (s' _ _ epl)), _, rfl, _, _, rfl, rfl, _, rfl, ite2 (fun z1 => ?_) (fun _ => no)⟩
    refine ⟨_, rfl, _, _, rfl, rfl, _, rfl, ite2 (fun z2 => ?_) (fun _ => no)⟩
    have z1' := of_decide_eq_true z1
    rw [List.length_map] at z1'
    have z2' : down > 0 := of_decide_eq_true z2
    refine ⟨_, rfl, us, hD', smallL (by omega), fun b o q => ?_, us ++ [.str c.str], upd_same, by rw [List.length_append]; show us.length + 1 ≤ _; omega, fun v hv => ?_⟩
    · rw [upd_ne (ne_of_none q hD6)]
      exact s' _ _ q
    · rcases List.mem_append.mp hv with y | y
      · exact hus v y
      · rw [List.mem_singleton.mp y]
        exact ⟨c, rfl, hc, ⟨hct, z1', z2'⟩, hxm⟩
  rintro H13 ⟨s13, ws3, hD6', lw3, hws3⟩
  replace hls : ∀ v ∈ ls, Lv K S ks b H13 v := fun v hv => (hls v hv).keep (Tp.same s13)
  replace edm := s13 _ _ edm
  replace edp := s13 _ _ edp
  have hpl' : ∀ c : Ch, V.str c.str ∈ ws2 → PL H11 H13 b kvs c := fun c hc => by
    obtain ⟨pl, a1, a2, a3⟩ := hpl _ hc c rfl
    exact ⟨pl, a1, a2, s13 _ _ a3⟩
  have sH := s12.trans s13
  clear hpl s12 s13 hws2 lw2 hD2'
  have fl13 : Flow H13 f := by
    obtain ⟨x, y, z, e, r⟩ := fl
    exact ⟨x, y, z, sH _ _ e, r⟩
  have g13 : Gr [] f H H13 := ⟨Ex.of_same sH, fl13⟩
  have ht13 : Fd K H13 (.ref t) S.D := ht.keep (Tp.same sH)
  have hk13 : SqT K H13 ka (kVs ks) := Tp.same sH _ _ hk
  have qt13 := Tp.same (K := K) sH _ _ qt
  have q213 := Tp.same (K := K) sH _ _ q2
  have ndm : dm ≠ f := fun z => by
    obtain ⟨xa, xb, xc, e, _⟩ := fl13
    rw [z, e] at edm
    cases ls with
    | nil => cases edm
    | cons v r =>
      have e1 := Option.some.inj edm
      obtain ⟨p, ap, _⟩ := hls v List.mem_cons_self
      injection e1 with e1
      injection e1 with e1 e2
      rw [← e1] at ap
      cases p <;> cases ap
  have ndp : dp ≠ f := fun z => by
    obtain ⟨xs, e⟩ := fl13.lst
    rw [z, e] at edp
    cases edp
  have nD6 : D6 ≠ f := fun z => by
    obtain ⟨xa, xb, xc, e, _⟩ := fl13
    rw [z, e] at hD6'
    cases ws3 with
    | nil => cases hD6'
    | cons v r =>
      have e1 := Option.some.inj hD6'
      obtain ⟨c, ec, _⟩ := hws3 v List.mem_cons_self
      injection e1 with e1
      injection e1 with e1 e2
      rw [ec] at e1
      cases e1
  have lw3' : ws3.length ≤ 11 := by omega
  refine ⟨fun σ' H' => ∃ (z6 z7 z9 z10 z11 z12 z13 z14 z15 z16 z17 : Option V), σ' = [some (V.ref f), some (.ref t), some (.ref ka), some (.str (kS b)), some (.int room), some (.int down), z6, z7, some (.ref dm), z9, z10, z11, z12, z13, z14, z15, z16, z17] ∧ Gr [] f H13 H', ?_, ?_⟩
  · refine ifS_cut (fun H' => 0 < ws3.length ∧ Gr [] f H13 H') (fun H' => Gr [] f H13 H') ?_ ?_ ?_
    · intro Q' yes no
      have g0 : Gr [] f H13 H13 := ⟨Ex.refl _ _, fl13⟩
      refine ⟨_, rfl, D6, ws3, rfl, .inl (SqL.of hD6'), _, _, rfl, rfl, _, rfl, ite2 (fun c => ?_) (fun c => no _ g0)⟩
      have c' : ((ws3.length : Nat) : Int) > 0 := of_decide_eq_true c
      refine ⟨_, rfl, dm, ls, rfl, .inl (SqL.of edm), rfl, _, rfl, ite2 (fun c2 => yes _ ⟨by omega, g0⟩) (fun c2 => ?_)⟩
      exact ⟨_, rfl, f, 4, rfl, fl13, by decide, by decide, fun d H14 _ _ dr => ⟨_, _, rfl, rfl, _, rfl, boolQ (fun _ => yes _ ⟨by omega, dr.gr⟩) (fun _ => no _ dr.gr)⟩⟩
    · rintro H14 ⟨hne, g14⟩
      refine ⟨_, rfl, _, rfl, _, rfl, D6, ws3, rfl, .inl (SqL.of (g14.ex _ _ hD6' (by simp [nD6]))), f, _, rfl, g14.fl, by omega, by omega, fun j H15 j0 j1 dr => ?_⟩
      have g15 := g14.trans dr.gr
      have hj : j.toNat < ws3.length := by omega
      obtain ⟨c, ec, hcc, ⟨hct, hroom, hdown⟩, hin⟩ := hws3 ws3[j.toNat] (List.getElem_mem hj)
      refine ⟨D6, ws3, j, .str c.str, rfl, rfl, SqL.of (g15.ex _ _ hD6' (by simp [nD6])), at_of (j := j.toNat) (by omega) (by rw [← ec]; exact List.getElem?_eq_getElem hj), _, rfl, _, _, rfl, rfl, _, _, rfl, ?_⟩
      obtain ⟨pl, evl, npl0, epl⟩ := hpl' c hin
      have npl := fre pl npl0
      clear dr g14 hws3 hpl'
      refine ⟨_, rfl, (by show 1 ≤ sizeLine; decide), fun fo hfo => ?_⟩
      have nfo : fo ≠ f := by
        obtain ⟨xs, e⟩ := g15.fl.lst
        exact (ne_of_none e hfo).symm
      have fo13 : H13 fo = none := g15.ex.free hfo (by simp [nfo])
      have g16 : Gr [] f H13 (upd H15 fo (.lst [V.str c.str])) := g15.trans (Gr.new g15.fl hfo)
      have fo16 : (upd H15 fo (.lst [V.str c.str])) fo = some (.lst [V.str c.str]) := upd_same
      generalize upd H15 fo (.lst [V.str c.str]) = H16 at g16 fo16
      clear g15 hfo
      refine ⟨fun σ' H' => ∃ num : Int, (c = .plus → ∃ x ∈ S.b, x.1 = .int num) ∧ σ' = [some (V.ref f), some (.ref t), some (.ref ka), some (.str (kS b)), some (.int room), some (.int down), some (.ref D6), some (.ref dt), some (.ref dm), some (.ref dp), some (.str c.str), some (.int (room - 1)), some (.ref fo), none, none, none, none, none] ∧ Gr [] f H13 H' ∧ H' fo = some (.lst (c.front num)), ?_, ?_⟩
      · refine ⟨_, rfl, rfl, _, rfl, ite2 (fun z => ?_) (fun z => ?_)⟩
        · have z' : V.str c.str = V.str Ch.plus.str := of_decide_eq_true z
          have ecp := Ch.str_inj z'
          subst ecp
          have hb : S.b ≠ [] := hcc
          have lb0 : 0 < x2.length := by
            rw [l2]
            exact List.length_pos_iff.mpr hb
          have tp16 : Tp K H13 H16 := g16.tp fl13
          refine ⟨_, rfl, .inl ⟨rfl, _, SqL.of fo16⟩, _, rfl, t, _, 1, _, rfl, rfl, tp16 _ _ qt13, rfl, _, rfl, _, rfl, t, _, 1, _, rfl, rfl, tp16 _ _ qt13, rfl, b2, x2, rfl, .inr (tp16 _ _ q213), f, _, rfl, g16.fl, by omega, by omega, fun j H17 j0 j1 dr => ?_⟩
          have g17 := g16.trans dr.gr
          have tp17 : Tp K H13 H17 := g17.tp fl13
          have hj : j.toNat < x2.length := by omega
          obtain ⟨bb, y, hy, ex, qb⟩ := kd_read p2 (hS.key 1) j.toNat x2[j.toNat] (List.getElem?_eq_getElem hj)
          have hy' := List.mem_of_getElem? (show S.b[j.toNat]? = some y from hy)
          obtain ⟨num, en, _⟩ := hS.b y hy'
          refine ⟨b2, x2, j, .ref bb, rfl, rfl, tp17 _ _ q213, at_of (j := j.toNat) (by omega) (by rw [← ex]; exact List.getElem?_eq_getElem hj), bb, _, 0, _, rfl, rfl, tp17 _ _ (Tp.same sH _ _ qb), rfl, ?_⟩
          have fo17 : H17 fo = some (.lst [V.str Ch.plus.str]) := dr.gr (ws := []) |>.ex _ _ fo16 (by simp [nfo])
          refine ⟨fo, _, _, rfl, rfl, fo17, (by show 1 < sizeLine; decide), num, fun _ => ⟨y, hy', en⟩, rfl, g17.put fo13 nfo, ?_⟩
          rw [upd_same, en]
          rfl
        · refine ⟨0, fun e => absurd (decide_eq_true (by rw [e]; rfl)) z, rfl, g16, ?_⟩
          rw [fo16]
          cases c with
          | plus => exact absurd (decide_eq_true rfl) z
          | neg => rfl
          | ite => rfl
          | bin w => rfl
      rintro _ H17 ⟨num, hnum, rfl, g17, fo17⟩
      clear g16 fo16
      have flen : (c.front num).length ≤ 2 := by cases c <;> simp [Ch.front]
      have plen : (c.ps b).length ≤ 3 := by cases c <;> simp [Ch.ps]
      have hlen : ((c.ps b).map fun b => V.str (kS b)).length = (c.ps b).length := List.length_map _
      have dg : ∀ {H' : Hp}, Gr [] f H13 H' → DGet H' dp (V.str c.str) (some (.ref pl)) := fun g => .inl ⟨_, Sum.inr c.str, .inl (g.ex _ _ edp (by simp [ndp])), rfl, evl.symm⟩
      have pll : ∀ {H' : Hp}, Gr [] f H13 H' → H' pl = some (.lst ((c.ps b).map fun b => V.str (kS b))) := fun g => g.ex _ _ epl (by simp [npl])
      refine ⟨_, rfl, _, rfl, dp, .ref pl, rfl, dg g17, pl, _, rfl, SqL.of (pll g17), for_enum (K := K) (a := pl) (xs := (c.ps b).map fun b => V.str (kS b)) (fun i σ' H' => ∃ (left : Int) (vs : List V) (os : List (Option Pg)) (y1 y2 y3 : Option V), σ' = [some (V.ref f), some (.ref t), some (.ref ka), some (.str (kS b)), some (.int room), some (.int down), some (.ref D6), some (.ref dt), some (.ref dm), some (.ref dp), some (.str c.str), some (.int left), some (.ref fo), y1, y2, y3, none, none] ∧
          Gr [] f H13 H' ∧ H' fo = some (.lst (c.front num ++ vs)) ∧ OAts K H' vs os ∧ os.length = i ∧ Got S ks (c.ps b) os left room ∧ ((c.ps b).length : Int) - i ≤ left) ?_ ?_ ?_ ?_⟩
      · exact ⟨room - 1, [], [], none, none, none, rfl, g17, by rw [List.append_nil]; exact fo17, .nil, rfl, Got.nil, by omega⟩
      · rintro i σ' H' ⟨left, vs, os, y1, y2, y3, rfl, g, _⟩
        exact SqL.of (pll g)
      · rintro i x T σ' H' hx ⟨left, vs, os, y1, y2, y3, rfl, g, fo', ha, hl, hgot, hleft⟩ hT
        obtain ⟨bk, hb, rfl⟩ : ∃ bk, (c.ps b)[i]? = some bk ∧ x = V.str (kS bk) := by
          rw [List.getElem?_map] at hx
          cases e : (c.ps b)[i]? with
          | none => rw [e] at hx; cases hx
          | some bk => rw [e] at hx; exact ⟨bk, rfl, (Option.some.inj hx).symm⟩
        have hi : i < (c.ps b).length := (List.getElem?_eq_some_iff.mp hb).1
        have sT : Same H' (upd H' T (.tup [.int (i : Nat), V.str (kS bk)])) := same_new hT
        have gT : Gr [] f H13 (upd H' T (.tup [.int (i : Nat), V.str (kS bk)])) := g.trans (Gr.new g.fl hT)
        refine ⟨T, _, rfl, .inl (.inl upd_same), rfl, _, _, rfl, _, [], rfl, rfl, ?_⟩
        have foT := sT _ _ fo'
        have haT := ha.keep (Tp.same sT)
        generalize upd H' T (.tup [.int (i : Nat), V.str (kS bk)]) = HT at gT foT haT
        have hsum := hgot.sum
        have hs0 : 0 ≤ ((os.map pszO).sum : Int) := by omega
        -- share
        refine ⟨_, rfl, _, rfl, _, rfl, _, rfl, dp, .ref pl, rfl, dg gT, pl, _, rfl, .inl (SqL.of (pll gT)), _, rfl, _, _, rfl, rfl, _, _, rfl, rfl, _, _, rfl, rfl, f, _, rfl, gT.fl, ?_, ?_, fun d Hd dd0 dd1 drd => ⟨_, _, rfl, rfl, ?_⟩⟩
        · rw [hlen]; omega
        · rw [hlen]; omega
        rw [hlen] at dd1
        have gd := gT.trans drd.gr
        have tpd : Tp K HT Hd := (drd.gr (ws := [])).tp gT.fl
        have fod : Hd fo = some (.lst (c.front num ++ vs)) := (drd.gr (ws := [])).ex _ _ foT (by simp [nfo])
        have had := haT.keep tpd
        have tp13d : Tp K H13 Hd := gd.tp fl13
        -- left, found
        refine ⟨_, rfl, _, rfl, _, _, rfl, rfl, ?_⟩
        refine ⟨_, rfl, .inl ⟨rfl, _, SqL.of fod⟩, _, rfl, _, rfl, _, rfl, _, rfl, _, rfl, _, rfl, _, _, rfl, rfl, ?_⟩
        refine ⟨f, t, ka, S, ks, bk, 1 + d, down - 1, rfl, gd.fl, ht13.keep tp13d, hS, tp13d _ _ hk13, hk3, by omega, by omega, by omega, by omega, fun u He ge hu => ?_⟩
        have gH := gd.trans ge
        have tpe : Tp K Hd He := ge.tp gd.fl
        have foe : He fo = some (.lst (c.front num ++ vs)) := ge.ex _ _ fod (by simp [nfo])
        have hae := had.keep tpe
        have lvs : vs.length = i := hae.len.trans hl
        have tpf : Tp K He (upd He fo (.lst (c.front num ++ vs ++ [u]))) := Tp.lst foe
        obtain ⟨o, hou, hoP⟩ : ∃ o : Option Pg, OAts K He [u] [o] ∧ ∀ p, o = some p → Ofs S ks p ∧ own ks p = bk ∧ (psz p : Int) ≤ 1 + d := by
          rcases hu with rfl | ⟨p, ap, op, wp, sp⟩
          · exact ⟨none, .non .nil, fun p z => nomatch z⟩
          · exact ⟨some p, .cons ap .nil, fun q z => by cases z; exact ⟨op, wp, sp⟩⟩
        refine ⟨fo, _, _, rfl, rfl, foe, by rw [List.length_append]; exact smallL (by omega), left - (1 + d), vs ++ [u], os ++ [o], _, _, _, rfl, gH.put fo13 nfo, by rw [upd_same, List.append_assoc], (OAts.snoc hou hae).keep tpf, by rw [List.length_append, hl]; rfl, hgot.snoc (by rw [hl]; exact hb) (by omega) hoP, by omega⟩
      · rintro σ' H' ⟨left, vs, os, y1, y2, y3, rfl, g, fo', ha, hl, hgot, hleft⟩
        rw [hlen] at hl hleft
        have hs0 : 0 ≤ ((os.map pszO).sum : Int) := by omega
        refine ⟨_, rfl, .none, c.frontD num ++ os.map encO, .non, .lst (SqL.of fo') (dpall_app (front_dp num c) ha.dps), by decide +kernel, sh_list _ fun d hd => ?_, _, rfl, ?_⟩
        · rcases List.mem_append.mp hd with z | z
          · exact front_lay num c d z
          · obtain ⟨o, ho, rfl⟩ := List.mem_map.mp z
            cases o with
            | none => exact ⟨rfl, Nat.zero_le _⟩
            | some p =>
              have h1 : pszO (some p) ≤ (os.map pszO).sum := le_sum (List.mem_map.mpr ⟨_, ho, rfl⟩)
              have h2 := depth_enc' p
              have h3 := dep_le p
              have h4 := hgot.sum
              have h5 : pszO (some p) = psz p := rfl
              exact ⟨lay_enc' p, by show (enc p).depth ≤ 60; omega⟩
        · show if (!((c.frontD num ++ os.map encO).any fun z => PyData.eqv z .none)) = true then _ else _
          rw [List.any_append, front_any, anyO, Bool.false_or]
          cases hm : os.any Option.isNone with
          | true => exact iteF ⟨_, _, _, _, _, _, _, _, _, _, _, rfl, g⟩
          | false =>
            refine iteT ?_
            obtain ⟨ps, rfl, hps⟩ := ha.all hm
            rw [List.length_map] at hl
            obtain ⟨m1, m2, m3⟩ := hgot.map hl
            refine ⟨_, rfl, fo, _, rfl, .inl ⟨SqL.of fo', fun tq htq => ?_⟩⟩
            have st : Same H' (upd H' tq (.tup (c.front num ++ vs))) := same_new htq
            obtain ⟨p, ap, wp, op, sp⟩ := Ch.mkO (num := num) c (tel_fits hct) hcc (hps.keep (Tp.same st)) m1 hnum m2 upd_same
            exact q _ _ (g13.trans (g.trans (Gr.new g.fl htq))) (.inr ⟨p, ap, wp, op, by omega⟩)
    · intro H14 g14
      exact ⟨_, _, _, _, _, _, _, _, _, _, _, rfl, g14⟩
  rintro _ H14 ⟨z6, z7, z9, z10, z11, z12, z13, z14, z15, z16, z17, rfl, g14⟩
  have gH := g13.trans g14
  have edm14 := g14.ex _ _ edm (by simp [ndm])
  refine ⟨_, rfl, dm, ls, rfl, .inl (SqL.of edm14), _, _, rfl, rfl, _, rfl, ite2 (fun c => ?_) (fun c => q _ _ gH (.inl rfl))⟩
  have c' : ((ls.length : Nat) : Int) > 0 := of_decide_eq_true c
  refine ⟨_, rfl, _, rfl, _, rfl, dm, ls, rfl, .inl (SqL.of edm14), f, _, rfl, g14.fl, c', by omega, fun j H15 j0 j1 dr => ?_⟩
  have hj : j.toNat < ls.length := by omega
  obtain ⟨p, ap, op, wp, sp⟩ := hls ls[j.toNat] (List.getElem_mem hj)
  have g15 := g14.trans dr.gr
  exact ⟨dm, ls, j, ls[j.toNat], rfl, rfl, SqL.of (g15.ex _ _ edm (by simp [ndm])), at_of (j := j.toNat) (by omega) (List.getElem?_eq_getElem hj), q _ _ (g13.trans g15) (.inr ⟨p, ap.keep (g15.tp fl13), op, wp, by rw [sp]; omega⟩)⟩
end
end Lm

set_option Elab.async false
set_option linter.all false
set_option maxRecDepth 100000
set_option maxHeartbeats 2000000
namespace Lm
open PySem PySem.Spec PyProof.Rows L2 LmR
def optD : Option Int → PyData
  | none => .none
  | some i => .int i
theorem opt_dp {K : PySem.W.Frag} {H : Hp} (o : Option Int) : Dp K H (optI o) (optD o) := by
  cases o with
  | none => exact .non
  | some i => exact .int i
theorem opt_flat (o : Option Int) : flat (optD o) = true := by cases o <;> rfl
theorem opt_sz (o : Option Int) : dsz (.tuple [optD o]) ≤ 90000 := by cases o <;> exact Nat.le_of_ble_eq_true rfl
theorem opt_fd {K : PySem.W.Frag} {H : Hp} {t : Addr} (o : Option Int) (h : SqT K H t [optI o]) : Fd K H (.ref t) (.tuple [optD o]) :=
  ⟨by show (flat (optD o) && true) = true; rw [opt_flat]; rfl, .tup h (.cons (opt_dp o) .nil)⟩
section
variable {P : Program} {w : World} {K : PySem.W.Frag} {mg : Str → Option Value} {base : Heap}
theorem ok_l_of_stock (B : Bt mg) (C_l_draw : Cal P w K mg base 1 "_law_draw" ["_law_flow_here", "_law_many"] (spDraw)) (D : DefAt K mg "_law_of_stock" s_l_of_stock ["_law_flow_here", "_law_shop", "_law_kinds_here", "_law_kind", "_law_room", "_law_down"]) : ∀ n : Nat, Cal P w K mg base (n + 1) "_law_of_stock" ["_law_flow_here", "_law_shop", "_law_kinds_here", "_law_kind", "_law_room", "_law_down"] (spOS K n)
  | 0 => cal_no D fun vs H Q E h => by
    obtain ⟨f, t, ka, S, ks, b, room, down, _, _, _, _, _, _, _, _, h1, h2, _⟩ := h
    omega
  | n + 1 => ok_l_of_stock1 B C_l_draw (ok_l_of_stock B C_l_draw D n) D
end
end Lm

set_option Elab.async false
set_option linter.all false
set_option maxRecDepth 100000
set_option maxHeartbeats 4000000
namespace Lm
open PySem PySem.Spec PyProof.Rows L2 LmR
def toldStock : PyData := .tuple [.tuple [.tuple [.int 0, .int 1], .tuple [.int 1, .int 1]], .tuple [.tuple [.int 1, .int 1], .tuple [.int (-1), .int 1]], .tuple [.tuple [.str "least", .int 1], .tuple [.str "most", .int 1], .tuple [.str "atmost", .int 1], .tuple [.str "if", .int 1]]]
structure StockG (K : PySem.W.Frag) (mg : Str → Option Value) (a : Addr) : Prop where
  g : mg "STOCK" = some (.ref a)
  t : ∀ H, Dp K H (.ref a) toldStock
theorem told_flat : flat toldStock = true := by decide +kernel
def tS : Stk := ⟨[(.int 0, 1), (.int 1, 1)], [(.int 1, 1), (.int (-1), 1)], [(.str "least", 1), (.str "most", 1), (.str "atmost", 1), (.str "if", 1)]⟩
theorem tS_D : tS.D = toldStock := rfl
theorem tS_ok : tS.Ok := by
  refine ⟨fun x hx => ?_, fun x hx => ?_, fun x hx => ?_, by decide, by decide, by decide, fun n x hx => ?_⟩
  · simp only [tS, List.mem_cons, List.not_mem_nil, or_false] at hx
    rcases hx with rfl | rfl
    · exact ⟨0, rfl, by decide, by decide⟩
    · exact ⟨1, rfl, by decide, by decide⟩
  · simp only [tS, List.mem_cons, List.not_mem_nil, or_false] at hx
    rcases hx with rfl | rfl
    · exact ⟨1, rfl, by decide, by decide⟩
    · exact ⟨-1, rfl, by decide, by decide⟩
  · simp only [tS, List.mem_cons, List.not_mem_nil, or_false] at hx
    rcases hx with rfl | rfl | rfl | rfl
    · exact ⟨_, rfl, by simp [stockWs]⟩
    · exact ⟨_, rfl, by simp [stockWs]⟩
    · exact ⟨_, rfl, by simp [stockWs]⟩
    · exact ⟨_, rfl, by simp [stockWs]⟩
  · match n, hx with
    | 0, hx =>
      simp only [tS, Stk.part, List.mem_cons, List.not_mem_nil, or_false] at hx
      rcases hx with rfl | rfl <;> exact ⟨by decide, by decide⟩
    | 1, hx =>
      simp only [tS, Stk.part, List.mem_cons, List.not_mem_nil, or_false] at hx
      rcases hx with rfl | rfl <;> exact ⟨by decide, by decide⟩
    | n + 2, hx =>
      simp only [tS, Stk.part, List.mem_cons, List.not_mem_nil, or_false] at hx
      rcases hx with rfl | rfl | rfl | rfl <;> exact ⟨by decide, by decide⟩
theorem ex_seq {K : PySem.W.Frag} {H H' : Hp} {f a : Addr} {xs : List V} (hf : H f = none) (ex : Ex [f] H H') (h : SqL K H a xs) : SqL K H' a xs := by
  rcases h with (h | ⟨o, h⟩) | h
  · exact .inl (.inl (ex _ _ h (by simp [ne_of_none h hf])))
  · exact .inl (.inr ⟨o, ex _ _ h (by simp [ne_of_none h hf])⟩)
  · exact .inr h
/-- pairs of keys, as a stock's part -/
def unK : PyData → V
  | .int i => .int i
  | .str s => .str s
  | _ => .non
def unP (ps : List (PyData × Int)) : List (V × Int) := ps.map fun p => (unK p.1, p.2)
theorem unP_int : ∀ {ps : List (PyData × Int)} {ns : List Int}, ps.map (·.1) = ns.map PyData.int → pdat ps = kd (unP ps) ∧ ∀ x ∈ unP ps, ∃ i ∈ ns, x.1 = V.int i
  | [], _, _ => ⟨rfl, fun x hx => by cases hx⟩
  | p :: ps, [], h => by cases h
  | p :: ps, n :: ns, h => by
    obtain ⟨pd, pw⟩ := p
    injection h with h1 h2
    have h1' : pd = .int n := h1
    subst h1'
    obtain ⟨a, b⟩ := unP_int h2
    refine ⟨?_, fun x hx => ?_⟩
    · show PyData.tuple [.int n, .int pw] :: pdat ps = PyData.tuple [.int n, .int pw] :: kd (unP ps)
      rw [a]
    · rcases List.mem_cons.mp hx with rfl | hx
      · exact ⟨n, List.mem_cons_self, rfl⟩
      · obtain ⟨i, hi, e⟩ := b x hx
        exact ⟨i, List.mem_cons_of_mem _ hi, e⟩
theorem unP_str : ∀ {ps : List (PyData × Int)} {ns : List Str}, ps.map (·.1) = ns.map PyData.str → pdat ps = kd (unP ps) ∧ ∀ x ∈ unP ps, ∃ i ∈ ns, x.1 = V.str i
  | [], _, _ => ⟨rfl, fun x hx => by cases hx⟩
  | p :: ps, [], h => by cases h
  | p :: ps, n :: ns, h => by
    obtain ⟨pd, pw⟩ := p
    injection h with h1 h2
    have h1' : pd = .str n := h1
    subst h1'
    obtain ⟨a, b⟩ := unP_str h2
    refine ⟨?_, fun x hx => ?_⟩
    · show PyData.tuple [.str n, .int pw] :: pdat ps = PyData.tuple [.str n, .int pw] :: kd (unP ps)
      rw [a]
    · rcases List.mem_cons.mp hx with rfl | hx
      · exact ⟨n, List.mem_cons_self, rfl⟩
      · obtain ⟨i, hi, e⟩ := b x hx
        exact ⟨i, List.mem_cons_of_mem _ hi, e⟩
theorem unP_w {ps : List (PyData × Int)} (h : ∀ p ∈ ps, 1 ≤ p.2 ∧ p.2 ≤ 9) : ∀ x ∈ unP ps, 1 ≤ x.2 ∧ x.2 ≤ 9 := fun x hx => by
  obtain ⟨p, hp, rfl⟩ := List.mem_map.mp hx
  exact h p hp
theorem unP_len (ps : List (PyData × Int)) : (unP ps).length = ps.length := List.length_map _
theorem stk_of {ps1 ps2 ps3 : List (PyData × Int)} (h : StkOk ps1 ps2 ps3) : ∃ S : Stk, stkD ps1 ps2 ps3 = S.D ∧ S.Ok := by
  obtain ⟨n1, e1, l1, b1⟩ := h.k1
  obtain ⟨n2, e2, l2, b2⟩ := h.k2
  obtain ⟨n3, e3, l3, b3⟩ := h.k3
  have f1 := congrArg List.length e1
  have f2 := congrArg List.length e2
  have f3 := congrArg List.length e3
  rw [List.length_map, List.length_map] at f1 f2 f3
  refine ⟨⟨unP ps1, unP ps2, unP ps3⟩, ?_, ?_⟩
  · show PyData.tuple [.tuple (pdat ps1), .tuple (pdat ps2), .tuple (pdat ps3)] = PyData.tuple [.tuple (kd (unP ps1)), .tuple (kd (unP ps2)), .tuple (kd (unP ps3))]
    rw [(unP_int e1).1, (unP_int e2).1, (unP_str e3).1]
  · refine ⟨fun x hx => ?_, fun x hx => ?_, fun x hx => ?_, ?_, ?_, ?_, fun n x hx => ?_⟩
    · obtain ⟨i, hi, e⟩ := (unP_int e1).2 x hx
      exact ⟨i, e, b1 i hi⟩
    · obtain ⟨i, hi, e⟩ := (unP_int e2).2 x hx
      exact ⟨i, e, b2 i hi⟩
    · obtain ⟨i, hi, e⟩ := (unP_str e3).2 x hx
      exact ⟨i, e, b3 i hi⟩
    · show (unP ps1).length ≤ 10
      rw [unP_len]; omega
    · show (unP ps2).length ≤ 10
      rw [unP_len]; omega
    · show (unP ps3).length ≤ 10
      rw [unP_len]; omega
    · match n, hx with
      | 0, hx => exact unP_w h.w1 x hx
      | 1, hx => exact unP_w h.w2 x hx
      | n + 2, hx => exact unP_w h.w3 x hx
/-- a program of at most 24 knots -/
def Pg24 (K : PySem.W.Frag) (H : Hp) (v : V) : Prop := ∃ p, At K H v p ∧ psz p ≤ 24
theorem Pg24.keep {K : PySem.W.Frag} {H H' : Hp} {v : V} (h : Pg24 K H v) (t : Tp K H H') : Pg24 K H' v := by
  obtain ⟨p, a, z⟩ := h
  exact ⟨p, a.keep t, z⟩
theorem optI_ne (o : Option Int) : decide (optI o = optI o) = true := decide_eq_true rfl
section
variable {P : Program} {w : World} {K : PySem.W.Frag} {mg : Str → Option Value} {base : Heap}
end
end Lm

set_option Elab.async false
set_option linter.all false
set_option maxRecDepth 100000
set_option maxHeartbeats 2000000
namespace Lm
open PySem PySem.Spec PyProof.Rows L2 LmR
/-- a knot's weight and rank -/
def stq (S : Stk) (q : Pg) : Int × (Int × Int) := match stnd S q with
  | some (x, y, l) => (l, ((x : Nat) : Int), ((y : Nat) : Int))
  | none => (0, 0, 0)
theorem stq_some {S : Stk} {q : Pg} {x y : Nat} {l : Int} (h : stnd S q = some (x, y, l)) : stq S q = (l, ((x : Nat) : Int), ((y : Nat) : Int)) := by unfold stq; rw [h]
/-- a program's weight and ranks -/
def ordP (S : Stk) (p : Pg) : Int × List (Int × Int) := (((kn p).map fun q => (stq S q).1).sum, (kn p).map fun q => (stq S q).2)
/-- of the stock -/
def OfS (S : Stk) (p : Pg) : Prop := ∀ q ∈ kn p, stnd S q ≠ none
abbrev ltO (a b : Int × List (Int × Int)) : Bool := PySem.W.DatumOrd.lt a b
def StsAt (K : PySem.W.Frag) (H : Hp) (S : Stk) (ws : List V) (ps : List Pg) : Prop := ws.length = ps.length ∧ ∀ (j : Nat) (u : V) (q : Pg), ws[j]? = some u → ps[j]? = some q → ∃ t t2 : Addr, u = .ref t ∧ SqT K H t [.ref t2, .int (stq S q).1] ∧ SqT K H t2 [.int (stq S q).2.1, .int (stq S q).2.2]
theorem StsAt.keep {K : PySem.W.Frag} {H H' : Hp} {S : Stk} {ws : List V} {ps : List Pg} (h : StsAt K H S ws ps) (t : Tp K H H') : StsAt K H' S ws ps := ⟨h.1, fun j u q h1 h2 => by
  obtain ⟨a, b, e, q1, q2⟩ := h.2 j u q h1 h2
  exact ⟨a, b, e, t _ _ q1, t _ _ q2⟩⟩
theorem StsAt.snoc {K : PySem.W.Frag} {H : Hp} {S : Stk} {ws : List V} {ps : List Pg} {u : V} {q : Pg} (h : StsAt K H S ws ps) (hu : ∃ t t2 : Addr, u = .ref t ∧ SqT K H t [.ref t2, .int (stq S q).1] ∧ SqT K H t2 [.int (stq S q).2.1, .int (stq S q).2.2]) : StsAt K H S (ws ++ [u]) (ps ++ [q]) := by
  refine ⟨by rw [List.length_append, List.length_append, h.1]; rfl, fun j u' q' h1 h2 => ?_⟩
  by_cases c : j < ws.length
  · rw [List.getElem?_append_left c] at h1
    rw [List.getElem?_append_left (by rw [← h.1]; exact c)] at h2
    exact h.2 j u' q' h1 h2
  · rw [List.getElem?_append_right (Nat.le_of_not_lt c)] at h1
    rw [List.getElem?_append_right (by rw [← h.1]; exact Nat.le_of_not_lt c)] at h2
    rw [← h.1] at h2
    have j0 : j - ws.length = 0 := by
      have := (List.getElem?_eq_some_iff.mp h1).1
      simpa using this
    rw [j0] at h1 h2
    have e1 : u = u' := Option.some.inj h1
    have e2 : q = q' := Option.some.inj h2
    rw [← e1, ← e2]
    exact hu
section
variable {P : Program} {w : World} {K : PySem.W.Frag} {mg : Str → Option Value} {base : Heap}
abbrev s_order_of : Stmt := topS 12
theorem sc_order_of : FnScope ["program", "stock", "standings", "knot", "rank", "load"] ["program", "stock"] (defScope s_order_of) := ⟨rfl, rfl, rfl, by decide +kernel, rfl, by decide +kernel, by decide +kernel⟩
def spOrd (K : PySem.W.Frag) : Sp := fun vs H Q _ => ∃ (v : V) (p : Pg) (t : Addr) (S : Stk), vs = [v, .ref t] ∧ At K H v p ∧ psz p ≤ 1000 ∧ Fd K H (.ref t) S.D ∧ S.Ok ∧ OfS S p ∧ ∀ (u : V) (H' : Hp), Same H H' → Dp K H' u (PySem.W.Datum.toD (ordP S p)) → Q u H'
theorem ok_order_of (B : Bt mg) (C_knots : Cal P w K mg base 3 "knots" ["program"] (spKnots K)) (C_standing_of : Cal P w K mg base 2 "standing_of" ["knot", "stock"] (spStand K)) (D : DefAt K mg "order_of" s_order_of ["program", "stock"]) : Cal P w K mg base 4 "order_of" ["program", "stock"] (spOrd K) := by
  refine cal_of D sc_order_of (fun vs H Q E h => ?_) (fun f cdv A outer s H vs Q E hr h => ?_)
  · obtain ⟨v, p, t, S, rfl, _⟩ := h
    rfl
  obtain ⟨v, p, t, S, rfl, hv, hz, ht, hS, hO, q⟩ := h
  have C_standing_of := C_standing_of.mono (k := 3) (by decide)
  have hr' : Room 3 _ := hr
  refine ⟨_, (pss_cons (ps_setLc (i := 2) (own := [("knot", 3)]) (g := gName 3) rfl sc_order_of.nd rfl rfl (sw_true rfl rfl rfl (by decide +kernel)) (pi_list (pe_cal C_knots hr' (by rfl) (pa_cons (pv 0) pa_nil))) (blkOk_by (own := [("knot", 3)]) (N := ["program", "stock", "standings", "knot", "rank", "load"]) (sc := defScope s_order_of) (by decide +kernel)) (fun _ _ _ _ _ => (pg_name (i := 3) sc_order_of.nd rfl (.inl rfl))) (fun _ _ _ _ _ => pts_nil) (fun _ _ _ _ _ => (pe_cal C_standing_of hr' (by rfl) (pa_cons (pv 3) (pa_cons (pv 1) pa_nil)))))
      (pss_one (ps_ret (pe_tup (pa_cons (pe_callB (cr_sum rfl) (by rfl) B.sum (by decide +kernel) (pa_cons (pe_lc (own := [("rank", 4), ("load", 5)]) (g := gTup K 2 (gCons (gName 4) (gCons (gName 5) gNil))) rfl sc_order_of.nd (pi_list (pv 2)) (blkOk_by (own := [("rank", 4), ("load", 5)]) (N := ["program", "stock", "standings", "knot", "rank", "load"]) (sc := defScope s_order_of) (by decide +kernel)) (fun _ _ _ _ _ => (pg_tupK (K := K) rfl rfl (pgs_cons (pg_name (i := 4) sc_order_of.nd rfl (.inl rfl)) (pgs_cons (pg_name (i := 5) sc_order_of.nd rfl (.inl rfl)) pgs_nil)))) (fun _ _ _ _ _ => pts_nil) (fun _ _ _ _ _ => (pv 5))) pa_nil)) (pa_cons (pe_lc (own := [("rank", 4), ("load", 5)]) (g := gTup K 2 (gCons (gName 4) (gCons (gName 5) gNil))) rfl sc_order_of.nd (pi_list (pv 2)) (blkOk_by (own := [("rank", 4), ("load", 5)]) (N := ["program", "stock", "standings", "knot", "rank", "load"]) (sc := defScope s_order_of) (by decide +kernel)) (fun _ _ _ _ _ => (pg_tupK (K := K) rfl rfl (pgs_cons (pg_name (i := 4) sc_order_of.nd rfl (.inl rfl)) (pgs_cons (pg_name (i := 5) sc_order_of.nd rfl (.inl rfl)) pgs_nil)))) (fun _ _ _ _ _ => pts_nil) (fun _ _ _ _ _ => (pv 4))) pa_nil)))))), ?_⟩
  refine ⟨_, rfl, v, p, rfl, hv, by omega, fun lk us H1 s1 lk0 hlk hus => ?_⟩
  have ul : us.length = (kn p).length := hus.len
  have kz : (kn p).length ≤ 1000 := by rw [kn_len]; exact hz
  refine ⟨lk, rfl, ⟨_, SqL.of hlk⟩, fun D hD => lc_list (K := K) (a := lk) (xs := us) (fun j H' => Same H1 H' ∧ ∃ ws, H' D = some (.lst ws) ∧ StsAt K H' S ws ((kn p).take j)) ?_ ?_ ?_ ?_⟩
  · exact ⟨same_new hD, [], upd_same, rfl, fun j u o h => by simp at h⟩
  · rintro j H' _ ⟨s', _⟩
    exact SqL.of (s' _ _ hlk)
  · rintro j x H' hx ⟨s', ws, hD', hws⟩
    obtain ⟨r, hr1, har⟩ := (hus.keep (Tp.same s')).get j x hx
    have jl : j < us.length := (List.getElem?_eq_some_iff.mp hx).1
    refine ⟨rfl, _, rfl, _, rfl, x, r, t, S, rfl, har, ht.keep (Tp.same (s1.trans s')), hS, fun u H2 s2 hu => ?_⟩
    have hD2 := s2 _ _ hD'
    have t3 : Tp K H2 (upd H2 D (.lst (ws ++ [u]))) := Tp.lst hD2
    refine ⟨ws, hD2, by rw [hws.1, List.length_take]; exact smallL (by omega), fun b o z => ?_, ws ++ [u], upd_same, ?_⟩
    · rw [upd_ne (ne_of_none z hD)]
      exact s2 _ _ (s' _ _ z)
    · rw [List.take_add_one, hr1]
      refine StsAt.snoc ((hws.keep (Tp.same s2)).keep t3) ?_
      cases est : stnd S r with
      | none => exact absurd est (hO r (List.mem_of_getElem? hr1))
      | some z =>
        obtain ⟨x', y', l⟩ := z
        rw [est] at hu
        obtain ⟨t1, t2, rfl, q1, q2⟩ := hu
        rw [stq_some est]
        exact ⟨t1, t2, rfl, t3 _ _ q1, t3 _ _ q2⟩
  rintro H2 ⟨s2, ws, hD2, hws⟩
  rw [ul, List.take_length] at hws
  have s02 := s1.trans s2
  have each : ∀ (j : Nat) (x : V) (H' : Hp), Same H2 H' → ws[j]? = some x → ∃ (b t2 : Addr) (r : Pg), (kn p)[j]? = some r ∧ x = .ref b ∧ SqT K H' b [.ref t2, .int (stq S r).1] ∧ SqT K H' t2 [.int (stq S r).2.1, .int (stq S r).2.2] := fun j x H' s' hx => by
    have jl : j < (kn p).length := by rw [← hws.1]; exact (List.getElem?_eq_some_iff.mp hx).1
    obtain ⟨a, b, e, q1, q2⟩ := (hws.keep (Tp.same s')).2 j x (kn p)[j] hx (List.getElem?_eq_getElem jl)
    exact ⟨a, b, _, List.getElem?_eq_getElem jl, e, q1, q2⟩
  refine ⟨_, rfl, D, rfl, ⟨_, SqL.of hD2⟩, fun D2 hDD => lc_list (K := K) (a := D) (xs := ws) (fun j H' => Same H2 H' ∧ H' D2 = some (.lst ((((kn p).take j).map fun q => (stq S q).1).map V.int))) ?_ ?_ ?_ ?_⟩
  · exact ⟨same_new hDD, upd_same⟩
  · rintro j H' _ ⟨s', _⟩
    exact SqL.of (s' _ _ hD2)
  · rintro j x H' hx ⟨s', hD'⟩
    have jl : j < ws.length := (List.getElem?_eq_some_iff.mp hx).1
    obtain ⟨b, t2, r, er, rfl, qb, _⟩ := each j x H' s' hx
    refine ⟨b, _, rfl, qb, rfl, _, _, rfl, _, _, rfl, rfl, rfl, _, rfl, _, hD', by rw [List.length_map, List.length_map, List.length_take]; exact smallL (by omega), fun b o z => ?_, ?_⟩
    · rw [upd_ne (ne_of_none z hDD)]
      exact s' _ _ z
    · rw [upd_same, List.take_add_one, er, List.map_append, List.map_append]
      rfl
  rintro H3 ⟨s3, hD3⟩
  rw [hws.1, List.take_length] at hD3
  refine ⟨D2, _, rfl, SqL.of hD3, ?_⟩
  refine ⟨_, rfl, D, rfl, ⟨_, SqL.of (s3 _ _ hD2)⟩, fun D3 hD3' => lc_list (K := K) (a := D) (xs := ws) (fun j H' => Same H3 H' ∧ ∃ rs, H' D3 = some (.lst rs) ∧ rs.length = ((kn p).take j).length ∧ DpAll K H' rs (((kn p).take j).map fun q => PySem.W.Datum.toD (stq S q).2)) ?_ ?_ ?_ ?_⟩
  · exact ⟨same_new hD3', [], upd_same, rfl, .nil⟩
  · rintro j H' _ ⟨s', _⟩
    exact SqL.of (s' _ _ (s3 _ _ hD2))
  · rintro j x H' hx ⟨s', rs, hD', hrl, hrs⟩
    have jl : j < ws.length := (List.getElem?_eq_some_iff.mp hx).1
    obtain ⟨b, t2, r, er, rfl, qb, q2⟩ := each j x H' (s3.trans s') hx
    have t3 : Tp K H' (upd H' D3 (.lst (rs ++ [.ref t2]))) := Tp.lst hD'
    refine ⟨b, _, rfl, qb, rfl, _, _, rfl, _, _, rfl, rfl, rfl, _, rfl, _, hD', by rw [hrl, List.length_take]; exact smallL (by omega), fun b o z => ?_, rs ++ [.ref t2], upd_same, ?_, ?_⟩
    · rw [upd_ne (ne_of_none z hD3')]
      exact s' _ _ z
    · rw [List.take_add_one, er, List.length_append, List.length_append, hrl]
      rfl
    · rw [List.take_add_one, er, List.map_append]
      refine dpall_app (dps_keep t3 _ _ ?_ hrs) (.cons (.tup (t3 _ _ q2) (.cons (.int _) (.cons (.int _) .nil))) .nil)
      generalize (kn p).take j = l
      induction l with
      | nil => rfl
      | cons c l ih => exact ih
  rintro H4 ⟨s4, rs, hD4, _, hrs⟩
  rw [hws.1, List.take_length] at hrs
  refine ⟨(by show 2 ≤ sizeLine; decide), fun t2 ht2 => q _ _ (s02.trans (s3.trans (s4.trans (same_new ht2)))) ?_⟩
  have t5 : Tp K H4 (upd H4 t2 (.tup [.int ((kn p).map fun q => (stq S q).1).sum, .ref D3])) := Tp.new ht2
  refine .tup (.inl (.inl upd_same)) (.cons (.int _) (.cons (.lst (SqL.of (same_new ht2 _ _ hD4)) ?_) .nil))
  have fl : ∀ l : List Pg, flat.flats (l.map fun q => PySem.W.Datum.toD (stq S q).2) = true := fun l => by
    induction l with
    | nil => rfl
    | cons c l ih => exact ih
  have e : ((kn p).map fun q => (stq S q).2).map PySem.W.Datum.toD = (kn p).map fun q => PySem.W.Datum.toD (stq S q).2 := by rw [List.map_map]; rfl
  show DpAll _ _ rs (((kn p).map fun q => (stq S q).2).map PySem.W.Datum.toD)
  rw [e]
  exact dps_keep t5 _ _ (fl _) hrs
abbrev s_comes_first : Stmt := topS 11
theorem sc_comes_first : FnScope ["one", "other", "stock"] ["one", "other", "stock"] (defScope s_comes_first) := ⟨rfl, rfl, rfl, by decide +kernel, rfl, by decide +kernel, by decide +kernel⟩
def spCF (K : PySem.W.Frag) : Sp := fun vs H Q _ => ∃ (v u : V) (p r : Pg) (t : Addr) (S : Stk), vs = [v, u, .ref t] ∧ At K H v p ∧ psz p ≤ 1000 ∧ At K H u r ∧ psz r ≤ 1000 ∧ Fd K H (.ref t) S.D ∧ S.Ok ∧ OfS S p ∧ OfS S r ∧ ∀ H' : Hp, Same H H' → Q (.bl (ltO (ordP S p) (ordP S r))) H'
theorem ok_comes_first {aS : Addr} (C_order_of : Cal P w K mg base 4 "order_of" ["program", "stock"] (spOrd K)) (D : DefKw K mg "comes_first" s_comes_first ["one", "other", "stock"] 2 ["stock"] [.ref aS]) : CalKw P w K mg base 5 "comes_first" ["one", "other", "stock"] 2 ["stock"] [.ref aS] (spCF K) := by
  refine calkw_of D sc_comes_first (fun vs H Q E h => ?_) (fun f cdv A outer s H vs Q E hr h => ?_)
  · obtain ⟨v, u, p, r, t, S, rfl, _⟩ := h
    rfl
  have hu8 : (A.deeper (envOfC "comes_first" (defScope s_comes_first) s.heap.objs.size f cdv)).units + PySem.W.Datum.depth (Int × List (Int × Int)) < cLine := by
    have h1 := hr.un
    have h2 : PySem.W.Datum.depth (Int × List (Int × Int)) ≤ 10 := by decide
    omega
  obtain ⟨v, u, p, r, t, S, rfl, hv, hz, hu, hzu, ht, hS, hO, hOr, q⟩ := h
  have hr' : Room 4 _ := hr
  refine ⟨_, (pss_one (ps_ret (pe_cmpR (op_ltDat (α := Int × List (Int × Int)) hu8) (pe_cal C_order_of hr' (by rfl) (pa_cons (pv 0) (pa_cons (pv 2) pa_nil))) (pe_cal C_order_of hr' (by rfl) (pa_cons (pv 1) (pa_cons (pv 2) pa_nil))) (nomark _)))), ?_⟩
  refine ⟨_, rfl, _, rfl, v, p, t, S, rfl, hv, hz, ht, hS, hO, fun x1 H1 s1 d1 => ?_⟩
  refine ⟨_, rfl, _, rfl, u, r, t, S, rfl, hu.keep (Tp.same s1), hzu, ht.keep (Tp.same s1), hS, hOr, fun x2 H2 s2 d2 => ?_⟩
  exact ⟨_, _, dp_same s2 _ _ d1, d2, q _ (s1.trans s2)⟩
end
end Lm

set_option Elab.async false
set_option linter.all false
set_option maxRecDepth 100000
set_option maxHeartbeats 2000000
namespace Lm
open PySem PySem.Spec PyProof.Rows L2 LmR
theorem lookS_key {v : V} : ∀ {l : List (V × Int)} {z : Nat × Int}, lookS v l = some z → (l[z.1]?).map (·.1) = some v
  | [], z, h => by cases h
  | x :: l, z, h => by
    rw [lookS_cons] at h
    by_cases c : x.1 = v
    · rw [if_pos c] at h
      rw [← Option.some.inj h, ← c]
      rfl
    · rw [if_neg c] at h
      cases e : lookS v l with
      | none => rw [e] at h; cases h
      | some y =>
        rw [e] at h
        rw [← Option.some.inj h]
        show ((x :: l)[y.1 + 1]?).map (·.1) = some v
        rw [List.getElem?_cons_succ]
        exact lookS_key e
/-- a knot's head -/
def hdP : Pg → Nat × V
  | .inp k => (0, .int k)
  | p => (prt p + 1, keyP p)
theorem hdP_not {p : Pg} (h : ∀ k, p ≠ .inp k) : hdP p = (prt p + 1, keyP p) := by
  cases p with
  | inp k => exact absurd rfl (h k)
  | _ => rfl
theorem st_get {S : Stk} {p : Pg} (h : ∀ k, p ≠ .inp k) (hn : stnd S p ≠ none) : ∃ z : Nat × Int, lookS (keyP p) (S.part (prt p)) = some z ∧ (stq S p).2 = (((prt p + 1 : Nat) : Int), ((z.1 : Nat) : Int)) := by
  rw [stnd_not S p h] at hn
  cases e : lookS (keyP p) (S.part (prt p)) with
  | none => rw [e] at hn; exact absurd rfl hn
  | some z =>
    have e2 : stnd S p = some (prt p + 1, z.1, z.2) := by rw [stnd_not S p h, e]; rfl
    exact ⟨z, rfl, by rw [stq_some e2]⟩
theorem st_hd {S : Stk} {p r : Pg} (h1 : stnd S p ≠ none) (h2 : stnd S r ≠ none) (e : (stq S p).2 = (stq S r).2) : hdP p = hdP r := by
  by_cases cp : ∃ k, p = .inp k
  · obtain ⟨k, rfl⟩ := cp
    by_cases cr : ∃ k, r = .inp k
    · obtain ⟨k', rfl⟩ := cr
      have e' : (((0 : Nat) : Int), ((k : Nat) : Int)) = (((0 : Nat) : Int), ((k' : Nat) : Int)) := e
      injection e' with _ e'
      have : k = k' := by omega
      rw [this]
    · obtain ⟨z, _, ez⟩ := st_get (fun k e => cr ⟨k, e⟩) h2
      rw [ez] at e
      have e' : (((0 : Nat) : Int), ((k : Nat) : Int)) = (((prt r + 1 : Nat) : Int), ((z.1 : Nat) : Int)) := e
      injection e' with e' _
      omega
  · have hp : ∀ k, p ≠ .inp k := fun k e => cp ⟨k, e⟩
    obtain ⟨y, ky, ey⟩ := st_get hp h1
    by_cases cr : ∃ k, r = .inp k
    · obtain ⟨k', rfl⟩ := cr
      rw [ey] at e
      have e' : (((prt p + 1 : Nat) : Int), ((y.1 : Nat) : Int)) = (((0 : Nat) : Int), ((k' : Nat) : Int)) := e
      injection e' with e' _
      omega
    · have hr : ∀ k, r ≠ .inp k := fun k e => cr ⟨k, e⟩
      obtain ⟨z, kz, ez⟩ := st_get hr h2
      rw [ey, ez] at e
      injection e with e1 e2
      have e1' : prt p = prt r := by omega
      have e2' : y.1 = z.1 := by omega
      have k1 := lookS_key ky
      have k2 := lookS_key kz
      rw [e1', e2', k2] at k1
      rw [hdP_not hp, hdP_not hr, e1', ← Option.some.inj k1]
theorem Bw.str_inj {w u : Bw} (h : V.str w.str = V.str u.str) : w = u := by
  cases w <;> cases u <;> first | rfl | exact absurd h (by decide +kernel)
theorem trS_inj {w u : Bool} (h : V.str (trS w) = V.str (trS u)) : w = u := by
  cases w <;> cases u <;> first | rfl | exact absurd h (by decide +kernel)
/-- heads alike: the same but for the parts -/
def SameHd (p r : Pg) : Prop := match p with
    | .inp k => r = .inp k
    | .num c => r = .num c
    | .tr b => r = .tr b
    | .plus c _ => ∃ a, r = .plus c a
    | .bin w _ _ => ∃ a b, r = .bin w a b
    | .neg _ => ∃ a, r = .neg a
    | .ite _ _ _ => ∃ q a b, r = .ite q a b
theorem hd_same {p r : Pg} (h : hdP p = hdP r) : SameHd p r := by
  have h1 := congrArg Prod.fst h
  have h2 := congrArg Prod.snd h
  clear h
  cases p with
  | inp k => cases r with
    | inp k' =>
      have : V.int (k : Int) = V.int (k' : Int) := h2
      injection this with this
      have : k = k' := by omega
      rw [this]
      rfl
    | _ => exact absurd h1 (Nat.ne_of_beq_eq_false rfl)
  | num c => cases r with
    | num c' => have : V.int c = V.int c' := h2; injection this with this; rw [this]; rfl
    | _ => exact absurd h1 (Nat.ne_of_beq_eq_false rfl)
  | plus c a => cases r with
    | plus c' a' => have : V.int c = V.int c' := h2; injection this with this; rw [this]; exact ⟨a', rfl⟩
    | _ => exact absurd h1 (Nat.ne_of_beq_eq_false rfl)
  | tr b => cases r with
    | tr b' => rw [trS_inj (show V.str (trS b) = V.str (trS b') from h2)]; rfl
    | bin w x y => exact absurd (show V.str (trS b) = V.str w.str from h2) (by cases b <;> cases w <;> decide +kernel)
    | neg x => exact absurd (show V.str (trS b) = V.str "not" from h2) (by cases b <;> decide +kernel)
    | ite x y z => exact absurd (show V.str (trS b) = V.str "if" from h2) (by cases b <;> decide +kernel)
    | inp k => exact absurd h1 (Nat.ne_of_beq_eq_false rfl)
    | num k => exact absurd h1 (Nat.ne_of_beq_eq_false rfl)
    | plus k x => exact absurd h1 (Nat.ne_of_beq_eq_false rfl)
  | bin w x y => cases r with
    | bin w' x' y' => rw [Bw.str_inj (show V.str w.str = V.str w'.str from h2)]; exact ⟨x', y', rfl⟩
    | tr b => exact absurd (show V.str w.str = V.str (trS b) from h2) (by cases b <;> cases w <;> decide +kernel)
    | neg x => exact absurd (show V.str w.str = V.str "not" from h2) (by cases w <;> decide +kernel)
    | ite x y z => exact absurd (show V.str w.str = V.str "if" from h2) (by cases w <;> decide +kernel)
    | inp k => exact absurd h1 (Nat.ne_of_beq_eq_false rfl)
    | num k => exact absurd h1 (Nat.ne_of_beq_eq_false rfl)
    | plus k x => exact absurd h1 (Nat.ne_of_beq_eq_false rfl)
  | neg x => cases r with
    | neg x' => exact ⟨x', rfl⟩
    | tr b => exact absurd (show V.str "not" = V.str (trS b) from h2) (by cases b <;> decide +kernel)
    | bin w x y => exact absurd (show V.str "not" = V.str w.str from h2) (by cases w <;> decide +kernel)
    | ite x y z => exact absurd (show V.str "not" = V.str "if" from h2) (by decide +kernel)
    | inp k => exact absurd h1 (Nat.ne_of_beq_eq_false rfl)
    | num k => exact absurd h1 (Nat.ne_of_beq_eq_false rfl)
    | plus k x => exact absurd h1 (Nat.ne_of_beq_eq_false rfl)
  | ite x y z => cases r with
    | ite x' y' z' => exact ⟨x', y', z', rfl⟩
    | tr b => exact absurd (show V.str "if" = V.str (trS b) from h2) (by cases b <;> decide +kernel)
    | bin w x y => exact absurd (show V.str "if" = V.str w.str from h2) (by cases w <;> decide +kernel)
    | neg x => exact absurd (show V.str "if" = V.str "not" from h2) (by decide +kernel)
    | inp k => exact absurd h1 (Nat.ne_of_beq_eq_false rfl)
    | num k => exact absurd h1 (Nat.ne_of_beq_eq_false rfl)
    | plus k x => exact absurd h1 (Nat.ne_of_beq_eq_false rfl)
/-- the ranks of a program's knots tell it, whatever follows -/
theorem kn_inj {S : Stk} : ∀ (p r : Pg) (t t' : List (Int × Int)), OfS S p → OfS S r → ((kn p).map fun q => (stq S q).2) ++ t = ((kn r).map fun q => (stq S q).2) ++ t' → p = r ∧ t = t' := by
  intro p
  have top : ∀ (p r : Pg) (t t' : List (Int × Int)), OfS S p → OfS S r → ((kn p).map fun q => (stq S q).2) ++ t = ((kn r).map fun q => (stq S q).2) ++ t' → SameHd p r ∧ (((parts p).flatMap kn).map fun q => (stq S q).2) ++ t = (((parts r).flatMap kn).map fun q => (stq S q).2) ++ t' := fun p r t t' hp hr e => by
    have m1 : p ∈ kn p := by rw [kn_eq]; exact List.mem_cons_self
    have m2 : r ∈ kn r := by rw [kn_eq]; exact List.mem_cons_self
    rw [kn_eq p, kn_eq r, List.map_cons, List.map_cons, List.cons_append, List.cons_append] at e
    injection e with e1 e2
    exact ⟨hd_same (st_hd (hp p m1) (hr r m2) e1), e2⟩
  have sub : ∀ {p a : Pg}, a ∈ parts p → OfS S p → OfS S a := fun ha h q hq => h q (by rw [kn_eq]; exact List.mem_cons_of_mem _ (List.mem_flatMap.mpr ⟨_, ha, hq⟩))
  induction p with
  | inp k =>
    intro r t t' hp hr e
    obtain ⟨h, e⟩ := top _ r t t' hp hr e
    have h' : r = .inp k := h
    subst h'
    exact ⟨rfl, e⟩
  | num k =>
    intro r t t' hp hr e
    obtain ⟨h, e⟩ := top _ r t t' hp hr e
    have h' : r = .num k := h
    subst h'
    exact ⟨rfl, e⟩
  | tr k =>
    intro r t t' hp hr e
    obtain ⟨h, e⟩ := top _ r t t' hp hr e
    have h' : r = .tr k := h
    subst h'
    exact ⟨rfl, e⟩
  | plus c a ih =>
    intro r t t' hp hr e
    obtain ⟨h, e⟩ := top _ r t t' hp hr e
    obtain ⟨a', rfl⟩ : ∃ a', r = .plus c a' := h
    simp only [parts, List.flatMap_cons, List.flatMap_nil, List.append_nil] at e
    obtain ⟨e1, e2⟩ := ih a' t t' (sub (by simp [parts]) hp) (sub (by simp [parts]) hr) e
    exact ⟨by rw [e1], e2⟩
  | neg a ih =>
    intro r t t' hp hr e
    obtain ⟨h, e⟩ := top _ r t t' hp hr e
    obtain ⟨a', rfl⟩ : ∃ a', r = .neg a' := h
    simp only [parts, List.flatMap_cons, List.flatMap_nil, List.append_nil] at e
    obtain ⟨e1, e2⟩ := ih a' t t' (sub (by simp [parts]) hp) (sub (by simp [parts]) hr) e
    exact ⟨by rw [e1], e2⟩
  | bin w a b iha ihb =>
    intro r t t' hp hr e
    obtain ⟨h, e⟩ := top _ r t t' hp hr e
    obtain ⟨a', b', rfl⟩ : ∃ a' b', r = .bin w a' b' := h
    simp only [parts, List.flatMap_cons, List.flatMap_nil, List.append_nil, List.map_append, List.append_assoc] at e
    obtain ⟨e1, e2⟩ := iha a' _ _ (sub (by simp [parts]) hp) (sub (by simp [parts]) hr) e
    obtain ⟨e3, e4⟩ := ihb b' t t' (sub (by simp [parts]) hp) (sub (by simp [parts]) hr) e2
    exact ⟨by rw [e1, e3], e4⟩
  | ite q a b ihq iha ihb =>
    intro r t t' hp hr e
    obtain ⟨h, e⟩ := top _ r t t' hp hr e
    obtain ⟨q', a', b', rfl⟩ : ∃ q' a' b', r = .ite q' a' b' := h
    simp only [parts, List.flatMap_cons, List.flatMap_nil, List.append_nil, List.map_append, List.append_assoc] at e
    obtain ⟨e0, e⟩ := ihq q' _ _ (sub (by simp [parts]) hp) (sub (by simp [parts]) hr) e
    obtain ⟨e1, e2⟩ := iha a' _ _ (sub (by simp [parts]) hp) (sub (by simp [parts]) hr) e
    obtain ⟨e3, e4⟩ := ihb b' t t' (sub (by simp [parts]) hp) (sub (by simp [parts]) hr) e2
    exact ⟨by rw [e0, e1, e3], e4⟩
theorem ord_inj {S : Stk} {p r : Pg} (hp : OfS S p) (hr : OfS S r) (h : ordP S p = ordP S r) : p = r := by
  have h2 := congrArg Prod.snd h
  refine (kn_inj p r [] [] hp hr ?_).1
  rw [List.append_nil, List.append_nil]
  exact h2
theorem int_tot {a b : Int} (h : a ≠ b) : decide (a < b) = !decide (b < a) := by
  by_cases c : a < b
  · rw [decide_eq_true c, decide_eq_false (by omega)]; rfl
  · rw [decide_eq_false c, decide_eq_true (by omega)]; rfl
theorem pair_tot {a b : Int × Int} (h : a ≠ b) : PySem.W.DatumOrd.lt a b = !PySem.W.DatumOrd.lt b a := by
  obtain ⟨a1, a2⟩ := a
  obtain ⟨b1, b2⟩ := b
  show (if a1 = b1 then decide (a2 < b2) else decide (a1 < b1)) = !(if b1 = a1 then decide (b2 < a2) else decide (b1 < a1))
  by_cases c : a1 = b1
  · rw [if_pos c, if_pos c.symm]
    exact int_tot fun z => h (by rw [c, z])
  · rw [if_neg c, if_neg fun z => c z.symm]
    exact int_tot c
theorem list_tot : ∀ {a b : List (Int × Int)}, a ≠ b → PySem.W.listLt a b = !PySem.W.listLt b a
  | [], [], h => absurd rfl h
  | [], _ :: _, _ => rfl
  | _ :: _, [], _ => rfl
  | x :: xs, y :: ys, h => by
    show (if x = y then PySem.W.listLt xs ys else PySem.W.DatumOrd.lt x y) = !(if y = x then PySem.W.listLt ys xs else PySem.W.DatumOrd.lt y x)
    by_cases c : x = y
    · rw [if_pos c, if_pos c.symm]
      exact list_tot fun z => h (by rw [c, z])
    · rw [if_neg c, if_neg fun z => c z.symm]
      exact pair_tot c
/-- one of two unlike programs comes first -/
theorem ord_tot {S : Stk} {p r : Pg} (hp : OfS S p) (hr : OfS S r) (h : p ≠ r) : ltO (ordP S p) (ordP S r) = !ltO (ordP S r) (ordP S p) := by
  have hne : ordP S p ≠ ordP S r := fun z => h (ord_inj hp hr z)
  generalize ordP S p = a at hne
  generalize ordP S r = b at hne
  obtain ⟨a1, a2⟩ := a
  obtain ⟨b1, b2⟩ := b
  show (if a1 = b1 then PySem.W.listLt a2 b2 else decide (a1 < b1)) = !(if b1 = a1 then PySem.W.listLt b2 a2 else decide (b1 < a1))
  by_cases c : a1 = b1
  · rw [if_pos c, if_pos c.symm]
    exact list_tot fun z => hne (by rw [c, z])
  · rw [if_neg c, if_neg fun z => c z.symm]
    exact int_tot c
end Lm

set_option Elab.async false
set_option linter.all false
set_option maxRecDepth 100000
set_option maxHeartbeats 2000000
namespace Lm
open PySem PySem.Spec PyProof.Rows L2 LmR
/-- one knot q of the first gives way to new: the second -/
inductive Rp (q new : Pg) : Pg → Pg → Prop
  | here : Rp q new q new
  | plus {c : Int} {a a' : Pg} : Rp q new a a' → Rp q new (.plus c a) (.plus c a')
  | bin1 {w : Bw} {a a' b : Pg} : Rp q new a a' → Rp q new (.bin w a b) (.bin w a' b)
  | bin2 {w : Bw} {a b b' : Pg} : Rp q new b b' → Rp q new (.bin w a b) (.bin w a b')
  | neg {a a' : Pg} : Rp q new a a' → Rp q new (.neg a) (.neg a')
  | ite1 {p p' a b : Pg} : Rp q new p p' → Rp q new (.ite p a b) (.ite p' a b)
  | ite2 {p a a' b : Pg} : Rp q new a a' → Rp q new (.ite p a b) (.ite p a' b)
  | ite3 {p a b b' : Pg} : Rp q new b b' → Rp q new (.ite p a b) (.ite p a b')
theorem Rp.wk {q new p p' : Pg} {ks : List Bool} (h : Rp q new p p') (hn : Wk ks new) (ho : own ks new = own ks q) : Wk ks p → Wk ks p' ∧ own ks p' = own ks p := by
  induction h with
  | here => exact fun _ => ⟨hn, ho⟩
  | plus _ ih => exact fun ⟨h1, h2⟩ => ⟨⟨(ih h1).1, (ih h1).2.trans h2⟩, rfl⟩
  | bin1 _ ih => exact fun ⟨h1, h2, h3, h4⟩ => ⟨⟨(ih h1).1, h2, (ih h1).2.trans h3, h4⟩, rfl⟩
  | bin2 _ ih => exact fun ⟨h1, h2, h3, h4⟩ => ⟨⟨h1, (ih h2).1, h3, (ih h2).2.trans h4⟩, rfl⟩
  | neg _ ih => exact fun ⟨h1, h2⟩ => ⟨⟨(ih h1).1, (ih h1).2.trans h2⟩, rfl⟩
  | ite1 _ ih => exact fun ⟨h1, h2, h3, h4, h5⟩ => ⟨⟨(ih h1).1, h2, h3, (ih h1).2.trans h4, h5⟩, rfl⟩
  | ite2 _ ih => exact fun ⟨h1, h2, h3, h4, h5⟩ => ⟨⟨h1, (ih h2).1, h3, h4, h5.trans (ih h2).2.symm⟩, (ih h2).2⟩
  | ite3 _ ih => exact fun ⟨h1, h2, h3, h4, h5⟩ => ⟨⟨h1, h2, (ih h3).1, h4, (ih h3).2.trans h5⟩, rfl⟩
theorem Rp.sz {q new p p' : Pg} (h : Rp q new p p') (hn : psz new ≤ psz q) : psz p' ≤ psz p := by
  induction h with
  | here => exact hn
  | _ _ ih => simp only [psz]; omega
theorem ofS_eq {S : Stk} {p : Pg} : OfS S p ↔ stnd S p ≠ none ∧ ∀ a ∈ parts p, OfS S a := by
  refine ⟨fun h => ⟨h p (by rw [kn_eq]; exact List.mem_cons_self), fun a ha q hq => h q (by rw [kn_eq]; exact List.mem_cons_of_mem _ (List.mem_flatMap.mpr ⟨a, ha, hq⟩))⟩, fun h q hq => ?_⟩
  rw [kn_eq] at hq
  rcases List.mem_cons.mp hq with z | z
  · rw [z]; exact h.1
  · obtain ⟨a, ha, hq⟩ := List.mem_flatMap.mp z
    exact h.2 a ha q hq
theorem Rp.ofS {S : Stk} {q new p p' : Pg} (h : Rp q new p p') (hn : OfS S new) : OfS S p → OfS S p' := by
  induction h with
  | here => exact fun _ => hn
  | plus _ ih =>
    intro h
    obtain ⟨h1, h2⟩ := ofS_eq.mp h
    refine ofS_eq.mpr ⟨h1, fun a ha => ?_⟩
    simp only [parts, List.mem_cons, List.not_mem_nil, or_false] at ha h2
    subst ha
    exact ih (h2 _ rfl)
  | neg _ ih =>
    intro h
    obtain ⟨h1, h2⟩ := ofS_eq.mp h
    refine ofS_eq.mpr ⟨h1, fun a ha => ?_⟩
    simp only [parts, List.mem_cons, List.not_mem_nil, or_false] at ha h2
    subst ha
    exact ih (h2 _ rfl)
  | bin1 _ ih =>
    intro h
    obtain ⟨h1, h2⟩ := ofS_eq.mp h
    refine ofS_eq.mpr ⟨h1, fun a ha => ?_⟩
    simp only [parts, List.mem_cons, List.not_mem_nil, or_false] at ha h2
    rcases ha with rfl | rfl
    · exact ih (h2 _ (.inl rfl))
    · exact h2 _ (.inr rfl)
  | bin2 _ ih =>
    intro h
    obtain ⟨h1, h2⟩ := ofS_eq.mp h
    refine ofS_eq.mpr ⟨h1, fun a ha => ?_⟩
    simp only [parts, List.mem_cons, List.not_mem_nil, or_false] at ha h2
    rcases ha with rfl | rfl
    · exact h2 _ (.inl rfl)
    · exact ih (h2 _ (.inr rfl))
  | ite1 _ ih =>
    intro h
    obtain ⟨h1, h2⟩ := ofS_eq.mp h
    refine ofS_eq.mpr ⟨h1, fun a ha => ?_⟩
    simp only [parts, List.mem_cons, List.not_mem_nil, or_false] at ha h2
    rcases ha with rfl | rfl | rfl
    · exact ih (h2 _ (.inl rfl))
    · exact h2 _ (.inr (.inl rfl))
    · exact h2 _ (.inr (.inr rfl))
  | ite2 _ ih =>
    intro h
    obtain ⟨h1, h2⟩ := ofS_eq.mp h
    refine ofS_eq.mpr ⟨h1, fun a ha => ?_⟩
    simp only [parts, List.mem_cons, List.not_mem_nil, or_false] at ha h2
    rcases ha with rfl | rfl | rfl
    · exact h2 _ (.inl rfl)
    · exact ih (h2 _ (.inr (.inl rfl)))
    · exact h2 _ (.inr (.inr rfl))
  | ite3 _ ih =>
    intro h
    obtain ⟨h1, h2⟩ := ofS_eq.mp h
    refine ofS_eq.mpr ⟨h1, fun a ha => ?_⟩
    simp only [parts, List.mem_cons, List.not_mem_nil, or_false] at ha h2
    rcases ha with rfl | rfl | rfl
    · exact h2 _ (.inl rfl)
    · exact h2 _ (.inr (.inl rfl))
    · exact ih (h2 _ (.inr (.inr rfl)))
/-- what the walk makes of a program: c counts down, at 0 the knot gives way -/
def repP (new : Pg) : Pg → Int → Pg × Int
  | .plus k a, c => if c = 0 then (new, -1) else (.plus k (repP new a (c - 1)).1, (repP new a (c - 1)).2)
  | .neg a, c => if c = 0 then (new, -1) else (.neg (repP new a (c - 1)).1, (repP new a (c - 1)).2)
  | .bin w a b, c => if c = 0 then (new, -1) else
    (.bin w (repP new a (c - 1)).1 (repP new b (repP new a (c - 1)).2).1, (repP new b (repP new a (c - 1)).2).2)
  | .ite p a b, c => if c = 0 then (new, -1) else
    (.ite (repP new p (c - 1)).1 (repP new a (repP new p (c - 1)).2).1 (repP new b (repP new a (repP new p (c - 1)).2).2).1, (repP new b (repP new a (repP new p (c - 1)).2).2).2)
  | p, c => if c = 0 then (new, -1) else (p, c - 1)
theorem psz_pos' (p : Pg) : 1 ≤ psz p := by rw [psz_eq]; omega
/-- not met: below nought, or behind the program -/
theorem rep_no (new : Pg) : ∀ (p : Pg) (c : Int), c < 0 ∨ (psz p : Int) ≤ c → repP new p c = (p, c - psz p) := by
  intro p
  induction p with
  | inp k => intro c h; simp only [psz] at h; simp only [repP, psz]; rw [if_neg (by omega)]; rfl
  | num k => intro c h; simp only [psz] at h; simp only [repP, psz]; rw [if_neg (by omega)]; rfl
  | tr k => intro c h; simp only [psz] at h; simp only [repP, psz]; rw [if_neg (by omega)]; rfl
  | plus k a ih =>
    intro c h
    have := psz_pos' a
    simp only [psz] at h
    simp only [repP, psz]
    rw [if_neg (by omega), ih (c - 1) (by omega)]
    simp only [Prod.mk.injEq, true_and]
    omega
  | neg a ih =>
    intro c h
    have := psz_pos' a
    simp only [psz] at h
    simp only [repP, psz]
    rw [if_neg (by omega), ih (c - 1) (by omega)]
    simp only [Prod.mk.injEq, true_and]
    omega
  | bin w a b iha ihb =>
    intro c h
    have := psz_pos' a
    have := psz_pos' b
    simp only [psz] at h
    simp only [repP, psz]
    rw [if_neg (by omega), iha (c - 1) (by omega)]
    simp only
    rw [ihb _ (by omega)]
    simp only [Prod.mk.injEq, true_and]
    omega
  | ite p a b ihp iha ihb =>
    intro c h
    have := psz_pos' p
    have := psz_pos' a
    have := psz_pos' b
    simp only [psz] at h
    simp only [repP, psz]
    rw [if_neg (by omega), ihp (c - 1) (by omega)]
    simp only
    rw [iha _ (by omega)]
    simp only
    rw [ihb _ (by omega)]
    simp only [Prod.mk.injEq, true_and]
    omega
theorem get_tail {q : Pg} {l : List Pg} {x : Pg} {c : Int} (h1 : 1 ≤ c) (h : (x :: l)[c.toNat]? = some q) : l[(c - 1).toNat]? = some q := by
  obtain ⟨n, hn⟩ : ∃ n : Nat, c = n + 1 := ⟨(c - 1).toNat, by omega⟩
  subst hn
  rw [show ((n : Int) + 1).toNat = n + 1 by omega, List.getElem?_cons_succ] at h
  rw [show ((n : Int) + 1 - 1).toNat = n by omega]
  exact h
theorem get_left {q : Pg} {l r : List Pg} {c : Int} (h0 : 0 ≤ c) (h1 : c < l.length) (h : (l ++ r)[c.toNat]? = some q) : l[c.toNat]? = some q := by
  rw [List.getElem?_append_left (by omega)] at h
  exact h
theorem get_right {q : Pg} {l r : List Pg} {c : Int} (h1 : (l.length : Int) ≤ c) (h : (l ++ r)[c.toNat]? = some q) : r[(c - l.length).toNat]? = some q := by
  rw [List.getElem?_append_right (by omega)] at h
  rw [show (c - l.length).toNat = c.toNat - l.length by omega]
  exact h
/-- met: the knot at c gives way -/
theorem rep_yes (new : Pg) : ∀ (p : Pg) (c : Int), 0 ≤ c → c < psz p → (repP new p c).2 < 0 ∧ ∀ q, (kn p)[c.toNat]? = some q → Rp q new p (repP new p c).1 := by
  have zero : ∀ p : Pg, repP new p 0 = (new, -1) := fun p => by cases p <;> simp [repP]
  have first : ∀ p : Pg, (repP new p 0).2 < 0 ∧ ∀ q, (kn p)[(0 : Int).toNat]? = some q → Rp q new p (repP new p 0).1 := fun p => by
    rw [zero]
    refine ⟨by show (-1 : Int) < 0; omega, fun q hq => ?_⟩
    rw [kn_eq] at hq
    have : p = q := Option.some.inj hq
    subst this
    exact .here
  intro p
  induction p with
  | inp k => intro c h0 h1; simp only [psz] at h1; have : c = 0 := by omega
             subst this; exact first _
  | num k => intro c h0 h1; simp only [psz] at h1; have : c = 0 := by omega
             subst this; exact first _
  | tr k => intro c h0 h1; simp only [psz] at h1; have : c = 0 := by omega
            subst this; exact first _
  | plus k a ih =>
    intro c h0 h1
    by_cases z : c = 0
    · subst z; exact first _
    · simp only [psz] at h1
      simp only [repP]
      rw [if_neg z]
      obtain ⟨i1, i2⟩ := ih (c - 1) (by omega) (by omega)
      exact ⟨i1, fun q hq => .plus (i2 q (get_tail (by omega) hq))⟩
  | neg a ih =>
    intro c h0 h1
    by_cases z : c = 0
    · subst z; exact first _
    · simp only [psz] at h1
      simp only [repP]
      rw [if_neg z]
      obtain ⟨i1, i2⟩ := ih (c - 1) (by omega) (by omega)
      exact ⟨i1, fun q hq => .neg (i2 q (get_tail (by omega) hq))⟩
  | bin w a b iha ihb =>
    intro c h0 h1
    have la := kn_len a
    by_cases z : c = 0
    · subst z; exact first _
    · simp only [psz] at h1
      simp only [repP]
      rw [if_neg z]
      by_cases ca : c - 1 < psz a
      · obtain ⟨i1, i2⟩ := iha (c - 1) (by omega) ca
        rw [rep_no new b _ (.inl i1)]
        refine ⟨?_, fun q hq => .bin1 (i2 q (get_left (r := kn b) (by omega) (by omega) (get_tail (by omega) hq)))⟩
        show (repP new a (c - 1)).2 - psz b < 0
        omega
      · rw [rep_no new a _ (.inr (by omega))]
        simp only
        obtain ⟨i1, i2⟩ := ihb (c - 1 - psz a) (by omega) (by omega)
        refine ⟨i1, fun q hq => .bin2 (i2 q ?_)⟩
        have := get_right (l := kn a) (r := kn b) (by omega) (get_tail (by omega) hq)
        rw [la] at this
        exact this
  | ite p a b ihp iha ihb =>
    intro c h0 h1
    have lp := kn_len p
    have la := kn_len a
    by_cases z : c = 0
    · subst z; exact first _
    · simp only [psz] at h1
      simp only [repP]
      rw [if_neg z]
      by_cases cp : c - 1 < psz p
      · obtain ⟨i1, i2⟩ := ihp (c - 1) (by omega) cp
        rw [rep_no new a _ (.inl i1)]
        simp only
        rw [rep_no new b _ (.inl (by omega))]
        refine ⟨?_, fun q hq => .ite1 (i2 q (get_left (r := kn a ++ kn b) (by omega) (by omega) (get_tail (by omega) hq)))⟩
        show (repP new p (c - 1)).2 - psz a - psz b < 0
        omega
      · rw [rep_no new p _ (.inr (by omega))]
        simp only
        by_cases ca : c - 1 - psz p < psz a
        · obtain ⟨i1, i2⟩ := iha (c - 1 - psz p) (by omega) ca
          rw [rep_no new b _ (.inl i1)]
          refine ⟨?_, fun q hq => .ite2 (i2 q ?_)⟩
          · show (repP new a (c - 1 - psz p)).2 - psz b < 0
            omega
          · have := get_right (l := kn p) (r := kn a ++ kn b) (by omega) (get_tail (by omega) hq)
            rw [lp] at this
            exact get_left (by omega) (by omega) this
        · rw [rep_no new a _ (.inr (by omega))]
          simp only
          obtain ⟨i1, i2⟩ := ihb (c - 1 - psz p - psz a) (by omega) (by omega)
          refine ⟨i1, fun q hq => .ite3 (i2 q ?_)⟩
          have h3 := get_right (l := kn p) (r := kn a ++ kn b) (by omega) (get_tail (by omega) hq)
          rw [lp] at h3
          have h4 := get_right (l := kn a) (r := kn b) (by omega) h3
          rw [la] at h4
          exact h4
end Lm

set_option Elab.async false
set_option linter.all false
set_option maxRecDepth 100000
set_option maxHeartbeats 2000000
namespace Lm
open PySem PySem.Spec PyProof.Rows L2 LmR
theorem At.make2 {K : PySem.W.Frag} {H : Hp} {a : Addr} {vs : List V} {p : Pg} (h : SqT K H a (front p ++ vs)) (b : Ats K H vs (parts p)) : At K H (.ref a) p := by
  cases p with
  | inp k => cases b; exact .tup h (.cons (.str _) (.cons (.int _) .nil))
  | num k => cases b; exact .tup h (.cons (.str _) (.cons (.int _) .nil))
  | tr k => cases b; exact .tup h (.cons (.str _) .nil)
  | plus c a => exact .tup h (.cons (.str _) (.cons (.int _) b))
  | bin w a c => exact .tup h (.cons (.str _) b)
  | neg a => exact .tup h (.cons (.str _) b)
  | ite p a c => exact .tup h (.cons (.str _) b)
theorem cut_to2 (n : Nat) (xs ys : List V) (h : xs.length = n) : cutV (xs ++ ys) none (some (n : Int)) = xs := by
  unfold cutV
  rw [HT.sIx_none, show HT.sIx (xs ++ ys).length (xs ++ ys).length (some (n : Int)) = min n (xs ++ ys).length from HT.sIx_nat _ _ n, List.drop_zero, Nat.sub_zero]
  rw [List.length_append, show min n (xs.length + ys.length) = xs.length by omega, List.take_left]
def repL (new : Pg) : List Pg → Int → List Pg × Int
  | [], c => ([], c)
  | p :: ps, c => ((repP new p c).1 :: (repL new ps (repP new p c).2).1, (repL new ps (repP new p c).2).2)
theorem repL_snoc (new r : Pg) : ∀ (ps : List Pg) (c : Int), repL new (ps ++ [r]) c = ((repL new ps c).1 ++ [(repP new r (repL new ps c).2).1], (repP new r (repL new ps c).2).2)
  | [], c => rfl
  | p :: ps, c => by
    show ((repP new p c).1 :: (repL new (ps ++ [r]) (repP new p c).2).1, (repL new (ps ++ [r]) (repP new p c).2).2) = _
    rw [repL_snoc new r ps]
    rfl
theorem repL_len (new : Pg) : ∀ (ps : List Pg) (c : Int), (repL new ps c).1.length = ps.length
  | [], c => rfl
  | p :: ps, c => by
    show (repL new ps (repP new p c).2).1.length + 1 = ps.length + 1
    rw [repL_len new ps]
theorem rep_parts (new p : Pg) (c : Int) (h : c ≠ 0) : front (repP new p c).1 = front p ∧ parts (repP new p c).1 = (repL new (parts p) (c - 1)).1 ∧ (repP new p c).2 = (repL new (parts p) (c - 1)).2 := by
  cases p <;> (simp only [repP]; rw [if_neg h]; exact ⟨rfl, rfl, rfl⟩)
theorem rep_zero (new p : Pg) : repP new p 0 = (new, -1) := by cases p <;> simp [repP]
section
variable {P : Program} {w : World} {K : PySem.W.Frag} {mg : Str → Option Value} {base : Heap}
theorem cutV_all2 {xs : List V} {lo hi : Option Int} (h : HT.sIx xs.length 0 lo = 0 ∧ HT.sIx xs.length xs.length hi = xs.length) : cutV xs lo hi = xs := by
  unfold cutV
  rw [h.1, h.2, List.drop_zero, Nat.sub_zero, List.take_length]
theorem slA_any2 {a : Addr} {xs : List V} {lo hi : Option Int} {H : Hp} {Q : VK} (ha : SqT K H a xs) (q : ∀ p H', Same H H' → SqT K H' p (cutV xs lo hi) → Q (.ref p) H') : rSlA K (.ref a) lo hi H Q :=
  ⟨a, xs, rfl, ha, fun h => q a H (fun _ _ z => z) (by rw [cutV_all2 h]; exact ha), fun _ p hp => q p _ (same_new hp) (.inl (.inl upd_same))⟩
theorem catA_any2 {a b : Addr} {xs ys : List V} {H : Hp} {Q : VK} (ha : SqT K H a xs) (hb : SqT K H b ys) (hz : xs.length + ys.length ≤ sizeLine) (q : ∀ p H', Same H H' → SqT K H' p (xs ++ ys) → Q (.ref p) H') : rCatA K (.ref a) (.ref b) H Q :=
  ⟨a, b, xs, ys, rfl, rfl, ha, hb, hz, fun e => q b H (fun _ _ z => z) (by rw [e]; exact hb), fun _ e => q a H (fun _ _ z => z) (by rw [e, List.append_nil]; exact ha), fun _ _ p hp => q p _ (same_new hp) (.inl (.inl upd_same))⟩
abbrev s_l_replaced : Stmt := topS 25
theorem sc_l_replaced : FnScope ["_law_program", "_law_left", "_law_new", "_law_parts_here", "_law_head", "_law_part"] ["_law_program", "_law_left", "_law_new"] (defScope s_l_replaced) := ⟨rfl, rfl, rfl, by decide +kernel, rfl, by decide +kernel, by decide +kernel⟩
def spRepP (K : PySem.W.Frag) (n : Nat) : Sp := fun vs H Q _ => ∃ (v : V) (p : Pg) (lf : Addr) (c : Int) (nv : V) (new : Pg), vs = [v, .ref lf, nv] ∧ At K H v p ∧ dep p ≤ n ∧ H lf = some (.lst [.int c]) ∧ At K H nv new ∧
  ∀ (u : V) (H' : Hp), Ex [lf] H H' → H' lf = some (.lst [.int (repP new p c).2]) → At K H' u (repP new p c).1 → Q u H'
theorem ok_l_replaced1 {n : Nat} (B : Bt mg) (C_l_has_form : Cal P w K mg base 1 "_law_has_form" ["_law_knot"] (spLHF K)) (C_l_parts : Cal P w K mg base 1 "_law_parts" ["_law_knot"] (spLP K)) (C_l_replaced : Cal P w K mg base (n + 1) "_law_replaced" ["_law_program", "_law_left", "_law_new"] (spRepP K n)) (D : DefAt K mg "_law_replaced" s_l_replaced ["_law_program", "_law_left", "_law_new"]) : Cal P w K mg base (n + 1 + 1) "_law_replaced" ["_law_program", "_law_left", "_law_new"] (spRepP K (n + 1)) := by
  refine cal_of D sc_l_replaced (fun vs H Q E h => ?_) (fun f cdv A outer s H vs Q E hr h => ?_)
  · obtain ⟨v, p, lf, c, nv, new, rfl, _⟩ := h
    rfl
  obtain ⟨v, p, lf, c, nv, new, rfl, hv, hdep, hlf, hnv, q⟩ := h
  have C_l_has_form := C_l_has_form.mono (k := n + 1) (by omega)
  have C_l_parts := C_l_parts.mono (k := n + 1) (by omega)
  have hr' : Room (n + 1) _ := hr
  refine ⟨_, (pss_cons (ps_asg (pe_op op_sub (pe_ix ix_list (pv 1) pe_int (fun _ _ => rfl)) pe_int) (pg_sub (pv 1) pe_int set_list))
      (pss_cons (ps_if (pt_cmpR op_eq (pe_ix ix_list (pv 1) pe_int (fun _ _ => rfl)) (pe_op op_sub pe_int pe_int) (nomark _))
        (pss_one (ps_ret (pv 2)))
        pss_nil)
      (pss_cons (ps_if (pt_not (pt_val (pe_cal C_l_has_form hr' (by rfl) (pa_cons (pv 0) pa_nil))))
        (pss_one (ps_ret (pv 0)))
        pss_nil)
      (pss_cons (ps_set (i := 3) sc_l_replaced.nd rfl (.inl rfl) (pe_cal C_l_parts hr' (by rfl) (pa_cons (pv 0) pa_nil)))
      (pss_cons (ps_set (i := 4) sc_l_replaced.nd rfl (.inl rfl) (pe_slice sl_tupA (pv 0) po_none (po_some (pe_op op_sub (pe_callB call_len_seq (by rfl) B.len PySem.boot_len (pa_cons (pv 0) pa_nil)) (pe_callB call_len_seq (by rfl) B.len PySem.boot_len (pa_cons (pv 3) pa_nil))))))
      (pss_one (ps_ret (pe_op op_catA (pv 4) (pe_callTy call_tuple_of (by rfl) B.tuple PyProof.Rows.boot_tuple (pa_cons (pe_lc (own := [("_law_part", 5)]) (g := gName 5) rfl sc_l_replaced.nd (pi_tup (pv 3)) (blkOk_by (own := [("_law_part", 5)]) (N := ["_law_program", "_law_left", "_law_new", "_law_parts_here", "_law_head", "_law_part"]) (sc := defScope s_l_replaced) (by decide +kernel)) (fun _ _ _ _ _ => (pg_name (i := 5) sc_l_replaced.nd rfl (.inl rfl))) (fun _ _ _ _ _ => pts_nil) (fun _ _ _ _ _ => (pe_cal C_l_replaced hr' (by rfl) (pa_cons (pv 5) (pa_cons (pv 1) (pa_cons (pv 2) pa_nil)))))) pa_nil)))))))))), ?_⟩
  have L : SqL K H lf [.int c] := SqL.of hlf
  refine ⟨_, rfl, lf, _, 0, .int c, rfl, rfl, L, rfl, _, _, rfl, rfl, ?_⟩
  refine ⟨_, rfl, lf, _, 0, 0, rfl, rfl, hlf, rfl, ?_⟩
  have e1 : upd H lf (.lst (List.set [.int c] 0 (.int (c - 1)))) lf = some (.lst [.int (c - 1)]) := upd_same
  have ex1 : Ex [lf] H (upd H lf (.lst (List.set [.int c] 0 (.int (c - 1))))) := Ex.at (List.mem_singleton.mpr rfl)
  have tp1 : Tp K H (upd H lf (.lst (List.set [.int c] 0 (.int (c - 1))))) := Tp.lst hlf
  generalize upd H lf (.lst (List.set [.int c] 0 (.int (c - 1)))) = H1 at e1 ex1 tp1
  refine ⟨_, rfl, lf, _, 0, .int (c - 1), rfl, rfl, SqL.of e1, rfl, _, _, rfl, rfl, rfl, _, rfl, ite2 (fun z => ?_) (fun z => ?_)⟩
  · have z' : c - 1 = 0 - 1 := V.int.inj (of_decide_eq_true z)
    have c0 : c = 0 := by omega
    subst c0
    rw [rep_zero] at q
    exact ⟨_, rfl, q nv H1 ex1 e1 (hnv.keep tp1)⟩
  have nz : c ≠ 0 := fun e => z (by rw [e]; rfl)
  obtain ⟨ef, ep, ec⟩ := rep_parts new p c nz
  refine ⟨_, rfl, v, p, rfl, hv.keep tp1, fun H2 s2 => ⟨_, rfl, iteF ?_⟩⟩
  have tp2 := tp1.trans (Tp.same (K := K) s2)
  refine ⟨_, rfl, v, p, rfl, hv.keep tp2, fun t us H3 s3 ht hus => ?_⟩
  have tp3 := tp2.trans (Tp.same (K := K) s3)
  have ex3 : Ex [lf] H H3 := (ex1.trans (Ex.of_same s2)).trans (Ex.of_same s3)
  have e3 := s3 _ _ (s2 _ _ e1)
  have hv3 := hv.keep tp3
  have hnv3 := hnv.keep tp3
  clear hv hnv tp1 tp2 ex1 e1 s2 s3
  obtain ⟨a, vs, rfl, qa, hvs⟩ := hv3.open
  have hl : (front p ++ vs).length = 1 + nn p + (parts p).length := by rw [List.length_append, front_len, hvs.len]
  have ul : us.length = (parts p).length := hus.len
  have p3 : (parts p).length ≤ 3 := by cases p <;> simp [parts]
  have n1 : nn p ≤ 1 := by cases p <;> simp [nn]
  have e1 : (((front p ++ vs).length : Nat) : Int) - ((us.length : Nat) : Int) = ((1 + nn p : Nat) : Int) := by omega
  refine ⟨_, rfl, _, rfl, a, _, rfl, .inr qa, _, rfl, t, us, rfl, .inr (.inl (.inl ht)), _, _, rfl, rfl, _, rfl, ?_⟩
  show rSlA K (.ref a) none (some ((((front p ++ vs).length : Nat) : Int) - ((us.length : Nat) : Int))) H3 _
  rw [e1]
  refine slA_any2 qa fun hd H4 s4 q4 => ?_
  rw [cut_to2 _ _ _ (front_len p)] at q4
  have ht4 := s4 _ _ ht
  have e4 := s4 _ _ e3
  have fus : Ats K H4 us (parts p) := hus.keep (Tp.same s4)
  have tpd : ∀ {Hx Hy : Hp}, (∃ x, Hx lf = some (.lst x)) → Ex [lf] Hx Hy → Tp K Hx Hy := fun {Hx Hy} h ex => ex.tp fun b hb ys z => by
    obtain ⟨x, hx⟩ := h
    rw [List.mem_singleton.mp hb] at z
    rcases z with z | ⟨o, z⟩
    · rw [hx] at z; cases z
    · rw [hx] at z; cases z
  refine ⟨_, rfl, _, rfl, t, rfl, ⟨_, .inl (.inl ht4)⟩, fun D hD => lc_tup (K := K) (a := t) (xs := us) (fun i H' => Ex [lf] H4 H' ∧ ∃ ws : List V, H' lf = some (.lst [.int (repL new ((parts p).take i) (c - 1)).2]) ∧ H' D = some (.lst ws) ∧ Ats K H' ws (repL new ((parts p).take i) (c - 1)).1) ?_ ?_ ?_ ?_⟩
  · have nl : lf ≠ D := ne_of_none e4 hD
    exact ⟨Ex.new hD, [], by rw [upd_ne nl]; exact e4, upd_same, Ats.nil⟩
  · rintro i H' _ ⟨ex, _⟩
    have ntl : t ≠ lf := fun z => by rw [z, e4] at ht4; cases ht4
    exact .inl (.inl (ex _ _ ht4 (by simp [ntl])))
  · rintro i x H' hx ⟨ex, ws, hlf', hD', hws⟩
    have tpi : Tp K H4 H' := tpd ⟨_, e4⟩ ex
    obtain ⟨r, hr1, har⟩ := (fus.keep tpi).get i x hx
    have hmem := List.mem_of_getElem? hr1
    have d1 := dep_part p r hmem
    have hi : i < us.length := (List.getElem?_eq_some_iff.mp hx).1
    have et : (parts p).take (i + 1) = (parts p).take i ++ [r] := by rw [List.take_add_one, hr1]; rfl
    refine ⟨rfl, _, rfl, _, rfl, _, rfl, x, r, lf, _, nv, new, rfl, har, by omega, hlf', hnv3.keep ((Tp.same s4).trans tpi), fun u H5 ex5 hlf5 hu => ?_⟩
    have nDl : D ≠ lf := (ne_of_none e4 hD).symm
    have hD5 := ex5 _ _ hD' (by simp [nDl])
    have tp5 : Tp K H' H5 := tpd ⟨_, hlf'⟩ ex5
    have t6 : Tp K H5 (upd H5 D (.lst (ws ++ [u]))) := Tp.lst hD5
    have wl : ws.length ≤ 3 := by
      rw [hws.len, repL_len, List.length_take]
      omega
    refine ⟨ws, hD5, smallL (by omega), fun b o z nb => ?_, ws ++ [u], by rw [upd_ne nDl.symm, et, repL_snoc]; exact hlf5, upd_same, ?_⟩
    · have nbD : b ≠ D := ne_of_none z hD
      rw [upd_ne nbD]
      exact ex5 b o (ex b o z nb) nb
    · rw [et, repL_snoc]
      exact ((hws.keep tp5).keep t6).app (.cons (hu.keep t6) .nil)
  · rintro H5 ⟨ex, ws, hlf5, hD5, hws⟩
    rw [ul, List.take_length] at hlf5 hws
    have tp5 : Tp K H4 H5 := tpd ⟨_, e4⟩ ex
    refine ⟨D, ws, rfl, .inl ⟨SqL.of hD5, fun t2 ht2 => ?_⟩⟩
    have s6 : Same H5 (upd H5 t2 (.tup ws)) := same_new ht2
    have wl : ws.length ≤ 3 := by rw [hws.len, repL_len]; omega
    refine catA_any2 (ys := ws) ((tp5.trans (Tp.same s6)) _ _ q4) (.inl (.inl upd_same)) (by rw [front_len]; exact small (by omega)) fun pp H7 s7 q7 => ?_
    have tpb : Tp K H5 H7 := Tp.same (s6.trans s7)
    refine q (.ref pp) H7 (fun b o z nb => ?_) (by rw [ec]; exact (s6.trans s7) _ _ hlf5) (At.make2 (vs := ws) (by rw [ef]; exact q7) (by rw [ep]; exact hws.keep tpb))
    exact (s6.trans s7) _ _ (ex b o (s4 _ _ (ex3 b o z nb)) nb)
theorem ok_l_replaced (B : Bt mg) (C_l_has_form : Cal P w K mg base 1 "_law_has_form" ["_law_knot"] (spLHF K)) (C_l_parts : Cal P w K mg base 1 "_law_parts" ["_law_knot"] (spLP K)) (D : DefAt K mg "_law_replaced" s_l_replaced ["_law_program", "_law_left", "_law_new"]) : ∀ n : Nat, Cal P w K mg base (n + 1) "_law_replaced" ["_law_program", "_law_left", "_law_new"] (spRepP K n)
  | 0 => cal_no D fun vs H Q E h => by
    obtain ⟨v, p, lf, c, nv, new, _, _, h1, _⟩ := h
    have := dep_pos p
    omega
  | n + 1 => ok_l_replaced1 B C_l_has_form C_l_parts (ok_l_replaced B C_l_has_form C_l_parts D n) D
end
end Lm

set_option Elab.async false
set_option linter.all false
set_option maxRecDepth 100000
set_option maxHeartbeats 2000000
namespace Lm
open PySem PySem.Spec PyProof.Rows L2 LmR
/-! ### programs alike as data are the same -/
def pdat1 : PyData → Prop
  | .int _ => True
  | .str _ => True
  | .tuple xs => pdats xs
  | _ => False
where pdats : List PyData → Prop
  | [] => True
  | d :: ds => pdat1 d ∧ pdats ds
mutual
theorem eqv_pure : ∀ (d e : PyData), pdat1 d → pdat1 e → PyData.eqv d e = true → d = e
  | .int i, .int j, _, _, h => by
    have : i = j := eq_of_beq h
    rw [this]
  | .str i, .str j, _, _, h => by
    have : i = j := eq_of_beq h
    rw [this]
  | .tuple xs, .tuple ys, h1, h2, h => by rw [eqvs_pure xs ys h1 h2 h]
  | .int _, .str _, _, _, h => by cases h
  | .int _, .tuple _, _, _, h => by cases h
  | .str _, .int _, _, _, h => by cases h
  | .str _, .tuple _, _, _, h => by cases h
  | .tuple _, .int _, _, _, h => by cases h
  | .tuple _, .str _, _, _, h => by cases h
theorem eqvs_pure : ∀ (ds es : List PyData), pdat1.pdats ds → pdat1.pdats es → PyData.eqvAll ds es = true → ds = es
  | [], [], _, _, _ => rfl
  | d :: ds, e :: es, h1, h2, h => by
    have h' : (PyData.eqv d e && PyData.eqvAll ds es) = true := h
    rw [Bool.and_eq_true] at h'
    rw [eqv_pure d e h1.1 h2.1 h'.1, eqvs_pure ds es h1.2 h2.2 h'.2]
  | [], _ :: _, _, _, h => by cases h
  | _ :: _, [], _, _, h => by cases h
end
theorem enc_pure : ∀ p : Pg, pdat1 (enc p)
  | .inp k => ⟨trivial, trivial, trivial⟩
  | .num c => ⟨trivial, trivial, trivial⟩
  | .tr b => ⟨trivial, trivial⟩
  | .plus c a => ⟨trivial, trivial, enc_pure a, trivial⟩
  | .bin w a b => ⟨trivial, enc_pure a, enc_pure b, trivial⟩
  | .neg a => ⟨trivial, enc_pure a, trivial⟩
  | .ite p a b => ⟨trivial, enc_pure p, enc_pure a, enc_pure b, trivial⟩
/-- which of the twelve words -/
def widx : Pg → Nat
  | .inp _ => 0
  | .num _ => 1
  | .tr true => 2
  | .tr false => 3
  | .plus _ _ => 4
  | .bin .least _ _ => 5
  | .bin .most _ _ => 6
  | .bin .atmost _ _ => 7
  | .bin .both _ _ => 8
  | .bin .either _ _ => 9
  | .neg _ => 10
  | .ite _ _ _ => 11
def wfind (x : Str) : Nat := (["in", "num", "yes", "no", "plus", "least", "most", "atmost", "both", "either", "not", "if"] : List Str).findIdx (· == x)
theorem wfind_word (p : Pg) : wfind (word p) = widx p := by
  cases p with
  | inp k => show wfind "in" = 0; decide +kernel
  | num k => show wfind "num" = 1; decide +kernel
  | tr b => cases b <;> decide +kernel
  | plus c a => show wfind "plus" = 4; decide +kernel
  | bin w a b =>
    cases w
    · show wfind "least" = 5; decide +kernel
    · show wfind "most" = 6; decide +kernel
    · show wfind "atmost" = 7; decide +kernel
    · show wfind "both" = 8; decide +kernel
    · show wfind "either" = 9; decide +kernel
  | neg a => show wfind "not" = 10; decide +kernel
  | ite p a b => show wfind "if" = 11; decide +kernel
theorem enc_widx {p r : Pg} (h : enc p = enc r) : widx p = widx r := by
  have e : ∀ p : Pg, ∃ t, enc p = .tuple (.str (word p) :: t) := fun p => by cases p <;> exact ⟨_, rfl⟩
  obtain ⟨t, et⟩ := e p
  obtain ⟨u, eu⟩ := e r
  rw [et, eu] at h
  injection h with h
  injection h with h _
  injection h with h
  rw [← wfind_word, ← wfind_word, h]
theorem enc_inj : ∀ {p r : Pg}, enc p = enc r → p = r := by
  intro p
  induction p with
  | inp k =>
    intro r h
    have hw := enc_widx h
    cases r with
    | inp k' =>
      simp only [enc, PyData.tuple.injEq, List.cons.injEq, PyData.int.injEq] at h
      have : k = k' := by omega
      rw [this]
    | tr b => cases b <;> cases hw
    | bin w x y => cases w <;> cases hw
    | _ => cases hw
  | num k =>
    intro r h
    have hw := enc_widx h
    cases r with
    | num k' =>
      simp only [enc, PyData.tuple.injEq, List.cons.injEq, PyData.int.injEq] at h
      rw [h.2.1]
    | tr b => cases b <;> cases hw
    | bin w x y => cases w <;> cases hw
    | _ => cases hw
  | tr b =>
    intro r h
    have hw := enc_widx h
    cases r with
    | tr b' => cases b <;> cases b' <;> first | rfl | cases hw
    | bin w x y => cases b <;> cases w <;> cases hw
    | _ => cases b <;> cases hw
  | plus c a ih =>
    intro r h
    have hw := enc_widx h
    cases r with
    | plus c' a' =>
      simp only [enc, PyData.tuple.injEq, List.cons.injEq, PyData.int.injEq] at h
      rw [h.2.1, ih h.2.2.1]
    | tr b => cases b <;> cases hw
    | bin w x y => cases w <;> cases hw
    | _ => cases hw
  | bin w a b iha ihb =>
    intro r h
    have hw := enc_widx h
    cases r with
    | bin w' a' b' =>
      have e : w = w' := by cases w <;> cases w' <;> first | rfl | cases hw
      simp only [enc, PyData.tuple.injEq, List.cons.injEq] at h
      rw [e, iha h.2.1, ihb h.2.2.1]
    | tr b => cases b <;> cases w <;> cases hw
    | _ => cases w <;> cases hw
  | neg a ih =>
    intro r h
    have hw := enc_widx h
    cases r with
    | neg a' =>
      simp only [enc, PyData.tuple.injEq, List.cons.injEq] at h
      rw [ih h.2.1]
    | tr b => cases b <;> cases hw
    | bin w x y => cases w <;> cases hw
    | _ => cases hw
  | ite p a b ihp iha ihb =>
    intro r h
    have hw := enc_widx h
    cases r with
    | ite p' a' b' =>
      simp only [enc, PyData.tuple.injEq, List.cons.injEq] at h
      rw [ihp h.2.1, iha h.2.2.1, ihb h.2.2.2.1]
    | tr b => cases b <;> cases hw
    | bin w x y => cases w <;> cases hw
    | _ => cases hw
theorem eqv_enc2 {p r : Pg} (h : PyData.eqv (enc p) (enc r) = true) : p = r := enc_inj (eqv_pure _ _ (enc_pure p) (enc_pure r) h)
/-! ### the order -/
theorem pair_tr {a b c : Int × Int} (h1 : PySem.W.DatumOrd.lt a b = true) (h2 : PySem.W.DatumOrd.lt b c = true) : PySem.W.DatumOrd.lt a c = true := by
  obtain ⟨a1, a2⟩ := a
  obtain ⟨b1, b2⟩ := b
  obtain ⟨c1, c2⟩ := c
  have e1 : (if a1 = b1 then decide (a2 < b2) else decide (a1 < b1)) = true := h1
  have e2 : (if b1 = c1 then decide (b2 < c2) else decide (b1 < c1)) = true := h2
  show (if a1 = c1 then decide (a2 < c2) else decide (a1 < c1)) = true
  split at e1 <;> split at e2 <;> split <;> simp only [decide_eq_true_eq] at * <;> omega
theorem pair_ir (a : Int × Int) : PySem.W.DatumOrd.lt a a = false := by
  obtain ⟨a1, a2⟩ := a
  show (if a1 = a1 then decide (a2 < a2) else decide (a1 < a1)) = false
  rw [if_pos rfl]
  exact decide_eq_false (by omega)
theorem list_ir : ∀ a : List (Int × Int), PySem.W.listLt a a = false
  | [] => rfl
  | x :: xs => by
    show (if x = x then PySem.W.listLt xs xs else PySem.W.DatumOrd.lt x x) = false
    rw [if_pos rfl]
    exact list_ir xs
theorem list_tr : ∀ {a b c : List (Int × Int)}, PySem.W.listLt a b = true → PySem.W.listLt b c = true → PySem.W.listLt a c = true
  | [], [], [], h1, _ => by cases h1
  | [], _ :: _, [], _, h2 => by cases h2
  | [], _, _ :: _, _, _ => rfl
  | _ :: _, [], _, h1, _ => by cases h1
  | _ :: _, _ :: _, [], _, h2 => by cases h2
  | x :: xs, y :: ys, z :: zs, h1, h2 => by
    have e1 : (if x = y then PySem.W.listLt xs ys else PySem.W.DatumOrd.lt x y) = true := h1
    have e2 : (if y = z then PySem.W.listLt ys zs else PySem.W.DatumOrd.lt y z) = true := h2
    show (if x = z then PySem.W.listLt xs zs else PySem.W.DatumOrd.lt x z) = true
    by_cases c1 : x = y
    · subst c1
      rw [if_pos rfl] at e1
      by_cases c2 : x = z
      · rw [if_pos c2] at e2 ⊢
        exact list_tr e1 e2
      · rw [if_neg c2] at e2 ⊢
        exact e2
    · rw [if_neg c1] at e1
      by_cases c2 : y = z
      · subst c2
        rw [if_neg c1]
        exact e1
      · rw [if_neg c2] at e2
        have e3 := pair_tr e1 e2
        have c3 : x ≠ z := fun e => by
          subst e
          rw [pair_ir] at e3
          cases e3
        rw [if_neg c3]
        exact e3
theorem ltO_eq (a b : Int × List (Int × Int)) : ltO a b = if a.1 = b.1 then PySem.W.listLt a.2 b.2 else decide (a.1 < b.1) := rfl
theorem ltO_ir (a : Int × List (Int × Int)) : ltO a a = false := by
  rw [ltO_eq, if_pos rfl]
  exact list_ir _
theorem ltO_tr {a b c : Int × List (Int × Int)} (h1 : ltO a b = true) (h2 : ltO b c = true) : ltO a c = true := by
  rw [ltO_eq] at h1 h2 ⊢
  by_cases c1 : a.1 = b.1
  · rw [if_pos c1] at h1
    by_cases c2 : b.1 = c.1
    · rw [if_pos c2] at h2
      rw [if_pos (c1.trans c2)]
      exact list_tr h1 h2
    · rw [if_neg c2] at h2
      have := of_decide_eq_true h2
      rw [if_neg (by omega)]
      exact decide_eq_true (by omega)
  · rw [if_neg c1] at h1
    have := of_decide_eq_true h1
    by_cases c2 : b.1 = c.1
    · rw [if_neg (by omega)]
      exact decide_eq_true (by omega)
    · rw [if_neg c2] at h2
      have := of_decide_eq_true h2
      rw [if_neg (by omega)]
      exact decide_eq_true (by omega)
theorem ltO_wt {a b : Int × List (Int × Int)} (h : a.1 < b.1) : ltO a b = true := by
  rw [ltO_eq, if_neg (by omega)]
  exact decide_eq_true h
theorem listLt_pre : ∀ (l : List (Int × Int)) {a b : List (Int × Int)}, PySem.W.listLt (l ++ a) (l ++ b) = PySem.W.listLt a b
  | [], _, _ => rfl
  | x :: l, a, b => by
    show (if x = x then PySem.W.listLt (l ++ a) (l ++ b) else PySem.W.DatumOrd.lt x x) = _
    rw [if_pos rfl]
    exact listLt_pre l
theorem listLt_post : ∀ (a b s t : List (Int × Int)), (∀ u v, a ++ u ≠ b ++ v) → PySem.W.listLt (a ++ s) (b ++ t) = PySem.W.listLt a b
  | [], b, s, t, h => absurd (show [] ++ b = b ++ [] by rw [List.append_nil]; rfl) (h b [])
  | a :: as, [], s, t, h => absurd (show (a :: as) ++ [] = [] ++ (a :: as) by rw [List.append_nil]; rfl) (h [] (a :: as))
  | x :: as, y :: bs, s, t, h => by
    show (if x = y then PySem.W.listLt (as ++ s) (bs ++ t) else PySem.W.DatumOrd.lt x y) = if x = y then PySem.W.listLt as bs else PySem.W.DatumOrd.lt x y
    by_cases c : x = y
    · rw [if_pos c, if_pos c]
      exact listLt_post as bs s t fun u v e => h u v (by rw [c, List.cons_append, List.cons_append, e])
    · rw [if_neg c, if_neg c]
/-! ### a knot that gives way -/
def ordL (S : Stk) (l : List Pg) : Int × List (Int × Int) := ((l.map fun q => (stq S q).1).sum, l.map fun q => (stq S q).2)
theorem ord_parts (S : Stk) (p : Pg) : ordP S p = ((stq S p).1 + (ordL S ((parts p).flatMap kn)).1, (stq S p).2 :: (ordL S ((parts p).flatMap kn)).2) := by
  unfold ordP ordL
  rw [kn_eq, List.map_cons, List.map_cons, List.sum_cons]
theorem ordL_app (S : Stk) (l m : List Pg) : ordL S (l ++ m) = ((ordL S l).1 + (ordL S m).1, (ordL S l).2 ++ (ordL S m).2) := by
  unfold ordL
  rw [List.map_append, List.map_append, List.sum_append]
theorem ordL_kn (S : Stk) (p : Pg) : ordL S (kn p) = ordP S p := rfl
theorem ordL_nil (S : Stk) : ordL S [] = (0, []) := rfl
/-- the same around, another within -/
def Swap (S : Stk) (q new : Pg) (x y : Int × List (Int × Int)) : Prop := ∃ (pre post : List (Int × Int)) (w : Int), x = ((ordP S q).1 + w, pre ++ ((ordP S q).2 ++ post)) ∧ y = ((ordP S new).1 + w, pre ++ ((ordP S new).2 ++ post))
theorem Swap.front {S : Stk} {q new : Pg} {x y : Int × List (Int × Int)} (a : Int) (l : List (Int × Int)) (h : Swap S q new x y) : Swap S q new (a + x.1, l ++ x.2) (a + y.1, l ++ y.2) := by
  obtain ⟨pre, post, w, rfl, rfl⟩ := h
  refine ⟨l ++ pre, post, a + w, ?_, ?_⟩
  · simp only [Prod.mk.injEq, List.append_assoc, and_true]; omega
  · simp only [Prod.mk.injEq, List.append_assoc, and_true]; omega
theorem Swap.back {S : Stk} {q new : Pg} {x y : Int × List (Int × Int)} (a : Int) (l : List (Int × Int)) (h : Swap S q new x y) : Swap S q new (x.1 + a, x.2 ++ l) (y.1 + a, y.2 ++ l) := by
  obtain ⟨pre, post, w, rfl, rfl⟩ := h
  refine ⟨pre, post ++ l, w + a, ?_, ?_⟩
  · simp only [Prod.mk.injEq, List.append_assoc, and_true]; omega
  · simp only [Prod.mk.injEq, List.append_assoc, and_true]; omega
theorem Rp.swap {S : Stk} {q new p p' : Pg} (h : Rp q new p p') : Swap S q new (ordP S p) (ordP S p') := by
  induction h with
  | here => exact ⟨[], [], 0, by rw [List.append_nil, Int.add_zero]; rfl, by rw [List.append_nil, Int.add_zero]; rfl⟩
  | @plus c a a' _ ih =>
    have z := ih.front (stq S (.plus c a)).1 [(stq S (.plus c a)).2]
    rw [ord_parts S (.plus c a), ord_parts S (.plus c a')]
    simp only [parts, List.flatMap_cons, List.flatMap_nil, List.append_nil, ordL_kn]
    exact z
  | @neg a a' _ ih =>
    have z := ih.front (stq S (.neg a)).1 [(stq S (.neg a)).2]
    rw [ord_parts S (.neg a), ord_parts S (.neg a')]
    simp only [parts, List.flatMap_cons, List.flatMap_nil, List.append_nil, ordL_kn]
    exact z
  | @bin1 w a a' b _ ih =>
    have z := (ih.back (ordP S b).1 (ordP S b).2).front (stq S (.bin w a b)).1 [(stq S (.bin w a b)).2]
    rw [ord_parts S (.bin w a b), ord_parts S (.bin w a' b)]
    simp only [parts, List.flatMap_cons, List.flatMap_nil, List.append_nil, ordL_app, ordL_kn]
    exact z
  | @bin2 w a b b' _ ih =>
    have z := (ih.front (ordP S a).1 (ordP S a).2).front (stq S (.bin w a b)).1 [(stq S (.bin w a b)).2]
    rw [ord_parts S (.bin w a b), ord_parts S (.bin w a b')]
    simp only [parts, List.flatMap_cons, List.flatMap_nil, List.append_nil, ordL_app, ordL_kn]
    exact z
  | @ite1 p p' a b _ ih =>
    have z := (ih.back ((ordP S a).1 + (ordP S b).1) ((ordP S a).2 ++ (ordP S b).2)).front (stq S (.ite p a b)).1 [(stq S (.ite p a b)).2]
    rw [ord_parts S (.ite p a b), ord_parts S (.ite p' a b)]
    simp only [parts, List.flatMap_cons, List.flatMap_nil, List.append_nil, ordL_app, ordL_kn]
    exact z
  | @ite2 p a a' b _ ih =>
    have z := ((ih.back (ordP S b).1 (ordP S b).2).front (ordP S p).1 (ordP S p).2).front (stq S (.ite p a b)).1 [(stq S (.ite p a b)).2]
    rw [ord_parts S (.ite p a b), ord_parts S (.ite p a' b)]
    simp only [parts, List.flatMap_cons, List.flatMap_nil, List.append_nil, ordL_app, ordL_kn]
    exact z
  | @ite3 p a b b' _ ih =>
    have z := ((ih.front (ordP S a).1 (ordP S a).2).front (ordP S p).1 (ordP S p).2).front (stq S (.ite p a b)).1 [(stq S (.ite p a b)).2]
    rw [ord_parts S (.ite p a b), ord_parts S (.ite p a b')]
    simp only [parts, List.flatMap_cons, List.flatMap_nil, List.append_nil, ordL_app, ordL_kn]
    exact z
/-- what comes ahead of a knot makes the whole come ahead -/
theorem Rp.lt {S : Stk} {q new p p' : Pg} (h : Rp q new p p') (hq : OfS S q) (hn : OfS S new) (ne : new ≠ q) : ltO (ordP S p') (ordP S p) = ltO (ordP S new) (ordP S q) ∧ ltO (ordP S p) (ordP S p') = ltO (ordP S q) (ordP S new) := by
  obtain ⟨pre, post, w, e1, e2⟩ := h.swap (S := S)
  have k1 : ∀ u v, (ordP S new).2 ++ u ≠ (ordP S q).2 ++ v := fun u v e => ne (kn_inj new q u v hn hq e).1
  rw [e1, e2, ltO_eq, ltO_eq, ltO_eq, ltO_eq]
  simp only
  rw [listLt_pre, listLt_pre, listLt_post _ _ post post k1, listLt_post _ _ post post fun u v e => k1 v u e.symm]
  refine ⟨?_, ?_⟩
  · by_cases c : (ordP S new).1 = (ordP S q).1
    · rw [if_pos c, if_pos (by omega)]
    · rw [if_neg c, if_neg (by omega)]
      congr 1
      exact propext ⟨fun z => by omega, fun z => by omega⟩
  · by_cases c : (ordP S q).1 = (ordP S new).1
    · rw [if_pos c, if_pos (by omega)]
    · rw [if_neg c, if_neg (by omega)]
      congr 1
      exact propext ⟨fun z => by omega, fun z => by omega⟩
theorem Rp.self {q p p' : Pg} (h : Rp q q p p') : p' = p := by
  induction h with
  | here => rfl
  | _ _ ih => rw [ih]
theorem Rp.sz2 {q new p p' : Pg} (h : Rp q new p p') : psz p' ≤ psz p + psz new := by
  induction h with
  | here => omega
  | _ _ ih => simp only [psz]; omega
theorem wt_ord {S : Stk} : ∀ l : List Pg, (∀ q ∈ l, stnd S q ≠ none) → wtL S l = some (l.map fun q => (stq S q).1).sum
  | [], _ => rfl
  | q :: l, h => by
    cases e : stnd S q with
    | none => exact absurd e (h q List.mem_cons_self)
    | some z =>
      obtain ⟨x, y, k⟩ := z
      rw [wtL_some e, wt_ord l fun r hr => h r (List.mem_cons_of_mem _ hr), List.map_cons, List.sum_cons, stq_some e]
      rfl
theorem sh_enc2 (p : Pg) (h : psz p ≤ 60) : SeqAt.shaped (enc p) = true := by
  unfold SeqAt.shaped
  rw [lay_enc', Bool.true_and]
  have h1 := depth_enc' p
  have h2 := dep_le p
  exact decide_eq_true (by omega)
end Lm

set_option Elab.async false
set_option linter.all false
set_option maxRecDepth 100000
set_option maxHeartbeats 4000000
set_option pp.maxSteps 600
set_option pp.deepTerms.threshold 6
namespace Lm
open PySem PySem.Spec PyProof.Rows L2 LmR
section
variable {P : Program} {w : World} {K : PySem.W.Frag} {mg : Str → Option Value} {base : Heap}
abbrev s_l_knot_right : Stmt := topS 30
theorem sc_l_knot_right : FnScope ["_law_shop", "_law_program", "_law_at", "_law_new", "_law_knot", "_law_other", "_law_one", "_law_two", "_law_whole", "_law_more"] ["_law_shop", "_law_program", "_law_at", "_law_new"] (defScope s_l_knot_right) := ⟨rfl, rfl, rfl, by decide +kernel, rfl, by decide +kernel, by decide +kernel⟩
def spKR (K : PySem.W.Frag) : Sp := fun vs H Q _ => ∃ (t : Addr) (S : Stk) (v nv : V) (p q nw : Pg) (m : Int), vs = [.ref t, v, .int m, nv] ∧ Fd K H (.ref t) S.D ∧ S.Ok ∧ At K H v p ∧ psz p ≤ 24 ∧ OfS S p ∧ 0 ≤ m ∧ (kn p)[m.toNat]? = some q ∧ At K H nv nw ∧ psz nw ≤ 24 ∧ OfS S nw ∧ ∀ H', Same H H' → Q (.bl true) H'
theorem ok_l_knot_right {aS : Addr} (B : Bt mg) (C_l_knots : Cal P w K mg base 41 "_law_knots" ["_law_program"] (spLK K 40)) (C_l_replaced : Cal P w K mg base 41 "_law_replaced" ["_law_program", "_law_left", "_law_new"] (spRepP K 40)) (C_comes_first : CalKw P w K mg base 5 "comes_first" ["one", "other", "stock"] 2 ["stock"] [.ref aS] (spCF K)) (D : DefAt K mg "_law_knot_right" s_l_knot_right ["_law_shop", "_law_program", "_law_at", "_law_new"]) : Cal P w K mg base 42 "_law_knot_right" ["_law_shop", "_law_program", "_law_at", "_law_new"] (spKR K) := by
  refine cal_of D sc_l_knot_right (fun vs H Q E h => ?_) (fun f cdv A outer s H vs Q E hr h => ?_)
  · obtain ⟨t, S, v, nv, p, q, nw, m, rfl, _⟩ := h
    rfl
  obtain ⟨t, S, v, nv, p, r, nw, m, rfl, ht, hS, hv, zp, op, m0, hm, hn, zn, on, q⟩ := h
  have C_comes_first := C_comes_first.mono (k := 41) (by decide)
  have hr' : Room 41 _ := hr
  refine ⟨_, (pss_cons (ps_par (i := 4) (j := 5) rfl sc_l_knot_right.nd rfl rfl (by decide) rfl rfl (pa_cons (pe_ix ix_list (pe_cal C_l_knots hr' (by rfl) (pa_cons (pv 1) pa_nil)) (pv 2) (fun _ _ => rfl)) (pa_cons (pe_cal C_l_replaced hr' (by rfl) (pa_cons (pv 1) (pa_cons (pe_lst (pa_cons (pv 2) pa_nil)) (pa_cons (pv 3) pa_nil)))) pa_nil)) rfl)
      (pss_cons (ps_if (pt_cmpR (op_eqD hr.units) (pv 3) (pv 4) (nomark _))
        (pss_one (ps_ret (pe_not (pe_calK C_comes_first hr' (by rfl) (pa_cons (pv 5) (pa_cons (pv 1) pa_nil)) (pk_cons (pv 0) pk_nil)))))
        pss_nil)
      (pss_cons (ps_for PassesOwn.never rfl (pi_list (pe_lst (pa_cons (pe_tup (pa_cons (pv 3) (pa_cons (pv 4) (pa_cons (pv 5) (pa_cons (pv 1) pa_nil))))) (pa_cons (pe_tup (pa_cons (pv 4) (pa_cons (pv 3) (pa_cons (pv 1) (pa_cons (pv 5) pa_nil))))) pa_nil)))) (pg_tup rfl (pgs_cons (pg_name (i := 6) sc_l_knot_right.nd rfl (.inl rfl)) (pgs_cons (pg_name (i := 7) sc_l_knot_right.nd rfl (.inl rfl)) (pgs_cons (pg_name (i := 8) sc_l_knot_right.nd rfl (.inl rfl)) (pgs_cons (pg_name (i := 9) sc_l_knot_right.nd rfl (.inl rfl)) pgs_nil)))))
        (pss_one (ps_if (pt_cmpR op_ne (pe_calK C_comes_first hr' (by rfl) (pa_cons (pv 6) (pa_cons (pv 7) pa_nil)) (pk_cons (pv 0) pk_nil)) (pe_calK C_comes_first hr' (by rfl) (pa_cons (pv 8) (pa_cons (pv 9) pa_nil)) (pk_cons (pv 0) pk_nil)) (nomark _))
        (pss_one (ps_ret pe_bl))
        pss_nil)))
      (pss_one (ps_ret pe_bl))))), ?_⟩
  have dp := dep_le p
  have hmem := List.mem_of_getElem? hm
  have or' : OfS S r := fun x hx => by
    have : ∀ (p x y : Pg), x ∈ kn p → y ∈ kn x → y ∈ kn p := fun p => by
      induction p with
      | inp k => intro x y h1 h2; rw [List.mem_singleton.mp h1] at h2; exact h2
      | num k => intro x y h1 h2; rw [List.mem_singleton.mp h1] at h2; exact h2
      | tr k => intro x y h1 h2; rw [List.mem_singleton.mp h1] at h2; exact h2
      | plus c a ih =>
        intro x y h1 h2
        rcases List.mem_cons.mp h1 with rfl | h1
        · exact h2
        · exact List.mem_cons_of_mem _ (ih x y h1 h2)
      | neg a ih =>
        intro x y h1 h2
        rcases List.mem_cons.mp h1 with rfl | h1
        · exact h2
        · exact List.mem_cons_of_mem _ (ih x y h1 h2)
      | bin w a b iha ihb =>
        intro x y h1 h2
        rcases List.mem_cons.mp h1 with rfl | h1
        · exact h2
        · refine List.mem_cons_of_mem _ (List.mem_append.mpr ?_)
          exact (List.mem_append.mp h1).imp (fun z => iha x y z h2) (fun z => ihb x y z h2)
      | ite p a b ihp iha ihb =>
        intro x y h1 h2
        rcases List.mem_cons.mp h1 with rfl | h1
        · exact h2
        · refine List.mem_cons_of_mem _ (List.mem_append.mpr ?_)
          refine (List.mem_append.mp h1).imp (fun z => ihp x y z h2) (fun z => List.mem_append.mpr ?_)
          exact (List.mem_append.mp z).imp (fun z => iha x y z h2) (fun z => ihb x y z h2)
    exact op x (this p r x hmem hx)
  have zr := kn_le p r hmem
  have ml : m.toNat < psz p := by rw [← kn_len]; exact (List.getElem?_eq_some_iff.mp hm).1
  obtain ⟨_, ry⟩ := rep_yes nw p m m0 (by omega)
  have rp := ry r hm
  refine ⟨_, rfl, v, p, rfl, hv, by omega, by omega, fun lk ws H1 s1 _ hlk hws => ?_⟩
  obtain ⟨y, ey⟩ : ∃ y, ws[m.toNat]? = some y := ⟨_, List.getElem?_eq_getElem (by rw [hws.len, kn_len]; omega)⟩
  obtain ⟨r', hr1, ar⟩ := hws.get _ _ ey
  rw [hm] at hr1
  have er := Option.some.inj hr1
  subst er
  refine ⟨_, rfl, lk, ws, m, y, rfl, rfl, SqL.of hlk, at_of (j := m.toNat) (by omega) ey, ?_⟩
  refine ⟨_, rfl, _, rfl, (by show 1 ≤ sizeLine; decide), fun lf hlf => ?_⟩
  have s2 := same_new (o := .lst [V.int m]) hlf
  have e2 : (upd H1 lf (.lst [V.int m])) lf = some (.lst [.int m]) := upd_same
  have nH : ∀ b o, H1 b = some o → b ≠ lf := fun b o z => ne_of_none z hlf
  generalize upd H1 lf (.lst [V.int m]) = H2 at s2 e2
  refine ⟨_, rfl, v, p, lf, m, nv, nw, rfl, hv.keep (Tp.same (s1.trans s2)), by omega, e2, hn.keep (Tp.same (s1.trans s2)), fun u H3 ex3 _ au => ?_⟩
  have s3 : Same H1 H3 := fun b o z => ex3 b o (s2 b o z) (by simp [nH b o z])
  have s13 := s1.trans s3
  have hv3 := hv.keep (Tp.same (K := K) s13)
  have hn3 := hn.keep (Tp.same (K := K) s13)
  have ar3 := ar.keep (Tp.same (K := K) s3)
  have ht3 := ht.keep (Tp.same (K := K) s13)
  have ou : OfS S (repP nw p m).1 := rp.ofS on op
  have zu := rp.sz2
  generalize (repP nw p m).1 = p' at au ou zu rp
  clear ry hlf nH s2 e2 ex3 hlk hws
  refine ⟨_, _, rfl, _, rfl, _, rfl, enc nw, enc r, hn3, ar3, sh_enc2 nw (by omega), sh_enc2 r (by omega), _, rfl, ite2 (fun c => ?_) (fun c => ?_)⟩
  · have e : nw = r := eqv_enc2 c
    subst e
    have e := rp.self
    subst e
    refine ⟨_, rfl, _, rfl, _, rfl, rfl, rfl, u, v, p', p', t, S, rfl, au, by omega, hv3, by omega, ht3, hS, ou, ou, fun H4 s4 => ?_⟩
    refine ⟨_, rfl, ?_⟩
    rw [ltO_ir]
    exact q _ (s13.trans s4)
  have ne : nw ≠ r := fun e => c (by rw [e]; exact eqv_sh (sh_enc2 r (by omega)))
  obtain ⟨l1, l2⟩ := rp.lt or' on ne
  refine ⟨_, rfl, _, rfl, _, rfl, _, rfl, (by show 4 ≤ sizeLine; decide), fun t1 ht1 => ?_⟩
  have s4 := same_new (o := .tup [nv, y, u, v]) ht1
  have e4 : (upd H3 t1 (.tup [nv, y, u, v])) t1 = some (.tup [nv, y, u, v]) := upd_same
  generalize upd H3 t1 (.tup [nv, y, u, v]) = H4 at s4 e4
  refine ⟨_, rfl, _, rfl, _, rfl, _, rfl, (by show 4 ≤ sizeLine; decide), fun t2 ht2 => ?_⟩
  have s5 := same_new (o := .tup [y, nv, v, u]) ht2
  have e5 : (upd H4 t2 (.tup [y, nv, v, u])) t2 = some (.tup [y, nv, v, u]) := upd_same
  generalize upd H4 t2 (.tup [y, nv, v, u]) = H5 at s5 e5
  refine ⟨(by show 2 ≤ sizeLine; decide), fun lq hlq => ?_⟩
  have s6 := same_new (o := .lst [.ref t1, .ref t2]) hlq
  have e6 : (upd H5 lq (.lst [.ref t1, .ref t2])) lq = some (.lst [.ref t1, .ref t2]) := upd_same
  generalize upd H5 lq (.lst [.ref t1, .ref t2]) = H6 at s6 e6
  have s36 := s4.trans (s5.trans s6)
  have both : ∀ x ∈ [V.ref t1, V.ref t2], ∃ (tt : Addr) (v1 v2 v3 v4 : V) (p1 p2 p3 p4 : Pg), x = .ref tt ∧ H6 tt = some (.tup [v1, v2, v3, v4]) ∧ At K H6 v1 p1 ∧ At K H6 v2 p2 ∧ At K H6 v3 p3 ∧ At K H6 v4 p4 ∧ psz p1 ≤ 24 ∧ psz p2 ≤ 24 ∧ psz p3 ≤ 48 ∧ psz p4 ≤ 48 ∧ OfS S p1 ∧ OfS S p2 ∧ OfS S p3 ∧ OfS S p4 ∧ ltO (ordP S p1) (ordP S p2) = ltO (ordP S p3) (ordP S p4) := fun x hx => by
    simp only [List.mem_cons, List.not_mem_nil, or_false] at hx
    have t36 := Tp.same (K := K) s36
    rcases hx with rfl | rfl
    · exact ⟨t1, _, _, _, _, nw, r, p', p, rfl, (s5.trans s6) _ _ e4, hn3.keep t36, ar3.keep t36, au.keep t36, hv3.keep t36, by omega, by omega, by omega, by omega, on, or', ou, op, l1.symm⟩
    · exact ⟨t2, _, _, _, _, r, nw, p, p', rfl, s6 _ _ e5, ar3.keep t36, hn3.keep t36, hv3.keep t36, au.keep t36, by omega, by omega, by omega, by omega, or', on, op, ou, l2.symm⟩
  refine ⟨lq, rfl, ⟨_, SqL.of e6⟩, for_list (K := K) (a := lq) (xs := [.ref t1, .ref t2]) (fun i σ' H' => (∃ y6 y7 y8 y9 : Option V, σ' = [some (.ref t), some v, some (.int m), some nv, some y, some u, y6, y7, y8, y9]) ∧ Same H6 H') ⟨⟨_, _, _, _, rfl⟩, Same.refl _⟩ ?_ ?_ ?_⟩
  · rintro i σ' H' _ ⟨_, s'⟩
    exact SqL.of (s' _ _ e6)
  · rintro i x σ' H7 hx ⟨⟨y6, y7, y8, y9, rfl⟩, s7⟩
    obtain ⟨tt, v1, v2, v3, v4, p1, p2, p3, p4, rfl, ett, a1, a2, a3, a4, z1, z2, z3, z4, o1, o2, o3, o4, le⟩ := both x (List.mem_of_getElem? hx)
    have t67 := Tp.same (K := K) s7
    refine ⟨tt, _, rfl, .inl (.inl (s7 _ _ ett)), rfl, _, _, rfl, _, _, rfl, _, _, rfl, _, _, rfl, rfl, ?_⟩
    have t38 := Tp.same (K := K) (s36.trans s7)
    refine ⟨_, rfl, _, rfl, _, rfl, rfl, rfl, v1, v2, p1, p2, t, S, rfl, a1.keep t67, by omega, a2.keep t67, by omega, ht3.keep t38, hS, o1, o2, fun H8 s8 => ?_⟩
    have t68 := Tp.same (K := K) (s7.trans s8)
    refine ⟨_, rfl, _, rfl, _, rfl, rfl, rfl, v3, v4, p3, p4, t, S, rfl, a3.keep t68, by omega, a4.keep t68, by omega, ht3.keep (Tp.same ((s36.trans s7).trans s8)), hS, o3, o4, fun H9 s9 => ⟨rfl, _, rfl, ?_⟩⟩
    rw [le]
    generalize ltO (ordP S p3) (ordP S p4) = ow
    have same : (!decide (V.bl ow = V.bl ow)) = false := by rw [decide_eq_true rfl]; rfl
    show if (!decide (V.bl ow = V.bl ow)) = true then _ else _
    rw [same]
    exact iteF ⟨⟨_, _, _, _, rfl⟩, s7.trans (s8.trans s9)⟩
  · rintro σ' H7 ⟨⟨y6, y7, y8, y9, rfl⟩, s7⟩
    exact q _ (s13.trans (s36.trans s7))
end
end Lm

set_option Elab.async false
set_option linter.all false
set_option maxRecDepth 100000
set_option maxHeartbeats 4000000
set_option pp.maxSteps 600
set_option pp.deepTerms.threshold 6
namespace Lm
open PySem PySem.Spec PyProof.Rows L2 LmR
def PgT (K : PySem.W.Frag) (S : Stk) (H : Hp) (v : V) : Prop := ∃ p, At K H v p ∧ psz p ≤ 24 ∧ OfS S p
theorem PgT.keep {K : PySem.W.Frag} {S : Stk} {H H' : Hp} {v : V} (h : PgT K S H v) (t : Tp K H H') : PgT K S H' v := by
  obtain ⟨p, a, r⟩ := h
  exact ⟨p, a.keep t, r⟩
theorem all_rep : ∀ n : Nat, (List.replicate n true).all id = true
  | 0 => rfl
  | n + 1 => by rw [List.replicate_succ, List.all_cons, all_rep n]; rfl
section
variable {P : Program} {w : World} {K : PySem.W.Frag} {mg : Str → Option Value} {base : Heap}
abbrev s_l_three_right : Stmt := topS 31
theorem sc_l_three_right : FnScope ["_law_shop", "_law_some", "_law_one", "_law_two", "_law_last"] ["_law_shop", "_law_some"] (defScope s_l_three_right) := ⟨rfl, rfl, rfl, by decide +kernel, rfl, by decide +kernel, by decide +kernel⟩
def spTR (K : PySem.W.Frag) : Sp := fun vs H Q _ => ∃ (t l : Addr) (S : Stk) (us : List V), vs = [.ref t, .ref l] ∧ H l = some (.lst us) ∧ us.length ≤ 1000 ∧ Fd K H (.ref t) S.D ∧ S.Ok ∧ (∀ v ∈ us, PgT K S H v) ∧ ∀ H', Same H H' → Q (.bl true) H'
theorem ok_l_three_right {aS : Addr} (B : Bt mg) (C_weight : CalKw P w K mg base 4 "weight" ["program", "stock"] 1 ["stock"] [.ref aS] (spWeight K)) (C_comes_first : CalKw P w K mg base 5 "comes_first" ["one", "other", "stock"] 2 ["stock"] [.ref aS] (spCF K)) (D : DefAt K mg "_law_three_right" s_l_three_right ["_law_shop", "_law_some"]) : Cal P w K mg base 42 "_law_three_right" ["_law_shop", "_law_some"] (spTR K) := by
  refine cal_of D sc_l_three_right (fun vs H Q E h => ?_) (fun f cdv A outer s H vs Q E hr h => ?_)
  · obtain ⟨t, l, S, us, rfl, _⟩ := h
    rfl
  obtain ⟨t, l, S, us, rfl, hl, ul, ht, hS, hus, q⟩ := h
  have C_comes_first := C_comes_first.mono (k := 41) (by decide)
  have C_weight := C_weight.mono (k := 41) (by decide)
  have hr' : Room 41 _ := hr
  refine ⟨_, (pss_cons (ps_for PassesOwn.never rfl (pi_list (pv 1)) (pg_name (i := 2) sc_l_three_right.nd rfl (.inr rfl))
        (pss_one (ps_for PassesOwn.never rfl (pi_list (pv 1)) (pg_name (i := 3) sc_l_three_right.nd rfl (.inr rfl))
        (C8.pss_cut (ps_if (PW.pt (pw_and (pt_cmpR op_lt (pe_calK C_weight hr' (by rfl) (pa_cons (pv 2) pa_nil) (pk_cons (pv 0) pk_nil)) (pe_calK C_weight hr' (by rfl) (pa_cons (pv 3) pa_nil) (pk_cons (pv 0) pk_nil)) (nomark _)) (pw_and1 (pt_not (pt_val (pe_calK C_comes_first hr' (by rfl) (pa_cons (pv 2) (pa_cons (pv 3) pa_nil)) (pk_cons (pv 0) pk_nil)))))))
        (pss_one (ps_ret pe_bl))
        pss_nil)
      (pss_cons (ps_if (pt_not (pt_val (pe_calK C_comes_first hr' (by rfl) (pa_cons (pv 2) (pa_cons (pv 3) pa_nil)) (pk_cons (pv 0) pk_nil))))
        (pss_one ps_continue)
        pss_nil)
      (pss_one (ps_if (pt_not (pt_val (pe_callB (cr_all rfl) (by rfl) B.all PyProof.Rows.boot_all (pa_cons (pe_lc (own := [("_law_last", 4)]) (g := gName 4) rfl sc_l_three_right.nd (pi_list (pv 1)) (blkOk_by (own := [("_law_last", 4)]) (N := ["_law_shop", "_law_some", "_law_one", "_law_two", "_law_last"]) (sc := defScope s_l_three_right) (by decide +kernel)) (fun _ _ _ _ _ => (pg_name (i := 4) sc_l_three_right.nd rfl (.inl rfl))) (fun _ _ _ _ _ => (pts_one (pt_val (pe_calK C_comes_first hr' (by rfl) (pa_cons (pv 3) (pa_cons (pv 4) pa_nil)) (pk_cons (pv 0) pk_nil))))) (fun _ _ _ _ _ => (pe_calK C_comes_first hr' (by rfl) (pa_cons (pv 2) (pa_cons (pv 4) pa_nil)) (pk_cons (pv 0) pk_nil)))) pa_nil))))
        (pss_one (ps_ret pe_bl))
        pss_nil)))))))
      (pss_one (ps_ret pe_bl))), ?_⟩
  refine ⟨_, rfl, l, rfl, ⟨_, SqL.of hl⟩, for_list (K := K) (a := l) (xs := us) (fun i σ' H' => (∃ y2 y3 y4 : Option V, σ' = [some (.ref t), some (.ref l), y2, y3, y4]) ∧ Same H H') ⟨⟨_, _, _, rfl⟩, Same.refl _⟩ ?_ ?_ ?_⟩
  · rintro i σ' H' _ ⟨_, s'⟩
    exact SqL.of (s' _ _ hl)
  · rintro i x σ' H' hx ⟨⟨y2, y3, y4, rfl⟩, s'⟩
    obtain ⟨p, ap, zp, op⟩ := hus x (List.mem_of_getElem? hx)
    refine ⟨_, rfl, l, rfl, ⟨_, SqL.of (s' _ _ hl)⟩, for_list (K := K) (a := l) (xs := us) (fun i σ' H' => (∃ y3 y4 : Option V, σ' = [some (.ref t), some (.ref l), some x, y3, y4]) ∧ Same H H') ⟨⟨_, _, rfl⟩, s'⟩ ?_ ?_ ?_⟩
    · rintro i σ' H' _ ⟨_, s'⟩
      exact SqL.of (s' _ _ hl)
    · rintro j y σ' H1 hy ⟨⟨y3, y4, rfl⟩, s1⟩
      obtain ⟨r, ar, zr, or'⟩ := hus y (List.mem_of_getElem? hy)
      refine ⟨fun σ' H' => σ' = [some (.ref t), some (.ref l), some x, some y, y4] ∧ Same H H', ?_, ?_⟩
      · refine ⟨_, rfl, _, rfl, rfl, rfl, x, p, t, S, rfl, ap.keep (Tp.same s1), by omega, ht.keep (Tp.same s1), hS, fun H2 s2 => ?_⟩
        have s12 := s1.trans s2
        refine ⟨_, rfl, _, rfl, rfl, rfl, y, r, t, S, rfl, ar.keep (Tp.same s12), by omega, ht.keep (Tp.same s12), hS, fun H3 s3 => ?_⟩
        have s13 := s12.trans s3
        rw [wt_ord _ op, wt_ord _ or']
        refine ⟨_, _, rfl, rfl, _, rfl, ite2 (fun c => ?_) (fun c => ⟨rfl, s13⟩)⟩
        have c' : (ordP S p).1 < (ordP S r).1 := of_decide_eq_true c
        refine ⟨_, rfl, _, rfl, _, rfl, rfl, rfl, x, y, p, r, t, S, rfl, ap.keep (Tp.same s13), by omega, ar.keep (Tp.same s13), by omega, ht.keep (Tp.same s13), hS, op, or', fun H4 s4 => ⟨_, rfl, ?_⟩⟩
        rw [ltO_wt c']
        exact iteF ⟨rfl, s13.trans s4⟩
      rintro _ H2 ⟨rfl, s2⟩
      refine ⟨_, rfl, _, rfl, _, rfl, rfl, rfl, x, y, p, r, t, S, rfl, ap.keep (Tp.same s2), by omega, ar.keep (Tp.same s2), by omega, ht.keep (Tp.same s2), hS, op, or', fun H3 s3 => ⟨_, rfl, ?_⟩⟩
      have s23 := s2.trans s3
      refine ite2 (fun c => ⟨⟨_, _, rfl⟩, s23⟩) (fun c => ?_)
      have pr : ltO (ordP S p) (ordP S r) = true := by simpa using c
      refine ⟨_, rfl, l, rfl, ⟨_, SqL.of (s23 _ _ hl)⟩, fun D hD => lc_list (K := K) (a := l) (xs := us) (fun j H' => Same H3 H' ∧ ∃ n : Nat, n ≤ j ∧ H' D = some (.lst ((List.replicate n true).map V.bl))) ?_ ?_ ?_ ?_⟩
      · exact ⟨same_new hD, 0, Nat.le_refl _, upd_same⟩
      · rintro j H' _ ⟨s', _⟩
        exact SqL.of (s' _ _ (s23 _ _ hl))
      · rintro j z H' hz ⟨s', n, nj, hD'⟩
        have jl : j < us.length := (List.getElem?_eq_some_iff.mp hz).1
        obtain ⟨o, ao, zo, oo⟩ := hus z (List.mem_of_getElem? hz)
        have s4 := s23.trans s'
        refine ⟨rfl, _, rfl, _, rfl, _, rfl, rfl, rfl, y, z, r, o, t, S, rfl, ar.keep (Tp.same s4), by omega, ao.keep (Tp.same s4), by omega, ht.keep (Tp.same s4), hS, or', oo, fun H5 s5 => ⟨_, rfl, ?_⟩⟩
        have s6 := s'.trans s5
        have hD5 := s5 _ _ hD'
        refine ite2 (fun c2 => ?_) (fun c2 => ⟨s6, n, by omega, hD5⟩)
        have ro : ltO (ordP S r) (ordP S o) = true := c2
        have s7 := s23.trans s6
        refine ⟨_, rfl, _, rfl, _, rfl, rfl, rfl, x, z, p, o, t, S, rfl, ap.keep (Tp.same s7), by omega, ao.keep (Tp.same s7), by omega, ht.keep (Tp.same s7), hS, op, oo, fun H6 s8 => ?_⟩
        rw [ltO_tr pr ro]
        refine ⟨_, s8 _ _ hD5, by rw [List.length_map, List.length_replicate]; exact smallL (by omega), fun b o' hb => ?_, n + 1, by omega, ?_⟩
        · rw [upd_ne (ne_of_none hb hD)]
          exact s8 _ _ (s6 _ _ hb)
        · rw [upd_same, List.replicate_succ', List.map_append]
          rfl
      · rintro H4 ⟨s4, n, _, hD4⟩
        refine ⟨D, List.replicate n true, rfl, SqL.of hD4, _, rfl, ?_⟩
        rw [all_rep]
        exact iteF ⟨⟨_, _, rfl⟩, s23.trans s4⟩
    · rintro σ' H2 ⟨⟨y3, y4, rfl⟩, s2⟩
      exact ⟨⟨_, _, _, rfl⟩, s2⟩
  · rintro σ' H2 ⟨_, s2⟩
    exact q _ s2
abbrev s_law : Stmt := topS 32
theorem sc_law : FnScope ["_law_script", "_law_k", "_law_flow_here", "_law_shop", "_law_kinds_here", "_law_program", "_law_some", "_law_every", "_law_turn", "_law_at", "_law_new"] ["_law_script"] (defScope s_law) := ⟨rfl, rfl, rfl, by decide +kernel, rfl, by decide +kernel, by decide +kernel⟩
def spLaw (K : PySem.W.Frag) : Sp := fun vs H Q _ => ∃ (a : Addr) (ns : List Int), vs = [.ref a] ∧ SqL K H a (ns.map V.int) ∧ ns.length ≤ 63 ∧ ∀ H', Q (.bl true) H'
theorem ok_law (B : Bt mg) (C_l_flow : Cal P w K mg base 2 "_law_flow" ["_law_script", "_law_k"] (spFlow K)) (C_l_draw : Cal P w K mg base 1 "_law_draw" ["_law_flow_here", "_law_many"] (spDraw)) (C_l_stock : Cal P w K mg base 4 "_law_stock" ["_law_flow_here"] (spStock K)) (C_l_kinds : Cal P w K mg base 2 "_law_kinds" ["_law_flow_here"] (spKinds K)) (C_l_of_stock : Cal P w K mg base 12 "_law_of_stock" ["_law_flow_here", "_law_shop", "_law_kinds_here", "_law_kind", "_law_room", "_law_down"] (spOS K 11)) (C_l_knots : Cal P w K mg base 41 "_law_knots" ["_law_program"] (spLK K 40)) (C_l_own : Cal P w K mg base 41 "_law_own" ["_law_kinds_here", "_law_knot"] (spLO K 40)) (C_l_knot_right : Cal P w K mg base 42 "_law_knot_right" ["_law_shop", "_law_program", "_law_at", "_law_new"] (spKR K)) (C_l_three_right : Cal P w K mg base 42 "_law_three_right" ["_law_shop", "_law_some"] (spTR K)) {f : Addr} {fd : FuncData} (F : Fun K "law" "law" s_law f fd) : FnOk P w K mg base CX0 44 f fd ["_law_script"] (spLaw K) := by
  refine F.ok sc_law (fun vs H Q E h => ?_) (fun cdv A outer s H vs Q E hr h => ?_)
  · obtain ⟨a, ns, rfl, _⟩ := h
    rfl
  obtain ⟨a, ns, rfl, hS, h63, q⟩ := h
  have C_l_flow := C_l_flow.mono (k := 43) (by decide)
  have C_l_draw := C_l_draw.mono (k := 43) (by decide)
  have C_l_stock := C_l_stock.mono (k := 43) (by decide)
  have C_l_kinds := C_l_kinds.mono (k := 43) (by decide)
  have C_l_of_stock := C_l_of_stock.mono (k := 43) (by decide)
  have C_l_knots := C_l_knots.mono (k := 43) (by decide)
  have C_l_own := C_l_own.mono (k := 43) (by decide)
  have C_l_knot_right := C_l_knot_right.mono (k := 43) (by decide)
  have C_l_three_right := C_l_three_right.mono (k := 43) (by decide)
  have hr' : Room 43 _ := hr
  refine ⟨_, (pss_cons (ps_for PassesOwn.never rfl (pi_range1 (by rfl) B.range (pa_cons (pe_callB (call_max2 rfl) (by rfl) B.max PyProof.Rows.boot_max (pa_cons pe_int (pa_cons (pe_callB call_len_seq (by rfl) B.len PySem.boot_len (pa_cons (pe_slice sl_list (pv 0) po_none (po_some pe_int)) pa_nil)) pa_nil))) pa_nil)) (pg_name (i := 1) sc_law.nd rfl (.inl rfl))
        (pss_cons (ps_set (i := 2) sc_law.nd rfl (.inl rfl) (pe_cal C_l_flow hr' (by rfl) (pa_cons (pv 0) (pa_cons (pv 1) pa_nil))))
      (pss_cons (ps_par (i := 3) (j := 4) rfl sc_law.nd rfl rfl (by decide) rfl rfl (pa_cons (pe_cal C_l_stock hr' (by rfl) (pa_cons (pv 2) pa_nil)) (pa_cons (pe_cal C_l_kinds hr' (by rfl) (pa_cons (pv 2) pa_nil)) pa_nil)) rfl)
      (pss_cons (ps_set (i := 5) sc_law.nd rfl (.inl rfl) (pe_cal C_l_of_stock hr' (by rfl) (pa_cons (pv 2) (pa_cons (pv 3) (pa_cons (pv 4) (pa_cons (pe_ix ix_list (pe_lst (pa_cons pe_str (pa_cons pe_str pa_nil))) (pe_cal C_l_draw hr' (by rfl) (pa_cons (pv 2) (pa_cons pe_int pa_nil))) (fun _ _ => rfl)) (pa_cons (pe_op op_add pe_int (pe_cal C_l_draw hr' (by rfl) (pa_cons (pv 2) (pa_cons pe_int pa_nil)))) (pa_cons pe_int pa_nil))))))))
      (pss_cons (ps_if (pt_cmpR op_isN (pv 5) pe_non (nomark _))
        (pss_one ps_continue)
        pss_nil)
      (pss_cons (ps_par (i := 6) (j := 7) rfl sc_law.nd rfl rfl (by decide) rfl rfl (pa_cons (pe_lst (pa_cons (pv 5) pa_nil)) (pa_cons (pe_cal C_l_knots hr' (by rfl) (pa_cons (pv 5) pa_nil)) pa_nil)) rfl)
      (pss_cons (ps_for PassesOwn.never rfl (pi_range1 (by rfl) B.range (pa_cons pe_int pa_nil)) (pg_name (i := 8) sc_law.nd rfl (.inl rfl))
        (pss_cons (ps_set (i := 9) sc_law.nd rfl (.inl rfl) (pe_cal C_l_draw hr' (by rfl) (pa_cons (pv 2) (pa_cons (pe_callB call_len_seq (by rfl) B.len PySem.boot_len (pa_cons (pv 7) pa_nil)) pa_nil))))
      (pss_cons (ps_set (i := 10) sc_law.nd rfl (.inl rfl) (pe_cal C_l_of_stock hr' (by rfl) (pa_cons (pv 2) (pa_cons (pv 3) (pa_cons (pv 4) (pa_cons (pe_cal C_l_own hr' (by rfl) (pa_cons (pv 4) (pa_cons (pe_ix ix_list (pv 7) (pv 9) (fun _ _ => rfl)) pa_nil))) (pa_cons (pe_op op_add pe_int (pe_cal C_l_draw hr' (by rfl) (pa_cons (pv 2) (pa_cons pe_int pa_nil)))) (pa_cons pe_int pa_nil))))))))
      (pss_one (ps_if (pt_cmpR op_notN (pv 10) pe_non (nomark _))
        (pss_cons (ps_expr (pe_bm PySem.F.plainAttrs_list PySem.F.slot_list_append PySem.F.type_list_append mt_append (pv 6) (pa_cons (pv 10) pa_nil)))
      (pss_one (ps_if (pt_not (pt_val (pe_cal C_l_knot_right hr' (by rfl) (pa_cons (pv 3) (pa_cons (pv 5) (pa_cons (pv 9) (pa_cons (pv 10) pa_nil)))))))
        (pss_one (ps_ret pe_bl))
        pss_nil)))
        pss_nil)))))
      (pss_one (ps_if (pt_not (pt_val (pe_cal C_l_three_right hr' (by rfl) (pa_cons (pv 3) (pa_cons (pv 6) pa_nil)))))
        (pss_one (ps_ret pe_bl))
        pss_nil)))))))))
      (pss_one (ps_ret pe_bl))), ?_⟩
  refine ⟨_, rfl, 5, rfl, a, _, rfl, hS, fun p0 hp0 => ?_⟩
  have sA : Same H (upd H p0 (.lst (cutV (ns.map V.int) none (some 5)))) := same_new hp0
  have lc : (cutV (ns.map V.int) none (some 5)).length ≤ 63 := by
    unfold cutV
    rw [List.length_take, List.length_drop, List.length_map]
    omega
  have hS1 := sA.seq hS
  generalize cutV (ns.map V.int) none (some 5) = cs at lc sA hS1
  refine ⟨p0, cs, rfl, .inl (SqL.of upd_same), 2, _, rfl, ?_⟩
  obtain ⟨m, em, m0, m63⟩ : ∃ m : Int, (if ((cs.length : Nat) : Int) > 2 then ((cs.length : Nat) : Int) else 2) = m ∧ 0 ≤ m ∧ m ≤ 63 := by
    refine ⟨_, rfl, ?_, ?_⟩
    · split <;> omega
    · split <;> omega
  show ∃ n : Int, [V.int (if ((cs.length : Nat) : Int) > 2 then ((cs.length : Nat) : Int) else 2)] = [V.int n] ∧ _
  rw [em]
  generalize upd H p0 (.lst cs) = H1 at sA hS1
  refine ⟨m, rfl, by omega, by omega, for_range (lo := 0) (n := m.toNat) (fun i σ' H' => (∃ y1 y2 y3 y4 y5 y6 y7 y8 y9 y10 : Option V, σ' = [some (.ref a), y1, y2, y3, y4, y5, y6, y7, y8, y9, y10]) ∧ SqL K H' a (ns.map V.int)) ⟨⟨_, _, _, _, _, _, _, _, _, _, rfl⟩, hS1⟩ ?_ ?_⟩
  · rintro i σ' H' hi ⟨⟨y1, y2, y3, y4, y5, y6, y7, y8, y9, y10, rfl⟩, hS'⟩
    refine ⟨_, rfl, _, rfl, a, ns, _, rfl, hS', by omega, by omega, fun f o hf fl => ?_⟩
    have s1 : Same H' (upd H' f o) := same_new hf
    generalize upd H' f o = H2 at s1 fl
    refine ⟨_, rfl, f, rfl, fl, fun t ps1 ps2 ps3 H3 g3 ht hok => ⟨_, rfl, f, rfl, g3.fl, fun ka ks H4 g4 hk3 hka => ⟨_, _, rfl, ?_⟩⟩⟩
    obtain ⟨S, eS, oS⟩ := stk_of hok
    rw [eS] at ht
    have ht4 : Fd K H4 (.ref t) S.D := ht.keep (g4.tp g3.fl)
    have hk4 : SqT K H4 ka (kVs ks) := .inl (.inl hka)
    have ex4 : Ex [f] H' H4 := fun b o z nb => (g3.trans g4).ex b o (s1 _ _ z) nb
    have fl4 := g4.fl
    clear g3 g4 s1 fl hok ht hka eS
    refine ⟨_, rfl, _, rfl, _, rfl, (by show 2 ≤ sizeLine; decide), fun kl hkl => ?_⟩
    have e5 : (upd H4 kl (.lst [V.str "num", V.str "truth"])) kl = some (.lst [V.str "num", V.str "truth"]) := upd_same
    have g5 : Gr [] f H4 (upd H4 kl (.lst [V.str "num", V.str "truth"])) := Gr.new fl4 hkl
    have nkf := fl_nf fl4 hkl
    generalize upd H4 kl (.lst [V.str "num", V.str "truth"]) = H5 at e5 g5
    refine ⟨_, rfl, f, 2, rfl, g5.fl, by decide, by decide, fun d H6 d0 d1 dr6 => ?_⟩
    obtain ⟨kb, ekb⟩ : ∃ kb : Bool, atI [V.str "num", V.str "truth"] d = some (.str (kS kb)) := by
      rcases (show d = 0 ∨ d = 1 by omega) with z | z
      · subst z; exact ⟨false, rfl⟩
      · subst z; exact ⟨true, rfl⟩
    refine ⟨kl, _, d, .str (kS kb), rfl, rfl, SqL.of ((dr6.off kl nkf).trans e5), ekb, ?_⟩
    have g6 := g5.trans dr6.gr
    refine ⟨_, rfl, f, 9, rfl, g6.fl, by decide, by decide, fun d2 H7 d20 d21 dr7 => ⟨_, _, rfl, rfl, ?_⟩⟩
    have g7 := g6.trans dr7.gr
    refine ⟨f, t, ka, S, ks, kb, 1 + d2, 9, rfl, g7.fl, ht4.keep (g7.tp fl4), oS, g7.tp fl4 _ _ hk4, hk3, by omega, by omega, by decide, by decide, fun u H8 g8 hu => ?_⟩
    have g8' := g7.trans g8
    have done : ∀ H9, Gr [] f H4 H9 → SqL K H9 a (ns.map V.int) := fun H9 g9 => ex_seq hf (fun b o z nb => g9.ex b o (ex4 b o z nb) nb) hS'
    refine ⟨_, rfl, rfl, _, rfl, ?_⟩
    rcases hu with rfl | ⟨p, ap, op, wp, sp⟩
    · exact iteT ⟨⟨_, _, _, _, _, _, _, _, _, _, rfl⟩, done _ g8'⟩
    have nu : u ≠ .non := fun z => by
      rw [z] at ap
      cases p <;> cases ap
    show if decide (u = .non) = true then _ else _
    rw [decide_eq_false nu]
    refine iteF ?_
    clear e5 g5 nkf dr6 g6 dr7 g7 g8
    refine ⟨_, rfl, (by show 1 ≤ sizeLine; decide), fun L hL => ?_⟩
    have nLf := fl_nf g8'.fl hL
    have s9 := same_new (o := .lst [u]) hL
    have e9 : (upd H8 L (.lst [u])) L = some (.lst [u]) := upd_same
    have hL0 : H4 L = none := by
      cases z : H4 L with
      | none => rfl
      | some o =>
        have := g8'.ex _ _ z (by simp [nLf])
        rw [hL] at this
        cases this
    generalize upd H8 L (.lst [u]) = H9 at s9 e9
    have dp := dep_le p
    refine ⟨_, rfl, u, p, rfl, ap.keep (Tp.same s9), by omega, by omega, fun lk ws H10 s10 hlk0 hlk hws => ⟨_, _, rfl, ?_⟩⟩
    have s8 := s9.trans s10
    have g10 := g8'.trans (gr_same (ws := []) g8'.fl s8)
    have wl : ws.length = psz p := by rw [hws.len, kn_len]
    have pp := psz_pos p
    have nlf : lk ≠ f := by
      have flx := (g8'.trans (gr_same (ws := []) g8'.fl s9)).fl
      exact fl_nf flx hlk0
    have nlL : lk ≠ L := fun z => by rw [z, e9] at hlk0; cases hlk0
    have ap10 := ap.keep (Tp.same (K := K) s8)
    have e10 := s10 _ _ e9
    clear s9 e9 s10 s8 hlk0
    refine ⟨4, rfl, by decide, by decide, for_range (lo := 0) (n := 4) (fun j σ' H' => (∃ z8 z9 z10 : Option V, σ' = [some (.ref a), some (.int (0 + (i : Int))), some (.ref f), some (.ref t), some (.ref ka), some u, some (.ref L), some (.ref lk), z8, z9, z10]) ∧ Gr [] f H4 H' ∧ Tp K H10 H' ∧ H' lk = some (.lst ws) ∧ ∃ us, H' L = some (.lst us) ∧ us.length ≤ 1 + j ∧ ∀ v ∈ us, PgT K S H' v) ⟨⟨_, _, _, rfl⟩, g10, Tp.refl _ _, hlk, [u], e10, Nat.le_refl _, fun v hv => by
        rw [List.mem_singleton.mp hv]
        exact ⟨p, ap10, by omega, op.2⟩⟩ ?_ ?_⟩
    · rintro j σ' H11 hj ⟨⟨z8, z9, z10, rfl⟩, g11, tp11, hlk11, us, hL11, ul, hus⟩
      have j4 : j < 4 := hj
      refine ⟨_, rfl, _, rfl, lk, ws, rfl, .inl (SqL.of hlk11), f, _, rfl, g11.fl, by omega, by omega, fun m H12 m0 m1 dr12 => ?_⟩
      have g12 := g11.trans dr12.gr
      have tp12 : Tp K H11 H12 := dr12.tp g11.fl
      obtain ⟨y, ey⟩ : ∃ y, ws[m.toNat]? = some y := ⟨_, List.getElem?_eq_getElem (show m.toNat < ws.length by omega)⟩
      obtain ⟨r, hr1, ar⟩ := (hws.keep (tp11.trans tp12)).get _ _ ey
      have hmem := List.mem_of_getElem? hr1
      have wr := kn_wk ks p r op.1 hmem
      have zr := kn_le p r hmem
      have dr := dep_le r
      have hlk12 := (dr12.off lk nlf).trans hlk11
      have hL12 := (dr12.off L nLf).trans hL11
      have hk12 := g12.tp fl4 _ _ hk4
      refine ⟨_, rfl, _, rfl, _, rfl, _, rfl, _, rfl, _, rfl, lk, ws, m, y, rfl, rfl, SqL.of hlk12, at_of (j := m.toNat) (by omega) ey, ka, ks, y, r, rfl, hk12, ar, wr, by omega, fun H13 s13 => ?_⟩
      have g13 := g12.trans (gr_same (ws := []) g12.fl s13)
      refine ⟨_, rfl, f, 5, rfl, g13.fl, by decide, by decide, fun d3 H14 d30 d31 dr14 => ⟨_, _, rfl, rfl, ?_⟩⟩
      have g14 := g13.trans dr14.gr
      refine ⟨f, t, ka, S, ks, own ks r, 1 + d3, 5, rfl, g14.fl, ht4.keep (g14.tp fl4), oS, g14.tp fl4 _ _ hk4, hk3, by omega, by omega, by decide, by decide, fun nv H15 g15 hnv => ?_⟩
      have g15' := g14.trans g15
      have tp15 : Tp K H11 H15 := tp12.trans ((Tp.same s13).trans ((dr14.tp g13.fl).trans (g15.tp g14.fl)))
      have hlk15 := g15.ex _ _ ((dr14.off lk nlf).trans (s13 _ _ hlk12)) (by simp [nlf])
      have hL15 := g15.ex _ _ ((dr14.off L nLf).trans (s13 _ _ hL12)) (by simp [nLf])
      have hus15 : ∀ v ∈ us, PgT K S H15 v := fun v hv => (hus v hv).keep tp15
      refine ⟨_, rfl, rfl, _, rfl, ?_⟩
      rcases hnv with rfl | ⟨nw, an, on, wn, zn⟩
      · exact iteF ⟨⟨_, _, _, rfl⟩, g15', tp11.trans tp15, hlk15, us, hL15, by omega, hus15⟩
      have nn : nv ≠ .non := fun z => by
        rw [z] at an
        cases nw <;> cases an
      show if (!decide (nv = .non)) = true then _ else _
      rw [decide_eq_false nn]
      refine iteT ?_
      refine ⟨_, rfl, .inl ⟨rfl, _, SqL.of hL15⟩, _, rfl, L, us, _, rfl, rfl, hL15, smallL (by omega), ?_⟩
      have tp16 : Tp K H15 (upd H15 L (.lst (us ++ [nv]))) := Tp.lst hL15
      have g16 : Gr [] f H4 (upd H15 L (.lst (us ++ [nv]))) := gr_put g15' hL0 nLf
      have e16 : (upd H15 L (.lst (us ++ [nv]))) L = some (.lst (us ++ [nv])) := upd_same
      have lk16 : (upd H15 L (.lst (us ++ [nv]))) lk = some (.lst ws) := by rw [upd_ne nlL]; exact hlk15
      generalize upd H15 L (.lst (us ++ [nv])) = H16 at tp16 g16 e16 lk16
      have tpa : Tp K H10 H16 := tp11.trans (tp15.trans tp16)
      refine ⟨_, rfl, _, rfl, _, rfl, _, rfl, t, S, u, nv, p, r, nw, m, rfl, ht4.keep (g16.tp fl4), oS, ap10.keep tpa, by omega, op.2, m0, hr1, an.keep tp16, by omega, on.2, fun H17 s17 => ⟨_, rfl, iteF ?_⟩⟩
      refine ⟨⟨_, _, _, rfl⟩, g16.trans (gr_same (ws := []) g16.fl s17), tpa.trans (Tp.same s17), s17 _ _ lk16, us ++ [nv], s17 _ _ e16, by rw [List.length_append]; show us.length + 1 ≤ _; omega, fun x hx => ?_⟩
      rcases List.mem_append.mp hx with z | z
      · exact (hus15 x z).keep (tp16.trans (Tp.same s17))
      · rw [List.mem_singleton.mp z]
        exact ⟨nw, an.keep (tp16.trans (Tp.same s17)), by omega, on.2⟩
    · rintro σ' H11 ⟨⟨z8, z9, z10, rfl⟩, g11, tp11, hlk11, us, hL11, ul, hus⟩
      refine ⟨_, rfl, _, rfl, t, L, S, us, rfl, hL11, by omega, ht4.keep (g11.tp fl4), oS, hus, fun H12 s12 => ⟨_, rfl, iteF ?_⟩⟩
      exact ⟨⟨_, _, _, _, _, _, _, _, _, _, rfl⟩, done _ (g11.trans (gr_same (ws := []) g11.fl s12))⟩
  · rintro σ' H' _
    exact q _
end
end Lm

set_option Elab.async false
set_option linter.all false
set_option maxRecDepth 100000
set_option maxHeartbeats 2000000
namespace Lm
open PySem PySem.Spec PyProof.Rows L2 LmR
theorem defAt_mk {K : PySem.W.Frag} {h : Heap} {mg : Str → Option Value} {x : Str} {st : Stmt} {ps : List Str} {f : Addr} {oc : Value} {od an : Option Addr} {osl : Array (Option Value)} {kV doc pm cdv ct : Value} (X : K.In h) (G : h.Ns mainGlobals mg)
    (a : PySem.W.nsIn K mainGlobals x = some (some (.ref f))) (l : K.lookup f = some ⟨oc, od, .func (PySem.W.fnOf x x (defArgs st) (defBody st) (defScope st) .none kV doc pm an cdv ct), osl⟩) (c : PySem.W.codeIn K cdv x = true) (k : PySem.W.keepIn K (.ref f) = true)
    (hb : ∀ (kV doc pm : Value) (an : Option Addr) (cdv ct : Value) (us : List Value), us.length = ps.length → bindArgs (PySem.W.fnOf x x (defArgs st) (defBody st) (defScope st) .none kV doc pm an cdv ct) ⟨us, []⟩ = pure (ps.zip us)) : DefAt K mg x st ps :=
  ⟨f, _, fun_mk l c k, (fun_mk l c k).binds hb, PySem.W.mg_of X G a⟩
theorem all_mk {l : PySem.W.OpenLaw} {w : World} {K : PySem.W.Frag} {h : Heap} {mg : Str → Option Value} {fa : Addr} (X : K.In h) (G : h.Ns mainGlobals mg) (hfa : mg "law" = some (.ref fa))
    {f0 : Addr} {od0 an0 : Option Addr} {sl0 : Array (Option Value)} {oc0 kV0 dc0 pm0 cd0 ct0 : Value} {f1 : Addr} {od1 an1 : Option Addr} {sl1 : Array (Option Value)} {oc1 kV1 dc1 pm1 cd1 ct1 : Value} {f2 : Addr} {od2 an2 : Option Addr} {sl2 : Array (Option Value)} {oc2 kV2 dc2 pm2 cd2 ct2 : Value} {f3 : Addr} {od3 an3 : Option Addr} {sl3 : Array (Option Value)} {oc3 kV3 dc3 pm3 cd3 ct3 : Value} {f4 : Addr} {od4 an4 : Option Addr} {sl4 : Array (Option Value)} {oc4 kV4 dc4 pm4 cd4 ct4 : Value} {f5 : Addr} {od5 an5 : Option Addr} {sl5 : Array (Option Value)} {oc5 kV5 dc5 pm5 cd5 ct5 : Value} {f6 : Addr} {od6 an6 : Option Addr} {sl6 : Array (Option Value)} {oc6  dc6 pm6 cd6 ct6 : Value} {kD6 : Addr} {f7 : Addr} {od7 an7 : Option Addr} {sl7 : Array (Option Value)} {oc7  dc7 pm7 cd7 ct7 : Value} {kD7 : Addr} {f8 : Addr} {od8 an8 : Option Addr} {sl8 : Array (Option Value)} {oc8 kV8 dc8 pm8 cd8 ct8 : Value} {f9 : Addr} {od9 an9 : Option Addr} {sl9 : Array (Option Value)} {oc9 kV9 dc9 pm9 cd9 ct9 : Value} {f10 : Addr} {od10 an10 : Option Addr} {sl10 : Array (Option Value)} {oc10 kV10 dc10 pm10 cd10 ct10 : Value} {f11 : Addr} {od11 an11 : Option Addr} {sl11 : Array (Option Value)} {oc11 kV11 dc11 pm11 cd11 ct11 : Value} {f12 : Addr} {od12 an12 : Option Addr} {sl12 : Array (Option Value)} {oc12 kV12 dc12 pm12 cd12 ct12 : Value} {f13 : Addr} {od13 an13 : Option Addr} {sl13 : Array (Option Value)} {oc13 kV13 dc13 pm13 cd13 ct13 : Value} {f14 : Addr} {od14 an14 : Option Addr} {sl14 : Array (Option Value)} {oc14 kV14 dc14 pm14 cd14 ct14 : Value} {f15 : Addr} {od15 an15 : Option Addr} {sl15 : Array (Option Value)} {oc15 kV15 dc15 pm15 cd15 ct15 : Value} {f16 : Addr} {od16 an16 : Option Addr} {sl16 : Array (Option Value)} {oc16 kV16 dc16 pm16 cd16 ct16 : Value} {f17 : Addr} {od17 an17 : Option Addr} {sl17 : Array (Option Value)} {oc17 kV17 dc17 pm17 cd17 ct17 : Value} {f18 : Addr} {od18 an18 : Option Addr} {sl18 : Array (Option Value)} {oc18 kV18 dc18 pm18 cd18 ct18 : Value} {f19 : Addr} {od19 an19 : Option Addr} {sl19 : Array (Option Value)} {oc19 kV19 dc19 pm19 cd19 ct19 : Value} {f20 : Addr} {od20 an20 : Option Addr} {sl20 : Array (Option Value)} {oc20 kV20 dc20 pm20 cd20 ct20 : Value} {f21 : Addr} {od21 an21 : Option Addr} {sl21 : Array (Option Value)} {oc21 kV21 dc21 pm21 cd21 ct21 : Value} {f22 : Addr} {od22 an22 : Option Addr} {sl22 : Array (Option Value)} {oc22 kV22 dc22 pm22 cd22 ct22 : Value} {f23 : Addr} {od23 an23 : Option Addr} {sl23 : Array (Option Value)} {oc23 kV23 dc23 pm23 cd23 ct23 : Value} {f24 : Addr} {od24 an24 : Option Addr} {sl24 : Array (Option Value)} {oc24 kV24 dc24 pm24 cd24 ct24 : Value} {f25 : Addr} {od25 an25 : Option Addr} {sl25 : Array (Option Value)} {oc25 kV25 dc25 pm25 cd25 ct25 : Value} {f26 : Addr} {od26 an26 : Option Addr} {sl26 : Array (Option Value)} {oc26 kV26 dc26 pm26 cd26 ct26 : Value} {f27 : Addr} {od27 an27 : Option Addr} {sl27 : Array (Option Value)} {oc27 kV27 dc27 pm27 cd27 ct27 : Value} {dF : Addr} {esF : Array DictEntry} {nF : Nat} {t0 u0 : Addr} {dt0 du0 : Option Addr} {st0 su0 : Array (Option Value)} {nt0 nu0 : Nat} {q0_0 : Tok} {t1 u1 : Addr} {dt1 du1 : Option Addr} {st1 su1 : Array (Option Value)} {nt1 nu1 : Nat} {q0_1 q1_1 : Tok} {t2 u2 : Addr} {dt2 du2 : Option Addr} {st2 su2 : Array (Option Value)} {nt2 nu2 : Nat} {q0_2 q1_2 : Tok} {t3 u3 : Addr} {dt3 du3 : Option Addr} {st3 su3 : Array (Option Value)} {nt3 nu3 : Nat} {q0_3 q1_3 : Tok} {t4 u4 : Addr} {dt4 du4 : Option Addr} {st4 su4 : Array (Option Value)} {nt4 nu4 : Nat} {q0_4 q1_4 q2_4 : Tok} {t5 u5 : Addr} {dt5 du5 : Option Addr} {st5 su5 : Array (Option Value)} {nt5 nu5 : Nat} {q0_5 q1_5 q2_5 q3_5 : Tok} {t6 u6 : Addr} {dt6 du6 : Option Addr} {st6 su6 : Array (Option Value)} {nt6 nu6 : Nat} {q0_6 q1_6 q2_6 q3_6 : Tok} {t7 u7 : Addr} {dt7 du7 : Option Addr} {st7 su7 : Array (Option Value)} {nt7 nu7 : Nat} {q0_7 q1_7 q2_7 q3_7 : Tok} {t8 u8 : Addr} {dt8 du8 : Option Addr} {st8 su8 : Array (Option Value)} {nt8 nu8 : Nat} {q0_8 q1_8 q2_8 : Tok} {t9 u9 : Addr} {dt9 du9 : Option Addr} {st9 su9 : Array (Option Value)} {nt9 nu9 : Nat} {q0_9 q1_9 q2_9 q3_9 : Tok} {t10 u10 : Addr} {dt10 du10 : Option Addr} {st10 su10 : Array (Option Value)} {nt10 nu10 : Nat} {q0_10 q1_10 q2_10 q3_10 : Tok} {t11 u11 : Addr} {dt11 du11 : Option Addr} {st11 su11 : Array (Option Value)} {nt11 nu11 : Nat} {q0_11 q2_11 : Tok} {aSK2 : Addr} {aSKd2 : Option Addr} {aSKn2 : Nat} {aSKs2 : Array (Option Value)} {aSKt2_0 aSKt2_1 : Tok} {aSK3 : Addr} {aSKd3 : Option Addr} {aSKn3 : Nat} {aSKs3 : Array (Option Value)} {aSKt3_0 aSKt3_1 : Tok} {aSK1 : Addr} {aSKd1 : Option Addr} {aSKn1 : Nat} {aSKs1 : Array (Option Value)} {aSK5 : Addr} {aSKd5 : Option Addr} {aSKn5 : Nat} {aSKs5 : Array (Option Value)} {aSKt5_0 aSKt5_1 : Tok} {aSK6 : Addr} {aSKd6 : Option Addr} {aSKn6 : Nat} {aSKs6 : Array (Option Value)} {aSKt6_0 aSKt6_1 : Tok} {aSK4 : Addr} {aSKd4 : Option Addr} {aSKn4 : Nat} {aSKs4 : Array (Option Value)} {aSK8 : Addr} {aSKd8 : Option Addr} {aSKn8 : Nat} {aSKs8 : Array (Option Value)} {aSKt8_0 aSKt8_1 : Tok} {aSK9 : Addr} {aSKd9 : Option Addr} {aSKn9 : Nat} {aSKs9 : Array (Option Value)} {aSKt9_0 aSKt9_1 : Tok} {aSK10 : Addr} {aSKd10 : Option Addr} {aSKn10 : Nat} {aSKs10 : Array (Option Value)} {aSKt10_0 aSKt10_1 : Tok} {aSK11 : Addr} {aSKd11 : Option Addr} {aSKn11 : Nat} {aSKs11 : Array (Option Value)} {aSKt11_0 aSKt11_1 : Tok} {aSK7 : Addr} {aSKd7 : Option Addr} {aSKn7 : Nat} {aSKs7 : Array (Option Value)} {aSK0 : Addr} {aSKd0 : Option Addr} {aSKn0 : Nat} {aSKs0 : Array (Option Value)}
    (a0 : PySem.W.nsIn K mainGlobals "knots" = some (some (.ref f0))) (l0 : K.lookup f0 = some ⟨oc0, od0, .func (PySem.W.fnOf "knots" "knots" (defArgs s_knots) (defBody s_knots) (defScope s_knots) .none kV0 dc0 pm0 an0 cd0 ct0), sl0⟩) (c0 : PySem.W.codeIn K cd0 "knots" = true) (k0 : PySem.W.keepIn K (.ref f0) = true)
    (a1 : PySem.W.nsIn K mainGlobals "is_whole" = some (some (.ref f1))) (l1 : K.lookup f1 = some ⟨oc1, od1, .func (PySem.W.fnOf "is_whole" "is_whole" (defArgs s_is_whole) (defBody s_is_whole) (defScope s_is_whole) .none kV1 dc1 pm1 an1 cd1 ct1), sl1⟩) (c1 : PySem.W.codeIn K cd1 "is_whole" = true) (k1 : PySem.W.keepIn K (.ref f1) = true)
    (a2 : PySem.W.nsIn K mainGlobals "has_form" = some (some (.ref f2))) (l2 : K.lookup f2 = some ⟨oc2, od2, .func (PySem.W.fnOf "has_form" "has_form" (defArgs s_has_form) (defBody s_has_form) (defScope s_has_form) .none kV2 dc2 pm2 an2 cd2 ct2), sl2⟩) (c2 : PySem.W.codeIn K cd2 "has_form" = true) (k2 : PySem.W.keepIn K (.ref f2) = true)
    (a3 : PySem.W.nsIn K mainGlobals "many_numbers" = some (some (.ref f3))) (l3 : K.lookup f3 = some ⟨oc3, od3, .func (PySem.W.fnOf "many_numbers" "many_numbers" (defArgs s_many_numbers) (defBody s_many_numbers) (defScope s_many_numbers) .none kV3 dc3 pm3 an3 cd3 ct3), sl3⟩) (c3 : PySem.W.codeIn K cd3 "many_numbers" = true) (k3 : PySem.W.keepIn K (.ref f3) = true)
    (a4 : PySem.W.nsIn K mainGlobals "many_parts" = some (some (.ref f4))) (l4 : K.lookup f4 = some ⟨oc4, od4, .func (PySem.W.fnOf "many_parts" "many_parts" (defArgs s_many_parts) (defBody s_many_parts) (defScope s_many_parts) .none kV4 dc4 pm4 an4 cd4 ct4), sl4⟩) (c4 : PySem.W.codeIn K cd4 "many_parts" = true) (k4 : PySem.W.keepIn K (.ref f4) = true)
    (a5 : PySem.W.nsIn K mainGlobals "parts_of" = some (some (.ref f5))) (l5 : K.lookup f5 = some ⟨oc5, od5, .func (PySem.W.fnOf "parts_of" "parts_of" (defArgs s_parts_of) (defBody s_parts_of) (defScope s_parts_of) .none kV5 dc5 pm5 an5 cd5 ct5), sl5⟩) (c5 : PySem.W.codeIn K cd5 "parts_of" = true) (k5 : PySem.W.keepIn K (.ref f5) = true)
    (a6 : PySem.W.nsIn K mainGlobals "weight" = some (some (.ref f6))) (l6 : K.lookup f6 = some ⟨oc6, od6, .func (PySem.W.fnOf "weight" "weight" (defArgs s_weight) (defBody s_weight) (defScope s_weight) .none (.ref kD6) dc6 pm6 an6 cd6 ct6), sl6⟩) (c6 : PySem.W.codeIn K cd6 "weight" = true) (k6 : PySem.W.keepIn K (.ref f6) = true)
    (kd6 : PySem.W.nsIn K kD6 "stock" = some (some (.ref aSK0)))
    (a7 : PySem.W.nsIn K mainGlobals "comes_first" = some (some (.ref f7))) (l7 : K.lookup f7 = some ⟨oc7, od7, .func (PySem.W.fnOf "comes_first" "comes_first" (defArgs s_comes_first) (defBody s_comes_first) (defScope s_comes_first) .none (.ref kD7) dc7 pm7 an7 cd7 ct7), sl7⟩) (c7 : PySem.W.codeIn K cd7 "comes_first" = true) (k7 : PySem.W.keepIn K (.ref f7) = true)
    (kd7 : PySem.W.nsIn K kD7 "stock" = some (some (.ref aSK0)))
    (a8 : PySem.W.nsIn K mainGlobals "order_of" = some (some (.ref f8))) (l8 : K.lookup f8 = some ⟨oc8, od8, .func (PySem.W.fnOf "order_of" "order_of" (defArgs s_order_of) (defBody s_order_of) (defScope s_order_of) .none kV8 dc8 pm8 an8 cd8 ct8), sl8⟩) (c8 : PySem.W.codeIn K cd8 "order_of" = true) (k8 : PySem.W.keepIn K (.ref f8) = true)
    (a9 : PySem.W.nsIn K mainGlobals "standing_of" = some (some (.ref f9))) (l9 : K.lookup f9 = some ⟨oc9, od9, .func (PySem.W.fnOf "standing_of" "standing_of" (defArgs s_standing_of) (defBody s_standing_of) (defScope s_standing_of) .none kV9 dc9 pm9 an9 cd9 ct9), sl9⟩) (c9 : PySem.W.codeIn K cd9 "standing_of" = true) (k9 : PySem.W.keepIn K (.ref f9) = true)
    (a10 : PySem.W.nsIn K mainGlobals "place_of" = some (some (.ref f10))) (l10 : K.lookup f10 = some ⟨oc10, od10, .func (PySem.W.fnOf "place_of" "place_of" (defArgs s_place_of) (defBody s_place_of) (defScope s_place_of) .none kV10 dc10 pm10 an10 cd10 ct10), sl10⟩) (c10 : PySem.W.codeIn K cd10 "place_of" = true) (k10 : PySem.W.keepIn K (.ref f10) = true)
    (a11 : PySem.W.nsIn K mainGlobals "_law_cell" = some (some (.ref f11))) (l11 : K.lookup f11 = some ⟨oc11, od11, .func (PySem.W.fnOf "_law_cell" "_law_cell" (defArgs s_l_cell) (defBody s_l_cell) (defScope s_l_cell) .none kV11 dc11 pm11 an11 cd11 ct11), sl11⟩) (c11 : PySem.W.codeIn K cd11 "_law_cell" = true) (k11 : PySem.W.keepIn K (.ref f11) = true)
    (a12 : PySem.W.nsIn K mainGlobals "_law_flow" = some (some (.ref f12))) (l12 : K.lookup f12 = some ⟨oc12, od12, .func (PySem.W.fnOf "_law_flow" "_law_flow" (defArgs s_l_flow) (defBody s_l_flow) (defScope s_l_flow) .none kV12 dc12 pm12 an12 cd12 ct12), sl12⟩) (c12 : PySem.W.codeIn K cd12 "_law_flow" = true) (k12 : PySem.W.keepIn K (.ref f12) = true)
    (a13 : PySem.W.nsIn K mainGlobals "_law_draw" = some (some (.ref f13))) (l13 : K.lookup f13 = some ⟨oc13, od13, .func (PySem.W.fnOf "_law_draw" "_law_draw" (defArgs s_l_draw) (defBody s_l_draw) (defScope s_l_draw) .none kV13 dc13 pm13 an13 cd13 ct13), sl13⟩) (c13 : PySem.W.codeIn K cd13 "_law_draw" = true) (k13 : PySem.W.keepIn K (.ref f13) = true)
    (a14 : PySem.W.nsIn K mainGlobals "_law_numeral" = some (some (.ref f14))) (l14 : K.lookup f14 = some ⟨oc14, od14, .func (PySem.W.fnOf "_law_numeral" "_law_numeral" (defArgs s_l_numeral) (defBody s_l_numeral) (defScope s_l_numeral) .none kV14 dc14 pm14 an14 cd14 ct14), sl14⟩) (c14 : PySem.W.codeIn K cd14 "_law_numeral" = true) (k14 : PySem.W.keepIn K (.ref f14) = true)
    (a15 : PySem.W.nsIn K mainGlobals "_law_kinds" = some (some (.ref f15))) (l15 : K.lookup f15 = some ⟨oc15, od15, .func (PySem.W.fnOf "_law_kinds" "_law_kinds" (defArgs s_l_kinds) (defBody s_l_kinds) (defScope s_l_kinds) .none kV15 dc15 pm15 an15 cd15 ct15), sl15⟩) (c15 : PySem.W.codeIn K cd15 "_law_kinds" = true) (k15 : PySem.W.keepIn K (.ref f15) = true)
    (a16 : PySem.W.nsIn K mainGlobals "_law_has_form" = some (some (.ref f16))) (l16 : K.lookup f16 = some ⟨oc16, od16, .func (PySem.W.fnOf "_law_has_form" "_law_has_form" (defArgs s_l_has_form) (defBody s_l_has_form) (defScope s_l_has_form) .none kV16 dc16 pm16 an16 cd16 ct16), sl16⟩) (c16 : PySem.W.codeIn K cd16 "_law_has_form" = true) (k16 : PySem.W.keepIn K (.ref f16) = true)
    (a17 : PySem.W.nsIn K mainGlobals "_law_parts" = some (some (.ref f17))) (l17 : K.lookup f17 = some ⟨oc17, od17, .func (PySem.W.fnOf "_law_parts" "_law_parts" (defArgs s_l_parts) (defBody s_l_parts) (defScope s_l_parts) .none kV17 dc17 pm17 an17 cd17 ct17), sl17⟩) (c17 : PySem.W.codeIn K cd17 "_law_parts" = true) (k17 : PySem.W.keepIn K (.ref f17) = true)
    (a18 : PySem.W.nsIn K mainGlobals "_law_knots" = some (some (.ref f18))) (l18 : K.lookup f18 = some ⟨oc18, od18, .func (PySem.W.fnOf "_law_knots" "_law_knots" (defArgs s_l_knots) (defBody s_l_knots) (defScope s_l_knots) .none kV18 dc18 pm18 an18 cd18 ct18), sl18⟩) (c18 : PySem.W.codeIn K cd18 "_law_knots" = true) (k18 : PySem.W.keepIn K (.ref f18) = true)
    (a19 : PySem.W.nsIn K mainGlobals "_law_own" = some (some (.ref f19))) (l19 : K.lookup f19 = some ⟨oc19, od19, .func (PySem.W.fnOf "_law_own" "_law_own" (defArgs s_l_own) (defBody s_l_own) (defScope s_l_own) .none kV19 dc19 pm19 an19 cd19 ct19), sl19⟩) (c19 : PySem.W.codeIn K cd19 "_law_own" = true) (k19 : PySem.W.keepIn K (.ref f19) = true)
    (a20 : PySem.W.nsIn K mainGlobals "_law_replaced" = some (some (.ref f20))) (l20 : K.lookup f20 = some ⟨oc20, od20, .func (PySem.W.fnOf "_law_replaced" "_law_replaced" (defArgs s_l_replaced) (defBody s_l_replaced) (defScope s_l_replaced) .none kV20 dc20 pm20 an20 cd20 ct20), sl20⟩) (c20 : PySem.W.codeIn K cd20 "_law_replaced" = true) (k20 : PySem.W.keepIn K (.ref f20) = true)
    (a21 : PySem.W.nsIn K mainGlobals "_law_pairs" = some (some (.ref f21))) (l21 : K.lookup f21 = some ⟨oc21, od21, .func (PySem.W.fnOf "_law_pairs" "_law_pairs" (defArgs s_l_pairs) (defBody s_l_pairs) (defScope s_l_pairs) .none kV21 dc21 pm21 an21 cd21 ct21), sl21⟩) (c21 : PySem.W.codeIn K cd21 "_law_pairs" = true) (k21 : PySem.W.keepIn K (.ref f21) = true)
    (a22 : PySem.W.nsIn K mainGlobals "_law_unlike" = some (some (.ref f22))) (l22 : K.lookup f22 = some ⟨oc22, od22, .func (PySem.W.fnOf "_law_unlike" "_law_unlike" (defArgs s_l_unlike) (defBody s_l_unlike) (defScope s_l_unlike) .none kV22 dc22 pm22 an22 cd22 ct22), sl22⟩) (c22 : PySem.W.codeIn K cd22 "_law_unlike" = true) (k22 : PySem.W.keepIn K (.ref f22) = true)
    (a23 : PySem.W.nsIn K mainGlobals "_law_stock" = some (some (.ref f23))) (l23 : K.lookup f23 = some ⟨oc23, od23, .func (PySem.W.fnOf "_law_stock" "_law_stock" (defArgs s_l_stock) (defBody s_l_stock) (defScope s_l_stock) .none kV23 dc23 pm23 an23 cd23 ct23), sl23⟩) (c23 : PySem.W.codeIn K cd23 "_law_stock" = true) (k23 : PySem.W.keepIn K (.ref f23) = true)
    (a24 : PySem.W.nsIn K mainGlobals "_law_of_stock" = some (some (.ref f24))) (l24 : K.lookup f24 = some ⟨oc24, od24, .func (PySem.W.fnOf "_law_of_stock" "_law_of_stock" (defArgs s_l_of_stock) (defBody s_l_of_stock) (defScope s_l_of_stock) .none kV24 dc24 pm24 an24 cd24 ct24), sl24⟩) (c24 : PySem.W.codeIn K cd24 "_law_of_stock" = true) (k24 : PySem.W.keepIn K (.ref f24) = true)
    (a25 : PySem.W.nsIn K mainGlobals "_law_knot_right" = some (some (.ref f25))) (l25 : K.lookup f25 = some ⟨oc25, od25, .func (PySem.W.fnOf "_law_knot_right" "_law_knot_right" (defArgs s_l_knot_right) (defBody s_l_knot_right) (defScope s_l_knot_right) .none kV25 dc25 pm25 an25 cd25 ct25), sl25⟩) (c25 : PySem.W.codeIn K cd25 "_law_knot_right" = true) (k25 : PySem.W.keepIn K (.ref f25) = true)
    (a26 : PySem.W.nsIn K mainGlobals "_law_three_right" = some (some (.ref f26))) (l26 : K.lookup f26 = some ⟨oc26, od26, .func (PySem.W.fnOf "_law_three_right" "_law_three_right" (defArgs s_l_three_right) (defBody s_l_three_right) (defScope s_l_three_right) .none kV26 dc26 pm26 an26 cd26 ct26), sl26⟩) (c26 : PySem.W.codeIn K cd26 "_law_three_right" = true) (k26 : PySem.W.keepIn K (.ref f26) = true)
    (a27 : PySem.W.nsIn K mainGlobals "law" = some (some (.ref f27))) (l27 : K.lookup f27 = some ⟨oc27, od27, .func (PySem.W.fnOf "law" "law" (defArgs s_law) (defBody s_law) (defScope s_law) .none kV27 dc27 pm27 an27 cd27 ct27), sl27⟩) (c27 : PySem.W.codeIn K cd27 "law" = true) (k27 : PySem.W.keepIn K (.ref f27) = true)
    (z0 : PySem.W.nsIn K mainGlobals "len" = some none)
    (z1 : PySem.W.nsIn K mainGlobals "isinstance" = some none)
    (z2 : PySem.W.nsIn K mainGlobals "tuple" = some none)
    (z3 : PySem.W.nsIn K mainGlobals "list" = some none)
    (z4 : PySem.W.nsIn K mainGlobals "str" = some none)
    (z5 : PySem.W.nsIn K mainGlobals "int" = some none)
    (z6 : PySem.W.nsIn K mainGlobals "bool" = some none)
    (z7 : PySem.W.nsIn K mainGlobals "range" = some none)
    (z8 : PySem.W.nsIn K mainGlobals "zip" = some none)
    (z9 : PySem.W.nsIn K mainGlobals "enumerate" = some none)
    (z10 : PySem.W.nsIn K mainGlobals "reversed" = some none)
    (z11 : PySem.W.nsIn K mainGlobals "max" = some none)
    (z12 : PySem.W.nsIn K mainGlobals "all" = some none)
    (z13 : PySem.W.nsIn K mainGlobals "min" = some none)
    (z14 : PySem.W.nsIn K mainGlobals "sum" = some none)
    (z15 : PySem.W.nsIn K mainGlobals "any" = some none)
    (z16 : PySem.W.nsIn K mainGlobals "sorted" = some none)
    (z17 : PySem.W.nsIn K mainGlobals "set" = some none)
    (z18 : PySem.W.nsIn K mainGlobals "repr" = some none)
    (z19 : PySem.W.nsIn K mainGlobals "abs" = some none)
    (aF : PySem.W.nsIn K mainGlobals "FORMS" = some (some (.ref dF))) (lF : K.lookup dF = some ⟨.type "dict", none, .dict esF nF, #[]⟩) (kF : PySem.W.KeysLit w.params esF.toList) (wF : (dF == sysModules) = false)
    (e0 : PySem.W.nsIn K dF "in" = some (some (.ref t0))) (m0 : K.lookup t0 = some ⟨.type "tuple", dt0, .seq #[.int 1 q0_0, .ref u0, .none] nt0, st0⟩) (v0 : K.lookup u0 = some ⟨.type "tuple", du0, .seq #[] nu0, su0⟩)
    (e1 : PySem.W.nsIn K dF "num" = some (some (.ref t1))) (m1 : K.lookup t1 = some ⟨.type "tuple", dt1, .seq #[.int 1 q0_1, .ref u1, .str "num" q1_1] nt1, st1⟩) (v1 : K.lookup u1 = some ⟨.type "tuple", du1, .seq #[] nu1, su1⟩)
    (e2 : PySem.W.nsIn K dF "yes" = some (some (.ref t2))) (m2 : K.lookup t2 = some ⟨.type "tuple", dt2, .seq #[.int 0 q0_2, .ref u2, .str "truth" q1_2] nt2, st2⟩) (v2 : K.lookup u2 = some ⟨.type "tuple", du2, .seq #[] nu2, su2⟩)
    (e3 : PySem.W.nsIn K dF "no" = some (some (.ref t3))) (m3 : K.lookup t3 = some ⟨.type "tuple", dt3, .seq #[.int 0 q0_3, .ref u3, .str "truth" q1_3] nt3, st3⟩) (v3 : K.lookup u3 = some ⟨.type "tuple", du3, .seq #[] nu3, su3⟩)
    (e4 : PySem.W.nsIn K dF "plus" = some (some (.ref t4))) (m4 : K.lookup t4 = some ⟨.type "tuple", dt4, .seq #[.int 1 q0_4, .ref u4, .str "num" q1_4] nt4, st4⟩) (v4 : K.lookup u4 = some ⟨.type "tuple", du4, .seq #[.str "num" q2_4] nu4, su4⟩)
    (e5 : PySem.W.nsIn K dF "least" = some (some (.ref t5))) (m5 : K.lookup t5 = some ⟨.type "tuple", dt5, .seq #[.int 0 q0_5, .ref u5, .str "num" q1_5] nt5, st5⟩) (v5 : K.lookup u5 = some ⟨.type "tuple", du5, .seq #[.str "num" q2_5, .str "num" q3_5] nu5, su5⟩)
    (e6 : PySem.W.nsIn K dF "most" = some (some (.ref t6))) (m6 : K.lookup t6 = some ⟨.type "tuple", dt6, .seq #[.int 0 q0_6, .ref u6, .str "num" q1_6] nt6, st6⟩) (v6 : K.lookup u6 = some ⟨.type "tuple", du6, .seq #[.str "num" q2_6, .str "num" q3_6] nu6, su6⟩)
    (e7 : PySem.W.nsIn K dF "atmost" = some (some (.ref t7))) (m7 : K.lookup t7 = some ⟨.type "tuple", dt7, .seq #[.int 0 q0_7, .ref u7, .str "truth" q1_7] nt7, st7⟩) (v7 : K.lookup u7 = some ⟨.type "tuple", du7, .seq #[.str "num" q2_7, .str "num" q3_7] nu7, su7⟩)
    (e8 : PySem.W.nsIn K dF "not" = some (some (.ref t8))) (m8 : K.lookup t8 = some ⟨.type "tuple", dt8, .seq #[.int 0 q0_8, .ref u8, .str "truth" q1_8] nt8, st8⟩) (v8 : K.lookup u8 = some ⟨.type "tuple", du8, .seq #[.str "truth" q2_8] nu8, su8⟩)
    (e9 : PySem.W.nsIn K dF "both" = some (some (.ref t9))) (m9 : K.lookup t9 = some ⟨.type "tuple", dt9, .seq #[.int 0 q0_9, .ref u9, .str "truth" q1_9] nt9, st9⟩) (v9 : K.lookup u9 = some ⟨.type "tuple", du9, .seq #[.str "truth" q2_9, .str "truth" q3_9] nu9, su9⟩)
    (e10 : PySem.W.nsIn K dF "either" = some (some (.ref t10))) (m10 : K.lookup t10 = some ⟨.type "tuple", dt10, .seq #[.int 0 q0_10, .ref u10, .str "truth" q1_10] nt10, st10⟩) (v10 : K.lookup u10 = some ⟨.type "tuple", du10, .seq #[.str "truth" q2_10, .str "truth" q3_10] nu10, su10⟩)
    (e11 : PySem.W.nsIn K dF "if" = some (some (.ref t11))) (m11 : K.lookup t11 = some ⟨.type "tuple", dt11, .seq #[.int 0 q0_11, .ref u11, .none] nt11, st11⟩) (v11 : K.lookup u11 = some ⟨.type "tuple", du11, .seq #[.str "truth" q2_11, .none, .none] nu11, su11⟩)
    (aSKa : PySem.W.nsIn K mainGlobals "STOCK" = some (some (.ref aSK0)))
    (aSKl0 : K.lookup aSK0 = some ⟨.type "tuple", aSKd0, .seq #[.ref aSK1, .ref aSK4, .ref aSK7] aSKn0, aSKs0⟩)
    (aSKl1 : K.lookup aSK1 = some ⟨.type "tuple", aSKd1, .seq #[.ref aSK2, .ref aSK3] aSKn1, aSKs1⟩)
    (aSKl2 : K.lookup aSK2 = some ⟨.type "tuple", aSKd2, .seq #[.int (0) aSKt2_0, .int (1) aSKt2_1] aSKn2, aSKs2⟩)
    (aSKl3 : K.lookup aSK3 = some ⟨.type "tuple", aSKd3, .seq #[.int (1) aSKt3_0, .int (1) aSKt3_1] aSKn3, aSKs3⟩)
    (aSKl4 : K.lookup aSK4 = some ⟨.type "tuple", aSKd4, .seq #[.ref aSK5, .ref aSK6] aSKn4, aSKs4⟩)
    (aSKl5 : K.lookup aSK5 = some ⟨.type "tuple", aSKd5, .seq #[.int (1) aSKt5_0, .int (1) aSKt5_1] aSKn5, aSKs5⟩)
    (aSKl6 : K.lookup aSK6 = some ⟨.type "tuple", aSKd6, .seq #[.int (-1) aSKt6_0, .int (1) aSKt6_1] aSKn6, aSKs6⟩)
    (aSKl7 : K.lookup aSK7 = some ⟨.type "tuple", aSKd7, .seq #[.ref aSK8, .ref aSK9, .ref aSK10, .ref aSK11] aSKn7, aSKs7⟩)
    (aSKl8 : K.lookup aSK8 = some ⟨.type "tuple", aSKd8, .seq #[.str "least" aSKt8_0, .int (1) aSKt8_1] aSKn8, aSKs8⟩)
    (aSKl9 : K.lookup aSK9 = some ⟨.type "tuple", aSKd9, .seq #[.str "most" aSKt9_0, .int (1) aSKt9_1] aSKn9, aSKs9⟩)
    (aSKl10 : K.lookup aSK10 = some ⟨.type "tuple", aSKd10, .seq #[.str "atmost" aSKt10_0, .int (1) aSKt10_1] aSKn10, aSKs10⟩)
    (aSKl11 : K.lookup aSK11 = some ⟨.type "tuple", aSKd11, .seq #[.str "if" aSKt11_0, .int (1) aSKt11_1] aSKn11, aSKs11⟩)
    : ∃ fd : FuncData, (∀ (s : Shared) (v : Value), BindsTo s fd ⟨[v], []⟩ [("_law_script", v)]) ∧ ∀ base : Heap, K.In base → base.Ns mainGlobals mg → FnOk l.prog w K mg base CX0 44 fa fd ["_law_script"] (spLaw K) := by
  have e := hfa.symm.trans (PySem.W.mg_of X G a27)
  cases e
  have D_knots : DefAt K mg "knots" s_knots ["program"] := defAt_mk X G a0 l0 c0 k0 fun _ _ _ _ _ _ us hl => match us, hl with | [_], _ => rfl
  have D_is_whole : DefAt K mg "is_whole" s_is_whole ["thing"] := defAt_mk X G a1 l1 c1 k1 fun _ _ _ _ _ _ us hl => match us, hl with | [_], _ => rfl
  have D_has_form : DefAt K mg "has_form" s_has_form ["thing"] := defAt_mk X G a2 l2 c2 k2 fun _ _ _ _ _ _ us hl => match us, hl with | [_], _ => rfl
  have D_many_numbers : DefAt K mg "many_numbers" s_many_numbers ["word"] := defAt_mk X G a3 l3 c3 k3 fun _ _ _ _ _ _ us hl => match us, hl with | [_], _ => rfl
  have D_many_parts : DefAt K mg "many_parts" s_many_parts ["word"] := defAt_mk X G a4 l4 c4 k4 fun _ _ _ _ _ _ us hl => match us, hl with | [_], _ => rfl
  have D_parts_of : DefAt K mg "parts_of" s_parts_of ["knot"] := defAt_mk X G a5 l5 c5 k5 fun _ _ _ _ _ _ us hl => match us, hl with | [_], _ => rfl
  have D_weight : DefKw K mg "weight" s_weight ["program", "stock"] 1 ["stock"] [.ref aSK0] := defkw_mk X G a6 l6 c6 k6 kd6 rfl (fun _ _ _ _ _ _ _  => rfl) (fun _ _ _ _ _ _ _  => ⟨_, _, _, _, _, _, rfl, rfl, rfl⟩)
  have D_comes_first : DefKw K mg "comes_first" s_comes_first ["one", "other", "stock"] 2 ["stock"] [.ref aSK0] := defkw_mk2 X G a7 l7 c7 k7 kd7 rfl (fun _ _ _ _ _ _ _ _  => rfl) (fun _ _ _ _ _ _ _ _  => ⟨_, _, _, _, _, _, rfl, rfl, rfl⟩)
  have D_order_of : DefAt K mg "order_of" s_order_of ["program", "stock"] := defAt_mk X G a8 l8 c8 k8 fun _ _ _ _ _ _ us hl => match us, hl with | [_, _], _ => rfl
  have D_standing_of : DefAt K mg "standing_of" s_standing_of ["knot", "stock"] := defAt_mk X G a9 l9 c9 k9 fun _ _ _ _ _ _ us hl => match us, hl with | [_, _], _ => rfl
  have D_place_of : DefAt K mg "place_of" s_place_of ["knot"] := defAt_mk X G a10 l10 c10 k10 fun _ _ _ _ _ _ us hl => match us, hl with | [_], _ => rfl
  have D_l_cell : DefAt K mg "_law_cell" s_l_cell ["_law_script", "_law_k"] := defAt_mk X G a11 l11 c11 k11 fun _ _ _ _ _ _ us hl => match us, hl with | [_, _], _ => rfl
  have D_l_flow : DefAt K mg "_law_flow" s_l_flow ["_law_script", "_law_k"] := defAt_mk X G a12 l12 c12 k12 fun _ _ _ _ _ _ us hl => match us, hl with | [_, _], _ => rfl
  have D_l_draw : DefAt K mg "_law_draw" s_l_draw ["_law_flow_here", "_law_many"] := defAt_mk X G a13 l13 c13 k13 fun _ _ _ _ _ _ us hl => match us, hl with | [_, _], _ => rfl
  have D_l_numeral : DefAt K mg "_law_numeral" s_l_numeral ["_law_flow_here"] := defAt_mk X G a14 l14 c14 k14 fun _ _ _ _ _ _ us hl => match us, hl with | [_], _ => rfl
  have D_l_kinds : DefAt K mg "_law_kinds" s_l_kinds ["_law_flow_here"] := defAt_mk X G a15 l15 c15 k15 fun _ _ _ _ _ _ us hl => match us, hl with | [_], _ => rfl
  have D_l_has_form : DefAt K mg "_law_has_form" s_l_has_form ["_law_knot"] := defAt_mk X G a16 l16 c16 k16 fun _ _ _ _ _ _ us hl => match us, hl with | [_], _ => rfl
  have D_l_parts : DefAt K mg "_law_parts" s_l_parts ["_law_knot"] := defAt_mk X G a17 l17 c17 k17 fun _ _ _ _ _ _ us hl => match us, hl with | [_], _ => rfl
  have D_l_knots : DefAt K mg "_law_knots" s_l_knots ["_law_program"] := defAt_mk X G a18 l18 c18 k18 fun _ _ _ _ _ _ us hl => match us, hl with | [_], _ => rfl
  have D_l_own : DefAt K mg "_law_own" s_l_own ["_law_kinds_here", "_law_knot"] := defAt_mk X G a19 l19 c19 k19 fun _ _ _ _ _ _ us hl => match us, hl with | [_, _], _ => rfl
  have D_l_replaced : DefAt K mg "_law_replaced" s_l_replaced ["_law_program", "_law_left", "_law_new"] := defAt_mk X G a20 l20 c20 k20 fun _ _ _ _ _ _ us hl => match us, hl with | [_, _, _], _ => rfl
  have D_l_pairs : DefAt K mg "_law_pairs" s_l_pairs ["_law_flow_here", "_law_some"] := defAt_mk X G a21 l21 c21 k21 fun _ _ _ _ _ _ us hl => match us, hl with | [_, _], _ => rfl
  have D_l_unlike : DefAt K mg "_law_unlike" s_l_unlike ["_law_flow_here", "_law_many", "_law_least"] := defAt_mk X G a22 l22 c22 k22 fun _ _ _ _ _ _ us hl => match us, hl with | [_, _, _], _ => rfl
  have D_l_stock : DefAt K mg "_law_stock" s_l_stock ["_law_flow_here"] := defAt_mk X G a23 l23 c23 k23 fun _ _ _ _ _ _ us hl => match us, hl with | [_], _ => rfl
  have D_l_of_stock : DefAt K mg "_law_of_stock" s_l_of_stock ["_law_flow_here", "_law_shop", "_law_kinds_here", "_law_kind", "_law_room", "_law_down"] := defAt_mk X G a24 l24 c24 k24 fun _ _ _ _ _ _ us hl => match us, hl with | [_, _, _, _, _, _], _ => rfl
  have D_l_knot_right : DefAt K mg "_law_knot_right" s_l_knot_right ["_law_shop", "_law_program", "_law_at", "_law_new"] := defAt_mk X G a25 l25 c25 k25 fun _ _ _ _ _ _ us hl => match us, hl with | [_, _, _, _], _ => rfl
  have D_l_three_right : DefAt K mg "_law_three_right" s_l_three_right ["_law_shop", "_law_some"] := defAt_mk X G a26 l26 c26 k26 fun _ _ _ _ _ _ us hl => match us, hl with | [_, _], _ => rfl
  have D_law : DefAt K mg "law" s_law ["_law_script"] := defAt_mk X G a27 l27 c27 k27 fun _ _ _ _ _ _ us hl => match us, hl with | [_], _ => rfl
  have SG_ : StockG K mg aSK0 := ⟨PySem.W.mg_of X G aSKa, fun H => (.tup (show L2.SqT K H aSK0 [.ref aSK1, .ref aSK4, .ref aSK7] from .inr ⟨_, _, _, aSKl0, rfl, rfl, (by show 3 ≤ sizeLine; decide), (.cons rfl (.cons rfl (.cons rfl .nil)))⟩) (.cons (.tup (show L2.SqT K H aSK1 [.ref aSK2, .ref aSK3] from .inr ⟨_, _, _, aSKl1, rfl, rfl, (by show 2 ≤ sizeLine; decide), (.cons rfl (.cons rfl .nil))⟩) (.cons (.tup (show L2.SqT K H aSK2 [.int (0), .int (1)] from .inr ⟨_, _, _, aSKl2, rfl, rfl, (by show 2 ≤ sizeLine; decide), (.cons ⟨_, rfl⟩ (.cons ⟨_, rfl⟩ .nil))⟩) (.cons (.int _) (.cons (.int _) .nil))) (.cons (.tup (show L2.SqT K H aSK3 [.int (1), .int (1)] from .inr ⟨_, _, _, aSKl3, rfl, rfl, (by show 2 ≤ sizeLine; decide), (.cons ⟨_, rfl⟩ (.cons ⟨_, rfl⟩ .nil))⟩) (.cons (.int _) (.cons (.int _) .nil))) .nil))) (.cons (.tup (show L2.SqT K H aSK4 [.ref aSK5, .ref aSK6] from .inr ⟨_, _, _, aSKl4, rfl, rfl, (by show 2 ≤ sizeLine; decide), (.cons rfl (.cons rfl .nil))⟩) (.cons (.tup (show L2.SqT K H aSK5 [.int (1), .int (1)] from .inr ⟨_, _, _, aSKl5, rfl, rfl, (by show 2 ≤ sizeLine; decide), (.cons ⟨_, rfl⟩ (.cons ⟨_, rfl⟩ .nil))⟩) (.cons (.int _) (.cons (.int _) .nil))) (.cons (.tup (show L2.SqT K H aSK6 [.int (-1), .int (1)] from .inr ⟨_, _, _, aSKl6, rfl, rfl, (by show 2 ≤ sizeLine; decide), (.cons ⟨_, rfl⟩ (.cons ⟨_, rfl⟩ .nil))⟩) (.cons (.int _) (.cons (.int _) .nil))) .nil))) (.cons (.tup (show L2.SqT K H aSK7 [.ref aSK8, .ref aSK9, .ref aSK10, .ref aSK11] from .inr ⟨_, _, _, aSKl7, rfl, rfl, (by show 4 ≤ sizeLine; decide), (.cons rfl (.cons rfl (.cons rfl (.cons rfl .nil))))⟩) (.cons (.tup (show L2.SqT K H aSK8 [.str "least", .int (1)] from .inr ⟨_, _, _, aSKl8, rfl, rfl, (by show 2 ≤ sizeLine; decide), (.cons ⟨_, rfl⟩ (.cons ⟨_, rfl⟩ .nil))⟩) (.cons (.str _) (.cons (.int _) .nil))) (.cons (.tup (show L2.SqT K H aSK9 [.str "most", .int (1)] from .inr ⟨_, _, _, aSKl9, rfl, rfl, (by show 2 ≤ sizeLine; decide), (.cons ⟨_, rfl⟩ (.cons ⟨_, rfl⟩ .nil))⟩) (.cons (.str _) (.cons (.int _) .nil))) (.cons (.tup (show L2.SqT K H aSK10 [.str "atmost", .int (1)] from .inr ⟨_, _, _, aSKl10, rfl, rfl, (by show 2 ≤ sizeLine; decide), (.cons ⟨_, rfl⟩ (.cons ⟨_, rfl⟩ .nil))⟩) (.cons (.str _) (.cons (.int _) .nil))) (.cons (.tup (show L2.SqT K H aSK11 [.str "if", .int (1)] from .inr ⟨_, _, _, aSKl11, rfl, rfl, (by show 2 ≤ sizeLine; decide), (.cons ⟨_, rfl⟩ (.cons ⟨_, rfl⟩ .nil))⟩) (.cons (.str _) (.cons (.int _) .nil))) .nil))))) .nil))))⟩
  have B : Bt mg := ⟨PySem.W.mg_none_of X G z0, PySem.W.mg_none_of X G z1, PySem.W.mg_none_of X G z2, PySem.W.mg_none_of X G z3, PySem.W.mg_none_of X G z4, PySem.W.mg_none_of X G z5, PySem.W.mg_none_of X G z6, PySem.W.mg_none_of X G z7, PySem.W.mg_none_of X G z8, PySem.W.mg_none_of X G z9, PySem.W.mg_none_of X G z10, PySem.W.mg_none_of X G z11, PySem.W.mg_none_of X G z12, PySem.W.mg_none_of X G z13, PySem.W.mg_none_of X G z14, PySem.W.mg_none_of X G z15, PySem.W.mg_none_of X G z16, PySem.W.mg_none_of X G z17, PySem.W.mg_none_of X G z18, PySem.W.mg_none_of X G z19⟩
  have F : Forms K w mg dF := by
    refine ⟨PySem.W.mg_of X G aF, ⟨esF, nF, lF, kF, wF⟩, fun p => ?_⟩
    cases p with
    | inp k => exact ⟨t0, u0, e0, ⟨_, _, _, m0, rfl, rfl, (by show 3 ≤ sizeLine; decide), (.cons ⟨_, rfl⟩ (.cons rfl (.cons rfl .nil)))⟩, ⟨_, _, _, v0, rfl, rfl, (by show 0 ≤ sizeLine; decide), .nil⟩⟩
    | num c => exact ⟨t1, u1, e1, ⟨_, _, _, m1, rfl, rfl, (by show 3 ≤ sizeLine; decide), (.cons ⟨_, rfl⟩ (.cons rfl (.cons ⟨_, rfl⟩ .nil)))⟩, ⟨_, _, _, v1, rfl, rfl, (by show 0 ≤ sizeLine; decide), .nil⟩⟩
    | tr b =>
      cases b with
      | true => exact ⟨t2, u2, e2, ⟨_, _, _, m2, rfl, rfl, (by show 3 ≤ sizeLine; decide), (.cons ⟨_, rfl⟩ (.cons rfl (.cons ⟨_, rfl⟩ .nil)))⟩, ⟨_, _, _, v2, rfl, rfl, (by show 0 ≤ sizeLine; decide), .nil⟩⟩
      | false => exact ⟨t3, u3, e3, ⟨_, _, _, m3, rfl, rfl, (by show 3 ≤ sizeLine; decide), (.cons ⟨_, rfl⟩ (.cons rfl (.cons ⟨_, rfl⟩ .nil)))⟩, ⟨_, _, _, v3, rfl, rfl, (by show 0 ≤ sizeLine; decide), .nil⟩⟩
    | plus c a => exact ⟨t4, u4, e4, ⟨_, _, _, m4, rfl, rfl, (by show 3 ≤ sizeLine; decide), (.cons ⟨_, rfl⟩ (.cons rfl (.cons ⟨_, rfl⟩ .nil)))⟩, ⟨_, _, _, v4, rfl, rfl, (by show 1 ≤ sizeLine; decide), (.cons ⟨_, rfl⟩ .nil)⟩⟩
    | bin w a b =>
      cases w with
      | least => exact ⟨t5, u5, e5, ⟨_, _, _, m5, rfl, rfl, (by show 3 ≤ sizeLine; decide), (.cons ⟨_, rfl⟩ (.cons rfl (.cons ⟨_, rfl⟩ .nil)))⟩, ⟨_, _, _, v5, rfl, rfl, (by show 2 ≤ sizeLine; decide), (.cons ⟨_, rfl⟩ (.cons ⟨_, rfl⟩ .nil))⟩⟩
      | most => exact ⟨t6, u6, e6, ⟨_, _, _, m6, rfl, rfl, (by show 3 ≤ sizeLine; decide), (.cons ⟨_, rfl⟩ (.cons rfl (.cons ⟨_, rfl⟩ .nil)))⟩, ⟨_, _, _, v6, rfl, rfl, (by show 2 ≤ sizeLine; decide), (.cons ⟨_, rfl⟩ (.cons ⟨_, rfl⟩ .nil))⟩⟩
      | atmost => exact ⟨t7, u7, e7, ⟨_, _, _, m7, rfl, rfl, (by show 3 ≤ sizeLine; decide), (.cons ⟨_, rfl⟩ (.cons rfl (.cons ⟨_, rfl⟩ .nil)))⟩, ⟨_, _, _, v7, rfl, rfl, (by show 2 ≤ sizeLine; decide), (.cons ⟨_, rfl⟩ (.cons ⟨_, rfl⟩ .nil))⟩⟩
      | both => exact ⟨t9, u9, e9, ⟨_, _, _, m9, rfl, rfl, (by show 3 ≤ sizeLine; decide), (.cons ⟨_, rfl⟩ (.cons rfl (.cons ⟨_, rfl⟩ .nil)))⟩, ⟨_, _, _, v9, rfl, rfl, (by show 2 ≤ sizeLine; decide), (.cons ⟨_, rfl⟩ (.cons ⟨_, rfl⟩ .nil))⟩⟩
      | either => exact ⟨t10, u10, e10, ⟨_, _, _, m10, rfl, rfl, (by show 3 ≤ sizeLine; decide), (.cons ⟨_, rfl⟩ (.cons rfl (.cons ⟨_, rfl⟩ .nil)))⟩, ⟨_, _, _, v10, rfl, rfl, (by show 2 ≤ sizeLine; decide), (.cons ⟨_, rfl⟩ (.cons ⟨_, rfl⟩ .nil))⟩⟩
    | neg a => exact ⟨t8, u8, e8, ⟨_, _, _, m8, rfl, rfl, (by show 3 ≤ sizeLine; decide), (.cons ⟨_, rfl⟩ (.cons rfl (.cons ⟨_, rfl⟩ .nil)))⟩, ⟨_, _, _, v8, rfl, rfl, (by show 1 ≤ sizeLine; decide), (.cons ⟨_, rfl⟩ .nil)⟩⟩
    | ite p a b => exact ⟨t11, u11, e11, ⟨_, _, _, m11, rfl, rfl, (by show 3 ≤ sizeLine; decide), (.cons ⟨_, rfl⟩ (.cons rfl (.cons rfl .nil)))⟩, ⟨_, _, _, v11, rfl, rfl, (by show 3 ≤ sizeLine; decide), (.cons ⟨_, rfl⟩ (.cons rfl (.cons rfl .nil)))⟩⟩
  refine ⟨PySem.W.fnOf "law" "law" (defArgs s_law) (defBody s_law) (defScope s_law) .none kV27 dc27 pm27 an27 cd27 ct27, fun s v => .of_eq rfl, fun base _ _ => ?_⟩
  have C_cell := ok_l_cell (P := l.prog) (w := w) (base := base) B D_l_cell
  have C_flow := ok_l_flow C_cell D_l_flow
  have C_draw := ok_l_draw (P := l.prog) (w := w) (base := base) D_l_draw
  have C_numeral := ok_l_numeral C_draw D_l_numeral
  have C_kinds := ok_l_kinds (K := K) B C_draw D_l_kinds
  have C_whole := ok_is_whole (P := l.prog) (w := w) (base := base) B D_is_whole
  have C_mn := ok_many_numbers (P := l.prog) (base := base) F D_many_numbers
  have C_mp := ok_many_parts (P := l.prog) (base := base) B F D_many_parts
  have C_hf := ok_has_form B F C_whole C_mn C_mp D_has_form
  have C_po := ok_parts_of (K := K) C_mn D_parts_of
  have C_kn := ok_knots C_hf C_po D_knots
  have C_place := ok_place_of (P := l.prog) (w := w) (base := base) (K := K) D_place_of
  have C_st := ok_standing_of B C_place D_standing_of
  have C_or := ok_order_of B C_kn C_st D_order_of
  have C_cf := ok_comes_first C_or D_comes_first
  have C_lhf := ok_l_has_form (P := l.prog) (w := w) (base := base) (K := K) B D_l_has_form
  have C_lp := ok_l_parts (P := l.prog) (w := w) (base := base) B D_l_parts
  have C_lk := ok_l_knots C_lhf C_lp D_l_knots 40
  have C_lo := ok_l_own (P := l.prog) (w := w) (base := base) (K := K) B D_l_own 40
  have C_lpairs := ok_l_pairs (K := K) B C_draw D_l_pairs
  have C_unl := ok_l_unlike (K := K) B C_numeral D_l_unlike
  have C_stock := ok_l_stock B C_draw C_unl C_lpairs D_l_stock
  have C_os := ok_l_of_stock (K := K) B C_draw D_l_of_stock 11
  have C_rep := ok_l_replaced (K := K) B C_lhf C_lp D_l_replaced 40
  have C_w := ok_weight C_kn C_st D_weight
  have C_kr := ok_l_knot_right B C_lk C_rep C_cf D_l_knot_right
  have C_tr := ok_l_three_right B C_w C_cf D_l_three_right
  exact ok_law B C_flow C_draw C_stock C_kinds C_os C_lk C_lo C_kr C_tr (fun_mk l27 c27 k27)

end Lm
open PySem PySem.W PyProof.Rows
set_option maxRecDepth 100000 in
set_option maxHeartbeats 0 in
theorem PySem.Challenge.cw_leastmaker_k16_whole_lighter_parts_holds : PySem.Challenge.rw_leastmaker_k16_whole_lighter_parts.Holds := by
  w_on; o_law; k_head; (case hw => w_witness2)
  k_fill
  refine L2.walk_of (l := PySem.Challenge.rw_leastmaker_k16_whole_lighter_parts) (n := 63) (k := 44) (x := "_law_script") (CX := fun _ => L2.CX0) (sp := fun w => Lm.spLaw _) rfl (by decide) rfl ⟨rfl, by decide, by decide⟩ (fun w h Y => PySem.W.kIn_of Y) ?F (fun _ _ a ns hl _ hS => ⟨a, ns, rfl, hS, hl, fun _ => rfl⟩) (fun _ _ _ _ _ h => h)
  case F =>
    intro w mg fa h KX G hmg
    refine' Lm.all_mk KX G hmg ?a0 ?l0 ?c0 ?k0 ?a1 ?l1 ?c1 ?k1 ?a2 ?l2 ?c2 ?k2 ?a3 ?l3 ?c3 ?k3 ?a4 ?l4 ?c4 ?k4 ?a5 ?l5 ?c5 ?k5 ?a6 ?l6 ?c6 ?k6 ?kd6 ?a7 ?l7 ?c7 ?k7 ?kd7 ?a8 ?l8 ?c8 ?k8 ?a9 ?l9 ?c9 ?k9 ?a10 ?l10 ?c10 ?k10 ?a11 ?l11 ?c11 ?k11 ?a12 ?l12 ?c12 ?k12 ?a13 ?l13 ?c13 ?k13 ?a14 ?l14 ?c14 ?k14 ?a15 ?l15 ?c15 ?k15 ?a16 ?l16 ?c16 ?k16 ?a17 ?l17 ?c17 ?k17 ?a18 ?l18 ?c18 ?k18 ?a19 ?l19 ?c19 ?k19 ?a20 ?l20 ?c20 ?k20 ?a21 ?l21 ?c21 ?k21 ?a22 ?l22 ?c22 ?k22 ?a23 ?l23 ?c23 ?k23 ?a24 ?l24 ?c24 ?k24 ?a25 ?l25 ?c25 ?k25 ?a26 ?l26 ?c26 ?k26 ?a27 ?l27 ?c27 ?k27 ?z0 ?z1 ?z2 ?z3 ?z4 ?z5 ?z6 ?z7 ?z8 ?z9 ?z10 ?z11 ?z12 ?z13 ?z14 ?z15 ?z16 ?z17 ?z18 ?z19 ?aF ?lF ?kF ?wF ?e0 ?m0 ?v0 ?e1 ?m1 ?v1 ?e2 ?m2 ?v2 ?e3 ?m3 ?v3 ?e4 ?m4 ?v4 ?e5 ?m5 ?v5 ?e6 ?m6 ?v6 ?e7 ?m7 ?v7 ?e8 ?m8 ?v8 ?e9 ?m9 ?v9 ?e10 ?m10 ?v10 ?e11 ?m11 ?v11 ?aSKa ?aSKl0 ?aSKl1 ?aSKl2 ?aSKl3 ?aSKl4 ?aSKl5 ?aSKl6 ?aSKl7 ?aSKl8 ?aSKl9 ?aSKl10 ?aSKl11
    (case a0 => k_is)
    (case l0 => k_is)
    (case c0 => k_is)
    (case k0 => k_is)
    (case a1 => k_is)
    (case l1 => k_is)
    (case c1 => k_is)
    (case k1 => k_is)
    (case a2 => k_is)
    (case l2 => k_is)
    (case c2 => k_is)
    (case k2 => k_is)
    (case a3 => k_is)
    (case l3 => k_is)
    (case c3 => k_is)
    (case k3 => k_is)
    (case a4 => k_is)
    (case l4 => k_is)
    (case c4 => k_is)
    (case k4 => k_is)
    (case a5 => k_is)
    (case l5 => k_is)
    (case c5 => k_is)
    (case k5 => k_is)
    (case a6 => k_is)
    (case l6 => k_is)
    (case c6 => k_is)
    (case k6 => k_is)
    (case kd6 => k_is)
    (case a7 => k_is)
    (case l7 => k_is)
    (case c7 => k_is)
    (case k7 => k_is)
    (case kd7 => k_is)
    (case a8 => k_is)
    (case l8 => k_is)
    (case c8 => k_is)
    (case k8 => k_is)
    (case a9 => k_is)
    (case l9 => k_is)
    (case c9 => k_is)
    (case k9 => k_is)
    (case a10 => k_is)
    (case l10 => k_is)
    (case c10 => k_is)
    (case k10 => k_is)
    (case a11 => k_is)
    (case l11 => k_is)
    (case c11 => k_is)
    (case k11 => k_is)
    (case a12 => k_is)
    (case l12 => k_is)
    (case c12 => k_is)
    (case k12 => k_is)
    (case a13 => k_is)
    (case l13 => k_is)
    (case c13 => k_is)
    (case k13 => k_is)
    (case a14 => k_is)
    (case l14 => k_is)
    (case c14 => k_is)
    (case k14 => k_is)
    (case a15 => k_is)
    (case l15 => k_is)
    (case c15 => k_is)
    (case k15 => k_is)
    (case a16 => k_is)
    (case l16 => k_is)
    (case c16 => k_is)
    (case k16 => k_is)
    (case a17 => k_is)
    (case l17 => k_is)
    (case c17 => k_is)
    (case k17 => k_is)
    (case a18 => k_is)
    (case l18 => k_is)
    (case c18 => k_is)
    (case k18 => k_is)
    (case a19 => k_is)
    (case l19 => k_is)
    (case c19 => k_is)
    (case k19 => k_is)
    (case a20 => k_is)
    (case l20 => k_is)
    (case c20 => k_is)
    (case k20 => k_is)
    (case a21 => k_is)
    (case l21 => k_is)
    (case c21 => k_is)
    (case k21 => k_is)
    (case a22 => k_is)
    (case l22 => k_is)
    (case c22 => k_is)
    (case k22 => k_is)
    (case a23 => k_is)
    (case l23 => k_is)
    (case c23 => k_is)
    (case k23 => k_is)
    (case a24 => k_is)
    (case l24 => k_is)
    (case c24 => k_is)
    (case k24 => k_is)
    (case a25 => k_is)
    (case l25 => k_is)
    (case c25 => k_is)
    (case k25 => k_is)
    (case a26 => k_is)
    (case l26 => k_is)
    (case c26 => k_is)
    (case k26 => k_is)
    (case a27 => k_is)
    (case l27 => k_is)
    (case c27 => k_is)
    (case k27 => k_is)
    (case z0 => k_is)
    (case z1 => k_is)
    (case z2 => k_is)
    (case z3 => k_is)
    (case z4 => k_is)
    (case z5 => k_is)
    (case z6 => k_is)
    (case z7 => k_is)
    (case z8 => k_is)
    (case z9 => k_is)
    (case z10 => k_is)
    (case z11 => k_is)
    (case z12 => k_is)
    (case z13 => k_is)
    (case z14 => k_is)
    (case z15 => k_is)
    (case z16 => k_is)
    (case z17 => k_is)
    (case z18 => k_is)
    (case z19 => k_is)
    (case aF => k_is)
    (case lF => k_is)
    (case kF => k_keys)
    (case wF => first | rfl | decide | k_is)
    (case e0 => k_is)
    (case m0 => k_is)
    (case v0 => k_is)
    (case e1 => k_is)
    (case m1 => k_is)
    (case v1 => k_is)
    (case e2 => k_is)
    (case m2 => k_is)
    (case v2 => k_is)
    (case e3 => k_is)
    (case m3 => k_is)
    (case v3 => k_is)
    (case e4 => k_is)
    (case m4 => k_is)
    (case v4 => k_is)
    (case e5 => k_is)
    (case m5 => k_is)
    (case v5 => k_is)
    (case e6 => k_is)
    (case m6 => k_is)
    (case v6 => k_is)
    (case e7 => k_is)
    (case m7 => k_is)
    (case v7 => k_is)
    (case e8 => k_is)
    (case m8 => k_is)
    (case v8 => k_is)
    (case e9 => k_is)
    (case m9 => k_is)
    (case v9 => k_is)
    (case e10 => k_is)
    (case m10 => k_is)
    (case v10 => k_is)
    (case e11 => k_is)
    (case m11 => k_is)
    (case v11 => k_is)
    (case aSKa => k_is)
    (case aSKl0 => k_is)
    (case aSKl1 => k_is)
    (case aSKl2 => k_is)
    (case aSKl3 => k_is)
    (case aSKl4 => k_is)
    (case aSKl5 => k_is)
    (case aSKl6 => k_is)
    (case aSKl7 => k_is)
    (case aSKl8 => k_is)
    (case aSKl9 => k_is)
    (case aSKl10 => k_is)
    (case aSKl11 => k_is)

