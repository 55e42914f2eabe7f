import PyProof.Rows.All
import Wide.All
import OpenK.AllK
import Wide.FinOn
import HandS.ForMost
import HandS.IsInst
import HandS.TupAny
import HandS.Flow
import HandS.Style
import HandS.RevRange
import HandS.Conv
import HandS.More
import HandS.Zip
import KE.KDictZip
import KE.KDictList
import KE.KRevSl
import HandS.ForExc
import HandS.ExcInit
import HandS.ExcField
import HandS.HotCalls
import HandS.SetFor
import KE.KExcIs
import KE.GoesEnum
import KE.GoesMore
import HandS.Star
import HandS.ExcOwn
import HandS.WordsExc
import HandS.Walk
import HandS.Codes
import HandS.Defaults
import HandS.List
import KE.DataEq
import HandS.TupLe
import PySem.Challenge.RW_leastmaker_k22_empty_or_a_point
set_option Elab.async false
set_option linter.all false
set_option maxRecDepth 100000
set_option maxHeartbeats 2000000
namespace LmR
open PySem PySem.Spec PyProof.Rows L2
/-! ### t[::-1] of a tuple -/
section
variable {prog : Program} {w : World} {A : Around} {E : Value → Shared → Prop} {s : Shared}
theorem pick_rev (xs : Array Value) : ((List.range xs.size).filterMap fun (m : Nat) => xs[(((xs.size : Int) - 1) + (m : Int) * (-1)).toNat]?).toArray = xs.toList.reverse.toArray := by
  congr 1
  have e : ∀ n, n ≤ xs.size → ((List.range n).filterMap fun (m : Nat) => xs[(((xs.size : Int) - 1) + (m : Int) * (-1)).toNat]?) = (xs.toList.reverse).take n := by
    intro n
    induction n with
    | zero => intro _; rfl
    | succ n ih =>
      intro h
      rw [List.range_succ, List.filterMap_append, ih (by omega), List.take_add_one]
      congr 1
      have e1 : (((xs.size : Int) - 1) + (n : Int) * (-1)).toNat = xs.size - 1 - n := by omega
      have e2 : xs.toList.reverse[n]? = xs[xs.size - 1 - n]? := by
        rw [List.getElem?_reverse (by rw [Array.length_toList]; omega), Array.length_toList, Array.getElem?_toList]
      rw [e2]
      have hlt : xs.size - 1 - n < xs.size := by omega
      simp only [List.filterMap_cons, List.filterMap_nil]
      rw [e1, Array.getElem?_eq_getElem hlt]
      rfl
  rw [e xs.size (Nat.le_refl _)]
  exact List.take_of_length_le (by rw [List.length_reverse, Array.length_toList]; exact Nat.le_refl _)
theorem rev_applied {sl : Addr} {vl vu vs : Value} {n : Nat} {Q : Int × Int × Nat → Shared → Prop} (hs : s.heap.IsSliceOf sl vl vu vs) (pl : IsPart vl none) (pu : IsPart vu none) (ps : IsPart vs (some (-1)))
    (h : Q ((n : Int) - 1, -1, n) s) : wpAny (model prog w) A (Builtin.Slice.sliceApplied (.ref sl) (pure (n : Int))) Q E s := by
  obtain ⟨os, hos, hcs, hds⟩ := id hs
  unfold Builtin.Slice.sliceApplied Builtin.Slice.sliceFields
  refine wpAny_bind (wpAny_bind (wpAny_field hos hds (x := vl) rfl (wpAny_bind (wpAny_field hos hds (x := vu) rfl (wpAny_bind (wpAny_field hos hds (x := vs) rfl (wpAny_pure ?_)))))))
  refine wpAny_bind (HT.slicePart_ ps ?_)
  show wpAny _ _ (if ((-1 : Int) == 0) = true then _ else _) _ _ s
  rw [if_neg (by decide)]
  refine wpAny_bind (HT.slicePart_ pl (wpAny_bind (HT.slicePart_ pu (wpAny_bind (wpAny_pure ?_)))))
  have e : Builtin.Slice.sliceAdjust none none (-1) (n : Int) = ((n : Int) - 1, -1) := by
    simp [Builtin.Slice.sliceAdjust]
  have e2 : Builtin.Slice.slicePlaces ((n : Int) - 1) (-1) (-1) = n := by
    unfold Builtin.Slice.slicePlaces
    simp
    omega
  show wpAny _ _ (match Builtin.Slice.sliceAdjust none none (-1) (n : Int) with | (lo, hi) => pure (lo, (-1 : Int), Builtin.Slice.slicePlaces lo hi (-1))) _ _ s
  rw [e]
  show wpAny _ _ (pure ((n : Int) - 1, (-1 : Int), Builtin.Slice.slicePlaces ((n : Int) - 1) (-1) (-1))) _ _ s
  rw [e2]
  exact wpAny_pure h
theorem getItem_tuple_rev {t sl : Addr} {items : Array Value} {vl vu vs : Value} {Q : Value → Shared → Prop} (ht : IsTup s.heap t items) (hs : s.heap.IsSliceOf sl vl vu vs) (pl : IsPart vl none) (pu : IsPart vu none) (ps : IsPart vs (some (-1)))
    (h : Q (.ref s.heap.objs.size) { s with heap := s.heap.push { cls := .type "tuple", data := .seq items.toList.reverse.toArray } })
    (hsz : items.size ≤ sizeLine) : wpAny (model prog w) A (getItem (.ref t) (.ref sl)) Q E s := by
  have htake : sizeOk (.seq items.toList.reverse.toArray) := by
    show (items.toList.reverse).toArray.size ≤ sizeLine
    rw [List.size_toArray, List.length_reverse, Array.length_toList]
    omega
  obtain ⟨os, hos, hcs, hds⟩ := id hs
  have hTs : s.TypeIs (.ref sl) "slice" := ⟨os, hos, hcs⟩
  unfold getItem
  try with_reducible refine wpAny_holding ?_
  first | refine wpAny_bind (wpAny_pure ?_) | skip
  refine wpAny_bind (wpAny_sequenceKey ht.typeIs (by decide) ?_)
  refine wpAny_bind (wpAny_callSpecial?_slot (name := Str.ofString "__getitem__") ht.typeIs PyProof.Rows.slot_tuple_getitem
    (wpAny_call_entry PyProof.Rows.slot_tuple_getitem ht.typeIs PyProof.Rows.entry_tuple_getitem ?_ (PyProof.Rows.args_tuple_getitem _ _)))
  show wpAny _ _ (Builtin.Tuple.tupleItemsOf (.ref t) >>= _) _ _ s
  refine wpAny_bind (PyProof.Rows.tupleItemsOf_ ht ?_)
  refine wpAny_bind (wpAny_typeOf hTs ?_)
  rw [if_pos (by decide)]
  refine wpAny_bind (rev_applied hs pl pu ps ?_)
  have hno : ¬ (((items.size : Int) - 1 == 0 && (-1 : Int) == 1 && items.size == items.size) = true) := by
    intro q
    rw [Bool.and_eq_true, Bool.and_eq_true] at q
    exact absurd q.1.2 (by decide)
  show wpAny _ _ (if ((items.size : Int) - 1 == 0 && (-1 : Int) == 1 && items.size == items.size) = true then _ else _) _ _ s
  rw [if_neg hno, pick_rev]
  first
    | exact wpAny_bind (m := Builtin.Tuple.tupleExact _) (wpAny_newObj_type (wpAny_pure ⟨_, rfl, wpAny_pure h⟩) htake)
    | exact wpAny_bind (m := Builtin.Tuple.tupleExact _) (wpAny_newObj_type (wpAny_bind (wpAny_pure (wpAny_pure ⟨_, rfl, wpAny_pure h⟩))) htake)
    | exact wpAny_bind (wpAny_bind (m := Builtin.Tuple.tupleExact _) (wpAny_newObj_type (wpAny_pure (wpAny_pure ⟨_, rfl, wpAny_pure h⟩)) htake))
    | exact wpAny_bind (wpAny_bind (m := Builtin.Tuple.tupleExact _) (wpAny_newObj_type (wpAny_pure ⟨_, rfl, wpAny_pure h⟩) htake))
end
def tRevT (K : PySem.W.Frag) (te : TE) : TE := fun σ H Q => te σ H fun x H1 => ∃ a xs, x = .ref a ∧ SqT K H1 a xs ∧ ∀ p, H1 p = none → Q (.ref p) (upd H1 p (.tup xs.reverse))
section
variable {X : Cx}
theorem pe_revT {e : Expr} {te : TE} {k : Nat} {p1 p2 p3 pos : Pos} (he : PE X e te) : PE X (.Subscript e (.Slice none none (some (.UnaryOp .USub (.Constant (.int 1) k p1) p2)) p3) pos) (tRevT X.K te) := by
  refine ⟨fun pins s σ H Q I h => ?_⟩
  refine Subscript_ (thn (he.run pins s σ H _ I h) fun v s1 ⟨x, H1, I1, r1, q1⟩ => ?_)
  obtain ⟨a, xs, ex, hx, q⟩ := q1
  subst ex
  cases r1
  have hst : PO X (some (.UnaryOp .USub (.Constant (.int 1) k p1) p2)) (tPart (tUn (rU fun i => .int (-i)) (tC (.int 1)))) := po_some (pe_un un_neg pe_int)
  refine wpAny_Slice (thn (po_none.run pins s1 σ H1 (fun o H2 => o = none ∧ H2 = H1) I1 ⟨rfl, rfl⟩) fun vl s2 ⟨l, H2, I2, pl, el, e2⟩ => ?_)
  subst el e2
  refine thn (po_none.run pins s2 σ H2 (fun o H3 => o = none ∧ H3 = H2) I2 ⟨rfl, rfl⟩) fun vu s3 ⟨u, H3, I3, pu, eu, e3⟩ => ?_
  subst eu e3
  refine thn (hst.run pins s3 σ H3 (fun o H4 => o = some (-1) ∧ H4 = H3) I3 ⟨1, rfl, -1, rfl, rfl, rfl⟩) fun vs s4 ⟨o, H4, I4, ps, eo, e4⟩ => ?_
  subst eo e4
  have I5 : Inv X pins σ H4 { s4 with heap := s4.heap.push { cls := .type "slice", data := .fields #[vl, vu, vs] } } := I4.kept (t' := s4.toks) fun b ob q => Heap.get?_push_of_some _ q
  obtain ⟨its, r, ht, hz⟩ := I5.tuple hx
  have hlen := r.length
  show wpAny (model X.prog X.w) X.A (subscriptTail e (.Slice none none (some (.UnaryOp .USub (.Constant (.int 1) k p1) p2)) p3) (.ref a) (.ref s4.heap.objs.size)) (EP X pins σ Q) X.xe { s4 with heap := s4.heap.push { cls := .type "slice", data := .fields #[vl, vu, vs] } }
  refine tail_any (ops := [.ref a, .ref s4.heap.objs.size]) ht.typeIs (PyProof.Rows.slot_tuple_getitem.lookup) ?_ (by with_unfolding_all rfl)
  refine getItem_tuple_rev ht (Heap.IsSliceOf.new _ vl vu vs) pl pu ps ?_ (by rw [List.size_toArray]; omega)
  refine ⟨.ref _, _, I5.laid (t' := s4.toks) (o := .tup xs.reverse) (fun b ob q => Heap.get?_push_of_some _ q) (Nat.le_refl _) ?_, rfl, q _ (I5.hok.fresh (Nat.le_refl _))⟩
  exact ⟨by rw [List.length_reverse]; exact hz, its.reverse, r.reverse, ⟨_, Heap.get?_push_size _ rfl, rfl, _, rfl⟩⟩
end
/-! ### l.extend(t), t a tuple -/
theorem extend_tuple (l : Addr) (items : Array Value) (n : Nat) (b : Addr) (items2 : Array Value) (n2 : Nat) (dd : Option Addr) (sl : Array (Option Value)) (hs0 : ¬(!items.isEmpty && Builtin.List.listTooLong (items.size + items2.size)) = true) (hs1 : items.size ≤ sizeLine) (hs2 : items.size + items2.size ≤ sizeLine + 1 := by seq_fits) :
    Meets (Builtin.«list.extend» ⟨[.ref l, .ref b], []⟩) (fun _ R s => s.heap.get? l = some { cls := .type "list", dict := none, data := .seq items n, slots := #[] } ∧ s.heap.get? b = some { cls := .type "tuple", dict := dd, data := .seq items2 n2, slots := sl } ∧ R (.ok (.ret Value.none)) { s with heap := s.heap.update l (Obj.mapSeq fun x => x ++ items2), toks := s.toks }) :=
  .of_wp fun prog w A R s h => by
    obtain ⟨hp, g, d, tk, os⟩ := s; obtain ⟨hl, hb, h⟩ := h; have f1 := AutoSeq1.idx_int; have f2 := AutoSeq1.sub_tuple_tuple; have f3 := AutoSeq1.sub_list_list; have f4 := AutoSeq1.sub_tuple_list; have f5 := AutoSeq1.sub_list_tuple;
    have hz' : (items ++ items2).size ≤ sizeLine + 1 := by rw [Array.size_append]; exact hs2
    wp_walk using (wpAny_updateSeq hl rfl (hz := hs1) (_hz' := hz')), wpAny_loadPart' hl, wpAny_loadPart' hb; exact ⟨_, rfl, h⟩
def rExtT (K : PySem.W.Frag) : V → List V → Hp → VK → Prop := fun x vs H Q => ∃ l b xs zs, x = .ref l ∧ vs = [.ref b] ∧ H l = some (.lst xs) ∧ SqT K H b zs ∧ xs.length + zs.length ≤ sizeLine ∧ Q .non (upd H l (.lst (xs ++ zs)))
theorem mt_extendT {X : Cx} : MtM X "list.extend" (rExtT X.K) := by
  intro pins s σ H x vs v us Q I rx rv h
  obtain ⟨l, b, xs, zs, rfl, rfl, hH, hB, hz, q⟩ := h
  cases rx
  obtain ⟨u, rfl, ru⟩ := rv.one
  cases ru
  obtain ⟨z, its, n, r, hl, e⟩ := I.lstM hH
  obtain ⟨its2, r2, ⟨⟨cls, dd, dt, sl⟩, ho, hc, n2, hd⟩, _⟩ := I.tuple hB
  simp only at hc hd
  subst hc hd
  have hl2 := r2.length
  have hsz : its.toArray.size + its2.toArray.size ≤ sizeLine := by rw [List.size_toArray, List.size_toArray]; omega
  have hlong : ¬ (!its.toArray.isEmpty && Builtin.List.listTooLong (its.toArray.size + its2.toArray.size)) = true := by
    rw [notLongL hsz, Bool.and_false]
    exact Bool.false_ne_true
  refine call_meets F.slot_list_extend ⟨_, e, rfl⟩ F.entry_list_extend (F.args_list_extend_2 _ _)
    (extend_tuple l its.toArray n b its2.toArray n2 dd sl hlong (by rw [List.size_toArray]; omega) (by omega)) ⟨e, ho, ?_⟩
  refine ⟨.non, _, I.lset (its' := its ++ its2) hH e (by simp) (r.append r2) ?_, rfl, q⟩
  rw [List.length_append]
  omega
end LmR

set_option Elab.async false
set_option linter.all false
set_option maxRecDepth 100000
set_option maxHeartbeats 2000000
namespace LmR
open PySem PySem.Spec PyProof.Rows L2 RZ
theorem zip_no_len : typeLookup (.type "zip") "__len__" = pure none := by rw [typeLookup_type, builtinLookup_eq_fast]; kernel_rfl
theorem zip_no_hint : typeLookup (.type "zip") "__length_hint__" = pure none := by rw [typeLookup_type, builtinLookup_eq_fast]; kernel_rfl
section
variable {prog : Program} {w : World} {A : Around} {E : Value → Shared → Prop} {s : Shared}
theorem zipT_item_held {z TI TO T i1 i2 l1 l2 : Addr} {f : Bool} {oT : Obj} {k1 k2 : Nat} {xs ys : Array Value} {x y : Value} {Q : Value → Shared → Prop} (D : ZipApart z TI TO i1 i2 l1 l2)
    (hz : IsZipHeld s.heap z TI TO T f) (hT : s.heap.get? T = some oT) (hTI : IsPair s.heap TI (.ref i1) (.ref i2))
    (h1 : s.heap.IsTupleIter i1 l1 k1) (h2 : s.heap.IsTupleIter i2 l2 k2) (hl1 : s.heap.IsTuple l1 xs) (hl2 : s.heap.IsTuple l2 ys) (hx : xs[k1]? = some x) (hy : ys[k2]? = some y)
    (hQ : ∀ h', IsZipHeld h' z TI TO T true → h'.IsTupleIter i1 l1 (k1 + 1) → h'.IsTupleIter i2 l2 (k2 + 1) → IsPair h' s.heap.objs.size x y → h'.objs.size = s.heap.objs.size + 1 →
      (∀ c o, c ≠ z → c ≠ i1 → c ≠ i2 → s.heap.get? c = some o → h'.get? c = some o) → Q (.ref s.heap.objs.size) { s with heap := h' }) :
    wpAny (model prog w) A (Builtin.«zip.__next__» ⟨[.ref z], []⟩) (fun fin s' => ∃ v, fin = .done (.ret v) ∧ Q v s') E s := by
  show wpAny _ _ (field (.ref z) 2 >>= _) _ _ _
  refine wpAny_bind (wpAny_field hz rfl (x := .bool false) rfl ?_)
  show wpAny _ _ (field (.ref z) 3 >>= _) _ _ _
  refine wpAny_bind (wpAny_field hz rfl (x := .ref TI) rfl ?_)
  refine wpAny_bind (wpAny_seqItems hTI rfl ?_)
  show wpAny _ _ (Builtin.SmallTypes.ownedTupleIsFree (.ref z) >>= _) _ _ _
  refine wpAny_bind (wpAny_tupleHeld_zip hz hT fun h₁ hz₁ hs₁ => ?_)
  simp only [Bool.false_eq_true, if_false]
  refine wpAny_bind ?_
  rw [← Array.forIn_toList]
  simp only [List.forIn_cons, List.forIn_nil]
  refine wpAny_bind (wpAny_bind (wpAny_holding ?_))
  show wpAny _ _ (Builtin.SmallTypes.nextOf (.ref i1) >>= _) _ _ _
  refine wpAny_bind (nextOf_tuple_item (s := { s with heap := h₁ }) (h1.extBut hs₁.extBut D.i1z) (hl1.extBut hs₁.extBut D.l1z) hx fun h₂ h1₂ hs₂ => wpAny_pure ?_)
  refine wpAny_pure ?_
  refine wpAny_bind (wpAny_bind (wpAny_holding ?_))
  show wpAny _ _ (Builtin.SmallTypes.nextOf (.ref i2) >>= _) _ _ _
  refine wpAny_bind (nextOf_tuple_item (s := { s with heap := h₂ }) ((h2.extBut hs₁.extBut D.i2z).extBut hs₂.extBut D.i12.symm) ((hl2.extBut hs₁.extBut D.l2z).extBut hs₂.extBut D.l2i1) hy fun h₃ h2₃ hs₃ => wpAny_pure ?_)
  refine wpAny_pure (wpAny_pure ?_)
  show wpAny _ _ (newTuple [x, y] >>= _) _ _ _
  refine wpAny_bind (wpAny_newTuple ?_)
  have hsz : h₃.objs.size = s.heap.objs.size := by rw [hs₃.1, hs₂.1, hs₁.1]
  have hz₃ : IsZipHeld h₃ z TI TO T true := hs₃.extBut _ _ D.i2z.symm (hs₂.extBut _ _ D.i1z.symm hz₁)
  have hk : ∀ c o, c ≠ z → c ≠ i1 → c ≠ i2 → s.heap.get? c = some o → h₃.get? c = some o := fun c o c1 c2 c3 e => hs₃.extBut _ _ c3 (hs₂.extBut _ _ c2 (hs₁.extBut _ _ c1 e))
  have h1₃ : h₃.IsTupleIter i1 l1 (k1 + 1) := h1₂.extBut hs₃.extBut D.i12
  refine wpAny_pure ⟨_, rfl, ?_⟩
  show Q (.ref h₃.objs.size) _
  have hp : IsPair (h₃.push { cls := .type "tuple", data := .seq #[x, y] }) h₃.objs.size x y := Heap.get?_push_size _ rfl
  have hz4 : (h₃.push { cls := .type "tuple", data := .seq #[x, y] }).objs.size = h₃.objs.size + 1 := Heap.size_push ..
  rw [hsz] at hp hz4 ⊢
  exact hQ _ (Heap.get?_push_of_some _ hz₃) (h1₃.at fun o e => Heap.get?_push_of_some _ e) (h2₃.at fun o e => Heap.get?_push_of_some _ e) hp hz4 fun c o c1 c2 c3 e => Heap.get?_push_of_some _ (hk c o c1 c2 c3 e)
theorem zipT_end_held {z TI TO T i1 i2 l1 l2 : Addr} {f : Bool} {oT : Obj} {k1 k2 : Nat} {xs ys : Array Value} {Q : Fin → Shared → Prop} (hh : A.handled = none) (D : ZipApart z TI TO i1 i2 l1 l2)
    (hz : IsZipHeld s.heap z TI TO T f) (hT : s.heap.get? T = some oT) (hTI : IsPair s.heap TI (.ref i1) (.ref i2))
    (h1 : s.heap.IsTupleIter i1 l1 k1) (h2 : s.heap.IsTupleIter i2 l2 k2) (hl1 : s.heap.IsTuple l1 xs) (hl2 : s.heap.IsTuple l2 ys) (hx : xs[k1]? = none)
    (hE : ∀ h' e, (∀ c o, c ≠ z → c ≠ i1 → c ≠ i2 → s.heap.get? c = some o → h'.get? c = some o) → (∃ o, h'.get? e = some o ∧ o.cls = .type "StopIteration") → E (.ref e) { s with heap := h' }) :
    wpAny (model prog w) A (Builtin.«zip.__next__» ⟨[.ref z], []⟩) Q E s := by
  show wpAny _ _ (field (.ref z) 2 >>= _) _ _ _
  refine wpAny_bind (wpAny_field hz rfl (x := .bool false) rfl ?_)
  show wpAny _ _ (field (.ref z) 3 >>= _) _ _ _
  refine wpAny_bind (wpAny_field hz rfl (x := .ref TI) rfl ?_)
  refine wpAny_bind (wpAny_seqItems hTI rfl ?_)
  show wpAny _ _ (Builtin.SmallTypes.ownedTupleIsFree (.ref z) >>= _) _ _ _
  refine wpAny_bind (wpAny_tupleHeld_zip hz hT fun h₁ hz₁ hs₁ => ?_)
  simp only [Bool.false_eq_true, if_false]
  refine wpAny_bind ?_
  rw [← Array.forIn_toList]
  simp only [List.forIn_cons, List.forIn_nil]
  refine wpAny_bind (wpAny_bind (wpAny_holding ?_))
  show wpAny _ _ (Builtin.SmallTypes.nextOf (.ref i1) >>= _) _ _ _
  refine wpAny_bind (nextOf_tuple_end (s := { s with heap := h₁ }) hh (h1.extBut hs₁.extBut D.i1z) (hl1.extBut hs₁.extBut D.l1z) hx fun h₂ e hs₂ he => ?_)
  exact hE h₂ e (fun c o c1 c2 _ x => hs₂ _ _ c2 (hs₁.extBut _ _ c1 x)) he
/-- a zip of two tuples between two turns of list(..) -/
structure ZSt (h : Heap) (z TI TO i1 i2 l1 l2 S lo : Addr) (xs ys : Array Value) (i : Nat) : Prop where
  zip : (i = 0 ∧ IsZip h z TI TO .none ∧ ∃ a b, IsPair h TO a b) ∨ ∃ T f oT, IsZipHeld h z TI TO T f ∧ h.get? T = some oT ∧ lo ≤ T
  ti : IsPair h TI (.ref i1) (.ref i2)
  h1 : h.IsTupleIter i1 l1 i
  h2 : h.IsTupleIter i2 l2 i
  l1' : h.IsTuple l1 xs
  l2' : h.IsTuple l2 ys
/-- the addresses that are there ahead of the pairs -/
structure ZLo (z TI TO i1 i2 l1 l2 S lo : Addr) : Prop where
  z' : z < lo
  TI' : TI < lo
  TO' : TO < lo
  i1' : i1 < lo
  i2' : i2 < lo
  l1' : l1 < lo
  l2' : l2 < lo
  S' : S < lo
  Sz : S ≠ z
  STI : S ≠ TI
  STO : S ≠ TO
  Si1 : S ≠ i1
  Si2 : S ≠ i2
  Sl1 : S ≠ l1
  Sl2 : S ≠ l2
variable {z TI TO i1 i2 l1 l2 S lo : Addr} {xs ys : Array Value}
theorem ZSt.upd {h h' : Heap} {i : Nat} (L : ZLo z TI TO i1 i2 l1 l2 S lo) (st : ZSt h z TI TO i1 i2 l1 l2 S lo xs ys i) (k : ∀ b o, b ≠ S → h.get? b = some o → h'.get? b = some o) : ZSt h' z TI TO i1 i2 l1 l2 S lo xs ys i where
  zip := by
    rcases st.zip with ⟨e, hz, a, b, ht⟩ | ⟨T, f, oT, hz, hT, hl⟩
    · exact .inl ⟨e, k _ _ L.Sz.symm hz, a, b, k _ _ L.STO.symm ht⟩
    · exact .inr ⟨T, f, oT, k _ _ L.Sz.symm hz, k _ _ (fun e => by have := L.S'; rw [e] at hl; exact absurd hl (Nat.not_le.mpr this)) hT, hl⟩
  ti := k _ _ L.STI.symm st.ti
  h1 := st.h1.at fun o e => k _ _ L.Si1.symm e
  h2 := st.h2.at fun o e => k _ _ L.Si2.symm e
  l1' := by
    obtain ⟨o, ho, r⟩ := st.l1'
    exact ⟨o, k _ _ L.Sl1.symm ho, r⟩
  l2' := by
    obtain ⟨o, ho, r⟩ := st.l2'
    exact ⟨o, k _ _ L.Sl2.symm ho, r⟩
theorem tup_keep {h h' : Heap} {l : Addr} {its : Array Value} (t : h.IsTuple l its) (k : ∀ o, h.get? l = some o → h'.get? l = some o) : h'.IsTuple l its := by
  obtain ⟨o, ho, r⟩ := t
  exact ⟨o, k o ho, r⟩
theorem zst_item {i : Nat} {x y : Value} {Q : Option Value → Shared → Prop} (D : ZipApart z TI TO i1 i2 l1 l2) (L : ZLo z TI TO i1 i2 l1 l2 S lo) (hlo : lo ≤ s.heap.objs.size) (st : ZSt s.heap z TI TO i1 i2 l1 l2 S lo xs ys i) (hx : xs[i]? = some x) (hy : ys[i]? = some y)
    (hQ : ∀ h', ZSt h' z TI TO i1 i2 l1 l2 S lo xs ys (i + 1) → IsPair h' s.heap.objs.size x y → h'.objs.size = s.heap.objs.size + 1 →
      (∀ c o, c ≠ z → c ≠ TO → c ≠ i1 → c ≠ i2 → s.heap.get? c = some o → h'.get? c = some o) → Q (some (.ref s.heap.objs.size)) { s with heap := h' }) :
    wpAny (model prog w) A (pyNext (.ref z)) Q E s := by
  rcases st.zip with ⟨e, hz, a, b, ht⟩ | ⟨T, f, oT, hz, hT, hl⟩
  · refine pyNext_zipT_item D hz st.ti ht st.h1 st.h2 st.l1' st.l2' hx hy fun h' z' to' a1 a2 pr sz k => hQ h' ⟨.inr ⟨s.heap.objs.size, false, _, z', pr, hlo⟩, ?_, a1, a2, ?_, ?_⟩ pr sz k
    · exact k _ _ D.TIz D.TITO D.TIi1 D.TIi2 st.ti
    · exact tup_keep st.l1' fun o q => k _ _ D.l1z D.l1TO D.l1i1 D.l1i2 q
    · exact tup_keep st.l2' fun o q => k _ _ D.l2z D.l2TO D.l2i1 D.l2i2 q
  · have hTy : s.TypeIs (.ref z) "zip" := ⟨_, hz, rfl⟩
    unfold pyNext
    refine wpAny_bind (wpAny_attempt (wpAny_callSpecial?_slot (name := Str.ofString "__next__") hTy F.slot_zip_next
      (wpAny_call_entry F.slot_zip_next hTy F.entry_zip_next
        (zipT_item_held D hz hT st.ti st.h1 st.h2 st.l1' st.l2' hx hy fun h' z' a1 a2 pr sz k => wpAny_pure (hQ h' ⟨.inr ⟨T, true, oT, z', ?_, hl⟩, ?_, a1, a2, ?_, ?_⟩ pr sz fun c o c1 _ c3 c4 q => k c o c1 c3 c4 q)) (F.args_zip_next_1 _))))
    · exact k _ _ (fun e => by rw [e] at hl; exact absurd hl (Nat.not_le.mpr L.z')) (fun e => by rw [e] at hl; exact absurd hl (Nat.not_le.mpr L.i1')) (fun e => by rw [e] at hl; exact absurd hl (Nat.not_le.mpr L.i2')) hT
    · exact k _ _ D.TIz D.TIi1 D.TIi2 st.ti
    · exact tup_keep st.l1' fun o q => k _ _ D.l1z D.l1i1 D.l1i2 q
    · exact tup_keep st.l2' fun o q => k _ _ D.l2z D.l2i1 D.l2i2 q
theorem zst_done {i : Nat} {Q : Option Value → Shared → Prop} (hh : A.handled = none) (D : ZipApart z TI TO i1 i2 l1 l2) (st : ZSt s.heap z TI TO i1 i2 l1 l2 S lo xs ys i) (hx : xs[i]? = none)
    (hQ : ∀ h', (∀ c o, c ≠ z → c ≠ TO → c ≠ i1 → c ≠ i2 → s.heap.get? c = some o → h'.get? c = some o) → Q none { s with heap := h' }) : wpAny (model prog w) A (pyNext (.ref z)) Q E s := by
  rcases st.zip with ⟨e, hz, a, b, ht⟩ | ⟨T, f, oT, hz, hT, hl⟩
  · exact pyNext_zipT_end hh D hz st.ti ht st.h1 st.h2 st.l1' st.l2' (.inl hx) hQ
  · have hTy : s.TypeIs (.ref z) "zip" := ⟨_, hz, rfl⟩
    unfold pyNext
    refine wpAny_bind (wpAny_attempt (wpAny_callSpecial?_slot (name := Str.ofString "__next__") hTy F.slot_zip_next
      (wpAny_call_entry F.slot_zip_next hTy F.entry_zip_next (zipT_end_held hh D hz hT st.ti st.h1 st.h2 st.l1' st.l2' hx fun h' e hk he => ?_) (F.args_zip_next_1 _))))
    obtain ⟨o, ho, hc⟩ := he
    refine wpAny_bind (wpAny_isInstance (T := "StopIteration") (b := true) ⟨o, ho, hc⟩ isSubtype_stop ?_)
    exact wpAny_pure (hQ _ fun c o c1 _ c3 c4 q => hk c o c1 c3 c4 q)
/-- the pairs made so far -/
structure ZG (xs ys : Array Value) (lo : Addr) (h : Heap) (as : List Addr) : Prop where
  rise : as.Pairwise (· < ·)
  above : ∀ a ∈ as, lo ≤ a
  pairs : ∀ (j : Nat) (a : Addr), as[j]? = some a → ∃ x y, xs[j]? = some x ∧ ys[j]? = some y ∧ IsPair h a x y
theorem ZG.there {h : Heap} {as : List Addr} (g : ZG xs ys lo h as) {a : Addr} (ha : a ∈ as) : a < h.objs.size := by
  obtain ⟨j, hj⟩ := List.mem_iff_getElem?.mp ha
  obtain ⟨_, _, _, _, e⟩ := g.pairs j a hj
  exact Heap.lt_size e
theorem zl_loop {R : Result → Shared → Prop} (hh : A.handled = none) (D : ZipApart z TI TO i1 i2 l1 l2) (L : ZLo z TI TO i1 i2 l1 l2 S lo) (hl : xs.size = ys.size) (hn : xs.size ≤ sizeLine) (res : Value) {h₁ : Heap}
    (hR : ∀ h' tk acc c as, (∀ b o, b ≠ S → b ≠ z → b ≠ TO → b ≠ i1 → b ≠ i2 → h₁.get? b = some o → h'.get? b = some o) → h'.get? S = some { cls := .type "list", dict := none, data := .seq acc c, slots := #[] } → as.length = xs.size → ZG xs ys lo h' as →
      acc.toList = as.map Value.ref → R (.ok (.ret res)) { s with heap := h', toks := tk }) :
    ∀ (k i : Nat) (h : Heap) (tk c : Nat) (acc : Array Value) (as : List Addr), xs.size - i = k → i ≤ xs.size → ZSt h z TI TO i1 i2 l1 l2 S lo xs ys i → (∀ b o, b ≠ S → b ≠ z → b ≠ TO → b ≠ i1 → b ≠ i2 → h₁.get? b = some o → h.get? b = some o) →
      h.get? S = some { cls := .type "list", dict := none, data := .seq acc c, slots := #[] } → acc.toList = as.map Value.ref → as.length = i → ZG xs ys lo h as → lo ≤ h.objs.size →
      codeAny (model prog w) A (.builtin "list.extend.loop" ⟨[.ref S, .ref z, res], []⟩) R { s with heap := h, toks := tk } := by
  intro k
  induction k with
  | zero =>
    intro i h tk c acc as hk hi st hkeep hS hacc hal hG hlo
    have hin : i = xs.size := by omega
    refine codeAny_builtin PySem.F.entry_extend_loop ?_
    rw [Around.under_plainId PySem.F.plain_extend_loop _]
    show wpAny _ A.in1 (pyNext (.ref z) >>= _) _ _ _
    refine wpAny_bind (zst_done (s := { s with heap := h, toks := tk }) (A := A.in1) hh D st (Array.getElem?_eq_none (by omega)) fun h' he => ?_)
    refine wpAny_pure (hR h' tk acc c as (fun b o h1 h2 h3 h4 h5 e => he b o h2 h3 h4 h5 (hkeep b o h1 h2 h3 h4 h5 e)) (he S _ L.Sz L.STO L.Si1 L.Si2 hS) (by omega) ⟨hG.rise, hG.above, fun j a hj => ?_⟩ hacc)
    obtain ⟨x, y, e1, e2, e3⟩ := hG.pairs j a hj
    have ha := hG.above a (List.mem_of_getElem? hj)
    exact ⟨x, y, e1, e2, he a _ (Nat.ne_of_gt (Nat.lt_of_lt_of_le L.z' ha)) (Nat.ne_of_gt (Nat.lt_of_lt_of_le L.TO' ha)) (Nat.ne_of_gt (Nat.lt_of_lt_of_le L.i1' ha)) (Nat.ne_of_gt (Nat.lt_of_lt_of_le L.i2' ha)) e3⟩
  | succ k ih =>
    intro i h tk c acc as hk hi st hkeep hS hacc hal hG hlo
    have hlt : i < xs.size := by omega
    have hx : xs[i]? = some xs[i] := Array.getElem?_eq_getElem hlt
    have hlt2 : i < ys.size := by omega
    have hy : ys[i]? = some ys[i] := Array.getElem?_eq_getElem hlt2
    have hsz : acc.size = i := by rw [← Array.length_toList, hacc, List.length_map, hal]
    refine codeAny_builtin PySem.F.entry_extend_loop ?_
    rw [Around.under_plainId PySem.F.plain_extend_loop _]
    show wpAny _ A.in1 (pyNext (.ref z) >>= _) _ _ _
    refine wpAny_bind (zst_item (s := { s with heap := h, toks := tk }) (A := A.in1) D L hlo st hx hy fun h' st' ht hz hkp => ?_)
    dsimp only at ht hz hkp ⊢
    have hS' := hkp S _ L.Sz L.STO L.Si1 L.Si2 hS
    have up : ∀ b o, b ≠ S → h'.get? b = some o → (h'.update S (Obj.mapSeq (·.push (Value.ref h.objs.size)))).get? b = some o := fun b o hb e => (Heap.get?_update_other _ _ (Ne.symm hb)).trans e
    have hSl : S < h.objs.size := Heap.lt_size hS
    show wpAny _ A.in1 (updateSeq S (·.push (Value.ref h.objs.size)) >>= _) _ _ _
    refine wpAny_bind ?_
    refine wpAny_updateSeq hS' rfl (wpAny_pure ⟨plainId_quiet PySem.F.plain_extend_loop _, ih (i + 1) _ tk _ (acc.push (Value.ref h.objs.size)) (as ++ [h.objs.size]) (by omega) hlt (st'.upd L up)
      (fun b o h1 h2 h3 h4 h5 e => up b o h1 (hkp b o h2 h3 h4 h5 (hkeep b o h1 h2 h3 h4 h5 e))) (Heap.get?_update_self _ hS' rfl) (by rw [Array.toList_push, hacc, List.map_append]; rfl) (by rw [List.length_append, hal]; rfl) ⟨?_, ?_, ?_⟩ ?_⟩) (by rw [hsz]; omega) (by show (acc.push (Value.ref h.objs.size)).size ≤ sizeLine + 1; rw [Array.size_push, hsz]; omega)
    · refine List.pairwise_append.mpr ⟨hG.rise, List.pairwise_singleton _ _, fun a ha b hb => ?_⟩
      rw [List.mem_singleton.mp hb]
      exact hG.there ha
    · intro a ha
      rcases List.mem_append.mp ha with ha | ha
      · exact hG.above a ha
      · rw [List.mem_singleton.mp ha]; exact hlo
    · intro j b hj
      rcases Nat.lt_trichotomy j as.length with h1 | h1 | h1
      · rw [List.getElem?_append_left h1] at hj
        obtain ⟨x', y', e1, e2, e3⟩ := hG.pairs j b hj
        have hb := hG.above b (List.mem_of_getElem? hj)
        exact ⟨x', y', e1, e2, up b _ (Nat.ne_of_gt (Nat.lt_of_lt_of_le L.S' hb)) (hkp b _ (Nat.ne_of_gt (Nat.lt_of_lt_of_le L.z' hb)) (Nat.ne_of_gt (Nat.lt_of_lt_of_le L.TO' hb)) (Nat.ne_of_gt (Nat.lt_of_lt_of_le L.i1' hb)) (Nat.ne_of_gt (Nat.lt_of_lt_of_le L.i2' hb)) e3)⟩
      · subst h1
        have hb : h.objs.size = b := by simpa using hj
        subst hb
        exact ⟨xs[i], ys[i], by rw [hal]; exact hx, by rw [hal]; exact hy, up _ _ (Nat.ne_of_gt hSl) ht⟩
      · have hnone : (as ++ [h.objs.size])[j]? = none := List.getElem?_eq_none (by rw [List.length_append, List.length_singleton]; omega)
        rw [hnone] at hj; cases hj
    · have e : (h'.update S (Obj.mapSeq (·.push (Value.ref h.objs.size)))).get? h.objs.size = _ := up _ _ (Nat.ne_of_gt hSl) ht
      exact Nat.le_trans hlo (Nat.le_of_lt (Heap.lt_size e))
end
end LmR

set_option Elab.async false
set_option linter.all false
set_option maxRecDepth 100000
set_option maxHeartbeats 2000000
namespace LmR
open PySem PySem.Spec PyProof.Rows L2 RZ
section
variable {prog : Program} {w : World} {A : Around} {E : Value → Shared → Prop} {s : Shared}
variable {z TI TO i1 i2 l1 l2 S lo : Addr} {xs ys : Array Value}
theorem zl_extend {R : Result → Shared → Prop} (hh : A.handled = none) (D : ZipApart z TI TO i1 i2 l1 l2) (L : ZLo z TI TO i1 i2 l1 l2 S lo) (hl : xs.size = ys.size) (hn : xs.size ≤ sizeLine) (res : Value) (c₀ : Nat) (hlo : lo ≤ s.heap.objs.size)
    (st : ZSt s.heap z TI TO i1 i2 l1 l2 S lo xs ys 0) (hz : IsZip s.heap z TI TO .none) (hS : s.heap.get? S = some { cls := .type "list", data := .seq #[] c₀ })
    (hR : ∀ h' tk acc c as, (∀ b o, b ≠ S → b ≠ z → b ≠ TO → b ≠ i1 → b ≠ i2 → s.heap.get? b = some o → h'.get? b = some o) → h'.get? S = some { cls := .type "list", dict := none, data := .seq acc c, slots := #[] } → as.length = xs.size → ZG xs ys lo h' as →
      acc.toList = as.map Value.ref → R (.ok (.ret res)) { s with heap := h', toks := tk }) :
    wpAny (model prog w) A.in1 (Builtin.List.listExtendWith (.ref S) (.ref z) res)
      (fun fin s' => match fin with | .done f => R (.ok f) s' | .again c' => c'.quiet = true ∧ codeAny (model prog w) A c' R s') (fun e s' => R (.error e) s') s := by
  have hT : s.TypeIs (.ref z) "zip" := ⟨_, hz, rfl⟩
  unfold Builtin.List.listExtendWith
  refine wpAny_bind (wpAny_typeOf hT ?_)
  have h1 : Builtin.List.listSameRef (.ref S) (.ref z) = false := by simp [Builtin.List.listSameRef, L.Sz]
  have h2 : (Value.type "zip" == Value.type "list") = false := by decide
  have h3 : (Value.type "zip" == Value.type "tuple") = false := by decide
  simp only [h1, h2, h3, Bool.or_false, Bool.false_eq_true, if_false]
  refine wpAny_bind (wpAny_pyIter_zip hz ?_)
  refine wpAny_bind (wpAny_holding ?_)
  unfold Builtin.List.listLengthHint
  refine wpAny_bind (wpAny_specialOf hT zip_no_len ?_)
  show wpAny _ A.in1 (specialOf (Value.ref z) (Str.ofString "__length_hint__") >>= _) _ _ _
  refine wpAny_bind (wpAny_specialOf hT zip_no_hint ?_)
  refine wpAny_pure ?_
  show wpAny _ A.in1 (rule "list.extend.makes-room" >>= fun _ => Builtin.List.listTouch (.ref S) >>= fun _ =>
    again (.builtin "list.extend.loop" ⟨[.ref S, .ref z, res], []⟩)) _ _ _
  refine wpAny_bind (wpAny_rule ?_)
  refine wpAny_bind ?_
  show wpAny _ A.in1 (updateSeq S (·.push .none) >>= fun _ => updateSeq S (·.pop)) _ _ _
  refine wpAny_bind (wpAny_updateSeq hS rfl ?_)
  have hS₂ := Heap.get?_update_self (Obj.mapSeq (·.push Value.none)) hS rfl
  refine wpAny_updateSeq (hz := by seq_fits) hS₂ rfl ?_
  have hS₃ := Heap.get?_update_self (Obj.mapSeq (·.pop)) hS₂ rfl
  have oth : ∀ b o, b ≠ S → s.heap.get? b = some o → ((s.heap.update S (Obj.mapSeq (·.push Value.none))).update S (Obj.mapSeq (·.pop))).get? b = some o :=
    fun b o hb e => (Heap.get?_update_other _ _ (Ne.symm hb)).trans ((Heap.get?_update_other _ _ (Ne.symm hb)).trans e)
  refine wpAny_pure ⟨plainId_quiet PySem.F.plain_extend_loop _, zl_loop (s := s) (h₁ := s.heap) hh D L hl hn res hR xs.size 0 _ s.toks _ #[] [] (Nat.sub_zero _) (Nat.zero_le _) (st.upd L oth) (fun b o h1 _ _ _ _ e => oth b o h1 e) hS₃ rfl rfl ⟨List.Pairwise.nil, (fun _ ha => nomatch ha), (fun j a hj => by simp at hj)⟩ ?_⟩
  have zz := oth z _ L.Sz.symm hz
  have e1 : ((s.heap.update S (Obj.mapSeq (·.push Value.none))).update S (Obj.mapSeq (·.pop))).objs.size = s.heap.objs.size := by
    first
      | (rw [Heap.size_update, Heap.size_update])
      | (simp [Heap.update])
  rw [e1]
  exact hlo
theorem zl_init {R : Result → Shared → Prop} (hh : A.handled = none) (D : ZipApart z TI TO i1 i2 l1 l2) (L : ZLo z TI TO i1 i2 l1 l2 S lo) (hl : xs.size = ys.size) (hn : xs.size ≤ sizeLine) (hlo : lo ≤ s.heap.objs.size)
    (st : ZSt s.heap z TI TO i1 i2 l1 l2 S lo xs ys 0) (hz : IsZip s.heap z TI TO .none) (hS : s.heap.get? S = some { cls := .type "list", data := .seq #[] })
    (hR : ∀ h' tk acc c as, (∀ b o, b ≠ S → b ≠ z → b ≠ TO → b ≠ i1 → b ≠ i2 → s.heap.get? b = some o → h'.get? b = some o) → h'.get? S = some { cls := .type "list", dict := none, data := .seq acc c, slots := #[] } → as.length = xs.size → ZG xs ys lo h' as →
      acc.toList = as.map Value.ref → R (.ok (.ret .none)) { s with heap := h', toks := tk }) :
    wpAny (model prog w) A.in1 (Builtin.«list.__init__» ⟨[.ref S, .ref z], []⟩)
      (fun fin s' => match fin with | .done f => R (.ok f) s' | .again c' => c'.quiet = true ∧ codeAny (model prog w) A c' R s') (fun e s' => R (.error e) s') s := by
  show wpAny _ _ (do let old ← Builtin.List.listItems (.ref S); Builtin.List.listUpdate (.ref S) (fun _ => #[]); letGo old.toList.reverse; Builtin.List.listExtendWith (.ref S) (.ref z) .none) _ _ s
  refine wpAny_bind ?_
  unfold Builtin.List.listItems
  refine wpAny_bind (wpAny_seqItems hS rfl (wpAny_pure ?_))
  show wpAny _ _ (updateSeq S (fun _ => #[]) >>= fun _ => letGo (#[] : Array Value).toList.reverse >>= fun _ => Builtin.List.listExtendWith (.ref S) (.ref z) .none) _ _ s
  refine wpAny_bind (wpAny_updateSeq hS rfl ?_)
  have hS₂ := Heap.get?_update_self (Obj.mapSeq (fun _ => (#[] : Array Value))) hS rfl
  have oth : ∀ b o, b ≠ S → s.heap.get? b = some o → (s.heap.update S (Obj.mapSeq (fun _ => (#[] : Array Value)))).get? b = some o :=
    fun b o hb e => (Heap.get?_update_other _ _ (Ne.symm hb)).trans e
  refine wpAny_bind (wpAny_letGo ?_)
  have e1 : (s.heap.update S (Obj.mapSeq (fun _ => (#[] : Array Value)))).objs.size = s.heap.objs.size := by
    first
      | (rw [Heap.size_update])
      | (simp [Heap.update])
  refine zl_extend hh D L hl hn .none _ (by show lo ≤ (s.heap.update S _).objs.size; rw [e1]; exact hlo) (st.upd L oth) (oth z _ L.Sz.symm hz) hS₂ (fun h' tk acc c as hk hS' hl' hG hacc => ?_)
  exact hR h' tk acc c as (fun b o h1 h2 h3 h4 h5 e => hk b o h1 h2 h3 h4 h5 (oth b o h1 e)) hS' hl' hG hacc
theorem zl_call {Q : Value → Shared → Prop} (hh : A.handled = none) (D : ZipApart z TI TO i1 i2 l1 l2) (hl : xs.size = ys.size) (hn : xs.size ≤ sizeLine)
    (hz : IsZip s.heap z TI TO .none) (hTI : IsPair s.heap TI (.ref i1) (.ref i2)) (hTO : ∃ a b, IsPair s.heap TO a b) (h1 : s.heap.IsTupleIter i1 l1 0) (h2 : s.heap.IsTupleIter i2 l2 0) (hl1 : s.heap.IsTuple l1 xs) (hl2 : s.heap.IsTuple l2 ys)
    (hQ : ∀ h' tk acc c as, (∀ b o, b ≠ z → b ≠ TO → b ≠ i1 → b ≠ i2 → s.heap.get? b = some o → h'.get? b = some o) → h'.get? s.heap.objs.size = some { cls := .type "list", dict := none, data := .seq acc c, slots := #[] } → as.length = xs.size → ZG xs ys (s.heap.objs.size + 1) h' as →
      acc.toList = as.map Value.ref → Q (.ref s.heap.objs.size) { s with heap := h', toks := tk }) :
    wpAny (model prog w) A (call (.type "list") [.ref z]) Q E s := by
  refine callType_codes (Q₁ := fun obj s₁ => obj = .ref s.heap.objs.size ∧ s₁ = { s with heap := s.heap.push { cls := .type "list", data := .seq #[] } }) PySem.F.called_list (PySem.F.typeCall_list_1 _) PySem.F.entry_list_init
    (code_list_new _ ⟨rfl, rfl⟩) fun obj s₁ h₁ => ?_
  obtain ⟨rfl, rfl⟩ := h₁
  have hS : (s.heap.push { cls := .type "list", data := .seq #[] }).get? s.heap.objs.size = some { cls := .type "list", data := .seq #[] } := Heap.get?_push_size _ rfl
  have kp : ∀ b o, s.heap.get? b = some o → (s.heap.push { cls := .type "list", data := .seq #[] }).get? b = some o := fun b o e => Heap.get?_push_of_some _ e
  have lz := Heap.lt_size hz
  have lTI := Heap.lt_size hTI
  obtain ⟨ta, tb, hTO'⟩ := hTO
  have lTO := Heap.lt_size hTO'
  have li1 : i1 < s.heap.objs.size := let ⟨_, e, _⟩ := h1; Heap.lt_size e
  have li2 : i2 < s.heap.objs.size := let ⟨_, e, _⟩ := h2; Heap.lt_size e
  have ll1 : l1 < s.heap.objs.size := let ⟨_, e, _⟩ := hl1; Heap.lt_size e
  have ll2 : l2 < s.heap.objs.size := let ⟨_, e, _⟩ := hl2; Heap.lt_size e
  have L : ZLo z TI TO i1 i2 l1 l2 s.heap.objs.size (s.heap.objs.size + 1) := ⟨Nat.lt_succ_of_lt lz, Nat.lt_succ_of_lt lTI, Nat.lt_succ_of_lt lTO, Nat.lt_succ_of_lt li1, Nat.lt_succ_of_lt li2, Nat.lt_succ_of_lt ll1, Nat.lt_succ_of_lt ll2, Nat.lt_succ_self _,
    Nat.ne_of_gt lz, Nat.ne_of_gt lTI, Nat.ne_of_gt lTO, Nat.ne_of_gt li1, Nat.ne_of_gt li2, Nat.ne_of_gt ll1, Nat.ne_of_gt ll2⟩
  have st : ZSt (s.heap.push { cls := .type "list", data := .seq #[] }) z TI TO i1 i2 l1 l2 s.heap.objs.size (s.heap.objs.size + 1) xs ys 0 :=
    ⟨.inl ⟨rfl, kp _ _ hz, ta, tb, kp _ _ hTO'⟩, kp _ _ hTI, h1.at fun o e => kp _ _ e, h2.at fun o e => kp _ _ e, tup_keep hl1 fun o e => kp _ _ e, tup_keep hl2 fun o e => kp _ _ e⟩
  refine ⟨⟨_, hS, rfl⟩, PySem.F.args_list_init_2 _ _, zl_init (A := A.in1) hh D L hl hn (by show s.heap.objs.size + 1 ≤ (s.heap.push _).objs.size; rw [Heap.size_push]; exact Nat.le_refl _) st (kp _ _ hz) hS (fun h' tk acc c as hk hS' hl' hG hacc => ?_)⟩
  exact ⟨rfl, hQ h' tk acc c as (fun b o c1 c2 c3 c4 e => hk b o (Nat.ne_of_lt (Heap.lt_size e)) c1 c2 c3 c4 (kp b o e)) hS' hl' hG hacc⟩
end
/-! ### the rule -/
/-- pairs tracked at their addresses -/
def putZ : Hp → List Addr → List (V × V) → Hp
  | H, a :: as, p :: ps => putZ (upd H a (.tup [p.1, p.2])) as ps
  | H, _, _ => H
theorem putZ_off {b : Addr} : ∀ (as : List Addr) (ps : List (V × V)) (H : Hp), b ∉ as → putZ H as ps b = H b
  | [], _, _, _ => rfl
  | _ :: _, [], _, _ => rfl
  | a :: as, p :: ps, H, h => by
    show putZ (upd H a (.tup [p.1, p.2])) as ps b = H b
    rw [putZ_off as ps _ (fun z => h (List.mem_cons_of_mem _ z)), upd_ne (fun z => h (by rw [z]; exact List.mem_cons_self))]
theorem putZ_at : ∀ (as : List Addr) (ps : List (V × V)) (H : Hp) (j : Nat) (a : Addr) (p : V × V), as.Nodup → as[j]? = some a → ps[j]? = some p → putZ H as ps a = some (.tup [p.1, p.2])
  | [], _, _, j, _, _, _, h, _ => by simp at h
  | _ :: _, [], _, j, _, _, _, _, h => by simp at h
  | a :: as, p :: ps, H, 0, b, q, nd, h1, h2 => by
    have e1 : a = b := Option.some.inj h1
    have e2 : p = q := Option.some.inj h2
    subst e1 e2
    show putZ (upd H a (.tup [p.1, p.2])) as ps a = some (.tup [p.1, p.2])
    rw [putZ_off as ps _ (List.nodup_cons.mp nd).1, upd_same]
  | a :: as, p :: ps, H, j + 1, b, q, nd, h1, h2 => putZ_at as ps _ j b q (List.nodup_cons.mp nd).2 h1 h2
/-- list(zip(t, u)) of two tuples of one length -/
def tListZip (K : PySem.W.Frag) (ta : TA) : TE := fun σ H Q => ta σ H fun vs H1 => ∃ (a b : Addr) (xs ys : List V), vs = [.ref a, .ref b] ∧ SqT K H1 a xs ∧ SqT K H1 b ys ∧ xs.length = ys.length ∧
  ∀ (H' : Hp) (p : Addr) (ts : List Addr), Same H1 H' → H1 p = none → (∀ t ∈ ts, H1 t = none) → H' p = some (.lst (ts.map V.ref)) → ts.length = xs.length →
    (∀ (j : Nat) (t : Addr), ts[j]? = some t → ∃ x y, xs[j]? = some x ∧ ys[j]? = some y ∧ H' t = some (.tup [x, y])) → Q (.ref p) H'
section
variable {X : Cx}
theorem pe_listZip {e e2 : Expr} {ta : TA} {p p2 pos pos2 : Pos} (hc : X.calm = true) (hgl : Gl X "list") (hml : X.mg "list" = none) (hgz : Gl X "zip") (hmz : X.mg "zip" = none) (ha : PA X [e, e2] ta)
    (hs : starEach [e, e2] X.env = (false, eval e X.env) :: starEach [e2] X.env := by rfl) (hpl : (backTo pos2 (starEach [e2] X.env)).any (·.1) = false := by rfl)
    (hs2 : starEach [.Call (.Name "zip" p2) [e, e2] [] pos2] X.env = (false, eval (.Call (.Name "zip" p2) [e, e2] [] pos2) X.env) :: starEach [] X.env := by rfl) :
    PE X (.Call (.Name "list" p) [.Call (.Name "zip" p2) [e, e2] [] pos2] [] pos) (tListZip X.K ta) := by
  refine ⟨fun pins s σ H Q I h => ?_⟩
  refine wpAny_Call_Name_kw (ld_blt I hgl hml PyProof.Rows.boot_list ?_)
  refine PyProof.Rows.callWith_type1 ?_ hs2 rfl
  rw [hs2]
  show wpAny _ _ (spliced ((false, eval (.Call (.Name "zip" p2) [e, e2] [] pos2) X.env) :: backTo pos (starEach [] X.env))) _ _ s
  refine Calls.spliced_cons ?_
  refine Call_ (ld_blt I hgz hmz PyProof.Rows.boot_zip (PyProof.Rows.callWith_type1 (thn (ha.run pos2 pins s σ H _ I h) fun us s1 ⟨vs, H1, I1, r1, q1⟩ => ?_) hs hpl))
  obtain ⟨a, b, xs, ys, ex, hqx, hqy, hxy, q⟩ := q1
  subst ex
  cases r1 with
  | cons r rr =>
    cases rr with
    | cons r' rr =>
      cases rr
      cases r
      cases r'
      obtain ⟨its, rv, p1, hz1⟩ := I1.tuple hqx
      obtain ⟨its2, rv2, p2', _⟩ := I1.tuple hqy
      obtain ⟨o1, ho1, _⟩ := id p1
      obtain ⟨o2, ho2, _⟩ := id p2'
      have e1 := rv.length
      have e2 := rv2.length
      refine call_zipT (show s1.heap.IsTuple a its.toArray from p1) (show s1.heap.IsTuple b its2.toArray from p2') fun h' hz hTI hTO h1 h2 hsz hk => ?_
      refine Calls.spliced_nil ?_
      have D := PySem.W.ktu_apart s1.heap.objs.size a b (Heap.lt_size ho1) (Heap.lt_size ho2)
      refine zl_call (s := { s1 with heap := h' }) (xs := its.toArray) (ys := its2.toArray) (I1.ok.hd hc) D (by rw [List.size_toArray, List.size_toArray]; omega) (by rw [List.size_toArray]; omega) hz hTI ⟨_, _, hTO⟩ h1 h2 (tup_keep p1 fun o q => hk _ _ q) (tup_keep p2' fun o q => hk _ _ q) fun h2' tk acc c as hkk hS hl hG hacc => ?_
      have lo : ∀ b o, s1.heap.get? b = some o → h2'.get? b = some o := fun b o q => by
        have lb := Heap.lt_size q
        exact hkk b o (fun z => by rw [z] at lb; exact absurd lb (Nat.not_lt.mpr (Nat.le_add_right _ _))) (fun z => by rw [z] at lb; exact absurd lb (Nat.not_lt.mpr (Nat.le_add_right _ _))) (fun z => by rw [z] at lb; exact absurd lb (Nat.lt_irrefl _)) (fun z => by rw [z] at lb; exact absurd lb (Nat.not_lt.mpr (Nat.le_add_right _ _))) (hk b o q)
      have hsz' : h'.objs.size = s1.heap.objs.size + 5 := hsz
      have hal : as.length = xs.length := by
        rw [hl, List.size_toArray]
        omega
      have nd : as.Nodup := List.Pairwise.imp (fun {a b} (h : a < b) => Nat.ne_of_lt h) hG.rise
      have big : ∀ t ∈ as, h'.objs.size < t := fun t ht => hG.above t ht
      have hSn : h'.objs.size ∉ as := fun z => Nat.lt_irrefl _ (big _ z)
      have new : ∀ t ∈ as, H1 t = none := fun t ht => I1.hok.fresh (by have := big t ht; rw [hsz'] at this; exact Nat.le_of_lt (Nat.lt_of_le_of_lt (Nat.le_add_right _ _) this))
      have newS : H1 h'.objs.size = none := I1.hok.fresh (by rw [hsz']; exact Nat.le_add_right _ _)
      have lk : ∀ b o, s1.heap.get? b = some o → b ∉ as ∧ b ≠ h'.objs.size := fun b o q => by
        have lb := Heap.lt_size q
        refine ⟨fun z => ?_, fun z => ?_⟩
        · have := big b z
          rw [hsz'] at this
          exact absurd lb (Nat.not_lt.mpr (Nat.le_trans (Nat.le_add_right _ 5) (Nat.le_of_lt this)))
        · rw [z, hsz'] at lb
          exact absurd lb (Nat.not_lt.mpr (Nat.le_add_right _ _))
      have off : ∀ b, b ∉ as → b ≠ h'.objs.size → putZ (upd H1 h'.objs.size (.lst (as.map V.ref))) as (xs.zip ys) b = H1 b := fun b h1 h2 => by rw [putZ_off as _ _ h1, upd_ne h2]
      have kp : ∀ b u, H1 b = some u → putZ (upd H1 h'.objs.size (.lst (as.map V.ref))) as (xs.zip ys) b = some u := fun b u e => by
        rw [off b (fun z => by rw [new b z] at e; cases e) (fun z => by rw [z, newS] at e; cases e)]
        exact e
      have eS : putZ (upd H1 h'.objs.size (.lst (as.map V.ref))) as (xs.zip ys) h'.objs.size = some (.lst (as.map V.ref)) := by rw [putZ_off as _ _ hSn, upd_same]
      have prs : ∀ (j : Nat) (t : Addr), as[j]? = some t → ∃ x y u1 u2, xs[j]? = some x ∧ ys[j]? = some y ∧ RelV x u1 ∧ RelV y u2 ∧ IsPair h2' t u1 u2 ∧ putZ (upd H1 h'.objs.size (.lst (as.map V.ref))) as (xs.zip ys) t = some (.tup [x, y]) := fun j t ht => by
        obtain ⟨u1, u2, f1, f2, f3⟩ := hG.pairs j t ht
        have hj : j < xs.length := by
          have := (List.getElem?_eq_some_iff.mp ht).1
          omega
        have hj2 : j < ys.length := by omega
        have g1 : xs[j]? = some xs[j] := List.getElem?_eq_getElem hj
        have g2 : ys[j]? = some ys[j] := List.getElem?_eq_getElem hj2
        obtain ⟨w1, k1, r1⟩ := rv.get g1
        obtain ⟨w2, k2, r2⟩ := rv2.get g2
        have m1 : u1 = w1 := by
          rw [List.getElem?_toArray, k1] at f1
          exact (Option.some.inj f1).symm
        have m2 : u2 = w2 := by
          rw [List.getElem?_toArray, k2] at f2
          exact (Option.some.inj f2).symm
        subst m1 m2
        refine ⟨xs[j], ys[j], u1, u2, g1, g2, r1, r2, f3, ?_⟩
        exact putZ_at as (xs.zip ys) _ j t (xs[j], ys[j]) nd ht (by rw [List.getElem?_zip_eq_some]; exact ⟨g1, g2⟩)
      refine ⟨.ref _, putZ (upd H1 h'.objs.size (.lst (as.map V.ref))) as (xs.zip ys), ?_, rfl, q _ _ as kp newS new eS hal fun j t ht => ?_⟩
      · have Ik : Inv X pins σ H1 { s1 with heap := h2', toks := tk } := I1.kept (t' := tk) lo
        refine I1.call' (ch := []) rfl ⟨fun b o q _ _ _ => lo b o q, fun b o q _ _ _ => ⟨o.slots, lo b o q⟩, fun b o q n _ => ?_, fun b o q _ => ⟨o, lo b o q⟩, fun b zs q => kp b _ q, fun b o u q => kp b _ q, fun b ps q => ⟨#[], by rw [kp b _ q]; simp⟩⟩ (fun b u q => ?_) I1.bare fun b z => by simp at z
        · obtain ⟨z1, z2⟩ := lk b o q
          rw [off b z1 z2]
          exact n
        · by_cases hb : b ∈ as
          · obtain ⟨j, hj⟩ := List.mem_iff_getElem?.mp hb
            obtain ⟨x, y, u1, u2, _, _, r1, r2, f3, e⟩ := prs j b hj
            rw [e] at q
            cases q
            exact ⟨by show 2 ≤ sizeLine; decide, [u1, u2], .cons r1 (.cons r2 .nil), ⟨_, f3, rfl, _, rfl⟩⟩
          · by_cases hb2 : b = h'.objs.size
            · rw [hb2] at q ⊢
              rw [eS] at q
              cases q
              refine ⟨by rw [List.length_map]; omega, acc.toList, c, by rw [hacc]; exact (let rec go : ∀ as : List Addr, Vals (as.map V.ref) (as.map Value.ref) | [] => .nil | _ :: as => .cons rfl (go as); go as), ?_⟩
              rw [Array.toArray_toList]
              exact hS
            · rw [off b hb hb2] at q
              exact (I1.hok b u q).stay (fun d v _ y => lo d v y) (fun d y => kp d _ y) fun d xs y => kp d _ y
      · obtain ⟨x, y, _, _, g1, g2, _, _, _, e⟩ := prs j t ht
        exact ⟨x, y, g1, g2, e⟩
end
end LmR

set_option Elab.async false
set_option linter.all false
set_option maxRecDepth 100000
set_option maxHeartbeats 2000000
namespace Lm
open PySem PySem.Spec PyProof.Rows L2 LmR
/-! ### defs of the text, callable -/
/-- the def st stands in the text under the name x -/
def DefAt (K : PySem.W.Frag) (mg : Str → Option Value) (x : Str) (st : Stmt) (ps : List Str) : Prop := ∃ f fd, Fun K x x st f fd ∧ Binds K fd ps [] ∧ mg x = some (.ref f)
/-- what stands under the name x keeps sp, by at most level k -/
def Cal (P : Program) (w : World) (K : PySem.W.Frag) (mg : Str → Option Value) (base : Heap) (k : Nat) (x : Str) (ps : List Str) (sp : Sp) : Prop :=
  ∃ f fd, FnOk P w K mg base CX0 k f fd ps sp ∧ mg x = some (.ref f) ∧ PySem.W.keepIn K (.ref f) = true ∧ Binds K fd ps [] ∧ ∃ st, Fun K x x st f fd
section
variable {P : Program} {w : World} {K : PySem.W.Frag} {mg : Str → Option Value} {base : Heap}
theorem Cal.mono {j k : Nat} {x : Str} {ps : List Str} {sp : Sp} (c : Cal P w K mg base j x ps sp) (h : j ≤ k) : Cal P w K mg base k x ps sp := by
  obtain ⟨f, fd, F, g, kp, b⟩ := c
  exact ⟨f, fd, F.mono h, g, kp, b⟩
theorem Cal.weak {k : Nat} {x : Str} {ps : List Str} {sp sp' : Sp} (c : Cal P w K mg base k x ps sp) (h : ∀ vs H Q E, sp' vs H Q E → sp vs H Q E) : Cal P w K mg base k x ps sp' := by
  obtain ⟨f, fd, F, g, kp, b⟩ := c
  exact ⟨f, fd, ⟨fun vs H Q E z => F.len vs H Q E (h vs H Q E z), fun A outer s H args us vs Q E r e b v z => F.run A outer s H args us vs Q E r e b v (h vs H Q E z)⟩, g, kp, b⟩
theorem cal_of {x : Str} {st : Stmt} {N ps : List Str} {k : Nat} {sp : Sp} (D : DefAt K mg x st ps) (S : FnScope N ps (defScope st)) (len : ∀ vs H Q E, sp vs H Q E → vs.length = ps.length)
    (hbody : ∀ (f : Addr) (cdv : Value) (A : Around) (outer : List Env) (s : Shared) (H : Hp) (vs : List V) (Q : VK) (E : XK), Room k (A.deeper (envOfC x (defScope st) s.heap.objs.size f cdv)) → sp vs H Q E →
      ∃ t, PSs (cxOf CX0 P w K mg base N x (defScope st) f cdv A outer s H E).nox (defBody st) t ∧ t { nx := fun _ H' => Q .non H', rt := Q } (start N vs) H) : Cal P w K mg base (k + 1) x ps sp := by
  obtain ⟨f, fd, F, b, g⟩ := D
  exact ⟨f, fd, F.ok S len (hbody f), g, F.kp, b, _, F⟩
/-- nothing is asked: no call is allowed -/
theorem cal_no {x : Str} {st : Stmt} {ps : List Str} {sp : Sp} (D : DefAt K mg x st ps) (no : ∀ vs H Q E, ¬ sp vs H Q E) {k : Nat} : Cal P w K mg base k x ps sp := by
  obtain ⟨f, fd, F, b, g⟩ := D
  exact ⟨f, fd, ⟨fun vs H Q E h => absurd h (no vs H Q E), fun A outer s H args us vs Q E _ _ _ _ h => absurd h (no vs H Q E)⟩, g, F.kp, b, _, F⟩
end
/-- f(e, ..) -/
theorem pe_cal {X : Cx} {k : Nat} {x : Str} {ps : List Str} {sp : Sp} {e : Expr} {es : List Expr} {t : TA} {p pos : Pos} (C : Cal X.prog X.w X.K X.mg X.base k x ps sp) (hr : Room k X.A) (hg : Gl X x) (ha : PA X (e :: es) t)
    (hdb : (x == ("__debug__" : Str)) = false := by decide) (he : starEach (e :: es) X.env = (false, eval e X.env) :: starEach es X.env := by rfl) (hpl : (backTo pos (starEach es X.env)).any (·.1) = false := by rfl) :
    PE X (.Call (.Name x p) (e :: es) [] pos) (tCall sp [] (fun _ _ _ => False) t) := by
  obtain ⟨f, fd, F, g, kp, b, _⟩ := C
  exact pe_call F hr hg g kp b .nil pass0 ha hdb he hpl
/-- the built-ins that the text names and no one has rebound -/
structure Bt (mg : Str → Option Value) : Prop where
  len : mg "len" = none
  isinstance : mg "isinstance" = none
  tuple : mg "tuple" = none
  list : mg "list" = none
  str : mg "str" = none
  int : mg "int" = none
  bool : mg "bool" = none
  range : mg "range" = none
  zip : mg "zip" = none
  enumerate : mg "enumerate" = none
  reversed : mg "reversed" = none
  max : mg "max" = none
  all : mg "all" = none
  min : mg "min" = none
  sum : mg "sum" = none
  any : mg "any" = none
  sorted : mg "sorted" = none
  set : mg "set" = none
  repr : mg "repr" = none
  abs : mg "abs" = none
/-! ### heaps -/
/-- all that was tracked is as it was, but what stands at ws -/
def Ex (ws : List Addr) (H H' : Hp) : Prop := ∀ b o, H b = some o → b ∉ ws → H' b = some o
theorem Ex.refl (ws : List Addr) (H : Hp) : Ex ws H H := fun _ _ h _ => h
theorem Ex.trans {ws : List Addr} {H H1 H2 : Hp} (a : Ex ws H H1) (b : Ex ws H1 H2) : Ex ws H H2 := fun c o h n => b c o (a c o h n) n
theorem Ex.mono {ws us : List Addr} {H H' : Hp} (a : Ex ws H H') (h : ∀ b ∈ ws, b ∈ us) : Ex us H H' := fun c o e n => a c o e fun m => n (h c m)
theorem Ex.of_same {ws : List Addr} {H H' : Hp} (a : Same H H') : Ex ws H H' := fun c o e _ => a c o e
theorem Ex.same {H H' : Hp} (a : Ex [] H H') : Same H H' := fun c o e => a c o e (by simp)
theorem Ex.new {ws : List Addr} {H : Hp} {p : Addr} {o : HO} (h : H p = none) : Ex ws H (upd H p o) := fun b u q _ => by rw [upd_ne (ne_of_none q h)]; exact q
theorem Ex.at {ws : List Addr} {H : Hp} {p : Addr} {o : HO} (h : p ∈ ws) : Ex ws H (upd H p o) := fun b u q n => by rw [upd_ne (fun z => n (by rw [z]; exact h))]; exact q
theorem same_new {H : Hp} {p : Addr} {o : HO} (h : H p = none) : Same H (upd H p o) := fun b u q => by rw [upd_ne (ne_of_none q h)]; exact q
theorem Ex.free {ws : List Addr} {H H' : Hp} (a : Ex ws H H') {p : Addr} (h : H' p = none) (n : p ∉ ws) : H p = none := by
  cases q : H p with
  | none => rfl
  | some o =>
    rw [a p o q n] at h
    cases h
theorem Ex.ne {ws : List Addr} {H H' : Hp} (a : Ex ws H H') {p q : Addr} {o : HO} (h : H q = some o) (hq : q ∉ ws) (hp : H' p = none) : q ≠ p := fun z => by
  rw [← z, a q o h hq] at hp
  cases hp
theorem small {n : Nat} (h : n ≤ 100000) : n ≤ sizeLine := Nat.le_trans h (by decide)
theorem smallL {n : Nat} (h : n ≤ 100000) : n < sizeLine := Nat.lt_of_le_of_lt h (by decide)
/-! ### data: None, truths, ints, texts, tuples of these -/
/-- without lists and dicts -/
def flat : PyData → Bool
  | .none => true
  | .bool _ => true
  | .int _ => true
  | .str _ => true
  | .list _ => false
  | .tuple xs => flats xs
  | .dict _ => false
where flats : List PyData → Bool
  | [] => true
  | d :: ds => flat d && flats ds
/-- the tuples that were there are there -/
def Tp (K : PySem.W.Frag) (H H' : Hp) : Prop := ∀ a xs, SqT K H a xs → SqT K H' a xs
theorem Ex.tp {K : PySem.W.Frag} {ws : List Addr} {H H' : Hp} (a : Ex ws H H') (h : ∀ b ∈ ws, ∀ xs, ¬ Rd H b (.tup xs)) : Tp K H H' := fun b xs q => by
  rcases q with (q | ⟨o, q⟩) | q
  · exact .inl (.inl (a b _ q fun m => h b m xs (.inl q)))
  · exact .inl (.inr ⟨o, a b _ q fun m => h b m xs (.inr ⟨o, q⟩)⟩)
  · exact .inr q
theorem Tp.refl (K : PySem.W.Frag) (H : Hp) : Tp K H H := fun _ _ h => h
theorem Tp.trans {K : PySem.W.Frag} {H H1 H2 : Hp} (a : Tp K H H1) (b : Tp K H1 H2) : Tp K H H2 := fun c xs h => b c xs (a c xs h)
theorem Tp.same {K : PySem.W.Frag} {H H' : Hp} (a : Same H H') : Tp K H H' := fun b xs q => by
  rcases q with (q | ⟨o, q⟩) | q
  · exact .inl (.inl (a b _ q))
  · exact .inl (.inr ⟨o, a b _ q⟩)
  · exact .inr q
/-- a list (or dict) that is written -/
theorem Tp.put {K : PySem.W.Frag} {H : Hp} {p : Addr} {o o' : HO} (h : H p = some o) (n1 : ∀ xs, o ≠ .tup xs) (n2 : ∀ u v, o ≠ .frz u v) : Tp K H (upd H p o') := fun b xs q => by
  rcases q with (q | ⟨u, q⟩) | q
  · have nb : b ≠ p := fun z => by
      rw [z, h] at q
      exact n1 xs (Option.some.inj q)
    exact .inl (.inl (by rw [upd_ne nb]; exact q))
  · have nb : b ≠ p := fun z => by
      rw [z, h] at q
      exact n2 _ _ (Option.some.inj q)
    exact .inl (.inr ⟨u, by rw [upd_ne nb]; exact q⟩)
  · exact .inr q
theorem Tp.lst {K : PySem.W.Frag} {H : Hp} {p : Addr} {xs : List V} {o' : HO} (h : H p = some (.lst xs)) : Tp K H (upd H p o') := Tp.put h (fun _ z => nomatch z) (fun _ _ z => nomatch z)
theorem Tp.dct {K : PySem.W.Frag} {H : Hp} {p : Addr} {xs : List (Key × V)} {o' : HO} (h : H p = some (.dK xs)) : Tp K H (upd H p o') := Tp.put h (fun _ z => nomatch z) (fun _ _ z => nomatch z)
theorem Tp.new {K : PySem.W.Frag} {H : Hp} {p : Addr} {o : HO} (h : H p = none) : Tp K H (upd H p o) := Tp.same (same_new h)
mutual
theorem dp_keep {K : PySem.W.Frag} {H H' : Hp} (t : Tp K H H') : ∀ (d : PyData) (v : V), flat d = true → Dp K H v d → Dp K H' v d
  | .none, _, _, h => by cases h; exact .non
  | .bool b, _, _, h => by cases h; exact .bl b
  | .int i, _, _, h => by cases h; exact .int i
  | .str x, _, _, h => by cases h; exact .str x
  | .list ds, _, f, _ => by simp [flat] at f
  | .tuple ds, _, f, h => by
    cases h with
    | tup q r => exact .tup (t _ _ q) (dps_keep t ds _ f r)
  | .dict ds, _, f, _ => by simp [flat] at f
theorem dps_keep {K : PySem.W.Frag} {H H' : Hp} (t : Tp K H H') : ∀ (ds : List PyData) (vs : List V), flat.flats ds = true → DpAll K H vs ds → DpAll K H' vs ds
  | [], _, _, h => by cases h; exact .nil
  | d :: ds, _, f, h => by
    rw [flat.flats, Bool.and_eq_true] at f
    cases h with
    | cons a b => exact .cons (dp_keep t d _ f.1 a) (dps_keep t ds _ f.2 b)
end
/-- flat data at v -/
def Fd (K : PySem.W.Frag) (H : Hp) (v : V) (d : PyData) : Prop := flat d = true ∧ Dp K H v d
theorem Fd.keep {K : PySem.W.Frag} {H H' : Hp} {v : V} {d : PyData} (h : Fd K H v d) (t : Tp K H H') : Fd K H' v d := ⟨h.1, dp_keep t d v h.1 h.2⟩
/-! ### rules within a comprehension: the written part by its name -/
section
variable {X : Cx} {K : PySem.W.Frag}
theorem ix_tupK (h : X.K = K) : IxR X (rIxT K) := h ▸ ix_tup
theorem ix_listK (h : X.K = K) : IxR X (rIxL K) := h ▸ ix_list
def rLenK (K : PySem.W.Frag) : List V → Hp → VK → Prop := fun xs H Q => ∃ p ys, xs = [.ref p] ∧ (SqL K H p ys ∨ SqT K H p ys) ∧ Q (.int ys.length) H
theorem call_len_seqK (h : X.K = K) : CallR X (.builtin "len") (rLenK K) := h ▸ call_len_seq
theorem pe_bm0K {T : String} {name : Str} {id : String} {r : V → List V → Hp → VK → Prop} {o : Expr} {to : TE} {apos cpos : Pos} (h : X.K = K) (pa : PlainAttrs T) (slot : Slot T name id) (hty : typeOf (.builtin id) = pure (.type "method_descriptor")) (hm : MtR X id r) (ho : PE X o to)
    (hbase : attributeBase o name X.env (eval o X.env) = eval o X.env := by rfl) (hline : (apos.endLine == cpos.line) = true := by rfl) : PE X (.Call (.Attribute o name apos) [] [] cpos) (tBM0 K T r to) := h ▸ pe_bm0 pa slot hty hm ho hbase hline
end
end Lm

set_option Elab.async false
set_option linter.all false
set_option maxRecDepth 100000
set_option maxHeartbeats 2000000
namespace Lm
open PySem PySem.Spec PyProof.Rows L2 LmR
/-! ### programs -/
inductive Bw where
  | least
  | most
  | atmost
  | both
  | either
def Bw.str : Bw → Str
  | .least => "least"
  | .most => "most"
  | .atmost => "atmost"
  | .both => "both"
  | .either => "either"
/-- the kind due to its parts; its own (true: truth) -/
def Bw.arg : Bw → Bool
  | .least => false
  | .most => false
  | .atmost => false
  | .both => true
  | .either => true
def Bw.own : Bw → Bool
  | .least => false
  | .most => false
  | .atmost => true
  | .both => true
  | .either => true
inductive Pg where
  | inp (k : Nat)
  | num (c : Int)
  | tr (b : Bool)
  | plus (c : Int) (a : Pg)
  | bin (w : Bw) (a b : Pg)
  | neg (a : Pg)
  | ite (p a b : Pg)
def trS : Bool → Str
  | true => "yes"
  | false => "no"
def kS : Bool → Str
  | true => "truth"
  | false => "num"
def word : Pg → Str
  | .inp _ => "in"
  | .num _ => "num"
  | .tr b => trS b
  | .plus _ _ => "plus"
  | .bin w _ _ => w.str
  | .neg _ => "not"
  | .ite _ _ _ => "if"
def enc : Pg → PyData
  | .inp k => .tuple [.str "in", .int k]
  | .num c => .tuple [.str "num", .int c]
  | .tr b => .tuple [.str (trS b)]
  | .plus c a => .tuple [.str "plus", .int c, enc a]
  | .bin w a b => .tuple [.str w.str, enc a, enc b]
  | .neg a => .tuple [.str "not", enc a]
  | .ite p a b => .tuple [.str "if", enc p, enc a, enc b]
theorem flat_enc : ∀ p : Pg, flat (enc p) = true
  | .inp _ => rfl
  | .num _ => rfl
  | .tr _ => rfl
  | .plus c a => by simp [enc, flat, flat.flats, flat_enc a]
  | .bin w a b => by simp [enc, flat, flat.flats, flat_enc a, flat_enc b]
  | .neg a => by simp [enc, flat, flat.flats, flat_enc a]
  | .ite p a b => by simp [enc, flat, flat.flats, flat_enc a, flat_enc b, flat_enc p]
/-- its kind by itself -/
def own (ks : List Bool) : Pg → Bool
  | .inp k => ks.getD k false
  | .num _ => false
  | .tr _ => true
  | .plus _ _ => false
  | .bin w _ _ => w.own
  | .neg _ => true
  | .ite _ a _ => own ks a
/-- it is let by -/
def Wk (ks : List Bool) : Pg → Prop
  | .inp k => k < ks.length
  | .num _ => True
  | .tr _ => True
  | .plus _ a => Wk ks a ∧ own ks a = false
  | .bin w a b => Wk ks a ∧ Wk ks b ∧ own ks a = w.arg ∧ own ks b = w.arg
  | .neg a => Wk ks a ∧ own ks a = true
  | .ite p a b => Wk ks p ∧ Wk ks a ∧ Wk ks b ∧ own ks p = true ∧ own ks b = own ks a
def parts : Pg → List Pg
  | .inp _ => []
  | .num _ => []
  | .tr _ => []
  | .plus _ a => [a]
  | .bin _ a b => [a, b]
  | .neg a => [a]
  | .ite p a b => [p, a, b]
def psz : Pg → Nat
  | .inp _ => 1
  | .num _ => 1
  | .tr _ => 1
  | .plus _ a => psz a + 1
  | .bin _ a b => psz a + psz b + 1
  | .neg a => psz a + 1
  | .ite p a b => psz p + psz a + psz b + 1
def dep : Pg → Nat
  | .inp _ => 1
  | .num _ => 1
  | .tr _ => 1
  | .plus _ a => dep a + 1
  | .bin _ a b => max (dep a) (dep b) + 1
  | .neg a => dep a + 1
  | .ite p a b => max (dep p) (max (dep a) (dep b)) + 1
def kn : Pg → List Pg
  | .inp k => [.inp k]
  | .num c => [.num c]
  | .tr b => [.tr b]
  | .plus c a => .plus c a :: kn a
  | .bin w a b => .bin w a b :: (kn a ++ kn b)
  | .neg a => .neg a :: kn a
  | .ite p a b => .ite p a b :: (kn p ++ (kn a ++ kn b))
theorem kn_len : ∀ p : Pg, (kn p).length = psz p
  | .inp _ => rfl
  | .num _ => rfl
  | .tr _ => rfl
  | .plus c a => by simp [kn, psz, kn_len a]
  | .bin w a b => by simp [kn, psz, kn_len a, kn_len b]
  | .neg a => by simp [kn, psz, kn_len a]
  | .ite p a b => by simp [kn, psz, kn_len a, kn_len b, kn_len p]; omega
theorem psz_pos (p : Pg) : 1 ≤ psz p := by cases p <;> simp [psz]
theorem dep_pos (p : Pg) : 1 ≤ dep p := by cases p <;> simp [dep]
theorem dep_le : ∀ p : Pg, dep p ≤ psz p
  | .inp _ => Nat.le_refl _
  | .num _ => Nat.le_refl _
  | .tr _ => Nat.le_refl _
  | .plus c a => by have := dep_le a; simp only [dep, psz]; omega
  | .bin w a b => by have := dep_le a; have := dep_le b; simp only [dep, psz]; omega
  | .neg a => by have := dep_le a; simp only [dep, psz]; omega
  | .ite p a b => by have := dep_le a; have := dep_le b; have := dep_le p; simp only [dep, psz]; omega
theorem kn_eq (p : Pg) : kn p = p :: (parts p).flatMap kn := by cases p <;> simp [kn, parts]
theorem psz_eq (p : Pg) : psz p = 1 + ((parts p).map psz).sum := by cases p <;> simp [psz, parts] <;> omega
/-- the things behind its word, as they stand in the tuple -/
def front : Pg → List V
  | .inp k => [.str "in", .int k]
  | .num c => [.str "num", .int c]
  | .tr b => [.str (trS b)]
  | .plus c _ => [.str "plus", .int c]
  | .bin w _ _ => [.str w.str]
  | .neg _ => [.str "not"]
  | .ite _ _ _ => [.str "if"]
/-- the program p stands at v -/
def At (K : PySem.W.Frag) (H : Hp) (v : V) (p : Pg) : Prop := Dp K H v (enc p)
def Ats (K : PySem.W.Frag) (H : Hp) (vs : List V) (ps : List Pg) : Prop := DpAll K H vs (ps.map enc)
theorem At.fd {K : PySem.W.Frag} {H : Hp} {v : V} {p : Pg} (h : At K H v p) : Fd K H v (enc p) := ⟨flat_enc p, h⟩
theorem At.keep {K : PySem.W.Frag} {H H' : Hp} {v : V} {p : Pg} (h : At K H v p) (t : Tp K H H') : At K H' v p := dp_keep t _ _ (flat_enc p) h
theorem flats_encs : ∀ ps : List Pg, flat.flats (ps.map enc) = true
  | [] => rfl
  | p :: ps => by simp [flat.flats, flat_enc p, flats_encs ps]
theorem Ats.keep {K : PySem.W.Frag} {H H' : Hp} {vs : List V} {ps : List Pg} (h : Ats K H vs ps) (t : Tp K H H') : Ats K H' vs ps := dps_keep t _ _ (flats_encs ps) h
theorem Ats.nil {K : PySem.W.Frag} {H : Hp} : Ats K H [] [] := DpAll.nil
theorem Ats.cons {K : PySem.W.Frag} {H : Hp} {v : V} {vs : List V} {p : Pg} {ps : List Pg} (h : At K H v p) (t : Ats K H vs ps) : Ats K H (v :: vs) (p :: ps) := DpAll.cons h t
theorem Ats.app {K : PySem.W.Frag} {H : Hp} : ∀ {vs us : List V} {ps qs : List Pg}, Ats K H vs ps → Ats K H us qs → Ats K H (vs ++ us) (ps ++ qs)
  | [], _, [], _, _, b => b
  | v :: vs, _, p :: ps, _, a, b => by
    cases a with
    | cons h t => exact Ats.cons h (Ats.app (vs := vs) (ps := ps) t b)
  | [], _, p :: ps, _, a, _ => by cases a
  | v :: vs, _, [], _, a, _ => by cases a
theorem Ats.len {K : PySem.W.Frag} {H : Hp} : ∀ {vs : List V} {ps : List Pg}, Ats K H vs ps → vs.length = ps.length
  | [], [], _ => rfl
  | v :: vs, p :: ps, a => by
    cases a with
    | cons h t => rw [List.length_cons, List.length_cons, Ats.len (vs := vs) (ps := ps) t]
  | [], p :: ps, a => by cases a
  | v :: vs, [], a => by cases a
theorem Ats.get {K : PySem.W.Frag} {H : Hp} : ∀ {vs : List V} {ps : List Pg}, Ats K H vs ps → ∀ (j : Nat) (v : V), vs[j]? = some v → ∃ p, ps[j]? = some p ∧ At K H v p
  | [], [], _, j, v, h => by simp at h
  | u :: vs, p :: ps, a, 0, v, h => by
    cases a with
    | cons x t =>
      have e := Option.some.inj h
      subst e
      exact ⟨p, rfl, x⟩
  | u :: vs, p :: ps, a, j + 1, v, h => by
    cases a with
    | cons x t => exact Ats.get (vs := vs) (ps := ps) t j v h
  | [], p :: ps, a, _, _, _ => by cases a
  | v :: vs, [], a, _, _, _ => by cases a
/-- the tuple that it is -/
theorem At.open {K : PySem.W.Frag} {H : Hp} {v : V} {p : Pg} (h : At K H v p) : ∃ (a : Addr) (vs : List V), v = .ref a ∧ SqT K H a (front p ++ vs) ∧ Ats K H vs (parts p) := by
  cases p with
  | inp k =>
    cases h with
    | tup q r =>
      cases r with
      | cons r1 r =>
        cases r with
        | cons r2 r =>
          cases r
          cases r1
          cases r2
          exact ⟨_, [], rfl, q, .nil⟩
  | num c =>
    cases h with
    | tup q r =>
      cases r with
      | cons r1 r =>
        cases r with
        | cons r2 r =>
          cases r
          cases r1
          cases r2
          exact ⟨_, [], rfl, q, .nil⟩
  | tr b =>
    cases h with
    | tup q r =>
      cases r with
      | cons r1 r =>
        cases r
        cases r1
        exact ⟨_, [], rfl, q, .nil⟩
  | plus c a =>
    cases h with
    | tup q r =>
      cases r with
      | cons r1 r =>
        cases r with
        | cons r2 r =>
          cases r1
          cases r2
          exact ⟨_, _, rfl, q, r⟩
  | bin w a b =>
    cases h with
    | tup q r =>
      cases r with
      | cons r1 r =>
        cases r1
        exact ⟨_, _, rfl, q, r⟩
  | neg a =>
    cases h with
    | tup q r =>
      cases r with
      | cons r1 r =>
        cases r1
        exact ⟨_, _, rfl, q, r⟩
  | ite p a b =>
    cases h with
    | tup q r =>
      cases r with
      | cons r1 r =>
        cases r1
        exact ⟨_, _, rfl, q, r⟩
theorem Ats.one {K : PySem.W.Frag} {H : Hp} {vs : List V} {p : Pg} (h : Ats K H vs [p]) : ∃ v, vs = [v] ∧ At K H v p := by
  cases h with
  | cons a r =>
    cases r
    exact ⟨_, rfl, a⟩
theorem Ats.two {K : PySem.W.Frag} {H : Hp} {vs : List V} {p q : Pg} (h : Ats K H vs [p, q]) : ∃ u v, vs = [u, v] ∧ At K H u p ∧ At K H v q := by
  cases h with
  | cons a r =>
    cases r with
    | cons b r =>
      cases r
      exact ⟨_, _, rfl, a, b⟩
theorem Ats.three {K : PySem.W.Frag} {H : Hp} {vs : List V} {p q r : Pg} (h : Ats K H vs [p, q, r]) : ∃ u v w, vs = [u, v, w] ∧ At K H u p ∧ At K H v q ∧ At K H w r := by
  cases h with
  | cons a t =>
    cases t with
    | cons b t =>
      cases t with
      | cons c t =>
        cases t
        exact ⟨_, _, _, rfl, a, b, c⟩
/-! ### sums of sizes -/
theorem kn_le : ∀ (p q : Pg), q ∈ kn p → psz q ≤ psz p
  | .inp _, q, h => by simp [kn] at h; rw [h]; exact Nat.le_refl _
  | .num _, q, h => by simp [kn] at h; rw [h]; exact Nat.le_refl _
  | .tr _, q, h => by simp [kn] at h; rw [h]; exact Nat.le_refl _
  | .plus c a, q, h => by
    simp only [kn, List.mem_cons] at h
    rcases h with h | h
    · rw [h]; exact Nat.le_refl _
    · have := kn_le a q h; simp only [psz]; omega
  | .bin w a b, q, h => by
    simp only [kn, List.mem_cons, List.mem_append] at h
    rcases h with h | h | h
    · rw [h]; exact Nat.le_refl _
    · have := kn_le a q h; simp only [psz]; omega
    · have := kn_le b q h; simp only [psz]; omega
  | .neg a, q, h => by
    simp only [kn, List.mem_cons] at h
    rcases h with h | h
    · rw [h]; exact Nat.le_refl _
    · have := kn_le a q h; simp only [psz]; omega
  | .ite p a b, q, h => by
    simp only [kn, List.mem_cons, List.mem_append] at h
    rcases h with h | h | h | h
    · rw [h]; exact Nat.le_refl _
    · have := kn_le p q h; simp only [psz]; omega
    · have := kn_le a q h; simp only [psz]; omega
    · have := kn_le b q h; simp only [psz]; omega
theorem kn_wk (ks : List Bool) : ∀ (p q : Pg), Wk ks p → q ∈ kn p → Wk ks q
  | .inp _, q, w, h => by simp [kn] at h; rw [h]; exact w
  | .num _, q, w, h => by simp [kn] at h; rw [h]; exact w
  | .tr _, q, w, h => by simp [kn] at h; rw [h]; exact w
  | .plus c a, q, w, h => by
    simp only [kn, List.mem_cons] at h
    rcases h with h | h
    · rw [h]; exact w
    · exact kn_wk ks a q w.1 h
  | .bin _ a b, q, w, h => by
    simp only [kn, List.mem_cons, List.mem_append] at h
    rcases h with h | h | h
    · rw [h]; exact w
    · exact kn_wk ks a q w.1 h
    · exact kn_wk ks b q w.2.1 h
  | .neg a, q, w, h => by
    simp only [kn, List.mem_cons] at h
    rcases h with h | h
    · rw [h]; exact w
    · exact kn_wk ks a q w.1 h
  | .ite p a b, q, w, h => by
    simp only [kn, List.mem_cons, List.mem_append] at h
    rcases h with h | h | h | h
    · rw [h]; exact w
    · exact kn_wk ks p q w.1 h
    · exact kn_wk ks a q w.2.1 h
    · exact kn_wk ks b q w.2.2.1 h
end Lm

set_option Elab.async false
set_option linter.all false
set_option maxRecDepth 100000
set_option maxHeartbeats 2000000
namespace Lm
open PySem PySem.Spec PyProof.Rows L2 LmR
/-! ### a def called within an except suite, handed the exception -/
structure FnP (P : Program) (w : World) (K : PySem.W.Frag) (mg : Str → Option Value) (base : Heap) (p : Addr × Obj) (k : Nat) (f : Addr) (fd : FuncData) (ps : List Str) (sp : Sp) : Prop where
  len : ∀ vs H Q E, sp vs H Q E → vs.length = ps.length
  run : ∀ (A : Around) (outer : List Env) (s : Shared) (H : Hp) (args : Args) (us : List Value) (vs : List V) (Q : VK) (E : XK), L2H.RoomH k A → L2H.PinOk outer H s p → Env0 P w K mg base A outer s H → BindsTo s fd args (ps.zip us) → Vals vs us → sp vs H Q E →
    codeAny (model P w) A (.call (.ref f) args) (CR CX0 outer P w H s Q E) s
theorem fn_ofP {P : Program} {w : World} {K : PySem.W.Frag} {mg : Str → Option Value} {base : Heap} {k : Nat} {x : Str} {st : Stmt} {f : Addr} {fd : FuncData} {N ps : List Str} {sp : Sp} {p : Addr × Obj} (F : Fun K x x st f fd) (S : FnScope N ps (defScope st))
    (len : ∀ vs H Q E, sp vs H Q E → vs.length = ps.length)
    (hbody : ∀ (cdv : Value) (A : Around) (outer : List Env) (s : Shared) (H : Hp) (vs : List V) (Q : VK) (E : XK), L2H.RoomH k (A.deeper (envOfC x (defScope st) s.heap.objs.size f cdv)) → sp vs H Q E →
      ∃ t, PSs (L2H.cxH CX0 P w K mg base N x (defScope st) f cdv A outer s H E p) (defBody st) t ∧ t { nx := fun _ H' => Q .non H', rt := Q } (L2.start N vs) H) : FnP P w K mg base p (k + 1) f fd ps sp := by
  obtain ⟨oc, od, kV, doc, pm, an, cdv, ct, osl, rfl, lk, hcd⟩ := F.ex
  refine ⟨len, fun A outer s H args us vs Q E hr hpin e0 hb r hsp => ?_⟩
  have hl := len _ _ _ _ hsp
  have KX : K.In s.heap := e0.mod.kin.keeps fun b o e => (e0.bs b o e).1
  have lim : s.heap.NoLimit := e0.mod.nolimit.keeps fun b o e => (e0.bs b o e).1
  have hkind : ∀ y ∈ ps.zip us, (defScope st).names.lookup y.1 = some .local ∨ ((defScope st).names.lookup y.1 = some .cell ∧ ((cellsFrom (s.heap.objs.size + 1) (defScope st).names []).lookup y.1).isSome = true) := fun ⟨n, v⟩ hy => by
    rcases S.par n (List.of_mem_zip hy).1 with q | q
    · exact .inl q
    · exact .inr ⟨q, PySem.W.cellsFrom_some _ _ _ (.inl q)⟩
  refine codeAny_call_function hr.depth (KX _ _ lk) rfl S.co S.gen rfl (PySem.W.codeRec_of KX hcd) (hb _ _ _ _ ?_)
  refine wpAny_newFunctionEnv_cells S.kind hkind fun env he s1 y => ?_
  subst he
  refine ⟨lim.keeps y.toInCall.keep, codeAny_func ?_⟩
  obtain ⟨t, ht, hq⟩ := hbody cdv A outer s H vs Q E (hr.deeper _) hsp
  have I : Inv (L2H.cxH CX0 P w K mg base N x (defScope st) f cdv A outer s H E p) [] (L2.start N vs) H s1 := L2H.inv_startH S hpin e0 hl r y
  refine wpAny_mono (ht.run [] s1 (L2.start N vs) H _ I hq) (fun fl s' hs => ?_) fun e s' hs => hs
  have fin : ∀ {σ' : L2.St} {H' : Hp} {v : V} {u : Value}, Inv (L2H.cxH CX0 P w K mg base N x (defScope st) f cdv A outer s H E p) [] σ' H' s' → RelV v u → Q v H' → CE outer P w H s Q u s' :=
    fun {σ' H' v u} J rv q => ⟨v, H', J.os, J.bare, J.base, J.hok, rv, q⟩
  cases fl with
  | ret u =>
    obtain ⟨v, σ', H', J, rv, q⟩ := hs
    exact fin J rv q
  | next =>
    obtain ⟨σ', H', J, q⟩ := hs
    exact fin (v := V.non) (u := Value.none) J rfl q
  | brk =>
    obtain ⟨_, _, _, q⟩ := hs
    exact False.elim q
  | cont =>
    obtain ⟨_, _, _, q⟩ := hs
    exact False.elim q
theorem pe_callP {X : Cx} {k : Nat} {f : Addr} {fd : FuncData} {ps : List Str} {sp : Sp} {x : Str} {q pos : Pos} {e : Expr} {es : List Expr} {t : TA} {p : Addr × Obj} (F : FnP X.prog X.w X.K X.mg X.base p k f fd ps sp) (hr : L2H.RoomH k X.A) (hp : p ∈ X.pn) (hg : Gl X x) (hm : X.mg x = some (.ref f)) (hk : PySem.W.keepIn X.K (.ref f) = true) (hb : Binds X.K fd ps [])
    (ha : PA X (e :: es) t) (hdb : (x == ("__debug__" : Str)) = false := by decide) (he : starEach (e :: es) X.env = (false, eval e X.env) :: starEach es X.env := by rfl) (hpl : (backTo pos (starEach es X.env)).any (·.1) = false := by rfl) :
    PE X (.Call (.Name x q) (e :: es) [] pos) (tCall sp [] (fun _ _ _ => False) t) := by
  refine ⟨fun pins s σ H Q I h => ?_⟩
  refine wpAny_Call_Name_kw (ld_glob I hg hm ?_ hdb)
  refine PySem.W.callWith_K (h₀ := X.base) I.ok.mod.kin hk (thn (ha.run pos pins s σ H _ I h) fun us s1 ⟨vs, H1, I1, r, q⟩ => ⟨I1.kIn, ?_⟩) he hpl
  have q : sp vs H1 Q (fun _ _ _ => False) := by
    have z : sp (vs ++ []) H1 Q (fun _ _ _ => False) := q
    rw [List.append_nil] at z
    exact z
  have hl : us.length = ps.length := by rw [← r.length]; exact F.len _ _ _ _ q
  have b := hb s1 us I1.kIn (by rw [List.append_nil]; exact hl)
  rw [List.append_nil] at b
  have P1 := I1.pin p (List.mem_append_left _ hp)
  have hpin : L2H.PinOk X.stack H1 s1 p := ⟨P1.1, P1.2.1, fun hm => (List.mem_cons.mp (I1.stkSub p.1 hm)).elim P1.2.2.1 P1.2.2.2.1, P1.2.2.2.2⟩
  refine wpAny_call (codeAny_mono (F.run X.A X.stack s1 H1 ⟨us, []⟩ us vs Q (fun _ _ _ => False) hr hpin I1.env0 b r q) fun r s' hq => ?_)
  cases r with
  | error e => exact hq.elim
  | ok fl =>
    cases fl with
    | ret u => exact I1.after hq
    | next => exact False.elim hq
    | brk => exact False.elim hq
    | cont => exact False.elim hq
/-! ### isinstance of an exception that is pinned -/
structure ExK (K : PySem.W.Frag) (C : Addr) : Prop where
  cl : (PySem.W.clsIn K C).isSome = true
  ga : PySem.W.findIn K (.ref C) "__getattribute__" = some (some (.builtin "BaseException.__getattribute__"))
  gg : PySem.W.findIn K (.ref C) "__getattr__" = some none
  ex : PySem.W.subIn K (.ref C) (.type "BaseException") = some true
  ca : PySem.W.findIn K (.ref C) "__class__" = some (some (.builtin "object.__class__"))
  gn : PySem.W.specialIn K (.builtin "object.__class__") "__get__" = some (some (.builtin "getset_descriptor.__get__"))
  tk : PySem.W.takesIn K (.builtin "object.__class__") = some true
  ob : PySem.W.mroIn K C (.type "object") = some true
/-- isinstance(e, c), e the exception at a of the class at C -/
def rIsP (K : PySem.W.Frag) (C a : Addr) : List V → Hp → VK → Prop := fun xs H Q => ∃ (D : Addr) (b : Bool), xs = [.ref a, .ref D] ∧ PySem.W.kitOne K (.ref C) (.ref D) = some b ∧ Q (.bl b) H
theorem call_isP {X : Cx} {a C : Addr} {oe : Obj} {dct : Option Addr} (k : ExK X.K C) (hz : Zc (.ref C) dct oe) (hf : ∃ vs, oe.data = .fields vs) (hp : (a, oe) ∈ X.pn) (hd : ∀ pins σ H s, Inv X pins σ H s → ∃ od : Option Obj, PySem.W.InstAt s.heap a oe C od) : CallR X (.builtin "isinstance") (rIsP X.K C a) := by
  intro pins s σ H xs us Q I r h
  obtain ⟨D, b, rfl, e, q⟩ := h
  obtain ⟨u1, u2, rfl, r1, r2⟩ := vals2 r
  cases (show u1 = Value.ref a from r1)
  cases (show u2 = Value.ref D from r2)
  obtain ⟨od, J⟩ := hd pins σ H s I
  exact PySem.W.kia_one (PySem.W.kitx_exc k.cl k.ga k.gg k.ex k.ca k.gn k.tk k.ob) I.kIn J e (fun z => nomatch z) fun tk => ⟨.bl b, H, I.tok tk, rfl, q⟩
/-! ### xs.count(True) of truths -/
theorem mt_countB {X : Cx} : MtR X "list.count" (fun x xs H Q => ∃ (p : Addr) (bs : List Bool), x = .ref p ∧ xs = [.bl true] ∧ SqL X.K H p (bs.map V.bl) ∧ Q (.int (bs.count true : Nat)) H) := by
  intro pins s σ H x xs v us Q I rx rxs h
  obtain ⟨p, bs, rfl, rfl, hs, q⟩ := h
  cases rx
  obtain ⟨u, rfl, ru⟩ := rxs.one
  cases (show u = Value.bool true from ru)
  obtain ⟨its, rv, ⟨⟨cls, dd, data, sl⟩, n, ho, hc, hdn, hd⟩, hlen⟩ := I.list hs
  simp only at hc hd
  subst hc hd
  have key : ∀ (bs : List Bool) (its : List Value), Vals (bs.map V.bl) its → its = bs.map Value.bool := by
    intro bs
    induction bs with
    | nil => intro its r; cases r; rfl
    | cons b bs ih =>
      intro its r
      cases r with
      | cons a r =>
        rename_i u us'
        rw [List.map_cons, ih us' r]
        congr 1
  have ei := key bs its rv
  subst ei
  let g : Value → Bool := fun y => y == .bool true
  refine call_meets PySem.F.slot_list_count ⟨_, ho, rfl⟩ PySem.F.entry_list_count (PySem.F.args_list_count_2 _ _)
    (SeqAt.list_countAt p (bs.map Value.bool).toArray n dd sl (.bool true) g) ⟨ho, fun y hy => ?_, ?_⟩
  · have hy' : y ∈ bs.map Value.bool := by simpa using hy
    obtain ⟨b, _, rfl⟩ := List.mem_map.mp hy'
    have eg : g (.bool b) = eqV (.bl b) (.bl true) := by cases b <;> rfl
    rw [eg]
    exact eqAt_V (y := .bl b) (x := .bl true) rfl rfl rfl rfl
  · have ec : ((bs.map Value.bool).toArray.toList.countP g) = bs.count true := by
      show (bs.map Value.bool).countP g = _
      rw [List.countP_map]
      unfold List.count
      congr 1
      funext b
      cases b <;> rfl
    refine ⟨.int (bs.count true : Nat), H, I.tok _, ⟨s.toks, ?_⟩, q⟩
    show Value.int (((bs.map Value.bool).toArray.toList.countP g : Nat) : Int) s.toks = Value.int ((bs.count true : Nat) : Int) s.toks
    rw [ec]
end Lm

set_option Elab.async false
set_option linter.all false
set_option maxRecDepth 100000
set_option maxHeartbeats 2000000
namespace Lm
open PySem PySem.Spec PyProof.Rows L2 LmR
abbrev oEnum (a : Addr) : Obj := { cls := .type "enumerate", data := .fields #[.none, .bool false, .ref a, rawInt 0, .none, .none] }
/-- enumerate(v): two new cells -/
theorem enum_new1 {v : Value} {o : Obj} {G : Heap → Prop} (B : Begins v o G) :
    Meets (Builtin.«enumerate.__new__» ⟨[.type "enumerate", v], []⟩) (fun _ R s => G s.heap ∧ R (.ok (.ret (.ref (s.heap.push o).objs.size))) { s with heap := (s.heap.push o).push (oEnum s.heap.objs.size) }) :=
  .of_wp fun prog w A R s hh => by
    obtain ⟨hp, g, d, tk, os⟩ := s
    obtain ⟨hG, hR⟩ := hh
    have hsub := sub_enumerate
    have go : ∀ {A' : Around} {E : Value → Shared → Prop} {Q : Value → Shared → Prop}, Q (.ref hp.objs.size) ⟨hp.push o, g, d, tk, os⟩ → wpAny (model prog w) A' (pyIter v) Q E ⟨hp, g, d, tk, os⟩ :=
      fun q => B.iter prog w _ _ _ _ hG q
    wp_walk using go
    refine wpAny_stack_any fun st => wpAny_pure ?_
    split
    · rename_i c _ _ _ _ _
      cases (c == Value.type "enumerate") <;> (wp_walk using go; exact ⟨_, rfl, hR⟩)
    · wp_walk using go
      exact ⟨_, rfl, hR⟩
theorem enum_call1 {prog : Program} {w : World} {A : Around} {E : Value → Shared → Prop} {s : Shared} {v : Value} {o : Obj} {G : Heap → Prop} {Q : Value → Shared → Prop} (B : Begins v o G) (hG : G s.heap)
    (hQ : ∀ h2, IsEnum h2 (s.heap.objs.size + 1) s.heap.objs.size 0 .none → h2.get? s.heap.objs.size = some o → (∀ b ob, s.heap.get? b = some ob → h2.get? b = some ob) → Q (.ref (s.heap.objs.size + 1)) { s with heap := h2 }) :
    wpAny (model prog w) A (call (.type "enumerate") [v]) Q E s := by
  refine callType_new F.called_enumerate (by decide) (F.typeCall_enumerate_1 _) (F.newCall_enumerate_1 _) (fun obj => F.args_object_init_2 obj _) F.entry_enumerate_new (enum_new1 B) ⟨hG, ?_⟩
  have z : (s.heap.push o).objs.size = s.heap.objs.size + 1 := Heap.size_push ..
  show _ ∧ _
  rw [z]
  have he : IsEnum ((s.heap.push o).push (oEnum s.heap.objs.size)) (s.heap.objs.size + 1) s.heap.objs.size 0 .none := by
    have y := Heap.get?_push_size (s.heap.push o) (o := oEnum s.heap.objs.size) rfl
    rw [z] at y
    exact y
  exact ⟨⟨_, he, rfl⟩, hQ _ he (Heap.get?_push_of_some _ (Heap.get?_push_size _ B.free)) fun b ob x => Heap.get?_push_of_some _ (Heap.get?_push_of_some _ x)⟩
theorem enum_over {prog : Program} {w : World} {A : Around} {E : Value → Shared → Prop} {s : Shared} {e it a : Addr} {i : Nat} {items : Array Value} {c : Int} {old : Value} {Q : Option Value → Shared → Prop} (hd : A.handled = none)
    (he : IsEnum s.heap e it c old) (hit : s.heap.IsTupleIter it a i) (ht : s.heap.IsTuple a items) (hx : items[i]? = none) (hQ : ∀ h2, Heap.ExtBut it s.heap h2 → Q none { s with heap := h2 }) : wpAny (model prog w) A (pyNext (.ref e)) Q E s := by
  have D : Draws prog w A.in1 it [it, a] i (fun _ _ => True) (fun j h => j = i ∧ h.IsTupleIter it a i ∧ h.IsTuple a items) :=
    { live := fun _ _ st => by obtain ⟨_, ⟨o, ho, _⟩, _⟩ := st; exact ⟨o, ho⟩
      frame := fun _ _ _ st hk => ⟨st.1, st.2.1.at fun o q => hk it (by simp) o q, st.2.2.at fun o q => hk a (by simp) o q⟩
      item := fun j s Q E hj st _ => absurd st.1 (Nat.ne_of_lt hj)
      done := fun s Q E st hE => wpAny_nextOf_tuple_end (by first | exact hd | (show A.in1.handled = none; exact hd)) st.2.1 st.2.2 hx hE }
  exact wpAny_pyNext_enum_endD D he ⟨rfl, hit, ht⟩ hQ
/-- the tuple at a: each item, its number ahead of it, in a new pair -/
def IteT (K : PySem.W.Frag) (a : Addr) : It :=
  ⟨fun i H => ∃ (xs : List V) (x : V), SqT K H a xs ∧ xs[i]? = some x,
    fun i H v H' => ∃ T x, v = .ref T ∧ H T = none ∧ H' = upd H T (.tup [.int (i : Nat), x]) ∧ ∀ xs, SqT K H a xs → xs[i]? = some x,
    fun i H => ∃ xs : List V, SqT K H a xs ∧ xs.length ≤ i⟩
theorem turn_enumT {P : Program} {w : World} {K : PySem.W.Frag} {elts : List Expr} {kk : Nat} {tpos : Pos} (a e it : Addr) :
    Turn P w K (.Tuple elts kk tpos) (IteT K a) [e, it] e (fun i h => (∃ old, IsEnum h e it ((i : Nat) : Int) old) ∧ h.IsTupleIter it a i ∧ e ≠ it ∧ a ≠ e ∧ a ≠ it) where
  mem := by simp
  obj := fun i h st b hb => by
    obtain ⟨⟨old, he⟩, ⟨o, ho, hc, hd⟩, _⟩ := st
    have e' : b = e ∨ b = it := by simpa using hb
    rcases e' with z | z
    · rw [z]; exact ⟨_, he, fun v q => nomatch q⟩
    · rw [z]; exact ⟨o, ho, fun v q => by rw [hd] at q; cases q⟩
  keep := fun i h h' st k => by
    obtain ⟨⟨old, he⟩, hi, r⟩ := st
    exact ⟨⟨old, k e (by simp) _ he⟩, hi.at fun o q => k it (by simp) o q, r⟩
  item := by
    intro X hP hw hK hc i pins s σ H E I hf st hg
    subst hP hw hK
    obtain ⟨⟨old, he⟩, hit, hne, hae, hai⟩ := st
    obtain ⟨xs, x, hq, hx⟩ := hg
    obtain ⟨its, rv, p, hz⟩ := I.tuple hq
    obtain ⟨u, hu, ru⟩ := rv.get hx
    have ht : s.heap.IsTuple a its.toArray := p
    have hel : e < s.heap.objs.size := Heap.lt_size he
    have hil : it < s.heap.objs.size := by obtain ⟨_, q, _⟩ := hit; exact Heap.lt_size q
    have D := Draws.tuple (prog := X.prog) (w := X.w) (A := X.A.in1) (I.ok.hd hc) it a hai its.toArray
    have hlt : i < its.toArray.size := by
      have z : i < its.length := (List.getElem?_eq_some_iff.mp hu).1
      simpa using z
    refine wpAny_pyNext_enum_itemD D he ⟨hit, ht⟩ hlt hne (by simp [hne, Ne.symm hae]) fun y h' tk hy ho hst hT hsz hk => ?_
    have ey : y = u := by
      have z : its[i]? = some y := by simpa using hy
      rw [hu] at z
      exact (Option.some.inj z).symm
    subst ey
    refine ⟨_, rfl, wpAny_letOwnedTupleGo_enum (s := { s with heap := h', toks := tk + 1 }) ho fun h'' he' sb => ?_⟩
    have hT2 : h''.get? s.heap.objs.size = some { cls := .type "tuple", data := .seq #[.int i tk, y] } := (sb.2 _ (Nat.ne_of_gt hel)).trans hT
    have new : ObjOk X.prog X.w (upd H s.heap.objs.size (.tup [.int (i : Nat), x])) h'' s.heap.objs.size (.tup [.int (i : Nat), x]) :=
      ⟨by show 2 ≤ sizeLine; decide, [.int i tk, y], .cons ⟨_, rfl⟩ (.cons ru .nil), ⟨_, hT2, rfl, _, rfl⟩⟩
    have I1 : Inv X pins σ (upd H s.heap.objs.size (.tup [.int (i : Nat), x])) { s with heap := h'', toks := tk + 1 } :=
      I.turnedNew (ch := [e, it]) (fun b ob hb q => (sb.2 b (fun z => hb (by simp [z]))).trans (hk b ob (fun z => hb (by simp [z])) (fun z => hb (by simp [z])) q)) hf (Nat.le_refl _) new
    have fr : H s.heap.objs.size = none := I.hok.fresh (Nat.le_refl _)
    refine ⟨.ref s.heap.objs.size, _, I1, rfl, ⟨_, x, rfl, fr, rfl, fun ys hy => by rw [I.tuple_inj hy hq]; exact hx⟩, ⟨⟨y, ?_⟩, hst.1.at fun o q => (sb.2 it (Ne.symm hne)).trans q, hne, hae, hai⟩, fun b hb => ?_⟩
    · have e1 : ((i + 1 : Nat) : Int) = (i : Int) + 1 := by omega
      rw [e1]; exact he'
    · have e' : b = e ∨ b = it := by simpa using hb
      have hb' : b < s.heap.objs.size := by rcases e' with z | z <;> rw [z] <;> assumption
      rw [upd_ne (Nat.ne_of_lt hb')]
      exact (hf b hb).1
  done := by
    intro X hP hw hK hc i pins s σ H E I hf st hg
    subst hP hw hK
    obtain ⟨⟨old, he⟩, hit, hne, hae, hai⟩ := st
    obtain ⟨xs, hq, hx⟩ := hg
    obtain ⟨its, rv, p, hz⟩ := I.tuple hq
    have ht : s.heap.IsTuple a its.toArray := p
    obtain ⟨f0, f1, f2, f3, f4, f5⟩ := hf it (by simp)
    have hl := rv.length
    have hT : s.TypeIs (.ref e) "enumerate" := ⟨_, he, rfl⟩
    refine enum_over (I.ok.hd hc) he hit ht (by simp; omega) fun h' eb => ⟨rfl, I.turned (t' := s.toks) (fun b o hb q => eb b o hb q) f0 f1 f3 f4 f5⟩
  self := fun A i s Q E st h => by
    obtain ⟨⟨_, he⟩, _⟩ := st
    exact wpAny_pyIter_enum he h
def iEnumT (K : PySem.W.Frag) (ta : TA) : TI := fun σ H R => ta σ H fun vs H1 => ∃ a xs, vs = [.ref a] ∧ SqT K H1 a xs ∧ R (IteT K a) H1
theorem pi_enumT {X : Cx} {e : Expr} {ta : TA} {p pos tpos : Pos} {elts : List Expr} {kk : Nat} (hg : Gl X "enumerate") (hm : X.mg "enumerate" = none) (ha : PA X [e] ta) (hs : starEach [e] X.env = [(false, eval e X.env)] := by rfl) :
    PI X (.Tuple elts kk tpos) (.Call (.Name "enumerate" p) [e] [] pos) (iEnumT X.K ta) := by
  refine ⟨fun pins s σ H R I h => ?_⟩
  refine Call_ (ld_blt I hg hm boot_enumerate (PyProof.Rows.callWith_type1 (thn (ha.run pos pins s σ H _ I h) fun us s1 ⟨vs, H1, I1, r1, q1⟩ => ?_) hs rfl))
  obtain ⟨a, xs, ex, hq, q⟩ := q1
  subst ex
  cases r1 with
  | cons r rr =>
    cases rr
    cases r
    obtain ⟨its, rv, pt, hz⟩ := I1.tuple hq
    have ht : s1.heap.IsTuple a its.toArray := pt
    have hal : a < s1.heap.objs.size := by obtain ⟨_, q, _⟩ := ht; exact Heap.lt_size q
    refine enum_call1 (begins_tuple a its.toArray) ht fun h2 he hit hk => wpAny_pyIter_enum he ?_
    have I2 : Inv X pins σ H1 { s1 with heap := h2 } := I1.kept (t' := s1.toks) hk
    refine ⟨s1.heap.objs.size + 1, [s1.heap.objs.size + 1, s1.heap.objs.size], _, _, H1, rfl, I2, turn_enumT a (s1.heap.objs.size + 1) s1.heap.objs.size, ⟨⟨.none, he⟩, ⟨_, hit, rfl, rfl⟩, Nat.succ_ne_self _, Nat.ne_of_lt (Nat.lt_succ_of_lt hal), Nat.ne_of_lt hal⟩, fun b hb => ?_, q⟩
    have e' : b = s1.heap.objs.size + 1 ∨ b = s1.heap.objs.size := by simpa using hb
    have hle : s1.heap.objs.size ≤ b := by rcases e' with z | z <;> rw [z] <;> first | exact Nat.le_succ _ | exact Nat.le_refl _
    exact I1.fpOk hle (I1.hok.fresh hle)
end Lm

set_option Elab.async false
set_option linter.all false
set_option maxRecDepth 100000
set_option maxHeartbeats 2000000
namespace Lm
open PySem PySem.Spec PyProof.Rows L2 LmR
/-! ### defs that may refuse -/
def CalX (P : Program) (w : World) (K : PySem.W.Frag) (mg : Str → Option Value) (base : Heap) (k : Nat) (x : Str) (ps : List Str) (sp : Sp) : Prop :=
  ∃ f fd, FnOk P w K mg base (L2.CX P w) k f fd ps sp ∧ mg x = some (.ref f) ∧ PySem.W.keepIn K (.ref f) = true ∧ Binds K fd ps [] ∧ ∃ st, Fun K x x st f fd
section
variable {P : Program} {w : World} {K : PySem.W.Frag} {mg : Str → Option Value} {base : Heap}
theorem calx_of {x : Str} {st : Stmt} {N ps : List Str} {k : Nat} {sp : Sp} (D : DefAt K mg x st ps) (S : FnScope N ps (defScope st)) (len : ∀ vs H Q E, sp vs H Q E → vs.length = ps.length)
    (hbody : ∀ (f : Addr) (cdv : Value) (A : Around) (outer : List Env) (s : Shared) (H : Hp) (vs : List V) (Q : VK) (E : XK), Room k (A.deeper (envOfC x (defScope st) s.heap.objs.size f cdv)) → sp vs H Q E →
      ∃ t, PSs (cxOf (L2.CX P w) P w K mg base N x (defScope st) f cdv A outer s H E) (defBody st) t ∧ t { nx := fun _ H' => Q .non H', rt := Q } (start N vs) H) : CalX P w K mg base (k + 1) x ps sp := by
  obtain ⟨f, fd, F, b, g⟩ := D
  exact ⟨f, fd, F.okX S len (hbody f), g, F.kp, b, _, F⟩
end
theorem pe_calX {X : Cx} {W : WX} {k : Nat} {x : Str} {ps : List Str} {sp : Sp} {e : Expr} {es : List Expr} {t : TA} {p pos : Pos} (C : CalX X.prog X.w X.K X.mg X.base k x ps sp) (tk : Takes X W) (hr : Room k X.A) (hg : Gl X x) (ha : PA X (e :: es) t)
    (hdb : (x == ("__debug__" : Str)) = false := by decide) (he : starEach (e :: es) X.env = (false, eval e X.env) :: starEach es X.env := by rfl) (hpl : (backTo pos (starEach es X.env)).any (·.1) = false := by rfl) :
    PE X (.Call (.Name x p) (e :: es) [] pos) (tCallS sp (WE W) t) := by
  obtain ⟨f, fd, F, g, kp, b, _⟩ := C
  exact pe_callS F hr hg g kp b (fun σ => passAt tk σ) ha hdb he hpl
/-! ### classes of refusals -/
/-- the class x at C, its __init__ (st) keeps the fields fs -/
structure Rf (K : PySem.W.Frag) (mg : Str → Option Value) (x q : Str) (C fI : Addr) (fd : FuncData) (st : Stmt) (fs : List Str) : Prop where
  g : mg x = some (.ref C)
  o : OexC K C
  f : XfC K C
  k : ExK K C
  te : PySem.W.exmOne K (.ref C) (.ref C) = some true
  fld : ∀ n ∈ fs, PySem.W.findIn K (.ref C) n = some none
  iC : PySem.W.findIn K (.ref C) "__init__" = some (some (.ref fI))
  tI : PySem.W.typeIn K (.ref fI) = some (.type "function")
  F : Fun K "__init__" q st fI fd
  b : Binds K fd ("self" :: fs) []
/-- __init__(self, f, g) -/
def spIni2 (C : Addr) (f g : Str) : Sp := fun vs H Q E => ∃ a x y, vs = [.ref a, x, y] ∧ H a = some (exo a C none) ∧
  ∀ (d : Addr) (H' : Hp), H d = none → H' a = some (exo a C (some d)) → H' d = some (exd d [(g, y), (f, x)]) → (∀ b, b ≠ a → b ≠ d → H' b = H b) → Q .non H'
def spIni1 (C : Addr) (f : Str) : Sp := fun vs H Q E => ∃ a x, vs = [.ref a, x] ∧ H a = some (exo a C none) ∧
  ∀ (d : Addr) (H' : Hp), H d = none → H' a = some (exo a C (some d)) → H' d = some (exd d [(f, x)]) → (∀ b, b ≠ a → b ≠ d → H' b = H b) → Q .non H'
/-- what refusing leaves: the fields at d, all else as it was -/
def Raised (H H' : Hp) (d : Addr) (fs : List (Str × V)) : Prop := H d = none ∧ H' d = some (.xd fs) ∧ ∀ b, b ≠ d → H' b = H b
theorem Raised.same {H H' : Hp} {d : Addr} {fs : List (Str × V)} (r : Raised H H' d fs) : Same H H' := fun b o e => by
  have n : b ≠ d := fun z => by rw [z, r.1] at e; cases e
  rw [r.2.2 b n]; exact e
theorem mk_two {C : Addr} {f g : Str} {x y : V} {H : Hp} {Q : XK} (hq : ∀ d H', Raised H H' d [(g, y), (f, x)] → Q (.ref C) (some d) H') :
    [x, y].length ≤ 1000 ∧ ∀ a, H a = none → spIni2 C f g (.ref a :: ([x, y] ++ [])) (upd H a (exo a C none))
      (fun v H2 => v = .non ∧ ∃ (d : Addr) (fs : List (Str × V)), H2 a = some (exo a C (some d)) ∧ H2 d = some (exd d fs) ∧ H d = none ∧ Q (.ref C) (some d) (upd (del H2 a) d (.xd fs))) (fun _ _ _ => False) := by
  refine ⟨by show 2 ≤ 1000; decide, fun a ha => ⟨a, x, y, rfl, upd_same, fun d H' hd h1 h2 h3 => ⟨rfl, d, _, h1, h2, ?_, hq d _ ⟨?_, upd_same, fun b hb => ?_⟩⟩⟩⟩
  all_goals
    have nd : d ≠ a := fun z => by rw [z, upd_same] at hd; cases hd
  · rw [upd_ne nd] at hd; exact hd
  · rw [upd_ne nd] at hd; exact hd
  · rw [upd_ne hb]
    by_cases z : b = a
    · rw [z, del_same, ha]
    · rw [del_ne z, h3 b z hb, upd_ne z]
theorem mk_one {C : Addr} {f : Str} {x : V} {H : Hp} {Q : XK} (hq : ∀ d H', Raised H H' d [(f, x)] → Q (.ref C) (some d) H') :
    [x].length ≤ 1000 ∧ ∀ a, H a = none → spIni1 C f (.ref a :: ([x] ++ [])) (upd H a (exo a C none))
      (fun v H2 => v = .non ∧ ∃ (d : Addr) (fs : List (Str × V)), H2 a = some (exo a C (some d)) ∧ H2 d = some (exd d fs) ∧ H d = none ∧ Q (.ref C) (some d) (upd (del H2 a) d (.xd fs))) (fun _ _ _ => False) := by
  refine ⟨by show 1 ≤ 1000; decide, fun a ha => ⟨a, x, rfl, upd_same, fun d H' hd h1 h2 h3 => ⟨rfl, d, _, h1, h2, ?_, hq d _ ⟨?_, upd_same, fun b hb => ?_⟩⟩⟩⟩
  all_goals
    have nd : d ≠ a := fun z => by rw [z, upd_same] at hd; cases hd
  · rw [upd_ne nd] at hd; exact hd
  · rw [upd_ne nd] at hd; exact hd
  · rw [upd_ne hb]
    by_cases z : b = a
    · rw [z, del_same, ha]
    · rw [del_ne z, h3 b z hb, upd_ne z]
theorem pass_no {X : Cx} : Passes (L2.CX X.prog X.w) X (fun _ _ _ => False) := fun _ _ _ _ _ _ _ c => by
  obtain ⟨_, _, _, _, _, _, _, _, _, _, _, _, z⟩ := c
  exact z.elim
/-- raise x(e, ..) -/
theorem ps_ref {X : Cx} {W : WX} {x q : Str} {C fI : Addr} {fd : FuncData} {st : Stmt} {fs : List Str} {sp : Sp} {k : Nat} {e : Expr} {es : List Expr} {ta : TA} {p pos pos' : Pos} (R : Rf X.K X.mg x q C fI fd st fs) (F : FnOk X.prog X.w X.K X.mg X.base (L2.CX X.prog X.w) k fI fd ("self" :: fs) sp) (hr : Room (k + 1) X.A)
    (hc : X.calm = true) (tk : Takes X W) (hg : Gl X x) (ha : PA X (e :: es) ta)
    (hdb : (x == ("__debug__" : Str)) = false := by decide) (he : starEach (e :: es) X.env = (false, eval e X.env) :: starEach es X.env := by rfl) (hpl : (backTo pos (starEach es X.env)).any (·.1) = false := by rfl) :
    PS X (.Raise (some (.Call (.Name x p) (e :: es) [] pos)) none pos') (fun _ σ H => tMkO C sp [] ta σ H fun cls d H' => W cls d σ H') :=
  ps_raise hc tk (pmk_oex R.o R.iC R.tI F hr R.b .nil pass_no hg R.g ha hdb he hpl)
end Lm
namespace Lm
open PySem PySem.Spec PyProof.Rows L2 LmR
/-! ### x not in a tuple of texts, x any flat data -/
def strIn (ss : List Str) : PyData → Bool
  | .str s => ss.any fun y => y == s
  | _ => false
def rNotInD (K : PySem.W.Frag) : R2 := fun x y H Q => ∃ (p : Addr) (ss : List Str) (d : PyData), y = .ref p ∧ SqT K H p (ss.map V.str) ∧ Fd K H x d ∧ Q (.bl (!strIn ss d)) H
theorem all_str : ∀ ss : List Str, (ss.map V.str).all flatV = true
  | [] => rfl
  | _ :: ss => by rw [List.map_cons, List.all_cons, all_str ss]; rfl
theorem inV_str (ss : List Str) (x : V) (d : PyData) (h : ∀ y : Str, eqV (.str y) x = strIn [y] d) : inV x (ss.map V.str) = strIn ss d := by
  unfold inV
  induction ss with
  | nil => cases d <;> rfl
  | cons s ss ih =>
    rw [List.map_cons, List.any_cons, ih, h s]
    cases d with
    | str z => simp [strIn]
    | _ => rfl
theorem op_notInD {X : Cx} {K : PySem.W.Frag} (hK : X.K = K) (hu : X.A.units + 1 < cLine) : OpR X (compareOp .NotIn) (rNotInD K) := by
  subst hK
  intro pins s σ H x y v u Q I rx ry h
  obtain ⟨p, ss, d, rfl, hq, ⟨fd, hd⟩, q⟩ := h
  by_cases ht : ∃ ds, d = .tuple ds
  · obtain ⟨ds, rfl⟩ := ht
    cases hd with
    | tup qa r =>
      rename_i a vs
      cases rx
      cases ry
      obtain ⟨its, rv, pl, hz⟩ := I.tuple hq
      obtain ⟨itz, rz, plz, hzz⟩ := I.tuple qa
      refine SeqAt.notIn_tupleAt (fun _ => false) pl (fun w hw => ?_) ⟨.bl _, H, I, rfl, ?_⟩
      · have hw' : w ∈ its := by simpa using hw
        have st : ∀ (ss : List Str) (its : List Value), Vals (ss.map V.str) its → ∀ w ∈ its, ∃ b t, w = .str b t := by
          intro ss
          induction ss with
          | nil => intro its r w hw; cases r; cases hw
          | cons z ss ih =>
            intro its r w hw
            cases r with
            | cons ra rb =>
              rcases List.mem_cons.mp hw with e | e
              · obtain ⟨t, et⟩ := ra
                exact ⟨z, t, e.trans et⟩
              · exact ih _ rb w e
        obtain ⟨b, t, rfl⟩ := st ss its rv w hw'
        exact SeqAt.EqAt.str_tuple b t plz (by first | exact hu | (show X.A.units + 1 < cLine; exact hu) | (have := hu; omega))
      · have e : (!(its.toArray.any fun _ => false)) = !strIn ss (.tuple ds) := by simp [strIn]
        rw [e]
        exact q
  · have fx : flatV x = true ∧ ∀ y : Str, eqV (.str y) x = strIn [y] d := by
      cases hd with
      | non => exact ⟨rfl, fun _ => rfl⟩
      | bl b => exact ⟨rfl, fun _ => rfl⟩
      | int i => exact ⟨rfl, fun _ => rfl⟩
      | str z => exact ⟨rfl, fun y => by simp [strIn, eqV]⟩
      | lst q r => simp [flat] at fd
      | tup q r => exact absurd ⟨_, rfl⟩ ht
    refine op_notIn_seq pins s σ H x _ v u Q I rx ry ⟨p, _, rfl, .inr hq, fx.1, all_str ss, ?_⟩
    rw [if_pos rfl, inV_str ss x d fx.2]
    exact q
/-! ### for i, x in enumerate(tuple) -/
theorem for_enumT {K : PySem.W.Frag} {a : Addr} {xs : List V} {g : TG} {tb : TS} {D : Ends} {σ : L2.St} {H : Hp} (Pv : Nat → L2.St → Hp → Prop) (h0 : Pv 0 σ H) (hq : ∀ i σ H, Pv i σ H → SqT K H a xs)
    (hstep : ∀ i x σ H T, xs[i]? = some x → Pv i σ H → H T = none → g (.ref T) σ (upd H T (.tup [.int (i : Nat), x])) fun σ2 H2 => tb { D with nx := Pv (i + 1), ct := Pv (i + 1), bk := D.nx } σ2 H2)
    (hend : ∀ σ H, Pv xs.length σ H → D.nx σ H) :
    ∃ W : Nat → Nat → L2.St → Hp → Prop, (∃ m, W 0 m σ H) ∧ ∀ i m σ H, W i m σ H →
      ((IteT K a).stop i H ∧ D.nx σ H) ∨ ((IteT K a).go i H ∧ ∃ N : L2.St → Hp → Prop, (∀ σ' H', N σ' H' → ∃ m', m' < m ∧ W (i + 1) m' σ' H') ∧ ∀ x H', (IteT K a).yld i H x H' → g x σ H' fun σ2 H2 => tb { D with nx := N, ct := N, bk := D.nx } σ2 H2) := by
  refine ⟨fun i m σ H => i ≤ xs.length ∧ m = xs.length - i ∧ Pv i σ H, ⟨_, Nat.zero_le _, rfl, h0⟩, fun i m σ H ⟨hi, hm, hp⟩ => ?_⟩
  have hs := hq i σ H hp
  rcases Nat.lt_or_ge i xs.length with hlt | hge
  · obtain ⟨x, hx⟩ : ∃ x, xs[i]? = some x := ⟨xs[i], List.getElem?_eq_getElem hlt⟩
    refine .inr ⟨⟨xs, x, hs, hx⟩, Pv (i + 1), fun σ' H' h' => ⟨xs.length - (i + 1), by omega, hlt, rfl, h'⟩, ?_⟩
    rintro y H' ⟨T, z, rfl, hT, rfl, hz⟩
    have e := hz xs hs
    rw [hx] at e
    cases e
    exact hstep i x σ H T hx hp hT
  · have e : i = xs.length := Nat.le_antisymm hi hge
    refine .inl ⟨⟨xs, hs, hge⟩, hend σ H (e ▸ hp)⟩
/-- the defs within a class -/
def clsBody : Stmt → List Stmt
  | .ClassDef _ _ _ b _ _ _ _ _ _ _ => b
  | _ => []
end Lm
namespace Lm
open PySem PySem.Spec PyProof.Rows L2 LmR
/-- isinstance(e, c), e the exception at a, of the class at C, its fields at dd -/
def rIsX (K : PySem.W.Frag) (C a dd : Addr) : List V → Hp → VK → Prop := fun xs H Q => ∃ (D : Addr) (b : Bool), xs = [.ref a, .ref D] ∧ PySem.W.kitOne K (.ref C) (.ref D) = some b ∧ (∃ fs, H dd = some (.xd fs)) ∧ Q (.bl b) H
theorem call_isX {X : Cx} {a C dd : Addr} {oe : Obj} (k : ExK X.K C) (hz : Zc (.ref C) (some dd) oe) (hf : ∃ vs, oe.data = .fields vs) (hp : (a, oe) ∈ X.pn) : CallR X (.builtin "isinstance") (rIsX X.K C a dd) := by
  intro pins s σ H xs us Q I r h
  obtain ⟨D, b, rfl, e, ⟨fs, ea⟩, q⟩ := h
  obtain ⟨u1, u2, rfl, r1, r2⟩ := vals2 r
  cases (show u1 = Value.ref a from r1)
  cases (show u2 = Value.ref D from r2)
  obtain ⟨ha, _⟩ := I.pin (a, oe) (List.mem_append_left _ hp)
  obtain ⟨vs, hd⟩ := hf
  have hx : ObjOk X.prog X.w H s.heap dd (.xd fs) := I.hok dd _ ea
  obtain ⟨mA, hns, hr⟩ := hx
  obtain ⟨od, ho, hl⟩ := lookIn_ns hns
  have J : PySem.W.InstAt s.heap a oe C (some od) := ⟨ha, hz.1, by unfold PySem.W.notCls; rw [hd] <;> rfl, by rw [hz.2]; exact ho⟩
  exact PySem.W.kia_one (PySem.W.kitx_exc k.cl k.ga k.gg k.ex k.ca k.gn k.tk k.ob) I.kIn J e (fun z => nomatch z) fun tk => ⟨.bl b, H, I.tok tk, rfl, q⟩
/-- the twelve classes, and of which of them the class at C is -/
structure Srt (K : PySem.W.Frag) (mg : Str → Option Value) (C : Addr) (c1 c2 c3 c4 c5 c6 c7 c8 c9 c10 c11 c12 : Addr) (b1 b2 b3 b4 b5 b6 b7 b8 b9 b10 b11 b12 : Bool) : Prop where
  g1 : mg "NoHead" = some (.ref c1)
  g2 : mg "NoProgram" = some (.ref c2)
  g3 : mg "NoText" = some (.ref c3)
  g4 : mg "NoStock" = some (.ref c4)
  g5 : mg "NoAnswer" = some (.ref c5)
  g6 : mg "NoInputs" = some (.ref c6)
  g7 : mg "Clash" = some (.ref c7)
  g8 : mg "NoRow" = some (.ref c8)
  g9 : mg "NoQuestion" = some (.ref c9)
  g10 : mg "NoDoer" = some (.ref c10)
  g11 : mg "NotKept" = some (.ref c11)
  g12 : mg "NoName" = some (.ref c12)
  k1 : PySem.W.kitOne K (.ref C) (.ref c1) = some b1
  k2 : PySem.W.kitOne K (.ref C) (.ref c2) = some b2
  k3 : PySem.W.kitOne K (.ref C) (.ref c3) = some b3
  k4 : PySem.W.kitOne K (.ref C) (.ref c4) = some b4
  k5 : PySem.W.kitOne K (.ref C) (.ref c5) = some b5
  k6 : PySem.W.kitOne K (.ref C) (.ref c6) = some b6
  k7 : PySem.W.kitOne K (.ref C) (.ref c7) = some b7
  k8 : PySem.W.kitOne K (.ref C) (.ref c8) = some b8
  k9 : PySem.W.kitOne K (.ref C) (.ref c9) = some b9
  k10 : PySem.W.kitOne K (.ref C) (.ref c10) = some b10
  k11 : PySem.W.kitOne K (.ref C) (.ref c11) = some b11
  k12 : PySem.W.kitOne K (.ref C) (.ref c12) = some b12
def Sorts (K : PySem.W.Frag) (mg : Str → Option Value) (C : Addr) (bs : List Bool) : Prop := ∃ c1 c2 c3 c4 c5 c6 c7 c8 c9 c10 c11 c12 b1 b2 b3 b4 b5 b6 b7 b8 b9 b10 b11 b12,
  Srt K mg C c1 c2 c3 c4 c5 c6 c7 c8 c9 c10 c11 c12 b1 b2 b3 b4 b5 b6 b7 b8 b9 b10 b11 b12 ∧ bs = [b1, b2, b3, b4, b5, b6, b7, b8, b9, b10, b11, b12]
def spSorts (C a : Addr) (cls : Value) (d : Option Addr) (bs : List Bool) : Sp := fun vs H Q _ => vs = [.ref a] ∧ cls = .ref C ∧ ∃ dd fs, d = some dd ∧ H dd = some (.xd fs) ∧ ∀ H' l, Same H H' → H' l = some (.lst (bs.map V.bl)) → Q (.ref l) H'
end Lm

set_option Elab.async false
set_option linter.all false
set_option maxRecDepth 100000
set_option maxHeartbeats 2000000
namespace Lm
open PySem PySem.Spec PyProof.Rows L2 LmR
theorem call_isiK {X : Cx} {K : PySem.W.Frag} (h : X.K = K) : CallR X (.builtin "isinstance") (rIsi K) := h ▸ call_isi
theorem walk_enumT {K : PySem.W.Frag} {a : Addr} {xs : List V} : Walk (IteT K a) xs.length (fun H => SqT K H a xs) (YPair (fun i => some (.int (i : Nat))) (fun i => xs[i]?)) := by
  refine ⟨fun i H hi q => ⟨xs, xs[i], q, by simp [hi]⟩, fun H q => ⟨xs, q, Nat.le_refl _⟩, fun i H x H' hi q y => ?_⟩
  obtain ⟨T, z, h1, h2, h3, h4⟩ := y
  exact ⟨T, _, z, h1, h2, h3, rfl, h4 xs q⟩
end Lm

set_option Elab.async false
set_option linter.all false
set_option maxRecDepth 100000
set_option maxHeartbeats 2000000
namespace Lm
open PySem PySem.Spec PyProof.Rows L2 LmR
/-! ### closed bounds: places 0 .. m, a row (a, b, c) says that x of a is at most x of b and c -/
abbrev Mat := Nat → Nat → Option Int
abbrev Edge := Nat × Nat × Int
inductive Wlk (R : List Edge) : Nat → Nat → Int → Prop where
  | nil (a : Nat) : Wlk R a a 0
  | cons {a b c : Nat} {w t : Int} (h : (a, c, w) ∈ R) (r : Wlk R c b t) : Wlk R a b (w + t)
theorem Wlk.mono {R R' : List Edge} {a b : Nat} {t : Int} (h : Wlk R a b t) (s : ∀ e ∈ R, e ∈ R') : Wlk R' a b t := by
  induction h with
  | nil a => exact .nil a
  | cons h _ ih => exact .cons (s _ h) ih
theorem Wlk.app {R : List Edge} {a b c : Nat} {s t : Int} (h : Wlk R a b s) (r : Wlk R b c t) : Wlk R a c (s + t) := by
  induction h with
  | nil a => rw [Int.zero_add]; exact r
  | cons h _ ih => rw [Int.add_assoc]; exact .cons h (ih r)
theorem Wlk.one {R : List Edge} {a b : Nat} {w : Int} (h : (a, b, w) ∈ R) : Wlk R a b w := by
  have z := Wlk.cons h (.nil b)
  rw [Int.add_zero] at z
  exact z
def leO (o : Option Int) (z : Int) : Prop := ∃ d, o = some d ∧ d ≤ z
theorem leO.le {o : Option Int} {x y : Int} (h : leO o x) (l : x ≤ y) : leO o y := by
  obtain ⟨d, e, q⟩ := h
  exact ⟨d, e, by omega⟩
def lesserF (old : Option Int) (way : Int) (more : Option Int) : Option Int := match more with
  | none => old
  | some m => match old with
    | none => some (way + m)
    | some o => if o ≤ way + m then some o else some (way + m)
def leB (o : Option Int) (c : Int) : Bool := match o with
  | some t => decide (t ≤ c)
  | none => false
def ltB (o : Option Int) (c : Int) : Bool := match o with
  | some t => decide (t + c < 0)
  | none => false
theorem leB_tt {o : Option Int} {c : Int} (h : leB o c = true) : leO o c := by
  cases o with
  | none => cases h
  | some t => exact ⟨t, rfl, of_decide_eq_true h⟩
def knownF (D : Mat) (i j : Nat) (c : Int) : Option Bool :=
  if leB (D i j) c = true then some true else if ltB (D j i) c = true then some false else none
def stepF (D : Mat) (i j : Nat) (c : Int) : Mat := fun a b => match D a i with
  | none => D a b
  | some w => lesserF (D a b) (w + c) (D j b)
def tightF (D : Mat) (i j : Nat) (c : Int) : Option Mat := match knownF D i j c with
  | some true => some D
  | some false => none
  | none => some (stepF D i j c)
def openF : Mat := fun a b => if a = b then some 0 else none
def closedF : List Edge → Mat → Option Mat
  | [], D => some D
  | (i, j, c) :: R, D => match tightF D i j c with
    | none => none
    | some D' => closedF R D'
structure Clo (R : List Edge) (m : Nat) (D : Mat) : Prop where
  ed : ∀ e ∈ R, e.1 ≤ m ∧ e.2.1 ≤ m
  w : ∀ a b d, D a b = some d → Wlk R a b d
  z : ∀ a, a ≤ m → D a a = some 0
  t : ∀ a b c x y, a ≤ m → b ≤ m → c ≤ m → D a c = some x → D c b = some y → leO (D a b) (x + y)
  e : ∀ e ∈ R, leO (D e.1 e.2.1) e.2.2
theorem clo_open (m : Nat) : Clo [] m openF := by
  refine ⟨fun e h => absurd h (by simp), fun a b d h => ?_, fun a _ => if_pos rfl, fun a b c x y _ _ _ h1 h2 => ?_, fun e h => absurd h (by simp)⟩
  · unfold openF at h
    split at h
    · rename_i e; cases h; rw [e]; exact .nil _
    · cases h
  · unfold openF at h1 h2 ⊢
    split at h1
    · rename_i e1
      split at h2
      · rename_i e2; cases h1; cases h2; exact ⟨0, if_pos (e1.trans e2), by decide⟩
      · cases h2
    · cases h1
theorem Clo.walk {R : List Edge} {m : Nat} {D : Mat} (C : Clo R m D) {a b : Nat} {t : Int} (h : Wlk R a b t) (hb : b ≤ m) (ha : a ≤ m) : leO (D a b) t := by
  induction h with
  | nil a => exact ⟨0, C.z a ha, Int.le_refl _⟩
  | cons h _ ih =>
    have hc := C.ed _ h
    obtain ⟨y, ey, ly⟩ := ih hb hc.2
    obtain ⟨x, ex, lx⟩ := C.e _ h
    exact (C.t _ _ _ _ _ hc.1 hb hc.2 ex ey).le (by simp only at lx; omega)
theorem Clo.noneg {R : List Edge} {m : Nat} {D : Mat} (C : Clo R m D) {a : Nat} {t : Int} (h : Wlk R a a t) (ha : a ≤ m) : 0 ≤ t := by
  obtain ⟨d, e, l⟩ := C.walk h ha ha
  rw [C.z a ha] at e
  cases e
  exact l
theorem lesser_le {o : Option Int} {w : Int} {m : Option Int} {d : Int} (h : o = some d) : leO (lesserF o w m) d := by
  subst h
  cases m with
  | none => exact ⟨d, rfl, Int.le_refl _⟩
  | some m =>
    show leO (if d ≤ w + m then some d else some (w + m)) d
    split
    · exact ⟨d, rfl, Int.le_refl _⟩
    · exact ⟨_, rfl, by omega⟩
theorem lesser_via {o : Option Int} {w : Int} {m : Option Int} {y : Int} (h : m = some y) : leO (lesserF o w m) (w + y) := by
  subst h
  cases o with
  | none => exact ⟨_, rfl, Int.le_refl _⟩
  | some d =>
    show leO (if d ≤ w + y then some d else some (w + y)) (w + y)
    split
    · exact ⟨d, rfl, by assumption⟩
    · exact ⟨_, rfl, Int.le_refl _⟩
theorem lesser_eq {o : Option Int} {w : Int} {m : Option Int} {d : Int} (h : lesserF o w m = some d) : o = some d ∨ ∃ y, m = some y ∧ d = w + y := by
  cases m with
  | none => exact .inl h
  | some y =>
    cases o with
    | none => cases h; exact .inr ⟨y, rfl, rfl⟩
    | some x =>
      have h' : (if x ≤ w + y then some x else some (w + y)) = some d := h
      split at h'
      · exact .inl h'
      · cases h'; exact .inr ⟨y, rfl, rfl⟩
theorem step_le {D : Mat} {i j : Nat} {c : Int} {a b : Nat} {d : Int} (h : D a b = some d) : leO (stepF D i j c a b) d := by
  unfold stepF
  cases D a i with
  | none => exact ⟨d, h, Int.le_refl _⟩
  | some w => exact lesser_le h
theorem step_via {D : Mat} {i j : Nat} {c : Int} {a b : Nat} {x y : Int} (h1 : D a i = some x) (h2 : D j b = some y) : leO (stepF D i j c a b) (x + c + y) := by
  unfold stepF
  rw [h1]
  exact lesser_via h2
theorem step_eq {D : Mat} {i j : Nat} {c : Int} {a b : Nat} {d : Int} (h : stepF D i j c a b = some d) : D a b = some d ∨ ∃ x y, D a i = some x ∧ D j b = some y ∧ d = x + c + y := by
  unfold stepF at h
  cases e : D a i with
  | none => rw [e] at h; exact .inl h
  | some w =>
    rw [e] at h
    rcases lesser_eq h with z | ⟨y, z, q⟩
    · exact .inl z
    · exact .inr ⟨w, y, rfl, z, q⟩
theorem known_no {D : Mat} {i j : Nat} {c : Int} (h : knownF D i j c = none) : ∀ b, D j i = some b → 0 ≤ b + c := by
  intro b hb
  unfold knownF at h
  by_cases h1 : leB (D i j) c = true
  · rw [if_pos h1] at h; cases h
  · rw [if_neg h1] at h
    by_cases h2 : ltB (D j i) c = true
    · rw [if_pos h2] at h; cases h
    · rw [hb] at h2
      have h3 : ¬ decide (b + c < 0) = true := h2
      simp only [decide_eq_true_eq] at h3
      omega
theorem known_tt {D : Mat} {i j : Nat} {c : Int} (h : knownF D i j c = some true) : leO (D i j) c := by
  unfold knownF at h
  by_cases h1 : leB (D i j) c = true
  · exact leB_tt h1
  · rw [if_neg h1] at h
    by_cases h2 : ltB (D j i) c = true
    · rw [if_pos h2] at h; cases h
    · rw [if_neg h2] at h; cases h
theorem known_ff {D : Mat} {i j : Nat} {c : Int} (h : knownF D i j c = some false) : ∃ b, D j i = some b ∧ b + c < 0 := by
  unfold knownF at h
  by_cases h1 : leB (D i j) c = true
  · rw [if_pos h1] at h; cases h
  · rw [if_neg h1] at h
    by_cases h2 : ltB (D j i) c = true
    · cases e : D j i with
      | none => rw [e] at h2; cases h2
      | some t => rw [e] at h2; exact ⟨t, rfl, of_decide_eq_true h2⟩
    · rw [if_neg h2] at h; cases h
theorem Clo.tight {R : List Edge} {m : Nat} {D : Mat} (C : Clo R m D) {i j : Nat} {c : Int} (hi : i ≤ m) (hj : j ≤ m) {D' : Mat} (h : tightF D i j c = some D') : Clo (R ++ [(i, j, c)]) m D' := by
  have sub : ∀ e ∈ R, e ∈ R ++ [(i, j, c)] := fun e he => List.mem_append_left _ he
  have ed : ∀ e ∈ R ++ [(i, j, c)], e.1 ≤ m ∧ e.2.1 ≤ m := fun e he => by
    rcases List.mem_append.mp he with z | z
    · exact C.ed e z
    · rw [List.mem_singleton.mp z]; exact ⟨hi, hj⟩
  unfold tightF at h
  split at h
  · rename_i hk
    cases h
    refine ⟨ed, fun a b d q => (C.w a b d q).mono sub, C.z, C.t, fun e he => ?_⟩
    rcases List.mem_append.mp he with z | z
    · exact C.e e z
    · rw [List.mem_singleton.mp z]; exact known_tt hk
  · cases h
  · rename_i hk
    cases h
    have nn := known_no hk
    refine ⟨ed, fun a b d q => ?_, fun a ha => ?_, fun a b k x y ha hb hk' hx hy => ?_, fun e he => ?_⟩
    · rcases step_eq q with z | ⟨x, y, hx, hy, rfl⟩
      · exact (C.w a b d z).mono sub
      · have h1 := (C.w _ _ _ hx).mono sub
        have h2 := (C.w _ _ _ hy).mono sub
        have h3 := (h1.app (Wlk.one (List.mem_append_right R (List.mem_singleton.mpr rfl)))).app h2
        exact h3
    · obtain ⟨d, e, l⟩ := step_le (i := i) (j := j) (c := c) (C.z a ha)
      rcases step_eq e with z | ⟨x, y, hx, hy, rfl⟩
      · rw [C.z a ha] at z; cases z; exact e
      · obtain ⟨b, hb, lb⟩ := C.t j i a _ _ hj hi ha hy hx
        have := nn b hb
        have z : x + c + y = 0 := by omega
        rw [z] at e
        exact e
    · rcases step_eq hx with zx | ⟨x1, y1, hx1, hy1, rfl⟩
      · rcases step_eq hy with zy | ⟨x2, y2, hx2, hy2, rfl⟩
        · obtain ⟨d, e, l⟩ := C.t a b k _ _ ha hb hk' zx zy
          exact (step_le e).le l
        · obtain ⟨d, e, l⟩ := C.t a i k _ _ ha hi hk' zx hx2
          exact (step_via e hy2).le (by omega)
      · rcases step_eq hy with zy | ⟨x2, y2, hx2, hy2, rfl⟩
        · obtain ⟨d, e, l⟩ := C.t j b k _ _ hj hb hk' hy1 zy
          exact (step_via hx1 e).le (by omega)
        · obtain ⟨d, e, l⟩ := C.t j i k _ _ hj hi hk' hy1 hx2
          have := nn d e
          exact (step_via hx1 hy2).le (by omega)
    · rcases List.mem_append.mp he with z | z
      · obtain ⟨d, q, l⟩ := C.e e z
        exact (step_le q).le l
      · rw [List.mem_singleton.mp z]
        exact (step_via (C.z i hi) (C.z j hj)).le (by simp)
theorem Clo.untight {R : List Edge} {m : Nat} {D : Mat} (C : Clo R m D) {i j : Nat} {c : Int} (h : tightF D i j c = none) : ∃ t, t < 0 ∧ Wlk (R ++ [(i, j, c)]) i i t := by
  unfold tightF at h
  split at h
  · cases h
  · rename_i hk
    obtain ⟨b, hb, l⟩ := known_ff hk
    refine ⟨c + b, by omega, .cons (List.mem_append_right R (List.mem_singleton.mpr rfl)) ((C.w _ _ _ hb).mono fun e he => List.mem_append_left _ he)⟩
  · cases h
theorem closed_ok {m : Nat} : ∀ (R R0 : List Edge) (D : Mat), Clo R0 m D → (∀ e ∈ R, e.1 ≤ m ∧ e.2.1 ≤ m) → (∀ D', closedF R D = some D' → Clo (R0 ++ R) m D') ∧ (closedF R D = none → ∃ a t, a ≤ m ∧ t < 0 ∧ Wlk (R0 ++ R) a a t)
  | [], R0, D, C, _ => ⟨fun D' h => (by cases h; rw [List.append_nil]; exact C), fun h => (by cases h)⟩
  | (i, j, c) :: R, R0, D, C, hR => by
    have h1 := hR (i, j, c) List.mem_cons_self
    have h2 : ∀ e ∈ R, e.1 ≤ m ∧ e.2.1 ≤ m := fun e he => hR e (List.mem_cons_of_mem _ he)
    have ea : R0 ++ (i, j, c) :: R = (R0 ++ [(i, j, c)]) ++ R := by simp
    cases e : tightF D i j c with
    | none =>
      have ec : closedF ((i, j, c) :: R) D = none := by unfold closedF; rw [e]
      refine ⟨fun D' h => (by rw [ec] at h; cases h), fun _ => ?_⟩
      obtain ⟨t, l, wk⟩ := C.untight e
      exact ⟨i, t, h1.1, l, by rw [ea]; exact wk.mono fun e he => List.mem_append_left _ he⟩
    | some D2 =>
      have ec : closedF ((i, j, c) :: R) D = closedF R D2 := by conv => lhs; unfold closedF; rw [e]
      rw [ec, ea]
      exact closed_ok R (R0 ++ [(i, j, c)]) D2 (C.tight h1.1 h1.2 e) h2
theorem closed_some {m : Nat} {R : List Edge} (hR : ∀ e ∈ R, e.1 ≤ m ∧ e.2.1 ≤ m) {D : Mat} (h : closedF R openF = some D) : Clo R m D := (closed_ok R [] openF (clo_open m) hR).1 D h
theorem closed_none {m : Nat} {R : List Edge} (hR : ∀ e ∈ R, e.1 ≤ m ∧ e.2.1 ≤ m) (h : closedF R openF = none) : ∃ a t, a ≤ m ∧ t < 0 ∧ Wlk R a a t := (closed_ok R [] openF (clo_open m) hR).2 h
theorem closed_snoc : ∀ (R : List Edge) (D : Mat) (e : Edge), closedF (R ++ [e]) D = match closedF R D with | none => none | some D' => tightF D' e.1 e.2.1 e.2.2
  | [], D, (i, j, c) => by
    show (match tightF D i j c with | none => none | some D' => some D') = tightF D i j c
    cases tightF D i j c <;> rfl
  | (i, j, c) :: R, D, e => by
    show (match tightF D i j c with | none => none | some D' => closedF (R ++ [e]) D') = match (match tightF D i j c with | none => none | some D' => closedF R D') with | none => none | some D' => tightF D' e.1 e.2.1 e.2.2
    cases tightF D i j c with
    | none => rfl
    | some D' => exact closed_snoc R D' e
/-- numbers keep the rows -/
def KeepsF (x : Nat → Int) (R : List Edge) : Prop := ∀ e ∈ R, x e.1 ≤ x e.2.1 + e.2.2
theorem Wlk.keeps {R : List Edge} {x : Nat → Int} (h : KeepsF x R) {a b : Nat} {t : Int} (w : Wlk R a b t) : x a ≤ x b + t := by
  induction w with
  | nil a => omega
  | cons e _ ih => have := h _ e; simp only at this; omega
/-- low a: the least that stands in the row of a -/
def IsLow (D : Mat) (m a : Nat) (l : Int) : Prop := (∀ b, b ≤ m → ∀ d, D a b = some d → l ≤ d) ∧ ∃ b, b ≤ m ∧ D a b = some l
theorem point_keeps {R : List Edge} {m : Nat} {D : Mat} (C : Clo R m D) {low : Nat → Int} (hl : ∀ a, a ≤ m → IsLow D m a (low a)) (z : Int) : KeepsF (fun a => low a - z) R := fun e he => by
  obtain ⟨h1, h2⟩ := C.ed e he
  obtain ⟨x, ex, lx⟩ := C.e e he
  obtain ⟨k, hk, ek⟩ := (hl _ h2).2
  obtain ⟨d, ed, ld⟩ := C.t _ _ _ _ _ h1 hk h2 ex ek
  have := (hl _ h1).1 k hk d ed
  show low e.1 - z ≤ low e.2.1 - z + e.2.2
  omega
/-! ### sums lowered along rows, turn by turn -/
abbrev Sums := Nat → Option Int
def stE (p : Sums × Bool) (e : Edge) : Sums × Bool := match p.1 e.2.1 with
  | none => p
  | some y => match p.1 e.1 with
    | none => (fun k => if k = e.1 then some (y + e.2.2) else p.1 k, true)
    | some x => if y + e.2.2 < x then (fun k => if k = e.1 then some (y + e.2.2) else p.1 k, true) else p
def turnF (R : List Edge) (S : Sums) : Sums × Bool := R.foldl stE (S, false)
def itF (R : List Edge) (S : Sums) : Nat → Sums × Bool
  | 0 => (S, false)
  | n + 1 => turnF R (itF R S n).1
def s0F (b : Nat) : Sums := fun k => if k = b then some 0 else none
theorem turn_still : ∀ (R : List Edge) (p : Sums × Bool), (R.foldl stE p).2 = false → p.2 = false ∧ R.foldl stE p = p ∧ ∀ e ∈ R, ∀ y, p.1 e.2.1 = some y → leO (p.1 e.1) (y + e.2.2)
  | [], p, h => ⟨h, rfl, fun e he => absurd he (by simp)⟩
  | e :: R, p, h => by
    obtain ⟨h1, h2, h3⟩ := turn_still R (stE p e) h
    have hp : stE p e = p ∧ ∀ y, p.1 e.2.1 = some y → leO (p.1 e.1) (y + e.2.2) := by
      unfold stE at h1 ⊢
      cases ej : p.1 e.2.1 with
      | none => exact ⟨rfl, fun y hy => by cases hy⟩
      | some y =>
        rw [ej] at h1
        cases ei : p.1 e.1 with
        | none => rw [ei] at h1; cases h1
        | some x =>
          rw [ei] at h1
          simp only at h1 ⊢
          split at h1
          · cases h1
          · rename_i hlt
            rw [if_neg hlt]
            exact ⟨rfl, fun y' hy' => ⟨x, rfl, by cases hy'; omega⟩⟩
    rw [hp.1] at h1 h2 h3
    refine ⟨h1, ?_, fun e' he' => ?_⟩
    · show R.foldl stE (stE p e) = p
      rw [hp.1]; exact h2
    · rcases List.mem_cons.mp he' with rfl | z
      · exact hp.2
      · exact h3 e' z
/-- what stands in the sums are walks to b -/
def WS (R : List Edge) (b : Nat) (S : Sums) : Prop := (∀ a d, S a = some d → Wlk R a b d) ∧ leO (S b) 0
theorem WS.s0 (R : List Edge) (b : Nat) : WS R b (s0F b) := by
  refine ⟨fun a d h => ?_, 0, if_pos rfl, Int.le_refl _⟩
  unfold s0F at h
  split at h
  · rename_i e; cases h; rw [e]; exact .nil _
  · cases h
theorem WS.st {R : List Edge} {b : Nat} {p : Sums × Bool} {e : Edge} (h : WS R b p.1) (he : e ∈ R) : WS R b (stE p e).1 := by
  unfold stE
  cases ej : p.1 e.2.1 with
  | none => exact h
  | some y =>
    have wn : Wlk R e.1 b (y + e.2.2) := by
      have z := Wlk.cons (show (e.1, e.2.1, e.2.2) ∈ R from he) (h.1 _ _ ej)
      rw [Int.add_comm] at z
      exact z
    have put : ∀ (hb : e.1 = b → y + e.2.2 ≤ 0), WS R b (fun k => if k = e.1 then some (y + e.2.2) else p.1 k) := fun hb => by
      refine ⟨fun a d q => ?_, ?_⟩
      · simp only at q
        split at q
        · rename_i ea; cases q; rw [ea]; exact wn
        · exact h.1 a d q
      · simp only
        split
        · rename_i eb; exact ⟨_, rfl, hb eb.symm⟩
        · exact h.2
    cases ei : p.1 e.1 with
    | none =>
      refine put fun eb => ?_
      rw [eb] at ei
      obtain ⟨d, z, _⟩ := h.2
      rw [ei] at z; cases z
    | some x =>
      simp only
      split
      · rename_i lt
        refine put fun eb => ?_
        rw [eb] at ei
        obtain ⟨d, z, l⟩ := h.2
        rw [ei] at z; cases z
        omega
      · exact h
theorem WS.fold {R : List Edge} {b : Nat} : ∀ (l : List Edge) (p : Sums × Bool), (∀ e ∈ l, e ∈ R) → WS R b p.1 → WS R b (l.foldl stE p).1
  | [], _, _, h => h
  | e :: l, p, s, h => WS.fold l (stE p e) (fun e' he' => s e' (List.mem_cons_of_mem _ he')) (h.st (s e List.mem_cons_self))
theorem WS.it {R : List Edge} {b : Nat} : ∀ n, WS R b (itF R (s0F b) n).1
  | 0 => WS.s0 R b
  | n + 1 => WS.fold R ((itF R (s0F b) n).1, false) (fun _ h => h) (WS.it n)
theorem still_walk {R : List Edge} {S : Sums} (hf : ∀ e ∈ R, ∀ y, S e.2.1 = some y → leO (S e.1) (y + e.2.2)) {a b : Nat} {t y : Int} (w : Wlk R a b t) (hb : S b = some y) : leO (S a) (y + t) := by
  induction w with
  | nil a => exact ⟨y, hb, by omega⟩
  | cons h _ ih =>
    obtain ⟨d, e, l⟩ := ih hb
    exact (hf _ h d e).le (by simp only; omega)
/-- no turn fell: then the sums stand still -/
theorem it_still {R : List Edge} {S : Sums} {n : Nat} (h : (itF R S (n + 1)).2 = false) : ∀ e ∈ R, ∀ y, (itF R S (n + 1)).1 e.2.1 = some y → leO ((itF R S (n + 1)).1 e.1) (y + e.2.2) := by
  obtain ⟨_, h2, h3⟩ := turn_still R ((itF R S n).1, false) h
  have e : (itF R S (n + 1)).1 = (itF R S n).1 := congrArg (·.1) h2
  rw [e]
  exact h3
theorem down_eq {R : List Edge} {m : Nat} {D : Mat} (C : Clo R m D) {a b n : Nat} (ha : a ≤ m) (hb : b ≤ m) (h : (itF R (s0F b) (n + 1)).2 = false) : (itF R (s0F b) (n + 1)).1 a = D a b := by
  have st := it_still h
  have ws := WS.it (R := R) (b := b) (n + 1)
  obtain ⟨y, ey, ly⟩ := ws.2
  cases e : D a b with
  | none =>
    cases e2 : (itF R (s0F b) (n + 1)).1 a with
    | none => rfl
    | some x =>
      obtain ⟨d, z, _⟩ := C.walk (ws.1 a x e2) hb ha
      rw [e] at z; cases z
  | some d =>
    obtain ⟨x, ex, lx⟩ := still_walk st (C.w a b d e) ey
    obtain ⟨d', z, l'⟩ := C.walk (ws.1 a x ex) hb ha
    rw [e] at z; cases z
    rw [ex]
    have : x = d := by omega
    rw [this]
theorem still_noneg {R : List Edge} {m n : Nat} (h : ∀ b, b ≤ m → (itF R (s0F b) (n + 1)).2 = false) {a : Nat} (ha : a ≤ m) {t : Int} (w : Wlk R a a t) : 0 ≤ t := by
  have st := it_still (h a ha)
  obtain ⟨y, ey, ly⟩ := (WS.it (R := R) (b := a) (n + 1)).2
  obtain ⟨x, ex, lx⟩ := still_walk st w ey
  rw [ey] at ex; cases ex
  omega
theorem still_closed {R : List Edge} {m n : Nat} (hR : ∀ e ∈ R, e.1 ≤ m ∧ e.2.1 ≤ m) (h : ∀ b, b ≤ m → (itF R (s0F b) (n + 1)).2 = false) : ∃ D, closedF R openF = some D ∧ Clo R m D := by
  cases e : closedF R openF with
  | none =>
    obtain ⟨a, t, ha, l, w⟩ := closed_none hR e
    have := still_noneg h ha w
    omega
  | some D => exact ⟨D, rfl, closed_some hR e⟩
end Lm

set_option Elab.async false
set_option linter.all false
set_option maxRecDepth 100000
set_option maxHeartbeats 2000000
namespace Lm
open PySem PySem.Spec PyProof.Rows L2 LmR
/-! ### own classes: their methods, their making -/
structure ClsAt (K : PySem.W.Frag) (mg : Str → Option Value) (x : Str) (C : Addr) (fs : List Str) : Prop where
  g : mg x = some (.ref C)
  c : Cls K C
  n : ∀ f ∈ fs, NoAttr K C f
def DefM (K : PySem.W.Frag) (C : Addr) (m q : Str) (st : Stmt) (ps : List Str) : Prop := ∃ f fd, Fun K m q st f fd ∧ Meth K C m f ∧ Binds K fd ps []
def CalM (P : Program) (w : World) (K : PySem.W.Frag) (mg : Str → Option Value) (base : Heap) (k : Nat) (C : Addr) (m : Str) (ps : List Str) (sp : Sp) : Prop :=
  ∃ f fd, FnOk P w K mg base CX0 k f fd ps sp ∧ Meth K C m f ∧ Binds K fd ps []
section
variable {P : Program} {w : World} {K : PySem.W.Frag} {mg : Str → Option Value} {base : Heap}
theorem CalM.mono {j k : Nat} {C : Addr} {m : Str} {ps : List Str} {sp : Sp} (c : CalM P w K mg base j C m ps sp) (h : j ≤ k) : CalM P w K mg base k C m ps sp := by
  obtain ⟨f, fd, F, g⟩ := c
  exact ⟨f, fd, F.mono h, g⟩
theorem calm_of {C : Addr} {m q : Str} {st : Stmt} {N ps : List Str} {k : Nat} {sp : Sp} (D : DefM K C m q st ps) (S : FnScope N ps (defScope st)) (len : ∀ vs H Q E, sp vs H Q E → vs.length = ps.length)
    (hbody : ∀ (f : Addr) (cdv : Value) (A : Around) (outer : List Env) (s : Shared) (H : Hp) (vs : List V) (Q : VK) (E : XK), Room k (A.deeper (envOfC q (defScope st) s.heap.objs.size f cdv)) → sp vs H Q E →
      ∃ t, PSs (cxOf CX0 P w K mg base N q (defScope st) f cdv A outer s H E).nox (defBody st) t ∧ t { nx := fun _ H' => Q .non H', rt := Q } (start N vs) H) : CalM P w K mg base (k + 1) C m ps sp := by
  obtain ⟨f, fd, F, g, b⟩ := D
  exact ⟨f, fd, F.ok S len (hbody f), g, b⟩
end
section
variable {X : Cx}
theorem pe_calM {k : Nat} {C : Addr} {m : Str} {ps : List Str} {sp : Sp} {o e : Expr} {es : List Expr} {to : TE} {t : TA} {apos pos : Pos} {pl : Sem Bool} (C' : CalM X.prog X.w X.K X.mg X.base k C m ps sp) (c : Cls X.K C) (hr : Room k X.A) (ho : PE X o to) (ha : PA X (e :: es) t)
    (ht : eval (.Call (.Attribute o m apos) (e :: es) [] pos) X.env = (do
      let ov ← eval o X.env
      standAt apos.atName
      let (f, first) ← holding [ov] (getMethod ov m pl)
      callWith pos f first (backTo pos (starEach (e :: es) X.env)) (backToKw pos (keywordEach [] X.env))) := by rfl)
    (he : starEach (e :: es) X.env = (false, eval e X.env) :: starEach es X.env := by rfl) (hpl : (backTo pos (starEach es X.env)).any (·.1) = false := by rfl) :
    PE X (.Call (.Attribute o m apos) (e :: es) [] pos) (tMeth C m sp [] (fun _ _ _ => False) to t) := by
  obtain ⟨f, fd, F, g, b⟩ := C'
  exact pe_meth ho c g F hr b .nil pass0 ha he hpl ht
theorem pe_calM0 {k : Nat} {C : Addr} {m : Str} {ps : List Str} {sp : Sp} {o : Expr} {to : TE} {apos pos : Pos} {pl : Sem Bool} (C' : CalM X.prog X.w X.K X.mg X.base k C m ps sp) (c : Cls X.K C) (hr : Room k X.A) (ho : PE X o to)
    (ht : eval (.Call (.Attribute o m apos) [] [] pos) X.env = (do
      let ov ← eval o X.env
      standAt apos.atName
      let (f, first) ← holding [ov] (getMethod ov m pl)
      callWith pos f first (backTo pos (starEach [] X.env)) (backToKw pos (keywordEach [] X.env))) := by rfl) :
    PE X (.Call (.Attribute o m apos) [] [] pos) (tMeth C m sp [] (fun _ _ _ => False) to tNil) := by
  obtain ⟨f, fd, F, g, b⟩ := C'
  exact pe_meth0 ho c g F hr b .nil pass0 ht
end
/-! ### C(e, ..), __init__ with a default behind -/
/-- n values (self among them) are written, ds fill up -/
def DefI (K : PySem.W.Frag) (mg : Str → Option Value) (C : Addr) (x q : Str) (st : Stmt) (ps : List Str) (dvs : List V) (n : Nat) : Prop :=
  ∃ f fd, FunD K "__init__" q (defArgs st) (defBody st) (defScope st) dvs [] f fd ∧ Mk K C f ∧ mg x = some (.ref C) ∧ ∃ ds, Vals (dvs.drop n) ds ∧ Binds K fd ps ds
def CalI (P : Program) (w : World) (K : PySem.W.Frag) (mg : Str → Option Value) (base : Heap) (k : Nat) (C : Addr) (x : Str) (ps : List Str) (dvs : List V) (n : Nat) (sp : Sp) : Prop :=
  ∃ f fd, FnOk P w K mg base CX0 k f fd ps sp ∧ Mk K C f ∧ mg x = some (.ref C) ∧ (∃ ds, Vals (dvs.drop n) ds ∧ Binds K fd ps ds) ∧ ∃ q pa bo sc, FunD K "__init__" q pa bo sc dvs [] f fd
section
variable {P : Program} {w : World} {K : PySem.W.Frag} {mg : Str → Option Value} {base : Heap}
theorem CalI.mono {j k n : Nat} {C : Addr} {x : Str} {ps : List Str} {dvs : List V} {sp : Sp} (c : CalI P w K mg base j C x ps dvs n sp) (h : j ≤ k) : CalI P w K mg base k C x ps dvs n sp := by
  obtain ⟨f, fd, F, g⟩ := c
  exact ⟨f, fd, F.mono h, g⟩
theorem cali_of {C : Addr} {x q : Str} {st : Stmt} {N ps : List Str} {k n : Nat} {dvs : List V} {sp : Sp} (D : DefI K mg C x q st ps dvs n) (S : FnScope N ps (defScope st)) (len : ∀ vs H Q E, sp vs H Q E → vs.length = ps.length)
    (hbody : ∀ (f : Addr) (cdv : Value) (A : Around) (outer : List Env) (s : Shared) (H : Hp) (vs : List V) (Q : VK) (E : XK), Room k (A.deeper (envOfC q (defScope st) s.heap.objs.size f cdv)) → sp vs H Q E →
      ∃ t, PSs (cxOf CX0 P w K mg base N q (defScope st) f cdv A outer s H E).nox (defBody st) t ∧ t { nx := fun _ H' => Q .non H', rt := Q } (start N vs) H) : CalI P w K mg base (k + 1) C x ps dvs n sp := by
  obtain ⟨f, fd, F, g1, g2, g3⟩ := D
  refine ⟨f, fd, F.ok S len (fun cdv A outer s H vs Q E hr hsp => ?_), g1, g2, g3, _, _, _, _, F⟩
  obtain ⟨t, h, q⟩ := hbody f cdv A outer s H vs Q E hr hsp
  exact ⟨t, h.nox, q⟩
end
theorem pe_calI {X : Cx} {k n : Nat} {C : Addr} {x : Str} {ps : List Str} {dvs : List V} {sp : Sp} {e : Expr} {es : List Expr} {t : TA} {p pos : Pos} (C' : CalI X.prog X.w X.K X.mg X.base k C x ps dvs n sp) (hr : Room (k + 1) X.A) (hg : Gl X x) (ha : PA X (e :: es) t)
    (hdb : (x == ("__debug__" : Str)) = false := by decide) (he : starEach (e :: es) X.env = (false, eval e X.env) :: starEach es X.env := by rfl) (hpl : (backTo pos (starEach es X.env)).any (·.1) = false := by rfl) :
    PE X (.Call (.Name x p) (e :: es) [] pos) (tMake C sp (dvs.drop n) (fun _ _ _ => False) t) := by
  obtain ⟨f, fd, F, M, g, ⟨ds, hd, b⟩, _⟩ := C'
  exact pe_make M F hr hg g b hd pass0 ha hdb he hpl
def rTupK (K : PySem.W.Frag) : List V → Hp → VK → Prop := fun xs H Q => ∃ p ys, xs = [.ref p] ∧ ((SqL K H p ys ∧ ∀ l, H l = none → Q (.ref l) (upd H l (.tup ys))) ∨ (SqT K H p ys ∧ Q (.ref p) H))
theorem call_tuple_ofK {X : Cx} {K : PySem.W.Frag} (h : X.K = K) : CallR X (.type "tuple") (rTupK K) := h ▸ call_tuple_of
theorem pi_listK {X : Cx} {K : PySem.W.Frag} {tg l : Expr} {tl : TE} (h : X.K = K) (hl : PE X l tl) : PI X tg l (iList K tl) := h ▸ pi_list hl
theorem pi_tupK {X : Cx} {K : PySem.W.Frag} {tg l : Expr} {tl : TE} (h : X.K = K) (hl : PE X l tl) : PI X tg l (iTup K tl) := h ▸ pi_tup hl
theorem walk_zipT {K : PySem.W.Frag} {a b : Addr} {xs ys : List V} {n : Nat} (hn : n = min xs.length ys.length) : Walk (RZ.ItzT K a b) n (fun H => SqT K H a xs ∧ SqT K H b ys) (YPair (fun i => xs[i]?) (fun i => ys[i]?)) := by
  subst hn
  refine ⟨fun i _ hi q => ?_, fun _ q => ⟨xs, ys, q.1, q.2, by omega⟩, fun i H v H' _ q y => ?_⟩
  · have h1 : i < xs.length := by omega
    have h2 : i < ys.length := by omega
    exact ⟨xs, ys, xs[i], ys[i], q.1, q.2, by simp [h1], by simp [h2]⟩
  · obtain ⟨T, x, z, h1, h2, h3, h4, h5⟩ := y
    exact ⟨T, x, z, h1, h2, h3, h4 xs q.1, h5 ys q.2⟩
theorem pg_tupK {X : Cx} {K : PySem.W.Frag} {es : List Expr} {k : Nat} {t : TGs} {n : Nat} {pos : Pos} (hK : X.K = K) (hc : X.calm = true) (h : PGs X es t)
    (hn : (assignEach es X.env).length = n := by rfl) (hst : (assignEach es X.env).findIdx? (·.1) = none := by rfl) : PG X (.Tuple es k pos) (gTup K n t) := hK ▸ pg_tup hc h hn hst
theorem cr_minQ {X : Cx} {K : PySem.W.Frag} (h : X.K = K) (hc : X.calm = true) : CallR X (.builtin "min") (rMin K) := h ▸ cr_min hc
/-! ### for x in e, e a list or a tuple -/
section
variable {X : Cx} {tg : Expr}
def iLT (K : PySem.W.Frag) (tl : TE) : TI := fun σ H R => tl σ H fun x H1 => ∃ a, x = .ref a ∧ (((∃ xs, SqL K H1 a xs) ∧ R (Itl K a) H1) ∨ ((∃ xs, SqT K H1 a xs) ∧ R (Itt K a) H1))
theorem pi_lt {l : Expr} {tl : TE} (hl : PE X l tl) : PI X tg l (iLT X.K tl) := by
  refine ⟨fun pins s σ H R I h => ?_⟩
  refine thn (hl.run pins s σ H _ I h) fun v s1 ⟨x, H1, I1, r1, q1⟩ => ?_
  obtain ⟨a, e, q⟩ := q1
  subst e
  cases r1
  rcases q with ⟨⟨xs, hq⟩, q⟩ | ⟨⟨xs, hq⟩, q⟩
  · obtain ⟨its, rv, p, hz⟩ := I1.list hq
    refine wpAny_pyIter_list p.isList ?_
    refine ⟨s1.heap.objs.size, [s1.heap.objs.size], _, _, H1, rfl, I1.kept (t' := s1.toks) fun b o e => Heap.get?_push_of_some _ e, turn_list a _, ⟨_, Heap.get?_push_size _ rfl, rfl, rfl⟩, fun b hb => ?_, q⟩
    have e : b = s1.heap.objs.size := by simpa using hb
    subst e
    exact I1.fpOk (Nat.le_refl _) (I1.hok.fresh (Nat.le_refl _))
  · obtain ⟨its, rv, p, hz⟩ := I1.tuple hq
    refine wpAny_pyIter_tuple (show s1.heap.IsTuple a its.toArray from p) ?_
    refine ⟨s1.heap.objs.size, [s1.heap.objs.size], _, _, H1, rfl, I1.kept (t' := s1.toks) fun b o e => Heap.get?_push_of_some _ e, turn_tuple a _, ⟨_, Heap.get?_push_size _ rfl, rfl, rfl⟩, fun b hb => ?_, q⟩
    have e : b = s1.heap.objs.size := by simpa using hb
    subst e
    exact I1.fpOk (Nat.le_refl _) (I1.hok.fresh (Nat.le_refl _))
end
end Lm

set_option Elab.async false
set_option linter.all false
set_option maxRecDepth 100000
namespace Lm
open PySem PySem.Spec PyProof.Rows L2 LmR
/-! ### a == b, a != b of data without dicts, of any texts -/
def rEqP (K : PySem.W.Frag) : R2 := fun x y H Q => ∃ d e, Dp K H x d ∧ Dp K H y e ∧ d.plain = true ∧ e.plain = true ∧ d.depth ≤ 64 ∧ Q (.bl (PyData.eqv d e)) H
def rNeP (K : PySem.W.Frag) : R2 := fun x y H Q => ∃ d e, Dp K H x d ∧ Dp K H y e ∧ d.plain = true ∧ e.plain = true ∧ d.depth ≤ 64 ∧ Q (.bl (!PyData.eqv d e)) H
theorem op_eqP {X : Cx} (hu : X.A.units + 64 < cLine) : OpR X (compareOp .Eq) (rEqP X.K) := by
  intro pins s σ H x y v u Q I rx ry h
  obtain ⟨d, e, hd, he, sd, se, dd, q⟩ := h
  obtain ⟨as, r1⟩ := Dp.reads I d x v hd rx
  obtain ⟨bs, r2⟩ := Dp.reads I e y u he ry
  exact SeqAt.eq_plain r1 r2 sd se (by omega) ⟨.bl _, H, I, rfl, q⟩
theorem op_neP {X : Cx} (hu : X.A.units + 64 < cLine) : OpR X (compareOp .NotEq) (rNeP X.K) := by
  intro pins s σ H x y v u Q I rx ry h
  obtain ⟨d, e, hd, he, sd, se, dd, q⟩ := h
  obtain ⟨as, r1⟩ := Dp.reads I d x v hd rx
  obtain ⟨bs, r2⟩ := Dp.reads I e y u he ry
  exact SeqAt.ne_plain r1 r2 sd se (by omega) ⟨.bl _, H, I, rfl, q⟩
mutual
theorem plain_flat : ∀ d : PyData, flat d = true → d.plain = true
  | .none, _ => rfl
  | .bool _, _ => rfl
  | .int _, _ => rfl
  | .str _, _ => rfl
  | .list _, h => by simp [flat] at h
  | .tuple xs, h => plains_flat xs h
  | .dict _, h => by simp [flat] at h
theorem plains_flat : ∀ ds : List PyData, flat.flats ds = true → PyData.plainAll ds = true
  | [], _ => rfl
  | d :: ds, h => by
    rw [flat.flats, Bool.and_eq_true] at h
    show (d.plain && PyData.plainAll ds) = true
    rw [plain_flat d h.1, plains_flat ds h.2]; rfl
end
end Lm

set_option Elab.async false
set_option linter.all false
set_option maxRecDepth 100000
set_option maxHeartbeats 2000000
namespace Lm
open PySem PySem.Spec PyProof.Rows L2 LmR
/-! ### numbers lowered by rows, turn by turn; by whom, and where it ends -/
structure BFd where
  x : Nat → Int
  by_ : Sums
  pl : Option Nat
def stB (n : Nat) (s : BFd) (e : Edge) : BFd :=
  if s.x e.2.1 + e.2.2 < s.x e.1 then ⟨fun a => if a = e.1 then s.x e.2.1 + e.2.2 else s.x a, fun a => if a = e.1 then some (n : Int) else s.by_ a, some e.1⟩ else s
def rowsB (R : List Edge) (s : BFd) : Nat → BFd
  | 0 => s
  | k + 1 => match R[k]? with
    | some e => stB k (rowsB R s k) e
    | none => rowsB R s k
def b0 : BFd := ⟨fun _ => 0, fun _ => none, none⟩
def turnsB (R : List Edge) : Nat → BFd
  | 0 => b0
  | t + 1 => rowsB R (turnsB R t) R.length
structure BInv (R : List Edge) (T k : Nat) (s : BFd) (last : Nat → Nat) : Prop where
  le : ∀ a, last a ≤ T
  no : ∀ a, s.by_ a = none → last a = 0
  by_ : ∀ a z, s.by_ a = some z → ∃ n : Nat, z = n ∧ ∃ e, R[n]? = some e ∧ e.1 = a ∧ last a ≤ last e.2.1 + 1
  row : ∀ n e, R[n]? = some e → s.x e.1 ≤ s.x e.2.1 + e.2.2 ∨ (if n < k then T else T - 1) ≤ last e.2.1
  pl : ∀ p, s.pl = some p → ∀ a, last a ≤ last p
  pn : s.pl = none → ∀ a, last a = 0
theorem BInv.step {R : List Edge} {T k : Nat} {s : BFd} {last : Nat → Nat} (h : BInv R T k s last) {e : Edge} (he : R[k]? = some e) : ∃ last', BInv R T (k + 1) (stB k s e) last' := by
  unfold stB
  by_cases hf : s.x e.2.1 + e.2.2 < s.x e.1
  · rw [if_pos hf]
    have hj : T - 1 ≤ last e.2.1 := by
      rcases h.row k e he with z | z
      · omega
      · rw [if_neg (Nat.lt_irrefl k)] at z
        exact z
    have up : ∀ a, last a ≤ if a = e.1 then T else last a := fun a => by
      split
      · exact h.le a
      · exact Nat.le_refl _
    refine ⟨fun a => if a = e.1 then T else last a, ⟨fun a => ?_, fun a ha => ?_, fun a z hz => ?_, fun n e' hn => ?_, fun p hp a => ?_, fun hp => ?_⟩⟩
    · show (if a = e.1 then T else last a) ≤ T
      split
      · exact Nat.le_refl _
      · exact h.le a
    · have ha' : (if a = e.1 then some (k : Int) else s.by_ a) = none := ha
      show (if a = e.1 then T else last a) = 0
      by_cases c : a = e.1
      · rw [if_pos c] at ha'; cases ha'
      · rw [if_neg c] at ha' ⊢; exact h.no a ha'
    · have hz' : (if a = e.1 then some (k : Int) else s.by_ a) = some z := hz
      by_cases c : a = e.1
      · rw [if_pos c] at hz'
        refine ⟨k, (Option.some.inj hz').symm, e, he, c.symm, ?_⟩
        show (if a = e.1 then T else last a) ≤ (if e.2.1 = e.1 then T else last e.2.1) + 1
        rw [if_pos c]
        split <;> omega
      · rw [if_neg c] at hz'
        obtain ⟨n, hz2, e', h1, h2, h3⟩ := h.by_ a z hz'
        refine ⟨n, hz2, e', h1, h2, ?_⟩
        show (if a = e.1 then T else last a) ≤ (if e'.2.1 = e.1 then T else last e'.2.1) + 1
        rw [if_neg c]
        have := up e'.2.1
        omega
    · show (if e'.1 = e.1 then s.x e.2.1 + e.2.2 else s.x e'.1) ≤ (if e'.2.1 = e.1 then s.x e.2.1 + e.2.2 else s.x e'.2.1) + e'.2.2 ∨ _ ≤ if e'.2.1 = e.1 then T else last e'.2.1
      by_cases c : e'.2.1 = e.1
      · right
        rw [if_pos c]
        split <;> omega
      · rw [if_neg c, if_neg c]
        by_cases cn : n = k
        · subst cn
          rw [he] at hn
          cases hn
          left
          rw [if_pos rfl]
          omega
        · rcases h.row n e' hn with z | z
          · left
            split
            · next q => rw [q] at z; omega
            · exact z
          · right
            have iff : (n < k + 1) = (n < k) := propext ⟨fun y => by omega, fun y => by omega⟩
            simp only [iff]
            exact z
    · have hp' : some e.1 = some p := hp
      cases hp'
      show (if a = e.1 then T else last a) ≤ (if e.1 = e.1 then T else last e.1)
      rw [if_pos rfl]
      split
      · exact Nat.le_refl _
      · exact h.le a
    · cases (show some e.1 = none from hp)
  · rw [if_neg hf]
    refine ⟨last, ⟨h.le, h.no, h.by_, fun n e' hn => ?_, h.pl, h.pn⟩⟩
    by_cases cn : n = k
    · subst cn
      rw [he] at hn
      cases hn
      left
      omega
    · have iff : (n < k + 1) = (n < k) := propext ⟨fun y => by omega, fun y => by omega⟩
      simp only [iff]
      exact h.row n e' hn
theorem BInv.rows {R : List Edge} {T : Nat} {s : BFd} {last : Nat → Nat} (h : BInv R T 0 s last) : ∀ k, k ≤ R.length → ∃ last', BInv R T k (rowsB R s k) last'
  | 0, _ => ⟨last, h⟩
  | k + 1, hk => by
    obtain ⟨l1, h1⟩ := h.rows k (by omega)
    have he : R[k]? = some R[k] := List.getElem?_eq_getElem (by omega)
    have e : rowsB R s (k + 1) = stB k (rowsB R s k) R[k] := by
      show (match R[k]? with | some e => stB k (rowsB R s k) e | none => rowsB R s k) = _
      rw [he]
    rw [e]
    exact h1.step he
theorem BInv.turns (R : List Edge) : ∀ t, ∃ last, BInv R (t + 1) 0 (turnsB R t) last
  | 0 => ⟨fun _ => 0, ⟨fun _ => Nat.zero_le _, fun _ _ => rfl, fun _ _ z => (nomatch z), fun n e _ => .inr (by rw [if_neg (Nat.not_lt_zero n)]; omega), fun _ z => (nomatch z), fun _ _ => rfl⟩⟩
  | t + 1 => by
    obtain ⟨l, h⟩ := BInv.turns R t
    obtain ⟨l1, h1⟩ := h.rows R.length (Nat.le_refl _)
    refine ⟨l1, ⟨fun a => by have := h1.le a; omega, h1.no, h1.by_, fun n e hn => ?_, h1.pl, h1.pn⟩⟩
    have hl : n < R.length := by
      rcases Nat.lt_or_ge n R.length with z | z
      · exact z
      · rw [List.getElem?_eq_none z] at hn; cases hn
    rcases h1.row n e hn with z | z
    · exact .inl z
    · right
      rw [if_pos hl] at z
      rw [if_neg (Nat.not_lt_zero n)]
      omega
theorem pigeon : ∀ (m : Nat) (f : Nat → Nat), (∀ k, k ≤ m + 1 → f k ≤ m) → ∃ a b, a < b ∧ b ≤ m + 1 ∧ f a = f b
  | 0, f, h => ⟨0, 1, by omega, by omega, by have := h 0 (by omega); have := h 1 (by omega); omega⟩
  | m + 1, f, h => by
    by_cases c : ∃ k, k ≤ m + 1 ∧ f k = f (m + 2)
    · obtain ⟨k, hk, e⟩ := c
      exact ⟨k, m + 2, by omega, by omega, e⟩
    · have no : ∀ k, k ≤ m + 1 → f k ≠ f (m + 2) := fun k hk e => c ⟨k, hk, e⟩
      have hv := h (m + 2) (by omega)
      obtain ⟨a, b, h1, h2, h3⟩ := pigeon m (fun k => if f k = m + 1 then f (m + 2) else f k) (fun k hk => by
        show (if f k = m + 1 then f (m + 2) else f k) ≤ m
        have n1 := no k hk
        have n2 := h k (by omega)
        split <;> omega)
      refine ⟨a, b, h1, by omega, ?_⟩
      have n1 := no a (by omega)
      have n2 := no b (by omega)
      have h3' : (if f a = m + 1 then f (m + 2) else f a) = (if f b = m + 1 then f (m + 2) else f b) := h3
      split at h3' <;> split at h3' <;> omega
def nxtB (R : List Edge) (s : BFd) (a : Nat) : Nat := match s.by_ a with
  | some z => match R[z.toNat]? with
    | some e => e.2.1
    | none => a
  | none => a
def qB (R : List Edge) (s : BFd) (p : Nat) : Nat → Nat
  | 0 => p
  | k + 1 => nxtB R s (qB R s p k)
/-- from here a row leads on -/
def OnB (R : List Edge) (s : BFd) (a : Nat) : Prop := ∃ n : Nat, s.by_ a = some (n : Int) ∧ ∃ e, R[n]? = some e ∧ e.1 = a ∧ nxtB R s a = e.2.1
theorem bf_end {R : List Edge} {m : Nat} (hR : ∀ e ∈ R, e.1 ≤ m ∧ e.2.1 ≤ m) (hneg : ∃ a t, t < 0 ∧ Wlk R a a t) :
    ∃ p, (turnsB R (m + 1)).pl = some p ∧ (∀ k, OnB R (turnsB R (m + 1)) (qB R (turnsB R (m + 1)) p k)) ∧ ∃ d, 1 ≤ d ∧ d ≤ m + 1 ∧ qB R (turnsB R (m + 1)) p (m + 1 + d) = qB R (turnsB R (m + 1)) p (m + 1) := by
  obtain ⟨last, h0⟩ := BInv.turns R m
  obtain ⟨last, h⟩ := h0.rows R.length (Nat.le_refl _)
  have hs : rowsB R (turnsB R m) R.length = turnsB R (m + 1) := rfl
  rw [hs] at h
  generalize turnsB R (m + 1) = s at h hs
  have on : ∀ a, 1 ≤ last a → OnB R s a ∧ last a ≤ last (nxtB R s a) + 1 := fun a ha => by
    cases e : s.by_ a with
    | none => have := h.no a e; omega
    | some z =>
      obtain ⟨n, rfl, e', h1, h2, h3⟩ := h.by_ a z e
      have en : nxtB R s a = e'.2.1 := by
        unfold nxtB
        rw [e]
        show (match R[((n : Nat) : Int).toNat]? with | some e => e.2.1 | none => a) = _
        rw [show ((n : Nat) : Int).toNat = n by omega, h1]
      exact ⟨⟨n, e, e', h1, h2, en⟩, by rw [en]; exact h3⟩
  have top : ∃ a, last a = m + 1 := by
    refine Classical.byContradiction fun z => ?_
    have lt : ∀ a, last a < m + 1 := fun a => by
      have := h.le a
      rcases Nat.lt_or_ge (last a) (m + 1) with y | y
      · exact y
      · exact absurd ⟨a, by omega⟩ z
    have kp : KeepsF s.x R := fun e he => by
      obtain ⟨n, hn, rfl⟩ := List.mem_iff_getElem.mp he
      rcases h.row n R[n] (List.getElem?_eq_getElem hn) with y | y
      · exact y
      · rw [if_pos hn] at y
        have := lt R[n].2.1
        omega
    obtain ⟨a, t, ht, w⟩ := hneg
    have := w.keeps kp
    omega
  obtain ⟨a0, ha0⟩ := top
  cases hp : s.pl with
  | none => have := h.pn hp a0; omega
  | some p =>
    have lp : m + 1 ≤ last p := by have := h.pl p hp a0; omega
    have lq : ∀ k, k ≤ m + 1 → m + 1 ≤ last (qB R s p k) + k := fun k => by
      induction k with
      | zero => intro _; exact lp
      | succ k ih =>
        intro hk
        have i := ih (by omega)
        have o := (on (qB R s p k) (by omega)).2
        show m + 1 ≤ last (nxtB R s (qB R s p k)) + (k + 1)
        omega
    have o1 : ∀ k, k ≤ m → OnB R s (qB R s p k) := fun k hk => (on _ (by have := lq k (by omega); omega)).1
    have le : ∀ k, k ≤ m + 1 → qB R s p k ≤ m := fun k hk => by
      cases k with
      | zero =>
        obtain ⟨n, _, e, h1, h2, _⟩ := o1 0 (by omega)
        rw [← h2]
        exact (hR e (List.mem_of_getElem? h1)).1
      | succ k =>
        obtain ⟨n, _, e, h1, h2, h3⟩ := o1 k (by omega)
        show nxtB R s (qB R s p k) ≤ m
        rw [h3]
        exact (hR e (List.mem_of_getElem? h1)).2
    obtain ⟨a, b, hab, hb, e⟩ := pigeon m (qB R s p) le
    have rep : ∀ j, qB R s p (a + j) = qB R s p (b + j) := fun j => by
      induction j with
      | zero => exact e
      | succ j ih =>
        show nxtB R s (qB R s p (a + j)) = nxtB R s (qB R s p (b + j))
        rw [ih]
    have all : ∀ n k, k ≤ n → OnB R s (qB R s p k) := fun n => by
      induction n with
      | zero => intro k hk; exact o1 k (by omega)
      | succ n ih =>
        intro k hk
        by_cases c : k ≤ m
        · exact o1 k c
        · have r := rep (k - b)
          rw [show b + (k - b) = k by omega] at r
          rw [← r]
          exact ih _ (by omega)
    refine ⟨p, rfl, fun k => all k k (Nat.le_refl _), b - a, by omega, by omega, ?_⟩
    have r := rep (m + 1 - a)
    rw [show a + (m + 1 - a) = m + 1 by omega, show b + (m + 1 - a) = m + 1 + (b - a) by omega] at r
    exact r.symm
end Lm

set_option Elab.async false
set_option linter.all false
set_option maxRecDepth 100000
set_option maxHeartbeats 2000000
namespace Lm
open PySem PySem.Spec PyProof.Rows L2 LmR
/-! ### len(set(t)), t a tuple of any ints -/
theorem nodup_le : ∀ (out ns : List Int), out.Nodup → (∀ k ∈ out, k ∈ ns) → out.length ≤ ns.length
  | [], _, _, _ => Nat.zero_le _
  | a :: o, ns, hn, hs => by
    obtain ⟨h1, h2⟩ := List.nodup_cons.mp hn
    have ha : a ∈ ns := hs a (List.mem_cons_self ..)
    have z := nodup_le o (ns.erase a) h2 fun k hk => (List.mem_erase_of_ne (fun e => h1 (by rw [← e]; exact hk))).mpr (hs k (List.mem_cons_of_mem _ hk))
    rw [List.length_erase_of_mem ha] at z
    have : 0 < ns.length := List.length_pos_of_mem ha
    show o.length + 1 ≤ ns.length
    omega
theorem nodup_lt : ∀ (ns out : List Int), out.Nodup → (∀ k, k ∈ out ↔ k ∈ ns) → ¬ ns.Nodup → out.length < ns.length
  | [], out, _, _, h => absurd List.nodup_nil h
  | a :: o, out, hn, hs, h => by
    by_cases c : a ∈ o
    · have z := nodup_le out o hn fun k hk => by
        rcases List.mem_cons.mp ((hs k).mp hk) with y | y
        · rw [y]; exact c
        · exact y
      show out.length < o.length + 1
      omega
    · have h' : ¬ o.Nodup := fun y => h (List.nodup_cons.mpr ⟨c, y⟩)
      have ha : a ∈ out := (hs a).mpr (List.mem_cons_self ..)
      have z := nodup_lt o (out.erase a) (hn.erase a) (fun k => by
        rw [hn.mem_erase_iff]
        exact ⟨fun ⟨n, m⟩ => by
          rcases List.mem_cons.mp ((hs k).mp m) with y | y
          · exact absurd y n
          · exact y, fun m => ⟨fun e => c (by rw [← e]; exact m), (hs k).mpr (List.mem_cons_of_mem _ m)⟩⟩) h'
      rw [List.length_erase_of_mem ha] at z
      have : 0 < out.length := List.length_pos_of_mem ha
      show out.length < o.length + 1
      omega
def tLenSetT (K : PySem.W.Frag) (ta : TE) : TE := fun σ H Q => ta σ H fun x H1 => ∃ (l : Addr) (ns : List Int), x = .ref l ∧ SqT K H1 l (ns.map V.int) ∧ ns.length ≤ 4000 ∧ ∀ c : Nat, (c < ns.length ↔ ¬ ns.Nodup) → Q (.int (c : Nat)) H1
theorem ints_vals : ∀ {ns : List Int} {us : List Value}, Vals (ns.map V.int) us → PyProof.Rows.IntsAre us ns
  | [], _, .nil => .nil
  | n :: ns, _, .cons r t => by
    obtain ⟨k, rfl⟩ := r
    exact .cons n k (ints_vals t)
theorem pe_lenSetT {X : Cx} {a : Expr} {ta : TE} {p p2 q pos : Pos} (hg : Gl X "len") (hm : X.mg "len" = none) (hg2 : Gl X "set") (hm2 : X.mg "set" = none) (ha : PE X a ta) (hc : X.calm = true := by rfl)
    (na : starEach [a] X.env = (false, eval a X.env) :: starEach [] X.env := by rfl) : PE X (.Call (.Name "len" p) [.Call (.Name "set" p2) [a] [] q] [] pos) (tLenSetT X.K ta) := by
  refine ⟨fun pins s σ H Q I h => ?_⟩
  refine Call_ (ld_blt I hg hm PySem.boot_len ?_)
  refine PyProof.Rows.callWith_builtin1 (PyProof.Rows.args_cons ?_ rfl) rfl rfl
  refine Call_ (ld_blt I hg2 hm2 PyProof.Rows.boot_set ?_)
  refine PyProof.Rows.callWith_type1 (PyProof.Rows.args_cons (thn (ha.run pins s σ H _ I h) fun v s1 ⟨x, H1, I1, r1, q1⟩ => PyProof.Rows.args_nil ?_) na) na rfl
  obtain ⟨l, ns, rfl, hq, hl, q1⟩ := q1
  cases r1
  obtain ⟨its, rv, pt, hz⟩ := I1.tuple hq
  have hi : IntsAre its.toArray.toList ns := by simpa using ints_vals rv
  refine call_set_tupI ns (I1.ok.hd hc) (show s1.heap.IsTuple l its.toArray from pt) hi (by unfold scanBound; omega) fun h' tk c R1 hcn k => ?_
  obtain ⟨o, es, ep, t, ho, hex, hdt, g, nd, hm3, hb, hf, hn, hr, hl2⟩ := R1
  refine PyProof.Rows.args_nil ?_
  have I2 : Inv X pins σ H1 { s1 with heap := h', toks := tk } := I1.kept fun b o e => k b o e
  have hmem : ∀ z, z ∈ es.toList.map keyOf ↔ z ∈ ns := fun z => by
    rw [← hm3 z, decide_eq_true_eq]
  have hlen : (es.toList.map keyOf).length = c := by rw [List.length_map, Array.length_toList, hn]
  refine call_len_set ho hex hdt hf (by rw [hn] <;> omega) ⟨.int c, H1, I2.tok _, ⟨_, by rw [hn]⟩, q1 c ⟨fun lt nd2 => ?_, fun nn => ?_⟩⟩
  · have z := nodup_le ns (es.toList.map keyOf) nd2 fun y hy => (hmem y).mpr hy
    omega
  · have z := nodup_lt ns (es.toList.map keyOf) nd hmem nn
    omega
end Lm

set_option Elab.async false
set_option linter.all false
set_option maxRecDepth 100000
set_option maxHeartbeats 2000000
namespace Lm
open PySem PySem.Spec PyProof.Rows L2 LmR
/-! ### where the walk back goes round, the rows come together below nought -/
/-- τ: when a place was lowered last. A row that lowered a place last is kept with its worth, or more where its end was lowered since. -/
structure BTau (R : List Edge) (t : Nat) (s : BFd) (τ : Nat → Nat) : Prop where
  le : ∀ a, τ a ≤ t
  by_ : ∀ a z, s.by_ a = some z → ∃ n : Nat, z = n ∧ ∃ e, R[n]? = some e ∧ e.1 = a ∧ s.x e.2.1 + e.2.2 ≤ s.x a ∧ (τ a ≤ τ e.2.1 → s.x e.2.1 + e.2.2 < s.x a)
theorem BTau.step {R : List Edge} {t k : Nat} {s : BFd} {τ : Nat → Nat} (h : BTau R t s τ) {e : Edge} (he : R[k]? = some e) : ∃ t' τ', BTau R t' (stB k s e) τ' := by
  unfold stB
  by_cases hf : s.x e.2.1 + e.2.2 < s.x e.1
  · rw [if_pos hf]
    refine ⟨t + 1, fun a => if a = e.1 then t + 1 else τ a, ⟨fun a => ?_, fun a z hz => ?_⟩⟩
    · show (if a = e.1 then t + 1 else τ a) ≤ t + 1
      have := h.le a
      split <;> omega
    · have hz' : (if a = e.1 then some (k : Int) else s.by_ a) = some z := hz
      by_cases c : a = e.1
      · rw [if_pos c] at hz'
        refine ⟨k, (Option.some.inj hz').symm, e, he, c.symm, ?_, ?_⟩
        · show (if e.2.1 = e.1 then s.x e.2.1 + e.2.2 else s.x e.2.1) + e.2.2 ≤ (if a = e.1 then s.x e.2.1 + e.2.2 else s.x a)
          rw [if_pos c]
          split
          · next q => rw [q] at hf ⊢; omega
          · omega
        · show (if a = e.1 then t + 1 else τ a) ≤ (if e.2.1 = e.1 then t + 1 else τ e.2.1) → (if e.2.1 = e.1 then s.x e.2.1 + e.2.2 else s.x e.2.1) + e.2.2 < (if a = e.1 then s.x e.2.1 + e.2.2 else s.x a)
          rw [if_pos c, if_pos c]
          have := h.le e.2.1
          split
          · next q => intro _; rw [q] at hf ⊢; omega
          · intro z; omega
      · rw [if_neg c] at hz'
        obtain ⟨n, hz2, e', h1, h2, h3, h4⟩ := h.by_ a z hz'
        refine ⟨n, hz2, e', h1, h2, ?_, ?_⟩
        · show (if e'.2.1 = e.1 then s.x e.2.1 + e.2.2 else s.x e'.2.1) + e'.2.2 ≤ (if a = e.1 then s.x e.2.1 + e.2.2 else s.x a)
          rw [if_neg c]
          split
          · next q => rw [q] at h3; omega
          · exact h3
        · show (if a = e.1 then t + 1 else τ a) ≤ (if e'.2.1 = e.1 then t + 1 else τ e'.2.1) → (if e'.2.1 = e.1 then s.x e.2.1 + e.2.2 else s.x e'.2.1) + e'.2.2 < (if a = e.1 then s.x e.2.1 + e.2.2 else s.x a)
          rw [if_neg c, if_neg c]
          split
          · next q => intro _; rw [q] at h3; omega
          · exact h4
  · rw [if_neg hf]
    exact ⟨t, τ, h⟩
theorem BTau.rows {R : List Edge} {s : BFd} (h : ∃ t τ, BTau R t s τ) : ∀ k, ∃ t τ, BTau R t (rowsB R s k) τ
  | 0 => h
  | k + 1 => by
    obtain ⟨t, τ, h1⟩ := BTau.rows h k
    cases he : R[k]? with
    | none =>
      have e : rowsB R s (k + 1) = rowsB R s k := by
        show (match R[k]? with | some e => stB k (rowsB R s k) e | none => rowsB R s k) = _
        rw [he]
      rw [e]
      exact ⟨t, τ, h1⟩
    | some ed =>
      have e : rowsB R s (k + 1) = stB k (rowsB R s k) ed := by
        show (match R[k]? with | some e => stB k (rowsB R s k) e | none => rowsB R s k) = _
        rw [he]
      rw [e]
      exact h1.step he
theorem BTau.turns (R : List Edge) : ∀ T, ∃ t τ, BTau R t (turnsB R T) τ
  | 0 => ⟨0, fun _ => 0, ⟨fun _ => Nat.zero_le _, fun _ _ z => nomatch z⟩⟩
  | T + 1 => BTau.rows (BTau.turns R T) R.length
/-- the number of the row that lowered a place last, and its worth -/
def nB (s : BFd) (a : Nat) : Int := (s.by_ a).getD 0
def wB (R : List Edge) (s : BFd) (a : Nat) : Int := ((R[(nB s a).toNat]?).getD (0, 0, 0)).2.2
def sumB (R : List Edge) (s : BFd) (p M : Nat) : Nat → Int
  | 0 => 0
  | j + 1 => sumB R s p M j + wB R s (qB R s p (M + j))
theorem ring_below {R : List Edge} {T p M d : Nat} (on : ∀ k, OnB R (turnsB R T) (qB R (turnsB R T) p k)) (hd : 1 ≤ d) (hq : qB R (turnsB R T) p (M + d) = qB R (turnsB R T) p M) : sumB R (turnsB R T) p M d < 0 := by
  obtain ⟨t, τ, h⟩ := BTau.turns R T
  generalize turnsB R T = s at h on hq
  have key : ∀ j, sumB R s p M j ≤ s.x (qB R s p M) - s.x (qB R s p (M + j)) ∧ (sumB R s p M j < s.x (qB R s p M) - s.x (qB R s p (M + j)) ∨ τ (qB R s p (M + j)) + j ≤ τ (qB R s p M)) := fun j => by
    induction j with
    | zero => exact ⟨by show (0 : Int) ≤ s.x (qB R s p M) - s.x (qB R s p M); omega, .inr (by show τ (qB R s p M) + 0 ≤ τ (qB R s p M); omega)⟩
    | succ j ih =>
      obtain ⟨i1, i2⟩ := ih
      obtain ⟨n, hn, e, h1, h2, h3⟩ := on (M + j)
      obtain ⟨n', hz, e', h1', h2', h4, h5⟩ := h.by_ _ _ hn
      have en : n' = n := by omega
      subst en
      rw [h1] at h1'
      cases h1'
      have ew : wB R s (qB R s p (M + j)) = e.2.2 := by
        unfold wB nB
        rw [hn]
        show ((R[((n' : Nat) : Int).toNat]?).getD (0, 0, 0)).2.2 = _
        rw [show ((n' : Nat) : Int).toNat = n' by omega, h1]
        rfl
      have eq : qB R s p (M + (j + 1)) = e.2.1 := h3
      show sumB R s p M j + wB R s (qB R s p (M + j)) ≤ _ ∧ (sumB R s p M j + wB R s (qB R s p (M + j)) < _ ∨ _)
      rw [ew, eq]
      refine ⟨by omega, ?_⟩
      rcases i2 with z | z
      · left; omega
      · by_cases c : τ (qB R s p (M + j)) ≤ τ e.2.1
        · have := h5 c
          left; omega
        · right; omega
  obtain ⟨k1, k2⟩ := key d
  rw [hq] at k1 k2
  omega
/-- the way round, begun at its first place, ends the first time that it comes there again -/
theorem first_again {α : Type} {q : Nat → α} {d : Nat} (hd : 1 ≤ d) (h : q d = q 0) : ∃ j, 1 ≤ j ∧ j ≤ d ∧ q j = q 0 ∧ ∀ k, 1 ≤ k → k < j → q k ≠ q 0 := by
  induction d using Nat.strongRecOn with
  | _ d ih =>
    by_cases c : ∃ k, 1 ≤ k ∧ k < d ∧ q k = q 0
    · obtain ⟨k, k1, k2, k3⟩ := c
      obtain ⟨j, j1, j2, j3, j4⟩ := ih k k2 k1 k3
      exact ⟨j, j1, by omega, j3, j4⟩
    · exact ⟨d, hd, Nat.le_refl _, h, fun k k1 k2 e => c ⟨k, k1, k2, e⟩⟩
end Lm

set_option Elab.async false
set_option linter.all false
set_option maxRecDepth 100000
set_option maxHeartbeats 2000000
set_option pp.maxSteps 600
set_option pp.deepTerms.threshold 6
namespace Lm
open PySem PySem.Spec PyProof.Rows L2 LmR RZ
def topS (i : Nat) : Stmt := PySem.Challenge.pw_leastmaker_k22_empty_or_a_point.main.body.getD i (.Pass ⟨0, 0, 0, 0⟩)
/-! ### closed bounds as data -/
def oV : Option Int → V
  | none => .non
  | some i => .int i
def oPD : Option Int → PyData
  | none => .none
  | some i => .int i
def rowV (D : Mat) (m a : Nat) : List V := (List.range (m + 1)).map fun b => oV (D a b)
def rowPD (D : Mat) (m a : Nat) : PyData := .tuple ((List.range (m + 1)).map fun b => oPD (D a b))
def cloPD (D : Mat) (m : Nat) : PyData := .tuple ((List.range (m + 1)).map fun a => rowPD D m a)
theorem oPD_flat (o : Option Int) : flat (oPD o) = true := by cases o <;> rfl
theorem flats_map {α : Type} (f : α → PyData) (h : ∀ x, flat (f x) = true) : ∀ l : List α, flat.flats (l.map f) = true
  | [] => rfl
  | x :: l => by rw [List.map_cons, flat.flats, h x, flats_map f h l]; rfl
theorem rowPD_flat (D : Mat) (m a : Nat) : flat (rowPD D m a) = true := flats_map _ (fun _ => oPD_flat _) _
theorem cloPD_flat (D : Mat) (m : Nat) : flat (cloPD D m) = true := flats_map _ (fun a => rowPD_flat D m a) _
theorem oV_dp {K : PySem.W.Frag} {H : Hp} (o : Option Int) : Dp K H (oV o) (oPD o) := by
  cases o
  · exact .non
  · exact .int _
theorem dp_oPD {K : PySem.W.Frag} {H : Hp} {v : V} {o : Option Int} (h : Dp K H v (oPD o)) : v = oV o := by
  cases o <;> cases h <;> rfl
theorem dps_oPD {K : PySem.W.Frag} {H : Hp} {α : Type} (f : α → Option Int) : ∀ {l : List α} {vs : List V}, DpAll K H vs (l.map fun x => oPD (f x)) → vs = l.map fun x => oV (f x)
  | [], _, h => by cases h; rfl
  | x :: l, _, h => by
    cases h with
    | cons a r => rw [dp_oPD a, dps_oPD f r]; rfl
theorem oVs_dp {K : PySem.W.Frag} {H : Hp} {α : Type} (f : α → Option Int) : ∀ l : List α, DpAll K H (l.map fun x => oV (f x)) (l.map fun x => oPD (f x))
  | [] => .nil
  | x :: l => .cons (oV_dp _) (oVs_dp f l)
theorem dpall_getM {K : PySem.W.Frag} {H : Hp} {α : Type} (f : α → PyData) : ∀ {l : List α} {vs : List V}, DpAll K H vs (l.map f) → vs.length = l.length ∧ ∀ (k : Nat) (x : α), l[k]? = some x → ∃ v, vs[k]? = some v ∧ Dp K H v (f x)
  | [], _, h => by cases h; exact ⟨rfl, fun k x z => by simp at z⟩
  | x :: l, _, h => by
    cases h with
    | cons a r =>
      obtain ⟨h1, h2⟩ := dpall_getM f r
      refine ⟨by rw [List.length_cons, h1]; rfl, fun k y z => ?_⟩
      cases k with
      | zero => cases z; exact ⟨_, rfl, a⟩
      | succ k => exact h2 k y z
theorem row_open {K : PySem.W.Frag} {H : Hp} {v : V} {D : Mat} {m a : Nat} (h : Dp K H v (rowPD D m a)) : ∃ r, v = .ref r ∧ SqT K H r (rowV D m a) := by
  unfold rowPD at h
  cases h with
  | tup q r =>
    have e := dps_oPD (fun b => D a b) r
    subst e
    exact ⟨_, rfl, q⟩
theorem row_mk {K : PySem.W.Frag} {H : Hp} {r : Addr} {D : Mat} {m a : Nat} (h : SqT K H r (rowV D m a)) : Dp K H (.ref r) (rowPD D m a) := .tup h (oVs_dp _ _)
/-- closed bounds that stand at v -/
theorem clo_open_at {K : PySem.W.Frag} {H : Hp} {v : V} {D : Mat} {m : Nat} (h : Fd K H v (cloPD D m)) : ∃ t rs, v = .ref t ∧ SqT K H t rs ∧ rs.length = m + 1 ∧ ∀ a, a ≤ m → ∃ r, rs[a]? = some (.ref r) ∧ SqT K H r (rowV D m a) := by
  obtain ⟨_, h⟩ := h
  unfold cloPD at h
  cases h with
  | tup q r =>
    obtain ⟨hl, hg⟩ := dpall_getM _ r
    rw [List.length_range] at hl
    refine ⟨_, _, rfl, q, hl, fun a ha => ?_⟩
    obtain ⟨v, hv, hd⟩ := hg a a (List.getElem?_range (by omega))
    obtain ⟨r, rfl, hr⟩ := row_open hd
    exact ⟨r, hv, hr⟩
theorem rowV_at (D : Mat) (m a : Nat) {b : Nat} (hb : b ≤ m) : (rowV D m a)[b]? = some (oV (D a b)) := by
  unfold rowV
  rw [List.getElem?_map, List.getElem?_range (by omega)]
  rfl
theorem rowV_len (D : Mat) (m a : Nat) : (rowV D m a).length = m + 1 := by unfold rowV; rw [List.length_map, List.length_range]
/-- a number's place -/
def pl (m : Nat) (i : Int) : Nat := if i = -1 then m else i.toNat
theorem pl_le {m : Nat} {i : Int} (h1 : -1 ≤ i) (h2 : i < m) : pl m i ≤ m := by unfold pl; split <;> omega
theorem at_pl {xs : List V} {m : Nat} {i : Int} {v : V} (hl : xs.length = m + 1) (h1 : -1 ≤ i) (h2 : i < m) (h : xs[pl m i]? = some v) : atI xs i = some v := by
  unfold atI ixN
  unfold pl at h
  by_cases e : i = -1
  · rw [if_pos e] at h
    rw [if_neg (by omega), if_pos (by omega)]
    have z : (i + (xs.length : Int)).toNat = m := by omega
    show xs[(i + (xs.length : Int)).toNat]? = some v
    rw [z]; exact h
  · rw [if_neg e] at h
    rw [if_pos (by omega), if_pos (by omega)]
    exact h
theorem scal_o (o : Option Int) : ∀ i : Int, oV o = .int i → o = some i := by cases o <;> intro i h <;> cases h; rfl
def oB : Option Bool → V
  | none => .non
  | some b => .bl b
theorem nonO (o : Option Int) : decide (oV o = V.non) = o.isNone := by
  cases o with
  | none => rfl
  | some i => exact decide_eq_false (fun z => by cases z)
theorem dpall_app' {K : PySem.W.Frag} {H : Hp} : ∀ {xs ys : List V} {ds es : List PyData}, DpAll K H xs ds → DpAll K H ys es → DpAll K H (xs ++ ys) (ds ++ es)
  | [], _, _, _, .nil, b => b
  | _ :: _, _, _, _, .cons a r, b => .cons a (dpall_app' r b)
section
variable {P : Program} {w : World} {K : PySem.W.Frag} {mg : Str → Option Value} {base : Heap}
abbrev s_open_bounds : Stmt := topS 2
theorem sc_open_bounds : FnScope ["many", "i", "j"] ["many"] (defScope s_open_bounds) := ⟨rfl, rfl, rfl, by decide +kernel, rfl, by decide +kernel, by decide +kernel⟩
def spOpen (K : PySem.W.Frag) : Sp := fun vs H Q _ => ∃ m : Nat, vs = [.int m] ∧ m ≤ 100 ∧ ∀ (v : V) (H' : Hp), Same H H' → Fd K H' v (cloPD openF m) → Q v H'
theorem ok_open_bounds (B : Bt mg) (D : DefAt K mg "open_bounds" s_open_bounds ["many"]) : Cal P w K mg base 1 "open_bounds" ["many"] (spOpen K) := by
  refine cal_of D sc_open_bounds (fun vs H Q E h => ?_) (fun f cdv A outer s H vs Q E hr h => ?_)
  · obtain ⟨m, rfl, _⟩ := h
    rfl
  obtain ⟨m, rfl, hm, q⟩ := h
  refine ⟨_, (pss_one (ps_ret (pe_callTy call_tuple_of (by rfl) B.tuple PyProof.Rows.boot_tuple (pa_cons (pe_lc (own := [("i", 1)]) (g := gName 1) rfl sc_open_bounds.nd (pi_range1 (by rfl) B.range (pa_cons (pe_op op_add (pv 0) pe_int) pa_nil)) (blkOk_by (own := [("i", 1)]) (N := ["many", "i", "j"]) (sc := defScope s_open_bounds) (by decide +kernel)) (fun _ _ _ _ _ => (pg_name (i := 1) sc_open_bounds.nd rfl (.inr rfl))) (fun _ _ _ _ _ => pts_nil) (fun _ _ _ _ _ => (pe_callTy (call_tuple_ofK (K := K) rfl) (by rfl) B.tuple PyProof.Rows.boot_tuple (pa_cons (pe_lc (own := [("j", 2)]) (g := gName 2) rfl sc_open_bounds.nd (pi_range1 (by rfl) B.range (pa_cons (pe_op op_add (pv 0) pe_int) pa_nil)) (blkOk_by (own := [("j", 2)]) (N := ["many", "i", "j"]) (by rfl)) (fun _ _ _ _ _ => (pg_name (i := 2) sc_open_bounds.nd rfl (.inl rfl))) (fun _ _ _ _ _ => pts_nil) (fun _ _ _ _ _ => (pe_ifExp (pt_cmpR op_eq (pv 1) (pv 2) (nomark _)) pe_int pe_non))) pa_nil)))) pa_nil)))), ?_⟩
  have n1 : ((m : Int) + 1).toNat = m + 1 := by omega
  refine ⟨_, rfl, _, _, rfl, rfl, (m : Int) + 1, rfl, by omega, by omega, fun D hD => lc_range (lo := 0) (n := ((m : Int) + 1).toNat) (fun i H' => Same H H' ∧ ∃ us, H' D = some (.lst us) ∧ us.length = i ∧ DpAll K H' us ((List.range i).map fun a => rowPD openF m a)) ?_ ?_ ?_⟩
  · exact ⟨same_new hD, [], upd_same, rfl, .nil⟩
  · rintro i H' hi ⟨s', us, hD', ul, hus⟩
    refine ⟨rfl, _, rfl, _, _, rfl, rfl, (m : Int) + 1, rfl, by omega, by omega, fun D2 hD2 => lc_range (lo := 0) (n := ((m : Int) + 1).toNat) (fun j H2 => Same H' H2 ∧ H2 D2 = some (.lst ((List.range j).map fun b => oV (openF i b)))) ?_ ?_ ?_⟩
    · exact ⟨same_new hD2, by rw [upd_same]; rfl⟩
    · rintro j H2 hj ⟨s2, hD2'⟩
      have fin : ∀ o : Option Int, openF i j = o → ∃ acc, H2 D2 = some (.lst acc) ∧ acc.length < sizeLine ∧ (Same H' (upd H2 D2 (.lst (acc ++ [oV o]))) ∧ (upd H2 D2 (.lst (acc ++ [oV o]))) D2 = some (.lst ((List.range (j + 1)).map fun b => oV (openF i b)))) := fun o ho => by
        refine ⟨_, hD2', by rw [List.length_map, List.length_range]; exact smallL (by omega), fun b u z => ?_, ?_⟩
        · rw [upd_ne (ne_of_none z hD2)]
          exact s2 _ _ z
        · rw [upd_same, List.range_succ, List.map_append, ← ho]
          rfl
      refine ⟨rfl, _, rfl, _, rfl, rfl, _, rfl, ite2 (fun c => ?_) (fun c => ?_)⟩
      · have e : i = j := by
          have z := V.int.inj (of_decide_eq_true c)
          omega
        exact fin (some 0) (if_pos e)
      · exact fin none (if_neg fun e => c (decide_eq_true (by rw [e])))
    · rintro H3 ⟨s3, hD3⟩
      rw [n1] at hD3
      refine ⟨D2, _, rfl, .inl ⟨SqL.of hD3, fun t ht => ?_⟩⟩
      have s4 : Same H' (upd H3 t (.tup ((List.range (m + 1)).map fun b => oV (openF i b)))) := s3.trans (same_new ht)
      have e4 : (upd H3 t (.tup ((List.range (m + 1)).map fun b => oV (openF i b)))) t = some (.tup (rowV openF m i)) := upd_same
      generalize upd H3 t (.tup ((List.range (m + 1)).map fun b => oV (openF i b))) = H4 at s4 e4
      have hD4 := s4 _ _ hD'
      have t5 : Tp K H4 (upd H4 D (.lst (us ++ [.ref t]))) := Tp.lst hD4
      refine ⟨us, hD4, smallL (by omega), fun b u z => ?_, us ++ [.ref t], upd_same, by rw [List.length_append, ul]; rfl, ?_⟩
      · rw [upd_ne (ne_of_none z hD)]
        exact s4 _ _ (s' _ _ z)
      · rw [List.range_succ, List.map_append]
        exact dpall_app' (dps_keep ((Tp.same s4).trans t5) _ _ (flats_map _ (fun a => rowPD_flat openF m a) _) hus) (.cons (row_mk (t5 _ _ (.inl (.inl e4)))) .nil)
  · rintro H1 ⟨s1, us, hD1, ul, hus⟩
    rw [n1] at hus
    refine ⟨D, us, rfl, .inl ⟨SqL.of hD1, fun t ht => q _ _ (s1.trans (same_new ht)) ⟨cloPD_flat _ _, .tup (.inl (.inl upd_same)) (dps_keep (Tp.new ht) _ _ (flats_map _ (fun a => rowPD_flat openF m a) _) hus)⟩⟩⟩
abbrev s_known : Stmt := topS 4
theorem sc_known : FnScope ["closed", "i", "j", "c", "there", "back"] ["closed", "i", "j", "c"] (defScope s_known) := ⟨rfl, rfl, rfl, by decide +kernel, rfl, by decide +kernel, by decide +kernel⟩
def spKnown (K : PySem.W.Frag) : Sp := fun vs H Q _ => ∃ (v : V) (D : Mat) (m : Nat) (i j c : Int), vs = [v, .int i, .int j, .int c] ∧ Fd K H v (cloPD D m) ∧ -1 ≤ i ∧ i < m ∧ -1 ≤ j ∧ j < m ∧ Q (oB (knownF D (pl m i) (pl m j) c)) H
theorem ok_known (B : Bt mg) (D : DefAt K mg "known" s_known ["closed", "i", "j", "c"]) : Cal P w K mg base 1 "known" ["closed", "i", "j", "c"] (spKnown K) := by
  refine cal_of D sc_known (fun vs H Q E h => ?_) (fun f cdv A outer s H vs Q E hr h => ?_)
  · obtain ⟨v, D, m, i, j, c, rfl, _⟩ := h
    rfl
  obtain ⟨v, D, m, i, j, c, rfl, hv, i1, i2, j1, j2, q⟩ := h
  refine ⟨_, (pss_cons (ps_par (i := 4) (j := 5) rfl sc_known.nd rfl rfl (by decide) rfl rfl (pa_cons (pe_ix ix_tup (pe_ix ix_tup (pv 0) (pv 1) (fun _ _ => rfl)) (pv 2) (fun _ _ => rfl)) (pa_cons (pe_ix ix_tup (pe_ix ix_tup (pv 0) (pv 2) (fun _ _ => rfl)) (pv 1) (fun _ _ => rfl)) pa_nil)) rfl)
      (pss_cons (ps_if (PW.pt (pw_and (pt_cmpR op_notN (pv 4) pe_non (nomark _)) (pw_and1 (pt_cmpR op_le (pv 4) (pv 3) (nomark _)))))
        (pss_one (ps_ret pe_bl))
        pss_nil)
      (pss_cons (ps_if (PW.pt (pw_and (pt_cmpR op_notN (pv 5) pe_non (nomark _)) (pw_and1 (pt_cmpR op_lt (pe_op op_add (pv 5) (pv 3)) pe_int (nomark _)))))
        (pss_one (ps_ret pe_bl))
        pss_nil)
      (pss_one (ps_ret pe_non))))), ?_⟩
  obtain ⟨t, rs, rfl, ht, hl, hrow⟩ := clo_open_at hv
  obtain ⟨r1, e1, h1⟩ := hrow (pl m i) (pl_le i1 i2)
  obtain ⟨r2, e2, h2⟩ := hrow (pl m j) (pl_le j1 j2)
  refine ⟨_, rfl, _, rfl, t, rs, i, _, rfl, rfl, ht, at_pl hl i1 i2 e1, _, rfl, r1, _, j, _, rfl, rfl, h1, at_pl (rowV_len D m _) j1 j2 (rowV_at D m _ (pl_le j1 j2)), ?_⟩
  refine ⟨_, rfl, _, rfl, t, rs, j, _, rfl, rfl, ht, at_pl hl j1 j2 e2, _, rfl, r2, _, i, _, rfl, rfl, h2, at_pl (rowV_len D m _) i1 i2 (rowV_at D m _ (pl_le i1 i2)), ?_⟩
  refine ⟨_, _, rfl, ?_⟩
  unfold knownF at q
  generalize D (pl m i) (pl m j) = o1 at q
  generalize D (pl m j) (pl m i) = o2 at q
  have c1 : ∀ t, o1 = some t → (t ≤ c → Q (.bl true) H) := fun t e l => by
    rw [e] at q
    rw [if_pos (show leB (some t) c = true from decide_eq_true l)] at q
    exact q
  have c2 : ¬ leB o1 c = true → Q (oB (if ltB o2 c = true then some false else none)) H := fun n => by
    rw [if_neg n] at q
    exact q
  have c3 : ∀ t, o2 = some t → ¬ leB o1 c = true → (t + c < 0 → Q (.bl false) H) ∧ (¬ t + c < 0 → Q .non H) := fun t e n => by
    have q' := c2 n
    rw [e] at q'
    refine ⟨fun l => ?_, fun l => ?_⟩
    · rw [if_pos (show ltB (some t) c = true from decide_eq_true l)] at q'
      exact q'
    · rw [if_neg (show ¬ ltB (some t) c = true from fun z => l (of_decide_eq_true z))] at q'
      exact q'
  have c4 : o2 = none → ¬ leB o1 c = true → Q .non H := fun e n => by
    have q' := c2 n
    rw [e] at q'
    exact q'
  cases o1 with
  | none =>
    refine ⟨_, rfl, rfl, _, rfl, iteF ?_⟩
    have n : ¬ leB none c = true := Bool.false_ne_true
    cases o2 with
    | none => exact ⟨_, rfl, rfl, _, rfl, iteF (c4 rfl n)⟩
    | some b =>
      refine ⟨_, rfl, rfl, _, rfl, iteT ⟨_, rfl, _, rfl, _, _, rfl, rfl, _, _, rfl, rfl, _, rfl, ite2 (fun z => ?_) (fun z => ?_)⟩⟩
      · exact (c3 b rfl n).1 (of_decide_eq_true z)
      · exact (c3 b rfl n).2 fun l => z (decide_eq_true l)
  | some t =>
    refine ⟨_, rfl, rfl, _, rfl, iteT ⟨_, rfl, _, rfl, _, _, rfl, rfl, _, rfl, ite2 (fun z => ?_) (fun z => ?_)⟩⟩
    · exact c1 t rfl (of_decide_eq_true z)
    have n : ¬ leB (some t) c = true := fun y => z y
    cases o2 with
    | none => exact ⟨_, rfl, rfl, _, rfl, iteF (c4 rfl n)⟩
    | some b =>
      refine ⟨_, rfl, rfl, _, rfl, iteT ⟨_, rfl, _, rfl, _, _, rfl, rfl, _, _, rfl, rfl, _, rfl, ite2 (fun z => ?_) (fun z => ?_)⟩⟩
      · exact (c3 b rfl n).1 (of_decide_eq_true z)
      · exact (c3 b rfl n).2 fun l => z (decide_eq_true l)
abbrev s_lesser : Stmt := topS 6
theorem sc_lesser : FnScope ["old", "way", "more"] ["old", "way", "more"] (defScope s_lesser) := ⟨rfl, rfl, rfl, by decide +kernel, rfl, by decide +kernel, by decide +kernel⟩
def spLess : Sp := fun vs H Q _ => ∃ (o p : Option Int) (w : Int), vs = [oV o, .int w, oV p] ∧ Q (oV (lesserF o w p)) H
theorem ok_lesser (D : DefAt K mg "lesser" s_lesser ["old", "way", "more"]) : Cal P w K mg base 1 "lesser" ["old", "way", "more"] (spLess) := by
  refine cal_of D sc_lesser (fun vs H Q E h => ?_) (fun f cdv A outer s H vs Q E hr h => ?_)
  · obtain ⟨o, p, w, rfl, _⟩ := h
    rfl
  obtain ⟨o, p, w, rfl, q⟩ := h
  refine ⟨_, (pss_cons (ps_if (PW.pt (pw_or (pt_cmpR op_isN (pv 2) pe_non (nomark _)) (pw_or1 (PW.pt (pw_and (pt_cmpR op_notN (pv 0) pe_non (nomark _)) (pw_and1 (pt_cmpR op_le (pv 0) (pe_op op_add (pv 1) (pv 2)) (nomark _))))))))
        (pss_one (ps_ret (pv 0)))
        pss_nil)
      (pss_one (ps_ret (pe_op op_add (pv 1) (pv 2))))), ?_⟩
  cases p with
  | none => exact ⟨_, rfl, rfl, _, rfl, iteT ⟨_, rfl, q⟩⟩
  | some y =>
    cases o with
    | none => exact ⟨_, rfl, rfl, _, rfl, iteF ⟨_, rfl, rfl, _, rfl, iteF ⟨_, rfl, _, rfl, _, _, rfl, rfl, q⟩⟩⟩
    | some x =>
      have q' : Q (oV (if x ≤ w + y then some x else some (w + y))) H := q
      refine ⟨_, rfl, rfl, _, rfl, iteF ⟨_, rfl, rfl, _, rfl, iteT ⟨_, rfl, _, rfl, _, rfl, _, _, rfl, rfl, _, _, rfl, rfl, _, rfl, ite2 (fun z => ?_) (fun z => ?_)⟩⟩⟩
      · rw [if_pos (of_decide_eq_true z)] at q'
        exact ⟨_, rfl, q'⟩
      · rw [if_neg fun l => z (decide_eq_true l)] at q'
        exact ⟨_, rfl, _, rfl, _, _, rfl, rfl, q'⟩
abbrev s_row_through : Stmt := topS 5
theorem sc_row_through : FnScope ["row", "way", "onward", "old", "more"] ["row", "way", "onward"] (defScope s_row_through) := ⟨rfl, rfl, rfl, by decide +kernel, rfl, by decide +kernel, by decide +kernel⟩
def spThrough (K : PySem.W.Frag) : Sp := fun vs H Q _ => ∃ (r1 r2 : Addr) (f g : Nat → Option Int) (m : Nat) (w : Int), vs = [.ref r1, .int w, .ref r2] ∧ m ≤ 100 ∧ SqT K H r1 ((List.range (m + 1)).map fun b => oV (f b)) ∧ SqT K H r2 ((List.range (m + 1)).map fun b => oV (g b)) ∧
  ∀ (t : Addr) (H' : Hp), Same H H' → H' t = some (.tup ((List.range (m + 1)).map fun b => oV (lesserF (f b) w (g b)))) → Q (.ref t) H'
theorem range_atV {n k : Nat} {f : Nat → V} {x : V} (h : ((List.range n).map f)[k]? = some x) : k < n ∧ x = f k := by
  have l := (List.getElem?_eq_some_iff.mp h).1
  rw [List.length_map, List.length_range] at l
  rw [List.getElem?_map, List.getElem?_range l] at h
  exact ⟨l, (Option.some.inj h).symm⟩
theorem ok_row_through (B : Bt mg) (C_lesser : Cal P w K mg base 1 "lesser" ["old", "way", "more"] (spLess)) (D : DefAt K mg "row_through" s_row_through ["row", "way", "onward"]) : Cal P w K mg base 2 "row_through" ["row", "way", "onward"] (spThrough K) := by
  refine cal_of D sc_row_through (fun vs H Q E h => ?_) (fun f cdv A outer s H vs Q E hr h => ?_)
  · obtain ⟨r1, r2, f, g, m, w, rfl, _⟩ := h
    rfl
  obtain ⟨r1, r2, f, g, m, w, rfl, hm, h1, h2, q⟩ := h
  have hr' : Room 1 _ := hr
  refine ⟨_, (pss_one (ps_ret (pe_callTy call_tuple_of (by rfl) B.tuple PyProof.Rows.boot_tuple (pa_cons (pe_lc (own := [("old", 3), ("more", 4)]) (g := gTup K 2 (gCons (gName 3) (gCons (gName 4) gNil))) rfl sc_row_through.nd (pi_zipA (by rfl) B.zip (pa_cons (pv 0) (pa_cons (pv 2) pa_nil))) (blkOk_by (own := [("old", 3), ("more", 4)]) (N := ["row", "way", "onward", "old", "more"]) (sc := defScope s_row_through) (by decide +kernel)) (fun _ _ _ _ _ => (pg_tupK (K := K) rfl rfl (pgs_cons (pg_name (i := 3) sc_row_through.nd rfl (.inl rfl)) (pgs_cons (pg_name (i := 4) sc_row_through.nd rfl (.inl rfl)) pgs_nil)))) (fun _ _ _ _ _ => pts_nil) (fun _ _ _ _ _ => (pe_cal C_lesser hr' (by rfl) (pa_cons (pv 3) (pa_cons (pv 1) (pa_cons (pv 4) pa_nil)))))) pa_nil)))), ?_⟩
  refine ⟨_, rfl, _, rfl, r1, r2, _, _, rfl, .inr ⟨h1, h2, fun D hD => lc_it (walk_zipT (K := K) (a := r1) (b := r2) (xs := (List.range (m + 1)).map fun b => oV (f b)) (ys := (List.range (m + 1)).map fun b => oV (g b)) (n := m + 1) (by simp)) (fun j H' => Same H H' ∧ H' D = some (.lst ((List.range j).map fun b => oV (lesserF (f b) w (g b))))) ?_ ?_ ?_ ?_⟩⟩
  · exact ⟨same_new hD, upd_same⟩
  · rintro j H' _ ⟨s', _⟩
    exact ⟨Tp.same s' _ _ h1, Tp.same s' _ _ h2⟩
  · rintro j x H1 H2 hj ⟨s', hD'⟩ ⟨T, p, y, rfl, hT, rfl, hp, hy⟩
    have sm2 : Same H1 (upd H1 T (.tup [p, y])) := same_new hT
    refine ⟨T, _, rfl, .inl (.inl upd_same), rfl, _, _, rfl, _, _, rfl, rfl, ?_⟩
    obtain ⟨_, rfl⟩ := range_atV hp
    obtain ⟨_, rfl⟩ := range_atV hy
    refine ⟨rfl, _, rfl, _, rfl, _, rfl, f j, g j, w, rfl, _, sm2 _ _ hD', by rw [List.length_map, List.length_range]; exact smallL (by omega), fun b o z => ?_, ?_⟩
    · rw [upd_ne (ne_of_none z hD)]
      exact sm2 _ _ (s' _ _ z)
    · rw [upd_same, List.range_succ, List.map_append]
      rfl
  · rintro H1 ⟨s1, hD1⟩
    refine ⟨D, _, rfl, .inl ⟨SqL.of hD1, fun t ht => q t _ (s1.trans (same_new ht)) upd_same⟩⟩
abbrev s_tightened : Stmt := topS 3
theorem sc_tightened : FnScope ["closed", "i", "j", "c", "answer", "tight", "row"] ["closed", "i", "j", "c"] (defScope s_tightened) := ⟨rfl, rfl, rfl, by decide +kernel, rfl, by decide +kernel, by decide +kernel⟩
def oClo (m : Nat) : Option Mat → PyData
  | none => .none
  | some D => cloPD D m
theorem oClo_flat (m : Nat) (o : Option Mat) : flat (oClo m o) = true := by
  cases o
  · rfl
  · exact cloPD_flat _ _
def spTight (K : PySem.W.Frag) : Sp := fun vs H Q _ => ∃ (v : V) (D : Mat) (m : Nat) (i j c : Int), vs = [v, .int i, .int j, .int c] ∧ m ≤ 100 ∧ Fd K H v (cloPD D m) ∧ -1 ≤ i ∧ i < m ∧ -1 ≤ j ∧ j < m ∧ ∀ (u : V) (H' : Hp), Same H H' → Fd K H' u (oClo m (tightF D (pl m i) (pl m j) c)) → Q u H'
theorem ok_tightened (B : Bt mg) (C_known : Cal P w K mg base 1 "known" ["closed", "i", "j", "c"] (spKnown K)) (C_row_through : Cal P w K mg base 2 "row_through" ["row", "way", "onward"] (spThrough K)) (D : DefAt K mg "tightened" s_tightened ["closed", "i", "j", "c"]) : Cal P w K mg base 3 "tightened" ["closed", "i", "j", "c"] (spTight K) := by
  refine cal_of D sc_tightened (fun vs H Q E h => ?_) (fun f cdv A outer s H vs Q E hr h => ?_)
  · obtain ⟨v, D, m, i, j, c, rfl, _⟩ := h
    rfl
  obtain ⟨v, D, m, i, j, c, rfl, hm, hv, i1, i2, j1, j2, q⟩ := h
  have hr' : Room 2 _ := hr
  have C_known := C_known.mono (k := 2) (by decide)
  refine ⟨_, (pss_cons (ps_set (i := 4) sc_tightened.nd rfl (.inl rfl) (pe_cal C_known hr' (by rfl) (pa_cons (pv 0) (pa_cons (pv 1) (pa_cons (pv 2) (pa_cons (pv 3) pa_nil))))))
      (pss_cons (ps_if (pt_cmpR op_notN (pv 4) pe_non (nomark _))
        (pss_one (ps_ret (pe_ifExp (pt_val (pv 4)) (pv 0) pe_non)))
        pss_nil)
      (pss_cons (ps_set (i := 5) sc_tightened.nd rfl (.inl rfl) (pe_lst pa_nil))
      (pss_cons (ps_for PassesOwn.never rfl (pi_tup (pv 0)) (pg_name (i := 6) sc_tightened.nd rfl (.inl rfl))
        (pss_one (ps_if (pt_cmpR op_isN (pe_ix ix_tup (pv 6) (pv 1) (fun _ _ => rfl)) pe_non (nomark _))
        (pss_one (ps_expr (pe_bm PySem.F.plainAttrs_list PySem.F.slot_list_append PySem.F.type_list_append mt_append (pv 5) (pa_cons (pv 6) pa_nil))))
        (pss_one (ps_expr (pe_bm PySem.F.plainAttrs_list PySem.F.slot_list_append PySem.F.type_list_append mt_append (pv 5) (pa_cons (pe_cal C_row_through hr' (by rfl) (pa_cons (pv 6) (pa_cons (pe_op op_add (pe_ix ix_tup (pv 6) (pv 1) (fun _ _ => rfl)) (pv 3)) (pa_cons (pe_ix ix_tup (pv 0) (pv 2) (fun _ _ => rfl)) pa_nil)))) pa_nil)))))))
      (pss_one (ps_ret (pe_callTy call_tuple_of (by rfl) B.tuple PyProof.Rows.boot_tuple (pa_cons (pv 5) pa_nil)))))))), ?_⟩
  obtain ⟨t, rs, rfl, ht, hl, hrow⟩ := clo_open_at hv
  refine ⟨_, rfl, _, rfl, _, rfl, _, rfl, .ref t, D, m, i, j, c, rfl, hv, i1, i2, j1, j2, ?_⟩
  unfold tightF at q
  have hpi := pl_le i1 i2
  have hpj := pl_le j1 j2
  cases hk : knownF D (pl m i) (pl m j) c with
  | some b =>
    rw [hk] at q
    refine ⟨_, rfl, rfl, _, rfl, iteT ⟨_, rfl, b, rfl, ?_⟩⟩
    cases b with
    | true => exact iteT ⟨_, rfl, q _ _ (Same.refl _) hv⟩
    | false => exact iteF (q _ _ (Same.refl _) ⟨rfl, .non⟩)
  | none =>
    rw [hk] at q
    refine ⟨_, rfl, rfl, _, rfl, iteF ⟨(by show 0 ≤ sizeLine; decide), fun L hL => ?_⟩⟩
    have s1 := same_new (o := .lst []) hL
    have e1 : (upd H L (.lst [])) L = some (.lst []) := upd_same
    generalize upd H L (.lst []) = H1 at s1 e1
    refine ⟨_, rfl, t, rfl, ⟨_, Tp.same s1 _ _ ht⟩, for_tup (K := K) (a := t) (xs := rs) (fun a σ' H' => (∃ y6 : Option V, σ' = [some (.ref t), some (.int i), some (.int j), some (.int c), some (oB none), some (.ref L), y6]) ∧ Same H H' ∧ ∃ us, H' L = some (.lst us) ∧ us.length = a ∧ DpAll K H' us ((List.range a).map fun a => rowPD (stepF D (pl m i) (pl m j) c) m a)) ?_ ?_ ?_ ?_⟩
    · exact ⟨⟨_, rfl⟩, s1, [], e1, rfl, .nil⟩
    · rintro a σ' H' _ ⟨_, s', _⟩
      exact Tp.same s' _ _ ht
    · rintro a x σ' H' hx ⟨⟨y6, rfl⟩, s', us, hL', ul, hus⟩
      have al : a < m + 1 := by rw [← hl]; exact (List.getElem?_eq_some_iff.mp hx).1
      obtain ⟨r, er, hr1⟩ := hrow a (by omega)
      rw [hx] at er
      cases er
      have hr2 := Tp.same s' _ _ hr1
      have hat : atI (rowV D m a) i = some (oV (D a (pl m i))) := at_pl (rowV_len D m a) i1 i2 (rowV_at D m a hpi)
      have fin : ∀ (H2 : Hp) (r' : Addr), Same H' H2 → SqT K H2 r' (rowV (stepF D (pl m i) (pl m j) c) m a) → Same H (upd H2 L (.lst (us ++ [.ref r']))) ∧ ∃ us2, (upd H2 L (.lst (us ++ [.ref r']))) L = some (.lst us2) ∧ us2.length = a + 1 ∧ DpAll K (upd H2 L (.lst (us ++ [.ref r']))) us2 ((List.range (a + 1)).map fun a => rowPD (stepF D (pl m i) (pl m j) c) m a) := fun H2 r' s2 hq => by
        have hL2 := s2 _ _ hL'
        have t2 : Tp K H2 (upd H2 L (.lst (us ++ [.ref r']))) := Tp.lst hL2
        refine ⟨fun b o z => ?_, us ++ [.ref r'], upd_same, by rw [List.length_append, ul]; rfl, ?_⟩
        · rw [upd_ne (ne_of_none z hL)]
          exact s2 _ _ (s' _ _ z)
        · rw [List.range_succ, List.map_append]
          exact dpall_app' (dps_keep ((Tp.same s2).trans t2) _ _ (flats_map _ (fun a => rowPD_flat _ m a) _) hus) (.cons (row_mk (t2 _ _ hq)) .nil)
      cases e : D a (pl m i) with
      | none =>
        rw [e] at hat
        refine ⟨_, rfl, _, rfl, r, _, i, _, rfl, rfl, hr2, hat, rfl, _, rfl, iteT ?_⟩
        have ev : rowV (stepF D (pl m i) (pl m j) c) m a = rowV D m a := by
          unfold rowV
          congr 1
          funext b
          unfold stepF
          rw [e]
        refine ⟨_, rfl, .inl ⟨rfl, _, SqL.of hL'⟩, _, rfl, L, us, _, rfl, rfl, hL', smallL (by omega), ?_⟩
        exact ⟨⟨_, rfl⟩, fin H' r (Same.refl _) (by rw [ev]; exact hr2)⟩
      | some w =>
        rw [e] at hat
        obtain ⟨rj, ej, hrj⟩ := hrow (pl m j) hpj
        have ev : rowV (stepF D (pl m i) (pl m j) c) m a = (List.range (m + 1)).map fun b => oV (lesserF (D a b) (w + c) (D (pl m j) b)) := by
          unfold rowV
          congr 1
          funext b
          unfold stepF
          rw [e]
        refine ⟨_, rfl, _, rfl, r, _, i, _, rfl, rfl, hr2, hat, rfl, _, rfl, iteF ?_⟩
        refine ⟨_, rfl, .inl ⟨rfl, _, SqL.of hL'⟩, _, rfl, _, rfl, _, rfl, r, _, i, _, rfl, rfl, hr2, hat, _, rfl, _, _, rfl, rfl, _, rfl, _, rfl, t, rs, j, _, rfl, rfl, Tp.same s' _ _ ht, at_pl hl j1 j2 ej, ?_⟩
        refine ⟨r, rj, D a, D (pl m j), m, w + c, rfl, hm, hr2, Tp.same s' _ _ hrj, fun t2 H2 s2 ht2 => ?_⟩
        refine ⟨L, us, _, rfl, rfl, s2 _ _ hL', smallL (by omega), ?_⟩
        exact ⟨⟨_, rfl⟩, fin H2 t2 s2 (by rw [ev]; exact .inl (.inl ht2))⟩
    · rintro σ' H' ⟨⟨y6, rfl⟩, s', us, hL', ul, hus⟩
      rw [hl] at hus
      refine ⟨_, rfl, L, us, rfl, .inl ⟨SqL.of hL', fun t2 ht2 => q _ _ (s'.trans (same_new ht2)) ⟨cloPD_flat _ _, .tup (.inl (.inl upd_same)) (dps_keep (Tp.new ht2) _ _ (flats_map _ (fun a => rowPD_flat _ m a) _) hus)⟩⟩⟩
abbrev s_closed_by : Stmt := topS 10
theorem sc_closed_by : FnScope ["many", "rows", "closed", "i", "j", "c"] ["many", "rows"] (defScope s_closed_by) := ⟨rfl, rfl, rfl, by decide +kernel, rfl, by decide +kernel, by decide +kernel⟩
abbrev Row := Int × Int × Int
def rowD (r : Row) : PyData := .tuple [.int r.1, .int r.2.1, .int r.2.2]
theorem rowD_flat (r : Row) : flat (rowD r) = true := rfl
def RowOk (m : Nat) (r : Row) : Prop := -1 ≤ r.1 ∧ r.1 < m ∧ -1 ≤ r.2.1 ∧ r.2.1 < m
def edgeR (m : Nat) (r : Row) : Edge := (pl m r.1, pl m r.2.1, r.2.2)
def edges (m : Nat) (rs : List Row) : List Edge := rs.map (edgeR m)
theorem edges_ok {m : Nat} {rs : List Row} (h : ∀ r ∈ rs, RowOk m r) : ∀ e ∈ edges m rs, e.1 ≤ m ∧ e.2.1 ≤ m := fun e he => by
  obtain ⟨r, hr, rfl⟩ := List.mem_map.mp he
  obtain ⟨a, b, c, d⟩ := h r hr
  exact ⟨pl_le a b, pl_le c d⟩
theorem edges_drop (m : Nat) (rs : List Row) (a : Nat) (h : a < rs.length) : (edges m rs).drop a = edgeR m rs[a] :: (edges m rs).drop (a + 1) := by
  unfold edges
  rw [← List.map_drop, ← List.map_drop, List.drop_eq_getElem_cons h]
  rfl
theorem row_read {K : PySem.W.Frag} {H : Hp} {v : V} {r : Row} (h : Dp K H v (rowD r)) : ∃ t, v = .ref t ∧ SqT K H t [.int r.1, .int r.2.1, .int r.2.2] := by
  cases h with
  | tup q s =>
    cases s with
    | cons a s => cases s with
      | cons b s => cases s with
        | cons c s => cases s; cases a; cases b; cases c; exact ⟨_, rfl, q⟩
theorem row_dp {K : PySem.W.Frag} {H : Hp} {t : Addr} {r : Row} (h : SqT K H t [.int r.1, .int r.2.1, .int r.2.2]) : Dp K H (.ref t) (rowD r) := .tup h (.cons (.int _) (.cons (.int _) (.cons (.int _) .nil)))
def spClosed (K : PySem.W.Frag) : Sp := fun vs H Q _ => ∃ (m : Nat) (v : V) (rs : List Row), vs = [.int m, v] ∧ m ≤ 100 ∧ Fd K H v (.tuple (rs.map rowD)) ∧ (∀ r ∈ rs, RowOk m r) ∧ ∀ (u : V) (H' : Hp), Same H H' → Fd K H' u (oClo m (closedF (edges m rs) openF)) → Q u H'
theorem ok_closed_by (B : Bt mg) (C_open_bounds : Cal P w K mg base 1 "open_bounds" ["many"] (spOpen K)) (C_tightened : Cal P w K mg base 3 "tightened" ["closed", "i", "j", "c"] (spTight K)) (D : DefAt K mg "closed_by" s_closed_by ["many", "rows"]) : Cal P w K mg base 4 "closed_by" ["many", "rows"] (spClosed K) := by
  refine cal_of D sc_closed_by (fun vs H Q E h => ?_) (fun f cdv A outer s H vs Q E hr h => ?_)
  · obtain ⟨m, v, rs, rfl, _⟩ := h
    rfl
  obtain ⟨m, v, rs, rfl, hm, hv, hrs, q⟩ := h
  have hr' : Room 3 _ := hr
  have C_open_bounds := C_open_bounds.mono (k := 3) (by decide)
  refine ⟨_, (pss_cons (ps_set (i := 2) sc_closed_by.nd rfl (.inl rfl) (pe_cal C_open_bounds hr' (by rfl) (pa_cons (pv 0) pa_nil)))
      (pss_cons (ps_for PassesOwn.never rfl (pi_tup (pv 1)) (pg_tup rfl (pgs_cons (pg_name (i := 3) sc_closed_by.nd rfl (.inl rfl)) (pgs_cons (pg_name (i := 4) sc_closed_by.nd rfl (.inl rfl)) (pgs_cons (pg_name (i := 5) sc_closed_by.nd rfl (.inl rfl)) pgs_nil))))
        (pss_cons (ps_set (i := 2) sc_closed_by.nd rfl (.inl rfl) (pe_cal C_tightened hr' (by rfl) (pa_cons (pv 2) (pa_cons (pv 3) (pa_cons (pv 4) (pa_cons (pv 5) pa_nil))))))
      (pss_one (ps_if (pt_cmpR op_isN (pv 2) pe_non (nomark _))
        (pss_one (ps_ret pe_non))
        pss_nil))))
      (pss_one (ps_ret (pv 2))))), ?_⟩
  obtain ⟨_, hv2⟩ := id hv
  obtain ⟨t, xs, rfl, ht, hxs⟩ : ∃ t xs, v = .ref t ∧ SqT K H t xs ∧ DpAll K H xs (rs.map rowD) := by
    cases hv2 with
    | tup q r => exact ⟨_, _, rfl, q, r⟩
  obtain ⟨xl, xg⟩ := dpall_getM _ hxs
  refine ⟨_, rfl, m, rfl, hm, fun v0 H1 s1 h0 => ?_⟩
  refine ⟨_, rfl, t, rfl, ⟨_, Tp.same s1 _ _ ht⟩, for_tup (K := K) (a := t) (xs := xs) (fun a σ' H' => ∃ (vc : V) (D : Mat) (y3 y4 y5 : Option V), σ' = [some (.int m), some (.ref t), some vc, y3, y4, y5] ∧ Same H H' ∧ Fd K H' vc (cloPD D m) ∧ closedF (edges m rs) openF = closedF ((edges m rs).drop a) D) ?_ ?_ ?_ ?_⟩
  · exact ⟨v0, openF, none, none, none, rfl, s1, h0, rfl⟩
  · rintro a σ' H' _ ⟨_, _, _, _, _, _, s', _⟩
    exact Tp.same s' _ _ ht
  · rintro a x σ' H' hx ⟨vc, D, y3, y4, y5, rfl, s', hc, ec⟩
    have al : a < rs.length := by rw [← xl]; exact (List.getElem?_eq_some_iff.mp hx).1
    obtain ⟨x', hx', dx⟩ := xg a rs[a] (List.getElem?_eq_getElem al)
    rw [hx] at hx'
    cases hx'
    obtain ⟨tr, rfl, htr⟩ := row_read dx
    have hok := hrs rs[a] (List.getElem_mem al)
    have ed := edges_drop m rs a al
    rw [ed] at ec
    generalize rs[a] = r at htr hok ed ec dx
    obtain ⟨ri, rj, rc⟩ := r
    obtain ⟨o1, o2, o3, o4⟩ := hok
    refine ⟨tr, _, rfl, Tp.same s' _ _ htr, rfl, _, _, rfl, _, _, rfl, _, _, rfl, rfl, ?_⟩
    refine ⟨_, rfl, _, rfl, _, rfl, _, rfl, vc, D, m, ri, rj, rc, rfl, hm, hc, o1, o2, o3, o4, fun u H2 s2 hu => ?_⟩
    have ec2 : closedF (edges m rs) openF = (match tightF D (pl m ri) (pl m rj) rc with | none => none | some D' => closedF ((edges m rs).drop (a + 1)) D') := ec
    cases et : tightF D (pl m ri) (pl m rj) rc with
    | none =>
      rw [et] at hu ec2
      obtain ⟨_, hu⟩ := hu
      cases hu
      refine ⟨_, rfl, rfl, _, rfl, iteT ?_⟩
      refine q _ _ (s'.trans s2) ?_
      rw [ec2]
      exact ⟨rfl, .non⟩
    | some D2 =>
      rw [et] at hu ec2
      have nu : u ≠ .non := fun z => by
        obtain ⟨_, h2⟩ := hu
        rw [z] at h2
        cases h2
      refine ⟨_, rfl, rfl, _, rfl, ?_⟩
      rw [decide_eq_false nu]
      exact iteF ⟨u, D2, _, _, _, rfl, s'.trans s2, hu, ec2⟩
  · rintro σ' H' ⟨vc, D, y3, y4, y5, rfl, s', hc, ec⟩
    have e : (edges m rs).drop xs.length = [] := List.drop_eq_nil_of_le (by unfold edges; simp [xl])
    rw [e] at ec
    refine ⟨_, rfl, q _ _ s' ?_⟩
    rw [ec]
    exact hc
end
end Lm

set_option Elab.async false
set_option linter.all false
set_option maxRecDepth 100000
set_option maxHeartbeats 2000000
set_option pp.maxSteps 600
set_option pp.deepTerms.threshold 6
namespace Lm
open PySem PySem.Spec PyProof.Rows L2 LmR RZ
/-! ### Bounds -/
def bfl (m : Nat) (vg vc : V) : List (Str × V) := putF "closed" vc (putF "given" vg (putF "many" (.int m) []))
theorem n_gc : ¬ (("given" : Str) = "closed") := by decide +kernel
theorem n_mc : ¬ (("many" : Str) = "closed") := by decide +kernel
theorem n_mg : ¬ (("many" : Str) = "given") := by decide +kernel
theorem bfl_closed (m : Nat) (vg vc : V) : (bfl m vg vc).lookup ("closed" : Str) = some vc := by unfold bfl; rw [lookup_putF, if_pos rfl]
theorem bfl_given (m : Nat) (vg vc : V) : (bfl m vg vc).lookup ("given" : Str) = some vg := by unfold bfl; rw [lookup_putF, if_neg n_gc, lookup_putF, if_pos rfl]
theorem bfl_many (m : Nat) (vg vc : V) : (bfl m vg vc).lookup ("many" : Str) = some (.int m) := by unfold bfl; rw [lookup_putF, if_neg n_mc, lookup_putF, if_neg n_mg, lookup_putF, if_pos rfl]
theorem bfl_no (m : Nat) (vg vc : V) {x : Str} (h1 : ¬ x = "closed") (h2 : ¬ x = "given") (h3 : ¬ x = "many") : (bfl m vg vc).lookup x = none := by
  unfold bfl
  rw [lookup_putF, if_neg h1, lookup_putF, if_neg h2, lookup_putF, if_neg h3]
  rfl
/-- Bounds over m numbers, of the rows rs, stand at x -/
structure BdAt (K : PySem.W.Frag) (C : Addr) (H : Hp) (x : Addr) (m : Nat) (rs : List Row) : Prop where
  ob : ∃ dx vg vc, H x = some (.ins C dx (bfl m vg vc)) ∧ Fd K H vg (.tuple (rs.map rowD)) ∧ Fd K H vc (oClo m (closedF (edges m rs) openF))
  ok : ∀ r ∈ rs, RowOk m r
  hm : m ≤ 100
  hl : rs.length ≤ 100
theorem BdAt.keep {K : PySem.W.Frag} {C : Addr} {H H' : Hp} {x : Addr} {m : Nat} {rs : List Row} (h : BdAt K C H x m rs) (e : ∀ o, H x = some o → H' x = some o) (t : Tp K H H') : BdAt K C H' x m rs := by
  obtain ⟨dx, vg, vc, h1, h2, h3⟩ := h.ob
  exact ⟨⟨dx, vg, vc, e _ h1, h2.keep t, h3.keep t⟩, h.ok, h.hm, h.hl⟩
theorem BdAt.same {K : PySem.W.Frag} {C : Addr} {H H' : Hp} {x : Addr} {m : Nat} {rs : List Row} (h : BdAt K C H x m rs) (s : Same H H') : BdAt K C H' x m rs := h.keep (fun o z => s _ _ z) (Tp.same s)
theorem Tp.ins {K : PySem.W.Frag} {H : Hp} {p : Addr} {C dx : Addr} {fs : List (Str × V)} {o' : HO} (h : H p = some (.ins C dx fs)) : Tp K H (upd H p o') := Tp.put h (fun _ z => nomatch z) (fun _ _ z => nomatch z)
theorem rows_flat (rs : List Row) : flat (.tuple (rs.map rowD)) = true := flats_map _ rowD_flat rs
theorem sql_ins {K : PySem.W.Frag} {H : Hp} {p a : Addr} {C dx : Addr} {fs : List (Str × V)} {o' : HO} {xs : List V} (h : H p = some (.ins C dx fs)) (q : SqL K H a xs) : SqL K (upd H p o') a xs := by
  rcases q with (q | ⟨u, q⟩) | q
  · have n : a ≠ p := fun z => by rw [z, h] at q; cases q
    exact .inl (.inl (by rw [upd_ne n]; exact q))
  · have n : a ≠ p := fun z => by rw [z, h] at q; cases q
    exact .inl (.inr ⟨u, by rw [upd_ne n]; exact q⟩)
  · exact .inr q
theorem putF_len (f : Str) (v : V) : ∀ fs : List (Str × V), (putF f v fs).length ≤ fs.length + 1
  | [] => Nat.le_refl _
  | (g, x) :: r => by
    unfold putF
    split
    · simp
    · have := putF_len f v r
      simp
      omega
/-- the point that is told -/
def PtF (D : Mat) (m : Nat) (ns : List Int) : Prop := ns.length = m ∧ ∃ low : Nat → Int, (∀ a, a ≤ m → IsLow D m a (low a)) ∧ ∀ a, a < m → ns[a]? = some (low a - low m)
theorem low_one {D : Mat} {m a : Nat} {x y : Int} (h : IsLow D m a x) (g : IsLow D m a y) : x = y := by
  obtain ⟨b, hb, eb⟩ := h.2
  obtain ⟨c, hc, ec⟩ := g.2
  have h1 := h.1 c hc y ec
  have h2 := g.1 b hb x eb
  omega
theorem pt_one {D : Mat} {m : Nat} {ns ms : List Int} (h : PtF D m ns) (g : PtF D m ms) : ns = ms := by
  obtain ⟨l1, f, hf, e1⟩ := h
  obtain ⟨l2, g, hg, e2⟩ := g
  refine List.ext_getElem? fun a => ?_
  by_cases ha : a < m
  · rw [e1 a ha, e2 a ha, low_one (hf a (by omega)) (hg a (by omega)), low_one (hf m (Nat.le_refl _)) (hg m (Nat.le_refl _))]
  · rw [List.getElem?_eq_none (by omega), List.getElem?_eq_none (by omega)]
theorem clo_non {K : PySem.W.Frag} {H : Hp} {v : V} {m : Nat} {o : Option Mat} (h : Fd K H v (oClo m o)) : decide (v = .non) = o.isNone := by
  obtain ⟨_, h⟩ := h
  cases o with
  | none => cases h; rfl
  | some D => cases h; exact decide_eq_false (fun z => by cases z)
section
variable {P : Program} {w : World} {K : PySem.W.Frag} {mg : Str → Option Value} {base : Heap} {c_Bounds : Addr}
abbrev s_Bounds___init__ : Stmt := inClass (topS 9) 0
theorem sc_Bounds___init__ : FnScope ["self", "many", "rows", "i", "j", "c"] ["self", "many", "rows"] (defScope s_Bounds___init__) := ⟨rfl, rfl, rfl, by decide +kernel, rfl, by decide +kernel, by decide +kernel⟩
def BF : List Str := ["many", "given", "closed"]
def spInit (K : PySem.W.Frag) (C : Addr) : Sp := fun vs H Q _ => ∃ (x dx a : Addr) (m : Nat) (xs : List V) (rs : List Row), vs = [.ref x, .int m, .ref a] ∧ H x = some (.ins C dx []) ∧ (SqL K H a xs ∨ SqT K H a xs) ∧ DpAll K H xs (rs.map rowD) ∧ (∀ r ∈ rs, RowOk m r) ∧ m ≤ 100 ∧ rs.length ≤ 100 ∧
  ∀ H', (∀ b o, H b = some o → b ≠ x → H' b = some o) → BdAt K C H' x m rs → Q .non H'
theorem ok_Bounds_init {dvs : List V} {n : Nat} (B : Bt mg) (T_Bounds : ClsAt K mg "Bounds" c_Bounds BF) (C_closed_by : Cal P w K mg base 4 "closed_by" ["many", "rows"] (spClosed K)) (D : DefI K mg c_Bounds "Bounds" "Bounds.__init__" s_Bounds___init__ ["self", "many", "rows"] dvs n) : CalI P w K mg base 5 c_Bounds "Bounds" ["self", "many", "rows"] dvs n (spInit K c_Bounds) := by
  refine cali_of D sc_Bounds___init__ (fun vs H Q E h => ?_) (fun f cdv A outer s H vs Q E hr h => ?_)
  · obtain ⟨x, dx, a, m, xs, rs, rfl, _⟩ := h
    rfl
  obtain ⟨x, dx, a, m, xs, rs, rfl, hx, hxs, hd, hrs, hm, hl, q⟩ := h
  have hr' : Room 4 _ := hr
  refine ⟨_, (pss_cons (ps_fld (pv 0) (pv 1) rfl)
      (pss_cons (ps_fld (pv 0) (pe_callTy call_tuple_of (by rfl) B.tuple PyProof.Rows.boot_tuple (pa_cons (pe_lc (own := [("i", 3), ("j", 4), ("c", 5)]) (g := gTup K 3 (gCons (gName 3) (gCons (gName 4) (gCons (gName 5) gNil)))) rfl sc_Bounds___init__.nd (pi_lt (pv 2)) (blkOk_by (own := [("i", 3), ("j", 4), ("c", 5)]) (N := ["self", "many", "rows", "i", "j", "c"]) (sc := defScope s_Bounds___init__) (by decide +kernel)) (fun _ _ _ _ _ => (pg_tupK (K := K) rfl rfl (pgs_cons (pg_name (i := 3) sc_Bounds___init__.nd rfl (.inl rfl)) (pgs_cons (pg_name (i := 4) sc_Bounds___init__.nd rfl (.inl rfl)) (pgs_cons (pg_name (i := 5) sc_Bounds___init__.nd rfl (.inl rfl)) pgs_nil))))) (fun _ _ _ _ _ => pts_nil) (fun _ _ _ _ _ => (pe_tup (pa_cons (pv 3) (pa_cons (pv 4) (pa_cons (pv 5) pa_nil)))))) pa_nil)) rfl)
      (pss_one (ps_fld (pv 0) (pe_cal C_closed_by hr' (by rfl) (pa_cons (pv 1) (pa_cons (pe_fld (pv 0) rfl) pa_nil))) rfl)))), ?_⟩
  have nM := T_Bounds.n "many" (by simp [BF])
  have nG := T_Bounds.n "given" (by simp [BF])
  have nC := T_Bounds.n "closed" (by simp [BF])
  refine ⟨_, rfl, _, rfl, x, c_Bounds, dx, [], rfl, hx, T_Bounds.c, nM, (by show 0 < 1000; decide), ?_⟩
  have x1 : (upd H x (.ins c_Bounds dx (putF "many" (.int m) []))) x = some (.ins c_Bounds dx (putF "many" (.int m) [])) := upd_same
  have k1 : ∀ b o, H b = some o → b ≠ x → (upd H x (.ins c_Bounds dx (putF "many" (.int m) []))) b = some o := fun b o z n => by rw [upd_ne n]; exact z
  have t1 : Tp K H (upd H x (.ins c_Bounds dx (putF "many" (.int m) []))) := Tp.ins hx
  have hxs1 : SqL K (upd H x (.ins c_Bounds dx (putF "many" (.int m) []))) a xs ∨ SqT K (upd H x (.ins c_Bounds dx (putF "many" (.int m) []))) a xs := hxs.imp (fun z => sql_ins hx z) (fun z => t1 _ _ z)
  have hd1 := dps_keep t1 _ _ (rows_flat rs) hd
  generalize upd H x (.ins c_Bounds dx (putF "many" (.int m) [])) = H1 at x1 k1 t1 hxs1 hd1
  obtain ⟨xl, xg⟩ := dpall_getM _ hd1
  have step : ∀ (j : Nat) (y : V) (H' : Hp) (D : Addr), xs[j]? = some y → Same H1 H' → ∃ t r, y = .ref t ∧ rs[j]? = some r ∧ SqT K H' t [.int r.1, .int r.2.1, .int r.2.2] := fun j y H' D hy s' => by
    have jl : j < rs.length := by rw [← xl]; exact (List.getElem?_eq_some_iff.mp hy).1
    obtain ⟨v, hv, dv⟩ := xg j rs[j] (List.getElem?_eq_getElem jl)
    rw [hy] at hv
    cases hv
    obtain ⟨t, rfl, ht⟩ := row_read dv
    exact ⟨t, rs[j], rfl, List.getElem?_eq_getElem jl, Tp.same s' _ _ ht⟩
  have rest : ∀ (H2 : Hp) (t : Addr) (us : List V), Same H1 H2 → H2 t = some (.tup us) → DpAll K H2 us (rs.map rowD) → sFld K (tVar 0) (fun _ _ R => R (.ref t) H2) "given" { nx := fun σ' H' => sFld K (tVar 0) (tCall (spClosed K) [] (fun _ _ _ => False) (tCons (tVar 1) (tCons (tFld K (tVar 0) "given") tNil))) "closed" { nx := fun _ H' => Q .non H', rt := Q } σ' H', rt := Q } [some (.ref x), some (.int m), some (.ref a), none, none, none] H2 := fun H2 t us s2 ht hus => by
    refine ⟨_, rfl, x, c_Bounds, dx, _, rfl, s2 _ _ x1, T_Bounds.c, nG, (by have := putF_len "many" (.int m) []; simp only [List.length_nil] at this; omega), ?_⟩
    have hx2 := s2 _ _ x1
    have fd2 : Fd K H2 (.ref t) (.tuple (rs.map rowD)) := ⟨rows_flat rs, .tup (.inl (.inl ht)) hus⟩
    have t3 : Tp K H2 (upd H2 x (.ins c_Bounds dx (putF "given" (.ref t) (putF "many" (.int m) [])))) := Tp.ins hx2
    have x3 : (upd H2 x (.ins c_Bounds dx (putF "given" (.ref t) (putF "many" (.int m) [])))) x = some (.ins c_Bounds dx (putF "given" (.ref t) (putF "many" (.int m) []))) := upd_same
    have k3 : ∀ b o, H b = some o → b ≠ x → (upd H2 x (.ins c_Bounds dx (putF "given" (.ref t) (putF "many" (.int m) [])))) b = some o := fun b o z n => by rw [upd_ne n]; exact s2 _ _ (k1 b o z n)
    have fd3 := fd2.keep t3
    generalize upd H2 x (.ins c_Bounds dx (putF "given" (.ref t) (putF "many" (.int m) []))) = H3 at x3 k3 fd3
    refine ⟨_, rfl, _, rfl, x, c_Bounds, dx, _, _, rfl, x3, T_Bounds.c, nG, (by rw [lookup_putF, if_pos rfl]), m, .ref t, rs, rfl, hm, fd3, hrs, fun u H4 s4 hu => ?_⟩
    have hx4 := s4 _ _ x3
    refine ⟨_, rfl, x, c_Bounds, dx, _, rfl, hx4, T_Bounds.c, nC, (by have h1 := putF_len "many" (.int m) []; have h2 := putF_len "given" (.ref t) (putF "many" (.int m) []); simp only [List.length_nil] at h1; omega), ?_⟩
    have t5 : Tp K H4 (upd H4 x (.ins c_Bounds dx (putF "closed" u (putF "given" (.ref t) (putF "many" (.int m) []))))) := Tp.ins hx4
    refine q _ (fun b o z n => ?_) ⟨⟨dx, .ref t, u, upd_same, (fd3.keep (Tp.same s4)).keep t5, hu.keep t5⟩, hrs, hm, hl⟩
    rw [upd_ne n]
    exact s4 _ _ (k3 b o z n)
  rcases hxs1 with hs | hs
  · refine ⟨_, rfl, a, rfl, .inl ⟨⟨_, hs⟩, fun D hD => lc_list (K := K) (a := a) (xs := xs) (fun j H' => Same H1 H' ∧ ∃ us, H' D = some (.lst us) ∧ DpAll K H' us ((rs.take j).map rowD)) ?_ ?_ ?_ ?_⟩⟩
    · exact ⟨same_new hD, [], upd_same, .nil⟩
    · rintro j H' _ ⟨s', _⟩
      exact s'.seq hs
    · rintro j y H' hy ⟨s', us, hD', hus⟩
      obtain ⟨t, r, rfl, hr1, ht⟩ := step j y H' D hy s'
      have ul : us.length ≤ 100 := by
        have := (dpall_getM _ hus).1
        rw [List.length_take] at this
        omega
      refine ⟨t, _, rfl, ht, rfl, _, _, rfl, _, _, rfl, _, _, rfl, rfl, rfl, _, rfl, _, rfl, _, rfl, (by show 3 ≤ sizeLine; decide), fun t2 ht2 => ?_⟩
      have s2 := same_new (o := .tup [.int r.1, .int r.2.1, .int r.2.2]) ht2
      have e2 : (upd H' t2 (.tup [.int r.1, .int r.2.1, .int r.2.2])) t2 = some (.tup [.int r.1, .int r.2.1, .int r.2.2]) := upd_same
      generalize upd H' t2 (.tup [.int r.1, .int r.2.1, .int r.2.2]) = H2 at s2 e2
      have hD2 := s2 _ _ hD'
      have t3 : Tp K H2 (upd H2 D (.lst (us ++ [.ref t2]))) := Tp.lst hD2
      refine ⟨us, hD2, smallL (by omega), fun b o z => ?_, us ++ [.ref t2], upd_same, ?_⟩
      · rw [upd_ne (ne_of_none z hD)]
        exact s2 _ _ (s' _ _ z)
      · rw [List.take_add_one, hr1, List.map_append]
        exact dpall_app' (dps_keep ((Tp.same s2).trans t3) _ _ (rows_flat _) hus) (.cons (row_dp (t3 _ _ (.inl (.inl e2)))) .nil)
    · rintro H2 ⟨s2, us, hD2, hus⟩
      rw [xl, List.take_length] at hus
      refine ⟨D, us, rfl, .inl ⟨SqL.of hD2, fun t ht => ?_⟩⟩
      exact rest _ t us (s2.trans (same_new ht)) upd_same (dps_keep (Tp.new ht) _ _ (rows_flat rs) hus)
  · refine ⟨_, rfl, a, rfl, .inr ⟨⟨_, hs⟩, fun D hD => lc_tup (K := K) (a := a) (xs := xs) (fun j H' => Same H1 H' ∧ ∃ us, H' D = some (.lst us) ∧ DpAll K H' us ((rs.take j).map rowD)) ?_ ?_ ?_ ?_⟩⟩
    · exact ⟨same_new hD, [], upd_same, .nil⟩
    · rintro j H' _ ⟨s', _⟩
      exact Tp.same s' _ _ hs
    · rintro j y H' hy ⟨s', us, hD', hus⟩
      obtain ⟨t, r, rfl, hr1, ht⟩ := step j y H' D hy s'
      have ul : us.length ≤ 100 := by
        have := (dpall_getM _ hus).1
        rw [List.length_take] at this
        omega
      refine ⟨t, _, rfl, ht, rfl, _, _, rfl, _, _, rfl, _, _, rfl, rfl, rfl, _, rfl, _, rfl, _, rfl, (by show 3 ≤ sizeLine; decide), fun t2 ht2 => ?_⟩
      have s2 := same_new (o := .tup [.int r.1, .int r.2.1, .int r.2.2]) ht2
      have e2 : (upd H' t2 (.tup [.int r.1, .int r.2.1, .int r.2.2])) t2 = some (.tup [.int r.1, .int r.2.1, .int r.2.2]) := upd_same
      generalize upd H' t2 (.tup [.int r.1, .int r.2.1, .int r.2.2]) = H2 at s2 e2
      have hD2 := s2 _ _ hD'
      have t3 : Tp K H2 (upd H2 D (.lst (us ++ [.ref t2]))) := Tp.lst hD2
      refine ⟨us, hD2, smallL (by omega), fun b o z => ?_, us ++ [.ref t2], upd_same, ?_⟩
      · rw [upd_ne (ne_of_none z hD)]
        exact s2 _ _ (s' _ _ z)
      · rw [List.take_add_one, hr1, List.map_append]
        exact dpall_app' (dps_keep ((Tp.same s2).trans t3) _ _ (rows_flat _) hus) (.cons (row_dp (t3 _ _ (.inl (.inl e2)))) .nil)
    · rintro H2 ⟨s2, us, hD2, hus⟩
      rw [xl, List.take_length] at hus
      refine ⟨D, us, rfl, .inl ⟨SqL.of hD2, fun t ht => ?_⟩⟩
      exact rest _ t us (s2.trans (same_new ht)) upd_same (dps_keep (Tp.new ht) _ _ (rows_flat rs) hus)
abbrev s_Bounds_is_empty : Stmt := inClass (topS 9) 3
theorem sc_Bounds_is_empty : FnScope ["self"] ["self"] (defScope s_Bounds_is_empty) := ⟨rfl, rfl, rfl, by decide +kernel, rfl, by decide +kernel, by decide +kernel⟩
def spEmpty (K : PySem.W.Frag) (C : Addr) : Sp := fun vs H Q _ => ∃ (x : Addr) (m : Nat) (rs : List Row), vs = [.ref x] ∧ BdAt K C H x m rs ∧ Q (.bl (closedF (edges m rs) openF).isNone) H
theorem ok_Bounds_is_empty (T_Bounds : ClsAt K mg "Bounds" c_Bounds BF) (D : DefM K c_Bounds "is_empty" "Bounds.is_empty" s_Bounds_is_empty ["self"]) : CalM P w K mg base 1 c_Bounds "is_empty" ["self"] (spEmpty K c_Bounds) := by
  refine calm_of D sc_Bounds_is_empty (fun vs H Q E h => ?_) (fun f cdv A outer s H vs Q E hr h => ?_)
  · obtain ⟨x, m, rs, rfl, _⟩ := h
    rfl
  obtain ⟨x, m, rs, rfl, hb, q⟩ := h
  have nC := T_Bounds.n "closed" (by simp [BF])
  refine ⟨_, (pss_one (ps_ret (pe_cmpR op_isN (pe_fld (pv 0) rfl) pe_non (nomark _)))), ?_⟩
  obtain ⟨dx, vg, vc, hx, hg, hc⟩ := hb.ob
  refine ⟨_, rfl, x, c_Bounds, dx, _, _, rfl, hx, T_Bounds.c, nC, bfl_closed _ _ _, rfl, ?_⟩
  rw [clo_non hc]
  exact q
abbrev s_point_in : Stmt := topS 7
theorem sc_point_in : FnScope ["closed", "lows", "row", "low", "c"] ["closed"] (defScope s_point_in) := ⟨rfl, rfl, rfl, by decide +kernel, rfl, by decide +kernel, by decide +kernel⟩
def spPin (K : PySem.W.Frag) : Sp := fun vs H Q _ => ∃ (v : V) (D : Mat) (m : Nat), vs = [v] ∧ Fd K H v (cloPD D m) ∧ m ≤ 100 ∧ (∀ a, a ≤ m → D a a = some 0) ∧ ∀ (t : Addr) (ns : List Int) (H' : Hp), Same H H' → H' t = some (.tup (ns.map V.int)) → PtF D m ns → Q (.ref t) H'
theorem ok_point_in (B : Bt mg) (D : DefAt K mg "point_in" s_point_in ["closed"]) : Cal P w K mg base 1 "point_in" ["closed"] (spPin K) := by
  refine cal_of D sc_point_in (fun vs H Q E h => ?_) (fun f cdv A outer s H vs Q E hr h => ?_)
  · obtain ⟨v, D, m, rfl, _⟩ := h
    rfl
  obtain ⟨v, D, m, rfl, hv, hm, hz, q⟩ := h
  refine ⟨_, (pss_cons (ps_set (i := 1) sc_point_in.nd rfl (.inr rfl) (pe_lc (own := [("row", 2)]) (g := gName 2) rfl sc_point_in.nd (pi_tup (pv 0)) (blkOk_by (own := [("row", 2)]) (N := ["closed", "lows", "row", "low", "c"]) (sc := defScope s_point_in) (by decide +kernel)) (fun _ _ _ _ _ => (pg_name (i := 2) sc_point_in.nd rfl (.inl rfl))) (fun _ _ _ _ _ => pts_nil) (fun _ _ _ _ _ => (pe_callB (cr_minQ (K := K) rfl rfl) (by rfl) B.min PyProof.Rows.boot_min (pa_cons (pe_lc (own := [("c", 4)]) (g := gName 4) rfl sc_point_in.nd (pi_tupK (K := K) rfl (pv 2)) (blkOk_by (own := [("c", 4)]) (N := ["closed", "lows", "row", "low", "c"]) (by rfl)) (fun _ _ _ _ _ => (pg_name (i := 4) sc_point_in.nd rfl (.inl rfl))) (fun _ _ _ _ _ => (pts_one (pt_cmpR op_notN (pv 4) pe_non (nomark _)))) (fun _ _ _ _ _ => (pv 4))) pa_nil)))))
      (pss_one (ps_ret (pe_callTy call_tuple_of (by rfl) B.tuple PyProof.Rows.boot_tuple (pa_cons (pe_lc (own := [("low", 3)]) (g := gName 3) rfl sc_point_in.nd (pi_list (pe_slice sl_list (pv 1) po_none (po_some (pe_un un_neg pe_int)))) (blkOk_by (own := [("low", 3)]) (N := ["closed", "lows", "row", "low", "c"]) (sc := defScope s_point_in) (by decide +kernel)) (fun _ _ _ _ _ => (pg_name (i := 3) sc_point_in.nd rfl (.inl rfl))) (fun _ _ _ _ _ => pts_nil) (fun _ _ _ _ _ => (pe_op op_sub (pv 3) (pe_ix (ix_listK (K := K) rfl) (pv 1) (pe_un un_neg pe_int) (fun _ _ => rfl))))) pa_nil))))), ?_⟩
  obtain ⟨t, rs, rfl, ht, hl, hrow⟩ := clo_open_at hv
  refine ⟨_, rfl, t, rfl, ⟨_, ht⟩, fun L hL => lc_tup (K := K) (a := t) (xs := rs) (fun a H' => Same H H' ∧ ∃ ls : List Int, H' L = some (.lst (ls.map V.int)) ∧ ls.length = a ∧ ∀ b, b < a → ∃ l, ls[b]? = some l ∧ IsLow D m b l) ?_ ?_ ?_ ?_⟩
  · exact ⟨same_new hL, [], upd_same, rfl, fun b hb => absurd hb (Nat.not_lt_zero _)⟩
  · rintro a H' _ ⟨s', _⟩
    exact Tp.same s' _ _ ht
  · rintro a x H' hx ⟨s', ls, hL', ll, hls⟩
    have al : a < m + 1 := by rw [← hl]; exact (List.getElem?_eq_some_iff.mp hx).1
    obtain ⟨r, er, hr1⟩ := hrow a (by omega)
    rw [hx] at er
    cases er
    have hr2 := Tp.same s' _ _ hr1
    refine ⟨rfl, _, rfl, r, rfl, ⟨_, hr2⟩, fun D2 hD2 => lc_tup (K := K) (a := r) (xs := rowV D m a) (fun b H2 => Same H' H2 ∧ ∃ ns : List Int, H2 D2 = some (.lst (ns.map V.int)) ∧ ns.length ≤ b ∧ (∀ n ∈ ns, ∃ k, k ≤ m ∧ D a k = some n) ∧ ∀ k, k < b → ∀ n, D a k = some n → n ∈ ns) ?_ ?_ ?_ ?_⟩
    · exact ⟨same_new hD2, [], upd_same, Nat.le_refl _, fun n hn => absurd hn (by simp), fun k hk => absurd hk (Nat.not_lt_zero _)⟩
    · rintro b H2 _ ⟨s2, _⟩
      exact Tp.same s2 _ _ hr2
    · rintro b y H2 hy ⟨s2, ns, hD3, nl, n1, n2⟩
      obtain ⟨bl, rfl⟩ := range_atV hy
      refine ⟨rfl, _, rfl, rfl, _, rfl, ?_⟩
      cases e : D a b with
      | none =>
        refine iteF ⟨s2, ns, hD3, by omega, n1, fun k hk n hn => ?_⟩
        by_cases kb : k = b
        · rw [kb, e] at hn; cases hn
        · exact n2 k (by omega) n hn
      | some d =>
        refine iteT ⟨_, rfl, _, hD3, by rw [List.length_map]; exact smallL (by omega), fun b' o z => ?_, ns ++ [d], by rw [upd_same, List.map_append]; rfl, by rw [List.length_append]; show ns.length + 1 ≤ _; omega, fun n hn => ?_, fun k hk n hn => ?_⟩
        · rw [upd_ne (ne_of_none z hD2)]
          exact s2 _ _ z
        · rcases List.mem_append.mp hn with z | z
          · exact n1 n z
          · rw [List.mem_singleton.mp z]; exact ⟨b, by omega, e⟩
        · by_cases kb : k = b
          · rw [kb, e] at hn; cases hn; exact List.mem_append_right _ (List.mem_singleton.mpr rfl)
          · exact List.mem_append_left _ (n2 k (by omega) n hn)
    · rintro H3 ⟨s3, ns, hD3, nl, n1, n2⟩
      rw [rowV_len] at n2
      have h0 := n2 a (by omega) 0 (hz a (by omega))
      refine ⟨D2, ns, rfl, SqL.of hD3, List.length_pos_of_mem h0, fun l hl1 hl2 => ?_⟩
      have hL3 := s3 _ _ hL'
      refine ⟨_, hL3, by rw [List.length_map]; exact smallL (by omega), fun b o z => ?_, ls ++ [l], by rw [upd_same, List.map_append]; rfl, by rw [List.length_append, ll]; rfl, fun b hb => ?_⟩
      · rw [upd_ne (ne_of_none z hL)]
        exact s3 _ _ (s' _ _ z)
      · by_cases ba : b = a
        · subst ba
          refine ⟨l, by rw [List.getElem?_append_right (by omega), ll, Nat.sub_self]; rfl, fun k hk d hd => hl2 d (n2 k (by omega) d hd), ?_⟩
          obtain ⟨k, hk, ek⟩ := n1 l hl1
          exact ⟨k, hk, ek⟩
        · obtain ⟨l', e', il⟩ := hls b (by omega)
          exact ⟨l', by rw [List.getElem?_append_left (by omega)]; exact e', il⟩
  rintro H1 ⟨s1, ls, hL1, ll, hls⟩
  rw [hl] at ll hls
  obtain ⟨low, hlow⟩ : ∃ low : Nat → Int, ∀ b, b ≤ m → ls[b]? = some (low b) ∧ IsLow D m b (low b) := by
    refine ⟨fun b => (ls[b]?).getD 0, fun b hb => ?_⟩
    obtain ⟨l, e, il⟩ := hls b (by omega)
    show ls[b]? = some ((ls[b]?).getD 0) ∧ IsLow D m b ((ls[b]?).getD 0)
    rw [e]
    exact ⟨rfl, il⟩
  have ecut : cutV (ls.map V.int) none (some (-1)) = (ls.take m).map V.int := by
    unfold cutV HT.sIx
    rw [List.length_map, ll, List.map_take]
    simp
    omega
  refine ⟨_, rfl, 1, rfl, -1, rfl, L, _, rfl, SqL.of hL1, fun p hp => ?_⟩
  rw [ecut]
  have s2 := same_new (o := .lst ((ls.take m).map V.int)) hp
  have e2 : (upd H1 p (.lst ((ls.take m).map V.int))) p = some (.lst ((ls.take m).map V.int)) := upd_same
  generalize upd H1 p (.lst ((ls.take m).map V.int)) = H2 at s2 e2
  have tl : (ls.take m).length = m := by rw [List.length_take, ll]; omega
  refine ⟨p, rfl, ⟨_, SqL.of e2⟩, fun D3 hD3 => lc_list (K := K) (a := p) (xs := (ls.take m).map V.int) (fun j H' => Same H2 H' ∧ H' D3 = some (.lst (((List.range j).map fun b => low b - low m).map V.int))) ?_ ?_ ?_ ?_⟩
  · exact ⟨same_new hD3, upd_same⟩
  · rintro j H' _ ⟨s', _⟩
    exact SqL.of (s' _ _ e2)
  · rintro j y H' hy ⟨s', hD'⟩
    have jm : j < m := by
      have := (List.getElem?_eq_some_iff.mp hy).1
      rw [List.length_map, tl] at this
      exact this
    have ey : y = .int (low j) := by
      rw [List.getElem?_map, List.getElem?_take, if_pos jm, (hlow j (by omega)).1] at hy
      exact (Option.some.inj hy).symm
    subst ey
    have elast : atI (ls.map V.int) (-1) = some (.int (low m)) := at_pl (by rw [List.length_map, ll]) (by decide) (by omega) (by
      show (ls.map V.int)[pl m (-1)]? = _
      rw [show pl m (-1) = m from if_pos rfl, List.getElem?_map, (hlow m (Nat.le_refl _)).1]
      rfl)
    refine ⟨rfl, _, rfl, _, rfl, 1, rfl, L, _, -1, _, rfl, rfl, SqL.of ((s2.trans s') _ _ hL1), elast, _, _, rfl, rfl, _, hD', by rw [List.length_map, List.length_map, List.length_range]; exact smallL (by omega), fun b o z => ?_, ?_⟩
    · rw [upd_ne (ne_of_none z hD3)]
      exact s' _ _ z
    · rw [upd_same, List.range_succ, List.map_append, List.map_append]
      rfl
  · rintro H3 ⟨s3, hD⟩
    rw [List.length_map, tl] at hD
    refine ⟨D3, _, rfl, .inl ⟨SqL.of hD, fun t2 ht2 => q t2 _ _ (s1.trans (s2.trans (s3.trans (same_new ht2)))) upd_same ⟨by simp, low, fun a ha => (hlow a ha).2, fun a ha => ?_⟩⟩⟩
    rw [List.getElem?_map, List.getElem?_range ha]
    rfl
abbrev s_Bounds_point : Stmt := inClass (topS 9) 6
theorem sc_Bounds_point : FnScope ["self"] ["self"] (defScope s_Bounds_point) := ⟨rfl, rfl, rfl, by decide +kernel, rfl, by decide +kernel, by decide +kernel⟩
def ptV (K : PySem.W.Frag) (H : Hp) (m : Nat) : Option Mat → V → Prop
  | none, u => u = .non
  | some D, u => ∃ t ns, u = .ref t ∧ H t = some (.tup (ns.map V.int)) ∧ PtF D m ns
def spPoint (K : PySem.W.Frag) (C : Addr) : Sp := fun vs H Q _ => ∃ (x : Addr) (m : Nat) (rs : List Row), vs = [.ref x] ∧ BdAt K C H x m rs ∧ ∀ (u : V) (H' : Hp), Same H H' → ptV K H' m (closedF (edges m rs) openF) u → Q u H'
theorem ok_Bounds_point (T_Bounds : ClsAt K mg "Bounds" c_Bounds BF) (C_point_in : Cal P w K mg base 1 "point_in" ["closed"] (spPin K)) (D : DefM K c_Bounds "point" "Bounds.point" s_Bounds_point ["self"]) : CalM P w K mg base 2 c_Bounds "point" ["self"] (spPoint K c_Bounds) := by
  refine calm_of D sc_Bounds_point (fun vs H Q E h => ?_) (fun f cdv A outer s H vs Q E hr h => ?_)
  · obtain ⟨x, m, rs, rfl, _⟩ := h
    rfl
  obtain ⟨x, m, rs, rfl, hb, q⟩ := h
  have nC := T_Bounds.n "closed" (by simp [BF])
  have hr' : Room 1 _ := hr
  refine ⟨_, (pss_cons (ps_if (pt_cmpR op_isN (pe_fld (pv 0) rfl) pe_non (nomark _))
        (pss_one (ps_ret pe_non))
        pss_nil)
      (pss_one (ps_ret (pe_cal C_point_in hr' (by rfl) (pa_cons (pe_fld (pv 0) rfl) pa_nil))))), ?_⟩
  obtain ⟨dx, vg, vc, hx, hg, hc⟩ := hb.ob
  refine ⟨_, rfl, x, c_Bounds, dx, _, _, rfl, hx, T_Bounds.c, nC, bfl_closed _ _ _, rfl, _, rfl, ?_⟩
  rw [clo_non hc]
  cases e : closedF (edges m rs) openF with
  | none =>
    rw [e] at q
    exact iteT (q .non H (Same.refl _) rfl)
  | some D =>
    rw [e] at q hc
    have C0 := closed_some (edges_ok hb.ok) e
    refine iteF ⟨_, rfl, x, c_Bounds, dx, _, _, rfl, hx, T_Bounds.c, nC, bfl_closed _ _ _, vc, D, m, rfl, hc, hb.hm, C0.z, fun t ns H' s' ht hp => q _ H' s' ⟨t, ns, rfl, ht, hp⟩⟩
end
end Lm

set_option Elab.async false
set_option linter.all false
set_option maxRecDepth 100000
set_option maxHeartbeats 2000000
set_option pp.maxSteps 600
set_option pp.deepTerms.threshold 6
namespace Lm
open PySem PySem.Spec PyProof.Rows L2 LmR
section
variable {P : Program} {w : World} {K : PySem.W.Frag} {mg : Str → Option Value} {base : Heap}
/-! ### cell, flow, draw -/
abbrev s_l_cell : Stmt := topS 14
theorem sc_l_cell : FnScope ["_law_script", "_law_k", "_law_number"] ["_law_script", "_law_k"] (defScope s_l_cell) := ⟨rfl, rfl, rfl, by decide +kernel, rfl, by decide +kernel, by decide +kernel⟩
def spCell (K : PySem.W.Frag) : Sp := fun vs H Q _ => ∃ (a : Addr) (ns : List Int) (k : Int), vs = [.ref a, .int k] ∧ SqL K H a (ns.map V.int) ∧ 0 ≤ k ∧ ∀ i, Q (.int i) H
theorem ok_l_cell (B : Bt mg) (D : DefAt K mg "_law_cell" s_l_cell ["_law_script", "_law_k"]) : Cal P w K mg base 1 "_law_cell" ["_law_script", "_law_k"] (spCell K) := by
  refine cal_of D sc_l_cell (fun vs H Q E h => ?_) (fun f cdv A outer s H vs Q E hr h => ?_)
  · obtain ⟨a, ns, k, rfl, _⟩ := h
    rfl
  obtain ⟨a, ns, k, rfl, hS, h0, q⟩ := h
  refine ⟨_, (pss_cons (ps_if (pt_cmpR op_lt (pv 1) (pe_callB call_len_seq (by rfl) B.len PySem.boot_len (pa_cons (pv 0) pa_nil)) (nomark _))
        (pss_one (ps_ret (pe_ix ix_list (pv 0) (pv 1) (fun _ _ => rfl))))
        pss_nil)
      (pss_cons (ps_set (i := 2) sc_l_cell.nd rfl (.inl rfl) (pe_op op_add (pe_op op_mul (pv 1) pe_int) pe_int))
      (pss_cons (ps_if (pt_cmpR op_gt (pe_callB call_len_seq (by rfl) B.len PySem.boot_len (pa_cons (pv 0) pa_nil)) pe_int (nomark _))
        (pss_one (ps_set (i := 2) sc_l_cell.nd rfl (.inl rfl) (pe_op op_add (pe_op op_mul (pe_op op_mod (pe_ix ix_list (pv 0) (pe_op op_mod (pe_op op_mul (pv 1) pe_int) (pe_callB call_len_seq (by rfl) B.len PySem.boot_len (pa_cons (pv 0) pa_nil))) (fun _ _ => rfl)) pe_int) pe_int) (pe_op op_mul (pv 1) pe_int))))
        pss_nil)
      (pss_one (ps_ret (pe_op op_mul (pe_op op_mod (pv 2) pe_int) pe_int)))))), ?_⟩
  have hl : (ns.map V.int).length = ns.length := List.length_map _
  refine ⟨_, rfl, _, rfl, a, _, rfl, .inl hS, _, _, rfl, rfl, _, rfl, ite2 (fun c => ?_) (fun c => ?_)⟩
  · have c' : k < (((ns.map V.int).length : Nat) : Int) := of_decide_eq_true c
    rw [hl] at c'
    have e : (ns.map V.int)[k.toNat]? = some (.int ns[k.toNat]) := by
      rw [List.getElem?_map, List.getElem?_eq_getElem (by omega)]
      rfl
    exact ⟨_, rfl, _, rfl, a, _, _, _, rfl, rfl, hS, at_of (j := k.toNat) (by omega) e, q _⟩
  · refine ⟨_, rfl, _, _, rfl, rfl, .inr ⟨by decide, by decide⟩, _, _, rfl, rfl, ?_⟩
    refine ⟨_, rfl, a, _, rfl, .inl hS, _, _, rfl, rfl, _, rfl, ite2 (fun c2 => ?_) (fun c2 => ?_)⟩
    · have c2' : (((ns.map V.int).length : Nat) : Int) > 0 := of_decide_eq_true c2
      rw [hl] at c2'
      have hp : (0 : Int) < (((ns.map V.int).length : Nat) : Int) := by rw [hl]; omega
      have b1 : 0 ≤ (k * 7) % (((ns.map V.int).length : Nat) : Int) := Int.emod_nonneg _ (by omega)
      have b2 : (k * 7) % (((ns.map V.int).length : Nat) : Int) < (((ns.map V.int).length : Nat) : Int) := Int.emod_lt_of_pos _ hp
      generalize hj : (k * 7) % (((ns.map V.int).length : Nat) : Int) = j at b1 b2
      rw [hl] at b2
      have e : (ns.map V.int)[j.toNat]? = some (.int ns[j.toNat]) := by
        rw [List.getElem?_map, List.getElem?_eq_getElem (by omega)]
        rfl
      have m1 : 0 ≤ ns[j.toNat] % 2147483629 := Int.emod_nonneg _ (by decide)
      have m2 : ns[j.toNat] % 2147483629 < 2147483629 := Int.emod_lt_of_pos _ (by decide)
      refine ⟨_, rfl, _, rfl, _, _, rfl, rfl, .inr ⟨by decide, by decide⟩, _, rfl, a, _, rfl, .inl hS, _, _, rfl, rfl, hp, a, _, _, V.int ns[j.toNat], rfl, rfl, hS, ?_, _, _, rfl, rfl, (by show (0 : Int) < 2147483629; decide), _, _, rfl, rfl, .inl ⟨by omega, by omega⟩, _, rfl, _, _, rfl, rfl, .inr ⟨by decide, by decide⟩, _, _, rfl, rfl, ?_⟩
      · rw [hj]
        exact at_of (j := j.toNat) (by omega) e
      · have n1 := Int.emod_nonneg (ns[j.toNat] % 2147483629 * 48271 + k * 7919) (show (2147483647 : Int) ≠ 0 by decide)
        have n2 := Int.emod_lt_of_pos (ns[j.toNat] % 2147483629 * 48271 + k * 7919) (show (0 : Int) < 2147483647 by decide)
        exact ⟨_, rfl, _, _, rfl, rfl, (by show (0 : Int) < 2147483647; decide), _, _, rfl, rfl, .inr ⟨by decide, by decide⟩, q _⟩
    · exact ⟨_, rfl, _, _, rfl, rfl, (by show (0 : Int) < 2147483647; decide), _, _, rfl, rfl, .inr ⟨by decide, by decide⟩, q _⟩
/-! the flow that is drawn from -/
def Flow (H : Hp) (f : Addr) : Prop := ∃ own cnt seed : Int, H f = some (.lst [.int own, .int cnt, .int seed]) ∧ 0 ≤ seed ∧ seed < 2 ^ 40
abbrev s_l_flow : Stmt := topS 15
theorem sc_l_flow : FnScope ["_law_script", "_law_k", "_law_cell_here"] ["_law_script", "_law_k"] (defScope s_l_flow) := ⟨rfl, rfl, rfl, by decide +kernel, rfl, by decide +kernel, by decide +kernel⟩
def spFlow (K : PySem.W.Frag) : Sp := fun vs H Q _ => ∃ (a : Addr) (ns : List Int) (k : Int), vs = [.ref a, .int k] ∧ SqL K H a (ns.map V.int) ∧ 0 ≤ k ∧ k ≤ 63 ∧ ∀ (p : Addr) (o : HO), H p = none → Flow (upd H p o) p → Q (.ref p) (upd H p o)
theorem ok_l_flow (B : Bt mg) (C_l_cell : Cal P w K mg base 1 "_law_cell" ["_law_script", "_law_k"] (spCell K)) (D : DefAt K mg "_law_flow" s_l_flow ["_law_script", "_law_k"]) : Cal P w K mg base 2 "_law_flow" ["_law_script", "_law_k"] (spFlow K) := by
  refine cal_of D sc_l_flow (fun vs H Q E h => ?_) (fun f cdv A outer s H vs Q E hr h => ?_)
  · obtain ⟨a, ns, k, rfl, _⟩ := h
    rfl
  obtain ⟨a, ns, k, rfl, hS, h0, h1, q⟩ := h
  have hr' : Room 1 _ := hr
  refine ⟨_, (pss_cons (ps_set (i := 2) sc_l_flow.nd rfl (.inl rfl) (pe_callB call_abs (by rfl) B.abs (by decide +kernel) (pa_cons (pe_cal C_l_cell hr' (by rfl) (pa_cons (pv 0) (pa_cons (pv 1) pa_nil))) pa_nil)))
      (pss_one (ps_ret (pe_lst (pa_cons (pe_op op_mul (pv 2) (pe_callTy call_int1 (by rfl) B.int PyProof.Rows.boot_int (pa_cons (pe_cmpR op_ge (pv 2) (pe_op op_pow pe_int pe_int) (nomark _)) pa_nil))) (pa_cons pe_int (pa_cons (pe_op op_add (pe_op op_mod (pv 2) pe_int) (pe_op op_mul pe_int (pv 1))) pa_nil))))))), ?_⟩
  refine ⟨_, rfl, _, rfl, a, ns, k, rfl, hS, h0, fun i => ?_⟩
  refine ⟨_, rfl, ?_⟩
  generalize (if i < 0 then -i else i) = z
  have m1 : 0 ≤ z % 2147483629 := Int.emod_nonneg _ (by decide)
  have m2 : z % 2147483629 < 2147483629 := Int.emod_lt_of_pos _ (by decide)
  have pw : CPow 10 18 := ⟨by decide, by decide, by decide⟩
  refine ⟨_, rfl, _, rfl, _, _, rfl, rfl, pw, _, _, rfl, rfl, .inr ⟨_, rfl, ?_⟩⟩
  generalize decide (z ≥ 10 ^ (18 : Int).toNat) = b
  obtain ⟨u, eu, u1, u2⟩ : ∃ u : Int, (V.int (if b = true then 1 else 0)) = .int u ∧ 0 ≤ u ∧ u ≤ 1 := by
    cases b
    · exact ⟨0, rfl, by decide, by decide⟩
    · exact ⟨1, rfl, by decide, by decide⟩
  refine ⟨_, _, rfl, eu, .inr ⟨by omega, by omega⟩, _, rfl, _, _, rfl, rfl, (by show (0 : Int) < 2147483629; decide), _, rfl, _, _, rfl, rfl, .inl ⟨by decide, by decide⟩, _, _, rfl, rfl, (by show 3 ≤ sizeLine; decide), fun p hp => q p _ hp ⟨_, _, _, upd_same, by omega, by omega⟩⟩
/-- the flow at f was drawn from, nothing else changed -/
structure Dr (f : Addr) (H H' : Hp) : Prop where
  off : ∀ b, b ≠ f → H' b = H b
  fl : Flow H' f
theorem Flow.lst {H : Hp} {f : Addr} (h : Flow H f) : ∃ xs, H f = some (.lst xs) := by
  obtain ⟨a, b, c, e, _⟩ := h
  exact ⟨_, e⟩
theorem Dr.ex {f : Addr} {H H' : Hp} (d : Dr f H H') : Ex [f] H H' := fun b o h n => by
  rw [d.off b (fun z => n (by rw [z]; simp))]
  exact h
theorem Dr.trans {f : Addr} {H H1 H2 : Hp} (a : Dr f H H1) (b : Dr f H1 H2) : Dr f H H2 := ⟨fun c n => (b.off c n).trans (a.off c n), b.fl⟩
theorem Dr.tp {f : Addr} {H H' : Hp} (d : Dr f H H') (h : Flow H f) : Tp K H H' := by
  obtain ⟨xs, e⟩ := h.lst
  refine d.ex.tp fun b hb ys q => ?_
  rw [List.mem_singleton.mp hb] at q
  rcases q with q | ⟨o, q⟩
  · rw [e] at q; cases q
  · rw [e] at q; cases q
abbrev s_l_draw : Stmt := topS 16
theorem sc_l_draw : FnScope ["_law_flow_here", "_law_many", "_law_digit"] ["_law_flow_here", "_law_many"] (defScope s_l_draw) := ⟨rfl, rfl, rfl, by decide +kernel, rfl, by decide +kernel, by decide +kernel⟩
def spDraw : Sp := fun vs H Q _ => ∃ (f : Addr) (m : Int), vs = [.ref f, .int m] ∧ Flow H f ∧ 0 < m ∧ m < 1073741824 ∧ ∀ (d : Int) (H' : Hp), 0 ≤ d → d < m → Dr f H H' → Q (.int d) H'
theorem dr_put {f : Addr} {H H0 : Hp} {xs : List V} (o : ∀ b, b ≠ f → H0 b = H b) (fl : Flow (upd H0 f (.lst xs)) f) : Dr f H (upd H0 f (.lst xs)) := ⟨fun b n => by rw [upd_ne n]; exact o b n, fl⟩
theorem ok_l_draw (D : DefAt K mg "_law_draw" s_l_draw ["_law_flow_here", "_law_many"]) : Cal P w K mg base 1 "_law_draw" ["_law_flow_here", "_law_many"] (spDraw) := by
  refine cal_of D sc_l_draw (fun vs H Q E h => ?_) (fun f cdv A outer s H vs Q E hr h => ?_)
  · obtain ⟨a, m, rfl, _⟩ := h
    rfl
  obtain ⟨a, m, rfl, ⟨own, cnt, seed, hf, s0, s1⟩, m0, m1, q⟩ := h
  refine ⟨_, (pss_cons (ps_if (pt_cmpR op_gt (pe_ix ix_list (pv 0) pe_int (fun _ _ => rfl)) pe_int (nomark _))
        (pss_cons (ps_set (i := 2) sc_l_draw.nd rfl (.inl rfl) (pe_op op_mod (pe_ix ix_list (pv 0) pe_int (fun _ _ => rfl)) (pv 1)))
      (pss_cons (ps_asg (pe_op op_fdiv (pe_ix ix_list (pv 0) pe_int (fun _ _ => rfl)) (pv 1)) (pg_sub (pv 0) pe_int set_list))
      (pss_one (ps_ret (pv 2)))))
        pss_nil)
      (pss_cons (ps_asg (pe_op op_add (pe_ix ix_list (pv 0) pe_int (fun _ _ => rfl)) pe_int) (pg_sub (pv 0) pe_int set_list))
      (pss_cons (ps_asg (pe_op op_mod (pe_op op_add (pe_op op_add (pe_op op_mul (pe_ix ix_list (pv 0) pe_int (fun _ _ => rfl)) pe_int) pe_int) (pe_ix ix_list (pv 0) pe_int (fun _ _ => rfl))) pe_int) (pg_sub (pv 0) pe_int set_list))
      (pss_one (ps_ret (pe_op op_mod (pe_op op_fdiv (pe_ix ix_list (pv 0) pe_int (fun _ _ => rfl)) pe_int) (pv 1))))))), ?_⟩
  have L : SqL K H a [.int own, .int cnt, .int seed] := SqL.of hf
  refine ⟨_, rfl, a, _, 0, .int own, rfl, rfl, L, rfl, _, _, rfl, rfl, _, rfl, ite2 (fun c => ?_) (fun c => ?_)⟩
  · have b1 : 0 ≤ own % m := Int.emod_nonneg _ (by omega)
    have b2 : own % m < m := Int.emod_lt_of_pos _ m0
    refine ⟨_, rfl, a, _, 0, .int own, rfl, rfl, L, rfl, _, rfl, _, _, rfl, rfl, m0, ?_⟩
    refine ⟨_, rfl, a, _, 0, .int own, rfl, rfl, L, rfl, _, rfl, _, _, rfl, rfl, ⟨m0, m1⟩, ?_⟩
    refine ⟨_, rfl, a, _, 0, 0, rfl, rfl, hf, rfl, ?_⟩
    exact ⟨_, rfl, q _ _ b1 b2 (dr_put (fun _ _ => rfl) ⟨_, _, _, upd_same, s0, s1⟩)⟩
  · refine ⟨_, rfl, a, _, 1, .int cnt, rfl, rfl, L, rfl, _, _, rfl, rfl, ?_⟩
    refine ⟨_, rfl, a, _, 1, 1, rfl, rfl, hf, rfl, ?_⟩
    have hf2 : (upd H a (.lst (List.set [.int own, .int cnt, .int seed] 1 (.int (cnt + 1))))) a = some (.lst [.int own, .int (cnt + 1), .int seed]) := upd_same
    generalize hH : upd H a (.lst (List.set [.int own, .int cnt, .int seed] 1 (.int (cnt + 1)))) = H2 at hf2
    have off : ∀ b, b ≠ a → H2 b = H b := fun b n => by
      rw [← hH, upd_ne n]
    have L2' : SqL K H2 a [.int own, .int (cnt + 1), .int seed] := SqL.of hf2
    refine ⟨_, rfl, a, _, 2, .int seed, rfl, rfl, L2', rfl, _, _, rfl, rfl, .inr ⟨by decide, by decide⟩, _, _, rfl, rfl, _, rfl, a, _, 1, .int (cnt + 1), rfl, rfl, L2', rfl, _, _, rfl, rfl, _, _, rfl, rfl, (by show (0 : Int) < 2147483647; decide), ?_⟩
    have n1 := Int.emod_nonneg (seed * 48271 + 12820163 + (cnt + 1)) (show (2147483647 : Int) ≠ 0 by decide)
    have n2 := Int.emod_lt_of_pos (seed * 48271 + 12820163 + (cnt + 1)) (show (0 : Int) < 2147483647 by decide)
    refine ⟨_, rfl, a, _, 2, 2, rfl, rfl, hf2, rfl, ?_⟩
    refine ⟨_, rfl, a, _, 2, .int _, rfl, rfl, SqL.of upd_same, rfl, _, _, rfl, rfl, ⟨by decide, by decide⟩, _, rfl, _, _, rfl, rfl, m0, ?_⟩
    exact q _ _ (Int.emod_nonneg _ (by omega)) (Int.emod_lt_of_pos _ m0) ⟨fun b z => by rw [upd_ne z, off b z], ⟨_, _, _, upd_same, n1, Int.lt_of_lt_of_le n2 (by decide)⟩⟩
/-- the flow was drawn from, things were made -/
structure Gr (f : Addr) (H H' : Hp) : Prop where
  ex : Ex [f] H H'
  fl : Flow H' f
theorem Dr.gr {f : Addr} {H H' : Hp} (d : Dr f H H') : Gr f H H' := ⟨d.ex, d.fl⟩
theorem Gr.trans {f : Addr} {H H1 H2 : Hp} (a : Gr f H H1) (b : Gr f H1 H2) : Gr f H H2 := ⟨a.ex.trans b.ex, b.fl⟩
theorem Gr.same {f : Addr} {H H' : Hp} (fl : Flow H f) (h : Same H H') : Gr f H H' := by
  refine ⟨Ex.of_same h, ?_⟩
  obtain ⟨a, b, c, e, r⟩ := fl
  exact ⟨a, b, c, h _ _ e, r⟩
theorem Gr.tp {f : Addr} {H H' : Hp} (a : Gr f H H') (h : Flow H f) : Tp K H H' := by
  obtain ⟨xs, e⟩ := h.lst
  refine a.ex.tp fun b hb ys q => ?_
  rw [List.mem_singleton.mp hb] at q
  rcases q with q | ⟨o, q⟩
  · rw [e] at q; cases q
  · rw [e] at q; cases q
theorem Gr.put {f : Addr} {H H' : Hp} {p : Addr} {o : HO} (g : Gr f H H') (h : H p = none) (n : p ≠ f) : Gr f H (upd H' p o) := by
  refine ⟨fun b u hb nb => ?_, ?_⟩
  · rw [upd_ne (ne_of_none hb h)]
    exact g.ex b u hb nb
  · obtain ⟨x, y, z, e, r⟩ := g.fl
    exact ⟨x, y, z, by rw [upd_ne n.symm]; exact e, r⟩
theorem Gr.new {f : Addr} {H : Hp} {p : Addr} {o : HO} (fl : Flow H f) (h : H p = none) : Gr f H (upd H p o) := Gr.same fl (same_new h)
theorem Flow.nf {f : Addr} {H : Hp} (g : Flow H f) {D : Addr} (h : H D = none) : D ≠ f := fun z => by
  obtain ⟨xs, e⟩ := g.lst
  rw [z, e] at h
  cases h
abbrev s_l_rows : Stmt := topS 17
theorem sc_l_rows : FnScope ["_law_flow_here", "_law_many", "_law_most", "_law_far", "_law_found", "_law_k", "_law_i", "_law_j"] ["_law_flow_here", "_law_many", "_law_most", "_law_far"] (defScope s_l_rows) := ⟨rfl, rfl, rfl, by decide +kernel, rfl, by decide +kernel, by decide +kernel⟩
def spRows (K : PySem.W.Frag) : Sp := fun vs H Q _ => ∃ (f : Addr) (m : Nat) (mo far : Int), vs = [.ref f, .int m, .int mo, .int far] ∧ Flow H f ∧ m ≤ 10 ∧ 0 ≤ mo ∧ mo ≤ 30 ∧ 0 ≤ far ∧ far ≤ 1000 ∧
  ∀ (l : Addr) (xs : List V) (rs : List Row) (H' : Hp), Gr f H H' → H l = none → H' l = some (.lst xs) → DpAll K H' xs (rs.map rowD) → (∀ r ∈ rs, RowOk m r) → (∀ r ∈ rs, -far ≤ r.2.2 ∧ r.2.2 ≤ far) → (rs.length : Int) ≤ mo → Q (.ref l) H'
theorem ok_l_rows (B : Bt mg) (C_l_draw : Cal P w K mg base 1 "_law_draw" ["_law_flow_here", "_law_many"] (spDraw)) (D : DefAt K mg "_law_rows" s_l_rows ["_law_flow_here", "_law_many", "_law_most", "_law_far"]) : Cal P w K mg base 2 "_law_rows" ["_law_flow_here", "_law_many", "_law_most", "_law_far"] (spRows K) := by
  refine cal_of D sc_l_rows (fun vs H Q E h => ?_) (fun f cdv A outer s H vs Q E hr h => ?_)
  · obtain ⟨f, m, mo, far, rfl, _⟩ := h
    rfl
  obtain ⟨f, m, mo, far, rfl, fl, hm, mo0, mo1, fa0, fa1, q⟩ := h
  have hr' : Room 1 _ := hr
  refine ⟨_, (pss_cons (ps_set (i := 4) sc_l_rows.nd rfl (.inl rfl) (pe_lst pa_nil))
      (pss_cons (ps_for PassesOwn.never rfl (pi_range1 (by rfl) B.range (pa_cons (pe_cal C_l_draw hr' (by rfl) (pa_cons (pv 0) (pa_cons (pe_op op_add (pv 2) pe_int) pa_nil))) pa_nil)) (pg_name (i := 5) sc_l_rows.nd rfl (.inl rfl))
        (pss_cons (ps_par (i := 6) (j := 7) rfl sc_l_rows.nd rfl rfl (by decide) rfl rfl (pa_cons (pe_op op_sub (pe_cal C_l_draw hr' (by rfl) (pa_cons (pv 0) (pa_cons (pe_op op_add (pv 1) pe_int) pa_nil))) pe_int) (pa_cons (pe_op op_sub (pe_cal C_l_draw hr' (by rfl) (pa_cons (pv 0) (pa_cons (pe_op op_add (pv 1) pe_int) pa_nil))) pe_int) pa_nil)) rfl)
      (C8.pss_cut (ps_if (PW.pt (pw_and (pt_cmpR op_gt (pe_cal C_l_draw hr' (by rfl) (pa_cons (pv 0) (pa_cons pe_int pa_nil))) pe_int (nomark _)) (pw_and1 (pt_cmpR op_gt (pv 1) pe_int (nomark _)))))
        (pss_one (ps_set (i := 7) sc_l_rows.nd rfl (.inl rfl) (pe_op op_sub (pe_op op_mod (pe_op op_add (pe_op op_add (pv 6) pe_int) (pe_cal C_l_draw hr' (by rfl) (pa_cons (pv 0) (pa_cons (pv 1) pa_nil)))) (pe_op op_add (pv 1) pe_int)) pe_int)))
        pss_nil)
      (pss_one (ps_expr (pe_bm PySem.F.plainAttrs_list PySem.F.slot_list_append PySem.F.type_list_append mt_append (pv 4) (pa_cons (pe_tup (pa_cons (pv 6) (pa_cons (pv 7) (pa_cons (pe_callB (call_min2 rfl) (by rfl) B.min PyProof.Rows.boot_min (pa_cons (pv 3) (pa_cons (pe_op op_sub (pe_cal C_l_draw hr' (by rfl) (pa_cons (pv 0) (pa_cons (pe_op op_add (pe_op op_mul pe_int (pv 3)) pe_int) pa_nil))) (pe_ix ix_list (pe_lst (pa_cons (pv 3) (pa_cons (pe_op op_fdiv (pv 3) pe_int) pa_nil))) (pe_cal C_l_draw hr' (by rfl) (pa_cons (pv 0) (pa_cons pe_int pa_nil))) (fun _ _ => rfl))) pa_nil))) pa_nil)))) pa_nil)))))))
      (pss_one (ps_ret (pv 4))))), ?_⟩
  refine ⟨(by show 0 ≤ sizeLine; decide), fun L hL => ?_⟩
  have nLf := fl.nf hL
  have g1 : Gr f H (upd H L (.lst [])) := Gr.new fl hL
  have e1 : (upd H L (.lst [])) L = some (.lst []) := upd_same
  generalize upd H L (.lst []) = H1 at g1 e1
  refine ⟨_, rfl, _, rfl, _, _, rfl, rfl, f, mo + 1, rfl, g1.fl, by omega, by omega, fun n H2 n0 n1 dr2 => ?_⟩
  have g2 := g1.trans dr2.gr
  have e2 : H2 L = _ := (dr2.off L nLf).trans e1
  refine ⟨n, rfl, by omega, by omega, for_range (lo := 0) (n := n.toNat) (fun k σ' H' => (∃ y5 y6 y7 : Option V, σ' = [some (.ref f), some (.int m), some (.int mo), some (.int far), some (.ref L), y5, y6, y7]) ∧ Gr f H H' ∧ ∃ xs rs, H' L = some (.lst xs) ∧ DpAll K H' xs (rs.map rowD) ∧ (∀ r ∈ rs, RowOk m r) ∧ (∀ r ∈ rs, -far ≤ r.2.2 ∧ r.2.2 ≤ far) ∧ rs.length = k) ⟨⟨_, _, _, rfl⟩, g2, [], [], e2, .nil, fun r h => absurd h (by simp), fun r h => absurd h (by simp), rfl⟩ ?_ ?_⟩
  · rintro k σ' H' hk ⟨⟨y5, y6, y7, rfl⟩, g, xs, rs, hL', hxs, hok, hc, hl⟩
    have xl := (dpall_getM _ hxs).1
    refine ⟨_, rfl, _, rfl, _, _, rfl, rfl, f, (m : Int) + 1, rfl, g.fl, by omega, by omega, fun i0 H3 a0 a1 dr3 => ⟨_, _, rfl, rfl, ?_⟩⟩
    have g3 := g.trans dr3.gr
    refine ⟨_, rfl, _, rfl, _, _, rfl, rfl, f, (m : Int) + 1, rfl, g3.fl, by omega, by omega, fun j0 H4 b0 b1 dr4 => ⟨_, _, rfl, rfl, _, _, rfl, ?_⟩⟩
    have g4 := g3.trans dr4.gr
    have tp4 : Tp K H' H4 := (dr3.tp g.fl).trans (dr4.tp g3.fl)
    have e4 : H4 L = some (.lst xs) := ((dr4.off L nLf).trans (dr3.off L nLf)).trans hL'
    refine ⟨fun σ2 H5 => ∃ j1 : Int, -1 ≤ j1 ∧ j1 < m ∧ σ2 = [some (.ref f), some (.int m), some (.int mo), some (.int far), some (.ref L), some (.int (0 + (k : Int))), some (.int (i0 - 1)), some (.int j1)] ∧ Gr f H H5 ∧ Tp K H' H5 ∧ H5 L = some (.lst xs), ?_, ?_⟩
    · refine ⟨_, rfl, f, 8, rfl, g4.fl, by decide, by decide, fun d H5 d0 d1 dr5 => ⟨_, _, rfl, rfl, _, rfl, ite2 (fun c1 => ?_) (fun c1 => ?_)⟩⟩
      · have g5 := g4.trans dr5.gr
        have tp5 := tp4.trans (dr5.tp g4.fl)
        have e5 : H5 L = some (.lst xs) := (dr5.off L nLf).trans e4
        refine ⟨_, rfl, _, _, rfl, rfl, _, rfl, ite2 (fun c2 => ?_) (fun c2 => ?_)⟩
        · have m1 : (m : Int) > 0 := of_decide_eq_true c2
          refine ⟨_, rfl, _, _, rfl, rfl, _, rfl, _, rfl, f, (m : Int), rfl, g5.fl, by omega, by omega, fun d2 H6 d20 d21 dr6 => ⟨_, _, rfl, rfl, _, rfl, _, _, rfl, rfl, _, _, rfl, rfl, (by show (0 : Int) < (m : Int) + 1; omega), _, _, rfl, rfl, ?_⟩⟩
          have h1 := Int.emod_nonneg (i0 - 1 + 2 + d2) (show (m : Int) + 1 ≠ 0 by omega)
          have h2 := Int.emod_lt_of_pos (i0 - 1 + 2 + d2) (show (0 : Int) < (m : Int) + 1 by omega)
          exact ⟨(i0 - 1 + 2 + d2) % ((m : Int) + 1) - 1, by omega, by omega, rfl, g5.trans dr6.gr, tp5.trans (dr6.tp g5.fl), (dr6.off L nLf).trans e5⟩
        · exact ⟨j0 - 1, by omega, by omega, rfl, g5, tp5, e5⟩
      · exact ⟨j0 - 1, by omega, by omega, rfl, g4.trans dr5.gr, tp4.trans (dr5.tp g4.fl), (dr5.off L nLf).trans e4⟩
    · rintro σ2 H5 ⟨j1, j10, j11, rfl, g5, tp5, e5⟩
      refine ⟨_, rfl, .inl ⟨rfl, _, SqL.of e5⟩, _, rfl, _, rfl, _, rfl, _, rfl, _, rfl, _, _, rfl, rfl, .inl ⟨by decide, by decide⟩, _, _, rfl, rfl, f, _, rfl, g5.fl, by omega, by omega, fun d H6 d0 d1 dr6 => ?_⟩
      have g6 := g5.trans dr6.gr
      have tp6 := tp5.trans (dr6.tp g5.fl)
      have e6 : H6 L = some (.lst xs) := (dr6.off L nLf).trans e5
      refine ⟨_, rfl, _, rfl, _, _, rfl, rfl, ⟨by decide, by decide⟩, (by show 2 ≤ sizeLine; decide), fun l2 hl2 => ?_⟩
      have n2f := g6.fl.nf hl2
      have g7 : Gr f H (upd H6 l2 (.lst [.int far, .int (far / 2)])) := g6.trans (Gr.new g6.fl hl2)
      have tp7 : Tp K H' (upd H6 l2 (.lst [.int far, .int (far / 2)])) := tp6.trans (Tp.new hl2)
      have e7 : (upd H6 l2 (.lst [.int far, .int (far / 2)])) L = some (.lst xs) := by rw [upd_ne (ne_of_none e6 hl2)]; exact e6
      have u7 : (upd H6 l2 (.lst [.int far, .int (far / 2)])) l2 = some (.lst [.int far, .int (far / 2)]) := upd_same
      generalize upd H6 l2 (.lst [.int far, .int (far / 2)]) = H7 at g7 tp7 e7 u7
      refine ⟨_, rfl, f, 2, rfl, g7.fl, by decide, by decide, fun d2 H8 d20 d21 dr8 => ?_⟩
      have g8 := g7.trans dr8.gr
      have tp8 := tp7.trans (dr8.tp g7.fl)
      have e8 : H8 L = some (.lst xs) := (dr8.off L nLf).trans e7
      have u8 := (dr8.off l2 n2f).trans u7
      obtain ⟨v, ev, v1, v2⟩ : ∃ v : Int, atI [V.int far, V.int (far / 2)] d2 = some (.int v) ∧ 0 ≤ v ∧ v ≤ far := by
        rcases (show d2 = 0 ∨ d2 = 1 by omega) with z | z
        · subst z; exact ⟨far, rfl, by omega, by omega⟩
        · subst z; exact ⟨far / 2, rfl, by omega, by omega⟩
      refine ⟨l2, _, d2, _, rfl, rfl, SqL.of u8, ev, _, _, rfl, rfl, _, _, rfl, (by show 3 ≤ sizeLine; decide), fun t ht => ?_⟩
      obtain ⟨c, ec, c1, c2⟩ : ∃ c : Int, (if d - v < far then d - v else far) = c ∧ -far ≤ c ∧ c ≤ far := ⟨_, rfl, by split <;> omega, by split <;> omega⟩
      rw [ec]
      have g9 : Gr f H (upd H8 t (.tup [.int (i0 - 1), .int j1, .int c])) := g8.trans (Gr.new g8.fl ht)
      have tp9 : Tp K H' (upd H8 t (.tup [.int (i0 - 1), .int j1, .int c])) := tp8.trans (Tp.new ht)
      have e9 : (upd H8 t (.tup [.int (i0 - 1), .int j1, .int c])) L = some (.lst xs) := by rw [upd_ne (ne_of_none e8 ht)]; exact e8
      have u9 : (upd H8 t (.tup [.int (i0 - 1), .int j1, .int c])) t = some (.tup [.int (i0 - 1), .int j1, .int c]) := upd_same
      generalize upd H8 t (.tup [.int (i0 - 1), .int j1, .int c]) = H9 at g9 tp9 e9 u9
      have tA : Tp K H9 (upd H9 L (.lst (xs ++ [.ref t]))) := Tp.lst e9
      refine ⟨L, xs, _, rfl, rfl, e9, smallL (by omega), ⟨_, _, _, rfl⟩, g9.put hL nLf, xs ++ [.ref t], rs ++ [(i0 - 1, j1, c)], upd_same, ?_, fun r hr1 => ?_, fun r hr1 => ?_, by rw [List.length_append, hl]; rfl⟩
      · rw [List.map_append]
        exact dpall_app' (dps_keep (tp9.trans tA) _ _ (rows_flat rs) hxs) (.cons (row_dp (tA _ _ (.inl (.inl u9)))) .nil)
      · rcases List.mem_append.mp hr1 with z | z
        · exact hok r z
        · rw [List.mem_singleton.mp z]
          exact ⟨by show -1 ≤ i0 - 1; omega, by show i0 - 1 < (m : Int); omega, j10, j11⟩
      · rcases List.mem_append.mp hr1 with z | z
        · exact hc r z
        · rw [List.mem_singleton.mp z]
          exact ⟨c1, c2⟩
  · rintro σ' H' ⟨⟨y5, y6, y7, rfl⟩, g, xs, rs, hL', hxs, hok, hc, hl⟩
    exact ⟨_, rfl, q L xs rs H' g hL hL' hxs hok hc (by omega)⟩
end
end Lm

set_option Elab.async false
set_option linter.all false
set_option maxRecDepth 100000
set_option maxHeartbeats 2000000
set_option pp.maxSteps 600
set_option pp.deepTerms.threshold 6
namespace Lm
open PySem PySem.Spec PyProof.Rows L2 LmR
theorem ixN_pl {m : Nat} {i : Int} (h1 : -1 ≤ i) (h2 : i < m) : ixN (m + 1) i = some (pl m i) := by
  unfold ixN pl
  by_cases e : i = -1
  · rw [if_pos e, if_neg (by omega), if_pos (by omega)]
    congr 1
    omega
  · rw [if_neg e, if_pos (by omega), if_pos (by omega)]
def slV (m : Nat) (S : Sums) : List V := (List.range (m + 1)).map fun a => oV (S a)
theorem slV_len (m : Nat) (S : Sums) : (slV m S).length = m + 1 := by unfold slV; rw [List.length_map, List.length_range]
theorem slV_at (m : Nat) (S : Sums) {a : Nat} (h : a ≤ m) : (slV m S)[a]? = some (oV (S a)) := by
  unfold slV
  rw [List.getElem?_map, List.getElem?_range (by omega)]
  rfl
theorem slV_set (m : Nat) (S : Sums) (k : Nat) (z : Int) : (slV m S).set k (.int z) = slV m fun a => if a = k then some z else S a := by
  refine List.ext_getElem? fun a => ?_
  rw [List.getElem?_set]
  by_cases e : k = a
  · subst e
    rw [if_pos rfl]
    by_cases ha : k ≤ m
    · rw [if_pos (by rw [slV_len]; omega), slV_at m _ ha, if_pos rfl]
      rfl
    · rw [if_neg (by rw [slV_len]; omega), List.getElem?_eq_none (by rw [slV_len]; omega)]
  · rw [if_neg e]
    by_cases ha : a ≤ m
    · rw [slV_at m _ ha, slV_at m _ ha, if_neg fun z => e z.symm]
    · rw [List.getElem?_eq_none (by rw [slV_len]; omega), List.getElem?_eq_none (by rw [slV_len]; omega)]
theorem slV_none (m : Nat) : (List.replicate (m + 1) [V.non]).flatten = slV m fun _ => none := by
  have e : ∀ n : Nat, (List.replicate n [V.non]).flatten = List.replicate n V.non := fun n => by
    induction n with
    | zero => rfl
    | succ n ih => rw [List.replicate_succ, List.flatten_cons, ih]; rfl
  rw [e]
  refine List.ext_getElem? fun a => ?_
  by_cases ha : a ≤ m
  · rw [slV_at m _ ha, List.getElem?_replicate, if_pos (by omega)]
    rfl
  · rw [List.getElem?_eq_none (by rw [List.length_replicate]; omega), List.getElem?_eq_none (by rw [slV_len]; omega)]
theorem edges_at {m : Nat} {rs : List Row} {a : Nat} {r : Row} (h : rs[a]? = some r) : (edges m rs)[a]? = some (edgeR m r) := by
  unfold edges
  rw [List.getElem?_map, h]
  rfl
theorem fold_next {R : List Edge} {p : Sums × Bool} {a : Nat} {e : Edge} (h : R[a]? = some e) : (R.take (a + 1)).foldl stE p = stE ((R.take a).foldl stE p) e := by
  rw [List.take_add_one, h, List.foldl_append]
  rfl
/-- a list of rows -/
structure RowsAt (K : PySem.W.Frag) (H : Hp) (l : Addr) (m : Nat) (rs : List Row) : Prop where
  ob : ∃ xs, H l = some (.lst xs) ∧ DpAll K H xs (rs.map rowD)
  ok : ∀ r ∈ rs, RowOk m r
  hl : rs.length ≤ 40
theorem RowsAt.keep {K : PySem.W.Frag} {H H' : Hp} {l : Addr} {m : Nat} {rs : List Row} (h : RowsAt K H l m rs) (e : ∀ o, H l = some o → H' l = some o) (t : Tp K H H') : RowsAt K H' l m rs := by
  obtain ⟨xs, h1, h2⟩ := h.ob
  exact ⟨⟨xs, e _ h1, dps_keep t _ _ (rows_flat rs) h2⟩, h.ok, h.hl⟩
theorem RowsAt.same {K : PySem.W.Frag} {H H' : Hp} {l : Addr} {m : Nat} {rs : List Row} (h : RowsAt K H l m rs) (s : Same H H') : RowsAt K H' l m rs := h.keep (fun o z => s _ _ z) (Tp.same s)
section
variable {P : Program} {w : World} {K : PySem.W.Frag} {mg : Str → Option Value} {base : Heap}
end
end Lm

set_option Elab.async false
set_option linter.all false
set_option maxRecDepth 100000
set_option maxHeartbeats 2000000
set_option pp.maxSteps 600
set_option pp.deepTerms.threshold 6
namespace Lm
open PySem PySem.Spec PyProof.Rows L2 LmR
theorem ones_plain : ∀ n : Nat, PyData.plainAll (List.replicate n (PyData.int 1)) = true
  | 0 => rfl
  | n + 1 => by
    rw [List.replicate_succ]
    show (true && PyData.plainAll (List.replicate n (PyData.int 1))) = true
    rw [ones_plain n]; rfl
theorem ones_depth : ∀ n : Nat, PyData.depthAll (List.replicate n (PyData.int 1)) = 0
  | 0 => rfl
  | n + 1 => by
    rw [List.replicate_succ]
    show max 0 (PyData.depthAll (List.replicate n (PyData.int 1))) = 0
    rw [ones_depth n]; rfl
theorem ones_dp {K : PySem.W.Frag} {H : Hp} : ∀ n : Nat, DpAll K H (List.replicate n (V.int 1)) (List.replicate n (PyData.int 1))
  | 0 => .nil
  | n + 1 => .cons (.int 1) (ones_dp n)
theorem ones_eqv (n : Nat) : PyData.eqv (.list (List.replicate n (PyData.int 1))) (.list []) = decide (n = 0) := by
  cases n with
  | zero => decide
  | succ n => rw [List.replicate_succ]; simp [PyData.eqv, PyData.eqvAll]
/-- how a list of ones is held against none -/
theorem ones_eq {K : PySem.W.Frag} {H : Hp} {a b : Addr} {n : Nat} {Q : VK} (ha : H a = some (.lst (List.replicate n (V.int 1)))) (hb : H b = some (.lst [])) (q : Q (.bl (decide (n = 0))) H) : rEqP K (.ref a) (.ref b) H Q :=
  ⟨.list (List.replicate n (.int 1)), .list [], .lst (SqL.of ha) (ones_dp n), .lst (SqL.of hb) .nil, ones_plain n, rfl, by show PyData.depthAll (List.replicate n (PyData.int 1)) + 1 ≤ 64; rw [ones_depth]; decide, by rw [ones_eqv]; exact q⟩
/-- x of a place -/
def xOf (m : Nat) (ns : List Int) (a : Nat) : Int := (ns ++ [0]).getD a 0
section
variable {P : Program} {w : World} {K : PySem.W.Frag} {mg : Str → Option Value} {base : Heap}
abbrev s_l_keeps : Stmt := topS 18
theorem sc_l_keeps : FnScope ["_law_rows_here", "_law_numbers", "_law_worths", "_law_i", "_law_j", "_law_c"] ["_law_rows_here", "_law_numbers"] (defScope s_l_keeps) := ⟨rfl, rfl, rfl, by decide +kernel, rfl, by decide +kernel, by decide +kernel⟩
/-- rows, a list or a tuple -/
structure RowsLT (K : PySem.W.Frag) (H : Hp) (l : Addr) (m : Nat) (rs : List Row) : Prop where
  ob : ∃ xs, (H l = some (.lst xs) ∨ SqT K H l xs) ∧ DpAll K H xs (rs.map rowD)
  ok : ∀ r ∈ rs, RowOk m r
  hl : rs.length ≤ 40
theorem RowsLT.same {K : PySem.W.Frag} {H H' : Hp} {l : Addr} {m : Nat} {rs : List Row} (h : RowsLT K H l m rs) (s : Same H H') : RowsLT K H' l m rs := by
  obtain ⟨xs, h1, h2⟩ := h.ob
  exact ⟨⟨xs, h1.elim (fun z => .inl (s _ _ z)) (fun z => .inr (Tp.same s _ _ z)), dps_keep (Tp.same s) _ _ (rows_flat rs) h2⟩, h.ok, h.hl⟩
theorem RowsAt.lt {K : PySem.W.Frag} {H : Hp} {l : Addr} {m : Nat} {rs : List Row} (h : RowsAt K H l m rs) : RowsLT K H l m rs := by
  obtain ⟨xs, h1, h2⟩ := h.ob
  exact ⟨⟨xs, .inl h1, h2⟩, h.ok, h.hl⟩
def spKeeps (K : PySem.W.Frag) : Sp := fun vs H Q _ => ∃ (l b : Addr) (m : Nat) (rs : List Row) (ns : List Int), vs = [.ref l, .ref b] ∧ RowsLT K H l m rs ∧ (SqL K H b (ns.map V.int) ∨ SqT K H b (ns.map V.int)) ∧ ns.length = m ∧ m ≤ 100 ∧
  ∀ (k : Bool) (H' : Hp), Same H H' → (k = true ↔ KeepsF (xOf m ns) (edges m rs)) → Q (.bl k) H'
theorem ok_l_keeps (B : Bt mg) (D : DefAt K mg "_law_keeps" s_l_keeps ["_law_rows_here", "_law_numbers"]) : Cal P w K mg base 1 "_law_keeps" ["_law_rows_here", "_law_numbers"] (spKeeps K) := by
  refine cal_of D sc_l_keeps (fun vs H Q E h => ?_) (fun f cdv A outer s H vs Q E hr h => ?_)
  · obtain ⟨l, b, m, rs, ns, rfl, _⟩ := h
    rfl
  obtain ⟨l, b, m, rs, ns, rfl, hR, hb, nl, hm, q⟩ := h
  refine ⟨_, (pss_cons (ps_set (i := 2) sc_l_keeps.nd rfl (.inr rfl) (pe_op op_cat (pe_callTy call_list_of (by rfl) B.list PyProof.Rows.boot_list (pa_cons (pv 1) pa_nil)) (pe_lst (pa_cons pe_int pa_nil))))
      (pss_one (ps_ret (pe_cmpR (op_eqP hr.units) (pe_lc (own := [("_law_i", 3), ("_law_j", 4), ("_law_c", 5)]) (g := gTup K 3 (gCons (gName 3) (gCons (gName 4) (gCons (gName 5) gNil)))) rfl sc_l_keeps.nd (pi_lt (pv 0)) (blkOk_by (own := [("_law_i", 3), ("_law_j", 4), ("_law_c", 5)]) (N := ["_law_rows_here", "_law_numbers", "_law_worths", "_law_i", "_law_j", "_law_c"]) (sc := defScope s_l_keeps) (by decide +kernel)) (fun _ _ _ _ _ => (pg_tupK (K := K) rfl rfl (pgs_cons (pg_name (i := 3) sc_l_keeps.nd rfl (.inl rfl)) (pgs_cons (pg_name (i := 4) sc_l_keeps.nd rfl (.inl rfl)) (pgs_cons (pg_name (i := 5) sc_l_keeps.nd rfl (.inl rfl)) pgs_nil))))) (fun _ _ _ _ _ => (pts_one (pt_cmpR op_gt (pe_ix (ix_listK (K := K) rfl) (pv 2) (pv 3) (fun _ _ => rfl)) (pe_op op_add (pe_ix (ix_listK (K := K) rfl) (pv 2) (pv 4) (fun _ _ => rfl)) (pv 5)) (nomark _)))) (fun _ _ _ _ _ => pe_int)) (pe_lst pa_nil) (nomark _))))), ?_⟩
  obtain ⟨xs, hlx, hxs⟩ := hR.ob
  obtain ⟨xl, xg⟩ := dpall_getM _ hxs
  refine ⟨_, rfl, b, _, rfl, hb, fun l1 hl1 => ?_⟩
  have s1 := same_new (o := .lst (ns.map V.int)) hl1
  have e1 : (upd H l1 (.lst (ns.map V.int))) l1 = some (.lst (ns.map V.int)) := upd_same
  generalize upd H l1 (.lst (ns.map V.int)) = H1 at s1 e1
  refine ⟨(by show 1 ≤ sizeLine; decide), fun l2 hl2 => ?_⟩
  have s2 := same_new (o := .lst [V.int 0]) hl2
  have e2 : (upd H1 l2 (.lst [V.int 0])) l2 = some (.lst [V.int 0]) := upd_same
  generalize upd H1 l2 (.lst [V.int 0]) = H2 at s2 e2
  refine ⟨l1, l2, _, _, rfl, rfl, s2 _ _ e1, e2, ?_, fun w hw => ?_⟩
  · show (ns.map V.int).length + 1 ≤ sizeLine
    rw [List.length_map]
    exact small (by omega)
  have s3 := same_new (o := .lst (ns.map V.int ++ [V.int 0])) hw
  have e3 : (upd H2 w (.lst (ns.map V.int ++ [V.int 0]))) w = some (.lst ((ns ++ [0]).map V.int)) := by rw [upd_same, List.map_append]; rfl
  generalize upd H2 w (.lst (ns.map V.int ++ [V.int 0])) = H3 at s3 e3
  have s03 := s1.trans (s2.trans s3)
  have xat : ∀ (H' : Hp) (i : Int), -1 ≤ i → i < m → atI ((ns ++ [0]).map V.int) i = some (.int (xOf m ns (pl m i))) := fun H' i i1 i2 => by
    refine at_pl (by rw [List.length_map, List.length_append, nl]; rfl) i1 i2 ?_
    have hp := pl_le i1 i2
    rw [List.getElem?_map]
    unfold xOf
    rw [List.getD_eq_getElem?_getD, List.getElem?_eq_getElem (by rw [List.length_append, nl]; show pl m i < m + 1; omega)]
    rfl
  rcases hlx with hlx | hlx
  · refine ⟨_, rfl, l, rfl, .inl ⟨⟨_, SqL.of (s03 _ _ hlx)⟩, fun D hD => lc_list (K := K) (a := l) (xs := xs) (fun j H' => Same H3 H' ∧ ∃ n : Nat, H' D = some (.lst (List.replicate n (V.int 1))) ∧ n ≤ j ∧ (n = 0 ↔ KeepsF (xOf m ns) ((edges m rs).take j))) ?_ ?_ ?_ ?_⟩⟩
    · exact ⟨same_new hD, 0, upd_same, Nat.le_refl _, by simp [KeepsF]⟩
    · rintro j H' _ ⟨s', _⟩
      exact SqL.of ((s03.trans s') _ _ hlx)
    · rintro j y H' hy ⟨s', n, hD', nj, hn⟩
      have jl : j < rs.length := by rw [← xl]; exact (List.getElem?_eq_some_iff.mp hy).1
      have er := List.getElem?_eq_getElem jl
      obtain ⟨x', hx', dx⟩ := xg j rs[j] er
      rw [hy] at hx'
      cases hx'
      obtain ⟨tr, rfl, htr⟩ := row_read dx
      have hok := hR.ok rs[j] (List.getElem_mem jl)
      have hlr := hR.hl
      have et : (edges m rs).take (j + 1) = (edges m rs).take j ++ [edgeR m rs[j]] := by
        rw [List.take_add_one, edges_at er]
        rfl
      have kp : KeepsF (xOf m ns) ((edges m rs).take (j + 1)) ↔ KeepsF (xOf m ns) ((edges m rs).take j) ∧ xOf m ns (pl m rs[j].1) ≤ xOf m ns (pl m rs[j].2.1) + rs[j].2.2 := by
        rw [et]
        constructor
        · intro h
          exact ⟨fun e he => h e (List.mem_append_left _ he), h _ (List.mem_append_right _ (List.mem_singleton.mpr rfl))⟩
        · rintro ⟨h1, h2⟩ e he
          rcases List.mem_append.mp he with z | z
          · exact h1 e z
          · rw [List.mem_singleton.mp z]; exact h2
      generalize rs[j] = r at htr hok dx kp er et
      obtain ⟨ri, rj, rc⟩ := r
      obtain ⟨o1, o2, o3, o4⟩ := hok
      have L3 : SqL K H' w ((ns ++ [0]).map V.int) := SqL.of (s' _ _ e3)
      refine ⟨tr, _, rfl, Tp.same (s03.trans s') _ _ htr, rfl, _, _, rfl, _, _, rfl, _, _, rfl, rfl, rfl, _, rfl, _, rfl, w, _, ri, _, rfl, rfl, L3, xat H' ri o1 o2, _, rfl, _, rfl, w, _, rj, _, rfl, rfl, L3, xat H' rj o3 o4, _, rfl, _, _, rfl, rfl, _, _, rfl, rfl, _, rfl, ite2 (fun c => ?_) (fun c => ?_)⟩
      · have gt : xOf m ns (pl m ri) > xOf m ns (pl m rj) + rc := of_decide_eq_true c
        refine ⟨_, hD', by rw [List.length_replicate]; exact smallL (by omega), fun b' o z => ?_, n + 1, by rw [upd_same, List.replicate_succ'] <;> rfl, by omega, ⟨fun z => absurd z (by omega), fun z => ?_⟩⟩
        · rw [upd_ne (ne_of_none z hD)]
          exact s' _ _ z
        · have := (kp.mp z).2
          simp only at this
          omega
      · have le : xOf m ns (pl m ri) ≤ xOf m ns (pl m rj) + rc := by
          have : ¬ xOf m ns (pl m ri) > xOf m ns (pl m rj) + rc := fun z => c (decide_eq_true z)
          omega
        refine ⟨s', n, hD', by omega, ?_⟩
        rw [hn, kp]
        exact ⟨fun z => ⟨z, le⟩, fun z => z.1⟩
    · rintro H4 ⟨s4, n, hD4, nj, hn⟩
      have e : (edges m rs).take xs.length = edges m rs := List.take_of_length_le (by unfold edges; simp [xl])
      rw [e] at hn
      refine ⟨(by show 0 ≤ sizeLine; decide), fun z hz => ?_⟩
      have s5 := same_new (o := .lst []) hz
      refine ones_eq (n := n) (by rw [upd_ne (ne_of_none hD4 hz)]; exact hD4) upd_same (q _ _ (s03.trans (s4.trans s5)) ?_)
      rw [decide_eq_true_iff]
      exact hn
  · refine ⟨_, rfl, l, rfl, .inr ⟨⟨_, Tp.same s03 _ _ hlx⟩, fun D hD => lc_tup (K := K) (a := l) (xs := xs) (fun j H' => Same H3 H' ∧ ∃ n : Nat, H' D = some (.lst (List.replicate n (V.int 1))) ∧ n ≤ j ∧ (n = 0 ↔ KeepsF (xOf m ns) ((edges m rs).take j))) ?_ ?_ ?_ ?_⟩⟩
    · exact ⟨same_new hD, 0, upd_same, Nat.le_refl _, by simp [KeepsF]⟩
    · rintro j H' _ ⟨s', _⟩
      exact Tp.same (s03.trans s') _ _ hlx
    · rintro j y H' hy ⟨s', n, hD', nj, hn⟩
      have jl : j < rs.length := by rw [← xl]; exact (List.getElem?_eq_some_iff.mp hy).1
      have er := List.getElem?_eq_getElem jl
      obtain ⟨x', hx', dx⟩ := xg j rs[j] er
      rw [hy] at hx'
      cases hx'
      obtain ⟨tr, rfl, htr⟩ := row_read dx
      have hok := hR.ok rs[j] (List.getElem_mem jl)
      have hlr := hR.hl
      have et : (edges m rs).take (j + 1) = (edges m rs).take j ++ [edgeR m rs[j]] := by
        rw [List.take_add_one, edges_at er]
        rfl
      have kp : KeepsF (xOf m ns) ((edges m rs).take (j + 1)) ↔ KeepsF (xOf m ns) ((edges m rs).take j) ∧ xOf m ns (pl m rs[j].1) ≤ xOf m ns (pl m rs[j].2.1) + rs[j].2.2 := by
        rw [et]
        constructor
        · intro h
          exact ⟨fun e he => h e (List.mem_append_left _ he), h _ (List.mem_append_right _ (List.mem_singleton.mpr rfl))⟩
        · rintro ⟨h1, h2⟩ e he
          rcases List.mem_append.mp he with z | z
          · exact h1 e z
          · rw [List.mem_singleton.mp z]; exact h2
      generalize rs[j] = r at htr hok dx kp er et
      obtain ⟨ri, rj, rc⟩ := r
      obtain ⟨o1, o2, o3, o4⟩ := hok
      have L3 : SqL K H' w ((ns ++ [0]).map V.int) := SqL.of (s' _ _ e3)
      refine ⟨tr, _, rfl, Tp.same (s03.trans s') _ _ htr, rfl, _, _, rfl, _, _, rfl, _, _, rfl, rfl, rfl, _, rfl, _, rfl, w, _, ri, _, rfl, rfl, L3, xat H' ri o1 o2, _, rfl, _, rfl, w, _, rj, _, rfl, rfl, L3, xat H' rj o3 o4, _, rfl, _, _, rfl, rfl, _, _, rfl, rfl, _, rfl, ite2 (fun c => ?_) (fun c => ?_)⟩
      · have gt : xOf m ns (pl m ri) > xOf m ns (pl m rj) + rc := of_decide_eq_true c
        refine ⟨_, hD', by rw [List.length_replicate]; exact smallL (by omega), fun b' o z => ?_, n + 1, by rw [upd_same, List.replicate_succ'] <;> rfl, by omega, ⟨fun z => absurd z (by omega), fun z => ?_⟩⟩
        · rw [upd_ne (ne_of_none z hD)]
          exact s' _ _ z
        · have := (kp.mp z).2
          simp only at this
          omega
      · have le : xOf m ns (pl m ri) ≤ xOf m ns (pl m rj) + rc := by
          have : ¬ xOf m ns (pl m ri) > xOf m ns (pl m rj) + rc := fun z => c (decide_eq_true z)
          omega
        refine ⟨s', n, hD', by omega, ?_⟩
        rw [hn, kp]
        exact ⟨fun z => ⟨z, le⟩, fun z => z.1⟩
    · rintro H4 ⟨s4, n, hD4, nj, hn⟩
      have e : (edges m rs).take xs.length = edges m rs := List.take_of_length_le (by unfold edges; simp [xl])
      rw [e] at hn
      refine ⟨(by show 0 ≤ sizeLine; decide), fun z hz => ?_⟩
      have s5 := same_new (o := .lst []) hz
      refine ones_eq (n := n) (by rw [upd_ne (ne_of_none hD4 hz)]; exact hD4) upd_same (q _ _ (s03.trans (s4.trans s5)) ?_)
      rw [decide_eq_true_iff]
      exact hn
end
end Lm

set_option Elab.async false
set_option linter.all false
set_option maxRecDepth 100000
set_option maxHeartbeats 2000000
set_option pp.maxSteps 600
set_option pp.deepTerms.threshold 6
namespace Lm
open PySem PySem.Spec PyProof.Rows L2 LmR
/-- a place's number -/
def unp (m a : Nat) : Int := if a = m then -1 else (a : Int)
theorem unp_pl {m : Nat} {i : Int} (h1 : -1 ≤ i) (h2 : i < m) : unp m (pl m i) = i := by
  unfold unp pl
  by_cases e : i = -1
  · rw [if_pos e, if_pos rfl, e]
  · rw [if_neg e, if_neg (by omega)]
    omega
theorem unp_lo (m a : Nat) : -1 ≤ unp m a := by unfold unp; split <;> omega
theorem unp_hi {m a : Nat} (h : a ≤ m) : unp m a < m := by unfold unp; split <;> omega
theorem pl_unp {m a : Nat} (h : a ≤ m) : pl m (unp m a) = a := by
  unfold unp pl
  by_cases e : a = m
  · rw [if_pos e, if_pos rfl, e]
  · rw [if_neg e, if_neg (by omega)]
    omega
theorem unp_inj {m a b : Nat} (ha : a ≤ m) (hb : b ≤ m) (h : unp m a = unp m b) : a = b := by
  have z := congrArg (pl m) h
  rwa [pl_unp ha, pl_unp hb] at z
def placeV (m : Nat) : Option Nat → V
  | none => .non
  | some a => .int (unp m a)
theorem slV_nul (m : Nat) : (List.replicate (m + 1) [V.int 0]).flatten = slV m fun _ => some 0 := by
  have e : ∀ n : Nat, (List.replicate n [V.int 0]).flatten = List.replicate n (V.int 0) := fun n => by
    induction n with
    | zero => rfl
    | succ n ih => rw [List.replicate_succ, List.flatten_cons, ih]; rfl
  rw [e]
  refine List.ext_getElem? fun a => ?_
  by_cases ha : a ≤ m
  · rw [slV_at m _ ha, List.getElem?_replicate, if_pos (by omega)]
    rfl
  · rw [List.getElem?_eq_none (by rw [List.length_replicate]; omega), List.getElem?_eq_none (by rw [slV_len]; omega)]
def xS (s : BFd) : Sums := fun a => some (s.x a)
theorem rowsB_next {R : List Edge} {s : BFd} {k : Nat} {e : Edge} (h : R[k]? = some e) : rowsB R s (k + 1) = stB k (rowsB R s k) e := by
  show (match R[k]? with | some e => stB k (rowsB R s k) e | none => rowsB R s k) = _
  rw [h]
section
variable {P : Program} {w : World} {K : PySem.W.Frag} {mg : Str → Option Value} {base : Heap}
abbrev s_lowered : Stmt := topS 12
theorem sc_lowered : FnScope ["many", "rows", "numbers", "by", "place", "turn", "at", "i", "j", "c"] ["many", "rows"] (defScope s_lowered) := ⟨rfl, rfl, rfl, by decide +kernel, rfl, by decide +kernel, by decide +kernel⟩
def spLow (K : PySem.W.Frag) : Sp := fun vs H Q _ => ∃ (m : Nat) (a : Addr) (rs : List Row), vs = [.int m, .ref a] ∧ m ≤ 100 ∧ rs.length ≤ 100 ∧ Dp K H (.ref a) (.tuple (rs.map rowD)) ∧ (∀ r ∈ rs, RowOk m r) ∧
  ∀ (t p : Addr) (H' : Hp), Same H H' → H' t = some (.tup [placeV m (turnsB (edges m rs) (m + 1)).pl, .ref p]) → H' p = some (.lst (slV m (turnsB (edges m rs) (m + 1)).by_)) → Q (.ref t) H'
theorem ok_lowered (B : Bt mg) (D : DefAt K mg "lowered" s_lowered ["many", "rows"]) : Cal P w K mg base 1 "lowered" ["many", "rows"] (spLow K) := by
  refine cal_of D sc_lowered (fun vs H Q E h => ?_) (fun f cdv A outer s H vs Q E hr h => ?_)
  · obtain ⟨m, a, rs, rfl, _⟩ := h
    rfl
  obtain ⟨m, a, rs, rfl, hm, hl, hD, hok, q⟩ := h
  refine ⟨_, (pss_cons (ps_set (i := 2) sc_lowered.nd rfl (.inl rfl) (pe_op op_rep (pe_lst (pa_cons pe_int pa_nil)) (pe_op op_add (pv 0) pe_int)))
      (pss_cons (ps_set (i := 3) sc_lowered.nd rfl (.inl rfl) (pe_op op_rep (pe_lst (pa_cons pe_non pa_nil)) (pe_op op_add (pv 0) pe_int)))
      (pss_cons (ps_set (i := 4) sc_lowered.nd rfl (.inl rfl) pe_non)
      (pss_cons (ps_for PassesOwn.never rfl (pi_range1 (by rfl) B.range (pa_cons (pe_op op_add (pv 0) pe_int) pa_nil)) (pg_name (i := 5) sc_lowered.nd rfl (.inl rfl))
        (pss_one (ps_for PassesOwn.never rfl (pi_enumT (by rfl) B.enumerate (pa_cons (pv 1) pa_nil)) (pg_tup rfl (pgs_cons (pg_name (i := 6) sc_lowered.nd rfl (.inl rfl)) (pgs_cons (pg_tup rfl (pgs_cons (pg_name (i := 7) sc_lowered.nd rfl (.inl rfl)) (pgs_cons (pg_name (i := 8) sc_lowered.nd rfl (.inl rfl)) (pgs_cons (pg_name (i := 9) sc_lowered.nd rfl (.inl rfl)) pgs_nil)))) pgs_nil)))
        (pss_one (ps_if (pt_cmpR op_lt (pe_op op_add (pe_ix ix_list (pv 2) (pv 8) (fun _ _ => rfl)) (pv 9)) (pe_ix ix_list (pv 2) (pv 7) (fun _ _ => rfl)) (nomark _))
        (pss_cons (ps_asg (pe_op op_add (pe_ix ix_list (pv 2) (pv 8) (fun _ _ => rfl)) (pv 9)) (pg_sub (pv 2) (pv 7) set_list))
      (pss_cons (ps_asg (pv 6) (pg_sub (pv 3) (pv 7) set_list))
      (pss_one (ps_set (i := 4) sc_lowered.nd rfl (.inl rfl) (pv 7)))))
        pss_nil)))))
      (pss_one (ps_ret (pe_tup (pa_cons (pv 4) (pa_cons (pv 3) pa_nil))))))))), ?_⟩
  obtain ⟨xs, hlx, hxs⟩ : ∃ xs, SqT K H a xs ∧ DpAll K H xs (rs.map rowD) := by
    cases hD with
    | tup qa r => exact ⟨_, qa, r⟩
  obtain ⟨xl, xg⟩ := dpall_getM _ hxs
  have em : ((m : Int) + 1).toNat = m + 1 := by omega
  refine ⟨(by show 1 ≤ sizeLine; decide), fun l0 hl0 => ⟨_, rfl, _, _, rfl, rfl, l0, (m : Int) + 1, _, rfl, rfl, upd_same, by omega, by omega, ?_, fun p1 hp1 => ?_⟩⟩
  · rw [em]
    exact small (by show 1 * (m + 1) ≤ 100000; omega)
  rw [em, slV_nul]
  have s1 := (same_new (o := .lst [V.int 0]) hl0)
  have s2 := s1.trans (same_new (o := .lst (slV m fun _ => some 0)) hp1)
  have p10 : H p1 = none := s1.free hp1
  have e2 : (upd (upd H l0 (.lst [V.int 0])) p1 (.lst (slV m fun _ => some 0))) p1 = some (.lst (slV m fun _ => some 0)) := upd_same
  generalize upd (upd H l0 (.lst [V.int 0])) p1 (.lst (slV m fun _ => some 0)) = H2 at s2 e2
  refine ⟨(by show 1 ≤ sizeLine; decide), fun l3 hl3 => ⟨_, rfl, _, _, rfl, rfl, l3, (m : Int) + 1, _, rfl, rfl, upd_same, by omega, by omega, ?_, fun p2 hp2 => ?_⟩⟩
  · rw [em]
    exact small (by show 1 * (m + 1) ≤ 100000; omega)
  rw [em, slV_none]
  have s3 := (same_new (o := .lst [V.non]) hl3)
  have s4 := s3.trans (same_new (o := .lst (slV m fun _ => none)) hp2)
  have p20 : H p2 = none := s2.free (s3.free hp2)
  have e41 := s4 _ _ e2
  have e42 : (upd (upd H2 l3 (.lst [V.non])) p2 (.lst (slV m fun _ => none))) p2 = some (.lst (slV m fun _ => none)) := upd_same
  have n12 : p1 ≠ p2 := ne_of_none e2 (s3.free hp2)
  have s24 := s2.trans s4
  generalize upd (upd H2 l3 (.lst [V.non])) p2 (.lst (slV m fun _ => none)) = H4 at s24 e41 e42
  refine ⟨_, rfl, _, _, rfl, rfl, (m : Int) + 1, rfl, by omega, by omega, for_range (lo := 0) (n := ((m : Int) + 1).toNat) (fun t σ' H' => (∃ y5 y6 y7 y8 y9 : Option V, σ' = [some (.int m), some (.ref a), some (.ref p1), some (.ref p2), some (placeV m (turnsB (edges m rs) t).pl), y5, y6, y7, y8, y9]) ∧ Same H H' ∧ H' p1 = some (.lst (slV m (xS (turnsB (edges m rs) t)))) ∧ H' p2 = some (.lst (slV m (turnsB (edges m rs) t).by_))) ⟨⟨_, _, _, _, _, rfl⟩, s24, e41, e42⟩ ?_ ?_⟩
  · rintro t σ' H' ht ⟨⟨y5, y6, y7, y8, y9, rfl⟩, s', e1', e2'⟩
    refine ⟨_, rfl, a, xs, rfl, Tp.same s' _ _ hlx, for_enumT (K := K) (xs := xs) (fun k σ2 H3 => (∃ y6 y7 y8 y9 : Option V, σ2 = [some (.int m), some (.ref a), some (.ref p1), some (.ref p2), some (placeV m (rowsB (edges m rs) (turnsB (edges m rs) t) k).pl), some (.int (0 + (t : Int))), y6, y7, y8, y9]) ∧ Same H H3 ∧ H3 p1 = some (.lst (slV m (xS (rowsB (edges m rs) (turnsB (edges m rs) t) k)))) ∧ H3 p2 = some (.lst (slV m (rowsB (edges m rs) (turnsB (edges m rs) t) k).by_))) ?_ ?_ ?_ ?_⟩
    · exact ⟨⟨_, _, _, _, rfl⟩, s', e1', e2'⟩
    · rintro k σ2 H3 ⟨_, s3, _⟩
      exact Tp.same s3 _ _ hlx
    · rintro k x σ2 H3 T hx ⟨⟨y6, y7, y8, y9, rfl⟩, s3, e31, e32⟩ hT
      have al : k < rs.length := by rw [← xl]; exact (List.getElem?_eq_some_iff.mp hx).1
      have er := List.getElem?_eq_getElem al
      obtain ⟨x', hx', dx⟩ := xg k rs[k] er
      rw [hx] at hx'
      cases hx'
      obtain ⟨tr, rfl, htr⟩ := row_read dx
      have hok1 := hok rs[k] (List.getElem_mem al)
      have fn := rowsB_next (s := turnsB (edges m rs) t) (edges_at (m := m) er)
      rw [fn]
      generalize rs[k] = r at htr hok1 dx er
      obtain ⟨ri, rj, rc⟩ := r
      obtain ⟨o1, o2, o3, o4⟩ := hok1
      generalize rowsB (edges m rs) (turnsB (edges m rs) t) k = S at e31 e32
      have sT := same_new (o := .tup [.int (k : Nat), .ref tr]) hT
      have eT : (upd H3 T (.tup [.int (k : Nat), .ref tr])) T = some (.tup [.int (k : Nat), .ref tr]) := upd_same
      have s5 := s3.trans sT
      have e51 := sT _ _ e31
      have e52 := sT _ _ e32
      generalize upd H3 T (.tup [.int (k : Nat), .ref tr]) = H5 at eT s5 e51 e52
      have L5 : SqL K H5 p1 (slV m (xS S)) := SqL.of e51
      have aj : atI (slV m (xS S)) rj = some (.int (S.x (pl m rj))) := at_pl (slV_len m _) o3 o4 (slV_at m _ (pl_le o3 o4))
      have ai : atI (slV m (xS S)) ri = some (.int (S.x (pl m ri))) := at_pl (slV_len m _) o1 o2 (slV_at m _ (pl_le o1 o2))
      refine ⟨T, _, rfl, .inl (.inl eT), rfl, _, _, rfl, _, _, rfl, tr, _, rfl, Tp.same s5 _ _ htr, rfl, _, _, rfl, _, _, rfl, _, _, rfl, rfl, rfl, ?_⟩
      refine ⟨_, rfl, _, rfl, p1, _, rj, _, rfl, rfl, L5, aj, _, rfl, _, _, rfl, rfl, _, rfl, _, rfl, p1, _, ri, _, rfl, rfl, L5, ai, _, _, rfl, rfl, _, rfl, ite2 (fun c => ?_) (fun c => ?_)⟩
      · have lt : S.x (pl m rj) + rc < S.x (pl m ri) := of_decide_eq_true c
        have ee : stB k S (edgeR m (ri, rj, rc)) = ⟨fun a => if a = pl m ri then S.x (pl m rj) + rc else S.x a, fun a => if a = pl m ri then some (k : Int) else S.by_ a, some (pl m ri)⟩ := if_pos lt
        rw [ee]
        refine ⟨_, rfl, _, rfl, p1, _, rj, _, rfl, rfl, L5, aj, _, rfl, _, _, rfl, rfl, _, rfl, _, rfl, p1, _, ri, pl m ri, rfl, rfl, e51, by rw [slV_len]; exact ixN_pl o1 o2, ?_⟩
        refine ⟨_, rfl, _, rfl, _, rfl, p2, _, ri, pl m ri, rfl, rfl, by rw [upd_ne (fun z => n12 z.symm)]; exact e52, by rw [slV_len]; exact ixN_pl o1 o2, ?_⟩
        rw [slV_set, slV_set]
        refine ⟨_, rfl, ⟨some (.int (k : Nat)), some (.int ri), some (.int rj), some (.int rc), ?_⟩, fun b o z => ?_, ?_, upd_same⟩
        · show _ = [_, _, _, _, some (V.int (unp m (pl m ri))), _, _, _, _, _]
          rw [unp_pl o1 o2]
          rfl
        · rw [upd_ne (ne_of_none z p20), upd_ne (ne_of_none z p10)]
          exact s5 _ _ z
        · rw [upd_ne n12, upd_same]
          refine congrArg (fun z => some (HO.lst (slV m z))) (funext fun a => ?_)
          show (if a = pl m ri then some (S.x (pl m rj) + rc) else some (S.x a)) = some (if a = pl m ri then S.x (pl m rj) + rc else S.x a)
          split <;> rfl
      · have nlt : ¬ S.x (pl m rj) + rc < S.x (pl m ri) := fun z => c (decide_eq_true z)
        have ee : stB k S (edgeR m (ri, rj, rc)) = S := if_neg nlt
        rw [ee]
        exact ⟨⟨_, _, _, _, rfl⟩, s5, e51, e52⟩
    · rintro σ2 H3 ⟨⟨y6, y7, y8, y9, rfl⟩, s3, e31, e32⟩
      have e : (edges m rs).length = xs.length := by unfold edges; rw [List.length_map, xl]
      have ee : turnsB (edges m rs) (t + 1) = rowsB (edges m rs) (turnsB (edges m rs) t) xs.length := by
        show rowsB (edges m rs) (turnsB (edges m rs) t) (edges m rs).length = _
        rw [e]
      rw [← ee] at e31 e32 ⊢
      exact ⟨⟨_, _, _, _, _, rfl⟩, s3, e31, e32⟩
  · rintro σ' H' ⟨⟨y5, y6, y7, y8, y9, rfl⟩, s', e1', e2'⟩
    rw [em] at e1' e2' ⊢
    refine ⟨_, rfl, _, rfl, (by show 2 ≤ sizeLine; decide), fun t ht => q t p2 _ (s'.trans (same_new ht)) upd_same ?_⟩
    rw [upd_ne (ne_of_none e2' ht)]
    exact e2'
end
end Lm

set_option Elab.async false
set_option linter.all false
set_option maxRecDepth 100000
set_option maxHeartbeats 2000000
set_option pp.maxSteps 600
set_option pp.deepTerms.threshold 6
namespace Lm
open PySem PySem.Spec PyProof.Rows L2 LmR
def r00 : Row := (0, 0, 0)
/-- each row ends where the next one begins -/
def Rnd (ts : List Row) : Prop := ∀ k, k < ts.length → (ts.getD k r00).2.1 = (ts.getD ((k + 1) % ts.length) r00).1
theorem getD_at {α : Type} {l : List α} {k : Nat} {x d : α} (h : l[k]? = some x) : l.getD k d = x := by
  rw [List.getD_eq_getElem?_getD, h]
  rfl
def rA (rs : List Row) (z : Int) : Row := rs.getD z.toNat r00
def RingP (rs : List Row) (ns : List Int) : Prop := ns ≠ [] ∧ ns.Nodup ∧ (∀ z ∈ ns, 0 ≤ z ∧ z < rs.length) ∧ Rnd (ns.map (rA rs)) ∧ (ns.map fun z => (rA rs z).2.2).sum < 0
section
variable {P : Program} {w : World} {K : PySem.W.Frag} {mg : Str → Option Value} {base : Heap} {c_Bounds : Addr}
theorem edges_get {m : Nat} {rs : List Row} {n : Nat} {e : Edge} (h : (edges m rs)[n]? = some e) : ∃ r, rs[n]? = some r ∧ edgeR m r = e := by
  unfold edges at h
  rw [List.getElem?_map] at h
  cases hr : rs[n]? with
  | none => rw [hr] at h; cases h
  | some r => rw [hr] at h; exact ⟨r, rfl, Option.some.inj h⟩
/-- the way round is a ring of rows -/
theorem ring_P {m : Nat} {rs : List Row} (hok : ∀ r ∈ rs, RowOk m r) {T p M j : Nat} (on : ∀ k, OnB (edges m rs) (turnsB (edges m rs) T) (qB (edges m rs) (turnsB (edges m rs) T) p k)) (j1 : 1 ≤ j)
    (hq : qB (edges m rs) (turnsB (edges m rs) T) p (M + j) = qB (edges m rs) (turnsB (edges m rs) T) p M) (hn : ∀ k, 1 ≤ k → k < j → qB (edges m rs) (turnsB (edges m rs) T) p (M + k) ≠ qB (edges m rs) (turnsB (edges m rs) T) p M) :
    RingP rs ((List.range j).map fun k => nB (turnsB (edges m rs) T) (qB (edges m rs) (turnsB (edges m rs) T) p (M + k))) := by
  have low := ring_below on j1 hq
  generalize turnsB (edges m rs) T = S at on hq hn low
  have st : ∀ k, ∃ (n : Nat) (r : Row), nB S (qB (edges m rs) S p k) = (n : Int) ∧ rs[n]? = some r ∧ RowOk m r ∧ pl m r.1 = qB (edges m rs) S p k ∧ pl m r.2.1 = qB (edges m rs) S p (k + 1) := fun k => by
    obtain ⟨n, hn, e, he, h1, h2⟩ := on k
    obtain ⟨r, hr2, rfl⟩ := edges_get he
    exact ⟨n, r, by unfold nB; rw [hn]; rfl, hr2, hok r (List.mem_of_getElem? hr2), h1, h2.symm⟩
  have rAn : ∀ {n : Nat} {r : Row}, rs[n]? = some r → rA rs (n : Int) = r := fun {n} {r} h => by
    unfold rA
    exact getD_at (by rw [show ((n : Nat) : Int).toNat = n by omega]; exact h)
  have rep : ∀ a b i, qB (edges m rs) S p a = qB (edges m rs) S p b → qB (edges m rs) S p (a + i) = qB (edges m rs) S p (b + i) := fun a b i h => by
    induction i with
    | zero => exact h
    | succ i ih =>
      show nxtB _ S (qB (edges m rs) S p (a + i)) = nxtB _ S (qB (edges m rs) S p (b + i))
      rw [ih]
  have dist : ∀ a b, a < b → b < j → qB (edges m rs) S p (M + a) ≠ qB (edges m rs) S p (M + b) := fun a b ab bj h => by
    have z := rep _ _ (j - b) h
    rw [show M + b + (j - b) = M + j by omega, hq, show M + a + (j - b) = M + (a + (j - b)) by omega] at z
    exact hn _ (by omega) (by omega) z
  refine ⟨fun z => ?_, ?_, fun z hz => ?_, fun k hk => ?_, ?_⟩
  · have l := congrArg List.length z
    rw [List.length_map, List.length_range] at l
    have l' : j = 0 := l
    omega
  · unfold List.Nodup
    rw [List.pairwise_map]
    refine List.Pairwise.imp_of_mem (fun {a b} ha hb lt e => ?_) List.pairwise_lt_range
    obtain ⟨n, r, e1, e2, _, e3, _⟩ := st (M + a)
    obtain ⟨n', r', f1, f2, _, f3, _⟩ := st (M + b)
    rw [e1, f1] at e
    have : n = n' := by omega
    subst this
    rw [e2] at f2
    cases f2
    exact dist a b lt (List.mem_range.mp hb) (e3.symm.trans f3)
  · obtain ⟨k, _, rfl⟩ := List.mem_map.mp hz
    obtain ⟨n, r, e1, e2, _⟩ := st (M + k)
    rw [e1]
    have := (List.getElem?_eq_some_iff.mp e2).1
    omega
  · rw [List.length_map, List.length_map, List.length_range] at hk ⊢
    have gk : ∀ i, i < j → (((List.range j).map fun k => nB S (qB (edges m rs) S p (M + k))).map (rA rs)).getD i r00 = rA rs (nB S (qB (edges m rs) S p (M + i))) := fun i hi => getD_at (by rw [List.getElem?_map, List.getElem?_map, List.getElem?_range hi]; rfl)
    have jm : (k + 1) % j < j := Nat.mod_lt _ (by omega)
    rw [gk k hk, gk _ jm]
    obtain ⟨n, r, e1, e2, e0, e3, e4⟩ := st (M + k)
    obtain ⟨n', r', f1, f2, f0, f3, f4⟩ := st (M + (k + 1) % j)
    rw [e1, f1, rAn e2, rAn f2]
    have same : qB (edges m rs) S p (M + k + 1) = qB (edges m rs) S p (M + (k + 1) % j) := by
      by_cases c : k + 1 < j
      · rw [Nat.mod_eq_of_lt c]
        rfl
      · have : k + 1 = j := by omega
        rw [this, Nat.mod_self, show M + k + 1 = M + j by omega, hq]
        rfl
    have z : pl m r.2.1 = pl m r'.1 := by rw [e4, f3, same]
    have z2 := congrArg (unp m) z
    rwa [unp_pl e0.2.2.1 e0.2.2.2, unp_pl f0.1 f0.2.1] at z2
  · have sm : ∀ i, (((List.range i).map fun k => nB S (qB (edges m rs) S p (M + k))).map fun z => (rA rs z).2.2).sum = sumB (edges m rs) S p M i := fun i => by
      induction i with
      | zero => rfl
      | succ i ih =>
        rw [List.range_succ, List.map_append, List.map_append, List.sum_append, ih]
        show _ + ((rA rs (nB S (qB (edges m rs) S p (M + i)))).2.2 + 0) = _ + wB (edges m rs) S (qB (edges m rs) S p (M + i))
        obtain ⟨n, r, e1, e2, _⟩ := st (M + i)
        rw [Int.add_zero]
        unfold wB
        rw [e1, rAn e2, show ((n : Nat) : Int).toNat = n by omega, edges_at e2]
        rfl
    rw [sm]
    exact low
abbrev s_ring_among : Stmt := topS 11
theorem sc_ring_among : FnScope ["many", "rows", "place", "by", "turn", "ring", "end"] ["many", "rows"] (defScope s_ring_among) := ⟨rfl, rfl, rfl, by decide +kernel, rfl, by decide +kernel, by decide +kernel⟩
def spRing (K : PySem.W.Frag) : Sp := fun vs H Q _ => ∃ (m : Nat) (a : Addr) (rs : List Row), vs = [.int m, .ref a] ∧ m ≤ 100 ∧ rs.length ≤ 100 ∧ Dp K H (.ref a) (.tuple (rs.map rowD)) ∧ (∀ r ∈ rs, RowOk m r) ∧ closedF (edges m rs) openF = none ∧
  ∀ (t : Addr) (ns : List Int) (H' : Hp), Same H H' → H' t = some (.tup (ns.map V.int)) → 1 ≤ ns.length → ns.length ≤ m + 1 → RingP rs ns → Q (.ref t) H'
theorem ok_ring_among (B : Bt mg) (C_lowered : Cal P w K mg base 1 "lowered" ["many", "rows"] (spLow K)) (D : DefAt K mg "ring_among" s_ring_among ["many", "rows"]) : Cal P w K mg base 2 "ring_among" ["many", "rows"] (spRing K) := by
  refine cal_of D sc_ring_among (fun vs H Q E h => ?_) (fun f cdv A outer s H vs Q E hr h => ?_)
  · obtain ⟨m, a, rs, rfl, _⟩ := h
    rfl
  obtain ⟨m, a, rs, rfl, hm, hl, hD, hok, hcl, q⟩ := h
  have hr' : Room 1 _ := hr
  refine ⟨_, (pss_cons (ps_asg (pe_cal C_lowered hr' (by rfl) (pa_cons (pv 0) (pa_cons (pv 1) pa_nil))) (pg_tup rfl (pgs_cons (pg_name (i := 2) sc_ring_among.nd rfl (.inl rfl)) (pgs_cons (pg_name (i := 3) sc_ring_among.nd rfl (.inl rfl)) pgs_nil))))
      (pss_cons (ps_for PassesOwn.never rfl (pi_range1 (by rfl) B.range (pa_cons (pe_op op_add (pv 0) pe_int) pa_nil)) (pg_name (i := 4) sc_ring_among.nd rfl (.inl rfl))
        (pss_one (ps_set (i := 2) sc_ring_among.nd rfl (.inl rfl) (pe_ix ix_tup (pe_ix ix_tup (pv 1) (pe_ix ix_list (pv 3) (pv 2) (fun _ _ => rfl)) (fun _ _ => rfl)) pe_int (fun _ _ => rfl)))))
      (pss_cons (ps_set (i := 5) sc_ring_among.nd rfl (.inl rfl) (pe_lst (pa_cons (pe_ix ix_list (pv 3) (pv 2) (fun _ _ => rfl)) pa_nil)))
      (pss_cons (ps_set (i := 6) sc_ring_among.nd rfl (.inl rfl) (pe_ix ix_tup (pe_ix ix_tup (pv 1) (pe_ix ix_list (pv 3) (pv 2) (fun _ _ => rfl)) (fun _ _ => rfl)) pe_int (fun _ _ => rfl)))
      (pss_cons (ps_while PassesOwn.never (pt_cmpR op_ne (pv 6) (pv 2) (nomark _))
        (pss_cons (ps_expr (pe_bm PySem.F.plainAttrs_list PySem.F.slot_list_append PySem.F.type_list_append mt_append (pv 5) (pa_cons (pe_ix ix_list (pv 3) (pv 6) (fun _ _ => rfl)) pa_nil)))
      (pss_one (ps_set (i := 6) sc_ring_among.nd rfl (.inl rfl) (pe_ix ix_tup (pe_ix ix_tup (pv 1) (pe_ix ix_list (pv 3) (pv 6) (fun _ _ => rfl)) (fun _ _ => rfl)) pe_int (fun _ _ => rfl))))))
      (pss_one (ps_ret (pe_callTy call_tuple_of (by rfl) B.tuple PyProof.Rows.boot_tuple (pa_cons (pv 5) pa_nil))))))))), ?_⟩
  refine ⟨_, rfl, _, rfl, m, a, rs, rfl, hm, hl, hD, hok, fun t p H1 s1 e1 e2 => ?_⟩
  obtain ⟨xs, hlx, hxs⟩ : ∃ xs, SqT K H a xs ∧ DpAll K H xs (rs.map rowD) := by
    cases hD with
    | tup qa r => exact ⟨_, qa, r⟩
  obtain ⟨xl, xg⟩ := dpall_getM _ hxs
  have hlx1 := Tp.same s1 _ _ hlx
  obtain ⟨p0, hp0, on, d0, d01, d02, hd0⟩ := bf_end (edges_ok hok) (by obtain ⟨a1, t1, _, h1, h2⟩ := closed_none (edges_ok hok) hcl; exact ⟨a1, t1, h1, h2⟩)
  obtain ⟨d, d1, d2', hd, hfst⟩ := first_again (q := fun k => qB (edges m rs) (turnsB (edges m rs) (m + 1)) p0 (m + 1 + k)) d01 hd0
  have d2 : d ≤ m + 1 := by omega
  have hd : qB (edges m rs) (turnsB (edges m rs) (m + 1)) p0 (m + 1 + d) = qB (edges m rs) (turnsB (edges m rs) (m + 1)) p0 (m + 1) := hd
  have hRing := ring_P hok on d1 hd (fun k k1 k2 => hfst k k1 k2)
  have hfst : ∀ k, 1 ≤ k → k < d → qB (edges m rs) (turnsB (edges m rs) (m + 1)) p0 (m + 1 + k) ≠ qB (edges m rs) (turnsB (edges m rs) (m + 1)) p0 (m + 1) := fun k k1 k2 => hfst k k1 k2
  generalize turnsB (edges m rs) (m + 1) = S at e1 e2 hp0 on hd hRing hfst
  rw [hp0] at e1
  obtain ⟨qq, hqq⟩ : ∃ qq, qB (edges m rs) S p0 = qq := ⟨_, rfl⟩
  have hq0 : p0 = qq 0 := by rw [← hqq]; rfl
  rw [hqq] at on hd hRing hfst
  have st : ∀ k, ∃ (n : Nat) (z : Int) (tr : Addr) (u v : V), n < rs.length ∧ nB S (qq k) = (n : Int) ∧ atI (slV m S.by_) (unp m (qq k)) = some (.int n) ∧ atI xs n = some (.ref tr) ∧ SqT K H1 tr [u, .int (unp m (qq (k + 1))), v] := fun k => by
    obtain ⟨n, hn, e, he, h1, h2⟩ := on k
    obtain ⟨r, hr2, rfl⟩ := edges_get he
    have hokr := hok r (List.mem_of_getElem? hr2)
    obtain ⟨ri, rj, rc⟩ := r
    obtain ⟨o1, o2, o3, o4⟩ := hokr
    have h1' : pl m ri = qq k := h1
    have h2' : qq (k + 1) = pl m rj := by
      rw [← hqq] at h2 ⊢
      exact h2
    have hk : qq k ≤ m := by rw [← h1']; exact pl_le o1 o2
    obtain ⟨x, hx, dx⟩ := xg n _ hr2
    obtain ⟨tr, rfl, htr⟩ := row_read dx
    refine ⟨n, 0, tr, .int ri, .int rc, (List.getElem?_eq_some_iff.mp hr2).1, by unfold nB; rw [hn]; rfl, at_pl (slV_len m _) (unp_lo m _) (unp_hi hk) ?_, at_of (j := n) rfl hx, ?_⟩
    · rw [pl_unp hk, slV_at m _ hk, hn]
      rfl
    · rw [h2', unp_pl o3 o4]
      exact Tp.same s1 _ _ htr
  have L2 : SqL K H1 p (slV m S.by_) := SqL.of e2
  have e1' : H1 t = some (.tup [.int (unp m (qq 0)), .ref p]) := by rw [e1, hq0]; rfl
  refine ⟨t, _, rfl, .inl (.inl e1'), rfl, _, _, rfl, _, _, rfl, rfl, ?_⟩
  refine ⟨_, rfl, _, _, rfl, rfl, (m : Int) + 1, rfl, by omega, by omega, for_range (lo := 0) (n := ((m : Int) + 1).toNat) (fun k σ' H' => (∃ y4 y5 y6 : Option V, σ' = [some (.int m), some (.ref a), some (.int (unp m (qq k))), some (.ref p), y4, y5, y6]) ∧ H' = H1) ⟨⟨_, _, _, rfl⟩, rfl⟩ ?_ ?_⟩
  · rintro k σ' H' hk ⟨⟨y4, y5, y6, rfl⟩, rfl⟩
    obtain ⟨n, _, tr, u, v, hn, hnB, a1, a2, htr⟩ := st k
    exact ⟨_, rfl, _, rfl, _, rfl, p, _, _, _, rfl, rfl, L2, a1, a, xs, n, _, rfl, rfl, hlx1, a2, tr, _, 1, _, rfl, rfl, htr, rfl, ⟨_, _, _, rfl⟩, rfl⟩
  rintro σ' H' ⟨⟨y4, y5, y6, rfl⟩, rfl⟩
  rw [show ((m : Int) + 1).toNat = m + 1 by omega]
  obtain ⟨n, _, tr, u, v, hn, hnB, a1, a2, htr⟩ := st (m + 1)
  refine ⟨_, rfl, _, rfl, p, _, _, _, rfl, rfl, L2, a1, (by show 1 ≤ sizeLine; decide), fun L hL => ?_⟩
  have sL := same_new (o := .lst [V.int n]) hL
  have eL : (upd H' L (.lst [V.int n])) L = some (.lst ([(n : Int)].map V.int)) := upd_same
  have npL : p ≠ L := ne_of_none e2 hL
  have L0 : H L = none := s1.free hL
  generalize upd H' L (.lst [V.int n]) = H2 at sL eL
  refine ⟨_, rfl, _, rfl, _, rfl, p, _, _, _, rfl, rfl, SqL.of (sL _ _ e2), a1, a, xs, n, _, rfl, rfl, Tp.same sL _ _ hlx1, a2, tr, _, 1, _, rfl, rfl, Tp.same sL _ _ htr, rfl, ?_⟩
  refine while_by (fun σ' H5 => ∃ (y4 : Option V) (j : Nat) (ns : List Int), 1 ≤ j ∧ j ≤ d ∧ σ' = [some (.int m), some (.ref a), some (.int (unp m (qq (m + 1)))), some (.ref p), y4, some (.ref L), some (.int (unp m (qq (m + 1 + j))))] ∧ Same H' H5 ∧ H5 L = some (.lst (ns.map V.int)) ∧ ns.length = j ∧ ns = (List.range j).map fun k => nB S (qq (m + 1 + k)))
    (fun _ H5 => match H5 L with | some (.lst ys) => d - ys.length | _ => 0) ⟨_, 1, [(n : Int)], by omega, d1, rfl, sL, eL, rfl, by rw [← hnB]; rfl⟩ ?_ (fun σ H Q Q' hh h => ?_)
  · rintro σ' H5 ⟨y4, j, ns, j1, jd, rfl, s5, e5, l5, b5⟩
    refine ⟨_, rfl, _, rfl, rfl, _, rfl, ?_⟩
    by_cases c : unp m (qq (m + 1 + j)) = unp m (qq (m + 1))
    · rw [decide_eq_true (congrArg V.int c)]
      have hjq : qq (m + 1 + j) = qq (m + 1) := by
        have ok : ∀ k, qq k ≤ m := fun k => by
          obtain ⟨n3, _, e3, he3, h3, _⟩ := on k
          rw [← h3]
          exact (edges_ok hok e3 (List.mem_of_getElem? he3)).1
        exact unp_inj (ok _) (ok _) c
      have hjd : j = d := by
        rcases Nat.lt_or_ge j d with z | z
        · exact absurd hjq (hfst j j1 z)
        · omega
      subst hjd
      refine iteF ⟨_, rfl, L, _, rfl, .inl ⟨SqL.of e5, fun t2 ht2 => q t2 ns _ ((s1.trans s5).trans (same_new ht2)) upd_same (by omega) (by omega) (by rw [b5]; exact hRing)⟩⟩
    · rw [decide_eq_false (fun z => c (by injection z))]
      have jl : j < d := by
        rcases Nat.lt_or_ge j d with z | z
        · exact z
        · have : j = d := by omega
          rw [this, hd] at c
          exact absurd rfl c
      obtain ⟨n2, _, tr2, u2, v2, hn2, hnB2, b1, b2, htr2⟩ := st (m + 1 + j)
      refine iteT ⟨_, rfl, .inl ⟨rfl, _, SqL.of e5⟩, _, rfl, _, rfl, p, _, _, _, rfl, rfl, SqL.of (s5 _ _ e2), b1, L, _, _, rfl, rfl, e5, by rw [List.length_map]; exact smallL (by omega), ?_⟩
      have s6 : Same H' (upd H5 L (.lst (ns.map V.int ++ [V.int n2]))) := fun b o z => by
        rw [upd_ne (ne_of_none z hL)]
        exact s5 _ _ z
      have e6 : (upd H5 L (.lst (ns.map V.int ++ [V.int n2]))) L = some (.lst ((ns ++ [(n2 : Int)]).map V.int)) := by rw [upd_same, List.map_append]; rfl
      generalize upd H5 L (.lst (ns.map V.int ++ [V.int n2])) = H6 at s6 e6
      refine ⟨_, rfl, _, rfl, _, rfl, p, _, _, _, rfl, rfl, SqL.of (s6 _ _ e2), b1, a, xs, n2, _, rfl, rfl, Tp.same s6 _ _ hlx1, b2, tr2, _, 1, _, rfl, rfl, Tp.same s6 _ _ htr2, rfl, ⟨_, j + 1, ns ++ [(n2 : Int)], by omega, by omega, rfl, s6, e6, by rw [List.length_append, l5]; rfl, by rw [List.range_succ, List.map_append, ← b5, ← hnB2]; rfl⟩, ?_⟩
      · show (match H6 L with | some (.lst ys) => d - ys.length | _ => 0) < (match H5 L with | some (.lst ys) => d - ys.length | _ => 0)
        rw [e5, e6]
        show d - ((ns ++ [(n2 : Int)]).map V.int).length < d - (ns.map V.int).length
        rw [List.length_map, List.length_map, List.length_append]
        show d - (ns.length + 1) < _
        omega
  · obtain ⟨v1, f1, v2, f2, sc, b, eb, qb⟩ := h
    exact ⟨v1, f1, v2, f2, sc, b, eb, hh _ _ qb⟩
end
end Lm

set_option Elab.async false
set_option linter.all false
set_option maxRecDepth 100000
set_option maxHeartbeats 2000000
set_option pp.maxSteps 600
set_option pp.deepTerms.threshold 6
namespace Lm
open PySem PySem.Spec PyProof.Rows L2 LmR RZ
theorem take_snoc {α : Type} {l : List α} {j : Nat} {x : α} (h : l[j]? = some x) : l.take (j + 1) = l.take j ++ [x] := by
  rw [List.take_add_one, h]
  rfl
/-- the worths of the first k rows together -/
def preS (ts : List Row) (k : Nat) : Int := ((ts.take k).map fun r => r.2.2).sum
theorem preS_succ {ts : List Row} {k : Nat} (h : k < ts.length) : preS ts (k + 1) = preS ts k + (ts.getD k r00).2.2 := by
  have e := List.getElem?_eq_getElem h
  unfold preS
  rw [take_snoc e, List.map_append, List.sum_append, getD_at e]
  show _ + (ts[k].2.2 + 0) = _
  rw [Int.add_zero]
theorem preS_all (ts : List Row) : preS ts ts.length = (ts.map fun r => r.2.2).sum := by
  unfold preS
  rw [List.take_length]
theorem row_mem {ts : List Row} {k : Nat} (h : k < ts.length) : ts.getD k r00 ∈ ts := by
  rw [getD_at (List.getElem?_eq_getElem h)]
  exact List.getElem_mem h
/-- rows that go round and come together below nought hold of no numbers -/
theorem rnd_empty {m : Nat} {ts : List Row} (hok : ∀ r ∈ ts, RowOk m r) (hR : Rnd ts) (hn : 1 ≤ ts.length) (hs : (ts.map fun r => r.2.2).sum < 0) : closedF (edges m ts) openF = none := by
  cases e : closedF (edges m ts) openF with
  | none => rfl
  | some D =>
    have C := closed_some (edges_ok hok) e
    have w : ∀ k, k ≤ ts.length → Wlk (edges m ts) (pl m (ts.getD 0 r00).1) (pl m (ts.getD (k % ts.length) r00).1) (preS ts k) := fun k => by
      induction k with
      | zero =>
        intro _
        rw [Nat.zero_mod]
        exact .nil _
      | succ k ih =>
        intro hk
        have i := ih (by omega)
        rw [Nat.mod_eq_of_lt (show k < ts.length by omega)] at i
        rw [preS_succ (by omega)]
        refine i.app ?_
        rw [← hR k (by omega)]
        exact .one (List.mem_map.mpr ⟨_, row_mem (show k < ts.length by omega), rfl⟩)
    have z := w ts.length (Nat.le_refl _)
    rw [Nat.mod_self, preS_all] at z
    have r0 := hok _ (row_mem (show 0 < ts.length by omega))
    have := C.noneg z (pl_le r0.1 r0.2.1)
    omega
/-- rows that go round through no number twice and come together to nought hold of some -/
theorem rnd_some {m : Nat} {ts : List Row} (hok : ∀ r ∈ ts, RowOk m r) (hR : Rnd ts) (hn : 1 ≤ ts.length) (hnd : (ts.map fun r => r.1).Nodup) (hs : (ts.map fun r => r.2.2).sum = 0) : closedF (edges m ts) openF ≠ none := by
  intro e
  obtain ⟨a, t, _, ht, w⟩ := closed_none (edges_ok hok) e
  have uniq : ∀ k k', k < ts.length → k' < ts.length → pl m (ts.getD k r00).1 = pl m (ts.getD k' r00).1 → k = k' := fun k k' hk hk' h => by
    have r1 := hok _ (row_mem hk)
    have r2 := hok _ (row_mem hk')
    have z := congrArg (unp m) h
    rw [unp_pl r1.1 r1.2.1, unp_pl r2.1 r2.2.1, getD_at (List.getElem?_eq_getElem hk), getD_at (List.getElem?_eq_getElem hk')] at z
    unfold List.Nodup at hnd
    rw [List.pairwise_iff_getElem] at hnd
    rcases Nat.lt_trichotomy k k' with c | c | c
    · exact absurd (by rw [List.getElem_map, List.getElem_map]; exact z) (hnd k k' (by rw [List.length_map]; exact hk) (by rw [List.length_map]; exact hk') c)
    · exact c
    · exact absurd (by rw [List.getElem_map, List.getElem_map]; exact z.symm) (hnd k' k (by rw [List.length_map]; exact hk') (by rw [List.length_map]; exact hk) c)
  obtain ⟨x, hx⟩ : ∃ x : Nat → Int, ∀ k, k < ts.length → x (pl m (ts.getD k r00).1) = - preS ts k := by
    refine ⟨fun b => match (List.range ts.length).find? fun k => decide (pl m (ts.getD k r00).1 = b) with | some k => - preS ts k | none => 0, fun k hk => ?_⟩
    show (match (List.range ts.length).find? (fun k' => decide (pl m (ts.getD k' r00).1 = pl m (ts.getD k r00).1)) with | some k => - preS ts k | none => 0) = _
    cases e : (List.range ts.length).find? (fun k' => decide (pl m (ts.getD k' r00).1 = pl m (ts.getD k r00).1)) with
    | none =>
      have z := List.find?_eq_none.mp e k (List.mem_range.mpr hk)
      exact absurd (decide_eq_true rfl) z
    | some k' =>
      have z : pl m (ts.getD k' r00).1 = pl m (ts.getD k r00).1 := by
        have y := List.find?_some e
        exact of_decide_eq_true y
      have hk' := List.mem_range.mp (List.mem_of_find?_eq_some e)
      rw [uniq k' k hk' hk z]
  have kp : KeepsF x (edges m ts) := fun ed he => by
    obtain ⟨r, hr, rfl⟩ := List.mem_map.mp he
    obtain ⟨k, hk, rfl⟩ := List.mem_iff_getElem.mp hr
    have eg : ts.getD k r00 = ts[k] := getD_at (List.getElem?_eq_getElem hk)
    have h1 := hx k hk
    have h2 := hx ((k + 1) % ts.length) (Nat.mod_lt _ (by omega))
    rw [← hR k hk] at h2
    have h3 := preS_succ hk
    rw [eg] at h1 h2 h3
    show x (pl m ts[k].1) ≤ x (pl m ts[k].2.1) + ts[k].2.2
    rw [h1, h2]
    by_cases c : k + 1 < ts.length
    · rw [Nat.mod_eq_of_lt c]
      omega
    · have : k + 1 = ts.length := by omega
      rw [this, Nat.mod_self]
      rw [this, preS_all, hs] at h3
      show - preS ts k ≤ - (0 : Int) + _
      omega
  have := w.keeps kp
  omega
section
variable {P : Program} {w : World} {K : PySem.W.Frag} {mg : Str → Option Value} {base : Heap} {c_Bounds : Addr}
abbrev s_Bounds_rows : Stmt := inClass (topS 9) 1
theorem sc_Bounds_rows : FnScope ["self"] ["self"] (defScope s_Bounds_rows) := ⟨rfl, rfl, rfl, by decide +kernel, rfl, by decide +kernel, by decide +kernel⟩
def spRowsM (K : PySem.W.Frag) (C : Addr) : Sp := fun vs H Q _ => ∃ (x : Addr) (m : Nat) (rs : List Row), vs = [.ref x] ∧ BdAt K C H x m rs ∧ ∀ v, Fd K H v (.tuple (rs.map rowD)) → Q v H
theorem ok_Bounds_rows (T_Bounds : ClsAt K mg "Bounds" c_Bounds BF) (D : DefM K c_Bounds "rows" "Bounds.rows" s_Bounds_rows ["self"]) : CalM P w K mg base 1 c_Bounds "rows" ["self"] (spRowsM K c_Bounds) := by
  refine calm_of D sc_Bounds_rows (fun vs H Q E h => ?_) (fun f cdv A outer s H vs Q E hr h => ?_)
  · obtain ⟨x, m, rs, rfl, _⟩ := h
    rfl
  obtain ⟨x, m, rs, rfl, hb, q⟩ := h
  have nG := T_Bounds.n "given" (by simp [BF])
  refine ⟨_, (pss_one (ps_ret (pe_fld (pv 0) rfl))), ?_⟩
  obtain ⟨dx, vg, vc, hx, hg, hc⟩ := hb.ob
  exact ⟨_, rfl, x, c_Bounds, dx, _, _, rfl, hx, T_Bounds.c, nG, bfl_given _ _ _, q _ hg⟩
abbrev s_Bounds_ring : Stmt := inClass (topS 9) 5
theorem sc_Bounds_ring : FnScope ["self"] ["self"] (defScope s_Bounds_ring) := ⟨rfl, rfl, rfl, by decide +kernel, rfl, by decide +kernel, by decide +kernel⟩
def spRingM (K : PySem.W.Frag) (C : Addr) : Sp := fun vs H Q _ => ∃ (x : Addr) (m : Nat) (rs : List Row), vs = [.ref x] ∧ BdAt K C H x m rs ∧ (closedF (edges m rs) openF ≠ none → Q .non H) ∧
  ∀ (t : Addr) (ns : List Int) (H' : Hp), closedF (edges m rs) openF = none → Same H H' → H' t = some (.tup (ns.map V.int)) → 1 ≤ ns.length → ns.length ≤ m + 1 → RingP rs ns → Q (.ref t) H'
theorem ok_Bounds_ring (T_Bounds : ClsAt K mg "Bounds" c_Bounds BF) (C_ring_among : Cal P w K mg base 2 "ring_among" ["many", "rows"] (spRing K)) (D : DefM K c_Bounds "ring" "Bounds.ring" s_Bounds_ring ["self"]) : CalM P w K mg base 3 c_Bounds "ring" ["self"] (spRingM K c_Bounds) := by
  refine calm_of D sc_Bounds_ring (fun vs H Q E h => ?_) (fun f cdv A outer s H vs Q E hr h => ?_)
  · obtain ⟨x, m, rs, rfl, _⟩ := h
    rfl
  obtain ⟨x, m, rs, rfl, hb, q1, q2⟩ := h
  have nM := T_Bounds.n "many" (by simp [BF])
  have nG := T_Bounds.n "given" (by simp [BF])
  have nC := T_Bounds.n "closed" (by simp [BF])
  have hr' : Room 2 _ := hr
  refine ⟨_, (pss_cons (ps_if (pt_cmpR op_notN (pe_fld (pv 0) rfl) pe_non (nomark _))
        (pss_one (ps_ret pe_non))
        pss_nil)
      (pss_one (ps_ret (pe_cal C_ring_among hr' (by rfl) (pa_cons (pe_fld (pv 0) rfl) (pa_cons (pe_fld (pv 0) rfl) pa_nil)))))), ?_⟩
  obtain ⟨dx, vg, vc, hx, hg, hc⟩ := hb.ob
  refine ⟨_, rfl, x, c_Bounds, dx, _, _, rfl, hx, T_Bounds.c, nC, bfl_closed _ _ _, ?_⟩
  have ec := clo_non hc
  cases e : closedF (edges m rs) openF with
  | some D =>
    rw [e] at ec
    refine ⟨rfl, _, rfl, ?_⟩
    rw [ec]
    exact iteT (q1 (by rw [e]; exact fun z => nomatch z))
  | none =>
    rw [e] at ec
    refine ⟨rfl, _, rfl, ?_⟩
    rw [ec]
    obtain ⟨tg, rfl, hd⟩ : ∃ t, vg = .ref t ∧ Dp K H (.ref t) (.tuple (rs.map rowD)) := by
      obtain ⟨_, hg⟩ := hg
      cases hg with
      | tup q r => exact ⟨_, rfl, .tup q r⟩
    exact iteF ⟨_, rfl, x, c_Bounds, dx, _, _, rfl, hx, T_Bounds.c, nM, bfl_many _ _ _, _, rfl, x, c_Bounds, dx, _, _, rfl, hx, T_Bounds.c, nG, bfl_given _ _ _, m, tg, rs, rfl, hb.hm, hb.hl, hd, hb.ok, e, fun t ns H' => q2 t ns H' e⟩
end
end Lm

set_option Elab.async false
set_option linter.all false
set_option maxRecDepth 100000
set_option maxHeartbeats 2000000
set_option pp.maxSteps 600
set_option pp.deepTerms.threshold 6
namespace Lm
open PySem PySem.Spec PyProof.Rows L2 LmR RZ
theorem tyx_tupI {K : PySem.W.Frag} {H : Hp} {a : Addr} {xs : List V} (q : SqT K H a xs) : TyX K H (.ref a) (.type "tuple") := by
  rcases q with (q | ⟨o, q⟩) | ⟨o, its, n, hk, hc, _⟩
  · exact .base (.tup q)
  · exact .fTuple q
  · exact .kTuple hk hc
theorem inV_intI (n : Int) : ∀ ns : List Int, inV (.int n) (ns.map V.int) = decide (n ∈ ns) := fun ns => by
  unfold inV
  rw [Bool.eq_iff_iff, List.any_map, List.any_eq_true, decide_eq_true_eq]
  constructor
  · rintro ⟨x, hx, e⟩
    have : x = n := by simpa [eqV] using e
    rw [← this]; exact hx
  · intro h
    exact ⟨n, h, by simp [eqV]⟩
theorem flat_ints (ns : List Int) : (ns.map V.int).all flatV = true := by
  rw [List.all_map, List.all_eq_true]
  intro x _
  rfl
theorem cut_takeI {xs : List V} {j : Nat} (h : j ≤ xs.length) : cutV xs none (some (j : Int)) = xs.take j := by
  unfold cutV
  rw [HT.sIx_none, show HT.sIx xs.length xs.length (some (j : Int)) = min j xs.length from HT.sIx_nat _ _ j]
  rw [Nat.min_eq_left h, List.drop_zero, Nat.sub_zero]
theorem cut_dropI {xs : List V} {j : Nat} (h : j ≤ xs.length) : cutV xs (some (j : Int)) none = xs.drop j := by
  unfold cutV
  rw [HT.sIx_none, show HT.sIx xs.length 0 (some (j : Int)) = min j xs.length from HT.sIx_nat _ _ j]
  rw [Nat.min_eq_left h]
  exact List.take_of_length_le (by rw [List.length_drop]; omega)
theorem cutV_allI {xs : List V} {lo hi : Option Int} (h : HT.sIx xs.length 0 lo = 0 ∧ HT.sIx xs.length xs.length hi = xs.length) : cutV xs lo hi = xs := by
  unfold cutV
  rw [h.1, h.2, List.drop_zero, Nat.sub_zero, List.take_length]
theorem slA_anyI {K : PySem.W.Frag} {a : Addr} {xs : List V} {lo hi : Option Int} {H : Hp} {Q : VK} (ha : SqT K H a xs) (q : ∀ p H', Same H H' → SqT K H' p (cutV xs lo hi) → Q (.ref p) H') : rSlA K (.ref a) lo hi H Q :=
  ⟨a, xs, rfl, ha, fun h => q a H (fun _ _ z => z) (by rw [cutV_allI h]; exact ha), fun _ p hp => q p _ (same_new hp) (.inl (.inl upd_same))⟩
theorem catA_anyI {K : PySem.W.Frag} {a b : Addr} {xs ys : List V} {H : Hp} {Q : VK} (ha : SqT K H a xs) (hb : SqT K H b ys) (hz : xs.length + ys.length ≤ sizeLine) (q : ∀ p H', Same H H' → SqT K H' p (xs ++ ys) → Q (.ref p) H') : rCatA K (.ref a) (.ref b) H Q :=
  ⟨a, b, xs, ys, rfl, rfl, ha, hb, hz, fun e => q b H (fun _ _ z => z) (by rw [e]; exact hb), fun _ e => q a H (fun _ _ z => z) (by rw [e, List.append_nil]; exact ha), fun _ _ p hp => q p _ (same_new hp) (.inl (.inl upd_same))⟩
theorem nodup_pre : ∀ ns : List Int, ns.Nodup ↔ ∀ k z, ns[k]? = some z → z ∉ ns.take k := fun ns => by
  unfold List.Nodup
  rw [List.pairwise_iff_getElem]
  constructor
  · intro h k z hz hm
    obtain ⟨hk, ek⟩ := List.getElem?_eq_some_iff.mp hz
    obtain ⟨i, hi, ei⟩ := List.mem_iff_getElem.mp hm
    rw [List.length_take] at hi
    rw [List.getElem_take] at ei
    exact h i k (by omega) hk (by omega) (ei.trans ek.symm)
  · intro h i j hi hj hij e
    refine h j ns[j] (List.getElem?_eq_getElem hj) ?_
    rw [← e]
    exact List.mem_iff_getElem.mpr ⟨i, by rw [List.length_take]; omega, by rw [List.getElem_take]⟩
/-- the k-th number of rows is right: none ahead, a row, which ends where the next one begins -/
def OkAt (rs : List Row) (ns : List Int) (k : Nat) : Prop := ns.getD k 0 ∉ ns.take k ∧ (0 ≤ ns.getD k 0 ∧ ns.getD k 0 < rs.length) ∧ (rA rs (ns.getD k 0)).2.1 = (rA rs (ns.getD ((k + 1) % ns.length) 0)).1
theorem ringP_iff {rs : List Row} {ns : List Int} (hn : 0 < ns.length) : RingP rs ns ↔ (∀ k, k < ns.length → OkAt rs ns k) ∧ (ns.map fun z => (rA rs z).2.2).sum < 0 := by
  have gm : ∀ k, k < ns.length → (ns.map (rA rs)).getD k r00 = rA rs (ns.getD k 0) := fun k hk => by
    have e := List.getElem?_eq_getElem hk
    rw [getD_at e]
    exact getD_at (by rw [List.getElem?_map, e]; rfl)
  constructor
  · rintro ⟨_, h1, h2, h3, h4⟩
    refine ⟨fun k hk => ?_, h4⟩
    have e := List.getElem?_eq_getElem hk
    have eg : ns.getD k 0 = ns[k] := getD_at e
    refine ⟨?_, ?_, ?_⟩
    · rw [eg]; exact (nodup_pre ns).mp h1 k _ e
    · rw [eg]; exact h2 _ (List.getElem_mem hk)
    · have z := h3 k (by rw [List.length_map]; exact hk)
      rw [List.length_map, gm k hk, gm _ (Nat.mod_lt _ hn)] at z
      exact z
  · rintro ⟨h, h4⟩
    refine ⟨fun z => by rw [z] at hn; exact absurd hn (by decide), (nodup_pre ns).mpr fun k z hz => ?_, fun z hz => ?_, fun k hk => ?_, h4⟩
    · have hk := (List.getElem?_eq_some_iff.mp hz).1
      have := (h k hk).1
      rwa [getD_at hz] at this
    · obtain ⟨k, hk, rfl⟩ := List.mem_iff_getElem.mp hz
      have := (h k hk).2.1
      rwa [getD_at (List.getElem?_eq_getElem hk)] at this
    · rw [List.length_map] at hk ⊢
      rw [gm k hk, gm _ (Nat.mod_lt _ hn)]
      exact (h k hk).2.2
section
variable {P : Program} {w : World} {K : PySem.W.Frag} {mg : Str → Option Value} {base : Heap} {c_Bounds : Addr}
abbrev s_l_is_ring : Stmt := topS 19
theorem sc_l_is_ring : FnScope ["_law_rows_here", "_law_ring", "_law_total", "_law_k", "_law_at", "_law_there"] ["_law_rows_here", "_law_ring"] (defScope s_l_is_ring) := ⟨rfl, rfl, rfl, by decide +kernel, rfl, by decide +kernel, by decide +kernel⟩
def spIsR (K : PySem.W.Frag) : Sp := fun vs H Q _ => ∃ (l t : Addr) (xs : List V) (rs : List Row) (ns : List Int), vs = [.ref l, .ref t] ∧ H l = some (.lst xs) ∧ DpAll K H xs (rs.map rowD) ∧ SqT K H t (ns.map V.int) ∧ ns.length ≤ 1000 ∧ ∀ (b : Bool) (H' : Hp), Same H H' → (b = true ↔ RingP rs ns) → Q (.bl b) H'
theorem ok_l_is_ring (B : Bt mg) (D : DefAt K mg "_law_is_ring" s_l_is_ring ["_law_rows_here", "_law_ring"]) : Cal P w K mg base 1 "_law_is_ring" ["_law_rows_here", "_law_ring"] (spIsR K) := by
  refine cal_of D sc_l_is_ring (fun vs H Q E h => ?_) (fun f cdv A outer s H vs Q E hr h => ?_)
  · obtain ⟨l, t, xs, rs, ns, rfl, _⟩ := h
    rfl
  obtain ⟨l, t, xs, rs, ns, rfl, hl, hxs, ht, hn, q⟩ := h
  refine ⟨_, (pss_cons (ps_if (PW.pt (pw_or (pt_not (pt_val (pe_callB call_isi (by rfl) B.isinstance (by decide +kernel) (pa_cons (pv 1) (pa_cons (pe_bltn (v := .ty "tuple") (by rfl) B.tuple PyProof.Rows.boot_tuple rfl) pa_nil))))) (pw_or1 (pt_cmpR op_eq (pe_callB call_len_seq (by rfl) B.len PySem.boot_len (pa_cons (pv 1) pa_nil)) pe_int (nomark _)))))
        (pss_one (ps_ret pe_bl))
        pss_nil)
      (pss_cons (ps_set (i := 2) sc_l_is_ring.nd rfl (.inl rfl) pe_int)
      (pss_cons (ps_for PassesOwn.never rfl (pi_range1 (by rfl) B.range (pa_cons (pe_callB call_len_seq (by rfl) B.len PySem.boot_len (pa_cons (pv 1) pa_nil)) pa_nil)) (pg_name (i := 3) sc_l_is_ring.nd rfl (.inl rfl))
        (pss_cons (ps_par (i := 4) (j := 5) rfl sc_l_is_ring.nd rfl rfl (by decide) rfl rfl (pa_cons (pe_ix ix_tup (pv 1) (pv 3) (fun _ _ => rfl)) (pa_cons (pe_ix ix_tup (pv 1) (pe_op op_mod (pe_op op_add (pv 3) pe_int) (pe_callB call_len_seq (by rfl) B.len PySem.boot_len (pa_cons (pv 1) pa_nil))) (fun _ _ => rfl)) pa_nil)) rfl)
      (pss_cons (ps_if (PW.pt (pw_or (pt_cmpR op_in_seq (pv 4) (pe_slice sl_tupA (pv 1) po_none (po_some (pv 3))) rfl) (pw_or (pt_not (pt_chain op_le op_lt pe_int (pv 4) (pe_callB call_len_seq (by rfl) B.len PySem.boot_len (pa_cons (pv 0) pa_nil)))) (pw_or1 (pt_not (pt_chain op_le op_lt pe_int (pv 5) (pe_callB call_len_seq (by rfl) B.len PySem.boot_len (pa_cons (pv 0) pa_nil))))))))
        (pss_one (ps_ret pe_bl))
        pss_nil)
      (pss_cons (ps_if (pt_cmpR op_ne (pe_ix ix_tup (pe_ix ix_list (pv 0) (pv 4) (fun _ _ => rfl)) pe_int (fun _ _ => rfl)) (pe_ix ix_tup (pe_ix ix_list (pv 0) (pv 5) (fun _ _ => rfl)) pe_int (fun _ _ => rfl)) (nomark _))
        (pss_one (ps_ret pe_bl))
        pss_nil)
      (pss_one (ps_set (i := 2) sc_l_is_ring.nd rfl (.inl rfl) (pe_op op_add (pv 2) (pe_ix ix_tup (pe_ix ix_list (pv 0) (pv 4) (fun _ _ => rfl)) pe_int (fun _ _ => rfl)))))))))
      (pss_one (ps_ret (pe_cmpR op_lt (pv 2) pe_int (nomark _))))))), ?_⟩
  obtain ⟨xl, xg⟩ := dpall_getM _ hxs
  refine ⟨_, rfl, _, _, _, _, true, rfl, .ty _, tyx_tupI ht, kit_ty (a := "tuple") (r := true) (by decide +kernel), _, rfl, iteF ?_⟩
  refine ⟨_, rfl, t, _, rfl, .inr ht, rfl, _, rfl, ?_⟩
  by_cases hne : ns = []
  · subst hne
    exact iteT (q false H (Same.refl _) ⟨fun z => (nomatch z), fun z => absurd rfl z.1⟩)
  have npos : 0 < ns.length := by
    cases ns with
    | nil => exact absurd rfl hne
    | cons a b => exact Nat.succ_pos _
  have nl : (ns.map V.int).length = ns.length := List.length_map ..
  rw [nl, decide_eq_false (fun z => by
    injection z with z
    omega)]
  have hP := ringP_iff (rs := rs) npos
  refine iteF ⟨_, rfl, t, _, rfl, .inr ht, _, rfl, by omega, by rw [nl]; omega, ?_⟩
  rw [nl]
  refine for_range (lo := 0) (n := ((ns.length : Nat) : Int).toNat) (fun k σ' H' => (∃ y3 y4 y5 : Option V, σ' = [some (.ref l), some (.ref t), some (.int ((ns.take k).map fun z => (rA rs z).2.2).sum), y3, y4, y5]) ∧ Same H H' ∧ ∀ j, j < k → OkAt rs ns j) ⟨⟨_, _, _, rfl⟩, Same.refl _, fun j z => absurd z (by omega)⟩ ?_ ?_
  · rintro k σ' H' hk ⟨⟨y3, y4, y5, rfl⟩, s', hok⟩
    have hk' : k < ns.length := by omega
    have km : (k + 1) % ns.length < ns.length := Nat.mod_lt _ npos
    have e1 := List.getElem?_eq_getElem hk'
    have e2 := List.getElem?_eq_getElem km
    have g1 : ns.getD k 0 = ns[k] := getD_at e1
    have g2 : ns.getD ((k + 1) % ns.length) 0 = ns[(k + 1) % ns.length] := getD_at e2
    have oD : OkAt rs ns k = (ns[k] ∉ ns.take k ∧ (0 ≤ ns[k] ∧ ns[k] < rs.length) ∧ (rA rs ns[k]).2.1 = (rA rs ns[(k + 1) % ns.length]).1) := by
      unfold OkAt
      rw [g1, g2]
    have bad : ¬ OkAt rs ns k → ∀ H4, Same H H4 → Q (.bl false) H4 := fun nb H4 s4 => q false H4 s4 ⟨fun z => (nomatch z), fun z => absurd ((hP.mp z).1 k hk') nb⟩
    have bad2 : ¬ (0 ≤ ns[(k + 1) % ns.length] ∧ ns[(k + 1) % ns.length] < rs.length) → ∀ H4, Same H H4 → Q (.bl false) H4 := fun nb H4 s4 => q false H4 s4 ⟨fun z => (nomatch z), fun z => absurd (z.2.2.1 _ (List.getElem_mem km)) nb⟩
    have ts : (ns.take (k + 1)).map (fun z => (rA rs z).2.2) = (ns.take k).map (fun z => (rA rs z).2.2) ++ [(rA rs ns[k]).2.2] := by
      rw [take_snoc e1, List.map_append]
      rfl
    have ht' := Tp.same s' _ _ ht
    have m1 : (ns.map V.int)[k]? = some (.int ns[k]) := by rw [List.getElem?_map, e1]; rfl
    have m2 : (ns.map V.int)[(k + 1) % ns.length]? = some (.int ns[(k + 1) % ns.length]) := by rw [List.getElem?_map, e2]; rfl
    refine ⟨_, rfl, _, rfl, t, _, 0 + (k : Int), _, rfl, rfl, ht', at_of (j := k) (by omega) m1, _, rfl, _, rfl, _, _, rfl, rfl, _, rfl, t, _, rfl, .inr ht', _, _, rfl, rfl, ?_⟩
    rw [nl]
    have ei : (0 + (k : Int) + 1) % ((ns.length : Nat) : Int) = (((k + 1) % ns.length : Nat) : Int) := by rw [Int.zero_add]; rfl
    refine ⟨by show (0 : Int) < _; omega, t, _, (0 + (k : Int) + 1) % ((ns.length : Nat) : Int), _, rfl, rfl, ht', at_of ei m2, _, _, rfl, ?_⟩
    generalize ns[k] = z1 at oD ts m1 g1
    generalize ns[(k + 1) % ns.length] = z2 at oD m2 bad2 g2
    refine ⟨_, rfl, _, rfl, _, rfl, _, rfl, ?_⟩
    refine slA_anyI ht' (fun p H2 s2 hp2 => ?_)
    have s3 := s'.trans s2
    have ec : cutV (ns.map V.int) none (some (0 + (k : Int))) = (ns.take k).map V.int := by
      rw [Int.zero_add, cut_takeI (by rw [nl]; omega), List.map_take]
    rw [ec] at hp2
    refine ⟨p, _, rfl, .inr hp2, rfl, flat_ints _, _, rfl, ?_⟩
    show if (inV (V.int z1) ((ns.take k).map V.int)) = true then _ else _
    rw [inV_intI]
    by_cases hm : z1 ∈ ns.take k
    · rw [decide_eq_true hm]
      exact iteT (iteT (bad (by rw [oD]; exact fun z => z.1 hm) H2 s3))
    rw [decide_eq_false hm]
    have hl2 := s3 _ _ hl
    refine iteF ⟨_, rfl, _, _, rfl, rfl, _, rfl, ite2 (fun c1 => ?_) (fun c1 => ?_)⟩
    rotate_left
    · exact ⟨_, rfl, iteT (iteT (bad (by rw [oD]; exact fun z => c1 (decide_eq_true z.2.1.1)) H2 s3))⟩
    have a1 : (0 : Int) ≤ z1 := of_decide_eq_true c1
    refine ⟨_, rfl, l, xs, rfl, .inl (SqL.of hl2), _, _, rfl, rfl, _, rfl, ?_⟩
    rw [xl]
    by_cases c2 : z1 < rs.length
    rotate_left
    · rw [decide_eq_false c2]
      exact iteT (iteT (bad (by rw [oD]; exact fun z => c2 z.2.1.2) H2 s3))
    rw [decide_eq_true c2]
    refine iteF ⟨_, rfl, _, _, rfl, rfl, _, rfl, ite2 (fun c3 => ?_) (fun c3 => ?_)⟩
    rotate_left
    · exact ⟨_, rfl, iteT (bad2 (fun z => c3 (decide_eq_true z.1)) H2 s3)⟩
    have a3 : (0 : Int) ≤ z2 := of_decide_eq_true c3
    refine ⟨_, rfl, l, xs, rfl, .inl (SqL.of hl2), _, _, rfl, rfl, _, rfl, ?_⟩
    rw [xl]
    by_cases c4 : z2 < rs.length
    rotate_left
    · rw [decide_eq_false c4]
      exact iteT (bad2 (fun z => c4 z.2) H2 s3)
    rw [decide_eq_true c4]
    have n1 : z1.toNat < rs.length := by omega
    have n2 : z2.toNat < rs.length := by omega
    obtain ⟨v1, hv1, d1⟩ := xg _ _ (List.getElem?_eq_getElem n1)
    obtain ⟨v2, hv2, d2⟩ := xg _ _ (List.getElem?_eq_getElem n2)
    have w1 : rA rs z1 = rs[z1.toNat] := getD_at (List.getElem?_eq_getElem n1)
    have w2 : rA rs z2 = rs[z2.toNat] := getD_at (List.getElem?_eq_getElem n2)
    rw [← w1] at d1
    rw [← w2] at d2
    obtain ⟨t1, rfl, h1⟩ := row_read d1
    obtain ⟨t2, rfl, h2⟩ := row_read d2
    refine iteF ⟨_, rfl, _, rfl, l, xs, z1, _, rfl, rfl, SqL.of hl2, at_of (j := z1.toNat) (by omega) hv1, t1, _, 1, _, rfl, rfl, Tp.same s3 _ _ h1, rfl, _, rfl, _, rfl, l, xs, z2, _, rfl, rfl, SqL.of hl2, at_of (j := z2.toNat) (by omega) hv2, t2, _, 0, _, rfl, rfl, Tp.same s3 _ _ h2, rfl, rfl, _, rfl, ?_⟩
    by_cases c5 : (rA rs z1).2.1 = (rA rs z2).1
    rotate_left
    · rw [decide_eq_false (fun z => c5 (by injection z))]
      exact iteT (bad (by rw [oD]; exact fun z => c5 z.2.2) H2 s3)
    rw [decide_eq_true (congrArg V.int c5)]
    refine iteF ⟨_, rfl, _, rfl, _, rfl, l, xs, z1, _, rfl, rfl, SqL.of hl2, at_of (j := z1.toNat) (by omega) hv1, t1, _, 2, _, rfl, rfl, Tp.same s3 _ _ h1, rfl, _, _, rfl, rfl, ⟨some (.int (0 + (k : Int))), some (.int z1), some (.int z2), ?_⟩, s3, fun j hj => ?_⟩
    · rw [ts, List.sum_append]
      show _ = [_, _, some (V.int (_ + ((rA rs z1).2.2 + 0))), _, _, _]
      rw [Int.add_zero]
      rfl
    · by_cases cj : j < k
      · exact hok j cj
      · have : j = k := by omega
        subst this
        rw [oD]
        exact ⟨hm, ⟨a1, c2⟩, c5⟩
  · rintro σ' H' ⟨⟨y3, y4, y5, rfl⟩, s', hok⟩
    rw [show ((ns.length : Nat) : Int).toNat = ns.length by omega] at hok ⊢
    rw [List.take_length]
    exact ⟨_, rfl, _, _, rfl, rfl, q _ _ s' ⟨fun z => hP.mpr ⟨hok, of_decide_eq_true z⟩, fun z => decide_eq_true (hP.mp z).2⟩⟩
end
end Lm

set_option Elab.async false
set_option linter.all false
set_option maxRecDepth 100000
set_option maxHeartbeats 2000000
set_option pp.maxSteps 600
set_option pp.deepTerms.threshold 6
namespace Lm
open PySem PySem.Spec PyProof.Rows L2 LmR RZ
theorem pe_bmLK {K : PySem.W.Frag} {X : Cx} {T : String} {name : Str} {id : String} {r : V → List V → Hp → VK → Prop} {o e : Expr} {es : List Expr} {to : TE} {t : TA} {apos cpos : Pos} (h : X.K = K) (pa : PlainAttrs T) (slot : Slot T name id) (hty : typeOf (.builtin id) = pure (.type "method_descriptor")) (hm : MtR X id r) (ho : PE X o to) (ha : PA X (e :: es) t)
    (hbase : attributeBase o name X.env (eval o X.env) = eval o X.env := by rfl)
    (hfew : ((backTo cpos (starEach (e :: es) X.env)).all (fun x => !x.1) && (backToKw cpos (keywordEach [] X.env)).all (fun x => x.1.isSome)
      && decide ((e :: es).length + ([] : List Keyword).length + (if ([] : List Keyword).isEmpty then 0 else 1) < 30)) = true := by rfl)
    (hline : (apos.endLine == cpos.line) = true := by rfl) (he : starEach (e :: es) X.env = (false, eval e X.env) :: starEach es X.env := by rfl) (hpl : (backTo cpos (starEach es X.env)).any (·.1) = false := by rfl) : PE X (.Call (.Attribute o name apos) (e :: es) [] cpos) (tBM K T r to t) := h ▸ pe_bm pa slot hty hm ho ha hbase hfew hline he hpl
theorem map_erase {α β : Type} (f : α → β) : ∀ (l : List α) (k : Nat), (l.map f).eraseIdx k = (l.eraseIdx k).map f
  | [], _ => rfl
  | _ :: _, 0 => rfl
  | x :: l, k + 1 => by
    show f x :: (l.map f).eraseIdx k = f x :: (l.eraseIdx k).map f
    rw [map_erase f l k]
theorem six_nat {d : Int} {n : Nat} (h0 : 0 ≤ d) (h1 : d < (n : Int)) : seqIndex? d n = some d.toNat := by
  unfold seqIndex?
  simp
  omega
theorem dpall_takeI {K : PySem.W.Frag} {H : Hp} : ∀ (n : Nat) {xs : List V} {ds : List PyData}, DpAll K H xs ds → DpAll K H (xs.take n) (ds.take n)
  | 0, _, _, _ => .nil
  | _ + 1, _, _, .nil => .nil
  | n + 1, _, _, .cons a r => .cons a (dpall_takeI n r)
theorem dpall_dropI {K : PySem.W.Frag} {H : Hp} : ∀ (n : Nat) {xs : List V} {ds : List PyData}, DpAll K H xs ds → DpAll K H (xs.drop n) (ds.drop n)
  | 0, _, _, r => r
  | _ + 1, _, _, .nil => .nil
  | n + 1, _, _, .cons _ r => dpall_dropI n r
section
variable {P : Program} {w : World} {K : PySem.W.Frag} {mg : Str → Option Value} {base : Heap} {c_Bounds : Addr}
abbrev s_l_ringed : Stmt := topS 20
theorem sc_l_ringed : FnScope ["_law_flow_here", "_law_many", "_law_rows_here", "_law_far", "_law_size", "_law_places", "_law_chosen", "_law_found", "_law_total", "_law_k", "_law_c"] ["_law_flow_here", "_law_many", "_law_rows_here", "_law_far"] (defScope s_l_ringed) := ⟨rfl, rfl, rfl, by decide +kernel, rfl, by decide +kernel, by decide +kernel⟩
def spRgd (K : PySem.W.Frag) : Sp := fun vs H Q _ => ∃ (f l : Addr) (m : Nat) (rs : List Row) (far : Int), vs = [.ref f, .int m, .ref l, .int far] ∧ Flow H f ∧ m ≤ 10 ∧ RowsAt K H l m rs ∧ l ≠ f ∧ rs.length ≤ 11 ∧ 0 ≤ far ∧ far ≤ 1000 ∧
  ∀ (L : Addr) (xs : List V) (rs' : List Row) (H' : Hp), Gr f H H' → H L = none → H' L = some (.lst xs) → DpAll K H' xs (rs'.map rowD) → (∀ r ∈ rs', RowOk m r) → 1 ≤ rs'.length → rs'.length ≤ 12 → Q (.ref L) H'
theorem ok_l_ringed (B : Bt mg) (C_l_draw : Cal P w K mg base 1 "_law_draw" ["_law_flow_here", "_law_many"] (spDraw)) (D : DefAt K mg "_law_ringed" s_l_ringed ["_law_flow_here", "_law_many", "_law_rows_here", "_law_far"]) : Cal P w K mg base 2 "_law_ringed" ["_law_flow_here", "_law_many", "_law_rows_here", "_law_far"] (spRgd K) := by
  refine cal_of D sc_l_ringed (fun vs H Q E h => ?_) (fun f' cdv A outer s H vs Q E hr h => ?_)
  · obtain ⟨f, l, m, rs, far, rfl, _⟩ := h
    rfl
  obtain ⟨f, l, m, rs, far, rfl, fl, m10, hR, nlf, hl6, fa0, fa1, q⟩ := h
  have hr' : Room 1 _ := hr
  refine ⟨_, (pss_cons (ps_set (i := 4) sc_l_ringed.nd rfl (.inl rfl) (pe_callB (call_min2 rfl) (by rfl) B.min PyProof.Rows.boot_min (pa_cons (pe_op op_sub pe_int (pe_callB call_len_seq (by rfl) B.len PySem.boot_len (pa_cons (pv 2) pa_nil))) (pa_cons (pe_op op_add pe_int (pe_cal C_l_draw hr' (by rfl) (pa_cons (pv 0) (pa_cons (pe_op op_add (pv 1) pe_int) pa_nil)))) pa_nil))))
      (pss_cons (ps_set (i := 5) sc_l_ringed.nd rfl (.inr rfl) (pe_lc (own := [("_law_k", 9)]) (g := gName 9) rfl sc_l_ringed.nd (pi_range1 (by rfl) B.range (pa_cons (pe_op op_add (pv 1) pe_int) pa_nil)) (blkOk_by (own := [("_law_k", 9)]) (N := ["_law_flow_here", "_law_many", "_law_rows_here", "_law_far", "_law_size", "_law_places", "_law_chosen", "_law_found", "_law_total", "_law_k", "_law_c"]) (sc := defScope s_l_ringed) (by decide +kernel)) (fun _ _ _ _ _ => (pg_name (i := 9) sc_l_ringed.nd rfl (.inl rfl))) (fun _ _ _ _ _ => pts_nil) (fun _ _ _ _ _ => (pe_op op_sub (pv 9) pe_int))))
      (pss_cons (ps_setLc (i := 6) (own := [("_law_k", 9)]) (g := gName 9) rfl sc_l_ringed.nd rfl rfl (sw_true rfl rfl rfl (by decide +kernel)) (pi_range1 (by rfl) B.range (pa_cons (pv 4) pa_nil)) (blkOk_by (own := [("_law_k", 9)]) (N := ["_law_flow_here", "_law_many", "_law_rows_here", "_law_far", "_law_size", "_law_places", "_law_chosen", "_law_found", "_law_total", "_law_k", "_law_c"]) (sc := defScope s_l_ringed) (by decide +kernel)) (fun _ _ _ _ _ => (pg_name (i := 9) sc_l_ringed.nd rfl (.inl rfl))) (fun _ _ _ _ _ => pts_nil) (fun _ _ _ _ _ => (pe_bmLK (K := K) rfl PySem.F.plainAttrs_list PySem.F.slot_list_pop PySem.F.type_list_pop mt_popAt (pv 5) (pa_cons (pe_cal C_l_draw hr' (by rfl) (pa_cons (pv 0) (pa_cons (pe_callB (call_len_seqK (K := K) rfl) (by rfl) B.len PySem.boot_len (pa_cons (pv 5) pa_nil)) pa_nil))) pa_nil))))
      (pss_cons (ps_par (i := 7) (j := 8) rfl sc_l_ringed.nd rfl rfl (by decide) rfl rfl (pa_cons (pe_callTy call_list_of (by rfl) B.list PyProof.Rows.boot_list (pa_cons (pv 2) pa_nil)) (pa_cons pe_int pa_nil)) rfl)
      (pss_cons (ps_for PassesOwn.never rfl (pi_range1 (by rfl) B.range (pa_cons (pv 4) pa_nil)) (pg_name (i := 9) sc_l_ringed.nd rfl (.inl rfl))
        (pss_cons (ps_set (i := 10) sc_l_ringed.nd rfl (.inl rfl) (pe_callB (call_min2 rfl) (by rfl) B.min PyProof.Rows.boot_min (pa_cons (pv 3) (pa_cons (pe_op op_sub (pe_cal C_l_draw hr' (by rfl) (pa_cons (pv 0) (pa_cons (pe_op op_add (pe_op op_mul pe_int (pv 3)) pe_int) pa_nil))) (pv 3)) pa_nil))))
      (C8.pss_cut (ps_if (PW.pt (pw_and (pt_cmpR op_eq (pv 9) (pe_op op_sub (pv 4) pe_int) (nomark _)) (pw_and1 (pt_cmpR op_lt (pe_callB call_abs (by rfl) B.abs (by decide +kernel) (pa_cons (pv 8) pa_nil)) (pv 3) (nomark _)))))
        (pss_one (ps_set (i := 10) sc_l_ringed.nd rfl (.inl rfl) (pe_op op_sub (pe_op op_add (pe_op op_sub pe_int (pv 8)) (pe_cal C_l_draw hr' (by rfl) (pa_cons (pv 0) (pa_cons pe_int pa_nil)))) pe_int)))
        pss_nil)
      (pss_cons (ps_set (i := 8) sc_l_ringed.nd rfl (.inl rfl) (pe_op op_add (pv 8) (pv 10)))
      (pss_one (ps_expr (pe_bm PySem.F.plainAttrs_list PySem.F.slot_list_insert PySem.F.type_list_insert mt_insert (pv 7) (pa_cons (pe_cal C_l_draw hr' (by rfl) (pa_cons (pv 0) (pa_cons (pe_op op_add (pe_callB call_len_seq (by rfl) B.len PySem.boot_len (pa_cons (pv 7) pa_nil)) pe_int) pa_nil))) (pa_cons (pe_tup (pa_cons (pe_ix ix_list (pv 6) (pv 9) (fun _ _ => rfl)) (pa_cons (pe_ix ix_list (pv 6) (pe_op op_mod (pe_op op_add (pv 9) pe_int) (pv 4)) (fun _ _ => rfl)) (pa_cons (pv 10) pa_nil)))) pa_nil)))))))))
      (pss_one (ps_ret (pv 7)))))))), ?_⟩
  obtain ⟨xs, hlx, hxs⟩ := id hR.ob
  have xl := (dpall_getM _ hxs).1
  refine ⟨_, rfl, l, _, rfl, .inl (SqL.of hlx), _, _, rfl, rfl, _, rfl, _, rfl, _, _, rfl, rfl, f, (m : Int) + 1, rfl, fl, by omega, by omega, fun d H1 d0 d1 dr1 => ?_⟩
  obtain ⟨z, ez, z1, z2, z3⟩ : ∃ z : Int, (if 1 + d < (12 : Int) - ((xs.length : Nat) : Int) then 1 + d else (12 : Int) - ((xs.length : Nat) : Int)) = z ∧ 1 ≤ z ∧ z ≤ (m : Int) + 1 ∧ z ≤ 12 - (rs.length : Int) := by
    refine ⟨_, rfl, ?_, ?_, ?_⟩ <;> split <;> omega
  refine ⟨_, _, rfl, rfl, _, _, rfl, ?_⟩
  show gName 4 (V.int (if 1 + d < (12 : Int) - ((xs.length : Nat) : Int) then 1 + d else (12 : Int) - ((xs.length : Nat) : Int))) _ _ _
  rw [ez]
  have g1 := dr1.gr
  have em : ((m : Int) + 1).toNat = m + 1 := by omega
  -- the places
  refine ⟨_, rfl, _, _, rfl, rfl, (m : Int) + 1, rfl, by omega, by omega, fun p hp => lc_range (lo := 0) (n := ((m : Int) + 1).toNat) (fun j H' => Same H1 H' ∧ ∃ ps : List Int, H' p = some (.lst (ps.map V.int)) ∧ ps.length = j ∧ ∀ c ∈ ps, -1 ≤ c ∧ c < m) ?_ ?_ ?_⟩
  · exact ⟨same_new hp, [], upd_same, rfl, fun c h => absurd h (by simp)⟩
  · rintro j H' hj ⟨s', ps, e', pl', pr⟩
    refine ⟨rfl, _, rfl, _, _, rfl, rfl, _, e', by rw [List.length_map]; exact smallL (by omega), fun b o y => ?_, ps ++ [0 + (j : Int) - 1], by rw [upd_same, List.map_append]; rfl, by rw [List.length_append, pl']; rfl, fun c hc => ?_⟩
    · rw [upd_ne (ne_of_none y hp)]
      exact s' _ _ y
    · rcases List.mem_append.mp hc with y | y
      · exact pr c y
      · rw [List.mem_singleton.mp y]; omega
  rintro H2 ⟨s2, ps0, e20, pl0, pr0⟩
  rw [em] at pl0
  have npf := g1.fl.nf hp
  have g2 := g1.trans (Gr.same g1.fl s2)
  -- the chosen ones
  refine ⟨_, rfl, z, rfl, by omega, by omega, fun D hD => lc_range (lo := 0) (n := z.toNat) (fun j H' => Gr f H1 H' ∧ (∃ ps : List Int, H' p = some (.lst (ps.map V.int)) ∧ ps.length + j = m + 1 ∧ ∀ c ∈ ps, -1 ≤ c ∧ c < m) ∧ ∃ cs : List Int, H' D = some (.lst (cs.map V.int)) ∧ cs.length = j ∧ ∀ c ∈ cs, -1 ≤ c ∧ c < m) ?_ ?_ ?_⟩
  · exact ⟨(Gr.same g1.fl s2).trans (Gr.new g2.fl hD), ⟨ps0, by rw [upd_ne (ne_of_none e20 hD)]; exact e20, by omega, pr0⟩, [], upd_same, rfl, fun c h => absurd h (by simp)⟩
  · rintro j H' hj ⟨g, ⟨ps, e', pl', pr⟩, cs, eD, cl, cr⟩
    have nDf := g2.fl.nf hD
    have nDp : D ≠ p := (ne_of_none e20 hD).symm
    have D1 : H1 D = none := s2.free hD
    have pl2 : (ps.map V.int).length = ps.length := List.length_map ..
    refine ⟨rfl, _, rfl, .inl ⟨rfl, _, SqL.of e'⟩, _, rfl, _, rfl, p, _, rfl, .inl (SqL.of e'), f, _, rfl, g.fl, by rw [pl2]; omega, by rw [pl2]; omega, fun d5 H6 d50 d51 dr6 => ?_⟩
    rw [pl2] at d51
    have kl : d5.toNat < ps.length := by omega
    have e6 := (dr6.off p npf).trans e'
    have g6 := g.trans dr6.gr
    refine ⟨p, _, d5, d5.toNat, V.int ps[d5.toNat], rfl, rfl, e6, by omega, by omega, six_nat d50 (by rw [pl2]; exact d51), by rw [List.getElem?_map, List.getElem?_eq_getElem kl]; rfl, ?_⟩
    rw [map_erase]
    have gp := g6.put (o := .lst ((ps.eraseIdx d5.toNat).map V.int)) hp npf
    refine ⟨_, by rw [upd_ne nDp]; exact (dr6.off D nDf).trans eD, by rw [List.length_map]; exact smallL (by omega), gp.put D1 nDf, ⟨ps.eraseIdx d5.toNat, by rw [upd_ne (fun y => nDp y.symm), upd_same], by rw [List.length_eraseIdx_of_lt kl]; omega, fun c hc => pr c (List.mem_of_mem_eraseIdx hc)⟩, cs ++ [ps[d5.toNat]], by rw [upd_same, List.map_append]; rfl, by rw [List.length_append, cl]; rfl, fun c hc => ?_⟩
    rcases List.mem_append.mp hc with y | y
    · exact cr c y
    · rw [List.mem_singleton.mp y]; exact pr _ (List.getElem_mem kl)
  rintro H3 ⟨g3', -, cs, eD, cl, cr⟩
  have g3 := g1.trans g3'
  have nDf := g2.fl.nf hD
  have hl3 := g3.ex _ _ hlx (by simp [nlf])
  refine ⟨_, rfl, l, xs, rfl, .inl (SqL.of hl3), fun L hL => ⟨_, _, rfl, ?_⟩⟩
  have nLf := g3.fl.nf hL
  have eL : (upd H3 L (.lst xs)) L = some (.lst xs) := upd_same
  have g4 : Gr f H3 (upd H3 L (.lst xs)) := Gr.new g3.fl hL
  generalize upd H3 L (.lst xs) = H4 at eL g4
  have zc : (cs.length : Int) = z := by omega
  have zn : z = ((cs.length : Nat) : Int) := by omega
  refine ⟨_, rfl, z, rfl, by omega, by omega, for_range (lo := 0) (n := z.toNat) (fun k σ' H' => (∃ (tot : Int) (y9 y10 : Option V), σ' = [some (.ref f), some (.int m), some (.ref l), some (.int far), some (.int z), some (.ref p), some (.ref D), some (.ref L), some (.int tot), y9, y10]) ∧ Gr f H3 H' ∧ ∃ ys rs', H' L = some (.lst ys) ∧ DpAll K H' ys (rs'.map rowD) ∧ (∀ r ∈ rs', RowOk m r) ∧ rs'.length = rs.length + k) ⟨⟨_, _, _, rfl⟩, g4, xs, rs, eL, by exact dps_keep ((g3.tp fl).trans (g4.tp g3.fl)) _ _ (rows_flat rs) hxs, hR.ok, rfl⟩ ?_ ?_⟩
  · rintro k σ' H' hk ⟨⟨tot, y9, y10, rfl⟩, g, ys, rs', eL', hys, hok, hlen⟩
    have yl := (dpall_getM _ hys).1
    refine ⟨_, rfl, _, rfl, _, rfl, _, _, rfl, rfl, .inl ⟨by decide, by decide⟩, _, _, rfl, rfl, f, _, rfl, g.fl, by omega, by omega, fun d5 H5 d50 d51 dr5 => ⟨_, rfl, _, _, rfl, rfl, _, _, rfl, ?_⟩⟩
    generalize (if d5 - far < far then d5 - far else far) = c0
    have g5 := g.trans dr5.gr
    have e5 := (dr5.off L nLf).trans eL'
    have tp5 := dr5.tp (K := K) g.fl
    refine ⟨fun σ2 H6 => ∃ c : Int, σ2 = [some (.ref f), some (.int m), some (.ref l), some (.int far), some (.int z), some (.ref p), some (.ref D), some (.ref L), some (.int tot), some (.int (0 + (k : Int))), some (.int c)] ∧ Gr f H3 H6 ∧ Tp K H' H6 ∧ H6 L = some (.lst ys), ?_, ?_⟩
    · refine ⟨_, rfl, _, rfl, _, _, rfl, rfl, rfl, _, rfl, ite2 (fun c1 => ?_) (fun c1 => ?_)⟩
      · refine ⟨_, rfl, _, rfl, _, rfl, _, _, rfl, rfl, _, rfl, ite2 (fun c2 => ?_) (fun c2 => ?_)⟩
        · refine ⟨_, rfl, _, _, rfl, rfl, _, rfl, f, 3, rfl, g5.fl, by decide, by decide, fun d6 H6 d60 d61 dr6 => ⟨_, _, rfl, rfl, _, _, rfl, rfl, ?_⟩⟩
          exact ⟨_, rfl, g5.trans dr6.gr, tp5.trans (dr6.tp g5.fl), (dr6.off L nLf).trans e5⟩
        · exact ⟨_, rfl, g5, tp5, e5⟩
      · exact ⟨_, rfl, g5, tp5, e5⟩
    rintro σ2 H6 ⟨c, rfl, g6, tp6, e6⟩
    have eD6 := g6.ex _ _ eD (by simp [nDf])
    refine ⟨_, rfl, _, rfl, _, _, rfl, rfl, ?_⟩
    refine ⟨_, rfl, .inl ⟨rfl, _, SqL.of e6⟩, _, rfl, _, rfl, L, ys, rfl, .inl (SqL.of e6), _, _, rfl, rfl, f, _, rfl, g6.fl, by omega, by omega, fun d7 H7 d70 d71 dr7 => ?_⟩
    have g7 := g6.trans dr7.gr
    have e7 := (dr7.off L nLf).trans e6
    have eD7 := g7.ex _ _ eD (by simp [nDf])
    have k1 : k < cs.length := by omega
    have k2 : (k + 1) % cs.length < cs.length := Nat.mod_lt _ (by omega)
    have ei : (0 + (k : Int) + 1) % z = (((k + 1) % cs.length : Nat) : Int) := by rw [zn, Int.zero_add]; rfl
    have q1 : (cs.map V.int)[k]? = some (.int cs[k]) := by rw [List.getElem?_map, List.getElem?_eq_getElem k1]; rfl
    have q2 : (cs.map V.int)[(k + 1) % cs.length]? = some (.int cs[(k + 1) % cs.length]) := by rw [List.getElem?_map, List.getElem?_eq_getElem k2]; rfl
    refine ⟨_, rfl, _, rfl, D, _, _, _, rfl, rfl, SqL.of eD7, at_of (j := k) (by omega) q1, _, rfl, _, rfl, _, _, rfl, rfl, _, rfl, _, _, rfl, rfl, (by show (0 : Int) < z; omega), D, _, _, _, rfl, rfl, SqL.of eD7, at_of ei q2, _, rfl, (by show 3 ≤ sizeLine; decide), fun t ht => ?_⟩
    have r1 := cr _ (List.getElem_mem k1)
    have r2 := cr _ (List.getElem_mem k2)
    generalize cs[k] = ca at r1
    generalize cs[(k + 1) % cs.length] = cb at r2
    have s8 := same_new (o := .tup [.int ca, .int cb, .int c]) ht
    have e8 : (upd H7 t (.tup [.int ca, .int cb, .int c])) t = some (.tup [.int ca, .int cb, .int c]) := upd_same
    have e8L := s8 _ _ e7
    generalize upd H7 t (.tup [.int ca, .int cb, .int c]) = H8 at s8 e8 e8L
    have g8 := g7.trans (Gr.same g7.fl s8)
    have tp8 : Tp K H' H8 := (tp6.trans (dr7.tp g6.fl)).trans (Tp.same s8)
    refine ⟨L, ys, d7, _, rfl, rfl, e8L, smallL (by omega), d70, by omega, ⟨_, _, _, rfl⟩, g8.put hL nLf, _, rs'.take d7.toNat ++ [(ca, cb, c)] ++ rs'.drop d7.toNat, upd_same, ?_, fun r hr1 => ?_, ?_⟩
    · have tA : Tp K H8 (upd H8 L (.lst (ys.take d7.toNat ++ [V.ref t] ++ ys.drop d7.toNat))) := Tp.lst e8L
      have hys9 := dps_keep (tp8.trans tA) _ _ (rows_flat rs') hys
      rw [List.map_append, List.map_append, List.map_take, List.map_drop]
      exact dpall_app' (dpall_app' (dpall_takeI _ hys9) (.cons (row_dp (r := (ca, cb, c)) (tA _ _ (.inl (.inl e8)))) .nil)) (dpall_dropI _ hys9)
    · rcases List.mem_append.mp hr1 with y | y
      · rcases List.mem_append.mp y with y | y
        · exact hok r (List.mem_of_mem_take y)
        · rw [List.mem_singleton.mp y]
          exact ⟨r1.1, r1.2, r2.1, r2.2⟩
      · exact hok r (List.mem_of_mem_drop y)
    · rw [List.length_append, List.length_append, List.length_take, List.length_drop]
      show min d7.toNat rs'.length + 1 + _ = _
      omega
  · rintro σ' H' ⟨⟨tot, y9, y10, rfl⟩, g, ys, rs', eL', hys, hok, hlen⟩
    have hf := g3.trans g
    have Ln : H L = none := by
      cases e : H L with
      | none => rfl
      | some o =>
        have y := g3.ex L o e (by simp [nLf])
        rw [hL] at y
        cases y
    exact ⟨_, rfl, q L ys rs' H' hf Ln eL' hys hok (by omega) (by omega)⟩
end
end Lm

set_option Elab.async false
set_option linter.all false
set_option maxRecDepth 100000
set_option maxHeartbeats 2000000
set_option pp.maxSteps 600
set_option pp.deepTerms.threshold 6
namespace Lm
open PySem PySem.Spec PyProof.Rows L2 LmR RZ
theorem xOf_pt {D : Mat} {m : Nat} {ns : List Int} (h : PtF D m ns) : ∃ low : Nat → Int, (∀ a, a ≤ m → IsLow D m a (low a)) ∧ ∀ a, a ≤ m → xOf m ns a = low a - low m := by
  obtain ⟨l, low, h1, h2⟩ := h
  refine ⟨low, h1, fun a ha => ?_⟩
  unfold xOf
  by_cases e : a < m
  · exact getD_at (by rw [List.getElem?_append_left (by omega)]; exact h2 a e)
  · have : a = m := by omega
    subst this
    rw [getD_at (x := 0) (by rw [List.getElem?_append_right (by omega), l, Nat.sub_self]; rfl)]
    omega
theorem pt_keeps {m : Nat} {rs : List Row} {D : Mat} {ns : List Int} (hR : ∀ r ∈ rs, RowOk m r) (h : closedF (edges m rs) openF = some D) (hp : PtF D m ns) : KeepsF (xOf m ns) (edges m rs) := by
  obtain ⟨low, h1, h2⟩ := xOf_pt hp
  have k := point_keeps (closed_some (edges_ok hR) h) h1 (low m)
  intro e he
  obtain ⟨a, b⟩ := edges_ok hR e he
  rw [h2 _ a, h2 _ b]
  exact k e he
section
variable {P : Program} {w : World} {K : PySem.W.Frag} {mg : Str → Option Value} {base : Heap} {c_Bounds : Addr}
abbrev s_l_is_point : Stmt := topS 21
theorem sc_l_is_point : FnScope ["_law_many", "_law_rows_here", "_law_point", "_law_one"] ["_law_many", "_law_rows_here", "_law_point"] (defScope s_l_is_point) := ⟨rfl, rfl, rfl, by decide +kernel, rfl, by decide +kernel, by decide +kernel⟩
def spIsP (K : PySem.W.Frag) : Sp := fun vs H Q _ => ∃ (l t : Addr) (m : Nat) (rs : List Row) (ns : List Int), vs = [.int m, .ref l, .ref t] ∧ RowsLT K H l m rs ∧ SqT K H t (ns.map V.int) ∧ ns.length = m ∧ m ≤ 100 ∧ KeepsF (xOf m ns) (edges m rs) ∧ ∀ H', Same H H' → Q (.bl true) H'
theorem ok_l_is_point (B : Bt mg) (C_l_keeps : Cal P w K mg base 1 "_law_keeps" ["_law_rows_here", "_law_numbers"] (spKeeps K)) (D : DefAt K mg "_law_is_point" s_l_is_point ["_law_many", "_law_rows_here", "_law_point"]) : Cal P w K mg base 2 "_law_is_point" ["_law_many", "_law_rows_here", "_law_point"] (spIsP K) := by
  refine cal_of D sc_l_is_point (fun vs H Q E h => ?_) (fun f cdv A outer s H vs Q E hr h => ?_)
  · obtain ⟨l, t, m, rs, ns, rfl, _⟩ := h
    rfl
  obtain ⟨l, t, m, rs, ns, rfl, hR, ht, nl, hm, hk, q⟩ := h
  have hr' : Room 1 _ := hr
  refine ⟨_, (pss_cons (ps_if (PW.pt (pw_or (pt_not (pt_val (pe_callB call_isi (by rfl) B.isinstance (by decide +kernel) (pa_cons (pv 2) (pa_cons (pe_bltn (v := .ty "tuple") (by rfl) B.tuple PyProof.Rows.boot_tuple rfl) pa_nil))))) (pw_or1 (pt_cmpR op_ne (pe_callB call_len_seq (by rfl) B.len PySem.boot_len (pa_cons (pv 2) pa_nil)) (pv 0) (nomark _)))))
        (pss_one (ps_ret pe_bl))
        pss_nil)
      (pss_cons (ps_if (pt_cmpR (op_neP hr.units) (pe_lc (own := [("_law_one", 3)]) (g := gName 3) rfl sc_l_is_point.nd (pi_tup (pv 2)) (blkOk_by (own := [("_law_one", 3)]) (N := ["_law_many", "_law_rows_here", "_law_point", "_law_one"]) (sc := defScope s_l_is_point) (by decide +kernel)) (fun _ _ _ _ _ => (pg_name (i := 3) sc_l_is_point.nd rfl (.inl rfl))) (fun _ _ _ _ _ => (pts_one (PW.pt (pw_or (pt_not (pt_val (pe_callB (call_isiK (K := K) rfl) (by rfl) B.isinstance (by decide +kernel) (pa_cons (pv 3) (pa_cons (pe_bltn (v := .ty "int") (by rfl) B.int PyProof.Rows.boot_int rfl) pa_nil))))) (pw_or1 (pt_val (pe_callB (call_isiK (K := K) rfl) (by rfl) B.isinstance (by decide +kernel) (pa_cons (pv 3) (pa_cons (pe_bltn (v := .ty "bool") (by rfl) B.bool PyProof.Rows.boot_bool rfl) pa_nil))))))))) (fun _ _ _ _ _ => (pv 3))) (pe_lst pa_nil) (nomark _))
        (pss_one (ps_ret pe_bl))
        pss_nil)
      (pss_one (ps_ret (pe_cal C_l_keeps hr' (by rfl) (pa_cons (pv 1) (pa_cons (pv 2) pa_nil))))))), ?_⟩
  have vl : (ns.map V.int).length = m := by rw [List.length_map, nl]
  refine ⟨_, rfl, _, _, _, _, true, rfl, .ty _, tyx_tupI ht, kit_ty (a := "tuple") (r := true) (by decide +kernel), _, rfl, iteF ?_⟩
  refine ⟨_, rfl, t, _, rfl, .inr ht, _, rfl, rfl, _, rfl, ?_⟩
  rw [vl, decide_eq_true rfl]
  refine iteF ⟨_, rfl, t, rfl, ⟨_, ht⟩, fun D hD => lc_tup (K := K) (a := t) (xs := ns.map V.int) (fun j H' => Same H H' ∧ H' D = some (.lst [])) ?_ ?_ ?_ ?_⟩
  · exact ⟨same_new hD, upd_same⟩
  · rintro j H' _ ⟨s', _⟩
    exact Tp.same s' _ _ ht
  · rintro j y H' hy ⟨s', e'⟩
    rw [List.getElem?_map] at hy
    obtain ⟨z, hz, rfl⟩ : ∃ z, ns[j]? = some z ∧ y = V.int z := by
      cases hz : ns[j]? with
      | none => rw [hz] at hy; cases hy
      | some z => rw [hz] at hy; exact ⟨z, rfl, (Option.some.inj hy).symm⟩
    exact ⟨rfl, _, rfl, _, _, _, _, true, rfl, .ty _, .base (.int z), kit_ty (a := "int") (b := "int") (r := true) (by decide +kernel), _, rfl, iteF ⟨_, rfl, _, _, _, _, false, rfl, .ty _, .base (.int z), kit_ty (a := "int") (b := "bool") (r := false) (by decide +kernel), _, rfl, iteF ⟨s', e'⟩⟩⟩
  rintro H1 ⟨s1, e1⟩
  refine ⟨(by show 0 ≤ sizeLine; decide), fun L hL => ?_⟩
  have s2 := s1.trans (same_new (o := .lst []) hL)
  refine ⟨.list [], .list [], .lst (SqL.of ((same_new hL) _ _ e1)) .nil, .lst (SqL.of upd_same) .nil, rfl, rfl, by decide, _, rfl, ?_⟩
  refine iteF ⟨_, rfl, _, rfl, l, t, m, rs, ns, rfl, hR.same s2, .inr (Tp.same s2 _ _ ht), nl, hm, fun k H3 s3 hk3 => ?_⟩
  have : k = true := hk3.mpr hk
  subst this
  exact q H3 (s2.trans s3)
end
end Lm

set_option Elab.async false
set_option linter.all false
set_option maxRecDepth 100000
set_option maxHeartbeats 20000000
set_option pp.maxSteps 600
set_option pp.deepTerms.threshold 6
namespace Lm
open PySem PySem.Spec PyProof.Rows L2 LmR RZ
theorem mt_lcountI {X : Cx} {K : PySem.W.Frag} (h : X.K = K) : MtR X "list.count" (rCntI K) := h ▸ mt_lcount
theorem ints_flat : ∀ ns : List Int, flat.flats (ns.map PyData.int) = true
  | [] => rfl
  | n :: ns => by
    show (true && flat.flats (ns.map PyData.int)) = true
    rw [ints_flat ns]; rfl
theorem ints_depth : ∀ ns : List Int, PyData.depthAll (ns.map PyData.int) = 0
  | [] => rfl
  | n :: ns => by
    show max 0 (PyData.depthAll (ns.map PyData.int)) = 0
    rw [ints_depth ns]; rfl
theorem ints_dp {K : PySem.W.Frag} {H : Hp} : ∀ ns : List Int, DpAll K H (ns.map V.int) (ns.map PyData.int)
  | [] => .nil
  | n :: ns => .cons (.int n) (ints_dp ns)
theorem ints_none (ns : List Int) : PyData.eqv (.list (ns.map PyData.int)) (.list []) = decide (ns = []) := by
  cases ns with
  | nil => decide
  | cons n ns => simp [PyData.eqv, PyData.eqvAll]
/-- a list of ints is held against none -/
theorem ints_ne {K : PySem.W.Frag} {H : Hp} {a b : Addr} {ns : List Int} {Q : VK} (ha : H a = some (.lst (ns.map V.int))) (hb : H b = some (.lst [])) (q : Q (.bl (!decide (ns = []))) H) : rNeP K (.ref a) (.ref b) H Q :=
  ⟨.list (ns.map .int), .list [], .lst (SqL.of ha) (ints_dp ns), .lst (SqL.of hb) .nil, plains_flat _ (ints_flat ns), rfl, by show PyData.depthAll (ns.map PyData.int) + 1 ≤ 64; rw [ints_depth]; decide, by rw [ints_none]; exact q⟩
theorem rnd_loose {r : Row} {rs : List Row} {c : Int} (h : Rnd (r :: rs)) : Rnd ((r.1, r.2.1, c) :: rs) := by
  have e : ∀ k, (((r.1, r.2.1, c) :: rs).getD k r00).1 = ((r :: rs).getD k r00).1 ∧ (((r.1, r.2.1, c) :: rs).getD k r00).2.1 = ((r :: rs).getD k r00).2.1 := fun k => by
    cases k with
    | zero => exact ⟨rfl, rfl⟩
    | succ k => exact ⟨rfl, rfl⟩
  intro k hk
  rw [(e k).2, (e _).1]
  exact h k hk
section
variable {P : Program} {w : World} {K : PySem.W.Frag} {mg : Str → Option Value} {base : Heap} {c_Bounds : Addr}
theorem mkB {dvs : List V} (hdv : dvs.drop 1 = []) {m : Nat} (hm : m ≤ 10) {H1 : Hp} {x1 dx1 a : Addr} {ys : List V} {ts : List Row} {Q' : Hp → Prop} {E : XK} (nx : H1 x1 = none) (ndx : H1 dx1 = none) (ha : H1 a = some (.lst ys)) (hd : DpAll K H1 ys (ts.map rowD)) (hok : ∀ r ∈ ts, RowOk m r) (hl : ts.length ≤ 100)
    (q : ∀ H9, Same H1 H9 → BdAt K c_Bounds H9 x1 m ts → Q' H9) : spInit K c_Bounds (.ref x1 :: ([.int m, .ref a] ++ dvs.drop 1)) (upd (upd H1 dx1 (.own x1)) x1 (.ins c_Bounds dx1 [])) (fun v H2 => v = .non ∧ Q' H2) E := by
  rw [hdv]
  have s8 : Same H1 (upd (upd H1 dx1 (.own x1)) x1 (.ins c_Bounds dx1 [])) := fun b o z => by
    rw [upd_ne (ne_of_none z nx), upd_ne (ne_of_none z ndx)]
    exact z
  have e8 : (upd (upd H1 dx1 (.own x1)) x1 (.ins c_Bounds dx1 [])) x1 = some (.ins c_Bounds dx1 []) := upd_same
  generalize upd (upd H1 dx1 (.own x1)) x1 (.ins c_Bounds dx1 []) = H8 at s8 e8
  exact ⟨x1, dx1, a, m, ys, ts, rfl, e8, .inl (SqL.of (s8 _ _ ha)), dps_keep (Tp.same s8) _ _ (rows_flat ts) hd, hok, by omega, hl, fun H9 k9 hB => ⟨rfl, q H9 (fun b o z => k9 b o (s8 _ _ z) (ne_of_none z nx)) hB⟩⟩
/-- a method called on Bounds -/
theorem meB {m : Nat} {H1 : Hp} {x : Addr} {rs : List Row} (hB : BdAt K c_Bounds H1 x m rs) {n : Str} (n1 : ¬ n = "closed") (n2 : ¬ n = "given") (n3 : ¬ n = "many") : ∃ dx fs, H1 x = some (.ins c_Bounds dx fs) ∧ fs.lookup n = none := by
  obtain ⟨dx, vg, vc, hx, _, _⟩ := hB.ob
  exact ⟨dx, _, hx, bfl_no m vg vc n1 n2 n3⟩
abbrev s_l_right : Stmt := topS 22
theorem sc_l_right : FnScope ["_law_many", "_law_rows_here", "_law_bounds", "_law_alone", "_law_spot", "_law_empty", "_law_point", "_law_ring", "_law_total", "_law_i", "_law_j", "_law_c", "_law_firsts", "_law_loose", "_law_at", "_law_row", "_law_one"] ["_law_many", "_law_rows_here", "_law_bounds"] (defScope s_l_right) := ⟨rfl, rfl, rfl, by decide +kernel, rfl, by decide +kernel, by decide +kernel⟩
def spRt22 (K : PySem.W.Frag) (C : Addr) : Sp := fun vs H Q _ => ∃ (l x : Addr) (m : Nat) (rs : List Row), vs = [.int m, .ref l, .ref x] ∧ RowsAt K H l m rs ∧ rs.length ≤ 12 ∧ m ≤ 10 ∧ BdAt K C H x m rs ∧ ∀ H', Same H H' → Q (.bl true) H'
theorem ok_l_right {dvs : List V} (hdv : dvs.drop 1 = []) (B : Bt mg) (T_Bounds : ClsAt K mg "Bounds" c_Bounds BF) (C_l_is_ring : Cal P w K mg base 1 "_law_is_ring" ["_law_rows_here", "_law_ring"] (spIsR K)) (C_l_is_point : Cal P w K mg base 2 "_law_is_point" ["_law_many", "_law_rows_here", "_law_point"] (spIsP K)) (M_Bounds_rows : CalM P w K mg base 1 c_Bounds "rows" ["self"] (spRowsM K c_Bounds)) (M_Bounds_ring : CalM P w K mg base 3 c_Bounds "ring" ["self"] (spRingM K c_Bounds)) (M_Bounds_point : CalM P w K mg base 2 c_Bounds "point" ["self"] (spPoint K c_Bounds)) (M_Bounds_is_empty : CalM P w K mg base 1 c_Bounds "is_empty" ["self"] (spEmpty K c_Bounds)) (I_Bounds : CalI P w K mg base 5 c_Bounds "Bounds" ["self", "many", "rows"] dvs 1 (spInit K c_Bounds)) (D : DefAt K mg "_law_right" s_l_right ["_law_many", "_law_rows_here", "_law_bounds"]) : Cal P w K mg base 7 "_law_right" ["_law_many", "_law_rows_here", "_law_bounds"] (spRt22 K c_Bounds) := by
  refine cal_of D sc_l_right (fun vs H Q E h => ?_) (fun f cdv A outer s H vs Q E hr h => ?_)
  · obtain ⟨l, x, m, rs, rfl, _⟩ := h
    rfl
  obtain ⟨l, x, m, rs, rfl, hR, hrl, hm, hB, q⟩ := h
  have hr' : Room 6 _ := hr
  have hr'' := hr'
  have C_l_is_ring := C_l_is_ring.mono (k := 6) (by decide)
  have C_l_is_point := C_l_is_point.mono (k := 6) (by decide)
  have M_Bounds_rows := M_Bounds_rows.mono (k := 6) (by decide)
  have M_Bounds_ring := M_Bounds_ring.mono (k := 6) (by decide)
  have M_Bounds_point := M_Bounds_point.mono (k := 6) (by decide)
  have M_Bounds_is_empty := M_Bounds_is_empty.mono (k := 6) (by decide)
  refine ⟨_, (pss_cons (ps_par (i := 3) (j := 4) rfl sc_l_right.nd rfl rfl (by decide) rfl rfl (pa_cons (pe_calM0 M_Bounds_ring T_Bounds.c hr' (pe_calI I_Bounds hr'' (by rfl) (pa_cons (pv 0) (pa_cons (pv 1) pa_nil)))) (pa_cons (pe_calM0 M_Bounds_point T_Bounds.c hr' (pe_calI I_Bounds hr'' (by rfl) (pa_cons (pv 0) (pa_cons (pv 1) pa_nil)))) pa_nil)) rfl)
      (pss_cons (ps_par3 (i := 5) (j := 6) (l := 7) rfl sc_l_right.nd rfl rfl rfl (by decide) (by decide) (by decide) rfl rfl rfl (pa_cons (pe_calM0 M_Bounds_is_empty T_Bounds.c hr' (pv 2)) (pa_cons (pe_calM0 M_Bounds_point T_Bounds.c hr' (pv 2)) (pa_cons (pe_calM0 M_Bounds_ring T_Bounds.c hr' (pv 2)) pa_nil))) rfl)
      (pss_cons (ps_if (PW.pt (pw_or (pt_cmpR op_eq (pe_cmpR op_isN (pv 3) pe_non (nomark _)) (pv 5) (nomark _)) (pw_or1 (pt_cmpR op_ne (pe_cmpR op_isN (pv 4) pe_non (nomark _)) (pv 5) (nomark _)))))
        (pss_one (ps_ret pe_bl))
        pss_nil)
      (pss_cons (ps_if (PW.pt (pw_and (pt_cmpR op_notN (pv 3) pe_non (nomark _)) (pw_and1 (pt_not (pt_val (pe_cal C_l_is_ring hr' (by rfl) (pa_cons (pv 1) (pa_cons (pv 3) pa_nil))))))))
        (pss_one (ps_ret pe_bl))
        pss_nil)
      (pss_cons (ps_if (PW.pt (pw_and (pt_cmpR op_notN (pv 4) pe_non (nomark _)) (pw_and1 (pt_not (pt_val (pe_cal C_l_is_point hr' (by rfl) (pa_cons (pv 0) (pa_cons (pv 1) (pa_cons (pv 4) pa_nil)))))))))
        (pss_one (ps_ret pe_bl))
        pss_nil)
      (pss_cons (ps_if (PW.pt (pw_or (pt_not (pt_val (pe_callB call_isi (by rfl) B.isinstance (by decide +kernel) (pa_cons (pv 5) (pa_cons (pe_bltn (v := .ty "bool") (by rfl) B.bool PyProof.Rows.boot_bool rfl) pa_nil))))) (pw_or (pt_cmpR op_ne (pv 5) (pe_cmpR op_isN (pv 6) pe_non (nomark _)) (nomark _)) (pw_or1 (pt_cmpR op_ne (pv 5) (pe_cmpR op_notN (pv 7) pe_non (nomark _)) (nomark _))))))
        (pss_one (ps_ret pe_bl))
        pss_nil)
      (pss_cons (ps_if (pt_not (pt_val (pv 5)))
        (pss_one (ps_ret (pe_cal C_l_is_point hr' (by rfl) (pa_cons (pv 0) (pa_cons (pv 1) (pa_cons (pv 6) pa_nil))))))
        pss_nil)
      (pss_cons (ps_if (pt_not (pt_val (pe_cal C_l_is_ring hr' (by rfl) (pa_cons (pv 1) (pa_cons (pv 7) pa_nil)))))
        (pss_one (ps_ret pe_bl))
        pss_nil)
      (pss_cons (ps_setLc (i := 3) (own := [("_law_at", 14)]) (g := gName 14) rfl sc_l_right.nd rfl rfl (sw_true rfl rfl rfl (by decide +kernel)) (pi_tup (pv 7)) (blkOk_by (own := [("_law_at", 14)]) (N := ["_law_many", "_law_rows_here", "_law_bounds", "_law_alone", "_law_spot", "_law_empty", "_law_point", "_law_ring", "_law_total", "_law_i", "_law_j", "_law_c", "_law_firsts", "_law_loose", "_law_at", "_law_row", "_law_one"]) (sc := defScope s_l_right) (by decide +kernel)) (fun _ _ _ _ _ => (pg_name (i := 14) sc_l_right.nd rfl (.inl rfl))) (fun _ _ _ _ _ => pts_nil) (fun _ _ _ _ _ => (pe_ix (ix_listK (K := K) rfl) (pv 1) (pv 14) (fun _ _ => rfl))))
      (pss_cons (ps_if (pt_cmpR op_isnot_bl (pe_calM0 M_Bounds_is_empty T_Bounds.c hr' (pe_calI I_Bounds hr'' (by rfl) (pa_cons (pv 0) (pa_cons (pv 3) pa_nil)))) pe_bl (nomark _))
        (pss_one (ps_ret pe_bl))
        pss_nil)
      (C8.pss_cut (ps_set (i := 8) sc_l_right.nd rfl (.inl rfl) (pe_callB (cr_sum rfl) (by rfl) B.sum (by decide +kernel) (pa_cons (pe_lc (own := [("_law_i", 9), ("_law_j", 10), ("_law_c", 11)]) (g := gTup K 3 (gCons (gName 9) (gCons (gName 10) (gCons (gName 11) gNil)))) rfl sc_l_right.nd (pi_list (pv 3)) (blkOk_by (own := [("_law_i", 9), ("_law_j", 10), ("_law_c", 11)]) (N := ["_law_many", "_law_rows_here", "_law_bounds", "_law_alone", "_law_spot", "_law_empty", "_law_point", "_law_ring", "_law_total", "_law_i", "_law_j", "_law_c", "_law_firsts", "_law_loose", "_law_at", "_law_row", "_law_one"]) (sc := defScope s_l_right) (by decide +kernel)) (fun _ _ _ _ _ => (pg_tupK (K := K) rfl rfl (pgs_cons (pg_name (i := 9) sc_l_right.nd rfl (.inl rfl)) (pgs_cons (pg_name (i := 10) sc_l_right.nd rfl (.inl rfl)) (pgs_cons (pg_name (i := 11) sc_l_right.nd rfl (.inl rfl)) pgs_nil))))) (fun _ _ _ _ _ => pts_nil) (fun _ _ _ _ _ => (pv 11))) pa_nil)))
      (pss_cons (ps_asg (pe_ix ix_list (pv 3) pe_int (fun _ _ => rfl)) (pg_tup rfl (pgs_cons (pg_name (i := 9) sc_l_right.nd rfl (.inl rfl)) (pgs_cons (pg_name (i := 10) sc_l_right.nd rfl (.inl rfl)) (pgs_cons (pg_name (i := 11) sc_l_right.nd rfl (.inl rfl)) pgs_nil)))))
      (pss_cons (ps_set (i := 12) sc_l_right.nd rfl (.inr rfl) (pe_lc (own := [("_law_row", 15)]) (g := gName 15) rfl sc_l_right.nd (pi_list (pv 3)) (blkOk_by (own := [("_law_row", 15)]) (N := ["_law_many", "_law_rows_here", "_law_bounds", "_law_alone", "_law_spot", "_law_empty", "_law_point", "_law_ring", "_law_total", "_law_i", "_law_j", "_law_c", "_law_firsts", "_law_loose", "_law_at", "_law_row", "_law_one"]) (sc := defScope s_l_right) (by decide +kernel)) (fun _ _ _ _ _ => (pg_name (i := 15) sc_l_right.nd rfl (.inl rfl))) (fun _ _ _ _ _ => pts_nil) (fun _ _ _ _ _ => (pe_ix (ix_tupK (K := K) rfl) (pv 15) pe_int (fun _ _ => rfl)))))
      (pss_cons (ps_if (PW.pt (pw_or (pt_cmpR op_gt (pe_op op_sub (pv 11) (pv 8)) pe_int (nomark _)) (pw_or1 (pt_cmpR (op_neP hr.units) (pe_lc (own := [("_law_one", 16)]) (g := gName 16) rfl sc_l_right.nd (pi_list (pv 12)) (blkOk_by (own := [("_law_one", 16)]) (N := ["_law_many", "_law_rows_here", "_law_bounds", "_law_alone", "_law_spot", "_law_empty", "_law_point", "_law_ring", "_law_total", "_law_i", "_law_j", "_law_c", "_law_firsts", "_law_loose", "_law_at", "_law_row", "_law_one"]) (sc := defScope s_l_right) (by decide +kernel)) (fun _ _ _ _ _ => (pg_name (i := 16) sc_l_right.nd rfl (.inl rfl))) (fun _ _ _ _ _ => (pts_one (pt_cmpR op_gt (pe_bmLK (K := K) rfl PySem.F.plainAttrs_list PySem.F.slot_list_count PySem.F.type_list_count (mt_lcountI (K := K) rfl) (pv 12) (pa_cons (pv 16) pa_nil)) pe_int (nomark _)))) (fun _ _ _ _ _ => (pv 16))) (pe_lst pa_nil) (nomark _)))))
        (pss_one (ps_ret pe_bl))
        pss_nil)
      (pss_cons (ps_set (i := 13) sc_l_right.nd rfl (.inl rfl) (pe_calI I_Bounds hr'' (by rfl) (pa_cons (pv 0) (pa_cons (pe_op op_cat (pe_lst (pa_cons (pe_tup (pa_cons (pv 9) (pa_cons (pv 10) (pa_cons (pe_op op_sub (pv 11) (pv 8)) pa_nil)))) pa_nil)) (pe_slice sl_list (pv 3) (po_some pe_int) po_none)) pa_nil))))
      (pss_one (ps_ret (pe_and (pe_cmpR op_isBl (pe_calM0 M_Bounds_is_empty T_Bounds.c hr' (pv 13)) pe_bl (nomark _)) (pe_and (pe_cmpR op_isN (pe_calM0 M_Bounds_ring T_Bounds.c hr' (pv 13)) pe_non (nomark _)) (pe_one (pe_cal C_l_is_point hr' (by rfl) (pa_cons (pv 0) (pa_cons (pe_calM0 M_Bounds_rows T_Bounds.c hr' (pv 13)) (pa_cons (pe_calM0 M_Bounds_point T_Bounds.c hr' (pv 13)) pa_nil)))))))))))))))))))))))), ?_⟩
  obtain ⟨xs, hlx, hxs⟩ := id hR.ob
  have hxs' : ∀ {H' : Hp}, Same H H' → DpAll K H' xs (rs.map rowD) := fun s => dps_keep (Tp.same s) _ _ (rows_flat rs) hxs
  refine ⟨_, rfl, _, rfl, fun x1 dx1 nx1 ndx1 ne1 => mkB hdv hm nx1 ndx1 hlx hxs hR.ok (by omega) fun H1 s1 hB1 => ?_⟩
  obtain ⟨dy1, fs1, hx1, lk1⟩ := meB hB1 (n := "ring") (by decide +kernel) (by decide +kernel) (by decide +kernel)
  refine ⟨x1, dy1, fs1, rfl, hx1, lk1, x1, m, rs, rfl, hB1, fun hne => ?_, fun t1 ns1 H2 hcl s2 ht1 _ _ hring1 => ?_⟩
  · obtain ⟨Dc, hcl⟩ : ∃ Dc, closedF (edges m rs) openF = some Dc := by
      cases e : closedF (edges m rs) openF with
      | none => exact absurd e hne
      | some Dc => exact ⟨Dc, rfl⟩
    have eI : (closedF (edges m rs) openF).isNone = false := by rw [hcl]; rfl
    refine ⟨_, rfl, _, rfl, fun x2 dx2 nx2 ndx2 ne2 => mkB hdv hm nx2 ndx2 (s1 _ _ hlx) (hxs' s1) hR.ok (by omega) fun H3 s3 hB2 => ?_⟩
    obtain ⟨dy2, fs2, hx2, lk2⟩ := meB hB2 (n := "point") (by decide +kernel) (by decide +kernel) (by decide +kernel)
    refine ⟨x2, dy2, fs2, rfl, hx2, lk2, x2, m, rs, rfl, hB2, fun u H4 s4 hu => ⟨_, _, rfl, ?_⟩⟩
    rw [hcl] at hu
    obtain ⟨t2, ns2, rfl, ht2, hpt2⟩ := hu
    have s04 := s1.trans (s3.trans s4)
    have hB4 := hB.same s04
    obtain ⟨dyE, fsE, hxE, lkE⟩ := meB hB4 (n := "is_empty") (by decide +kernel) (by decide +kernel) (by decide +kernel)
    obtain ⟨dyP, fsP, hxP, lkP⟩ := meB hB4 (n := "point") (by decide +kernel) (by decide +kernel) (by decide +kernel)
    refine ⟨_, rfl, x, dyE, fsE, rfl, hxE, lkE, x, m, rs, rfl, hB4, _, rfl, x, dyP, fsP, rfl, hxP, lkP, x, m, rs, rfl, hB4, fun u H5 s5 hu => ?_⟩
    rw [hcl] at hu
    obtain ⟨t3, ns3, rfl, ht3, hpt3⟩ := hu
    have s05 := s04.trans s5
    have hB5 := hB.same s05
    obtain ⟨dyR, fsR, hxR, lkR⟩ := meB hB5 (n := "ring") (by decide +kernel) (by decide +kernel) (by decide +kernel)
    refine ⟨_, rfl, x, dyR, fsR, rfl, hxR, lkR, x, m, rs, rfl, hB5, fun _ => ⟨_, _, _, rfl, ?_⟩, fun _ _ _ hz => absurd hz hne⟩
    have hk2 := pt_keeps hR.ok hcl hpt2
    have hk3 := pt_keeps hR.ok hcl hpt3
    refine ⟨_, rfl, rfl, _, rfl, rfl, _, rfl, ?_⟩
    rw [eI]
    refine iteF ⟨_, rfl, rfl, _, rfl, rfl, _, rfl, ?_⟩
    refine iteF ⟨_, rfl, rfl, _, rfl, ?_⟩
    refine iteF (iteF ⟨_, rfl, rfl, _, rfl, iteT ⟨_, rfl, _, rfl, _, rfl, l, t2, m, rs, ns2, rfl, (hR.same s05).lt, .inl (.inl (s5 _ _ ht2)), hpt2.1, by omega, hk2, fun H6 s6 => ⟨_, rfl, iteF ?_⟩⟩⟩)
    have s06 := s05.trans s6
    refine ⟨_, rfl, _, _, _, _, true, rfl, .ty _, .base (.bl false), kit_ty (a := "bool") (b := "bool") (r := true) (by decide +kernel), _, rfl, iteF ⟨_, rfl, _, rfl, rfl, rfl, _, rfl, iteF ⟨_, rfl, _, rfl, rfl, rfl, _, rfl, iteF ?_⟩⟩⟩
    exact ⟨_, rfl, _, rfl, iteT ⟨_, rfl, _, rfl, _, rfl, l, t3, m, rs, ns3, rfl, (hR.same s06).lt, .inl (.inl (s6 _ _ ht3)), hpt3.1, by omega, hk3, fun H7 s7 => q H7 (s06.trans s7)⟩⟩
  · have eI : (closedF (edges m rs) openF).isNone = true := by rw [hcl]; rfl
    have s02 := s1.trans s2
    refine ⟨_, rfl, _, rfl, fun x2 dx2 nx2 ndx2 ne2 => mkB hdv hm nx2 ndx2 (s02 _ _ hlx) (hxs' s02) hR.ok (by omega) fun H3 s3 hB2 => ?_⟩
    obtain ⟨dy2, fs2, hx2, lk2⟩ := meB hB2 (n := "point") (by decide +kernel) (by decide +kernel) (by decide +kernel)
    refine ⟨x2, dy2, fs2, rfl, hx2, lk2, x2, m, rs, rfl, hB2, fun u H4 s4 hu => ⟨_, _, rfl, ?_⟩⟩
    rw [hcl] at hu
    cases hu
    have s24 := s3.trans s4
    have s04 := s02.trans s24
    have hB4 := hB.same s04
    obtain ⟨dyE, fsE, hxE, lkE⟩ := meB hB4 (n := "is_empty") (by decide +kernel) (by decide +kernel) (by decide +kernel)
    obtain ⟨dyP, fsP, hxP, lkP⟩ := meB hB4 (n := "point") (by decide +kernel) (by decide +kernel) (by decide +kernel)
    refine ⟨_, rfl, x, dyE, fsE, rfl, hxE, lkE, x, m, rs, rfl, hB4, _, rfl, x, dyP, fsP, rfl, hxP, lkP, x, m, rs, rfl, hB4, fun u H5 s5 hu => ?_⟩
    rw [hcl] at hu
    cases hu
    have s05 := s04.trans s5
    have hB5 := hB.same s05
    obtain ⟨dyR, fsR, hxR, lkR⟩ := meB hB5 (n := "ring") (by decide +kernel) (by decide +kernel) (by decide +kernel)
    refine ⟨_, rfl, x, dyR, fsR, rfl, hxR, lkR, x, m, rs, rfl, hB5, fun hz => absurd hcl hz, fun t3 ns3 H6 _ s6 ht3 l31 l32 hring3 => ⟨_, _, _, rfl, ?_⟩⟩
    have s06 := s05.trans s6
    have ht16 : SqT K H6 t1 (ns1.map V.int) := .inl (.inl ((s24.trans (s5.trans s6)) _ _ ht1))
    refine ⟨_, rfl, rfl, _, rfl, rfl, _, rfl, ?_⟩
    rw [eI]
    refine iteF ⟨_, rfl, rfl, _, rfl, rfl, _, rfl, ?_⟩
    refine iteF ⟨_, rfl, rfl, _, rfl, ?_⟩
    refine iteT ⟨_, rfl, _, rfl, l, t1, xs, rs, ns1, rfl, s06 _ _ hlx, hxs' s06, ht16, by omega, fun b H7 s7 hb => ?_⟩
    have : b = true := hb.mpr hring1
    subst this
    have s07 := s06.trans s7
    refine ⟨_, rfl, iteF ⟨_, rfl, rfl, _, rfl, iteF (iteF ?_)⟩⟩
    refine ⟨_, rfl, _, _, _, _, true, rfl, .ty _, .base (.bl true), kit_ty (a := "bool") (b := "bool") (r := true) (by decide +kernel), _, rfl, iteF ⟨_, rfl, _, rfl, rfl, rfl, _, rfl, iteF ⟨_, rfl, _, rfl, rfl, rfl, _, rfl, iteF ?_⟩⟩⟩
    have ht37 : SqT K H7 t3 (ns3.map V.int) := .inl (.inl (s7 _ _ ht3))
    refine ⟨_, rfl, _, rfl, iteF ⟨_, rfl, _, rfl, l, t3, xs, rs, ns3, rfl, s07 _ _ hlx, hxs' s07, ht37, by omega, fun b H8 s8 hb => ?_⟩⟩
    have : b = true := hb.mpr hring3
    subst this
    have s08 := s07.trans s8
    have ht38 := Tp.same s8 _ _ ht37
    refine ⟨_, rfl, iteF ?_⟩
    have hin := hring3.2.2.1
    obtain ⟨xl, xg⟩ := dpall_getM _ hxs
    refine ⟨_, rfl, t3, rfl, ⟨_, ht38⟩, fun D hD => lc_tup (K := K) (a := t3) (xs := ns3.map V.int) (fun j H' => Same H8 H' ∧ ∃ zs : List V, H' D = some (.lst zs) ∧ zs.length = j ∧ DpAll K H' zs (((ns3.take j).map (rA rs)).map rowD)) ?_ ?_ ?_ ?_⟩
    · exact ⟨same_new hD, [], upd_same, rfl, .nil⟩
    · rintro j H' _ ⟨s', _⟩
      exact Tp.same s' _ _ ht38
    · rintro j y H' hy ⟨s', zs, hD', zl, hz0⟩
      rw [List.getElem?_map] at hy
      obtain ⟨z, hz, rfl⟩ : ∃ z, ns3[j]? = some z ∧ y = V.int z := by
        cases hz : ns3[j]? with
        | none => rw [hz] at hy; cases hy
        | some z => rw [hz] at hy; exact ⟨z, rfl, (Option.some.inj hy).symm⟩
      have jl : j < ns3.length := (List.getElem?_eq_some_iff.mp hz).1
      obtain ⟨z0, z1⟩ := hin z (List.mem_of_getElem? hz)
      have zl1 : z.toNat < rs.length := by omega
      have er := List.getElem?_eq_getElem zl1
      obtain ⟨y, hy2, dy⟩ := xg z.toNat _ er
      have eA : rA rs z = rs[z.toNat] := getD_at er
      refine ⟨rfl, _, rfl, _, rfl, l, xs, z, y, rfl, rfl, SqL.of ((s08.trans s') _ _ hlx), at_of (j := z.toNat) (by omega) hy2, ?_⟩
      have sp : Same H8 (upd H' D (.lst (zs ++ [y]))) := fun b o w => by
        rw [upd_ne (ne_of_none w hD)]
        exact s' _ _ w
      refine ⟨_, hD', smallL (by omega), sp, zs ++ [y], upd_same, by rw [List.length_append, zl]; rfl, ?_⟩
      rw [take_snoc hz, List.map_append, List.map_append]
      refine dpall_app' (dps_keep (Tp.lst hD') _ _ (rows_flat _) hz0) (.cons ?_ .nil)
      rw [eA]
      exact dp_keep (Tp.same (s08.trans sp)) _ _ (rowD_flat _) dy
    rintro H9 ⟨s9, zs, hD9, zl, hz0⟩
    rw [List.length_map, List.take_length] at hz0
    have zlen : zs.length = ns3.length := by rw [zl, List.length_map]
    have hrnd := hring3.2.2.2.1
    have hsum := hring3.2.2.2.2
    obtain ⟨ts, ets⟩ : ∃ ts, ns3.map (rA rs) = ts := ⟨_, rfl⟩
    have hsum' : (ts.map fun r => r.2.2).sum < 0 := by rw [← ets, List.map_map]; exact hsum
    rw [ets] at hrnd hz0
    have tlen : ts.length = ns3.length := by rw [← ets, List.length_map]
    have tok : ∀ r ∈ ts, RowOk m r := fun r hr1 => by
      rw [← ets] at hr1
      obtain ⟨z, hz, rfl⟩ := List.mem_map.mp hr1
      obtain ⟨z0, z1⟩ := hin z hz
      have er := List.getElem?_eq_getElem (show z.toNat < rs.length by omega)
      rw [show rA rs z = rs[z.toNat] from getD_at er]
      exact hR.ok _ (List.getElem_mem _)
    have hemp := rnd_empty tok hrnd (by omega) hsum'
    clear ets hring3 hsum hin
    have s09 := s08.trans s9
    refine ⟨_, rfl, _, rfl, fun x4 dx4 nx4 ndx4 ne4 => mkB hdv hm nx4 ndx4 hD9 hz0 tok (by omega) fun H10 s10 hB10 => ?_⟩
    obtain ⟨dy4, fs4, hx4, lk4⟩ := meB hB10 (n := "is_empty") (by decide +kernel) (by decide +kernel) (by decide +kernel)
    refine ⟨x4, dy4, fs4, rfl, hx4, lk4, x4, m, ts, rfl, hB10, ?_⟩
    rw [show (closedF (edges m ts) openF).isNone = true by rw [hemp]; rfl]
    refine ⟨_, _, rfl, rfl, _, rfl, iteF ?_⟩
    have hD10 := s10 _ _ hD9
    have s010 := s09.trans s10
    have hz10 := dps_keep (Tp.same s10) _ _ (rows_flat ts) hz0
    obtain ⟨zl2, zg⟩ := dpall_getM _ hz10
    refine ⟨fun σ' H' => (∃ y4 y5 y6 y7 y9 y10 y11 y12 y13 y14 y15 y16 : Option V, σ' = [some (.int m), some (.ref l), some (.ref x), some (.ref D), y4, y5, y6, y7, some (.int (ts.map fun r => r.2.2).sum), y9, y10, y11, y12, y13, y14, y15, y16]) ∧ Same H10 H', ?_, ?_⟩
    · refine ⟨_, rfl, D, rfl, ⟨_, SqL.of hD10⟩, fun D3 hD3 => lc_list (K := K) (a := D) (xs := zs) (fun j H' => Same H10 H' ∧ H' D3 = some (.lst (((ts.take j).map fun r => r.2.2).map V.int))) ?_ ?_ ?_ ?_⟩
      · exact ⟨same_new hD3, upd_same⟩
      · rintro j H' _ ⟨s', _⟩
        exact SqL.of (s' _ _ hD10)
      · rintro j y H' hy ⟨s', hD'⟩
        have jl : j < ts.length := by rw [← zl2]; exact (List.getElem?_eq_some_iff.mp hy).1
        have ez := List.getElem?_eq_getElem jl
        obtain ⟨y', hy', dy⟩ := zg j ts[j] ez
        rw [hy] at hy'
        cases hy'
        obtain ⟨tr, rfl, htr⟩ := row_read dy
        refine ⟨tr, _, rfl, Tp.same s' _ _ htr, rfl, _, _, rfl, _, _, rfl, _, _, rfl, rfl, rfl, _, rfl, _, hD', by rw [List.length_map, List.length_map, List.length_take]; exact smallL (by omega), fun b o w => ?_, ?_⟩
        · rw [upd_ne (ne_of_none w hD3)]
          exact s' _ _ w
        · rw [upd_same, take_snoc ez, List.map_append, List.map_append]
          rfl
      rintro H11 ⟨s11, hD11⟩
      rw [zl2, List.take_length] at hD11
      exact ⟨D3, _, rfl, SqL.of hD11, ⟨_, _, _, _, _, _, _, _, _, _, _, _, rfl⟩, s11⟩
    rintro σ' H11 ⟨⟨y4, y5, y6, y7, y9, y10, y11, y12, y13, y14, y15, y16, rfl⟩, s11⟩
    have s011 := s010.trans s11
    have hDD := s11 _ _ hD10
    have hz11 := dps_keep (Tp.same s11) _ _ (rows_flat ts) hz10
    obtain ⟨zl3, zg3⟩ := dpall_getM _ hz11
    clear hz10 zg hB10 hx4 lk4 hD9 hz0 s10 s11 s09 s010
    obtain ⟨r0, rest, rfl⟩ : ∃ r0 rest, ts = r0 :: rest := by
      cases ts with
      | nil => exact absurd tlen (by show ¬ 0 = ns3.length; omega)
      | cons a b => exact ⟨a, b, rfl⟩
    obtain ⟨y0, hy0, dy0⟩ := zg3 0 r0 rfl
    obtain ⟨tr0, rfl, htr0⟩ := row_read dy0
    obtain ⟨tot, etot⟩ : ∃ tot, ((r0 :: rest).map fun r => r.2.2).sum = tot := ⟨_, rfl⟩
    rw [etot] at hsum' ⊢
    refine ⟨_, rfl, D, _, 0, _, rfl, rfl, SqL.of hDD, at_of (j := 0) rfl hy0, tr0, _, rfl, htr0, rfl, _, _, rfl, _, _, rfl, _, _, rfl, rfl, ?_⟩
    refine ⟨_, rfl, D, rfl, ⟨_, SqL.of hDD⟩, fun D4 hD4 => lc_list (K := K) (a := D) (xs := zs) (fun j H' => Same H11 H' ∧ H' D4 = some (.lst ((((r0 :: rest).take j).map fun r => r.1).map V.int))) ?_ ?_ ?_ ?_⟩
    · exact ⟨same_new hD4, upd_same⟩
    · rintro j H' _ ⟨s', _⟩
      exact SqL.of (s' _ _ hDD)
    · rintro j y H' hy ⟨s', hD'⟩
      have jl : j < (r0 :: rest).length := by rw [← zl3]; exact (List.getElem?_eq_some_iff.mp hy).1
      have ez := List.getElem?_eq_getElem jl
      obtain ⟨y', hy', dy⟩ := zg3 j (r0 :: rest)[j] ez
      rw [hy] at hy'
      cases hy'
      obtain ⟨tr, rfl, htr⟩ := row_read dy
      refine ⟨rfl, _, rfl, tr, _, 0, _, rfl, rfl, Tp.same s' _ _ htr, rfl, _, hD', by rw [List.length_map, List.length_map, List.length_take]; exact smallL (by omega), fun b o w => ?_, ?_⟩
      · rw [upd_ne (ne_of_none w hD4)]
        exact s' _ _ w
      · rw [upd_same, take_snoc ez, List.map_append, List.map_append]
        rfl
    rintro H12 ⟨s12, hD12⟩
    rw [zl3, List.take_length] at hD12
    generalize efs : (r0 :: rest).map (fun r : Row => r.1) = fs at hD12
    have fsl : fs.length = (r0 :: rest).length := by rw [← efs, List.length_map]
    have s012 := s011.trans s12
    have done : ∀ H', Same H H' → Q (.bl true) H' := q
    refine ⟨_, rfl, _, rfl, _, _, rfl, rfl, _, _, rfl, rfl, _, rfl, ite2 (fun _ => iteT (q _ s012)) (fun c1 => ?_)⟩
    have c1' : ¬ (1000 < r0.2.2 - tot) := fun z => c1 (decide_eq_true z)
    refine ⟨_, rfl, D4, rfl, ⟨_, SqL.of hD12⟩, fun D5 hD5 => lc_list (K := K) (a := D4) (xs := fs.map V.int) (fun j H' => Same H12 H' ∧ H' D5 = some (.lst (((fs.take j).filter fun z => decide (1 < ((fs.count z : Nat) : Int))).map V.int))) ?_ ?_ ?_ ?_⟩
    · exact ⟨same_new hD5, upd_same⟩
    · rintro j H' _ ⟨s', _⟩
      exact SqL.of (s' _ _ hD12)
    · rintro j y H' hy ⟨s', hD'⟩
      rw [List.getElem?_map] at hy
      obtain ⟨z, hz, rfl⟩ : ∃ z, fs[j]? = some z ∧ y = V.int z := by
        cases hz : fs[j]? with
        | none => rw [hz] at hy; cases hy
        | some z => rw [hz] at hy; exact ⟨z, rfl, (Option.some.inj hy).symm⟩
      have jl : j < fs.length := (List.getElem?_eq_some_iff.mp hz).1
      refine ⟨rfl, _, rfl, .inl ⟨rfl, _, SqL.of (s' _ _ hD12)⟩, _, rfl, D4, fs, z, rfl, rfl, SqL.of (s' _ _ hD12), _, _, rfl, rfl, _, rfl, ite2 (fun c2 => ?_) (fun c2 => ?_)⟩
      · refine ⟨_, rfl, _, hD', by rw [List.length_map]; exact smallL (Nat.le_trans (List.length_filter_le _ _) (by rw [List.length_take]; omega)), fun b o w => ?_, ?_⟩
        · rw [upd_ne (ne_of_none w hD5)]
          exact s' _ _ w
        · rw [upd_same, take_snoc hz, List.filter_append, List.map_append, List.filter_cons, if_pos c2]
          rfl
      · refine ⟨s', ?_⟩
        rw [hD', take_snoc hz, List.filter_append, List.filter_cons, if_neg c2, List.filter_nil, List.append_nil]
    rintro H13 ⟨s13, hD13⟩
    rw [List.length_map, List.take_length] at hD13
    have s013 := s012.trans s13
    refine ⟨(by show 0 ≤ sizeLine; decide), fun L hL => ?_⟩
    have s14 := same_new (o := .lst []) hL
    have hD14 := s14 _ _ hD13
    have hL14 : (upd H13 L (.lst [])) L = some (.lst []) := upd_same
    generalize upd H13 L (.lst []) = H14 at s14 hD14 hL14
    have s014 := s013.trans s14
    refine ints_ne hD14 hL14 ⟨_, rfl, ?_⟩
    refine ite2 (fun _ => q _ s014) (fun c3 => ?_)
    have hnd : fs.Nodup := by
      refine List.nodup_iff_count.mpr fun a => ?_
      have e0 : fs.filter (fun z => decide (1 < ((fs.count z : Nat) : Int))) = [] := by
        by_cases z : fs.filter (fun z => decide (1 < ((fs.count z : Nat) : Int))) = []
        · exact z
        · exact absurd (by rw [decide_eq_false z]; rfl) c3
      by_cases ha : a ∈ fs
      · have := List.filter_eq_nil_iff.mp e0 a ha
        have : ¬ (1 < ((fs.count a : Nat) : Int)) := fun z => this (decide_eq_true z)
        omega
      · rw [List.count_eq_zero_of_not_mem ha]; omega
    have hDE : H14 D = some (.lst zs) := s14 _ _ (s13 _ _ (s12 _ _ hDD))
    have hzE := dps_keep (Tp.same (s12.trans (s13.trans s14))) _ _ (rows_flat (r0 :: rest)) hz11
    have l40 := hrl
    refine ⟨_, rfl, _, rfl, _, rfl, _, rfl, _, rfl, _, _, rfl, rfl, (by show 3 ≤ sizeLine; decide), fun t5 ht5 => ⟨(by show 1 ≤ sizeLine; decide), fun l5 hl5 => ?_⟩⟩
    have s15 := same_new (o := .tup [V.int r0.1, V.int r0.2.1, V.int (r0.2.2 - tot)]) ht5
    have e15 : (upd H14 t5 (.tup [V.int r0.1, V.int r0.2.1, V.int (r0.2.2 - tot)])) t5 = some (.tup [V.int r0.1, V.int r0.2.1, V.int (r0.2.2 - tot)]) := upd_same
    generalize upd H14 t5 (.tup [V.int r0.1, V.int r0.2.1, V.int (r0.2.2 - tot)]) = H15 at s15 e15 hl5
    have s16 := same_new (o := .lst [V.ref t5]) hl5
    have e16 : (upd H15 l5 (.lst [V.ref t5])) l5 = some (.lst [V.ref t5]) := upd_same
    generalize upd H15 l5 (.lst [V.ref t5]) = H16 at s16 e16
    have e15' := s16 _ _ e15
    have hD16 := s16 _ _ (s15 _ _ hDE)
    refine ⟨_, rfl, _, rfl, D, _, rfl, SqL.of hD16, fun l6 hl6 => ?_⟩
    have ec : cutV zs (some 1) none = zs.drop 1 := cut_dropI (j := 1) (by rw [zl3]; show 1 ≤ rest.length + 1; omega)
    rw [ec]
    have s17 := same_new (o := .lst (zs.drop 1)) hl6
    have e17 : (upd H16 l6 (.lst (zs.drop 1))) l6 = some (.lst (zs.drop 1)) := upd_same
    generalize upd H16 l6 (.lst (zs.drop 1)) = H17 at s17 e17
    refine ⟨l5, l6, _, _, rfl, rfl, s17 _ _ e16, e17, by show 1 + (zs.drop 1).length ≤ sizeLine; rw [List.length_drop, zl3]; show 1 + (rest.length + 1 - 1) ≤ sizeLine; exact small (by have : rest.length + 1 = ns3.length := tlen; omega), fun l7 hl7 => ?_⟩
    have s18 := same_new (o := .lst ([V.ref t5] ++ zs.drop 1)) hl7
    have e18 : (upd H17 l7 (.lst ([V.ref t5] ++ zs.drop 1))) l7 = some (.lst (V.ref t5 :: zs.drop 1)) := upd_same
    generalize upd H17 l7 (.lst ([V.ref t5] ++ zs.drop 1)) = H18 at s18 e18
    have s58 := s16.trans (s17.trans s18)
    have hzr : DpAll K H18 (V.ref t5 :: zs.drop 1) (((r0.1, r0.2.1, r0.2.2 - tot) :: rest).map rowD) := by
      refine .cons (.tup (.inl (.inl (s58 _ _ e15))) (.cons (.int _) (.cons (.int _) (.cons (.int _) .nil)))) ?_
      have hz18 := dps_keep (Tp.same (s15.trans s58)) _ _ (rows_flat (r0 :: rest)) hzE
      cases hz18 with
      | cons a b => exact b
    have okr : ∀ r ∈ ((r0.1, r0.2.1, r0.2.2 - tot) :: rest : List Row), RowOk m r := fun r hr1 => by
      rcases List.mem_cons.mp hr1 with z | z
      · rw [z]; exact tok r0 (List.mem_cons_self ..)
      · exact tok r (List.mem_cons_of_mem _ z)
    have hsm : closedF (edges m ((r0.1, r0.2.1, r0.2.2 - tot) :: rest)) openF ≠ none := by
      refine rnd_some okr (rnd_loose hrnd) (by show 1 ≤ rest.length + 1; omega) ?_ ?_
      · rw [← efs] at hnd
        exact hnd
      · have : r0.2.2 + (rest.map fun r => r.2.2).sum = tot := etot
        show r0.2.2 - tot + (rest.map fun r => r.2.2).sum = 0
        omega
    obtain ⟨Dl, hDl⟩ : ∃ Dl, closedF (edges m ((r0.1, r0.2.1, r0.2.2 - tot) :: rest)) openF = some Dl := by
      cases e : closedF (edges m ((r0.1, r0.2.1, r0.2.2 - tot) :: rest)) openF with
      | none => exact absurd e hsm
      | some Dl => exact ⟨Dl, rfl⟩
    have rl : ((r0.1, r0.2.1, r0.2.2 - tot) :: rest : List Row).length ≤ 40 := by
      have : rest.length + 1 = ns3.length := tlen
      show rest.length + 1 ≤ 40; omega
    have s018 := s014.trans (s15.trans s58)
    clear hzE e15' e16 e17 hDE hD16 htr0 hDD hz11
    refine fun x6 dx6 nx6 ndx6 ne6 => mkB hdv hm nx6 ndx6 e18 hzr okr (by omega) fun H19 s19 hB19 => ?_
    have s019 := s018.trans s19
    obtain ⟨dyE6, fsE6, hxE6, lkE6⟩ := meB hB19 (n := "is_empty") (by decide +kernel) (by decide +kernel) (by decide +kernel)
    obtain ⟨dyR6, fsR6, hxR6, lkR6⟩ := meB hB19 (n := "ring") (by decide +kernel) (by decide +kernel) (by decide +kernel)
    obtain ⟨dyW6, fsW6, hxW6, lkW6⟩ := meB hB19 (n := "rows") (by decide +kernel) (by decide +kernel) (by decide +kernel)
    obtain ⟨dyP6, fsP6, hxP6, lkP6⟩ := meB hB19 (n := "point") (by decide +kernel) (by decide +kernel) (by decide +kernel)
    refine ⟨_, rfl, x6, dyE6, fsE6, rfl, hxE6, lkE6, x6, m, _, rfl, hB19, ?_⟩
    rw [show (closedF (edges m ((r0.1, r0.2.1, r0.2.2 - tot) :: rest)) openF).isNone = false by rw [hDl]; rfl]
    refine ⟨_, _, rfl, rfl, _, rfl, iteT ⟨_, rfl, x6, dyR6, fsR6, rfl, hxR6, lkR6, x6, m, _, rfl, hB19, fun _ => ?_, fun _ _ _ hz => absurd hz hsm⟩⟩
    refine ⟨rfl, _, rfl, iteT ⟨_, rfl, _, rfl, x6, dyW6, fsW6, rfl, hxW6, lkW6, x6, m, _, rfl, hB19, fun vr hvr => ?_⟩⟩
    obtain ⟨tw, rfl, xw, htw, hdw⟩ : ∃ tw, vr = .ref tw ∧ ∃ xw, SqT K H19 tw xw ∧ DpAll K H19 xw (((r0.1, r0.2.1, r0.2.2 - tot) :: rest).map rowD) := by
      obtain ⟨_, hvr⟩ := hvr
      cases hvr with
      | tup q r => exact ⟨_, rfl, _, q, r⟩
    refine ⟨_, rfl, x6, dyP6, fsP6, rfl, hxP6, lkP6, x6, m, _, rfl, hB19, fun u H20 s20 hu => ?_⟩
    rw [hDl] at hu
    obtain ⟨t7, ns7, rfl, ht7, hpt7⟩ := hu
    have hk7 := pt_keeps okr hDl hpt7
    exact ⟨tw, t7, m, _, ns7, rfl, ⟨⟨xw, .inr (Tp.same s20 _ _ htw), dps_keep (Tp.same s20) _ _ (rows_flat _) hdw⟩, okr, rl⟩, .inl (.inl ht7), hpt7.1, by omega, hk7, fun H21 s21 => q H21 (s019.trans (s20.trans s21))⟩
end
end Lm

set_option Elab.async false
set_option linter.all false
set_option maxRecDepth 100000
set_option maxHeartbeats 4000000
set_option pp.maxSteps 600
set_option pp.deepTerms.threshold 6
namespace Lm
open PySem PySem.Spec PyProof.Rows L2 LmR RZ
theorem ex_seq {K : PySem.W.Frag} {H H' : Hp} {f a : Addr} {xs : List V} (hf : H f = none) (ex : Ex [f] H H') (h : SqL K H a xs) : SqL K H' a xs := by
  rcases h with (h | ⟨o, h⟩) | h
  · exact .inl (.inl (ex _ _ h (by simp [ne_of_none h hf])))
  · exact .inl (.inr ⟨o, ex _ _ h (by simp [ne_of_none h hf])⟩)
  · exact .inr h
/-- one thing that is asked: how many, rows, bounds -/
def Askd (K : PySem.W.Frag) (C L : Addr) (H : Hp) (y : V) : Prop := ∃ (t l x : Addr) (m : Nat) (rs : List Row), y = .ref t ∧ SqT K H t [.int m, .ref l, .ref x] ∧ RowsAt K H l m rs ∧ BdAt K C H x m rs ∧ rs.length ≤ 12 ∧ m ≤ 10 ∧ l ≠ L ∧ x ≠ L
theorem Askd.keep {K : PySem.W.Frag} {C L : Addr} {H H' : Hp} {y : V} (h : Askd K C L H y) (e : ∀ b o, H b = some o → b ≠ L → H' b = some o) (tp : Tp K H H') : Askd K C L H' y := by
  obtain ⟨t, l, x, m, rs, rfl, h1, h2, h3, h4, h5, h6, h7⟩ := h
  exact ⟨t, l, x, m, rs, rfl, tp _ _ h1, h2.keep (fun o z => e _ _ z h6) tp, h3.keep (fun o z => e _ _ z h7) tp, h4, h5, h6, h7⟩
section
variable {P : Program} {w : World} {K : PySem.W.Frag} {mg : Str → Option Value} {base : Heap} {c_Bounds : Addr}
abbrev s_law : Stmt := topS 23
theorem sc_law : FnScope ["_law_script", "_law_asked", "_law_k", "_law_flow_here", "_law_many", "_law_far", "_law_rows_here", "_law_bounds"] ["_law_script"] (defScope s_law) := ⟨rfl, rfl, rfl, by decide +kernel, rfl, by decide +kernel, by decide +kernel⟩
def spLaw (K : PySem.W.Frag) : Sp := fun vs H Q _ => ∃ (a : Addr) (ns : List Int), vs = [.ref a] ∧ SqL K H a (ns.map V.int) ∧ ns.length ≤ 63 ∧ ∀ H', Q (.bl true) H'
theorem ok_law {dvs : List V} (hdv : dvs.drop 1 = []) (B : Bt mg) (T_Bounds : ClsAt K mg "Bounds" c_Bounds BF) (C_l_flow : Cal P w K mg base 2 "_law_flow" ["_law_script", "_law_k"] (spFlow K)) (C_l_draw : Cal P w K mg base 1 "_law_draw" ["_law_flow_here", "_law_many"] (spDraw)) (C_l_rows : Cal P w K mg base 2 "_law_rows" ["_law_flow_here", "_law_many", "_law_most", "_law_far"] (spRows K)) (C_l_ringed : Cal P w K mg base 2 "_law_ringed" ["_law_flow_here", "_law_many", "_law_rows_here", "_law_far"] (spRgd K)) (C_l_right : Cal P w K mg base 7 "_law_right" ["_law_many", "_law_rows_here", "_law_bounds"] (spRt22 K c_Bounds)) (I_Bounds : CalI P w K mg base 5 c_Bounds "Bounds" ["self", "many", "rows"] dvs 1 (spInit K c_Bounds)) {f : Addr} {fd : FuncData} (F : Fun K "law" "law" s_law f fd) : FnOk P w K mg base CX0 8 f fd ["_law_script"] (spLaw K) := by
  refine F.ok sc_law (fun vs H Q E h => ?_) (fun cdv A outer s H vs Q E hr h => ?_)
  · obtain ⟨a, ns, rfl, _⟩ := h
    rfl
  obtain ⟨a, ns, rfl, hS, h63, q⟩ := h
  have hr' : Room 7 _ := hr
  have hr'' := hr'
  have C_l_flow := C_l_flow.mono (k := 7) (by decide)
  have C_l_draw := C_l_draw.mono (k := 7) (by decide)
  have C_l_rows := C_l_rows.mono (k := 7) (by decide)
  have C_l_ringed := C_l_ringed.mono (k := 7) (by decide)
  have I_Bounds := I_Bounds.mono (k := 6) (by decide)
  refine ⟨_, (pss_cons (ps_set (i := 1) sc_law.nd rfl (.inl rfl) (pe_lst pa_nil))
      (pss_cons (ps_for PassesOwn.never rfl (pi_range1 (by rfl) B.range (pa_cons (pe_callB (call_max2 rfl) (by rfl) B.max PyProof.Rows.boot_max (pa_cons pe_int (pa_cons (pe_callB (call_min2 rfl) (by rfl) B.min PyProof.Rows.boot_min (pa_cons pe_int (pa_cons (pe_callB call_len_seq (by rfl) B.len PySem.boot_len (pa_cons (pv 0) pa_nil)) pa_nil))) pa_nil))) pa_nil)) (pg_name (i := 2) sc_law.nd rfl (.inl rfl))
        (pss_cons (ps_set (i := 3) sc_law.nd rfl (.inl rfl) (pe_cal C_l_flow hr' (by rfl) (pa_cons (pv 0) (pa_cons (pv 2) pa_nil))))
      (pss_cons (ps_par (i := 4) (j := 5) rfl sc_law.nd rfl rfl (by decide) rfl rfl (pa_cons (pe_cal C_l_draw hr' (by rfl) (pa_cons (pv 3) (pa_cons pe_int pa_nil))) (pa_cons (pe_ix ix_list (pe_lst (pa_cons pe_int (pa_cons pe_int (pa_cons pe_int pa_nil)))) (pe_cal C_l_draw hr' (by rfl) (pa_cons (pv 3) (pa_cons pe_int pa_nil))) (fun _ _ => rfl)) pa_nil)) rfl)
      (pss_cons (ps_set (i := 6) sc_law.nd rfl (.inl rfl) (pe_cal C_l_rows hr' (by rfl) (pa_cons (pv 3) (pa_cons (pv 4) (pa_cons pe_int (pa_cons (pv 5) pa_nil))))))
      (C8.pss_cut (ps_if (PW.pt (pw_and (pt_cmpR op_eq (pe_cal C_l_draw hr' (by rfl) (pa_cons (pv 3) (pa_cons pe_int pa_nil))) pe_int (nomark _)) (pw_and1 (pt_cmpR op_lt (pe_callB call_len_seq (by rfl) B.len PySem.boot_len (pa_cons (pv 6) pa_nil)) pe_int (nomark _)))))
        (pss_one (ps_set (i := 6) sc_law.nd rfl (.inl rfl) (pe_cal C_l_ringed hr' (by rfl) (pa_cons (pv 3) (pa_cons (pv 4) (pa_cons (pv 6) (pa_cons (pv 5) pa_nil)))))))
        pss_nil)
      (pss_one (ps_expr (pe_bm PySem.F.plainAttrs_list PySem.F.slot_list_append PySem.F.type_list_append mt_append (pv 1) (pa_cons (pe_tup (pa_cons (pv 4) (pa_cons (pv 6) (pa_cons (pe_calI I_Bounds hr'' (by rfl) (pa_cons (pv 4) (pa_cons (pv 6) pa_nil))) pa_nil)))) pa_nil)))))))))
      (pss_one (ps_ret (pe_callB (cr_all rfl) (by rfl) B.all PyProof.Rows.boot_all (pa_cons (pe_lc (own := [("_law_many", 4), ("_law_rows_here", 6), ("_law_bounds", 7)]) (g := gTup K 3 (gCons (gName 4) (gCons (gName 6) (gCons (gName 7) gNil)))) rfl sc_law.nd (pi_list (pe_op op_cat (pv 1) (pe_slice sl_list (pv 1) po_none (po_some pe_int)))) (blkOk_by (own := [("_law_many", 4), ("_law_rows_here", 6), ("_law_bounds", 7)]) (N := ["_law_script", "_law_asked", "_law_k", "_law_flow_here", "_law_many", "_law_far", "_law_rows_here", "_law_bounds"]) (sc := defScope s_law) (by decide +kernel)) (fun _ _ _ _ _ => (pg_tupK (K := K) rfl rfl (pgs_cons (pg_name (i := 4) sc_law.nd rfl (.inl rfl)) (pgs_cons (pg_name (i := 6) sc_law.nd rfl (.inl rfl)) (pgs_cons (pg_name (i := 7) sc_law.nd rfl (.inl rfl)) pgs_nil))))) (fun _ _ _ _ _ => pts_nil) (fun _ _ _ _ _ => (pe_cal C_l_right hr' (by rfl) (pa_cons (pv 4) (pa_cons (pv 6) (pa_cons (pv 7) pa_nil)))))) pa_nil)))))), ?_⟩
  refine ⟨(by show 0 ≤ sizeLine; decide), fun L hL => ?_⟩
  have sL := same_new (o := .lst []) hL
  have eL : (upd H L (.lst [])) L = some (.lst []) := upd_same
  generalize upd H L (.lst []) = H0 at sL eL
  refine ⟨_, rfl, a, _, rfl, .inl (sL.seq hS), 4, _, rfl, 1, _, rfl, ?_⟩
  obtain ⟨m, em, m0, m63⟩ : ∃ m : Int, (if (if (((ns.map V.int).length : Nat) : Int) < 4 then (((ns.map V.int).length : Nat) : Int) else 4) > 1 then (if (((ns.map V.int).length : Nat) : Int) < 4 then (((ns.map V.int).length : Nat) : Int) else 4) else 1) = m ∧ 0 ≤ m ∧ m ≤ 63 := by
    refine ⟨_, rfl, ?_, ?_⟩
    · split <;> split <;> omega
    · split <;> split <;> omega
  show ∃ n : Int, [V.int (if (if (((ns.map V.int).length : Nat) : Int) < 4 then (((ns.map V.int).length : Nat) : Int) else 4) > 1 then (if (((ns.map V.int).length : Nat) : Int) < 4 then (((ns.map V.int).length : Nat) : Int) else 4) else 1)] = [V.int n] ∧ _
  rw [em]
  refine ⟨m, rfl, by omega, by omega, for_range (lo := 0) (n := m.toNat) (fun i σ' H' => (∃ y2 y3 y4 y5 y6 y7 : Option V, σ' = [some (.ref a), some (.ref L), y2, y3, y4, y5, y6, y7]) ∧ Ex [L] H H' ∧ ∃ ys : List V, H' L = some (.lst ys) ∧ ys.length = i ∧ ∀ y ∈ ys, Askd K c_Bounds L H' y) ⟨⟨_, _, _, _, _, _, rfl⟩, Ex.of_same sL, [], eL, rfl, fun y h => nomatch h⟩ ?_ ?_⟩
  · rintro i σ' H' hi ⟨⟨y2, y3, y4, y5, y6, y7, rfl⟩, hE, ys, eL', ly, hys⟩
    have hS' := ex_seq hL hE hS
    refine ⟨_, rfl, _, rfl, a, ns, _, rfl, hS', by omega, by omega, fun f o hf fl => ?_⟩
    have s1 : Same H' (upd H' f o) := same_new hf
    generalize upd H' f o = H2 at s1 fl
    have nLf : L ≠ f := ne_of_none eL' hf
    refine ⟨_, rfl, f, 6, rfl, fl, by decide, by decide, fun d H3 d0 d1 dr3 => ?_⟩
    obtain ⟨kk, rfl⟩ : ∃ kk : Nat, d = (kk : Int) := ⟨d.toNat, by omega⟩
    have g3 := dr3.gr
    refine ⟨(by show 3 ≤ sizeLine; decide), fun l2 hl2 => ?_⟩
    have n2f := g3.fl.nf hl2
    have g4 := g3.trans (Gr.new (o := .lst [V.int 2, V.int 9, V.int 1000]) g3.fl hl2)
    have e4 : (upd H3 l2 (.lst [V.int 2, V.int 9, V.int 1000])) l2 = some (.lst [V.int 2, V.int 9, V.int 1000]) := upd_same
    generalize upd H3 l2 (.lst [V.int 2, V.int 9, V.int 1000]) = H4 at g4 e4
    refine ⟨_, rfl, f, 3, rfl, g4.fl, by decide, by decide, fun d2 H5 d20 d21 dr5 => ?_⟩
    have g5 := g4.trans dr5.gr
    obtain ⟨far, ev, v1, v2⟩ : ∃ v : Int, atI [V.int 2, V.int 9, V.int 1000] d2 = some (.int v) ∧ 0 ≤ v ∧ v ≤ 1000 := by
      rcases (show d2 = 0 ∨ d2 = 1 ∨ d2 = 2 by omega) with z | z | z
      · subst z; exact ⟨2, rfl, by decide, by decide⟩
      · subst z; exact ⟨9, rfl, by decide, by decide⟩
      · subst z; exact ⟨1000, rfl, by decide, by decide⟩
    refine ⟨l2, _, d2, _, rfl, rfl, SqL.of ((dr5.off l2 n2f).trans e4), ev, _, _, rfl, ?_⟩
    refine ⟨_, rfl, _, rfl, _, rfl, f, kk, 12, far, rfl, g5.fl, by omega, by decide, by decide, v1, v2, fun l0 xs0 rs0 H6 g6 nl0 hl0 hd0 hok0 hc0 hlen0 => ?_⟩
    have g16 := g5.trans g6
    have xl0 := (dpall_getM _ hd0).1
    have nl0f := g5.fl.nf nl0
    have lL : ∀ {H5 : Hp}, Gr f H2 H5 → H5 L = some (.lst ys) := fun g => g.ex _ _ (s1 _ _ eL') (by simp [nLf])
    have lnew : ∀ {H5 : Hp} {p : Addr}, Gr f H2 H5 → H5 p = none → p ≠ L := fun g h z => by
      have := lL g
      rw [← z, h] at this
      cases this
    refine ⟨fun σ' H7 => ∃ (l : Addr) (xs : List V) (rs : List Row), σ' = [some (.ref a), some (.ref L), some (.int (0 + (i : Int))), some (.ref f), some (.int (kk : Nat)), some (.int far), some (.ref l), y7] ∧ Gr f H2 H7 ∧ H7 l = some (.lst xs) ∧ DpAll K H7 xs (rs.map rowD) ∧ (∀ r ∈ rs, RowOk kk r) ∧ rs.length ≤ 12 ∧ l ≠ f ∧ l ≠ L, ?_, ?_⟩
    · have same0 : ∀ H7, Gr f H6 H7 → ((fun σ' H7 => ∃ (l : Addr) (xs : List V) (rs : List Row), σ' = [some (.ref a), some (.ref L), some (.int (0 + (i : Int))), some (.ref f), some (.int (kk : Nat)), some (.int far), some (.ref l), y7] ∧ Gr f H2 H7 ∧ H7 l = some (.lst xs) ∧ DpAll K H7 xs (rs.map rowD) ∧ (∀ r ∈ rs, RowOk kk r) ∧ rs.length ≤ 12 ∧ l ≠ f ∧ l ≠ L) : L2.St → Hp → Prop) [some (.ref a), some (.ref L), some (.int (0 + (i : Int))), some (.ref f), some (.int (kk : Nat)), some (.int far), some (.ref l0), y7] H7 := fun H7 g =>
        ⟨l0, xs0, rs0, rfl, g16.trans g, g.ex _ _ hl0 (by simp [nl0f]), dps_keep (g.tp g16.fl) _ _ (rows_flat _) hd0, hok0, by omega, nl0f, lnew g5 nl0⟩
      refine ⟨_, rfl, f, 2, rfl, g16.fl, by decide, by decide, fun d7 H7 d70 d71 dr7 => ⟨rfl, _, rfl, ite2 (fun _ => ?_) (fun _ => same0 _ dr7.gr)⟩⟩
      have g7 := g16.trans dr7.gr
      have hl7 := dr7.ex _ _ hl0 (by simp [nl0f])
      refine ⟨_, rfl, l0, xs0, rfl, .inl (SqL.of hl7), _, _, rfl, rfl, _, rfl, ite2 (fun c => ?_) (fun _ => same0 _ dr7.gr)⟩
      have c' : ((xs0.length : Nat) : Int) < 12 := of_decide_eq_true c
      exact ⟨_, rfl, _, rfl, _, rfl, _, rfl, f, l0, kk, rs0, far, rfl, g7.fl, by omega, ⟨⟨xs0, hl7, dps_keep (dr7.gr.tp g16.fl) _ _ (rows_flat _) hd0⟩, hok0, by omega⟩, nl0f, by omega, v1, v2, fun l xs rs H8 g8 nl hl hd hok hl1 hl12 => ⟨l, xs, rs, rfl, g7.trans g8, hl, hd, hok, hl12, g7.fl.nf nl, lnew g7 nl⟩⟩
    rintro _ H7 ⟨l, xs, rs, rfl, g7, hl, hd, hok, hlen, nlf, nlL⟩
    clear g3 g4 g5 g6 g16 hl0 hd0 hok0 hc0 hlen0 e4 ev hl2 n2f dr3 dr5 nl0
    refine ⟨_, rfl, .inl ⟨rfl, _, SqL.of (lL g7)⟩, _, rfl, _, rfl, _, rfl, _, rfl, fun x dx nx ndx ne => mkB hdv (by omega) nx ndx hl hd hok (by omega) fun H9 s9 hB => ⟨(by show 3 ≤ sizeLine; decide), fun t ht => ?_⟩⟩
    have g9 := g7.trans (Gr.same g7.fl s9)
    have nxL := lnew g7 nx
    have s10 := same_new (o := .tup [V.int (kk : Nat), V.ref l, V.ref x]) ht
    have e10 : (upd H9 t (.tup [V.int (kk : Nat), V.ref l, V.ref x])) t = some (.tup [V.int (kk : Nat), V.ref l, V.ref x]) := upd_same
    generalize upd H9 t (.tup [V.int (kk : Nat), V.ref l, V.ref x]) = H10 at s10 e10
    have g10 := g9.trans (Gr.same g9.fl s10)
    refine ⟨L, ys, _, rfl, rfl, lL g10, by rw [ly]; exact smallL (by omega), ?_⟩
    have tL : Tp K H10 (upd H10 L (.lst (ys ++ [V.ref t]))) := Tp.lst (lL g10)
    have oL : ∀ b o, H10 b = some o → b ≠ L → (upd H10 L (.lst (ys ++ [V.ref t]))) b = some o := fun b o z n => by rw [upd_ne n]; exact z
    refine ⟨⟨_, _, _, _, _, _, rfl⟩, ?_, ys ++ [V.ref t], upd_same, by rw [List.length_append, ly]; rfl, fun y hy => ?_⟩
    · intro b o z nb
      have nb' : b ≠ L := by simpa using nb
      have z' := hE b o z nb
      exact oL _ _ (g10.ex _ _ (s1 _ _ z') (by simp [ne_of_none z' hf])) nb'
    · have hR : Askd K c_Bounds L H10 (.ref t) := ⟨t, l, x, kk, rs, rfl, .inl (.inl e10), ⟨⟨xs, s10 _ _ (s9 _ _ hl), dps_keep ((Tp.same s9).trans (Tp.same s10)) _ _ (rows_flat _) hd⟩, hok, by omega⟩, hB.same s10, hlen, by omega, nlL, nxL⟩
      have e210 : ∀ b o, H' b = some o → b ≠ L → H10 b = some o := fun b o z _ => g10.ex _ _ (s1 _ _ z) (by simp [ne_of_none z hf])
      rcases List.mem_append.mp hy with z | z
      · exact ((hys y z).keep e210 ((Tp.same s1).trans (g10.tp fl))).keep oL tL
      · rw [List.mem_singleton.mp z]; exact hR.keep oL tL
  · rintro σ' H1 ⟨⟨y2, y3, y4, y5, y6, y7, rfl⟩, hE, ys, eL', ly, hys⟩
    have ml : ys.length ≤ 63 := by omega
    refine ⟨_, rfl, _, rfl, _, rfl, L, ys, rfl, SqL.of eL', fun l1 hl1 => ?_⟩
    have s1 := same_new (o := .lst (cutV ys none (some 1))) hl1
    have e1 : (upd H1 l1 (.lst (cutV ys none (some 1)))) l1 = some (.lst (cutV ys none (some 1))) := upd_same
    generalize upd H1 l1 (.lst (cutV ys none (some 1))) = H2 at s1 e1
    have cl : (cutV ys none (some 1)).length ≤ 63 := by
      unfold cutV
      rw [List.length_take, List.length_drop]
      omega
    have cm : ∀ y ∈ cutV ys none (some 1), y ∈ ys := fun y h => by
      unfold cutV at h
      exact List.mem_of_mem_drop (List.mem_of_mem_take h)
    refine ⟨L, l1, ys, _, rfl, rfl, s1 _ _ eL', e1, small (by omega), fun l2 hl2 => ?_⟩
    have s2 := same_new (o := .lst (ys ++ cutV ys none (some 1))) hl2
    have e2 : (upd H2 l2 (.lst (ys ++ cutV ys none (some 1)))) l2 = some (.lst (ys ++ cutV ys none (some 1))) := upd_same
    generalize upd H2 l2 (.lst (ys ++ cutV ys none (some 1))) = H3 at s2 e2
    have hall : ∀ y ∈ ys ++ cutV ys none (some 1), Askd K c_Bounds L H3 y := fun y h => by
      have z : y ∈ ys := (List.mem_append.mp h).elim id (cm y)
      exact (hys y z).keep (fun b o w _ => s2 _ _ (s1 _ _ w)) ((Tp.same s1).trans (Tp.same s2))
    have al : (ys ++ cutV ys none (some 1)).length ≤ 126 := by rw [List.length_append]; omega
    generalize ys ++ cutV ys none (some 1) = zs at e2 hall al
    refine ⟨l2, rfl, ⟨_, SqL.of e2⟩, fun D hD => lc_list (K := K) (a := l2) (xs := zs) (fun j H' => Same H3 H' ∧ H' D = some (.lst ((List.replicate j true).map V.bl))) ?_ ?_ ?_ ?_⟩
    · exact ⟨same_new hD, upd_same⟩
    · rintro j H' _ ⟨s', _⟩
      exact SqL.of (s' _ _ e2)
    · rintro j y H' hy ⟨s', hD'⟩
      have jl := (List.getElem?_eq_some_iff.mp hy).1
      obtain ⟨t, l, x, m', rs, rfl, h1, h2, h3, h4, h5, h6, h7⟩ := hall y (List.mem_of_getElem? hy)
      refine ⟨t, _, rfl, Tp.same s' _ _ h1, rfl, _, _, rfl, _, _, rfl, _, _, rfl, rfl, rfl, _, rfl, _, rfl, _, rfl, l, x, m', rs, rfl, h2.same s', h4, h5, h3.same s', fun H5 s5 => ?_⟩
      refine ⟨_, s5 _ _ hD', by rw [List.length_map, List.length_replicate]; exact smallL (by omega), fun b o w => ?_, ?_⟩
      · rw [upd_ne (ne_of_none w hD)]
        exact s5 _ _ (s' _ _ w)
      · rw [upd_same, List.replicate_succ', List.map_append]
        rfl
    rintro H4 ⟨s4, hD4⟩
    refine ⟨D, _, rfl, SqL.of hD4, ?_⟩
    rw [show (List.replicate zs.length true).all id = true by simp]
    exact q _
end
end Lm

set_option Elab.async false
set_option linter.all false
set_option maxRecDepth 100000
set_option maxHeartbeats 2000000
namespace Lm
open PySem PySem.Spec PyProof.Rows L2 LmR
theorem defAt_mk {K : PySem.W.Frag} {h : Heap} {mg : Str → Option Value} {x : Str} {st : Stmt} {ps : List Str} {f : Addr} {oc : Value} {od an : Option Addr} {osl : Array (Option Value)} {kV doc pm cdv ct : Value} (X : K.In h) (G : h.Ns mainGlobals mg)
    (a : PySem.W.nsIn K mainGlobals x = some (some (.ref f))) (l : K.lookup f = some ⟨oc, od, .func (PySem.W.fnOf x x (defArgs st) (defBody st) (defScope st) .none kV doc pm an cdv ct), osl⟩) (c : PySem.W.codeIn K cdv x = true) (k : PySem.W.keepIn K (.ref f) = true)
    (hb : ∀ (kV doc pm : Value) (an : Option Addr) (cdv ct : Value) (us : List Value), us.length = ps.length → bindArgs (PySem.W.fnOf x x (defArgs st) (defBody st) (defScope st) .none kV doc pm an cdv ct) ⟨us, []⟩ = pure (ps.zip us)) : DefAt K mg x st ps :=
  ⟨f, _, fun_mk l c k, (fun_mk l c k).binds hb, PySem.W.mg_of X G a⟩
theorem all_mk {l : PySem.W.OpenLaw} {w : World} {K : PySem.W.Frag} {h : Heap} {mg : Str → Option Value} {fa : Addr} (X : K.In h) (G : h.Ns mainGlobals mg) (hfa : mg "law" = some (.ref fa))
    {f0 : Addr} {od0 an0 : Option Addr} {sl0 : Array (Option Value)} {oc0 kV0 dc0 pm0 cd0 ct0 : Value} {f1 : Addr} {od1 an1 : Option Addr} {sl1 : Array (Option Value)} {oc1 kV1 dc1 pm1 cd1 ct1 : Value} {f2 : Addr} {od2 an2 : Option Addr} {sl2 : Array (Option Value)} {oc2 kV2 dc2 pm2 cd2 ct2 : Value} {f3 : Addr} {od3 an3 : Option Addr} {sl3 : Array (Option Value)} {oc3 kV3 dc3 pm3 cd3 ct3 : Value} {f4 : Addr} {od4 an4 : Option Addr} {sl4 : Array (Option Value)} {oc4 kV4 dc4 pm4 cd4 ct4 : Value} {f5 : Addr} {od5 an5 : Option Addr} {sl5 : Array (Option Value)} {oc5 kV5 dc5 pm5 cd5 ct5 : Value} {f6 : Addr} {od6 an6 : Option Addr} {sl6 : Array (Option Value)} {oc6 kV6 dc6 pm6 cd6 ct6 : Value} {f7 : Addr} {od7 an7 : Option Addr} {sl7 : Array (Option Value)} {oc7 kV7 dc7 pm7 cd7 ct7 : Value} {f8 : Addr} {od8 an8 : Option Addr} {sl8 : Array (Option Value)} {oc8 kV8 dc8 pm8 cd8 ct8 : Value} {f9 : Addr} {od9 an9 : Option Addr} {sl9 : Array (Option Value)} {oc9 kV9 dc9 pm9 cd9 ct9 : Value} {f10 : Addr} {od10 an10 : Option Addr} {sl10 : Array (Option Value)} {oc10 kV10 dc10 pm10 cd10 ct10 : Value} {f11 : Addr} {od11 an11 : Option Addr} {sl11 : Array (Option Value)} {oc11 kV11 dc11 pm11 cd11 ct11 : Value} {f12 : Addr} {od12 an12 : Option Addr} {sl12 : Array (Option Value)} {oc12 kV12 dc12 pm12 cd12 ct12 : Value} {f13 : Addr} {od13 an13 : Option Addr} {sl13 : Array (Option Value)} {oc13 kV13 dc13 pm13 cd13 ct13 : Value} {f14 : Addr} {od14 an14 : Option Addr} {sl14 : Array (Option Value)} {oc14 kV14 dc14 pm14 cd14 ct14 : Value} {f15 : Addr} {od15 an15 : Option Addr} {sl15 : Array (Option Value)} {oc15 kV15 dc15 pm15 cd15 ct15 : Value} {f16 : Addr} {od16 an16 : Option Addr} {sl16 : Array (Option Value)} {oc16 kV16 dc16 pm16 cd16 ct16 : Value} {f17 : Addr} {od17 an17 : Option Addr} {sl17 : Array (Option Value)} {oc17 kV17 dc17 pm17 cd17 ct17 : Value} {f18 : Addr} {od18 an18 : Option Addr} {sl18 : Array (Option Value)} {oc18 kV18 dc18 pm18 cd18 ct18 : Value} {cO_Bounds fI_Bounds eT_Bounds e0_Bounds : Addr} {ooc_Bounds okV_Bounds odc_Bounds opm_Bounds ocd_Bounds oct_Bounds : Value} {ood_Bounds oan_Bounds edT_Bounds : Option Addr} {osl_Bounds eslT_Bounds : Array (Option Value)} {enT_Bounds : Nat} {fM_Bounds_rows : Addr} {moc_Bounds_rows mkV_Bounds_rows mdc_Bounds_rows mpm_Bounds_rows mcd_Bounds_rows mct_Bounds_rows : Value} {mod_Bounds_rows man_Bounds_rows : Option Addr} {msl_Bounds_rows : Array (Option Value)} {fM_Bounds_is_empty : Addr} {moc_Bounds_is_empty mkV_Bounds_is_empty mdc_Bounds_is_empty mpm_Bounds_is_empty mcd_Bounds_is_empty mct_Bounds_is_empty : Value} {mod_Bounds_is_empty man_Bounds_is_empty : Option Addr} {msl_Bounds_is_empty : Array (Option Value)} {fM_Bounds_ring : Addr} {moc_Bounds_ring mkV_Bounds_ring mdc_Bounds_ring mpm_Bounds_ring mcd_Bounds_ring mct_Bounds_ring : Value} {mod_Bounds_ring man_Bounds_ring : Option Addr} {msl_Bounds_ring : Array (Option Value)} {fM_Bounds_point : Addr} {moc_Bounds_point mkV_Bounds_point mdc_Bounds_point mpm_Bounds_point mcd_Bounds_point mct_Bounds_point : Value} {mod_Bounds_point man_Bounds_point : Option Addr} {msl_Bounds_point : Array (Option Value)}
    (a0 : PySem.W.nsIn K mainGlobals "open_bounds" = some (some (.ref f0))) (l0 : K.lookup f0 = some ⟨oc0, od0, .func (PySem.W.fnOf "open_bounds" "open_bounds" (defArgs s_open_bounds) (defBody s_open_bounds) (defScope s_open_bounds) .none kV0 dc0 pm0 an0 cd0 ct0), sl0⟩) (c0 : PySem.W.codeIn K cd0 "open_bounds" = true) (k0 : PySem.W.keepIn K (.ref f0) = true)
    (a1 : PySem.W.nsIn K mainGlobals "tightened" = some (some (.ref f1))) (l1 : K.lookup f1 = some ⟨oc1, od1, .func (PySem.W.fnOf "tightened" "tightened" (defArgs s_tightened) (defBody s_tightened) (defScope s_tightened) .none kV1 dc1 pm1 an1 cd1 ct1), sl1⟩) (c1 : PySem.W.codeIn K cd1 "tightened" = true) (k1 : PySem.W.keepIn K (.ref f1) = true)
    (a2 : PySem.W.nsIn K mainGlobals "known" = some (some (.ref f2))) (l2 : K.lookup f2 = some ⟨oc2, od2, .func (PySem.W.fnOf "known" "known" (defArgs s_known) (defBody s_known) (defScope s_known) .none kV2 dc2 pm2 an2 cd2 ct2), sl2⟩) (c2 : PySem.W.codeIn K cd2 "known" = true) (k2 : PySem.W.keepIn K (.ref f2) = true)
    (a3 : PySem.W.nsIn K mainGlobals "row_through" = some (some (.ref f3))) (l3 : K.lookup f3 = some ⟨oc3, od3, .func (PySem.W.fnOf "row_through" "row_through" (defArgs s_row_through) (defBody s_row_through) (defScope s_row_through) .none kV3 dc3 pm3 an3 cd3 ct3), sl3⟩) (c3 : PySem.W.codeIn K cd3 "row_through" = true) (k3 : PySem.W.keepIn K (.ref f3) = true)
    (a4 : PySem.W.nsIn K mainGlobals "lesser" = some (some (.ref f4))) (l4 : K.lookup f4 = some ⟨oc4, od4, .func (PySem.W.fnOf "lesser" "lesser" (defArgs s_lesser) (defBody s_lesser) (defScope s_lesser) .none kV4 dc4 pm4 an4 cd4 ct4), sl4⟩) (c4 : PySem.W.codeIn K cd4 "lesser" = true) (k4 : PySem.W.keepIn K (.ref f4) = true)
    (a5 : PySem.W.nsIn K mainGlobals "point_in" = some (some (.ref f5))) (l5 : K.lookup f5 = some ⟨oc5, od5, .func (PySem.W.fnOf "point_in" "point_in" (defArgs s_point_in) (defBody s_point_in) (defScope s_point_in) .none kV5 dc5 pm5 an5 cd5 ct5), sl5⟩) (c5 : PySem.W.codeIn K cd5 "point_in" = true) (k5 : PySem.W.keepIn K (.ref f5) = true)
    (a6 : PySem.W.nsIn K mainGlobals "closed_by" = some (some (.ref f6))) (l6 : K.lookup f6 = some ⟨oc6, od6, .func (PySem.W.fnOf "closed_by" "closed_by" (defArgs s_closed_by) (defBody s_closed_by) (defScope s_closed_by) .none kV6 dc6 pm6 an6 cd6 ct6), sl6⟩) (c6 : PySem.W.codeIn K cd6 "closed_by" = true) (k6 : PySem.W.keepIn K (.ref f6) = true)
    (a7 : PySem.W.nsIn K mainGlobals "ring_among" = some (some (.ref f7))) (l7 : K.lookup f7 = some ⟨oc7, od7, .func (PySem.W.fnOf "ring_among" "ring_among" (defArgs s_ring_among) (defBody s_ring_among) (defScope s_ring_among) .none kV7 dc7 pm7 an7 cd7 ct7), sl7⟩) (c7 : PySem.W.codeIn K cd7 "ring_among" = true) (k7 : PySem.W.keepIn K (.ref f7) = true)
    (a8 : PySem.W.nsIn K mainGlobals "lowered" = some (some (.ref f8))) (l8 : K.lookup f8 = some ⟨oc8, od8, .func (PySem.W.fnOf "lowered" "lowered" (defArgs s_lowered) (defBody s_lowered) (defScope s_lowered) .none kV8 dc8 pm8 an8 cd8 ct8), sl8⟩) (c8 : PySem.W.codeIn K cd8 "lowered" = true) (k8 : PySem.W.keepIn K (.ref f8) = true)
    (a9 : PySem.W.nsIn K mainGlobals "_law_cell" = some (some (.ref f9))) (l9 : K.lookup f9 = some ⟨oc9, od9, .func (PySem.W.fnOf "_law_cell" "_law_cell" (defArgs s_l_cell) (defBody s_l_cell) (defScope s_l_cell) .none kV9 dc9 pm9 an9 cd9 ct9), sl9⟩) (c9 : PySem.W.codeIn K cd9 "_law_cell" = true) (k9 : PySem.W.keepIn K (.ref f9) = true)
    (a10 : PySem.W.nsIn K mainGlobals "_law_flow" = some (some (.ref f10))) (l10 : K.lookup f10 = some ⟨oc10, od10, .func (PySem.W.fnOf "_law_flow" "_law_flow" (defArgs s_l_flow) (defBody s_l_flow) (defScope s_l_flow) .none kV10 dc10 pm10 an10 cd10 ct10), sl10⟩) (c10 : PySem.W.codeIn K cd10 "_law_flow" = true) (k10 : PySem.W.keepIn K (.ref f10) = true)
    (a11 : PySem.W.nsIn K mainGlobals "_law_draw" = some (some (.ref f11))) (l11 : K.lookup f11 = some ⟨oc11, od11, .func (PySem.W.fnOf "_law_draw" "_law_draw" (defArgs s_l_draw) (defBody s_l_draw) (defScope s_l_draw) .none kV11 dc11 pm11 an11 cd11 ct11), sl11⟩) (c11 : PySem.W.codeIn K cd11 "_law_draw" = true) (k11 : PySem.W.keepIn K (.ref f11) = true)
    (a12 : PySem.W.nsIn K mainGlobals "_law_rows" = some (some (.ref f12))) (l12 : K.lookup f12 = some ⟨oc12, od12, .func (PySem.W.fnOf "_law_rows" "_law_rows" (defArgs s_l_rows) (defBody s_l_rows) (defScope s_l_rows) .none kV12 dc12 pm12 an12 cd12 ct12), sl12⟩) (c12 : PySem.W.codeIn K cd12 "_law_rows" = true) (k12 : PySem.W.keepIn K (.ref f12) = true)
    (a13 : PySem.W.nsIn K mainGlobals "_law_keeps" = some (some (.ref f13))) (l13 : K.lookup f13 = some ⟨oc13, od13, .func (PySem.W.fnOf "_law_keeps" "_law_keeps" (defArgs s_l_keeps) (defBody s_l_keeps) (defScope s_l_keeps) .none kV13 dc13 pm13 an13 cd13 ct13), sl13⟩) (c13 : PySem.W.codeIn K cd13 "_law_keeps" = true) (k13 : PySem.W.keepIn K (.ref f13) = true)
    (a14 : PySem.W.nsIn K mainGlobals "_law_is_ring" = some (some (.ref f14))) (l14 : K.lookup f14 = some ⟨oc14, od14, .func (PySem.W.fnOf "_law_is_ring" "_law_is_ring" (defArgs s_l_is_ring) (defBody s_l_is_ring) (defScope s_l_is_ring) .none kV14 dc14 pm14 an14 cd14 ct14), sl14⟩) (c14 : PySem.W.codeIn K cd14 "_law_is_ring" = true) (k14 : PySem.W.keepIn K (.ref f14) = true)
    (a15 : PySem.W.nsIn K mainGlobals "_law_ringed" = some (some (.ref f15))) (l15 : K.lookup f15 = some ⟨oc15, od15, .func (PySem.W.fnOf "_law_ringed" "_law_ringed" (defArgs s_l_ringed) (defBody s_l_ringed) (defScope s_l_ringed) .none kV15 dc15 pm15 an15 cd15 ct15), sl15⟩) (c15 : PySem.W.codeIn K cd15 "_law_ringed" = true) (k15 : PySem.W.keepIn K (.ref f15) = true)
    (a16 : PySem.W.nsIn K mainGlobals "_law_is_point" = some (some (.ref f16))) (l16 : K.lookup f16 = some ⟨oc16, od16, .func (PySem.W.fnOf "_law_is_point" "_law_is_point" (defArgs s_l_is_point) (defBody s_l_is_point) (defScope s_l_is_point) .none kV16 dc16 pm16 an16 cd16 ct16), sl16⟩) (c16 : PySem.W.codeIn K cd16 "_law_is_point" = true) (k16 : PySem.W.keepIn K (.ref f16) = true)
    (a17 : PySem.W.nsIn K mainGlobals "_law_right" = some (some (.ref f17))) (l17 : K.lookup f17 = some ⟨oc17, od17, .func (PySem.W.fnOf "_law_right" "_law_right" (defArgs s_l_right) (defBody s_l_right) (defScope s_l_right) .none kV17 dc17 pm17 an17 cd17 ct17), sl17⟩) (c17 : PySem.W.codeIn K cd17 "_law_right" = true) (k17 : PySem.W.keepIn K (.ref f17) = true)
    (a18 : PySem.W.nsIn K mainGlobals "law" = some (some (.ref f18))) (l18 : K.lookup f18 = some ⟨oc18, od18, .func (PySem.W.fnOf "law" "law" (defArgs s_law) (defBody s_law) (defScope s_law) .none kV18 dc18 pm18 an18 cd18 ct18), sl18⟩) (c18 : PySem.W.codeIn K cd18 "law" = true) (k18 : PySem.W.keepIn K (.ref f18) = true)
    (z0 : PySem.W.nsIn K mainGlobals "len" = some none)
    (z1 : PySem.W.nsIn K mainGlobals "isinstance" = some none)
    (z2 : PySem.W.nsIn K mainGlobals "tuple" = some none)
    (z3 : PySem.W.nsIn K mainGlobals "list" = some none)
    (z4 : PySem.W.nsIn K mainGlobals "str" = some none)
    (z5 : PySem.W.nsIn K mainGlobals "int" = some none)
    (z6 : PySem.W.nsIn K mainGlobals "bool" = some none)
    (z7 : PySem.W.nsIn K mainGlobals "range" = some none)
    (z8 : PySem.W.nsIn K mainGlobals "zip" = some none)
    (z9 : PySem.W.nsIn K mainGlobals "enumerate" = some none)
    (z10 : PySem.W.nsIn K mainGlobals "reversed" = some none)
    (z11 : PySem.W.nsIn K mainGlobals "max" = some none)
    (z12 : PySem.W.nsIn K mainGlobals "all" = some none)
    (z13 : PySem.W.nsIn K mainGlobals "min" = some none)
    (z14 : PySem.W.nsIn K mainGlobals "sum" = some none)
    (z15 : PySem.W.nsIn K mainGlobals "any" = some none)
    (z16 : PySem.W.nsIn K mainGlobals "sorted" = some none)
    (z17 : PySem.W.nsIn K mainGlobals "set" = some none)
    (z18 : PySem.W.nsIn K mainGlobals "repr" = some none)
    (z19 : PySem.W.nsIn K mainGlobals "abs" = some none)
    (oa_Bounds : PySem.W.nsIn K mainGlobals "Bounds" = some (some (.ref cO_Bounds)))
    (opg_Bounds : PySem.W.plainGet K cO_Bounds Str.empty = true)
    (ohd_Bounds : PySem.W.hasDictIn K cO_Bounds = true)
    (opo_Bounds : PySem.W.plainOver K cO_Bounds = true)
    (osa_Bounds : PySem.W.findIn K (.ref cO_Bounds) "__setattr__" = some (some (.builtin "object.__setattr__")))
    (omk_Bounds : PySem.W.makesIn K cO_Bounds = true)
    (okc_Bounds : PySem.W.keepIn K (.ref cO_Bounds) = true)
    (onmany_Bounds : PySem.W.findIn K (.ref cO_Bounds) "many" = some none)
    (ongiven_Bounds : PySem.W.findIn K (.ref cO_Bounds) "given" = some none)
    (onclosed_Bounds : PySem.W.findIn K (.ref cO_Bounds) "closed" = some none)
    (oi_Bounds : PySem.W.findIn K (.ref cO_Bounds) "__init__" = some (some (.ref fI_Bounds)))
    (oif_Bounds : PySem.W.isFn K (.ref fI_Bounds) = true)
    (ol_Bounds : K.lookup fI_Bounds = some ⟨ooc_Bounds, ood_Bounds, .func (PySem.W.fnOf "__init__" "Bounds.__init__" (defArgs s_Bounds___init__) (defBody s_Bounds___init__) (defScope s_Bounds___init__) (.ref eT_Bounds) okV_Bounds odc_Bounds opm_Bounds oan_Bounds ocd_Bounds oct_Bounds), osl_Bounds⟩)
    (olT_Bounds : K.lookup eT_Bounds = some ⟨.type "tuple", edT_Bounds, .seq #[.ref e0_Bounds] enT_Bounds, eslT_Bounds⟩)
    (oc_Bounds : PySem.W.codeIn K ocd_Bounds "Bounds.__init__" = true)
    (ok_Bounds : PySem.W.keepIn K (.ref fI_Bounds) = true)
    (marows_Bounds : PySem.W.findIn K (.ref cO_Bounds) "rows" = some (some (.ref fM_Bounds_rows)))
    (mirows_Bounds : PySem.W.isFn K (.ref fM_Bounds_rows) = true)
    (mlrows_Bounds : K.lookup fM_Bounds_rows = some ⟨moc_Bounds_rows, mod_Bounds_rows, .func (PySem.W.fnOf "rows" "Bounds.rows" (defArgs s_Bounds_rows) (defBody s_Bounds_rows) (defScope s_Bounds_rows) .none mkV_Bounds_rows mdc_Bounds_rows mpm_Bounds_rows man_Bounds_rows mcd_Bounds_rows mct_Bounds_rows), msl_Bounds_rows⟩)
    (mcrows_Bounds : PySem.W.codeIn K mcd_Bounds_rows "Bounds.rows" = true)
    (mkrows_Bounds : PySem.W.keepIn K (.ref fM_Bounds_rows) = true)
    (mais_empty_Bounds : PySem.W.findIn K (.ref cO_Bounds) "is_empty" = some (some (.ref fM_Bounds_is_empty)))
    (miis_empty_Bounds : PySem.W.isFn K (.ref fM_Bounds_is_empty) = true)
    (mlis_empty_Bounds : K.lookup fM_Bounds_is_empty = some ⟨moc_Bounds_is_empty, mod_Bounds_is_empty, .func (PySem.W.fnOf "is_empty" "Bounds.is_empty" (defArgs s_Bounds_is_empty) (defBody s_Bounds_is_empty) (defScope s_Bounds_is_empty) .none mkV_Bounds_is_empty mdc_Bounds_is_empty mpm_Bounds_is_empty man_Bounds_is_empty mcd_Bounds_is_empty mct_Bounds_is_empty), msl_Bounds_is_empty⟩)
    (mcis_empty_Bounds : PySem.W.codeIn K mcd_Bounds_is_empty "Bounds.is_empty" = true)
    (mkis_empty_Bounds : PySem.W.keepIn K (.ref fM_Bounds_is_empty) = true)
    (maring_Bounds : PySem.W.findIn K (.ref cO_Bounds) "ring" = some (some (.ref fM_Bounds_ring)))
    (miring_Bounds : PySem.W.isFn K (.ref fM_Bounds_ring) = true)
    (mlring_Bounds : K.lookup fM_Bounds_ring = some ⟨moc_Bounds_ring, mod_Bounds_ring, .func (PySem.W.fnOf "ring" "Bounds.ring" (defArgs s_Bounds_ring) (defBody s_Bounds_ring) (defScope s_Bounds_ring) .none mkV_Bounds_ring mdc_Bounds_ring mpm_Bounds_ring man_Bounds_ring mcd_Bounds_ring mct_Bounds_ring), msl_Bounds_ring⟩)
    (mcring_Bounds : PySem.W.codeIn K mcd_Bounds_ring "Bounds.ring" = true)
    (mkring_Bounds : PySem.W.keepIn K (.ref fM_Bounds_ring) = true)
    (mapoint_Bounds : PySem.W.findIn K (.ref cO_Bounds) "point" = some (some (.ref fM_Bounds_point)))
    (mipoint_Bounds : PySem.W.isFn K (.ref fM_Bounds_point) = true)
    (mlpoint_Bounds : K.lookup fM_Bounds_point = some ⟨moc_Bounds_point, mod_Bounds_point, .func (PySem.W.fnOf "point" "Bounds.point" (defArgs s_Bounds_point) (defBody s_Bounds_point) (defScope s_Bounds_point) .none mkV_Bounds_point mdc_Bounds_point mpm_Bounds_point man_Bounds_point mcd_Bounds_point mct_Bounds_point), msl_Bounds_point⟩)
    (mcpoint_Bounds : PySem.W.codeIn K mcd_Bounds_point "Bounds.point" = true)
    (mkpoint_Bounds : PySem.W.keepIn K (.ref fM_Bounds_point) = true)
    : ∃ fd : FuncData, (∀ (s : Shared) (v : Value), BindsTo s fd ⟨[v], []⟩ [("_law_script", v)]) ∧ ∀ base : Heap, K.In base → base.Ns mainGlobals mg → FnOk l.prog w K mg base CX0 8 fa fd ["_law_script"] (spLaw K) := by
  have e := hfa.symm.trans (PySem.W.mg_of X G a18)
  cases e
  have D_open_bounds : DefAt K mg "open_bounds" s_open_bounds ["many"] := defAt_mk X G a0 l0 c0 k0 fun _ _ _ _ _ _ us hl => match us, hl with | [_], _ => rfl
  have D_tightened : DefAt K mg "tightened" s_tightened ["closed", "i", "j", "c"] := defAt_mk X G a1 l1 c1 k1 fun _ _ _ _ _ _ us hl => match us, hl with | [_, _, _, _], _ => rfl
  have D_known : DefAt K mg "known" s_known ["closed", "i", "j", "c"] := defAt_mk X G a2 l2 c2 k2 fun _ _ _ _ _ _ us hl => match us, hl with | [_, _, _, _], _ => rfl
  have D_row_through : DefAt K mg "row_through" s_row_through ["row", "way", "onward"] := defAt_mk X G a3 l3 c3 k3 fun _ _ _ _ _ _ us hl => match us, hl with | [_, _, _], _ => rfl
  have D_lesser : DefAt K mg "lesser" s_lesser ["old", "way", "more"] := defAt_mk X G a4 l4 c4 k4 fun _ _ _ _ _ _ us hl => match us, hl with | [_, _, _], _ => rfl
  have D_point_in : DefAt K mg "point_in" s_point_in ["closed"] := defAt_mk X G a5 l5 c5 k5 fun _ _ _ _ _ _ us hl => match us, hl with | [_], _ => rfl
  have D_closed_by : DefAt K mg "closed_by" s_closed_by ["many", "rows"] := defAt_mk X G a6 l6 c6 k6 fun _ _ _ _ _ _ us hl => match us, hl with | [_, _], _ => rfl
  have D_ring_among : DefAt K mg "ring_among" s_ring_among ["many", "rows"] := defAt_mk X G a7 l7 c7 k7 fun _ _ _ _ _ _ us hl => match us, hl with | [_, _], _ => rfl
  have D_lowered : DefAt K mg "lowered" s_lowered ["many", "rows"] := defAt_mk X G a8 l8 c8 k8 fun _ _ _ _ _ _ us hl => match us, hl with | [_, _], _ => rfl
  have D_l_cell : DefAt K mg "_law_cell" s_l_cell ["_law_script", "_law_k"] := defAt_mk X G a9 l9 c9 k9 fun _ _ _ _ _ _ us hl => match us, hl with | [_, _], _ => rfl
  have D_l_flow : DefAt K mg "_law_flow" s_l_flow ["_law_script", "_law_k"] := defAt_mk X G a10 l10 c10 k10 fun _ _ _ _ _ _ us hl => match us, hl with | [_, _], _ => rfl
  have D_l_draw : DefAt K mg "_law_draw" s_l_draw ["_law_flow_here", "_law_many"] := defAt_mk X G a11 l11 c11 k11 fun _ _ _ _ _ _ us hl => match us, hl with | [_, _], _ => rfl
  have D_l_rows : DefAt K mg "_law_rows" s_l_rows ["_law_flow_here", "_law_many", "_law_most", "_law_far"] := defAt_mk X G a12 l12 c12 k12 fun _ _ _ _ _ _ us hl => match us, hl with | [_, _, _, _], _ => rfl
  have D_l_keeps : DefAt K mg "_law_keeps" s_l_keeps ["_law_rows_here", "_law_numbers"] := defAt_mk X G a13 l13 c13 k13 fun _ _ _ _ _ _ us hl => match us, hl with | [_, _], _ => rfl
  have D_l_is_ring : DefAt K mg "_law_is_ring" s_l_is_ring ["_law_rows_here", "_law_ring"] := defAt_mk X G a14 l14 c14 k14 fun _ _ _ _ _ _ us hl => match us, hl with | [_, _], _ => rfl
  have D_l_ringed : DefAt K mg "_law_ringed" s_l_ringed ["_law_flow_here", "_law_many", "_law_rows_here", "_law_far"] := defAt_mk X G a15 l15 c15 k15 fun _ _ _ _ _ _ us hl => match us, hl with | [_, _, _, _], _ => rfl
  have D_l_is_point : DefAt K mg "_law_is_point" s_l_is_point ["_law_many", "_law_rows_here", "_law_point"] := defAt_mk X G a16 l16 c16 k16 fun _ _ _ _ _ _ us hl => match us, hl with | [_, _, _], _ => rfl
  have D_l_right : DefAt K mg "_law_right" s_l_right ["_law_many", "_law_rows_here", "_law_bounds"] := defAt_mk X G a17 l17 c17 k17 fun _ _ _ _ _ _ us hl => match us, hl with | [_, _, _], _ => rfl
  have D_law : DefAt K mg "law" s_law ["_law_script"] := defAt_mk X G a18 l18 c18 k18 fun _ _ _ _ _ _ us hl => match us, hl with | [_], _ => rfl
  have T_Bounds : ClsAt K mg "Bounds" cO_Bounds BF := ⟨PySem.W.mg_of X G oa_Bounds, ⟨opg_Bounds, ohd_Bounds, opo_Bounds, osa_Bounds⟩, fun n hn => by simp only [BF, List.mem_cons, List.not_mem_nil, or_false] at hn; rcases hn with h | h | h <;> subst h <;> assumption⟩
  have FI_Bounds : FunD K "__init__" "Bounds.__init__" (defArgs s_Bounds___init__) (defBody s_Bounds___init__) (defScope s_Bounds___init__) [V.ref e0_Bounds] [] fI_Bounds _ := ⟨⟨_, _, _, _, _, _, _, _, _, _, rfl, ol_Bounds, oc_Bounds, .inr ⟨(by simp), _, _, [.ref e0_Bounds], _, rfl, olT_Bounds, rfl, .cons rfl .nil⟩, .inl rfl⟩, ok_Bounds⟩
  have I1_Bounds : DefI K mg cO_Bounds "Bounds" "Bounds.__init__" s_Bounds___init__ ["self", "many", "rows"] [V.ref e0_Bounds] 1 := ⟨_, _, FI_Bounds, ⟨omk_Bounds, oi_Bounds, oif_Bounds, okc_Bounds⟩, PySem.W.mg_of X G oa_Bounds, FI_Bounds.binds1 (ps := ["self", "many", "rows"]) 3 1 (by simp) rfl fun T kV doc pm an cdv ct us its h1 h2 => match us, its, h1, h2 with | [_, _, _], [_], _, _ => ⟨_, rfl, rfl⟩⟩
  have DM_Bounds_rows : DefM K cO_Bounds "rows" "Bounds.rows" s_Bounds_rows ["self"] := ⟨_, _, fun_mk mlrows_Bounds mcrows_Bounds mkrows_Bounds, ⟨marows_Bounds, mirows_Bounds, mkrows_Bounds⟩, (fun_mk mlrows_Bounds mcrows_Bounds mkrows_Bounds).binds fun _ _ _ _ _ _ us hl => match us, hl with | [_], _ => rfl⟩
  have DM_Bounds_is_empty : DefM K cO_Bounds "is_empty" "Bounds.is_empty" s_Bounds_is_empty ["self"] := ⟨_, _, fun_mk mlis_empty_Bounds mcis_empty_Bounds mkis_empty_Bounds, ⟨mais_empty_Bounds, miis_empty_Bounds, mkis_empty_Bounds⟩, (fun_mk mlis_empty_Bounds mcis_empty_Bounds mkis_empty_Bounds).binds fun _ _ _ _ _ _ us hl => match us, hl with | [_], _ => rfl⟩
  have DM_Bounds_ring : DefM K cO_Bounds "ring" "Bounds.ring" s_Bounds_ring ["self"] := ⟨_, _, fun_mk mlring_Bounds mcring_Bounds mkring_Bounds, ⟨maring_Bounds, miring_Bounds, mkring_Bounds⟩, (fun_mk mlring_Bounds mcring_Bounds mkring_Bounds).binds fun _ _ _ _ _ _ us hl => match us, hl with | [_], _ => rfl⟩
  have DM_Bounds_point : DefM K cO_Bounds "point" "Bounds.point" s_Bounds_point ["self"] := ⟨_, _, fun_mk mlpoint_Bounds mcpoint_Bounds mkpoint_Bounds, ⟨mapoint_Bounds, mipoint_Bounds, mkpoint_Bounds⟩, (fun_mk mlpoint_Bounds mcpoint_Bounds mkpoint_Bounds).binds fun _ _ _ _ _ _ us hl => match us, hl with | [_], _ => rfl⟩
  have B : Bt mg := ⟨PySem.W.mg_none_of X G z0, PySem.W.mg_none_of X G z1, PySem.W.mg_none_of X G z2, PySem.W.mg_none_of X G z3, PySem.W.mg_none_of X G z4, PySem.W.mg_none_of X G z5, PySem.W.mg_none_of X G z6, PySem.W.mg_none_of X G z7, PySem.W.mg_none_of X G z8, PySem.W.mg_none_of X G z9, PySem.W.mg_none_of X G z10, PySem.W.mg_none_of X G z11, PySem.W.mg_none_of X G z12, PySem.W.mg_none_of X G z13, PySem.W.mg_none_of X G z14, PySem.W.mg_none_of X G z15, PySem.W.mg_none_of X G z16, PySem.W.mg_none_of X G z17, PySem.W.mg_none_of X G z18, PySem.W.mg_none_of X G z19⟩
  refine ⟨PySem.W.fnOf "law" "law" (defArgs s_law) (defBody s_law) (defScope s_law) .none kV18 dc18 pm18 an18 cd18 ct18, fun s v => .of_eq rfl, fun base _ _ => ?_⟩
  have C_cell := ok_l_cell (P := l.prog) (w := w) (base := base) (K := K) B D_l_cell
  have C_flow := ok_l_flow B C_cell D_l_flow
  have C_draw := ok_l_draw (P := l.prog) (w := w) (base := base) (K := K) D_l_draw
  have C_rows := ok_l_rows (K := K) B C_draw D_l_rows
  have C_open := ok_open_bounds (P := l.prog) (w := w) (base := base) B D_open_bounds
  have C_known := ok_known (P := l.prog) (w := w) (base := base) B D_known
  have C_less := ok_lesser (P := l.prog) (w := w) (base := base) D_lesser
  have C_thr := ok_row_through B C_less D_row_through
  have C_tight := ok_tightened B C_known C_thr D_tightened
  have C_clo := ok_closed_by B C_open C_tight D_closed_by
  have C_I := ok_Bounds_init B T_Bounds C_clo I1_Bounds
  have C_low := ok_lowered (P := l.prog) (w := w) (base := base) (K := K) B D_lowered
  have C_ra := ok_ring_among B C_low D_ring_among
  have M_rows := ok_Bounds_rows (P := l.prog) (w := w) (base := base) T_Bounds DM_Bounds_rows
  have M_ring := ok_Bounds_ring T_Bounds C_ra DM_Bounds_ring
  have C_pi := ok_point_in (P := l.prog) (w := w) (base := base) B D_point_in
  have M_point := ok_Bounds_point T_Bounds C_pi DM_Bounds_point
  have M_empty := ok_Bounds_is_empty (P := l.prog) (w := w) (base := base) T_Bounds DM_Bounds_is_empty
  have C_isr := ok_l_is_ring (P := l.prog) (w := w) (base := base) (K := K) B D_l_is_ring
  have C_rgd := ok_l_ringed (K := K) B C_draw D_l_ringed
  have C_keeps := ok_l_keeps (P := l.prog) (w := w) (base := base) (K := K) B D_l_keeps
  have C_isp := ok_l_is_point B C_keeps D_l_is_point
  have C_right := ok_l_right rfl B T_Bounds C_isr C_isp M_rows M_ring M_point M_empty C_I D_l_right
  exact ok_law rfl B T_Bounds C_flow C_draw C_rows C_rgd C_right C_I (fun_mk l18 c18 k18)

end Lm
open PySem PySem.W PyProof.Rows
set_option maxRecDepth 100000 in
set_option maxHeartbeats 0 in
theorem PySem.Challenge.cw_leastmaker_k22_empty_or_a_point_holds : PySem.Challenge.rw_leastmaker_k22_empty_or_a_point.Holds := by
  w_on; o_law; k_head; (case hw => w_witness2)
  k_fill
  refine L2.walk_of (l := PySem.Challenge.rw_leastmaker_k22_empty_or_a_point) (n := 63) (k := 8) (x := "_law_script") (CX := fun _ => L2.CX0) (sp := fun w => Lm.spLaw _) rfl (by decide) rfl ⟨rfl, by decide, by decide⟩ (fun w h Y => PySem.W.kIn_of Y) ?F (fun _ _ a ns hl _ hS => ⟨a, ns, rfl, hS, hl, fun _ => rfl⟩) (fun _ _ _ _ _ h => h)
  case F =>
    intro w mg fa h KX G hmg
    refine' Lm.all_mk KX G hmg ?a0 ?l0 ?c0 ?k0 ?a1 ?l1 ?c1 ?k1 ?a2 ?l2 ?c2 ?k2 ?a3 ?l3 ?c3 ?k3 ?a4 ?l4 ?c4 ?k4 ?a5 ?l5 ?c5 ?k5 ?a6 ?l6 ?c6 ?k6 ?a7 ?l7 ?c7 ?k7 ?a8 ?l8 ?c8 ?k8 ?a9 ?l9 ?c9 ?k9 ?a10 ?l10 ?c10 ?k10 ?a11 ?l11 ?c11 ?k11 ?a12 ?l12 ?c12 ?k12 ?a13 ?l13 ?c13 ?k13 ?a14 ?l14 ?c14 ?k14 ?a15 ?l15 ?c15 ?k15 ?a16 ?l16 ?c16 ?k16 ?a17 ?l17 ?c17 ?k17 ?a18 ?l18 ?c18 ?k18 ?z0 ?z1 ?z2 ?z3 ?z4 ?z5 ?z6 ?z7 ?z8 ?z9 ?z10 ?z11 ?z12 ?z13 ?z14 ?z15 ?z16 ?z17 ?z18 ?z19 ?oa_Bounds ?opg_Bounds ?ohd_Bounds ?opo_Bounds ?osa_Bounds ?omk_Bounds ?okc_Bounds ?onmany_Bounds ?ongiven_Bounds ?onclosed_Bounds ?oi_Bounds ?oif_Bounds ?ol_Bounds ?olT_Bounds ?oc_Bounds ?ok_Bounds ?marows_Bounds ?mirows_Bounds ?mlrows_Bounds ?mcrows_Bounds ?mkrows_Bounds ?mais_empty_Bounds ?miis_empty_Bounds ?mlis_empty_Bounds ?mcis_empty_Bounds ?mkis_empty_Bounds ?maring_Bounds ?miring_Bounds ?mlring_Bounds ?mcring_Bounds ?mkring_Bounds ?mapoint_Bounds ?mipoint_Bounds ?mlpoint_Bounds ?mcpoint_Bounds ?mkpoint_Bounds
    (case a0 => k_is)
    (case l0 => k_is)
    (case c0 => k_is)
    (case k0 => k_is)
    (case a1 => k_is)
    (case l1 => k_is)
    (case c1 => k_is)
    (case k1 => k_is)
    (case a2 => k_is)
    (case l2 => k_is)
    (case c2 => k_is)
    (case k2 => k_is)
    (case a3 => k_is)
    (case l3 => k_is)
    (case c3 => k_is)
    (case k3 => k_is)
    (case a4 => k_is)
    (case l4 => k_is)
    (case c4 => k_is)
    (case k4 => k_is)
    (case a5 => k_is)
    (case l5 => k_is)
    (case c5 => k_is)
    (case k5 => k_is)
    (case a6 => k_is)
    (case l6 => k_is)
    (case c6 => k_is)
    (case k6 => k_is)
    (case a7 => k_is)
    (case l7 => k_is)
    (case c7 => k_is)
    (case k7 => k_is)
    (case a8 => k_is)
    (case l8 => k_is)
    (case c8 => k_is)
    (case k8 => k_is)
    (case a9 => k_is)
    (case l9 => k_is)
    (case c9 => k_is)
    (case k9 => k_is)
    (case a10 => k_is)
    (case l10 => k_is)
    (case c10 => k_is)
    (case k10 => k_is)
    (case a11 => k_is)
    (case l11 => k_is)
    (case c11 => k_is)
    (case k11 => k_is)
    (case a12 => k_is)
    (case l12 => k_is)
    (case c12 => k_is)
    (case k12 => k_is)
    (case a13 => k_is)
    (case l13 => k_is)
    (case c13 => k_is)
    (case k13 => k_is)
    (case a14 => k_is)
    (case l14 => k_is)
    (case c14 => k_is)
    (case k14 => k_is)
    (case a15 => k_is)
    (case l15 => k_is)
    (case c15 => k_is)
    (case k15 => k_is)
    (case a16 => k_is)
    (case l16 => k_is)
    (case c16 => k_is)
    (case k16 => k_is)
    (case a17 => k_is)
    (case l17 => k_is)
    (case c17 => k_is)
    (case k17 => k_is)
    (case a18 => k_is)
    (case l18 => k_is)
    (case c18 => k_is)
    (case k18 => k_is)
    (case z0 => k_is)
    (case z1 => k_is)
    (case z2 => k_is)
    (case z3 => k_is)
    (case z4 => k_is)
    (case z5 => k_is)
    (case z6 => k_is)
    (case z7 => k_is)
    (case z8 => k_is)
    (case z9 => k_is)
    (case z10 => k_is)
    (case z11 => k_is)
    (case z12 => k_is)
    (case z13 => k_is)
    (case z14 => k_is)
    (case z15 => k_is)
    (case z16 => k_is)
    (case z17 => k_is)
    (case z18 => k_is)
    (case z19 => k_is)
    (case oa_Bounds => k_is)
    (case opg_Bounds => k_is)
    (case ohd_Bounds => k_is)
    (case opo_Bounds => k_is)
    (case osa_Bounds => k_is)
    (case omk_Bounds => k_is)
    (case okc_Bounds => k_is)
    (case onmany_Bounds => k_is)
    (case ongiven_Bounds => k_is)
    (case onclosed_Bounds => k_is)
    (case oi_Bounds => k_is)
    (case oif_Bounds => k_is)
    (case ol_Bounds => k_is)
    (case olT_Bounds => k_is)
    (case oc_Bounds => k_is)
    (case ok_Bounds => k_is)
    (case marows_Bounds => k_is)
    (case mirows_Bounds => k_is)
    (case mlrows_Bounds => k_is)
    (case mcrows_Bounds => k_is)
    (case mkrows_Bounds => k_is)
    (case mais_empty_Bounds => k_is)
    (case miis_empty_Bounds => k_is)
    (case mlis_empty_Bounds => k_is)
    (case mcis_empty_Bounds => k_is)
    (case mkis_empty_Bounds => k_is)
    (case maring_Bounds => k_is)
    (case miring_Bounds => k_is)
    (case mlring_Bounds => k_is)
    (case mcring_Bounds => k_is)
    (case mkring_Bounds => k_is)
    (case mapoint_Bounds => k_is)
    (case mipoint_Bounds => k_is)
    (case mlpoint_Bounds => k_is)
    (case mcpoint_Bounds => k_is)
    (case mkpoint_Bounds => k_is)

