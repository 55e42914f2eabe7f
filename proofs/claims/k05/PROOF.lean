import PyProof.Rows.All
import Wide.All
import OpenK.AllK
import Wide.FinOn
import HandS.ForMost
import HandS.IsInst
import HandS.TupAny
import HandS.Flow
import HandS.Style
import HandS.RevRange
import HandS.Conv
import HandS.More
import HandS.Zip
import KE.KDictZip
import KE.KDictList
import KE.KRevSl
import HandS.ForExc
import HandS.ExcInit
import HandS.ExcField
import HandS.HotCalls
import HandS.SetFor
import KE.KExcIs
import KE.GoesEnum
import KE.GoesMore
import HandS.Star
import HandS.ExcOwn
import HandS.WordsExc
import HandS.Codes
import PySem.Challenge.RW_leastmaker_k05_several_knots_amiss
set_option Elab.async false
set_option linter.all false
set_option maxRecDepth 100000
set_option maxHeartbeats 2000000
namespace LmR
open PySem PySem.Spec PyProof.Rows L2
/-! ### t[::-1] of a tuple -/
section
variable {prog : Program} {w : World} {A : Around} {E : Value → Shared → Prop} {s : Shared}
theorem pick_rev (xs : Array Value) : ((List.range xs.size).filterMap fun (m : Nat) => xs[(((xs.size : Int) - 1) + (m : Int) * (-1)).toNat]?).toArray = xs.toList.reverse.toArray := by
  congr 1
  have e : ∀ n, n ≤ xs.size → ((List.range n).filterMap fun (m : Nat) => xs[(((xs.size : Int) - 1) + (m : Int) * (-1)).toNat]?) = (xs.toList.reverse).take n := by
    intro n
    induction n with
    | zero => intro _; rfl
    | succ n ih =>
      intro h
      rw [List.range_succ, List.filterMap_append, ih (by omega), List.take_add_one]
      congr 1
      have e1 : (((xs.size : Int) - 1) + (n : Int) * (-1)).toNat = xs.size - 1 - n := by omega
      have e2 : xs.toList.reverse[n]? = xs[xs.size - 1 - n]? := by
        rw [List.getElem?_reverse (by rw [Array.length_toList]; omega), Array.length_toList, Array.getElem?_toList]
      rw [e2]
      have hlt : xs.size - 1 - n < xs.size := by omega
      simp only [List.filterMap_cons, List.filterMap_nil]
      rw [e1, Array.getElem?_eq_getElem hlt]
      rfl
  rw [e xs.size (Nat.le_refl _)]
  exact List.take_of_length_le (by rw [List.length_reverse, Array.length_toList]; exact Nat.le_refl _)
theorem rev_applied {sl : Addr} {vl vu vs : Value} {n : Nat} {Q : Int × Int × Nat → Shared → Prop} (hs : s.heap.IsSliceOf sl vl vu vs) (pl : IsPart vl none) (pu : IsPart vu none) (ps : IsPart vs (some (-1)))
    (h : Q ((n : Int) - 1, -1, n) s) : wpAny (model prog w) A (Builtin.Slice.sliceApplied (.ref sl) (pure (n : Int))) Q E s := by
  obtain ⟨os, hos, hcs, hds⟩ := id hs
  unfold Builtin.Slice.sliceApplied Builtin.Slice.sliceFields
  refine wpAny_bind (wpAny_bind (wpAny_field hos hds (x := vl) rfl (wpAny_bind (wpAny_field hos hds (x := vu) rfl (wpAny_bind (wpAny_field hos hds (x := vs) rfl (wpAny_pure ?_)))))))
  refine wpAny_bind (HT.slicePart_ ps ?_)
  show wpAny _ _ (if ((-1 : Int) == 0) = true then _ else _) _ _ s
  rw [if_neg (by decide)]
  refine wpAny_bind (HT.slicePart_ pl (wpAny_bind (HT.slicePart_ pu (wpAny_bind (wpAny_pure ?_)))))
  have e : Builtin.Slice.sliceAdjust none none (-1) (n : Int) = ((n : Int) - 1, -1) := by
    simp [Builtin.Slice.sliceAdjust]
  have e2 : Builtin.Slice.slicePlaces ((n : Int) - 1) (-1) (-1) = n := by
    unfold Builtin.Slice.slicePlaces
    simp
    omega
  show wpAny _ _ (match Builtin.Slice.sliceAdjust none none (-1) (n : Int) with | (lo, hi) => pure (lo, (-1 : Int), Builtin.Slice.slicePlaces lo hi (-1))) _ _ s
  rw [e]
  show wpAny _ _ (pure ((n : Int) - 1, (-1 : Int), Builtin.Slice.slicePlaces ((n : Int) - 1) (-1) (-1))) _ _ s
  rw [e2]
  exact wpAny_pure h
theorem getItem_tuple_rev {t sl : Addr} {items : Array Value} {vl vu vs : Value} {Q : Value → Shared → Prop} (ht : IsTup s.heap t items) (hs : s.heap.IsSliceOf sl vl vu vs) (pl : IsPart vl none) (pu : IsPart vu none) (ps : IsPart vs (some (-1)))
    (h : Q (.ref s.heap.objs.size) { s with heap := s.heap.push { cls := .type "tuple", data := .seq items.toList.reverse.toArray } })
    (hsz : items.size ≤ sizeLine) : wpAny (model prog w) A (getItem (.ref t) (.ref sl)) Q E s := by
  have htake : sizeOk (.seq items.toList.reverse.toArray) := by
    show (items.toList.reverse).toArray.size ≤ sizeLine
    rw [List.size_toArray, List.length_reverse, Array.length_toList]
    omega
  obtain ⟨os, hos, hcs, hds⟩ := id hs
  have hTs : s.TypeIs (.ref sl) "slice" := ⟨os, hos, hcs⟩
  unfold getItem
  try with_reducible refine wpAny_holding ?_
  first | refine wpAny_bind (wpAny_pure ?_) | skip
  refine wpAny_bind (wpAny_sequenceKey ht.typeIs (by decide) ?_)
  refine wpAny_bind (wpAny_callSpecial?_slot (name := Str.ofString "__getitem__") ht.typeIs PyProof.Rows.slot_tuple_getitem
    (wpAny_call_entry PyProof.Rows.slot_tuple_getitem ht.typeIs PyProof.Rows.entry_tuple_getitem ?_ (PyProof.Rows.args_tuple_getitem _ _)))
  show wpAny _ _ (Builtin.Tuple.tupleItemsOf (.ref t) >>= _) _ _ s
  refine wpAny_bind (PyProof.Rows.tupleItemsOf_ ht ?_)
  refine wpAny_bind (wpAny_typeOf hTs ?_)
  rw [if_pos (by decide)]
  refine wpAny_bind (rev_applied hs pl pu ps ?_)
  have hno : ¬ (((items.size : Int) - 1 == 0 && (-1 : Int) == 1 && items.size == items.size) = true) := by
    intro q
    rw [Bool.and_eq_true, Bool.and_eq_true] at q
    exact absurd q.1.2 (by decide)
  show wpAny _ _ (if ((items.size : Int) - 1 == 0 && (-1 : Int) == 1 && items.size == items.size) = true then _ else _) _ _ s
  rw [if_neg hno, pick_rev]
  first
    | exact wpAny_bind (m := Builtin.Tuple.tupleExact _) (wpAny_newObj_type (wpAny_pure ⟨_, rfl, wpAny_pure h⟩) htake)
    | exact wpAny_bind (m := Builtin.Tuple.tupleExact _) (wpAny_newObj_type (wpAny_bind (wpAny_pure (wpAny_pure ⟨_, rfl, wpAny_pure h⟩))) htake)
    | exact wpAny_bind (wpAny_bind (m := Builtin.Tuple.tupleExact _) (wpAny_newObj_type (wpAny_pure (wpAny_pure ⟨_, rfl, wpAny_pure h⟩)) htake))
    | exact wpAny_bind (wpAny_bind (m := Builtin.Tuple.tupleExact _) (wpAny_newObj_type (wpAny_pure ⟨_, rfl, wpAny_pure h⟩) htake))
end
def tRevT (K : PySem.W.Frag) (te : TE) : TE := fun σ H Q => te σ H fun x H1 => ∃ a xs, x = .ref a ∧ SqT K H1 a xs ∧ ∀ p, H1 p = none → Q (.ref p) (upd H1 p (.tup xs.reverse))
section
variable {X : Cx}
theorem pe_revT {e : Expr} {te : TE} {k : Nat} {p1 p2 p3 pos : Pos} (he : PE X e te) : PE X (.Subscript e (.Slice none none (some (.UnaryOp .USub (.Constant (.int 1) k p1) p2)) p3) pos) (tRevT X.K te) := by
  refine ⟨fun pins s σ H Q I h => ?_⟩
  refine Subscript_ (thn (he.run pins s σ H _ I h) fun v s1 ⟨x, H1, I1, r1, q1⟩ => ?_)
  obtain ⟨a, xs, ex, hx, q⟩ := q1
  subst ex
  cases r1
  have hst : PO X (some (.UnaryOp .USub (.Constant (.int 1) k p1) p2)) (tPart (tUn (rU fun i => .int (-i)) (tC (.int 1)))) := po_some (pe_un un_neg pe_int)
  refine wpAny_Slice (thn (po_none.run pins s1 σ H1 (fun o H2 => o = none ∧ H2 = H1) I1 ⟨rfl, rfl⟩) fun vl s2 ⟨l, H2, I2, pl, el, e2⟩ => ?_)
  subst el e2
  refine thn (po_none.run pins s2 σ H2 (fun o H3 => o = none ∧ H3 = H2) I2 ⟨rfl, rfl⟩) fun vu s3 ⟨u, H3, I3, pu, eu, e3⟩ => ?_
  subst eu e3
  refine thn (hst.run pins s3 σ H3 (fun o H4 => o = some (-1) ∧ H4 = H3) I3 ⟨1, rfl, -1, rfl, rfl, rfl⟩) fun vs s4 ⟨o, H4, I4, ps, eo, e4⟩ => ?_
  subst eo e4
  have I5 : Inv X pins σ H4 { s4 with heap := s4.heap.push { cls := .type "slice", data := .fields #[vl, vu, vs] } } := I4.kept (t' := s4.toks) fun b ob q => Heap.get?_push_of_some _ q
  obtain ⟨its, r, ht, hz⟩ := I5.tuple hx
  have hlen := r.length
  show wpAny (model X.prog X.w) X.A (subscriptTail e (.Slice none none (some (.UnaryOp .USub (.Constant (.int 1) k p1) p2)) p3) (.ref a) (.ref s4.heap.objs.size)) (EP X pins σ Q) X.xe { s4 with heap := s4.heap.push { cls := .type "slice", data := .fields #[vl, vu, vs] } }
  refine tail_any (ops := [.ref a, .ref s4.heap.objs.size]) ht.typeIs (PyProof.Rows.slot_tuple_getitem.lookup) ?_ (by with_unfolding_all rfl)
  refine getItem_tuple_rev ht (Heap.IsSliceOf.new _ vl vu vs) pl pu ps ?_ (by rw [List.size_toArray]; omega)
  refine ⟨.ref _, _, I5.laid (t' := s4.toks) (o := .tup xs.reverse) (fun b ob q => Heap.get?_push_of_some _ q) (Nat.le_refl _) ?_, rfl, q _ (I5.hok.fresh (Nat.le_refl _))⟩
  exact ⟨by rw [List.length_reverse]; exact hz, its.reverse, r.reverse, ⟨_, Heap.get?_push_size _ rfl, rfl, _, rfl⟩⟩
end
/-! ### l.extend(t), t a tuple -/
theorem extend_tuple (l : Addr) (items : Array Value) (n : Nat) (b : Addr) (items2 : Array Value) (n2 : Nat) (dd : Option Addr) (sl : Array (Option Value)) (hs0 : ¬(!items.isEmpty && Builtin.List.listTooLong (items.size + items2.size)) = true) (hs1 : items.size ≤ sizeLine) (hs2 : items.size + items2.size ≤ sizeLine + 1 := by seq_fits) :
    Meets (Builtin.«list.extend» ⟨[.ref l, .ref b], []⟩) (fun _ R s => s.heap.get? l = some { cls := .type "list", dict := none, data := .seq items n, slots := #[] } ∧ s.heap.get? b = some { cls := .type "tuple", dict := dd, data := .seq items2 n2, slots := sl } ∧ R (.ok (.ret Value.none)) { s with heap := s.heap.update l (Obj.mapSeq fun x => x ++ items2), toks := s.toks }) :=
  .of_wp fun prog w A R s h => by
    obtain ⟨hp, g, d, tk, os⟩ := s; obtain ⟨hl, hb, h⟩ := h; have f1 := AutoSeq1.idx_int; have f2 := AutoSeq1.sub_tuple_tuple; have f3 := AutoSeq1.sub_list_list; have f4 := AutoSeq1.sub_tuple_list; have f5 := AutoSeq1.sub_list_tuple;
    have hz' : (items ++ items2).size ≤ sizeLine + 1 := by rw [Array.size_append]; exact hs2
    wp_walk using (wpAny_updateSeq hl rfl (hz := hs1) (_hz' := hz')), wpAny_loadPart' hl, wpAny_loadPart' hb; exact ⟨_, rfl, h⟩
def rExtT (K : PySem.W.Frag) : V → List V → Hp → VK → Prop := fun x vs H Q => ∃ l b xs zs, x = .ref l ∧ vs = [.ref b] ∧ H l = some (.lst xs) ∧ SqT K H b zs ∧ xs.length + zs.length ≤ sizeLine ∧ Q .non (upd H l (.lst (xs ++ zs)))
theorem mt_extendT {X : Cx} : MtM X "list.extend" (rExtT X.K) := by
  intro pins s σ H x vs v us Q I rx rv h
  obtain ⟨l, b, xs, zs, rfl, rfl, hH, hB, hz, q⟩ := h
  cases rx
  obtain ⟨u, rfl, ru⟩ := rv.one
  cases ru
  obtain ⟨z, its, n, r, hl, e⟩ := I.lstM hH
  obtain ⟨its2, r2, ⟨⟨cls, dd, dt, sl⟩, ho, hc, n2, hd⟩, _⟩ := I.tuple hB
  simp only at hc hd
  subst hc hd
  have hl2 := r2.length
  have hsz : its.toArray.size + its2.toArray.size ≤ sizeLine := by rw [List.size_toArray, List.size_toArray]; omega
  have hlong : ¬ (!its.toArray.isEmpty && Builtin.List.listTooLong (its.toArray.size + its2.toArray.size)) = true := by
    rw [notLongL hsz, Bool.and_false]
    exact Bool.false_ne_true
  refine call_meets F.slot_list_extend ⟨_, e, rfl⟩ F.entry_list_extend (F.args_list_extend_2 _ _)
    (extend_tuple l its.toArray n b its2.toArray n2 dd sl hlong (by rw [List.size_toArray]; omega) (by omega)) ⟨e, ho, ?_⟩
  refine ⟨.non, _, I.lset (its' := its ++ its2) hH e (by simp) (r.append r2) ?_, rfl, q⟩
  rw [List.length_append]
  omega
end LmR

set_option Elab.async false
set_option linter.all false
set_option maxRecDepth 100000
set_option maxHeartbeats 2000000
namespace LmR
open PySem PySem.Spec PyProof.Rows L2 RZ
theorem zip_no_len : typeLookup (.type "zip") "__len__" = pure none := by rw [typeLookup_type, builtinLookup_eq_fast]; kernel_rfl
theorem zip_no_hint : typeLookup (.type "zip") "__length_hint__" = pure none := by rw [typeLookup_type, builtinLookup_eq_fast]; kernel_rfl
section
variable {prog : Program} {w : World} {A : Around} {E : Value → Shared → Prop} {s : Shared}
theorem zipT_item_held {z TI TO T i1 i2 l1 l2 : Addr} {f : Bool} {oT : Obj} {k1 k2 : Nat} {xs ys : Array Value} {x y : Value} {Q : Value → Shared → Prop} (D : ZipApart z TI TO i1 i2 l1 l2)
    (hz : IsZipHeld s.heap z TI TO T f) (hT : s.heap.get? T = some oT) (hTI : IsPair s.heap TI (.ref i1) (.ref i2))
    (h1 : s.heap.IsTupleIter i1 l1 k1) (h2 : s.heap.IsTupleIter i2 l2 k2) (hl1 : s.heap.IsTuple l1 xs) (hl2 : s.heap.IsTuple l2 ys) (hx : xs[k1]? = some x) (hy : ys[k2]? = some y)
    (hQ : ∀ h', IsZipHeld h' z TI TO T true → h'.IsTupleIter i1 l1 (k1 + 1) → h'.IsTupleIter i2 l2 (k2 + 1) → IsPair h' s.heap.objs.size x y → h'.objs.size = s.heap.objs.size + 1 →
      (∀ c o, c ≠ z → c ≠ i1 → c ≠ i2 → s.heap.get? c = some o → h'.get? c = some o) → Q (.ref s.heap.objs.size) { s with heap := h' }) :
    wpAny (model prog w) A (Builtin.«zip.__next__» ⟨[.ref z], []⟩) (fun fin s' => ∃ v, fin = .done (.ret v) ∧ Q v s') E s := by
  show wpAny _ _ (field (.ref z) 2 >>= _) _ _ _
  refine wpAny_bind (wpAny_field hz rfl (x := .bool false) rfl ?_)
  show wpAny _ _ (field (.ref z) 3 >>= _) _ _ _
  refine wpAny_bind (wpAny_field hz rfl (x := .ref TI) rfl ?_)
  refine wpAny_bind (wpAny_seqItems hTI rfl ?_)
  show wpAny _ _ (Builtin.SmallTypes.ownedTupleIsFree (.ref z) >>= _) _ _ _
  refine wpAny_bind (wpAny_tupleHeld_zip hz hT fun h₁ hz₁ hs₁ => ?_)
  simp only [Bool.false_eq_true, if_false]
  refine wpAny_bind ?_
  rw [← Array.forIn_toList]
  simp only [List.forIn_cons, List.forIn_nil]
  refine wpAny_bind (wpAny_bind (wpAny_holding ?_))
  show wpAny _ _ (Builtin.SmallTypes.nextOf (.ref i1) >>= _) _ _ _
  refine wpAny_bind (nextOf_tuple_item (s := { s with heap := h₁ }) (h1.extBut hs₁.extBut D.i1z) (hl1.extBut hs₁.extBut D.l1z) hx fun h₂ h1₂ hs₂ => wpAny_pure ?_)
  refine wpAny_pure ?_
  refine wpAny_bind (wpAny_bind (wpAny_holding ?_))
  show wpAny _ _ (Builtin.SmallTypes.nextOf (.ref i2) >>= _) _ _ _
  refine wpAny_bind (nextOf_tuple_item (s := { s with heap := h₂ }) ((h2.extBut hs₁.extBut D.i2z).extBut hs₂.extBut D.i12.symm) ((hl2.extBut hs₁.extBut D.l2z).extBut hs₂.extBut D.l2i1) hy fun h₃ h2₃ hs₃ => wpAny_pure ?_)
  refine wpAny_pure (wpAny_pure ?_)
  show wpAny _ _ (newTuple [x, y] >>= _) _ _ _
  refine wpAny_bind (wpAny_newTuple ?_)
  have hsz : h₃.objs.size = s.heap.objs.size := by rw [hs₃.1, hs₂.1, hs₁.1]
  have hz₃ : IsZipHeld h₃ z TI TO T true := hs₃.extBut _ _ D.i2z.symm (hs₂.extBut _ _ D.i1z.symm hz₁)
  have hk : ∀ c o, c ≠ z → c ≠ i1 → c ≠ i2 → s.heap.get? c = some o → h₃.get? c = some o := fun c o c1 c2 c3 e => hs₃.extBut _ _ c3 (hs₂.extBut _ _ c2 (hs₁.extBut _ _ c1 e))
  have h1₃ : h₃.IsTupleIter i1 l1 (k1 + 1) := h1₂.extBut hs₃.extBut D.i12
  refine wpAny_pure ⟨_, rfl, ?_⟩
  show Q (.ref h₃.objs.size) _
  have hp : IsPair (h₃.push { cls := .type "tuple", data := .seq #[x, y] }) h₃.objs.size x y := Heap.get?_push_size _ rfl
  have hz4 : (h₃.push { cls := .type "tuple", data := .seq #[x, y] }).objs.size = h₃.objs.size + 1 := Heap.size_push ..
  rw [hsz] at hp hz4 ⊢
  exact hQ _ (Heap.get?_push_of_some _ hz₃) (h1₃.at fun o e => Heap.get?_push_of_some _ e) (h2₃.at fun o e => Heap.get?_push_of_some _ e) hp hz4 fun c o c1 c2 c3 e => Heap.get?_push_of_some _ (hk c o c1 c2 c3 e)
theorem zipT_end_held {z TI TO T i1 i2 l1 l2 : Addr} {f : Bool} {oT : Obj} {k1 k2 : Nat} {xs ys : Array Value} {Q : Fin → Shared → Prop} (hh : A.handled = none) (D : ZipApart z TI TO i1 i2 l1 l2)
    (hz : IsZipHeld s.heap z TI TO T f) (hT : s.heap.get? T = some oT) (hTI : IsPair s.heap TI (.ref i1) (.ref i2))
    (h1 : s.heap.IsTupleIter i1 l1 k1) (h2 : s.heap.IsTupleIter i2 l2 k2) (hl1 : s.heap.IsTuple l1 xs) (hl2 : s.heap.IsTuple l2 ys) (hx : xs[k1]? = none)
    (hE : ∀ h' e, (∀ c o, c ≠ z → c ≠ i1 → c ≠ i2 → s.heap.get? c = some o → h'.get? c = some o) → (∃ o, h'.get? e = some o ∧ o.cls = .type "StopIteration") → E (.ref e) { s with heap := h' }) :
    wpAny (model prog w) A (Builtin.«zip.__next__» ⟨[.ref z], []⟩) Q E s := by
  show wpAny _ _ (field (.ref z) 2 >>= _) _ _ _
  refine wpAny_bind (wpAny_field hz rfl (x := .bool false) rfl ?_)
  show wpAny _ _ (field (.ref z) 3 >>= _) _ _ _
  refine wpAny_bind (wpAny_field hz rfl (x := .ref TI) rfl ?_)
  refine wpAny_bind (wpAny_seqItems hTI rfl ?_)
  show wpAny _ _ (Builtin.SmallTypes.ownedTupleIsFree (.ref z) >>= _) _ _ _
  refine wpAny_bind (wpAny_tupleHeld_zip hz hT fun h₁ hz₁ hs₁ => ?_)
  simp only [Bool.false_eq_true, if_false]
  refine wpAny_bind ?_
  rw [← Array.forIn_toList]
  simp only [List.forIn_cons, List.forIn_nil]
  refine wpAny_bind (wpAny_bind (wpAny_holding ?_))
  show wpAny _ _ (Builtin.SmallTypes.nextOf (.ref i1) >>= _) _ _ _
  refine wpAny_bind (nextOf_tuple_end (s := { s with heap := h₁ }) hh (h1.extBut hs₁.extBut D.i1z) (hl1.extBut hs₁.extBut D.l1z) hx fun h₂ e hs₂ he => ?_)
  exact hE h₂ e (fun c o c1 c2 _ x => hs₂ _ _ c2 (hs₁.extBut _ _ c1 x)) he
/-- a zip of two tuples between two turns of list(..) -/
structure ZSt (h : Heap) (z TI TO i1 i2 l1 l2 S lo : Addr) (xs ys : Array Value) (i : Nat) : Prop where
  zip : (i = 0 ∧ IsZip h z TI TO .none ∧ ∃ a b, IsPair h TO a b) ∨ ∃ T f oT, IsZipHeld h z TI TO T f ∧ h.get? T = some oT ∧ lo ≤ T
  ti : IsPair h TI (.ref i1) (.ref i2)
  h1 : h.IsTupleIter i1 l1 i
  h2 : h.IsTupleIter i2 l2 i
  l1' : h.IsTuple l1 xs
  l2' : h.IsTuple l2 ys
/-- the addresses that are there ahead of the pairs -/
structure ZLo (z TI TO i1 i2 l1 l2 S lo : Addr) : Prop where
  z' : z < lo
  TI' : TI < lo
  TO' : TO < lo
  i1' : i1 < lo
  i2' : i2 < lo
  l1' : l1 < lo
  l2' : l2 < lo
  S' : S < lo
  Sz : S ≠ z
  STI : S ≠ TI
  STO : S ≠ TO
  Si1 : S ≠ i1
  Si2 : S ≠ i2
  Sl1 : S ≠ l1
  Sl2 : S ≠ l2
variable {z TI TO i1 i2 l1 l2 S lo : Addr} {xs ys : Array Value}
theorem ZSt.upd {h h' : Heap} {i : Nat} (L : ZLo z TI TO i1 i2 l1 l2 S lo) (st : ZSt h z TI TO i1 i2 l1 l2 S lo xs ys i) (k : ∀ b o, b ≠ S → h.get? b = some o → h'.get? b = some o) : ZSt h' z TI TO i1 i2 l1 l2 S lo xs ys i where
  zip := by
    rcases st.zip with ⟨e, hz, a, b, ht⟩ | ⟨T, f, oT, hz, hT, hl⟩
    · exact .inl ⟨e, k _ _ L.Sz.symm hz, a, b, k _ _ L.STO.symm ht⟩
    · exact .inr ⟨T, f, oT, k _ _ L.Sz.symm hz, k _ _ (fun e => by have := L.S'; rw [e] at hl; exact absurd hl (Nat.not_le.mpr this)) hT, hl⟩
  ti := k _ _ L.STI.symm st.ti
  h1 := st.h1.at fun o e => k _ _ L.Si1.symm e
  h2 := st.h2.at fun o e => k _ _ L.Si2.symm e
  l1' := by
    obtain ⟨o, ho, r⟩ := st.l1'
    exact ⟨o, k _ _ L.Sl1.symm ho, r⟩
  l2' := by
    obtain ⟨o, ho, r⟩ := st.l2'
    exact ⟨o, k _ _ L.Sl2.symm ho, r⟩
theorem tup_keep {h h' : Heap} {l : Addr} {its : Array Value} (t : h.IsTuple l its) (k : ∀ o, h.get? l = some o → h'.get? l = some o) : h'.IsTuple l its := by
  obtain ⟨o, ho, r⟩ := t
  exact ⟨o, k o ho, r⟩
theorem zst_item {i : Nat} {x y : Value} {Q : Option Value → Shared → Prop} (D : ZipApart z TI TO i1 i2 l1 l2) (L : ZLo z TI TO i1 i2 l1 l2 S lo) (hlo : lo ≤ s.heap.objs.size) (st : ZSt s.heap z TI TO i1 i2 l1 l2 S lo xs ys i) (hx : xs[i]? = some x) (hy : ys[i]? = some y)
    (hQ : ∀ h', ZSt h' z TI TO i1 i2 l1 l2 S lo xs ys (i + 1) → IsPair h' s.heap.objs.size x y → h'.objs.size = s.heap.objs.size + 1 →
      (∀ c o, c ≠ z → c ≠ TO → c ≠ i1 → c ≠ i2 → s.heap.get? c = some o → h'.get? c = some o) → Q (some (.ref s.heap.objs.size)) { s with heap := h' }) :
    wpAny (model prog w) A (pyNext (.ref z)) Q E s := by
  rcases st.zip with ⟨e, hz, a, b, ht⟩ | ⟨T, f, oT, hz, hT, hl⟩
  · refine pyNext_zipT_item D hz st.ti ht st.h1 st.h2 st.l1' st.l2' hx hy fun h' z' to' a1 a2 pr sz k => hQ h' ⟨.inr ⟨s.heap.objs.size, false, _, z', pr, hlo⟩, ?_, a1, a2, ?_, ?_⟩ pr sz k
    · exact k _ _ D.TIz D.TITO D.TIi1 D.TIi2 st.ti
    · exact tup_keep st.l1' fun o q => k _ _ D.l1z D.l1TO D.l1i1 D.l1i2 q
    · exact tup_keep st.l2' fun o q => k _ _ D.l2z D.l2TO D.l2i1 D.l2i2 q
  · have hTy : s.TypeIs (.ref z) "zip" := ⟨_, hz, rfl⟩
    unfold pyNext
    refine wpAny_bind (wpAny_attempt (wpAny_callSpecial?_slot (name := Str.ofString "__next__") hTy F.slot_zip_next
      (wpAny_call_entry F.slot_zip_next hTy F.entry_zip_next
        (zipT_item_held D hz hT st.ti st.h1 st.h2 st.l1' st.l2' hx hy fun h' z' a1 a2 pr sz k => wpAny_pure (hQ h' ⟨.inr ⟨T, true, oT, z', ?_, hl⟩, ?_, a1, a2, ?_, ?_⟩ pr sz fun c o c1 _ c3 c4 q => k c o c1 c3 c4 q)) (F.args_zip_next_1 _))))
    · exact k _ _ (fun e => by rw [e] at hl; exact absurd hl (Nat.not_le.mpr L.z')) (fun e => by rw [e] at hl; exact absurd hl (Nat.not_le.mpr L.i1')) (fun e => by rw [e] at hl; exact absurd hl (Nat.not_le.mpr L.i2')) hT
    · exact k _ _ D.TIz D.TIi1 D.TIi2 st.ti
    · exact tup_keep st.l1' fun o q => k _ _ D.l1z D.l1i1 D.l1i2 q
    · exact tup_keep st.l2' fun o q => k _ _ D.l2z D.l2i1 D.l2i2 q
theorem zst_done {i : Nat} {Q : Option Value → Shared → Prop} (hh : A.handled = none) (D : ZipApart z TI TO i1 i2 l1 l2) (st : ZSt s.heap z TI TO i1 i2 l1 l2 S lo xs ys i) (hx : xs[i]? = none)
    (hQ : ∀ h', (∀ c o, c ≠ z → c ≠ TO → c ≠ i1 → c ≠ i2 → s.heap.get? c = some o → h'.get? c = some o) → Q none { s with heap := h' }) : wpAny (model prog w) A (pyNext (.ref z)) Q E s := by
  rcases st.zip with ⟨e, hz, a, b, ht⟩ | ⟨T, f, oT, hz, hT, hl⟩
  · exact pyNext_zipT_end hh D hz st.ti ht st.h1 st.h2 st.l1' st.l2' (.inl hx) hQ
  · have hTy : s.TypeIs (.ref z) "zip" := ⟨_, hz, rfl⟩
    unfold pyNext
    refine wpAny_bind (wpAny_attempt (wpAny_callSpecial?_slot (name := Str.ofString "__next__") hTy F.slot_zip_next
      (wpAny_call_entry F.slot_zip_next hTy F.entry_zip_next (zipT_end_held hh D hz hT st.ti st.h1 st.h2 st.l1' st.l2' hx fun h' e hk he => ?_) (F.args_zip_next_1 _))))
    obtain ⟨o, ho, hc⟩ := he
    refine wpAny_bind (wpAny_isInstance (T := "StopIteration") (b := true) ⟨o, ho, hc⟩ isSubtype_stop ?_)
    exact wpAny_pure (hQ _ fun c o c1 _ c3 c4 q => hk c o c1 c3 c4 q)
/-- the pairs made so far -/
structure ZG (xs ys : Array Value) (lo : Addr) (h : Heap) (as : List Addr) : Prop where
  rise : as.Pairwise (· < ·)
  above : ∀ a ∈ as, lo ≤ a
  pairs : ∀ (j : Nat) (a : Addr), as[j]? = some a → ∃ x y, xs[j]? = some x ∧ ys[j]? = some y ∧ IsPair h a x y
theorem ZG.there {h : Heap} {as : List Addr} (g : ZG xs ys lo h as) {a : Addr} (ha : a ∈ as) : a < h.objs.size := by
  obtain ⟨j, hj⟩ := List.mem_iff_getElem?.mp ha
  obtain ⟨_, _, _, _, e⟩ := g.pairs j a hj
  exact Heap.lt_size e
theorem zl_loop {R : Result → Shared → Prop} (hh : A.handled = none) (D : ZipApart z TI TO i1 i2 l1 l2) (L : ZLo z TI TO i1 i2 l1 l2 S lo) (hl : xs.size = ys.size) (hn : xs.size ≤ sizeLine) (res : Value) {h₁ : Heap}
    (hR : ∀ h' tk acc c as, (∀ b o, b ≠ S → b ≠ z → b ≠ TO → b ≠ i1 → b ≠ i2 → h₁.get? b = some o → h'.get? b = some o) → h'.get? S = some { cls := .type "list", dict := none, data := .seq acc c, slots := #[] } → as.length = xs.size → ZG xs ys lo h' as →
      acc.toList = as.map Value.ref → R (.ok (.ret res)) { s with heap := h', toks := tk }) :
    ∀ (k i : Nat) (h : Heap) (tk c : Nat) (acc : Array Value) (as : List Addr), xs.size - i = k → i ≤ xs.size → ZSt h z TI TO i1 i2 l1 l2 S lo xs ys i → (∀ b o, b ≠ S → b ≠ z → b ≠ TO → b ≠ i1 → b ≠ i2 → h₁.get? b = some o → h.get? b = some o) →
      h.get? S = some { cls := .type "list", dict := none, data := .seq acc c, slots := #[] } → acc.toList = as.map Value.ref → as.length = i → ZG xs ys lo h as → lo ≤ h.objs.size →
      codeAny (model prog w) A (.builtin "list.extend.loop" ⟨[.ref S, .ref z, res], []⟩) R { s with heap := h, toks := tk } := by
  intro k
  induction k with
  | zero =>
    intro i h tk c acc as hk hi st hkeep hS hacc hal hG hlo
    have hin : i = xs.size := by omega
    refine codeAny_builtin PySem.F.entry_extend_loop ?_
    rw [Around.under_plainId PySem.F.plain_extend_loop _]
    show wpAny _ A.in1 (pyNext (.ref z) >>= _) _ _ _
    refine wpAny_bind (zst_done (s := { s with heap := h, toks := tk }) (A := A.in1) hh D st (Array.getElem?_eq_none (by omega)) fun h' he => ?_)
    refine wpAny_pure (hR h' tk acc c as (fun b o h1 h2 h3 h4 h5 e => he b o h2 h3 h4 h5 (hkeep b o h1 h2 h3 h4 h5 e)) (he S _ L.Sz L.STO L.Si1 L.Si2 hS) (by omega) ⟨hG.rise, hG.above, fun j a hj => ?_⟩ hacc)
    obtain ⟨x, y, e1, e2, e3⟩ := hG.pairs j a hj
    have ha := hG.above a (List.mem_of_getElem? hj)
    exact ⟨x, y, e1, e2, he a _ (Nat.ne_of_gt (Nat.lt_of_lt_of_le L.z' ha)) (Nat.ne_of_gt (Nat.lt_of_lt_of_le L.TO' ha)) (Nat.ne_of_gt (Nat.lt_of_lt_of_le L.i1' ha)) (Nat.ne_of_gt (Nat.lt_of_lt_of_le L.i2' ha)) e3⟩
  | succ k ih =>
    intro i h tk c acc as hk hi st hkeep hS hacc hal hG hlo
    have hlt : i < xs.size := by omega
    have hx : xs[i]? = some xs[i] := Array.getElem?_eq_getElem hlt
    have hlt2 : i < ys.size := by omega
    have hy : ys[i]? = some ys[i] := Array.getElem?_eq_getElem hlt2
    have hsz : acc.size = i := by rw [← Array.length_toList, hacc, List.length_map, hal]
    refine codeAny_builtin PySem.F.entry_extend_loop ?_
    rw [Around.under_plainId PySem.F.plain_extend_loop _]
    show wpAny _ A.in1 (pyNext (.ref z) >>= _) _ _ _
    refine wpAny_bind (zst_item (s := { s with heap := h, toks := tk }) (A := A.in1) D L hlo st hx hy fun h' st' ht hz hkp => ?_)
    dsimp only at ht hz hkp ⊢
    have hS' := hkp S _ L.Sz L.STO L.Si1 L.Si2 hS
    have up : ∀ b o, b ≠ S → h'.get? b = some o → (h'.update S (Obj.mapSeq (·.push (Value.ref h.objs.size)))).get? b = some o := fun b o hb e => (Heap.get?_update_other _ _ (Ne.symm hb)).trans e
    have hSl : S < h.objs.size := Heap.lt_size hS
    show wpAny _ A.in1 (updateSeq S (·.push (Value.ref h.objs.size)) >>= _) _ _ _
    refine wpAny_bind ?_
    refine wpAny_updateSeq hS' rfl (wpAny_pure ⟨plainId_quiet PySem.F.plain_extend_loop _, ih (i + 1) _ tk _ (acc.push (Value.ref h.objs.size)) (as ++ [h.objs.size]) (by omega) hlt (st'.upd L up)
      (fun b o h1 h2 h3 h4 h5 e => up b o h1 (hkp b o h2 h3 h4 h5 (hkeep b o h1 h2 h3 h4 h5 e))) (Heap.get?_update_self _ hS' rfl) (by rw [Array.toList_push, hacc, List.map_append]; rfl) (by rw [List.length_append, hal]; rfl) ⟨?_, ?_, ?_⟩ ?_⟩) (by rw [hsz]; omega) (by show (acc.push (Value.ref h.objs.size)).size ≤ sizeLine + 1; rw [Array.size_push, hsz]; omega)
    · refine List.pairwise_append.mpr ⟨hG.rise, List.pairwise_singleton _ _, fun a ha b hb => ?_⟩
      rw [List.mem_singleton.mp hb]
      exact hG.there ha
    · intro a ha
      rcases List.mem_append.mp ha with ha | ha
      · exact hG.above a ha
      · rw [List.mem_singleton.mp ha]; exact hlo
    · intro j b hj
      rcases Nat.lt_trichotomy j as.length with h1 | h1 | h1
      · rw [List.getElem?_append_left h1] at hj
        obtain ⟨x', y', e1, e2, e3⟩ := hG.pairs j b hj
        have hb := hG.above b (List.mem_of_getElem? hj)
        exact ⟨x', y', e1, e2, up b _ (Nat.ne_of_gt (Nat.lt_of_lt_of_le L.S' hb)) (hkp b _ (Nat.ne_of_gt (Nat.lt_of_lt_of_le L.z' hb)) (Nat.ne_of_gt (Nat.lt_of_lt_of_le L.TO' hb)) (Nat.ne_of_gt (Nat.lt_of_lt_of_le L.i1' hb)) (Nat.ne_of_gt (Nat.lt_of_lt_of_le L.i2' hb)) e3)⟩
      · subst h1
        have hb : h.objs.size = b := by simpa using hj
        subst hb
        exact ⟨xs[i], ys[i], by rw [hal]; exact hx, by rw [hal]; exact hy, up _ _ (Nat.ne_of_gt hSl) ht⟩
      · have hnone : (as ++ [h.objs.size])[j]? = none := List.getElem?_eq_none (by rw [List.length_append, List.length_singleton]; omega)
        rw [hnone] at hj; cases hj
    · have e : (h'.update S (Obj.mapSeq (·.push (Value.ref h.objs.size)))).get? h.objs.size = _ := up _ _ (Nat.ne_of_gt hSl) ht
      exact Nat.le_trans hlo (Nat.le_of_lt (Heap.lt_size e))
end
end LmR

set_option Elab.async false
set_option linter.all false
set_option maxRecDepth 100000
set_option maxHeartbeats 2000000
namespace LmR
open PySem PySem.Spec PyProof.Rows L2 RZ
section
variable {prog : Program} {w : World} {A : Around} {E : Value → Shared → Prop} {s : Shared}
variable {z TI TO i1 i2 l1 l2 S lo : Addr} {xs ys : Array Value}
theorem zl_extend {R : Result → Shared → Prop} (hh : A.handled = none) (D : ZipApart z TI TO i1 i2 l1 l2) (L : ZLo z TI TO i1 i2 l1 l2 S lo) (hl : xs.size = ys.size) (hn : xs.size ≤ sizeLine) (res : Value) (c₀ : Nat) (hlo : lo ≤ s.heap.objs.size)
    (st : ZSt s.heap z TI TO i1 i2 l1 l2 S lo xs ys 0) (hz : IsZip s.heap z TI TO .none) (hS : s.heap.get? S = some { cls := .type "list", data := .seq #[] c₀ })
    (hR : ∀ h' tk acc c as, (∀ b o, b ≠ S → b ≠ z → b ≠ TO → b ≠ i1 → b ≠ i2 → s.heap.get? b = some o → h'.get? b = some o) → h'.get? S = some { cls := .type "list", dict := none, data := .seq acc c, slots := #[] } → as.length = xs.size → ZG xs ys lo h' as →
      acc.toList = as.map Value.ref → R (.ok (.ret res)) { s with heap := h', toks := tk }) :
    wpAny (model prog w) A.in1 (Builtin.List.listExtendWith (.ref S) (.ref z) res)
      (fun fin s' => match fin with | .done f => R (.ok f) s' | .again c' => c'.quiet = true ∧ codeAny (model prog w) A c' R s') (fun e s' => R (.error e) s') s := by
  have hT : s.TypeIs (.ref z) "zip" := ⟨_, hz, rfl⟩
  unfold Builtin.List.listExtendWith
  refine wpAny_bind (wpAny_typeOf hT ?_)
  have h1 : Builtin.List.listSameRef (.ref S) (.ref z) = false := by simp [Builtin.List.listSameRef, L.Sz]
  have h2 : (Value.type "zip" == Value.type "list") = false := by decide
  have h3 : (Value.type "zip" == Value.type "tuple") = false := by decide
  simp only [h1, h2, h3, Bool.or_false, Bool.false_eq_true, if_false]
  refine wpAny_bind (wpAny_pyIter_zip hz ?_)
  refine wpAny_bind (wpAny_holding ?_)
  unfold Builtin.List.listLengthHint
  refine wpAny_bind (wpAny_specialOf hT zip_no_len ?_)
  show wpAny _ A.in1 (specialOf (Value.ref z) (Str.ofString "__length_hint__") >>= _) _ _ _
  refine wpAny_bind (wpAny_specialOf hT zip_no_hint ?_)
  refine wpAny_pure ?_
  show wpAny _ A.in1 (rule "list.extend.makes-room" >>= fun _ => Builtin.List.listTouch (.ref S) >>= fun _ =>
    again (.builtin "list.extend.loop" ⟨[.ref S, .ref z, res], []⟩)) _ _ _
  refine wpAny_bind (wpAny_rule ?_)
  refine wpAny_bind ?_
  show wpAny _ A.in1 (updateSeq S (·.push .none) >>= fun _ => updateSeq S (·.pop)) _ _ _
  refine wpAny_bind (wpAny_updateSeq hS rfl ?_)
  have hS₂ := Heap.get?_update_self (Obj.mapSeq (·.push Value.none)) hS rfl
  refine wpAny_updateSeq (hz := by seq_fits) hS₂ rfl ?_
  have hS₃ := Heap.get?_update_self (Obj.mapSeq (·.pop)) hS₂ rfl
  have oth : ∀ b o, b ≠ S → s.heap.get? b = some o → ((s.heap.update S (Obj.mapSeq (·.push Value.none))).update S (Obj.mapSeq (·.pop))).get? b = some o :=
    fun b o hb e => (Heap.get?_update_other _ _ (Ne.symm hb)).trans ((Heap.get?_update_other _ _ (Ne.symm hb)).trans e)
  refine wpAny_pure ⟨plainId_quiet PySem.F.plain_extend_loop _, zl_loop (s := s) (h₁ := s.heap) hh D L hl hn res hR xs.size 0 _ s.toks _ #[] [] (Nat.sub_zero _) (Nat.zero_le _) (st.upd L oth) (fun b o h1 _ _ _ _ e => oth b o h1 e) hS₃ rfl rfl ⟨List.Pairwise.nil, (fun _ ha => nomatch ha), (fun j a hj => by simp at hj)⟩ ?_⟩
  have zz := oth z _ L.Sz.symm hz
  have e1 : ((s.heap.update S (Obj.mapSeq (·.push Value.none))).update S (Obj.mapSeq (·.pop))).objs.size = s.heap.objs.size := by
    first
      | (rw [Heap.size_update, Heap.size_update])
      | (simp [Heap.update])
  rw [e1]
  exact hlo
theorem zl_init {R : Result → Shared → Prop} (hh : A.handled = none) (D : ZipApart z TI TO i1 i2 l1 l2) (L : ZLo z TI TO i1 i2 l1 l2 S lo) (hl : xs.size = ys.size) (hn : xs.size ≤ sizeLine) (hlo : lo ≤ s.heap.objs.size)
    (st : ZSt s.heap z TI TO i1 i2 l1 l2 S lo xs ys 0) (hz : IsZip s.heap z TI TO .none) (hS : s.heap.get? S = some { cls := .type "list", data := .seq #[] })
    (hR : ∀ h' tk acc c as, (∀ b o, b ≠ S → b ≠ z → b ≠ TO → b ≠ i1 → b ≠ i2 → s.heap.get? b = some o → h'.get? b = some o) → h'.get? S = some { cls := .type "list", dict := none, data := .seq acc c, slots := #[] } → as.length = xs.size → ZG xs ys lo h' as →
      acc.toList = as.map Value.ref → R (.ok (.ret .none)) { s with heap := h', toks := tk }) :
    wpAny (model prog w) A.in1 (Builtin.«list.__init__» ⟨[.ref S, .ref z], []⟩)
      (fun fin s' => match fin with | .done f => R (.ok f) s' | .again c' => c'.quiet = true ∧ codeAny (model prog w) A c' R s') (fun e s' => R (.error e) s') s := by
  show wpAny _ _ (do let old ← Builtin.List.listItems (.ref S); Builtin.List.listUpdate (.ref S) (fun _ => #[]); letGo old.toList.reverse; Builtin.List.listExtendWith (.ref S) (.ref z) .none) _ _ s
  refine wpAny_bind ?_
  unfold Builtin.List.listItems
  refine wpAny_bind (wpAny_seqItems hS rfl (wpAny_pure ?_))
  show wpAny _ _ (updateSeq S (fun _ => #[]) >>= fun _ => letGo (#[] : Array Value).toList.reverse >>= fun _ => Builtin.List.listExtendWith (.ref S) (.ref z) .none) _ _ s
  refine wpAny_bind (wpAny_updateSeq hS rfl ?_)
  have hS₂ := Heap.get?_update_self (Obj.mapSeq (fun _ => (#[] : Array Value))) hS rfl
  have oth : ∀ b o, b ≠ S → s.heap.get? b = some o → (s.heap.update S (Obj.mapSeq (fun _ => (#[] : Array Value)))).get? b = some o :=
    fun b o hb e => (Heap.get?_update_other _ _ (Ne.symm hb)).trans e
  refine wpAny_bind (wpAny_letGo ?_)
  have e1 : (s.heap.update S (Obj.mapSeq (fun _ => (#[] : Array Value)))).objs.size = s.heap.objs.size := by
    first
      | (rw [Heap.size_update])
      | (simp [Heap.update])
  refine zl_extend hh D L hl hn .none _ (by show lo ≤ (s.heap.update S _).objs.size; rw [e1]; exact hlo) (st.upd L oth) (oth z _ L.Sz.symm hz) hS₂ (fun h' tk acc c as hk hS' hl' hG hacc => ?_)
  exact hR h' tk acc c as (fun b o h1 h2 h3 h4 h5 e => hk b o h1 h2 h3 h4 h5 (oth b o h1 e)) hS' hl' hG hacc
theorem zl_call {Q : Value → Shared → Prop} (hh : A.handled = none) (D : ZipApart z TI TO i1 i2 l1 l2) (hl : xs.size = ys.size) (hn : xs.size ≤ sizeLine)
    (hz : IsZip s.heap z TI TO .none) (hTI : IsPair s.heap TI (.ref i1) (.ref i2)) (hTO : ∃ a b, IsPair s.heap TO a b) (h1 : s.heap.IsTupleIter i1 l1 0) (h2 : s.heap.IsTupleIter i2 l2 0) (hl1 : s.heap.IsTuple l1 xs) (hl2 : s.heap.IsTuple l2 ys)
    (hQ : ∀ h' tk acc c as, (∀ b o, b ≠ z → b ≠ TO → b ≠ i1 → b ≠ i2 → s.heap.get? b = some o → h'.get? b = some o) → h'.get? s.heap.objs.size = some { cls := .type "list", dict := none, data := .seq acc c, slots := #[] } → as.length = xs.size → ZG xs ys (s.heap.objs.size + 1) h' as →
      acc.toList = as.map Value.ref → Q (.ref s.heap.objs.size) { s with heap := h', toks := tk }) :
    wpAny (model prog w) A (call (.type "list") [.ref z]) Q E s := by
  refine callType_codes (Q₁ := fun obj s₁ => obj = .ref s.heap.objs.size ∧ s₁ = { s with heap := s.heap.push { cls := .type "list", data := .seq #[] } }) PySem.F.called_list (PySem.F.typeCall_list_1 _) PySem.F.entry_list_init
    (code_list_new _ ⟨rfl, rfl⟩) fun obj s₁ h₁ => ?_
  obtain ⟨rfl, rfl⟩ := h₁
  have hS : (s.heap.push { cls := .type "list", data := .seq #[] }).get? s.heap.objs.size = some { cls := .type "list", data := .seq #[] } := Heap.get?_push_size _ rfl
  have kp : ∀ b o, s.heap.get? b = some o → (s.heap.push { cls := .type "list", data := .seq #[] }).get? b = some o := fun b o e => Heap.get?_push_of_some _ e
  have lz := Heap.lt_size hz
  have lTI := Heap.lt_size hTI
  obtain ⟨ta, tb, hTO'⟩ := hTO
  have lTO := Heap.lt_size hTO'
  have li1 : i1 < s.heap.objs.size := let ⟨_, e, _⟩ := h1; Heap.lt_size e
  have li2 : i2 < s.heap.objs.size := let ⟨_, e, _⟩ := h2; Heap.lt_size e
  have ll1 : l1 < s.heap.objs.size := let ⟨_, e, _⟩ := hl1; Heap.lt_size e
  have ll2 : l2 < s.heap.objs.size := let ⟨_, e, _⟩ := hl2; Heap.lt_size e
  have L : ZLo z TI TO i1 i2 l1 l2 s.heap.objs.size (s.heap.objs.size + 1) := ⟨Nat.lt_succ_of_lt lz, Nat.lt_succ_of_lt lTI, Nat.lt_succ_of_lt lTO, Nat.lt_succ_of_lt li1, Nat.lt_succ_of_lt li2, Nat.lt_succ_of_lt ll1, Nat.lt_succ_of_lt ll2, Nat.lt_succ_self _,
    Nat.ne_of_gt lz, Nat.ne_of_gt lTI, Nat.ne_of_gt lTO, Nat.ne_of_gt li1, Nat.ne_of_gt li2, Nat.ne_of_gt ll1, Nat.ne_of_gt ll2⟩
  have st : ZSt (s.heap.push { cls := .type "list", data := .seq #[] }) z TI TO i1 i2 l1 l2 s.heap.objs.size (s.heap.objs.size + 1) xs ys 0 :=
    ⟨.inl ⟨rfl, kp _ _ hz, ta, tb, kp _ _ hTO'⟩, kp _ _ hTI, h1.at fun o e => kp _ _ e, h2.at fun o e => kp _ _ e, tup_keep hl1 fun o e => kp _ _ e, tup_keep hl2 fun o e => kp _ _ e⟩
  refine ⟨⟨_, hS, rfl⟩, PySem.F.args_list_init_2 _ _, zl_init (A := A.in1) hh D L hl hn (by show s.heap.objs.size + 1 ≤ (s.heap.push _).objs.size; rw [Heap.size_push]; exact Nat.le_refl _) st (kp _ _ hz) hS (fun h' tk acc c as hk hS' hl' hG hacc => ?_)⟩
  exact ⟨rfl, hQ h' tk acc c as (fun b o c1 c2 c3 c4 e => hk b o (Nat.ne_of_lt (Heap.lt_size e)) c1 c2 c3 c4 (kp b o e)) hS' hl' hG hacc⟩
end
/-! ### the rule -/
/-- pairs tracked at their addresses -/
def putZ : Hp → List Addr → List (V × V) → Hp
  | H, a :: as, p :: ps => putZ (upd H a (.tup [p.1, p.2])) as ps
  | H, _, _ => H
theorem putZ_off {b : Addr} : ∀ (as : List Addr) (ps : List (V × V)) (H : Hp), b ∉ as → putZ H as ps b = H b
  | [], _, _, _ => rfl
  | _ :: _, [], _, _ => rfl
  | a :: as, p :: ps, H, h => by
    show putZ (upd H a (.tup [p.1, p.2])) as ps b = H b
    rw [putZ_off as ps _ (fun z => h (List.mem_cons_of_mem _ z)), upd_ne (fun z => h (by rw [z]; exact List.mem_cons_self))]
theorem putZ_at : ∀ (as : List Addr) (ps : List (V × V)) (H : Hp) (j : Nat) (a : Addr) (p : V × V), as.Nodup → as[j]? = some a → ps[j]? = some p → putZ H as ps a = some (.tup [p.1, p.2])
  | [], _, _, j, _, _, _, h, _ => by simp at h
  | _ :: _, [], _, j, _, _, _, _, h => by simp at h
  | a :: as, p :: ps, H, 0, b, q, nd, h1, h2 => by
    have e1 : a = b := Option.some.inj h1
    have e2 : p = q := Option.some.inj h2
    subst e1 e2
    show putZ (upd H a (.tup [p.1, p.2])) as ps a = some (.tup [p.1, p.2])
    rw [putZ_off as ps _ (List.nodup_cons.mp nd).1, upd_same]
  | a :: as, p :: ps, H, j + 1, b, q, nd, h1, h2 => putZ_at as ps _ j b q (List.nodup_cons.mp nd).2 h1 h2
/-- list(zip(t, u)) of two tuples of one length -/
def tListZip (K : PySem.W.Frag) (ta : TA) : TE := fun σ H Q => ta σ H fun vs H1 => ∃ (a b : Addr) (xs ys : List V), vs = [.ref a, .ref b] ∧ SqT K H1 a xs ∧ SqT K H1 b ys ∧ xs.length = ys.length ∧
  ∀ (H' : Hp) (p : Addr) (ts : List Addr), Same H1 H' → H1 p = none → (∀ t ∈ ts, H1 t = none) → H' p = some (.lst (ts.map V.ref)) → ts.length = xs.length →
    (∀ (j : Nat) (t : Addr), ts[j]? = some t → ∃ x y, xs[j]? = some x ∧ ys[j]? = some y ∧ H' t = some (.tup [x, y])) → Q (.ref p) H'
section
variable {X : Cx}
theorem pe_listZip {e e2 : Expr} {ta : TA} {p p2 pos pos2 : Pos} (hc : X.calm = true) (hgl : Gl X "list") (hml : X.mg "list" = none) (hgz : Gl X "zip") (hmz : X.mg "zip" = none) (ha : PA X [e, e2] ta)
    (hs : starEach [e, e2] X.env = (false, eval e X.env) :: starEach [e2] X.env := by rfl) (hpl : (backTo pos2 (starEach [e2] X.env)).any (·.1) = false := by rfl)
    (hs2 : starEach [.Call (.Name "zip" p2) [e, e2] [] pos2] X.env = (false, eval (.Call (.Name "zip" p2) [e, e2] [] pos2) X.env) :: starEach [] X.env := by rfl) :
    PE X (.Call (.Name "list" p) [.Call (.Name "zip" p2) [e, e2] [] pos2] [] pos) (tListZip X.K ta) := by
  refine ⟨fun pins s σ H Q I h => ?_⟩
  refine wpAny_Call_Name_kw (ld_blt I hgl hml PyProof.Rows.boot_list ?_)
  refine PyProof.Rows.callWith_type1 ?_ hs2 rfl
  rw [hs2]
  show wpAny _ _ (spliced ((false, eval (.Call (.Name "zip" p2) [e, e2] [] pos2) X.env) :: backTo pos (starEach [] X.env))) _ _ s
  refine Calls.spliced_cons ?_
  refine Call_ (ld_blt I hgz hmz PyProof.Rows.boot_zip (PyProof.Rows.callWith_type1 (thn (ha.run pos2 pins s σ H _ I h) fun us s1 ⟨vs, H1, I1, r1, q1⟩ => ?_) hs hpl))
  obtain ⟨a, b, xs, ys, ex, hqx, hqy, hxy, q⟩ := q1
  subst ex
  cases r1 with
  | cons r rr =>
    cases rr with
    | cons r' rr =>
      cases rr
      cases r
      cases r'
      obtain ⟨its, rv, p1, hz1⟩ := I1.tuple hqx
      obtain ⟨its2, rv2, p2', _⟩ := I1.tuple hqy
      obtain ⟨o1, ho1, _⟩ := id p1
      obtain ⟨o2, ho2, _⟩ := id p2'
      have e1 := rv.length
      have e2 := rv2.length
      refine call_zipT (show s1.heap.IsTuple a its.toArray from p1) (show s1.heap.IsTuple b its2.toArray from p2') fun h' hz hTI hTO h1 h2 hsz hk => ?_
      refine Calls.spliced_nil ?_
      have D := PySem.W.ktu_apart s1.heap.objs.size a b (Heap.lt_size ho1) (Heap.lt_size ho2)
      refine zl_call (s := { s1 with heap := h' }) (xs := its.toArray) (ys := its2.toArray) (I1.ok.hd hc) D (by rw [List.size_toArray, List.size_toArray]; omega) (by rw [List.size_toArray]; omega) hz hTI ⟨_, _, hTO⟩ h1 h2 (tup_keep p1 fun o q => hk _ _ q) (tup_keep p2' fun o q => hk _ _ q) fun h2' tk acc c as hkk hS hl hG hacc => ?_
      have lo : ∀ b o, s1.heap.get? b = some o → h2'.get? b = some o := fun b o q => by
        have lb := Heap.lt_size q
        exact hkk b o (fun z => by rw [z] at lb; exact absurd lb (Nat.not_lt.mpr (Nat.le_add_right _ _))) (fun z => by rw [z] at lb; exact absurd lb (Nat.not_lt.mpr (Nat.le_add_right _ _))) (fun z => by rw [z] at lb; exact absurd lb (Nat.lt_irrefl _)) (fun z => by rw [z] at lb; exact absurd lb (Nat.not_lt.mpr (Nat.le_add_right _ _))) (hk b o q)
      have hsz' : h'.objs.size = s1.heap.objs.size + 5 := hsz
      have hal : as.length = xs.length := by
        rw [hl, List.size_toArray]
        omega
      have nd : as.Nodup := List.Pairwise.imp (fun {a b} (h : a < b) => Nat.ne_of_lt h) hG.rise
      have big : ∀ t ∈ as, h'.objs.size < t := fun t ht => hG.above t ht
      have hSn : h'.objs.size ∉ as := fun z => Nat.lt_irrefl _ (big _ z)
      have new : ∀ t ∈ as, H1 t = none := fun t ht => I1.hok.fresh (by have := big t ht; rw [hsz'] at this; exact Nat.le_of_lt (Nat.lt_of_le_of_lt (Nat.le_add_right _ _) this))
      have newS : H1 h'.objs.size = none := I1.hok.fresh (by rw [hsz']; exact Nat.le_add_right _ _)
      have lk : ∀ b o, s1.heap.get? b = some o → b ∉ as ∧ b ≠ h'.objs.size := fun b o q => by
        have lb := Heap.lt_size q
        refine ⟨fun z => ?_, fun z => ?_⟩
        · have := big b z
          rw [hsz'] at this
          exact absurd lb (Nat.not_lt.mpr (Nat.le_trans (Nat.le_add_right _ 5) (Nat.le_of_lt this)))
        · rw [z, hsz'] at lb
          exact absurd lb (Nat.not_lt.mpr (Nat.le_add_right _ _))
      have off : ∀ b, b ∉ as → b ≠ h'.objs.size → putZ (upd H1 h'.objs.size (.lst (as.map V.ref))) as (xs.zip ys) b = H1 b := fun b h1 h2 => by rw [putZ_off as _ _ h1, upd_ne h2]
      have kp : ∀ b u, H1 b = some u → putZ (upd H1 h'.objs.size (.lst (as.map V.ref))) as (xs.zip ys) b = some u := fun b u e => by
        rw [off b (fun z => by rw [new b z] at e; cases e) (fun z => by rw [z, newS] at e; cases e)]
        exact e
      have eS : putZ (upd H1 h'.objs.size (.lst (as.map V.ref))) as (xs.zip ys) h'.objs.size = some (.lst (as.map V.ref)) := by rw [putZ_off as _ _ hSn, upd_same]
      have prs : ∀ (j : Nat) (t : Addr), as[j]? = some t → ∃ x y u1 u2, xs[j]? = some x ∧ ys[j]? = some y ∧ RelV x u1 ∧ RelV y u2 ∧ IsPair h2' t u1 u2 ∧ putZ (upd H1 h'.objs.size (.lst (as.map V.ref))) as (xs.zip ys) t = some (.tup [x, y]) := fun j t ht => by
        obtain ⟨u1, u2, f1, f2, f3⟩ := hG.pairs j t ht
        have hj : j < xs.length := by
          have := (List.getElem?_eq_some_iff.mp ht).1
          omega
        have hj2 : j < ys.length := by omega
        have g1 : xs[j]? = some xs[j] := List.getElem?_eq_getElem hj
        have g2 : ys[j]? = some ys[j] := List.getElem?_eq_getElem hj2
        obtain ⟨w1, k1, r1⟩ := rv.get g1
        obtain ⟨w2, k2, r2⟩ := rv2.get g2
        have m1 : u1 = w1 := by
          rw [List.getElem?_toArray, k1] at f1
          exact (Option.some.inj f1).symm
        have m2 : u2 = w2 := by
          rw [List.getElem?_toArray, k2] at f2
          exact (Option.some.inj f2).symm
        subst m1 m2
        refine ⟨xs[j], ys[j], u1, u2, g1, g2, r1, r2, f3, ?_⟩
        exact putZ_at as (xs.zip ys) _ j t (xs[j], ys[j]) nd ht (by rw [List.getElem?_zip_eq_some]; exact ⟨g1, g2⟩)
      refine ⟨.ref _, putZ (upd H1 h'.objs.size (.lst (as.map V.ref))) as (xs.zip ys), ?_, rfl, q _ _ as kp newS new eS hal fun j t ht => ?_⟩
      · have Ik : Inv X pins σ H1 { s1 with heap := h2', toks := tk } := I1.kept (t' := tk) lo
        refine I1.call' (ch := []) rfl ⟨fun b o q _ _ _ => lo b o q, fun b o q _ _ _ => ⟨o.slots, lo b o q⟩, fun b o q n _ => ?_, fun b o q _ => ⟨o, lo b o q⟩, fun b zs q => kp b _ q, fun b o u q => kp b _ q, fun b ps q => ⟨#[], by rw [kp b _ q]; simp⟩⟩ (fun b u q => ?_) I1.bare fun b z => by simp at z
        · obtain ⟨z1, z2⟩ := lk b o q
          rw [off b z1 z2]
          exact n
        · by_cases hb : b ∈ as
          · obtain ⟨j, hj⟩ := List.mem_iff_getElem?.mp hb
            obtain ⟨x, y, u1, u2, _, _, r1, r2, f3, e⟩ := prs j b hj
            rw [e] at q
            cases q
            exact ⟨by show 2 ≤ sizeLine; decide, [u1, u2], .cons r1 (.cons r2 .nil), ⟨_, f3, rfl, _, rfl⟩⟩
          · by_cases hb2 : b = h'.objs.size
            · rw [hb2] at q ⊢
              rw [eS] at q
              cases q
              refine ⟨by rw [List.length_map]; omega, acc.toList, c, by rw [hacc]; exact (let rec go : ∀ as : List Addr, Vals (as.map V.ref) (as.map Value.ref) | [] => .nil | _ :: as => .cons rfl (go as); go as), ?_⟩
              rw [Array.toArray_toList]
              exact hS
            · rw [off b hb hb2] at q
              exact (I1.hok b u q).stay (fun d v _ y => lo d v y) (fun d y => kp d _ y) fun d xs y => kp d _ y
      · obtain ⟨x, y, _, _, g1, g2, _, _, _, e⟩ := prs j t ht
        exact ⟨x, y, g1, g2, e⟩
end
end LmR

set_option Elab.async false
set_option linter.all false
set_option maxRecDepth 100000
set_option maxHeartbeats 2000000
namespace Lm
open PySem PySem.Spec PyProof.Rows L2 LmR
/-! ### defs of the text, callable -/
/-- the def st stands in the text under the name x -/
def DefAt (K : PySem.W.Frag) (mg : Str → Option Value) (x : Str) (st : Stmt) (ps : List Str) : Prop := ∃ f fd, Fun K x x st f fd ∧ Binds K fd ps [] ∧ mg x = some (.ref f)
/-- what stands under the name x keeps sp, by at most level k -/
def Cal (P : Program) (w : World) (K : PySem.W.Frag) (mg : Str → Option Value) (base : Heap) (k : Nat) (x : Str) (ps : List Str) (sp : Sp) : Prop :=
  ∃ f fd, FnOk P w K mg base CX0 k f fd ps sp ∧ mg x = some (.ref f) ∧ PySem.W.keepIn K (.ref f) = true ∧ Binds K fd ps []
section
variable {P : Program} {w : World} {K : PySem.W.Frag} {mg : Str → Option Value} {base : Heap}
theorem Cal.mono {j k : Nat} {x : Str} {ps : List Str} {sp : Sp} (c : Cal P w K mg base j x ps sp) (h : j ≤ k) : Cal P w K mg base k x ps sp := by
  obtain ⟨f, fd, F, g, kp, b⟩ := c
  exact ⟨f, fd, F.mono h, g, kp, b⟩
theorem cal_of {x : Str} {st : Stmt} {N ps : List Str} {k : Nat} {sp : Sp} (D : DefAt K mg x st ps) (S : FnScope N ps (defScope st)) (len : ∀ vs H Q E, sp vs H Q E → vs.length = ps.length)
    (hbody : ∀ (f : Addr) (cdv : Value) (A : Around) (outer : List Env) (s : Shared) (H : Hp) (vs : List V) (Q : VK) (E : XK), Room k (A.deeper (envOfC x (defScope st) s.heap.objs.size f cdv)) → sp vs H Q E →
      ∃ t, PSs (cxOf CX0 P w K mg base N x (defScope st) f cdv A outer s H E).nox (defBody st) t ∧ t { nx := fun _ H' => Q .non H', rt := Q } (start N vs) H) : Cal P w K mg base (k + 1) x ps sp := by
  obtain ⟨f, fd, F, b, g⟩ := D
  exact ⟨f, fd, F.ok S len (hbody f), g, F.kp, b⟩
/-- nothing is asked: no call is allowed -/
theorem cal_no {x : Str} {st : Stmt} {ps : List Str} {sp : Sp} (D : DefAt K mg x st ps) (no : ∀ vs H Q E, ¬ sp vs H Q E) {k : Nat} : Cal P w K mg base k x ps sp := by
  obtain ⟨f, fd, F, b, g⟩ := D
  exact ⟨f, fd, ⟨fun vs H Q E h => absurd h (no vs H Q E), fun A outer s H args us vs Q E _ _ _ _ h => absurd h (no vs H Q E)⟩, g, F.kp, b⟩
end
/-- f(e, ..) -/
theorem pe_cal {X : Cx} {k : Nat} {x : Str} {ps : List Str} {sp : Sp} {e : Expr} {es : List Expr} {t : TA} {p pos : Pos} (C : Cal X.prog X.w X.K X.mg X.base k x ps sp) (hr : Room k X.A) (hg : Gl X x) (ha : PA X (e :: es) t)
    (hdb : (x == ("__debug__" : Str)) = false := by decide) (he : starEach (e :: es) X.env = (false, eval e X.env) :: starEach es X.env := by rfl) (hpl : (backTo pos (starEach es X.env)).any (·.1) = false := by rfl) :
    PE X (.Call (.Name x p) (e :: es) [] pos) (tCall sp [] (fun _ _ _ => False) t) := by
  obtain ⟨f, fd, F, g, kp, b⟩ := C
  exact pe_call F hr hg g kp b .nil pass0 ha hdb he hpl
/-- the built-ins that the text names and no one has rebound -/
structure Bt (mg : Str → Option Value) : Prop where
  len : mg "len" = none
  isinstance : mg "isinstance" = none
  tuple : mg "tuple" = none
  list : mg "list" = none
  str : mg "str" = none
  int : mg "int" = none
  bool : mg "bool" = none
  range : mg "range" = none
  zip : mg "zip" = none
  enumerate : mg "enumerate" = none
  reversed : mg "reversed" = none
  max : mg "max" = none
  all : mg "all" = none
  min : mg "min" = none
  sum : mg "sum" = none
  any : mg "any" = none
  sorted : mg "sorted" = none
  set : mg "set" = none
  repr : mg "repr" = none
  abs : mg "abs" = none
/-! ### heaps -/
/-- all that was tracked is as it was, but what stands at ws -/
def Ex (ws : List Addr) (H H' : Hp) : Prop := ∀ b o, H b = some o → b ∉ ws → H' b = some o
theorem Ex.refl (ws : List Addr) (H : Hp) : Ex ws H H := fun _ _ h _ => h
theorem Ex.trans {ws : List Addr} {H H1 H2 : Hp} (a : Ex ws H H1) (b : Ex ws H1 H2) : Ex ws H H2 := fun c o h n => b c o (a c o h n) n
theorem Ex.mono {ws us : List Addr} {H H' : Hp} (a : Ex ws H H') (h : ∀ b ∈ ws, b ∈ us) : Ex us H H' := fun c o e n => a c o e fun m => n (h c m)
theorem Ex.of_same {ws : List Addr} {H H' : Hp} (a : Same H H') : Ex ws H H' := fun c o e _ => a c o e
theorem Ex.same {H H' : Hp} (a : Ex [] H H') : Same H H' := fun c o e => a c o e (by simp)
theorem Ex.new {ws : List Addr} {H : Hp} {p : Addr} {o : HO} (h : H p = none) : Ex ws H (upd H p o) := fun b u q _ => by rw [upd_ne (ne_of_none q h)]; exact q
theorem Ex.at {ws : List Addr} {H : Hp} {p : Addr} {o : HO} (h : p ∈ ws) : Ex ws H (upd H p o) := fun b u q n => by rw [upd_ne (fun z => n (by rw [z]; exact h))]; exact q
theorem same_new {H : Hp} {p : Addr} {o : HO} (h : H p = none) : Same H (upd H p o) := fun b u q => by rw [upd_ne (ne_of_none q h)]; exact q
theorem Ex.free {ws : List Addr} {H H' : Hp} (a : Ex ws H H') {p : Addr} (h : H' p = none) (n : p ∉ ws) : H p = none := by
  cases q : H p with
  | none => rfl
  | some o =>
    rw [a p o q n] at h
    cases h
theorem Ex.ne {ws : List Addr} {H H' : Hp} (a : Ex ws H H') {p q : Addr} {o : HO} (h : H q = some o) (hq : q ∉ ws) (hp : H' p = none) : q ≠ p := fun z => by
  rw [← z, a q o h hq] at hp
  cases hp
theorem small {n : Nat} (h : n ≤ 100000) : n ≤ sizeLine := Nat.le_trans h (by decide)
theorem smallL {n : Nat} (h : n ≤ 100000) : n < sizeLine := Nat.lt_of_le_of_lt h (by decide)
/-! ### data: None, truths, ints, texts, tuples of these -/
/-- without lists and dicts -/
def flat : PyData → Bool
  | .none => true
  | .bool _ => true
  | .int _ => true
  | .str _ => true
  | .list _ => false
  | .tuple xs => flats xs
  | .dict _ => false
where flats : List PyData → Bool
  | [] => true
  | d :: ds => flat d && flats ds
/-- the tuples that were there are there -/
def Tp (K : PySem.W.Frag) (H H' : Hp) : Prop := ∀ a xs, SqT K H a xs → SqT K H' a xs
theorem Ex.tp {K : PySem.W.Frag} {ws : List Addr} {H H' : Hp} (a : Ex ws H H') (h : ∀ b ∈ ws, ∀ xs, ¬ Rd H b (.tup xs)) : Tp K H H' := fun b xs q => by
  rcases q with (q | ⟨o, q⟩) | q
  · exact .inl (.inl (a b _ q fun m => h b m xs (.inl q)))
  · exact .inl (.inr ⟨o, a b _ q fun m => h b m xs (.inr ⟨o, q⟩)⟩)
  · exact .inr q
theorem Tp.refl (K : PySem.W.Frag) (H : Hp) : Tp K H H := fun _ _ h => h
theorem Tp.trans {K : PySem.W.Frag} {H H1 H2 : Hp} (a : Tp K H H1) (b : Tp K H1 H2) : Tp K H H2 := fun c xs h => b c xs (a c xs h)
theorem Tp.same {K : PySem.W.Frag} {H H' : Hp} (a : Same H H') : Tp K H H' := fun b xs q => by
  rcases q with (q | ⟨o, q⟩) | q
  · exact .inl (.inl (a b _ q))
  · exact .inl (.inr ⟨o, a b _ q⟩)
  · exact .inr q
/-- a list (or dict) that is written -/
theorem Tp.put {K : PySem.W.Frag} {H : Hp} {p : Addr} {o o' : HO} (h : H p = some o) (n1 : ∀ xs, o ≠ .tup xs) (n2 : ∀ u v, o ≠ .frz u v) : Tp K H (upd H p o') := fun b xs q => by
  rcases q with (q | ⟨u, q⟩) | q
  · have nb : b ≠ p := fun z => by
      rw [z, h] at q
      exact n1 xs (Option.some.inj q)
    exact .inl (.inl (by rw [upd_ne nb]; exact q))
  · have nb : b ≠ p := fun z => by
      rw [z, h] at q
      exact n2 _ _ (Option.some.inj q)
    exact .inl (.inr ⟨u, by rw [upd_ne nb]; exact q⟩)
  · exact .inr q
theorem Tp.lst {K : PySem.W.Frag} {H : Hp} {p : Addr} {xs : List V} {o' : HO} (h : H p = some (.lst xs)) : Tp K H (upd H p o') := Tp.put h (fun _ z => nomatch z) (fun _ _ z => nomatch z)
theorem Tp.dct {K : PySem.W.Frag} {H : Hp} {p : Addr} {xs : List (Key × V)} {o' : HO} (h : H p = some (.dK xs)) : Tp K H (upd H p o') := Tp.put h (fun _ z => nomatch z) (fun _ _ z => nomatch z)
theorem Tp.new {K : PySem.W.Frag} {H : Hp} {p : Addr} {o : HO} (h : H p = none) : Tp K H (upd H p o) := Tp.same (same_new h)
mutual
theorem dp_keep {K : PySem.W.Frag} {H H' : Hp} (t : Tp K H H') : ∀ (d : PyData) (v : V), flat d = true → Dp K H v d → Dp K H' v d
  | .none, _, _, h => by cases h; exact .non
  | .bool b, _, _, h => by cases h; exact .bl b
  | .int i, _, _, h => by cases h; exact .int i
  | .str x, _, _, h => by cases h; exact .str x
  | .list ds, _, f, _ => by simp [flat] at f
  | .tuple ds, _, f, h => by
    cases h with
    | tup q r => exact .tup (t _ _ q) (dps_keep t ds _ f r)
  | .dict ds, _, f, _ => by simp [flat] at f
theorem dps_keep {K : PySem.W.Frag} {H H' : Hp} (t : Tp K H H') : ∀ (ds : List PyData) (vs : List V), flat.flats ds = true → DpAll K H vs ds → DpAll K H' vs ds
  | [], _, _, h => by cases h; exact .nil
  | d :: ds, _, f, h => by
    rw [flat.flats, Bool.and_eq_true] at f
    cases h with
    | cons a b => exact .cons (dp_keep t d _ f.1 a) (dps_keep t ds _ f.2 b)
end
/-- flat data at v -/
def Fd (K : PySem.W.Frag) (H : Hp) (v : V) (d : PyData) : Prop := flat d = true ∧ Dp K H v d
theorem Fd.keep {K : PySem.W.Frag} {H H' : Hp} {v : V} {d : PyData} (h : Fd K H v d) (t : Tp K H H') : Fd K H' v d := ⟨h.1, dp_keep t d v h.1 h.2⟩
/-! ### rules within a comprehension: the written part by its name -/
section
variable {X : Cx} {K : PySem.W.Frag}
theorem ix_tupK (h : X.K = K) : IxR X (rIxT K) := h ▸ ix_tup
theorem ix_listK (h : X.K = K) : IxR X (rIxL K) := h ▸ ix_list
def rLenK (K : PySem.W.Frag) : List V → Hp → VK → Prop := fun xs H Q => ∃ p ys, xs = [.ref p] ∧ (SqL K H p ys ∨ SqT K H p ys) ∧ Q (.int ys.length) H
theorem call_len_seqK (h : X.K = K) : CallR X (.builtin "len") (rLenK K) := h ▸ call_len_seq
theorem pe_bm0K {T : String} {name : Str} {id : String} {r : V → List V → Hp → VK → Prop} {o : Expr} {to : TE} {apos cpos : Pos} (h : X.K = K) (pa : PlainAttrs T) (slot : Slot T name id) (hty : typeOf (.builtin id) = pure (.type "method_descriptor")) (hm : MtR X id r) (ho : PE X o to)
    (hbase : attributeBase o name X.env (eval o X.env) = eval o X.env := by rfl) (hline : (apos.endLine == cpos.line) = true := by rfl) : PE X (.Call (.Attribute o name apos) [] [] cpos) (tBM0 K T r to) := h ▸ pe_bm0 pa slot hty hm ho hbase hline
end
end Lm

set_option Elab.async false
set_option linter.all false
set_option maxRecDepth 100000
set_option maxHeartbeats 2000000
namespace Lm
open PySem PySem.Spec PyProof.Rows L2 LmR
/-! ### programs -/
inductive Bw where
  | least
  | most
  | atmost
  | both
  | either
def Bw.str : Bw → Str
  | .least => "least"
  | .most => "most"
  | .atmost => "atmost"
  | .both => "both"
  | .either => "either"
/-- the kind due to its parts; its own (true: truth) -/
def Bw.arg : Bw → Bool
  | .least => false
  | .most => false
  | .atmost => false
  | .both => true
  | .either => true
def Bw.own : Bw → Bool
  | .least => false
  | .most => false
  | .atmost => true
  | .both => true
  | .either => true
inductive Pg where
  | inp (k : Nat)
  | num (c : Int)
  | tr (b : Bool)
  | plus (c : Int) (a : Pg)
  | bin (w : Bw) (a b : Pg)
  | neg (a : Pg)
  | ite (p a b : Pg)
def trS : Bool → Str
  | true => "yes"
  | false => "no"
def kS : Bool → Str
  | true => "truth"
  | false => "num"
def word : Pg → Str
  | .inp _ => "in"
  | .num _ => "num"
  | .tr b => trS b
  | .plus _ _ => "plus"
  | .bin w _ _ => w.str
  | .neg _ => "not"
  | .ite _ _ _ => "if"
def enc : Pg → PyData
  | .inp k => .tuple [.str "in", .int k]
  | .num c => .tuple [.str "num", .int c]
  | .tr b => .tuple [.str (trS b)]
  | .plus c a => .tuple [.str "plus", .int c, enc a]
  | .bin w a b => .tuple [.str w.str, enc a, enc b]
  | .neg a => .tuple [.str "not", enc a]
  | .ite p a b => .tuple [.str "if", enc p, enc a, enc b]
theorem flat_enc : ∀ p : Pg, flat (enc p) = true
  | .inp _ => rfl
  | .num _ => rfl
  | .tr _ => rfl
  | .plus c a => by simp [enc, flat, flat.flats, flat_enc a]
  | .bin w a b => by simp [enc, flat, flat.flats, flat_enc a, flat_enc b]
  | .neg a => by simp [enc, flat, flat.flats, flat_enc a]
  | .ite p a b => by simp [enc, flat, flat.flats, flat_enc a, flat_enc b, flat_enc p]
/-- its kind by itself -/
def own (ks : List Bool) : Pg → Bool
  | .inp k => ks.getD k false
  | .num _ => false
  | .tr _ => true
  | .plus _ _ => false
  | .bin w _ _ => w.own
  | .neg _ => true
  | .ite _ a _ => own ks a
/-- it is let by -/
def Wk (ks : List Bool) : Pg → Prop
  | .inp k => k < ks.length
  | .num _ => True
  | .tr _ => True
  | .plus _ a => Wk ks a ∧ own ks a = false
  | .bin w a b => Wk ks a ∧ Wk ks b ∧ own ks a = w.arg ∧ own ks b = w.arg
  | .neg a => Wk ks a ∧ own ks a = true
  | .ite p a b => Wk ks p ∧ Wk ks a ∧ Wk ks b ∧ own ks p = true ∧ own ks b = own ks a
def parts : Pg → List Pg
  | .inp _ => []
  | .num _ => []
  | .tr _ => []
  | .plus _ a => [a]
  | .bin _ a b => [a, b]
  | .neg a => [a]
  | .ite p a b => [p, a, b]
def psz : Pg → Nat
  | .inp _ => 1
  | .num _ => 1
  | .tr _ => 1
  | .plus _ a => psz a + 1
  | .bin _ a b => psz a + psz b + 1
  | .neg a => psz a + 1
  | .ite p a b => psz p + psz a + psz b + 1
def dep : Pg → Nat
  | .inp _ => 1
  | .num _ => 1
  | .tr _ => 1
  | .plus _ a => dep a + 1
  | .bin _ a b => max (dep a) (dep b) + 1
  | .neg a => dep a + 1
  | .ite p a b => max (dep p) (max (dep a) (dep b)) + 1
def kn : Pg → List Pg
  | .inp k => [.inp k]
  | .num c => [.num c]
  | .tr b => [.tr b]
  | .plus c a => .plus c a :: kn a
  | .bin w a b => .bin w a b :: (kn a ++ kn b)
  | .neg a => .neg a :: kn a
  | .ite p a b => .ite p a b :: (kn p ++ (kn a ++ kn b))
theorem kn_len : ∀ p : Pg, (kn p).length = psz p
  | .inp _ => rfl
  | .num _ => rfl
  | .tr _ => rfl
  | .plus c a => by simp [kn, psz, kn_len a]
  | .bin w a b => by simp [kn, psz, kn_len a, kn_len b]
  | .neg a => by simp [kn, psz, kn_len a]
  | .ite p a b => by simp [kn, psz, kn_len a, kn_len b, kn_len p]; omega
theorem psz_pos (p : Pg) : 1 ≤ psz p := by cases p <;> simp [psz]
theorem dep_pos (p : Pg) : 1 ≤ dep p := by cases p <;> simp [dep]
theorem dep_le : ∀ p : Pg, dep p ≤ psz p
  | .inp _ => Nat.le_refl _
  | .num _ => Nat.le_refl _
  | .tr _ => Nat.le_refl _
  | .plus c a => by have := dep_le a; simp only [dep, psz]; omega
  | .bin w a b => by have := dep_le a; have := dep_le b; simp only [dep, psz]; omega
  | .neg a => by have := dep_le a; simp only [dep, psz]; omega
  | .ite p a b => by have := dep_le a; have := dep_le b; have := dep_le p; simp only [dep, psz]; omega
theorem kn_eq (p : Pg) : kn p = p :: (parts p).flatMap kn := by cases p <;> simp [kn, parts]
theorem psz_eq (p : Pg) : psz p = 1 + ((parts p).map psz).sum := by cases p <;> simp [psz, parts] <;> omega
/-- the things behind its word, as they stand in the tuple -/
def front : Pg → List V
  | .inp k => [.str "in", .int k]
  | .num c => [.str "num", .int c]
  | .tr b => [.str (trS b)]
  | .plus c _ => [.str "plus", .int c]
  | .bin w _ _ => [.str w.str]
  | .neg _ => [.str "not"]
  | .ite _ _ _ => [.str "if"]
/-- the program p stands at v -/
def At (K : PySem.W.Frag) (H : Hp) (v : V) (p : Pg) : Prop := Dp K H v (enc p)
def Ats (K : PySem.W.Frag) (H : Hp) (vs : List V) (ps : List Pg) : Prop := DpAll K H vs (ps.map enc)
theorem At.fd {K : PySem.W.Frag} {H : Hp} {v : V} {p : Pg} (h : At K H v p) : Fd K H v (enc p) := ⟨flat_enc p, h⟩
theorem At.keep {K : PySem.W.Frag} {H H' : Hp} {v : V} {p : Pg} (h : At K H v p) (t : Tp K H H') : At K H' v p := dp_keep t _ _ (flat_enc p) h
theorem flats_encs : ∀ ps : List Pg, flat.flats (ps.map enc) = true
  | [] => rfl
  | p :: ps => by simp [flat.flats, flat_enc p, flats_encs ps]
theorem Ats.keep {K : PySem.W.Frag} {H H' : Hp} {vs : List V} {ps : List Pg} (h : Ats K H vs ps) (t : Tp K H H') : Ats K H' vs ps := dps_keep t _ _ (flats_encs ps) h
theorem Ats.nil {K : PySem.W.Frag} {H : Hp} : Ats K H [] [] := DpAll.nil
theorem Ats.cons {K : PySem.W.Frag} {H : Hp} {v : V} {vs : List V} {p : Pg} {ps : List Pg} (h : At K H v p) (t : Ats K H vs ps) : Ats K H (v :: vs) (p :: ps) := DpAll.cons h t
theorem Ats.app {K : PySem.W.Frag} {H : Hp} : ∀ {vs us : List V} {ps qs : List Pg}, Ats K H vs ps → Ats K H us qs → Ats K H (vs ++ us) (ps ++ qs)
  | [], _, [], _, _, b => b
  | v :: vs, _, p :: ps, _, a, b => by
    cases a with
    | cons h t => exact Ats.cons h (Ats.app (vs := vs) (ps := ps) t b)
  | [], _, p :: ps, _, a, _ => by cases a
  | v :: vs, _, [], _, a, _ => by cases a
theorem Ats.len {K : PySem.W.Frag} {H : Hp} : ∀ {vs : List V} {ps : List Pg}, Ats K H vs ps → vs.length = ps.length
  | [], [], _ => rfl
  | v :: vs, p :: ps, a => by
    cases a with
    | cons h t => rw [List.length_cons, List.length_cons, Ats.len (vs := vs) (ps := ps) t]
  | [], p :: ps, a => by cases a
  | v :: vs, [], a => by cases a
theorem Ats.get {K : PySem.W.Frag} {H : Hp} : ∀ {vs : List V} {ps : List Pg}, Ats K H vs ps → ∀ (j : Nat) (v : V), vs[j]? = some v → ∃ p, ps[j]? = some p ∧ At K H v p
  | [], [], _, j, v, h => by simp at h
  | u :: vs, p :: ps, a, 0, v, h => by
    cases a with
    | cons x t =>
      have e := Option.some.inj h
      subst e
      exact ⟨p, rfl, x⟩
  | u :: vs, p :: ps, a, j + 1, v, h => by
    cases a with
    | cons x t => exact Ats.get (vs := vs) (ps := ps) t j v h
  | [], p :: ps, a, _, _, _ => by cases a
  | v :: vs, [], a, _, _, _ => by cases a
/-- the tuple that it is -/
theorem At.open {K : PySem.W.Frag} {H : Hp} {v : V} {p : Pg} (h : At K H v p) : ∃ (a : Addr) (vs : List V), v = .ref a ∧ SqT K H a (front p ++ vs) ∧ Ats K H vs (parts p) := by
  cases p with
  | inp k =>
    cases h with
    | tup q r =>
      cases r with
      | cons r1 r =>
        cases r with
        | cons r2 r =>
          cases r
          cases r1
          cases r2
          exact ⟨_, [], rfl, q, .nil⟩
  | num c =>
    cases h with
    | tup q r =>
      cases r with
      | cons r1 r =>
        cases r with
        | cons r2 r =>
          cases r
          cases r1
          cases r2
          exact ⟨_, [], rfl, q, .nil⟩
  | tr b =>
    cases h with
    | tup q r =>
      cases r with
      | cons r1 r =>
        cases r
        cases r1
        exact ⟨_, [], rfl, q, .nil⟩
  | plus c a =>
    cases h with
    | tup q r =>
      cases r with
      | cons r1 r =>
        cases r with
        | cons r2 r =>
          cases r1
          cases r2
          exact ⟨_, _, rfl, q, r⟩
  | bin w a b =>
    cases h with
    | tup q r =>
      cases r with
      | cons r1 r =>
        cases r1
        exact ⟨_, _, rfl, q, r⟩
  | neg a =>
    cases h with
    | tup q r =>
      cases r with
      | cons r1 r =>
        cases r1
        exact ⟨_, _, rfl, q, r⟩
  | ite p a b =>
    cases h with
    | tup q r =>
      cases r with
      | cons r1 r =>
        cases r1
        exact ⟨_, _, rfl, q, r⟩
theorem Ats.one {K : PySem.W.Frag} {H : Hp} {vs : List V} {p : Pg} (h : Ats K H vs [p]) : ∃ v, vs = [v] ∧ At K H v p := by
  cases h with
  | cons a r =>
    cases r
    exact ⟨_, rfl, a⟩
theorem Ats.two {K : PySem.W.Frag} {H : Hp} {vs : List V} {p q : Pg} (h : Ats K H vs [p, q]) : ∃ u v, vs = [u, v] ∧ At K H u p ∧ At K H v q := by
  cases h with
  | cons a r =>
    cases r with
    | cons b r =>
      cases r
      exact ⟨_, _, rfl, a, b⟩
theorem Ats.three {K : PySem.W.Frag} {H : Hp} {vs : List V} {p q r : Pg} (h : Ats K H vs [p, q, r]) : ∃ u v w, vs = [u, v, w] ∧ At K H u p ∧ At K H v q ∧ At K H w r := by
  cases h with
  | cons a t =>
    cases t with
    | cons b t =>
      cases t with
      | cons c t =>
        cases t
        exact ⟨_, _, _, rfl, a, b, c⟩
/-! ### sums of sizes -/
theorem kn_le : ∀ (p q : Pg), q ∈ kn p → psz q ≤ psz p
  | .inp _, q, h => by simp [kn] at h; rw [h]; exact Nat.le_refl _
  | .num _, q, h => by simp [kn] at h; rw [h]; exact Nat.le_refl _
  | .tr _, q, h => by simp [kn] at h; rw [h]; exact Nat.le_refl _
  | .plus c a, q, h => by
    simp only [kn, List.mem_cons] at h
    rcases h with h | h
    · rw [h]; exact Nat.le_refl _
    · have := kn_le a q h; simp only [psz]; omega
  | .bin w a b, q, h => by
    simp only [kn, List.mem_cons, List.mem_append] at h
    rcases h with h | h | h
    · rw [h]; exact Nat.le_refl _
    · have := kn_le a q h; simp only [psz]; omega
    · have := kn_le b q h; simp only [psz]; omega
  | .neg a, q, h => by
    simp only [kn, List.mem_cons] at h
    rcases h with h | h
    · rw [h]; exact Nat.le_refl _
    · have := kn_le a q h; simp only [psz]; omega
  | .ite p a b, q, h => by
    simp only [kn, List.mem_cons, List.mem_append] at h
    rcases h with h | h | h | h
    · rw [h]; exact Nat.le_refl _
    · have := kn_le p q h; simp only [psz]; omega
    · have := kn_le a q h; simp only [psz]; omega
    · have := kn_le b q h; simp only [psz]; omega
theorem kn_wk (ks : List Bool) : ∀ (p q : Pg), Wk ks p → q ∈ kn p → Wk ks q
  | .inp _, q, w, h => by simp [kn] at h; rw [h]; exact w
  | .num _, q, w, h => by simp [kn] at h; rw [h]; exact w
  | .tr _, q, w, h => by simp [kn] at h; rw [h]; exact w
  | .plus c a, q, w, h => by
    simp only [kn, List.mem_cons] at h
    rcases h with h | h
    · rw [h]; exact w
    · exact kn_wk ks a q w.1 h
  | .bin _ a b, q, w, h => by
    simp only [kn, List.mem_cons, List.mem_append] at h
    rcases h with h | h | h
    · rw [h]; exact w
    · exact kn_wk ks a q w.1 h
    · exact kn_wk ks b q w.2.1 h
  | .neg a, q, w, h => by
    simp only [kn, List.mem_cons] at h
    rcases h with h | h
    · rw [h]; exact w
    · exact kn_wk ks a q w.1 h
  | .ite p a b, q, w, h => by
    simp only [kn, List.mem_cons, List.mem_append] at h
    rcases h with h | h | h | h
    · rw [h]; exact w
    · exact kn_wk ks p q w.1 h
    · exact kn_wk ks a q w.2.1 h
    · exact kn_wk ks b q w.2.2.1 h
end Lm

set_option Elab.async false
set_option linter.all false
set_option maxRecDepth 100000
set_option maxHeartbeats 2000000
namespace Lm
open PySem PySem.Spec PyProof.Rows L2 LmR
/-! ### a def called within an except suite, handed the exception -/
structure FnP (P : Program) (w : World) (K : PySem.W.Frag) (mg : Str → Option Value) (base : Heap) (p : Addr × Obj) (k : Nat) (f : Addr) (fd : FuncData) (ps : List Str) (sp : Sp) : Prop where
  len : ∀ vs H Q E, sp vs H Q E → vs.length = ps.length
  run : ∀ (A : Around) (outer : List Env) (s : Shared) (H : Hp) (args : Args) (us : List Value) (vs : List V) (Q : VK) (E : XK), L2H.RoomH k A → L2H.PinOk outer H s p → Env0 P w K mg base A outer s H → BindsTo s fd args (ps.zip us) → Vals vs us → sp vs H Q E →
    codeAny (model P w) A (.call (.ref f) args) (CR CX0 outer P w H s Q E) s
theorem fn_ofP {P : Program} {w : World} {K : PySem.W.Frag} {mg : Str → Option Value} {base : Heap} {k : Nat} {x : Str} {st : Stmt} {f : Addr} {fd : FuncData} {N ps : List Str} {sp : Sp} {p : Addr × Obj} (F : Fun K x x st f fd) (S : FnScope N ps (defScope st))
    (len : ∀ vs H Q E, sp vs H Q E → vs.length = ps.length)
    (hbody : ∀ (cdv : Value) (A : Around) (outer : List Env) (s : Shared) (H : Hp) (vs : List V) (Q : VK) (E : XK), L2H.RoomH k (A.deeper (envOfC x (defScope st) s.heap.objs.size f cdv)) → sp vs H Q E →
      ∃ t, PSs (L2H.cxH CX0 P w K mg base N x (defScope st) f cdv A outer s H E p) (defBody st) t ∧ t { nx := fun _ H' => Q .non H', rt := Q } (L2.start N vs) H) : FnP P w K mg base p (k + 1) f fd ps sp := by
  obtain ⟨oc, od, kV, doc, pm, an, cdv, ct, osl, rfl, lk, hcd⟩ := F.ex
  refine ⟨len, fun A outer s H args us vs Q E hr hpin e0 hb r hsp => ?_⟩
  have hl := len _ _ _ _ hsp
  have KX : K.In s.heap := e0.mod.kin.keeps fun b o e => (e0.bs b o e).1
  have lim : s.heap.NoLimit := e0.mod.nolimit.keeps fun b o e => (e0.bs b o e).1
  have hkind : ∀ y ∈ ps.zip us, (defScope st).names.lookup y.1 = some .local ∨ ((defScope st).names.lookup y.1 = some .cell ∧ ((cellsFrom (s.heap.objs.size + 1) (defScope st).names []).lookup y.1).isSome = true) := fun ⟨n, v⟩ hy => by
    rcases S.par n (List.of_mem_zip hy).1 with q | q
    · exact .inl q
    · exact .inr ⟨q, PySem.W.cellsFrom_some _ _ _ (.inl q)⟩
  refine codeAny_call_function hr.depth (KX _ _ lk) rfl S.co S.gen rfl (PySem.W.codeRec_of KX hcd) (hb _ _ _ _ ?_)
  refine wpAny_newFunctionEnv_cells S.kind hkind fun env he s1 y => ?_
  subst he
  refine ⟨lim.keeps y.toInCall.keep, codeAny_func ?_⟩
  obtain ⟨t, ht, hq⟩ := hbody cdv A outer s H vs Q E (hr.deeper _) hsp
  have I : Inv (L2H.cxH CX0 P w K mg base N x (defScope st) f cdv A outer s H E p) [] (L2.start N vs) H s1 := L2H.inv_startH S hpin e0 hl r y
  refine wpAny_mono (ht.run [] s1 (L2.start N vs) H _ I hq) (fun fl s' hs => ?_) fun e s' hs => hs
  have fin : ∀ {σ' : L2.St} {H' : Hp} {v : V} {u : Value}, Inv (L2H.cxH CX0 P w K mg base N x (defScope st) f cdv A outer s H E p) [] σ' H' s' → RelV v u → Q v H' → CE outer P w H s Q u s' :=
    fun {σ' H' v u} J rv q => ⟨v, H', J.os, J.bare, J.base, J.hok, rv, q⟩
  cases fl with
  | ret u =>
    obtain ⟨v, σ', H', J, rv, q⟩ := hs
    exact fin J rv q
  | next =>
    obtain ⟨σ', H', J, q⟩ := hs
    exact fin (v := V.non) (u := Value.none) J rfl q
  | brk =>
    obtain ⟨_, _, _, q⟩ := hs
    exact False.elim q
  | cont =>
    obtain ⟨_, _, _, q⟩ := hs
    exact False.elim q
theorem pe_callP {X : Cx} {k : Nat} {f : Addr} {fd : FuncData} {ps : List Str} {sp : Sp} {x : Str} {q pos : Pos} {e : Expr} {es : List Expr} {t : TA} {p : Addr × Obj} (F : FnP X.prog X.w X.K X.mg X.base p k f fd ps sp) (hr : L2H.RoomH k X.A) (hp : p ∈ X.pn) (hg : Gl X x) (hm : X.mg x = some (.ref f)) (hk : PySem.W.keepIn X.K (.ref f) = true) (hb : Binds X.K fd ps [])
    (ha : PA X (e :: es) t) (hdb : (x == ("__debug__" : Str)) = false := by decide) (he : starEach (e :: es) X.env = (false, eval e X.env) :: starEach es X.env := by rfl) (hpl : (backTo pos (starEach es X.env)).any (·.1) = false := by rfl) :
    PE X (.Call (.Name x q) (e :: es) [] pos) (tCall sp [] (fun _ _ _ => False) t) := by
  refine ⟨fun pins s σ H Q I h => ?_⟩
  refine wpAny_Call_Name_kw (ld_glob I hg hm ?_ hdb)
  refine PySem.W.callWith_K (h₀ := X.base) I.ok.mod.kin hk (thn (ha.run pos pins s σ H _ I h) fun us s1 ⟨vs, H1, I1, r, q⟩ => ⟨I1.kIn, ?_⟩) he hpl
  have q : sp vs H1 Q (fun _ _ _ => False) := by
    have z : sp (vs ++ []) H1 Q (fun _ _ _ => False) := q
    rw [List.append_nil] at z
    exact z
  have hl : us.length = ps.length := by rw [← r.length]; exact F.len _ _ _ _ q
  have b := hb s1 us I1.kIn (by rw [List.append_nil]; exact hl)
  rw [List.append_nil] at b
  have P1 := I1.pin p (List.mem_append_left _ hp)
  have hpin : L2H.PinOk X.stack H1 s1 p := ⟨P1.1, P1.2.1, fun hm => (List.mem_cons.mp (I1.stkSub p.1 hm)).elim P1.2.2.1 P1.2.2.2.1, P1.2.2.2.2⟩
  refine wpAny_call (codeAny_mono (F.run X.A X.stack s1 H1 ⟨us, []⟩ us vs Q (fun _ _ _ => False) hr hpin I1.env0 b r q) fun r s' hq => ?_)
  cases r with
  | error e => exact hq.elim
  | ok fl =>
    cases fl with
    | ret u => exact I1.after hq
    | next => exact False.elim hq
    | brk => exact False.elim hq
    | cont => exact False.elim hq
/-! ### isinstance of an exception that is pinned -/
structure ExK (K : PySem.W.Frag) (C : Addr) : Prop where
  cl : (PySem.W.clsIn K C).isSome = true
  ga : PySem.W.findIn K (.ref C) "__getattribute__" = some (some (.builtin "BaseException.__getattribute__"))
  gg : PySem.W.findIn K (.ref C) "__getattr__" = some none
  ex : PySem.W.subIn K (.ref C) (.type "BaseException") = some true
  ca : PySem.W.findIn K (.ref C) "__class__" = some (some (.builtin "object.__class__"))
  gn : PySem.W.specialIn K (.builtin "object.__class__") "__get__" = some (some (.builtin "getset_descriptor.__get__"))
  tk : PySem.W.takesIn K (.builtin "object.__class__") = some true
  ob : PySem.W.mroIn K C (.type "object") = some true
/-- isinstance(e, c), e the exception at a of the class at C -/
def rIsP (K : PySem.W.Frag) (C a : Addr) : List V → Hp → VK → Prop := fun xs H Q => ∃ (D : Addr) (b : Bool), xs = [.ref a, .ref D] ∧ PySem.W.kitOne K (.ref C) (.ref D) = some b ∧ Q (.bl b) H
theorem call_isP {X : Cx} {a C : Addr} {oe : Obj} {dct : Option Addr} (k : ExK X.K C) (hz : Zc (.ref C) dct oe) (hf : ∃ vs, oe.data = .fields vs) (hp : (a, oe) ∈ X.pn) (hd : ∀ pins σ H s, Inv X pins σ H s → ∃ od : Option Obj, PySem.W.InstAt s.heap a oe C od) : CallR X (.builtin "isinstance") (rIsP X.K C a) := by
  intro pins s σ H xs us Q I r h
  obtain ⟨D, b, rfl, e, q⟩ := h
  obtain ⟨u1, u2, rfl, r1, r2⟩ := vals2 r
  cases (show u1 = Value.ref a from r1)
  cases (show u2 = Value.ref D from r2)
  obtain ⟨od, J⟩ := hd pins σ H s I
  exact PySem.W.kia_one (PySem.W.kitx_exc k.cl k.ga k.gg k.ex k.ca k.gn k.tk k.ob) I.kIn J e (fun z => nomatch z) fun tk => ⟨.bl b, H, I.tok tk, rfl, q⟩
/-! ### xs.count(True) of truths -/
theorem mt_countB {X : Cx} : MtR X "list.count" (fun x xs H Q => ∃ (p : Addr) (bs : List Bool), x = .ref p ∧ xs = [.bl true] ∧ SqL X.K H p (bs.map V.bl) ∧ Q (.int (bs.count true : Nat)) H) := by
  intro pins s σ H x xs v us Q I rx rxs h
  obtain ⟨p, bs, rfl, rfl, hs, q⟩ := h
  cases rx
  obtain ⟨u, rfl, ru⟩ := rxs.one
  cases (show u = Value.bool true from ru)
  obtain ⟨its, rv, ⟨⟨cls, dd, data, sl⟩, n, ho, hc, hdn, hd⟩, hlen⟩ := I.list hs
  simp only at hc hd
  subst hc hd
  have key : ∀ (bs : List Bool) (its : List Value), Vals (bs.map V.bl) its → its = bs.map Value.bool := by
    intro bs
    induction bs with
    | nil => intro its r; cases r; rfl
    | cons b bs ih =>
      intro its r
      cases r with
      | cons a r =>
        rename_i u us'
        rw [List.map_cons, ih us' r]
        congr 1
  have ei := key bs its rv
  subst ei
  let g : Value → Bool := fun y => y == .bool true
  refine call_meets PySem.F.slot_list_count ⟨_, ho, rfl⟩ PySem.F.entry_list_count (PySem.F.args_list_count_2 _ _)
    (SeqAt.list_countAt p (bs.map Value.bool).toArray n dd sl (.bool true) g) ⟨ho, fun y hy => ?_, ?_⟩
  · have hy' : y ∈ bs.map Value.bool := by simpa using hy
    obtain ⟨b, _, rfl⟩ := List.mem_map.mp hy'
    have eg : g (.bool b) = eqV (.bl b) (.bl true) := by cases b <;> rfl
    rw [eg]
    exact eqAt_V (y := .bl b) (x := .bl true) rfl rfl rfl rfl
  · have ec : ((bs.map Value.bool).toArray.toList.countP g) = bs.count true := by
      show (bs.map Value.bool).countP g = _
      rw [List.countP_map]
      unfold List.count
      congr 1
      funext b
      cases b <;> rfl
    refine ⟨.int (bs.count true : Nat), H, I.tok _, ⟨s.toks, ?_⟩, q⟩
    show Value.int (((bs.map Value.bool).toArray.toList.countP g : Nat) : Int) s.toks = Value.int ((bs.count true : Nat) : Int) s.toks
    rw [ec]
end Lm

set_option Elab.async false
set_option linter.all false
set_option maxRecDepth 100000
set_option maxHeartbeats 2000000
namespace Lm
open PySem PySem.Spec PyProof.Rows L2 LmR
abbrev oEnum (a : Addr) : Obj := { cls := .type "enumerate", data := .fields #[.none, .bool false, .ref a, rawInt 0, .none, .none] }
/-- enumerate(v): two new cells -/
theorem enum_new1 {v : Value} {o : Obj} {G : Heap → Prop} (B : Begins v o G) :
    Meets (Builtin.«enumerate.__new__» ⟨[.type "enumerate", v], []⟩) (fun _ R s => G s.heap ∧ R (.ok (.ret (.ref (s.heap.push o).objs.size))) { s with heap := (s.heap.push o).push (oEnum s.heap.objs.size) }) :=
  .of_wp fun prog w A R s hh => by
    obtain ⟨hp, g, d, tk, os⟩ := s
    obtain ⟨hG, hR⟩ := hh
    have hsub := sub_enumerate
    have go : ∀ {A' : Around} {E : Value → Shared → Prop} {Q : Value → Shared → Prop}, Q (.ref hp.objs.size) ⟨hp.push o, g, d, tk, os⟩ → wpAny (model prog w) A' (pyIter v) Q E ⟨hp, g, d, tk, os⟩ :=
      fun q => B.iter prog w _ _ _ _ hG q
    wp_walk using go
    refine wpAny_stack_any fun st => wpAny_pure ?_
    split
    · rename_i c _ _ _ _ _
      cases (c == Value.type "enumerate") <;> (wp_walk using go; exact ⟨_, rfl, hR⟩)
    · wp_walk using go
      exact ⟨_, rfl, hR⟩
theorem enum_call1 {prog : Program} {w : World} {A : Around} {E : Value → Shared → Prop} {s : Shared} {v : Value} {o : Obj} {G : Heap → Prop} {Q : Value → Shared → Prop} (B : Begins v o G) (hG : G s.heap)
    (hQ : ∀ h2, IsEnum h2 (s.heap.objs.size + 1) s.heap.objs.size 0 .none → h2.get? s.heap.objs.size = some o → (∀ b ob, s.heap.get? b = some ob → h2.get? b = some ob) → Q (.ref (s.heap.objs.size + 1)) { s with heap := h2 }) :
    wpAny (model prog w) A (call (.type "enumerate") [v]) Q E s := by
  refine callType_new F.called_enumerate (by decide) (F.typeCall_enumerate_1 _) (F.newCall_enumerate_1 _) (fun obj => F.args_object_init_2 obj _) F.entry_enumerate_new (enum_new1 B) ⟨hG, ?_⟩
  have z : (s.heap.push o).objs.size = s.heap.objs.size + 1 := Heap.size_push ..
  show _ ∧ _
  rw [z]
  have he : IsEnum ((s.heap.push o).push (oEnum s.heap.objs.size)) (s.heap.objs.size + 1) s.heap.objs.size 0 .none := by
    have y := Heap.get?_push_size (s.heap.push o) (o := oEnum s.heap.objs.size) rfl
    rw [z] at y
    exact y
  exact ⟨⟨_, he, rfl⟩, hQ _ he (Heap.get?_push_of_some _ (Heap.get?_push_size _ B.free)) fun b ob x => Heap.get?_push_of_some _ (Heap.get?_push_of_some _ x)⟩
theorem enum_over {prog : Program} {w : World} {A : Around} {E : Value → Shared → Prop} {s : Shared} {e it a : Addr} {i : Nat} {items : Array Value} {c : Int} {old : Value} {Q : Option Value → Shared → Prop} (hd : A.handled = none)
    (he : IsEnum s.heap e it c old) (hit : s.heap.IsTupleIter it a i) (ht : s.heap.IsTuple a items) (hx : items[i]? = none) (hQ : ∀ h2, Heap.ExtBut it s.heap h2 → Q none { s with heap := h2 }) : wpAny (model prog w) A (pyNext (.ref e)) Q E s := by
  have D : Draws prog w A.in1 it [it, a] i (fun _ _ => True) (fun j h => j = i ∧ h.IsTupleIter it a i ∧ h.IsTuple a items) :=
    { live := fun _ _ st => by obtain ⟨_, ⟨o, ho, _⟩, _⟩ := st; exact ⟨o, ho⟩
      frame := fun _ _ _ st hk => ⟨st.1, st.2.1.at fun o q => hk it (by simp) o q, st.2.2.at fun o q => hk a (by simp) o q⟩
      item := fun j s Q E hj st _ => absurd st.1 (Nat.ne_of_lt hj)
      done := fun s Q E st hE => wpAny_nextOf_tuple_end (by first | exact hd | (show A.in1.handled = none; exact hd)) st.2.1 st.2.2 hx hE }
  exact wpAny_pyNext_enum_endD D he ⟨rfl, hit, ht⟩ hQ
/-- the tuple at a: each item, its number ahead of it, in a new pair -/
def IteT (K : PySem.W.Frag) (a : Addr) : It :=
  ⟨fun i H => ∃ (xs : List V) (x : V), SqT K H a xs ∧ xs[i]? = some x,
    fun i H v H' => ∃ T x, v = .ref T ∧ H T = none ∧ H' = upd H T (.tup [.int (i : Nat), x]) ∧ ∀ xs, SqT K H a xs → xs[i]? = some x,
    fun i H => ∃ xs : List V, SqT K H a xs ∧ xs.length ≤ i⟩
theorem turn_enumT {P : Program} {w : World} {K : PySem.W.Frag} {elts : List Expr} {kk : Nat} {tpos : Pos} (a e it : Addr) :
    Turn P w K (.Tuple elts kk tpos) (IteT K a) [e, it] e (fun i h => (∃ old, IsEnum h e it ((i : Nat) : Int) old) ∧ h.IsTupleIter it a i ∧ e ≠ it ∧ a ≠ e ∧ a ≠ it) where
  mem := by simp
  obj := fun i h st b hb => by
    obtain ⟨⟨old, he⟩, ⟨o, ho, hc, hd⟩, _⟩ := st
    have e' : b = e ∨ b = it := by simpa using hb
    rcases e' with z | z
    · rw [z]; exact ⟨_, he, fun v q => nomatch q⟩
    · rw [z]; exact ⟨o, ho, fun v q => by rw [hd] at q; cases q⟩
  keep := fun i h h' st k => by
    obtain ⟨⟨old, he⟩, hi, r⟩ := st
    exact ⟨⟨old, k e (by simp) _ he⟩, hi.at fun o q => k it (by simp) o q, r⟩
  item := by
    intro X hP hw hK hc i pins s σ H E I hf st hg
    subst hP hw hK
    obtain ⟨⟨old, he⟩, hit, hne, hae, hai⟩ := st
    obtain ⟨xs, x, hq, hx⟩ := hg
    obtain ⟨its, rv, p, hz⟩ := I.tuple hq
    obtain ⟨u, hu, ru⟩ := rv.get hx
    have ht : s.heap.IsTuple a its.toArray := p
    have hel : e < s.heap.objs.size := Heap.lt_size he
    have hil : it < s.heap.objs.size := by obtain ⟨_, q, _⟩ := hit; exact Heap.lt_size q
    have D := Draws.tuple (prog := X.prog) (w := X.w) (A := X.A.in1) (I.ok.hd hc) it a hai its.toArray
    have hlt : i < its.toArray.size := by
      have z : i < its.length := (List.getElem?_eq_some_iff.mp hu).1
      simpa using z
    refine wpAny_pyNext_enum_itemD D he ⟨hit, ht⟩ hlt hne (by simp [hne, Ne.symm hae]) fun y h' tk hy ho hst hT hsz hk => ?_
    have ey : y = u := by
      have z : its[i]? = some y := by simpa using hy
      rw [hu] at z
      exact (Option.some.inj z).symm
    subst ey
    refine ⟨_, rfl, wpAny_letOwnedTupleGo_enum (s := { s with heap := h', toks := tk + 1 }) ho fun h'' he' sb => ?_⟩
    have hT2 : h''.get? s.heap.objs.size = some { cls := .type "tuple", data := .seq #[.int i tk, y] } := (sb.2 _ (Nat.ne_of_gt hel)).trans hT
    have new : ObjOk X.prog X.w (upd H s.heap.objs.size (.tup [.int (i : Nat), x])) h'' s.heap.objs.size (.tup [.int (i : Nat), x]) :=
      ⟨by show 2 ≤ sizeLine; decide, [.int i tk, y], .cons ⟨_, rfl⟩ (.cons ru .nil), ⟨_, hT2, rfl, _, rfl⟩⟩
    have I1 : Inv X pins σ (upd H s.heap.objs.size (.tup [.int (i : Nat), x])) { s with heap := h'', toks := tk + 1 } :=
      I.turnedNew (ch := [e, it]) (fun b ob hb q => (sb.2 b (fun z => hb (by simp [z]))).trans (hk b ob (fun z => hb (by simp [z])) (fun z => hb (by simp [z])) q)) hf (Nat.le_refl _) new
    have fr : H s.heap.objs.size = none := I.hok.fresh (Nat.le_refl _)
    refine ⟨.ref s.heap.objs.size, _, I1, rfl, ⟨_, x, rfl, fr, rfl, fun ys hy => by rw [I.tuple_inj hy hq]; exact hx⟩, ⟨⟨y, ?_⟩, hst.1.at fun o q => (sb.2 it (Ne.symm hne)).trans q, hne, hae, hai⟩, fun b hb => ?_⟩
    · have e1 : ((i + 1 : Nat) : Int) = (i : Int) + 1 := by omega
      rw [e1]; exact he'
    · have e' : b = e ∨ b = it := by simpa using hb
      have hb' : b < s.heap.objs.size := by rcases e' with z | z <;> rw [z] <;> assumption
      rw [upd_ne (Nat.ne_of_lt hb')]
      exact (hf b hb).1
  done := by
    intro X hP hw hK hc i pins s σ H E I hf st hg
    subst hP hw hK
    obtain ⟨⟨old, he⟩, hit, hne, hae, hai⟩ := st
    obtain ⟨xs, hq, hx⟩ := hg
    obtain ⟨its, rv, p, hz⟩ := I.tuple hq
    have ht : s.heap.IsTuple a its.toArray := p
    obtain ⟨f0, f1, f2, f3, f4, f5⟩ := hf it (by simp)
    have hl := rv.length
    have hT : s.TypeIs (.ref e) "enumerate" := ⟨_, he, rfl⟩
    refine enum_over (I.ok.hd hc) he hit ht (by simp; omega) fun h' eb => ⟨rfl, I.turned (t' := s.toks) (fun b o hb q => eb b o hb q) f0 f1 f3 f4 f5⟩
  self := fun A i s Q E st h => by
    obtain ⟨⟨_, he⟩, _⟩ := st
    exact wpAny_pyIter_enum he h
def iEnumT (K : PySem.W.Frag) (ta : TA) : TI := fun σ H R => ta σ H fun vs H1 => ∃ a xs, vs = [.ref a] ∧ SqT K H1 a xs ∧ R (IteT K a) H1
theorem pi_enumT {X : Cx} {e : Expr} {ta : TA} {p pos tpos : Pos} {elts : List Expr} {kk : Nat} (hg : Gl X "enumerate") (hm : X.mg "enumerate" = none) (ha : PA X [e] ta) (hs : starEach [e] X.env = [(false, eval e X.env)] := by rfl) :
    PI X (.Tuple elts kk tpos) (.Call (.Name "enumerate" p) [e] [] pos) (iEnumT X.K ta) := by
  refine ⟨fun pins s σ H R I h => ?_⟩
  refine Call_ (ld_blt I hg hm boot_enumerate (PyProof.Rows.callWith_type1 (thn (ha.run pos pins s σ H _ I h) fun us s1 ⟨vs, H1, I1, r1, q1⟩ => ?_) hs rfl))
  obtain ⟨a, xs, ex, hq, q⟩ := q1
  subst ex
  cases r1 with
  | cons r rr =>
    cases rr
    cases r
    obtain ⟨its, rv, pt, hz⟩ := I1.tuple hq
    have ht : s1.heap.IsTuple a its.toArray := pt
    have hal : a < s1.heap.objs.size := by obtain ⟨_, q, _⟩ := ht; exact Heap.lt_size q
    refine enum_call1 (begins_tuple a its.toArray) ht fun h2 he hit hk => wpAny_pyIter_enum he ?_
    have I2 : Inv X pins σ H1 { s1 with heap := h2 } := I1.kept (t' := s1.toks) hk
    refine ⟨s1.heap.objs.size + 1, [s1.heap.objs.size + 1, s1.heap.objs.size], _, _, H1, rfl, I2, turn_enumT a (s1.heap.objs.size + 1) s1.heap.objs.size, ⟨⟨.none, he⟩, ⟨_, hit, rfl, rfl⟩, Nat.succ_ne_self _, Nat.ne_of_lt (Nat.lt_succ_of_lt hal), Nat.ne_of_lt hal⟩, fun b hb => ?_, q⟩
    have e' : b = s1.heap.objs.size + 1 ∨ b = s1.heap.objs.size := by simpa using hb
    have hle : s1.heap.objs.size ≤ b := by rcases e' with z | z <;> rw [z] <;> first | exact Nat.le_succ _ | exact Nat.le_refl _
    exact I1.fpOk hle (I1.hok.fresh hle)
end Lm

set_option Elab.async false
set_option linter.all false
set_option maxRecDepth 100000
set_option maxHeartbeats 2000000
namespace Lm
open PySem PySem.Spec PyProof.Rows L2 LmR
/-! ### defs that may refuse -/
def CalX (P : Program) (w : World) (K : PySem.W.Frag) (mg : Str → Option Value) (base : Heap) (k : Nat) (x : Str) (ps : List Str) (sp : Sp) : Prop :=
  ∃ f fd, FnOk P w K mg base (L2.CX P w) k f fd ps sp ∧ mg x = some (.ref f) ∧ PySem.W.keepIn K (.ref f) = true ∧ Binds K fd ps []
section
variable {P : Program} {w : World} {K : PySem.W.Frag} {mg : Str → Option Value} {base : Heap}
theorem calx_of {x : Str} {st : Stmt} {N ps : List Str} {k : Nat} {sp : Sp} (D : DefAt K mg x st ps) (S : FnScope N ps (defScope st)) (len : ∀ vs H Q E, sp vs H Q E → vs.length = ps.length)
    (hbody : ∀ (f : Addr) (cdv : Value) (A : Around) (outer : List Env) (s : Shared) (H : Hp) (vs : List V) (Q : VK) (E : XK), Room k (A.deeper (envOfC x (defScope st) s.heap.objs.size f cdv)) → sp vs H Q E →
      ∃ t, PSs (cxOf (L2.CX P w) P w K mg base N x (defScope st) f cdv A outer s H E) (defBody st) t ∧ t { nx := fun _ H' => Q .non H', rt := Q } (start N vs) H) : CalX P w K mg base (k + 1) x ps sp := by
  obtain ⟨f, fd, F, b, g⟩ := D
  exact ⟨f, fd, F.okX S len (hbody f), g, F.kp, b⟩
end
theorem pe_calX {X : Cx} {W : WX} {k : Nat} {x : Str} {ps : List Str} {sp : Sp} {e : Expr} {es : List Expr} {t : TA} {p pos : Pos} (C : CalX X.prog X.w X.K X.mg X.base k x ps sp) (tk : Takes X W) (hr : Room k X.A) (hg : Gl X x) (ha : PA X (e :: es) t)
    (hdb : (x == ("__debug__" : Str)) = false := by decide) (he : starEach (e :: es) X.env = (false, eval e X.env) :: starEach es X.env := by rfl) (hpl : (backTo pos (starEach es X.env)).any (·.1) = false := by rfl) :
    PE X (.Call (.Name x p) (e :: es) [] pos) (tCallS sp (WE W) t) := by
  obtain ⟨f, fd, F, g, kp, b⟩ := C
  exact pe_callS F hr hg g kp b (fun σ => passAt tk σ) ha hdb he hpl
/-! ### classes of refusals -/
/-- the class x at C, its __init__ (st) keeps the fields fs -/
structure Rf (K : PySem.W.Frag) (mg : Str → Option Value) (x q : Str) (C fI : Addr) (fd : FuncData) (st : Stmt) (fs : List Str) : Prop where
  g : mg x = some (.ref C)
  o : OexC K C
  f : XfC K C
  k : ExK K C
  te : PySem.W.exmOne K (.ref C) (.ref C) = some true
  fld : ∀ n ∈ fs, PySem.W.findIn K (.ref C) n = some none
  iC : PySem.W.findIn K (.ref C) "__init__" = some (some (.ref fI))
  tI : PySem.W.typeIn K (.ref fI) = some (.type "function")
  F : Fun K "__init__" q st fI fd
  b : Binds K fd ("self" :: fs) []
/-- __init__(self, f, g) -/
def spIni2 (C : Addr) (f g : Str) : Sp := fun vs H Q E => ∃ a x y, vs = [.ref a, x, y] ∧ H a = some (exo a C none) ∧
  ∀ (d : Addr) (H' : Hp), H d = none → H' a = some (exo a C (some d)) → H' d = some (exd d [(g, y), (f, x)]) → (∀ b, b ≠ a → b ≠ d → H' b = H b) → Q .non H'
def spIni1 (C : Addr) (f : Str) : Sp := fun vs H Q E => ∃ a x, vs = [.ref a, x] ∧ H a = some (exo a C none) ∧
  ∀ (d : Addr) (H' : Hp), H d = none → H' a = some (exo a C (some d)) → H' d = some (exd d [(f, x)]) → (∀ b, b ≠ a → b ≠ d → H' b = H b) → Q .non H'
/-- what refusing leaves: the fields at d, all else as it was -/
def Raised (H H' : Hp) (d : Addr) (fs : List (Str × V)) : Prop := H d = none ∧ H' d = some (.xd fs) ∧ ∀ b, b ≠ d → H' b = H b
theorem Raised.same {H H' : Hp} {d : Addr} {fs : List (Str × V)} (r : Raised H H' d fs) : Same H H' := fun b o e => by
  have n : b ≠ d := fun z => by rw [z, r.1] at e; cases e
  rw [r.2.2 b n]; exact e
theorem mk_two {C : Addr} {f g : Str} {x y : V} {H : Hp} {Q : XK} (hq : ∀ d H', Raised H H' d [(g, y), (f, x)] → Q (.ref C) (some d) H') :
    [x, y].length ≤ 1000 ∧ ∀ a, H a = none → spIni2 C f g (.ref a :: ([x, y] ++ [])) (upd H a (exo a C none))
      (fun v H2 => v = .non ∧ ∃ (d : Addr) (fs : List (Str × V)), H2 a = some (exo a C (some d)) ∧ H2 d = some (exd d fs) ∧ H d = none ∧ Q (.ref C) (some d) (upd (del H2 a) d (.xd fs))) (fun _ _ _ => False) := by
  refine ⟨by show 2 ≤ 1000; decide, fun a ha => ⟨a, x, y, rfl, upd_same, fun d H' hd h1 h2 h3 => ⟨rfl, d, _, h1, h2, ?_, hq d _ ⟨?_, upd_same, fun b hb => ?_⟩⟩⟩⟩
  all_goals
    have nd : d ≠ a := fun z => by rw [z, upd_same] at hd; cases hd
  · rw [upd_ne nd] at hd; exact hd
  · rw [upd_ne nd] at hd; exact hd
  · rw [upd_ne hb]
    by_cases z : b = a
    · rw [z, del_same, ha]
    · rw [del_ne z, h3 b z hb, upd_ne z]
theorem mk_one {C : Addr} {f : Str} {x : V} {H : Hp} {Q : XK} (hq : ∀ d H', Raised H H' d [(f, x)] → Q (.ref C) (some d) H') :
    [x].length ≤ 1000 ∧ ∀ a, H a = none → spIni1 C f (.ref a :: ([x] ++ [])) (upd H a (exo a C none))
      (fun v H2 => v = .non ∧ ∃ (d : Addr) (fs : List (Str × V)), H2 a = some (exo a C (some d)) ∧ H2 d = some (exd d fs) ∧ H d = none ∧ Q (.ref C) (some d) (upd (del H2 a) d (.xd fs))) (fun _ _ _ => False) := by
  refine ⟨by show 1 ≤ 1000; decide, fun a ha => ⟨a, x, rfl, upd_same, fun d H' hd h1 h2 h3 => ⟨rfl, d, _, h1, h2, ?_, hq d _ ⟨?_, upd_same, fun b hb => ?_⟩⟩⟩⟩
  all_goals
    have nd : d ≠ a := fun z => by rw [z, upd_same] at hd; cases hd
  · rw [upd_ne nd] at hd; exact hd
  · rw [upd_ne nd] at hd; exact hd
  · rw [upd_ne hb]
    by_cases z : b = a
    · rw [z, del_same, ha]
    · rw [del_ne z, h3 b z hb, upd_ne z]
theorem pass_no {X : Cx} : Passes (L2.CX X.prog X.w) X (fun _ _ _ => False) := fun _ _ _ _ _ _ _ c => by
  obtain ⟨_, _, _, _, _, _, _, _, _, _, _, _, z⟩ := c
  exact z.elim
/-- raise x(e, ..) -/
theorem ps_ref {X : Cx} {W : WX} {x q : Str} {C fI : Addr} {fd : FuncData} {st : Stmt} {fs : List Str} {sp : Sp} {k : Nat} {e : Expr} {es : List Expr} {ta : TA} {p pos pos' : Pos} (R : Rf X.K X.mg x q C fI fd st fs) (F : FnOk X.prog X.w X.K X.mg X.base (L2.CX X.prog X.w) k fI fd ("self" :: fs) sp) (hr : Room (k + 1) X.A)
    (hc : X.calm = true) (tk : Takes X W) (hg : Gl X x) (ha : PA X (e :: es) ta)
    (hdb : (x == ("__debug__" : Str)) = false := by decide) (he : starEach (e :: es) X.env = (false, eval e X.env) :: starEach es X.env := by rfl) (hpl : (backTo pos (starEach es X.env)).any (·.1) = false := by rfl) :
    PS X (.Raise (some (.Call (.Name x p) (e :: es) [] pos)) none pos') (fun _ σ H => tMkO C sp [] ta σ H fun cls d H' => W cls d σ H') :=
  ps_raise hc tk (pmk_oex R.o R.iC R.tI F hr R.b .nil pass_no hg R.g ha hdb he hpl)
end Lm
namespace Lm
open PySem PySem.Spec PyProof.Rows L2 LmR
/-! ### x not in a tuple of texts, x any flat data -/
def strIn (ss : List Str) : PyData → Bool
  | .str s => ss.any fun y => y == s
  | _ => false
def rNotInD (K : PySem.W.Frag) : R2 := fun x y H Q => ∃ (p : Addr) (ss : List Str) (d : PyData), y = .ref p ∧ SqT K H p (ss.map V.str) ∧ Fd K H x d ∧ Q (.bl (!strIn ss d)) H
theorem all_str : ∀ ss : List Str, (ss.map V.str).all flatV = true
  | [] => rfl
  | _ :: ss => by rw [List.map_cons, List.all_cons, all_str ss]; rfl
theorem inV_str (ss : List Str) (x : V) (d : PyData) (h : ∀ y : Str, eqV (.str y) x = strIn [y] d) : inV x (ss.map V.str) = strIn ss d := by
  unfold inV
  induction ss with
  | nil => cases d <;> rfl
  | cons s ss ih =>
    rw [List.map_cons, List.any_cons, ih, h s]
    cases d with
    | str z => simp [strIn]
    | _ => rfl
theorem op_notInD {X : Cx} {K : PySem.W.Frag} (hK : X.K = K) (hu : X.A.units + 1 < cLine) : OpR X (compareOp .NotIn) (rNotInD K) := by
  subst hK
  intro pins s σ H x y v u Q I rx ry h
  obtain ⟨p, ss, d, rfl, hq, ⟨fd, hd⟩, q⟩ := h
  by_cases ht : ∃ ds, d = .tuple ds
  · obtain ⟨ds, rfl⟩ := ht
    cases hd with
    | tup qa r =>
      rename_i a vs
      cases rx
      cases ry
      obtain ⟨its, rv, pl, hz⟩ := I.tuple hq
      obtain ⟨itz, rz, plz, hzz⟩ := I.tuple qa
      refine SeqAt.notIn_tupleAt (fun _ => false) pl (fun w hw => ?_) ⟨.bl _, H, I, rfl, ?_⟩
      · have hw' : w ∈ its := by simpa using hw
        have st : ∀ (ss : List Str) (its : List Value), Vals (ss.map V.str) its → ∀ w ∈ its, ∃ b t, w = .str b t := by
          intro ss
          induction ss with
          | nil => intro its r w hw; cases r; cases hw
          | cons z ss ih =>
            intro its r w hw
            cases r with
            | cons ra rb =>
              rcases List.mem_cons.mp hw with e | e
              · obtain ⟨t, et⟩ := ra
                exact ⟨z, t, e.trans et⟩
              · exact ih _ rb w e
        obtain ⟨b, t, rfl⟩ := st ss its rv w hw'
        exact SeqAt.EqAt.str_tuple b t plz (by first | exact hu | (show X.A.units + 1 < cLine; exact hu) | (have := hu; omega))
      · have e : (!(its.toArray.any fun _ => false)) = !strIn ss (.tuple ds) := by simp [strIn]
        rw [e]
        exact q
  · have fx : flatV x = true ∧ ∀ y : Str, eqV (.str y) x = strIn [y] d := by
      cases hd with
      | non => exact ⟨rfl, fun _ => rfl⟩
      | bl b => exact ⟨rfl, fun _ => rfl⟩
      | int i => exact ⟨rfl, fun _ => rfl⟩
      | str z => exact ⟨rfl, fun y => by simp [strIn, eqV]⟩
      | lst q r => simp [flat] at fd
      | tup q r => exact absurd ⟨_, rfl⟩ ht
    refine op_notIn_seq pins s σ H x _ v u Q I rx ry ⟨p, _, rfl, .inr hq, fx.1, all_str ss, ?_⟩
    rw [if_pos rfl, inV_str ss x d fx.2]
    exact q
/-! ### for i, x in enumerate(tuple) -/
theorem for_enumT {K : PySem.W.Frag} {a : Addr} {xs : List V} {g : TG} {tb : TS} {D : Ends} {σ : L2.St} {H : Hp} (Pv : Nat → L2.St → Hp → Prop) (h0 : Pv 0 σ H) (hq : ∀ i σ H, Pv i σ H → SqT K H a xs)
    (hstep : ∀ i x σ H T, xs[i]? = some x → Pv i σ H → H T = none → g (.ref T) σ (upd H T (.tup [.int (i : Nat), x])) fun σ2 H2 => tb { D with nx := Pv (i + 1), ct := Pv (i + 1), bk := D.nx } σ2 H2)
    (hend : ∀ σ H, Pv xs.length σ H → D.nx σ H) :
    ∃ W : Nat → Nat → L2.St → Hp → Prop, (∃ m, W 0 m σ H) ∧ ∀ i m σ H, W i m σ H →
      ((IteT K a).stop i H ∧ D.nx σ H) ∨ ((IteT K a).go i H ∧ ∃ N : L2.St → Hp → Prop, (∀ σ' H', N σ' H' → ∃ m', m' < m ∧ W (i + 1) m' σ' H') ∧ ∀ x H', (IteT K a).yld i H x H' → g x σ H' fun σ2 H2 => tb { D with nx := N, ct := N, bk := D.nx } σ2 H2) := by
  refine ⟨fun i m σ H => i ≤ xs.length ∧ m = xs.length - i ∧ Pv i σ H, ⟨_, Nat.zero_le _, rfl, h0⟩, fun i m σ H ⟨hi, hm, hp⟩ => ?_⟩
  have hs := hq i σ H hp
  rcases Nat.lt_or_ge i xs.length with hlt | hge
  · obtain ⟨x, hx⟩ : ∃ x, xs[i]? = some x := ⟨xs[i], List.getElem?_eq_getElem hlt⟩
    refine .inr ⟨⟨xs, x, hs, hx⟩, Pv (i + 1), fun σ' H' h' => ⟨xs.length - (i + 1), by omega, hlt, rfl, h'⟩, ?_⟩
    rintro y H' ⟨T, z, rfl, hT, rfl, hz⟩
    have e := hz xs hs
    rw [hx] at e
    cases e
    exact hstep i x σ H T hx hp hT
  · have e : i = xs.length := Nat.le_antisymm hi hge
    refine .inl ⟨⟨xs, hs, hge⟩, hend σ H (e ▸ hp)⟩
/-- the defs within a class -/
def clsBody : Stmt → List Stmt
  | .ClassDef _ _ _ b _ _ _ _ _ _ _ => b
  | _ => []
end Lm
namespace Lm
open PySem PySem.Spec PyProof.Rows L2 LmR
/-- isinstance(e, c), e the exception at a, of the class at C, its fields at dd -/
def rIsX (K : PySem.W.Frag) (C a dd : Addr) : List V → Hp → VK → Prop := fun xs H Q => ∃ (D : Addr) (b : Bool), xs = [.ref a, .ref D] ∧ PySem.W.kitOne K (.ref C) (.ref D) = some b ∧ (∃ fs, H dd = some (.xd fs)) ∧ Q (.bl b) H
theorem call_isX {X : Cx} {a C dd : Addr} {oe : Obj} (k : ExK X.K C) (hz : Zc (.ref C) (some dd) oe) (hf : ∃ vs, oe.data = .fields vs) (hp : (a, oe) ∈ X.pn) : CallR X (.builtin "isinstance") (rIsX X.K C a dd) := by
  intro pins s σ H xs us Q I r h
  obtain ⟨D, b, rfl, e, ⟨fs, ea⟩, q⟩ := h
  obtain ⟨u1, u2, rfl, r1, r2⟩ := vals2 r
  cases (show u1 = Value.ref a from r1)
  cases (show u2 = Value.ref D from r2)
  obtain ⟨ha, _⟩ := I.pin (a, oe) (List.mem_append_left _ hp)
  obtain ⟨vs, hd⟩ := hf
  have hx : ObjOk X.prog X.w H s.heap dd (.xd fs) := I.hok dd _ ea
  obtain ⟨mA, hns, hr⟩ := hx
  obtain ⟨od, ho, hl⟩ := lookIn_ns hns
  have J : PySem.W.InstAt s.heap a oe C (some od) := ⟨ha, hz.1, by unfold PySem.W.notCls; rw [hd] <;> rfl, by rw [hz.2]; exact ho⟩
  exact PySem.W.kia_one (PySem.W.kitx_exc k.cl k.ga k.gg k.ex k.ca k.gn k.tk k.ob) I.kIn J e (fun z => nomatch z) fun tk => ⟨.bl b, H, I.tok tk, rfl, q⟩
/-- the twelve classes, and of which of them the class at C is -/
structure Srt (K : PySem.W.Frag) (mg : Str → Option Value) (C : Addr) (c1 c2 c3 c4 c5 c6 c7 c8 c9 c10 c11 c12 : Addr) (b1 b2 b3 b4 b5 b6 b7 b8 b9 b10 b11 b12 : Bool) : Prop where
  g1 : mg "NoHead" = some (.ref c1)
  g2 : mg "NoProgram" = some (.ref c2)
  g3 : mg "NoText" = some (.ref c3)
  g4 : mg "NoStock" = some (.ref c4)
  g5 : mg "NoAnswer" = some (.ref c5)
  g6 : mg "NoInputs" = some (.ref c6)
  g7 : mg "Clash" = some (.ref c7)
  g8 : mg "NoRow" = some (.ref c8)
  g9 : mg "NoQuestion" = some (.ref c9)
  g10 : mg "NoDoer" = some (.ref c10)
  g11 : mg "NotKept" = some (.ref c11)
  g12 : mg "NoName" = some (.ref c12)
  k1 : PySem.W.kitOne K (.ref C) (.ref c1) = some b1
  k2 : PySem.W.kitOne K (.ref C) (.ref c2) = some b2
  k3 : PySem.W.kitOne K (.ref C) (.ref c3) = some b3
  k4 : PySem.W.kitOne K (.ref C) (.ref c4) = some b4
  k5 : PySem.W.kitOne K (.ref C) (.ref c5) = some b5
  k6 : PySem.W.kitOne K (.ref C) (.ref c6) = some b6
  k7 : PySem.W.kitOne K (.ref C) (.ref c7) = some b7
  k8 : PySem.W.kitOne K (.ref C) (.ref c8) = some b8
  k9 : PySem.W.kitOne K (.ref C) (.ref c9) = some b9
  k10 : PySem.W.kitOne K (.ref C) (.ref c10) = some b10
  k11 : PySem.W.kitOne K (.ref C) (.ref c11) = some b11
  k12 : PySem.W.kitOne K (.ref C) (.ref c12) = some b12
def Sorts (K : PySem.W.Frag) (mg : Str → Option Value) (C : Addr) (bs : List Bool) : Prop := ∃ c1 c2 c3 c4 c5 c6 c7 c8 c9 c10 c11 c12 b1 b2 b3 b4 b5 b6 b7 b8 b9 b10 b11 b12,
  Srt K mg C c1 c2 c3 c4 c5 c6 c7 c8 c9 c10 c11 c12 b1 b2 b3 b4 b5 b6 b7 b8 b9 b10 b11 b12 ∧ bs = [b1, b2, b3, b4, b5, b6, b7, b8, b9, b10, b11, b12]
def spSorts (C a : Addr) (cls : Value) (d : Option Addr) (bs : List Bool) : Sp := fun vs H Q _ => vs = [.ref a] ∧ cls = .ref C ∧ ∃ dd fs, d = some dd ∧ H dd = some (.xd fs) ∧ ∀ H' l, Same H H' → H' l = some (.lst (bs.map V.bl)) → Q (.ref l) H'
end Lm

set_option Elab.async false
set_option linter.all false
set_option maxRecDepth 100000
set_option maxHeartbeats 2000000
namespace Lm
open PySem PySem.Spec PyProof.Rows L2 LmR
/-! ### displays of data, read as data -/
def FdL (K : PySem.W.Frag) (H : Hp) (vs : List V) (ds : List PyData) : Prop := flat.flats ds = true ∧ DpAll K H vs ds
theorem FdL.keep {K : PySem.W.Frag} {H H' : Hp} {vs : List V} {ds : List PyData} (h : FdL K H vs ds) (t : Tp K H H') : FdL K H' vs ds := ⟨h.1, dps_keep t ds vs h.1 h.2⟩
theorem dpall_len' {K : PySem.W.Frag} {H : Hp} : ∀ {vs : List V} {ds : List PyData}, DpAll K H vs ds → vs.length = ds.length
  | [], [], _ => rfl
  | v :: vs, d :: ds, h => by
    cases h with
    | cons a b => rw [List.length_cons, List.length_cons, dpall_len' b]
  | [], d :: ds, h => by cases h
  | v :: vs, [], h => by cases h
abbrev PrD := L2.St → Hp → PyData → Prop
abbrev PrL := L2.St → Hp → List PyData → Prop
def tFd (K : PySem.W.Frag) (p : PrD) : TE := fun σ H Q => ∃ d, p σ H d ∧ ∀ v H', Same H H' → Fd K H' v d → Q v H'
def tFds (K : PySem.W.Frag) (p : PrL) : TA := fun σ H Q => ∃ ds, p σ H ds ∧ ∀ vs H', Same H H' → FdL K H' vs ds → Q vs H'
def tFl (K : PySem.W.Frag) (p : PrL) : TE := fun σ H Q => ∃ ds, ds.length ≤ 1000 ∧ p σ H ds ∧ ∀ l us H', Same H H' → H l = none → H' l = some (.lst us) → FdL K H' us ds → Q (.ref l) H'
structure PFd (X : Cx) (e : Expr) (p : PrD) : Prop where
  pe : PE X e (tFd X.K p)
  up : ∀ σ H H' d, Same H H' → p σ H d → p σ H' d
structure PFs (X : Cx) (es : List Expr) (p : PrL) : Prop where
  pa : PA X es (tFds X.K p)
  up : ∀ σ H H' ds, Same H H' → p σ H ds → p σ H' ds
section
variable {X : Cx} {e : Expr} {es : List Expr} {te te' : TE} {ta ta' : TA} {p : PrD} {ps : PrL} {pos : Pos}
theorem pe_weak (h : PE X e te) (w : ∀ σ H Q, te' σ H Q → te σ H Q) : PE X e te' := ⟨fun pins s σ H Q I hq => h.run pins s σ H Q I (w σ H Q hq)⟩
theorem pa_weak (h : PA X es ta) (w : ∀ σ H Q, ta' σ H Q → ta σ H Q) : PA X es ta' := ⟨fun pos pins s σ H Q I hq => h.run pos pins s σ H Q I (w σ H Q hq)⟩
theorem fd_of (h : PE X e te) (w : ∀ σ H Q, tFd X.K p σ H Q → te σ H Q) (up : ∀ σ H H' d, Same H H' → p σ H d → p σ H' d) : PFd X e p := ⟨pe_weak h w, up⟩
theorem fd_str {x j} : PFd X (.Constant (.str x) j pos) (fun _ _ d => d = .str x) := fd_of pe_str (fun σ H Q ⟨d, e, k⟩ => by subst e; exact k _ _ (Same.refl _) ⟨rfl, .str _⟩) fun _ _ _ _ _ h => h
theorem fd_int {x j} : PFd X (.Constant (.int x) j pos) (fun _ _ d => d = .int x) := fd_of pe_int (fun σ H Q ⟨d, e, k⟩ => by subst e; exact k _ _ (Same.refl _) ⟨rfl, .int _⟩) fun _ _ _ _ _ h => h
theorem fd_bl {x j} : PFd X (.Constant (.bool x) j pos) (fun _ _ d => d = .bool x) := fd_of pe_bl (fun σ H Q ⟨d, e, k⟩ => by subst e; exact k _ _ (Same.refl _) ⟨rfl, .bl _⟩) fun _ _ _ _ _ h => h
theorem fd_non {j} : PFd X (.Constant .none j pos) (fun _ _ d => d = .none) := fd_of pe_non (fun σ H Q ⟨d, e, k⟩ => by subst e; exact k _ _ (Same.refl _) ⟨rfl, .non⟩) fun _ _ _ _ _ h => h
theorem fd_var (i : Nat) {x : Str} (hN : X.N[i]? = some x := by rfl) (hv : Vis X.env.scope x := by first | exact Or.inl rfl | exact Or.inr (Or.inl rfl) | exact Or.inr (Or.inr rfl)) (hd : (x == ("__debug__" : Str)) = false := by decide)
    (hcd : (x == ("__classdict__" : Str)) = false := by decide) : PFd X (.Name x pos) (fun σ H d => ∃ v, σ[i]? = some (some v) ∧ Fd X.K H v d) :=
  fd_of (pe_var hN hv hd hcd) (fun σ H Q ⟨d, ⟨v, e, h⟩, k⟩ => ⟨v, e, k _ _ (Same.refl _) h⟩) fun _ _ _ _ s ⟨v, e, h⟩ => ⟨v, e, h.keep (Tp.same s)⟩
theorem fd_nil : PFs X [] (fun _ _ ds => ds = []) := ⟨pa_weak pa_nil fun σ H Q ⟨ds, e, k⟩ => by subst e; exact k [] H (Same.refl _) ⟨rfl, .nil⟩, fun _ _ _ _ _ h => h⟩
theorem fd_cons (h : PFd X e p) (hs : PFs X es ps) (hst : starEach (e :: es) X.env = (false, eval e X.env) :: starEach es X.env := by rfl) : PFs X (e :: es) (fun σ H ds => ∃ d ds', ds = d :: ds' ∧ p σ H d ∧ ps σ H ds') := by
  refine ⟨pa_weak (pa_cons h.pe hs.pa hst) fun σ H Q ⟨ds, ⟨d, ds', e, h1, h2⟩, k⟩ => ?_, fun σ H H' ds s ⟨d, ds', e, h1, h2⟩ => ⟨d, ds', e, h.up σ H H' d s h1, hs.up σ H H' ds' s h2⟩⟩
  subst e
  refine ⟨d, h1, fun v H1 s1 hv => ⟨ds', hs.up σ H H1 ds' s1 h2, fun vs H2 s2 hvs => k (v :: vs) H2 (s1.trans s2) ⟨?_, .cons (hv.keep (Tp.same s2)).2 hvs.2⟩⟩⟩
  rw [flat.flats, hv.1, hvs.1]
  rfl
theorem fd_tupE {x1} (h : PFs X es ps) : PFd X (.Tuple es x1 pos) (fun σ H d => ∃ ds, d = .tuple ds ∧ ds.length ≤ 1000 ∧ ps σ H ds) := by
  refine ⟨pe_weak (pe_tup h.pa) fun σ H Q ⟨d, ⟨ds, e, hl, h1⟩, k⟩ => ?_, fun σ H H' d s ⟨ds, e, hl, h1⟩ => ⟨ds, e, hl, h.up σ H H' ds s h1⟩⟩
  subst e
  refine ⟨ds, h1, fun vs H1 s1 hv => ⟨by rw [dpall_len' hv.2]; exact small (by omega), fun q hq => ?_⟩⟩
  have s2 : Same H1 (upd H1 q (.tup vs)) := same_new hq
  exact k _ _ (s1.trans s2) ⟨hv.1, .tup (.inl (.inl upd_same)) (hv.keep (Tp.same s2)).2⟩
theorem fd_lst (h : PFs X es ps) : PE X (.List es pos) (tFl X.K ps) := by
  refine pe_weak (pe_lst h.pa) fun σ H Q ⟨ds, hl, h1, k⟩ => ?_
  refine ⟨ds, h1, fun vs H1 s1 hv => ⟨by rw [dpall_len' hv.2]; exact small (by omega), fun q hq => ?_⟩⟩
  have s2 : Same H1 (upd H1 q (.lst vs)) := same_new hq
  have q0 : H q = none := by
    cases e : H q with
    | none => rfl
    | some o => rw [s1 _ _ e] at hq; cases hq
  exact k q vs _ (s1.trans s2) q0 upd_same (hv.keep (Tp.same s2))
/-- a number by an expression that writes nothing -/
theorem fd_num (h : PE X e te) (f : L2.St → Hp → Int → Prop) (w : ∀ σ H Q i, f σ H i → Q (.int i) H → te σ H Q) (up : ∀ σ H H' i, Same H H' → f σ H i → f σ H' i) : PFd X e (fun σ H d => ∃ i, d = .int i ∧ f σ H i) :=
  fd_of h (fun σ H Q ⟨d, ⟨i, e, hf⟩, k⟩ => w σ H Q i hf (k _ _ (Same.refl _) ⟨by rw [e]; rfl, by rw [e]; exact .int _⟩)) fun σ H H' d s ⟨i, e, hf⟩ => ⟨i, e, up σ H H' i s hf⟩
end
end Lm

set_option Elab.async false
set_option linter.all false
set_option maxRecDepth 100000
set_option maxHeartbeats 2000000
namespace Lm
open PySem PySem.Spec PyProof.Rows L2 LmR
def topS (i : Nat) : Stmt := PySem.Challenge.pw_leastmaker_k05_several_knots_amiss.main.body.getD i (.Pass ⟨0, 0, 0, 0⟩)
section
variable {P : Program} {w : World} {K : PySem.W.Frag} {mg : Str → Option Value} {base : Heap}
/-! ### cell, flow, draw -/
abbrev s_l_cell : Stmt := topS 29
theorem sc_l_cell : FnScope ["_law_script", "_law_k", "_law_number"] ["_law_script", "_law_k"] (defScope s_l_cell) := ⟨rfl, rfl, rfl, by decide +kernel, rfl, by decide +kernel, by decide +kernel⟩
def spCell (K : PySem.W.Frag) : Sp := fun vs H Q _ => ∃ (a : Addr) (ns : List Int) (k : Int), vs = [.ref a, .int k] ∧ SqL K H a (ns.map V.int) ∧ 0 ≤ k ∧ ∀ i, Q (.int i) H
theorem ok_l_cell (B : Bt mg) (D : DefAt K mg "_law_cell" s_l_cell ["_law_script", "_law_k"]) : Cal P w K mg base 1 "_law_cell" ["_law_script", "_law_k"] (spCell K) := by
  refine cal_of D sc_l_cell (fun vs H Q E h => ?_) (fun f cdv A outer s H vs Q E hr h => ?_)
  · obtain ⟨a, ns, k, rfl, _⟩ := h
    rfl
  obtain ⟨a, ns, k, rfl, hS, h0, q⟩ := h
  refine ⟨_, (pss_cons (ps_if (pt_cmpR op_lt (pv 1) (pe_callB call_len_seq (by rfl) B.len PySem.boot_len (pa_cons (pv 0) pa_nil)) (nomark _))
        (pss_one (ps_ret (pe_ix ix_list (pv 0) (pv 1) (fun _ _ => rfl))))
        pss_nil)
      (pss_cons (ps_set (i := 2) sc_l_cell.nd rfl (.inl rfl) (pe_op op_add (pe_op op_mul (pv 1) pe_int) pe_int))
      (pss_cons (ps_if (pt_cmpR op_gt (pe_callB call_len_seq (by rfl) B.len PySem.boot_len (pa_cons (pv 0) pa_nil)) pe_int (nomark _))
        (pss_one (ps_set (i := 2) sc_l_cell.nd rfl (.inl rfl) (pe_op op_add (pe_op op_mul (pe_op op_mod (pe_ix ix_list (pv 0) (pe_op op_mod (pe_op op_mul (pv 1) pe_int) (pe_callB call_len_seq (by rfl) B.len PySem.boot_len (pa_cons (pv 0) pa_nil))) (fun _ _ => rfl)) pe_int) pe_int) (pe_op op_mul (pv 1) pe_int))))
        pss_nil)
      (pss_one (ps_ret (pe_op op_mul (pe_op op_mod (pv 2) pe_int) pe_int)))))), ?_⟩
  have hl : (ns.map V.int).length = ns.length := List.length_map _
  refine ⟨_, rfl, _, rfl, a, _, rfl, .inl hS, _, _, rfl, rfl, _, rfl, ite2 (fun c => ?_) (fun c => ?_)⟩
  · have c' : k < (((ns.map V.int).length : Nat) : Int) := of_decide_eq_true c
    rw [hl] at c'
    have e : (ns.map V.int)[k.toNat]? = some (.int ns[k.toNat]) := by
      rw [List.getElem?_map, List.getElem?_eq_getElem (by omega)]
      rfl
    exact ⟨_, rfl, _, rfl, a, _, _, _, rfl, rfl, hS, at_of (j := k.toNat) (by omega) e, q _⟩
  · refine ⟨_, rfl, _, _, rfl, rfl, .inr ⟨by decide, by decide⟩, _, _, rfl, rfl, ?_⟩
    refine ⟨_, rfl, a, _, rfl, .inl hS, _, _, rfl, rfl, _, rfl, ite2 (fun c2 => ?_) (fun c2 => ?_)⟩
    · have c2' : (((ns.map V.int).length : Nat) : Int) > 0 := of_decide_eq_true c2
      rw [hl] at c2'
      have hp : (0 : Int) < (((ns.map V.int).length : Nat) : Int) := by rw [hl]; omega
      have b1 : 0 ≤ (k * 7) % (((ns.map V.int).length : Nat) : Int) := Int.emod_nonneg _ (by omega)
      have b2 : (k * 7) % (((ns.map V.int).length : Nat) : Int) < (((ns.map V.int).length : Nat) : Int) := Int.emod_lt_of_pos _ hp
      generalize hj : (k * 7) % (((ns.map V.int).length : Nat) : Int) = j at b1 b2
      rw [hl] at b2
      have e : (ns.map V.int)[j.toNat]? = some (.int ns[j.toNat]) := by
        rw [List.getElem?_map, List.getElem?_eq_getElem (by omega)]
        rfl
      have m1 : 0 ≤ ns[j.toNat] % 2147483629 := Int.emod_nonneg _ (by decide)
      have m2 : ns[j.toNat] % 2147483629 < 2147483629 := Int.emod_lt_of_pos _ (by decide)
      refine ⟨_, rfl, _, rfl, _, _, rfl, rfl, .inr ⟨by decide, by decide⟩, _, rfl, a, _, rfl, .inl hS, _, _, rfl, rfl, hp, a, _, _, V.int ns[j.toNat], rfl, rfl, hS, ?_, _, _, rfl, rfl, (by show (0 : Int) < 2147483629; decide), _, _, rfl, rfl, .inl ⟨by omega, by omega⟩, _, rfl, _, _, rfl, rfl, .inr ⟨by decide, by decide⟩, _, _, rfl, rfl, ?_⟩
      · rw [hj]
        exact at_of (j := j.toNat) (by omega) e
      · have n1 := Int.emod_nonneg (ns[j.toNat] % 2147483629 * 48271 + k * 7919) (show (2147483647 : Int) ≠ 0 by decide)
        have n2 := Int.emod_lt_of_pos (ns[j.toNat] % 2147483629 * 48271 + k * 7919) (show (0 : Int) < 2147483647 by decide)
        exact ⟨_, rfl, _, _, rfl, rfl, (by show (0 : Int) < 2147483647; decide), _, _, rfl, rfl, .inr ⟨by decide, by decide⟩, q _⟩
    · exact ⟨_, rfl, _, _, rfl, rfl, (by show (0 : Int) < 2147483647; decide), _, _, rfl, rfl, .inr ⟨by decide, by decide⟩, q _⟩
/-! the flow that is drawn from -/
def Flow (H : Hp) (f : Addr) : Prop := ∃ own cnt seed : Int, H f = some (.lst [.int own, .int cnt, .int seed]) ∧ 0 ≤ seed ∧ seed < 2 ^ 40
abbrev s_l_flow : Stmt := topS 30
theorem sc_l_flow : FnScope ["_law_script", "_law_k", "_law_cell_here", "_law_own_here"] ["_law_script", "_law_k"] (defScope s_l_flow) := ⟨rfl, rfl, rfl, by decide +kernel, rfl, by decide +kernel, by decide +kernel⟩
def spFlow (K : PySem.W.Frag) : Sp := fun vs H Q _ => ∃ (a : Addr) (ns : List Int) (k : Int), vs = [.ref a, .int k] ∧ SqL K H a (ns.map V.int) ∧ 0 ≤ k ∧ k ≤ 63 ∧ ∀ (p : Addr) (o : HO), H p = none → Flow (upd H p o) p → Q (.ref p) (upd H p o)
theorem ok_l_flow (C_l_cell : Cal P w K mg base 1 "_law_cell" ["_law_script", "_law_k"] (spCell K)) (D : DefAt K mg "_law_flow" s_l_flow ["_law_script", "_law_k"]) : Cal P w K mg base 2 "_law_flow" ["_law_script", "_law_k"] (spFlow K) := by
  refine cal_of D sc_l_flow (fun vs H Q E h => ?_) (fun f cdv A outer s H vs Q E hr h => ?_)
  · obtain ⟨a, ns, k, rfl, _⟩ := h
    rfl
  obtain ⟨a, ns, k, rfl, hS, h0, h1, q⟩ := h
  have hr' : Room 1 _ := hr
  refine ⟨_, (pss_cons (ps_set (i := 2) sc_l_flow.nd rfl (.inl rfl) (pe_cal C_l_cell hr' (by rfl) (pa_cons (pv 0) (pa_cons (pv 1) pa_nil))))
      (pss_cons (ps_set (i := 3) sc_l_flow.nd rfl (.inl rfl) pe_int)
      (pss_cons (ps_if (pt_cmpR op_ge (pv 2) (pe_op op_pow pe_int pe_int) (nomark _))
        (pss_one (ps_set (i := 3) sc_l_flow.nd rfl (.inl rfl) (pv 2)))
        pss_nil)
      (pss_one (ps_ret (pe_lst (pa_cons (pv 3) (pa_cons pe_int (pa_cons (pe_op op_add (pe_op op_mod (pv 2) pe_int) (pe_op op_mul pe_int (pv 1))) pa_nil))))))))), ?_⟩
  refine ⟨_, rfl, _, rfl, a, ns, k, rfl, hS, h0, fun i => ?_⟩
  have m1 : 0 ≤ i % 2147483629 := Int.emod_nonneg _ (by decide)
  have m2 : i % 2147483629 < 2147483629 := Int.emod_lt_of_pos _ (by decide)
  have pw : CPow 10 18 := ⟨by decide, by decide, by decide⟩
  refine ⟨_, rfl, _, _, rfl, rfl, pw, _, _, rfl, rfl, _, rfl, ite2 (fun c => ?_) (fun c => ?_)⟩
  · refine ⟨_, rfl, _, rfl, _, rfl, _, _, rfl, rfl, (by show (0 : Int) < 2147483629; decide), _, rfl, _, _, rfl, rfl, .inl ⟨by decide, by decide⟩, _, _, rfl, rfl, (by show 3 ≤ sizeLine; decide), fun p hp => q p _ hp ⟨_, _, _, upd_same, by omega, by omega⟩⟩
  · refine ⟨_, rfl, _, rfl, _, _, rfl, rfl, (by show (0 : Int) < 2147483629; decide), _, rfl, _, _, rfl, rfl, .inl ⟨by decide, by decide⟩, _, _, rfl, rfl, (by show 3 ≤ sizeLine; decide), fun p hp => q p _ hp ⟨_, _, _, upd_same, by omega, by omega⟩⟩
/-- the flow at f was drawn from, nothing else changed -/
structure Dr (f : Addr) (H H' : Hp) : Prop where
  off : ∀ b, b ≠ f → H' b = H b
  fl : Flow H' f
theorem Flow.lst {H : Hp} {f : Addr} (h : Flow H f) : ∃ xs, H f = some (.lst xs) := by
  obtain ⟨a, b, c, e, _⟩ := h
  exact ⟨_, e⟩
theorem Dr.ex {f : Addr} {H H' : Hp} (d : Dr f H H') : Ex [f] H H' := fun b o h n => by
  rw [d.off b (fun z => n (by rw [z]; simp))]
  exact h
theorem Dr.trans {f : Addr} {H H1 H2 : Hp} (a : Dr f H H1) (b : Dr f H1 H2) : Dr f H H2 := ⟨fun c n => (b.off c n).trans (a.off c n), b.fl⟩
theorem Dr.tp {f : Addr} {H H' : Hp} (d : Dr f H H') (h : Flow H f) : Tp K H H' := by
  obtain ⟨xs, e⟩ := h.lst
  refine d.ex.tp fun b hb ys q => ?_
  rw [List.mem_singleton.mp hb] at q
  rcases q with q | ⟨o, q⟩
  · rw [e] at q; cases q
  · rw [e] at q; cases q
abbrev s_l_draw : Stmt := topS 31
theorem sc_l_draw : FnScope ["_law_flow_here", "_law_many", "_law_number", "_law_digit"] ["_law_flow_here", "_law_many"] (defScope s_l_draw) := ⟨rfl, rfl, rfl, by decide +kernel, rfl, by decide +kernel, by decide +kernel⟩
def spDraw : Sp := fun vs H Q _ => ∃ (f : Addr) (m : Int), vs = [.ref f, .int m] ∧ Flow H f ∧ 0 < m ∧ m < 1073741824 ∧ ∀ (d : Int) (H' : Hp), 0 ≤ d → d < m → Dr f H H' → Q (.int d) H'
theorem dr_put {f : Addr} {H H0 : Hp} {xs : List V} (o : ∀ b, b ≠ f → H0 b = H b) (fl : Flow (upd H0 f (.lst xs)) f) : Dr f H (upd H0 f (.lst xs)) := ⟨fun b n => by rw [upd_ne n]; exact o b n, fl⟩
theorem ok_l_draw (D : DefAt K mg "_law_draw" s_l_draw ["_law_flow_here", "_law_many"]) : Cal P w K mg base 1 "_law_draw" ["_law_flow_here", "_law_many"] (spDraw) := by
  refine cal_of D sc_l_draw (fun vs H Q E h => ?_) (fun f cdv A outer s H vs Q E hr h => ?_)
  · obtain ⟨a, m, rfl, _⟩ := h
    rfl
  obtain ⟨a, m, rfl, ⟨own, cnt, seed, hf, s0, s1⟩, m0, m1, q⟩ := h
  refine ⟨_, (pss_cons (ps_if (pt_cmpR op_gt (pe_ix ix_list (pv 0) pe_int (fun _ _ => rfl)) pe_int (nomark _))
        (pss_cons (ps_set (i := 3) sc_l_draw.nd rfl (.inl rfl) (pe_op op_mod (pe_ix ix_list (pv 0) pe_int (fun _ _ => rfl)) (pv 1)))
      (pss_cons (ps_asg (pe_op op_fdiv (pe_ix ix_list (pv 0) pe_int (fun _ _ => rfl)) (pv 1)) (pg_sub (pv 0) pe_int set_list))
      (pss_one (ps_ret (pv 3)))))
        pss_nil)
      (pss_cons (ps_asg (pe_op op_add (pe_ix ix_list (pv 0) pe_int (fun _ _ => rfl)) pe_int) (pg_sub (pv 0) pe_int set_list))
      (pss_cons (ps_set (i := 2) sc_l_draw.nd rfl (.inl rfl) (pe_op op_mod (pe_op op_add (pe_op op_add (pe_op op_mul (pe_ix ix_list (pv 0) pe_int (fun _ _ => rfl)) (pe_op op_add pe_int (pe_op op_mul pe_int (pe_ix ix_list (pv 0) pe_int (fun _ _ => rfl))))) (pe_op op_mul pe_int (pe_ix ix_list (pv 0) pe_int (fun _ _ => rfl)))) pe_int) pe_int))
      (pss_cons (ps_set (i := 2) sc_l_draw.nd rfl (.inl rfl) (pe_op op_mod (pe_op op_mul (pv 2) (pv 2)) pe_int))
      (pss_one (ps_ret (pe_op op_mod (pe_op op_fdiv (pe_op op_mod (pe_op op_mul (pe_op op_add (pv 2) pe_int) (pe_op op_add (pv 2) pe_int)) pe_int) pe_int) (pv 1)))))))), ?_⟩
  have L : SqL K H a [.int own, .int cnt, .int seed] := SqL.of hf
  refine ⟨_, rfl, a, _, 0, .int own, rfl, rfl, L, rfl, _, _, rfl, rfl, _, rfl, ite2 (fun c => ?_) (fun c => ?_)⟩
  · have b1 : 0 ≤ own % m := Int.emod_nonneg _ (by omega)
    have b2 : own % m < m := Int.emod_lt_of_pos _ m0
    refine ⟨_, rfl, a, _, 0, .int own, rfl, rfl, L, rfl, _, rfl, _, _, rfl, rfl, m0, ?_⟩
    refine ⟨_, rfl, a, _, 0, .int own, rfl, rfl, L, rfl, _, rfl, _, _, rfl, rfl, ⟨m0, m1⟩, ?_⟩
    refine ⟨_, rfl, a, _, 0, 0, rfl, rfl, hf, rfl, ?_⟩
    exact ⟨_, rfl, q _ _ b1 b2 (dr_put (fun _ _ => rfl) ⟨_, _, _, upd_same, s0, s1⟩)⟩
  · refine ⟨_, rfl, a, _, 1, .int cnt, rfl, rfl, L, rfl, _, _, rfl, rfl, ?_⟩
    refine ⟨_, rfl, a, _, 1, 1, rfl, rfl, hf, rfl, ?_⟩
    have hf2 : (upd H a (.lst (List.set [.int own, .int cnt, .int seed] 1 (.int (cnt + 1))))) a = some (.lst [.int own, .int (cnt + 1), .int seed]) := upd_same
    generalize hH : upd H a (.lst (List.set [.int own, .int cnt, .int seed] 1 (.int (cnt + 1)))) = H2 at hf2
    have off : ∀ b, b ≠ a → H2 b = H b := fun b n => by
      rw [← hH, upd_ne n]
    have L2' : SqL K H2 a [.int own, .int (cnt + 1), .int seed] := SqL.of hf2
    refine ⟨_, rfl, a, _, 2, .int seed, rfl, rfl, L2', rfl, _, rfl, a, _, 1, .int (cnt + 1), rfl, rfl, L2', rfl, _, _, rfl, rfl, .inl ⟨by decide, by decide⟩, _, _, rfl, rfl, _, _, rfl, rfl, .inl ⟨by omega, by omega⟩, ?_⟩
    refine ⟨_, rfl, a, _, 1, .int (cnt + 1), rfl, rfl, L2', rfl, _, _, rfl, rfl, .inl ⟨by decide, by decide⟩, _, _, rfl, rfl, _, _, rfl, rfl, _, _, rfl, rfl, (by show (0 : Int) < 2147483629; decide), ?_⟩
    have n1 := Int.emod_nonneg (seed * (48271 + 2 * (cnt + 1)) + 7919 * (cnt + 1) + 1) (show (2147483629 : Int) ≠ 0 by decide)
    have n2 := Int.emod_lt_of_pos (seed * (48271 + 2 * (cnt + 1)) + 7919 * (cnt + 1) + 1) (show (0 : Int) < 2147483629 by decide)
    generalize (seed * (48271 + 2 * (cnt + 1)) + 7919 * (cnt + 1) + 1) % 2147483629 = n at n1 n2
    refine ⟨_, rfl, _, rfl, _, _, rfl, rfl, .inl ⟨by omega, by omega⟩, _, _, rfl, rfl, (by show (0 : Int) < 2147483587; decide), ?_⟩
    have k1 := Int.emod_nonneg (n * n) (show (2147483587 : Int) ≠ 0 by decide)
    have k2 := Int.emod_lt_of_pos (n * n) (show (0 : Int) < 2147483587 by decide)
    generalize n * n % 2147483587 = k at k1 k2
    refine ⟨_, rfl, _, _, rfl, rfl, _, rfl, _, _, rfl, rfl, _, _, rfl, rfl, .inl ⟨by omega, by omega⟩, _, _, rfl, rfl, (by show (0 : Int) < 2147483579; decide), _, _, rfl, rfl, ⟨by decide, by decide⟩, _, rfl, _, _, rfl, rfl, m0, ?_⟩
    exact q _ _ (Int.emod_nonneg _ (by omega)) (Int.emod_lt_of_pos _ m0) ⟨off, ⟨_, _, _, hf2, s0, s1⟩⟩
end
end Lm

set_option Elab.async false
set_option linter.all false
set_option maxRecDepth 100000
set_option maxHeartbeats 2000000
namespace Lm
open PySem PySem.Spec PyProof.Rows L2 LmR
/-! ### flat data: kinds, sizes -/
def tyn : PyData → String
  | .none => "NoneType"
  | .bool _ => "bool"
  | .int _ => "int"
  | .str _ => "str"
  | .list _ => "list"
  | .tuple _ => "tuple"
  | .dict _ => "dict"
theorem tyx_tup {K : PySem.W.Frag} {H : Hp} {a : Addr} {xs : List V} (q : SqT K H a xs) : TyX K H (.ref a) (.type "tuple") := by
  rcases q with (q | ⟨o, q⟩) | ⟨o, its, n, hk, hc, _⟩
  · exact .base (.tup q)
  · exact .fTuple q
  · exact .kTuple hk hc
theorem Fd.ty {K : PySem.W.Frag} {H : Hp} {v : V} {d : PyData} (h : Fd K H v d) : TyX K H v (.type (tyn d)) := by
  obtain ⟨f, h⟩ := h
  cases h with
  | non => exact .base .non
  | bl b => exact .base (.bl b)
  | int i => exact .base (.int i)
  | str x => exact .base (.str x)
  | lst q r => simp [flat] at f
  | tup q r => exact tyx_tup q
def isTup : PyData → Bool
  | .tuple _ => true
  | _ => false
def isBl : PyData → Bool
  | .bool _ => true
  | _ => false
def isStr : PyData → Bool
  | .str _ => true
  | _ => false
def isInt : PyData → Bool
  | .bool _ => true
  | .int _ => true
  | _ => false
theorem kit_tup {K : PySem.W.Frag} (d : PyData) (h : flat d = true) : PySem.W.kitOne K (.type (tyn d)) (.type "tuple") = some (isTup d) := by
  cases d <;> first | (simp [flat] at h; done) | exact kit_ty (a := "NoneType") (r := true) (by decide +kernel) | exact kit_ty (a := "NoneType") (r := false) (by decide +kernel) | exact kit_ty (a := "bool") (r := true) (by decide +kernel) | exact kit_ty (a := "bool") (r := false) (by decide +kernel) | exact kit_ty (a := "int") (r := true) (by decide +kernel) | exact kit_ty (a := "int") (r := false) (by decide +kernel) | exact kit_ty (a := "str") (r := true) (by decide +kernel) | exact kit_ty (a := "str") (r := false) (by decide +kernel) | exact kit_ty (a := "tuple") (r := true) (by decide +kernel) | exact kit_ty (a := "tuple") (r := false) (by decide +kernel)
theorem kit_bl {K : PySem.W.Frag} (d : PyData) (h : flat d = true) : PySem.W.kitOne K (.type (tyn d)) (.type "bool") = some (isBl d) := by
  cases d <;> first | (simp [flat] at h; done) | exact kit_ty (a := "NoneType") (r := true) (by decide +kernel) | exact kit_ty (a := "NoneType") (r := false) (by decide +kernel) | exact kit_ty (a := "bool") (r := true) (by decide +kernel) | exact kit_ty (a := "bool") (r := false) (by decide +kernel) | exact kit_ty (a := "int") (r := true) (by decide +kernel) | exact kit_ty (a := "int") (r := false) (by decide +kernel) | exact kit_ty (a := "str") (r := true) (by decide +kernel) | exact kit_ty (a := "str") (r := false) (by decide +kernel) | exact kit_ty (a := "tuple") (r := true) (by decide +kernel) | exact kit_ty (a := "tuple") (r := false) (by decide +kernel)
theorem kit_str {K : PySem.W.Frag} (d : PyData) (h : flat d = true) : PySem.W.kitOne K (.type (tyn d)) (.type "str") = some (isStr d) := by
  cases d <;> first | (simp [flat] at h; done) | exact kit_ty (a := "NoneType") (r := true) (by decide +kernel) | exact kit_ty (a := "NoneType") (r := false) (by decide +kernel) | exact kit_ty (a := "bool") (r := true) (by decide +kernel) | exact kit_ty (a := "bool") (r := false) (by decide +kernel) | exact kit_ty (a := "int") (r := true) (by decide +kernel) | exact kit_ty (a := "int") (r := false) (by decide +kernel) | exact kit_ty (a := "str") (r := true) (by decide +kernel) | exact kit_ty (a := "str") (r := false) (by decide +kernel) | exact kit_ty (a := "tuple") (r := true) (by decide +kernel) | exact kit_ty (a := "tuple") (r := false) (by decide +kernel)
theorem kit_int {K : PySem.W.Frag} (d : PyData) (h : flat d = true) : PySem.W.kitOne K (.type (tyn d)) (.type "int") = some (isInt d) := by
  cases d <;> first | (simp [flat] at h; done) | exact kit_ty (a := "NoneType") (r := true) (by decide +kernel) | exact kit_ty (a := "NoneType") (r := false) (by decide +kernel) | exact kit_ty (a := "bool") (r := true) (by decide +kernel) | exact kit_ty (a := "bool") (r := false) (by decide +kernel) | exact kit_ty (a := "int") (r := true) (by decide +kernel) | exact kit_ty (a := "int") (r := false) (by decide +kernel) | exact kit_ty (a := "str") (r := true) (by decide +kernel) | exact kit_ty (a := "str") (r := false) (by decide +kernel) | exact kit_ty (a := "tuple") (r := true) (by decide +kernel) | exact kit_ty (a := "tuple") (r := false) (by decide +kernel)
/-- how many things are in it -/
def dsz : PyData → Nat
  | .tuple xs => 1 + dszs xs
  | _ => 1
where dszs : List PyData → Nat
  | [] => 0
  | d :: ds => dsz d + dszs ds
theorem dsz_pos (d : PyData) : 1 ≤ dsz d := by cases d <;> simp [dsz]
theorem dszs_len : ∀ ds : List PyData, ds.length ≤ dsz.dszs ds
  | [] => Nat.le_refl _
  | d :: ds => by
    have h1 := dsz_pos d
    have h2 := dszs_len ds
    simp only [dsz.dszs, List.length_cons]
    omega
theorem dszs_app : ∀ ds es : List PyData, dsz.dszs (ds ++ es) = dsz.dszs ds + dsz.dszs es
  | [], es => by simp [dsz.dszs]
  | d :: ds, es => by
    have h := dszs_app ds es
    simp only [List.cons_append, dsz.dszs]
    omega
/-- a pair of two things alike -/
def Pr (K : PySem.W.Frag) (H : Hp) (t : Addr) (d : PyData) : Prop := ∃ x y, H t = some (.tup [x, y]) ∧ Fd K H x d ∧ Fd K H y d
theorem Pr.keep {K : PySem.W.Frag} {H H' : Hp} {t : Addr} {d : PyData} (h : Pr K H t d) (s : ∀ xs, H t = some (.tup xs) → H' t = some (.tup xs)) (t' : Tp K H H') : Pr K H' t d := by
  obtain ⟨x, y, e, a, b⟩ := h
  exact ⟨x, y, s _ e, a.keep t', b.keep t'⟩
theorem while_m {c : TT} {tb : TS} {D : Ends} {σ : L2.St} {H : Hp} (W : Nat → L2.St → Hp → Prop) (h0 : ∃ m, W m σ H)
    (hs : ∀ m σ H, W m σ H → c σ H fun b H1 => if b = true then ∃ N : L2.St → Hp → Prop, (∀ σ' H', N σ' H' → ∃ m', m' < m ∧ W m' σ' H') ∧ tb { D with nx := N, ct := N, bk := D.nx } σ H1 else D.nx σ H1) : tWhile c tb D σ H := ⟨W, h0, hs⟩
theorem dpall_get {K : PySem.W.Frag} {H : Hp} : ∀ {vs : List V} {ds : List PyData}, DpAll K H vs ds → ∀ (j : Nat) (v : V), vs[j]? = some v → ∃ d, ds[j]? = some d ∧ Dp K H v d
  | _, _, .nil, j, v, h => by simp at h
  | _, _, .cons a b, 0, v, h => by
    have e := Option.some.inj h
    subst e
    exact ⟨_, rfl, a⟩
  | _, _, .cons a b, j + 1, v, h => dpall_get b j v h
theorem dpall_len {K : PySem.W.Frag} {H : Hp} : ∀ {vs : List V} {ds : List PyData}, DpAll K H vs ds → vs.length = ds.length
  | _, _, .nil => rfl
  | _, _, .cons a b => by rw [List.length_cons, List.length_cons, dpall_len b]
theorem flats_get : ∀ {ds : List PyData}, flat.flats ds = true → ∀ (j : Nat) (d : PyData), ds[j]? = some d → flat d = true
  | [], _, j, d, h => by simp at h
  | e :: ds, f, 0, d, h => by
    rw [flat.flats, Bool.and_eq_true] at f
    have e := Option.some.inj h
    subst e
    exact f.1
  | e :: ds, f, j + 1, d, h => by
    rw [flat.flats, Bool.and_eq_true] at f
    exact flats_get f.2 j d h
section
variable {P : Program} {w : World} {K : PySem.W.Frag} {mg : Str → Option Value} {base : Heap}
abbrev s_l_alike : Stmt := topS 44
theorem sc_l_alike : FnScope ["_law_found", "_law_due", "_law_left", "_law_one", "_law_other"] ["_law_found", "_law_due"] (defScope s_l_alike) := ⟨rfl, rfl, rfl, by decide +kernel, rfl, by decide +kernel, by decide +kernel⟩
def spAlike (K : PySem.W.Frag) : Sp := fun vs H Q _ => ∃ (x y : V) (d : PyData), vs = [x, y] ∧ Fd K H x d ∧ Fd K H y d ∧ dsz d ≤ 90000 ∧ ∀ H', Same H H' → Q (.bl true) H'
theorem ok_l_alike (B : Bt mg) (D : DefAt K mg "_law_alike" s_l_alike ["_law_found", "_law_due"]) : Cal P w K mg base 1 "_law_alike" ["_law_found", "_law_due"] (spAlike K) := by
  refine cal_of D sc_l_alike (fun vs H Q E h => ?_) (fun f cdv A outer s H vs Q E hr h => ?_)
  · obtain ⟨x, y, d, rfl, _⟩ := h
    rfl
  obtain ⟨x, y, d, rfl, hx, hy, hd, q⟩ := h
  refine ⟨_, (pss_cons (ps_set (i := 2) sc_l_alike.nd rfl (.inl rfl) (pe_lst (pa_cons (pe_tup (pa_cons (pv 0) (pa_cons (pv 1) pa_nil))) pa_nil)))
      (pss_cons (ps_while PassesOwn.never (pt_cmpR op_gt (pe_callB call_len_seq (by rfl) B.len PySem.boot_len (pa_cons (pv 2) pa_nil)) pe_int (nomark _))
        (pss_cons (ps_asg (pe_bm0 PySem.F.plainAttrs_list PySem.F.slot_list_pop PySem.F.type_list_pop mt_pop (pv 2)) (pg_tup rfl (pgs_cons (pg_name (i := 3) sc_l_alike.nd rfl (.inl rfl)) (pgs_cons (pg_name (i := 4) sc_l_alike.nd rfl (.inl rfl)) pgs_nil))))
      (pss_cons (ps_if (pt_cmpR op_ne (pe_callB call_isi (by rfl) B.isinstance (by decide +kernel) (pa_cons (pv 3) (pa_cons (pe_bltn (v := .ty "tuple") (by rfl) B.tuple PyProof.Rows.boot_tuple rfl) pa_nil))) (pe_callB call_isi (by rfl) B.isinstance (by decide +kernel) (pa_cons (pv 4) (pa_cons (pe_bltn (v := .ty "tuple") (by rfl) B.tuple PyProof.Rows.boot_tuple rfl) pa_nil))) (nomark _))
        (pss_one (ps_ret pe_bl))
        pss_nil)
      (pss_cons (ps_if (pt_cmpR op_ne (pe_callB call_isi (by rfl) B.isinstance (by decide +kernel) (pa_cons (pv 3) (pa_cons (pe_bltn (v := .ty "bool") (by rfl) B.bool PyProof.Rows.boot_bool rfl) pa_nil))) (pe_callB call_isi (by rfl) B.isinstance (by decide +kernel) (pa_cons (pv 4) (pa_cons (pe_bltn (v := .ty "bool") (by rfl) B.bool PyProof.Rows.boot_bool rfl) pa_nil))) (nomark _))
        (pss_one (ps_ret pe_bl))
        pss_nil)
      (pss_one (ps_if (pt_val (pe_callB call_isi (by rfl) B.isinstance (by decide +kernel) (pa_cons (pv 4) (pa_cons (pe_bltn (v := .ty "tuple") (by rfl) B.tuple PyProof.Rows.boot_tuple rfl) pa_nil))))
        (pss_cons (ps_if (pt_cmpR op_ne (pe_callB call_len_seq (by rfl) B.len PySem.boot_len (pa_cons (pv 3) pa_nil)) (pe_callB call_len_seq (by rfl) B.len PySem.boot_len (pa_cons (pv 4) pa_nil)) (nomark _))
        (pss_one (ps_ret pe_bl))
        pss_nil)
      (pss_one (ps_expr (pe_bm PySem.F.plainAttrs_list PySem.F.slot_list_extend PySem.F.type_list_extend mt_extend (pv 2) (pa_cons (pe_listZip rfl (by rfl) B.list (by rfl) B.zip (pa_cons (pv 3) (pa_cons (pv 4) pa_nil))) pa_nil)))))
        (pss_one (ps_if (PW.pt (pw_or (pt_cmpR op_ne (pe_callB call_isi (by rfl) B.isinstance (by decide +kernel) (pa_cons (pv 3) (pa_cons (pe_bltn (v := .ty "str") (by rfl) B.str PyProof.Rows.boot_str rfl) pa_nil))) (pe_callB call_isi (by rfl) B.isinstance (by decide +kernel) (pa_cons (pv 4) (pa_cons (pe_bltn (v := .ty "str") (by rfl) B.str PyProof.Rows.boot_str rfl) pa_nil))) (nomark _)) (pw_or1 (pt_cmpR op_ne (pv 3) (pv 4) (nomark _)))))
        (pss_one (ps_ret pe_bl))
        pss_nil))))))))
      (pss_one (ps_ret pe_bl)))), ?_⟩
  refine ⟨_, rfl, _, rfl, (by show 2 ≤ sizeLine; decide), fun t ht => ⟨(by show 1 ≤ sizeLine; decide), fun l hl => ?_⟩⟩
  have s1 : Same H (upd H t (.tup [x, y])) := same_new ht
  have s2 : Same (upd H t (.tup [x, y])) (upd (upd H t (.tup [x, y])) l (.lst [.ref t])) := same_new hl
  have hlH : H l = none := s1.free hl
  refine while_m (fun m σ H' => ∃ (ps : List (Addr × PyData)) (y3 y4 : Option V), σ = [some x, some y, some (.ref l), y3, y4] ∧ m = dsz.dszs (ps.map (·.2)) ∧ m ≤ 90000 ∧ Same H H' ∧ H' l = some (.lst (ps.map fun p => V.ref p.1)) ∧ ∀ p ∈ ps, Pr K H' p.1 p.2) ?_ ?_
  · refine ⟨_, [(t, d)], none, none, rfl, rfl, ?_, s1.trans s2, upd_same, fun p hp => ?_⟩
    · show dsz d + 0 ≤ 90000
      omega
    · rw [List.mem_singleton.mp hp]
      exact ⟨x, y, s2 _ _ upd_same, hx.keep (Tp.same (s1.trans s2)), hy.keep (Tp.same (s1.trans s2))⟩
  · rintro m σ H' ⟨ps, y3, y4, rfl, rfl, hm, sm, hL, hP⟩
    refine ⟨_, rfl, l, _, rfl, .inl (SqL.of hL), _, _, rfl, rfl, _, rfl, ite2 (fun c => ?_) (fun c => ?_)⟩
    · have c' : (((ps.map fun p => V.ref p.1).length : Nat) : Int) > 0 := of_decide_eq_true c
      rw [List.length_map] at c'
      obtain ⟨qs, ⟨u, e⟩, rfl⟩ : ∃ qs p, ps = qs ++ [p] := by
        rcases List.eq_nil_or_concat ps with h | ⟨qs, p, h⟩
        · rw [h] at c'
          simp at c'
        · exact ⟨qs, p, by rw [h, List.concat_eq_append]⟩
      have hm2 : dsz.dszs ((qs ++ [(u, e)]).map (·.2)) = dsz.dszs (qs.map (·.2)) + dsz e := by
        rw [List.map_append, dszs_app]
        simp [dsz.dszs]
      obtain ⟨a, b, hu, ha, hb⟩ := hP (u, e) (by simp)
      have hLm : H' l = some (.lst ((qs.map fun p => V.ref p.1) ++ [V.ref u])) := by
        rw [hL, List.map_append]
        rfl
      have nu : u ≠ l := fun z => by
        have hu' : H' u = some (.tup [a, b]) := hu
        rw [z, hLm] at hu'
        cases hu'
      -- what was popped
      refine ⟨fun σ' H2 => ∃ m', m' < dsz.dszs ((qs ++ [(u, e)]).map (·.2)) ∧ ∃ (ps : List (Addr × PyData)) (y3 y4 : Option V), σ' = [some x, some y, some (.ref l), y3, y4] ∧ m' = dsz.dszs (ps.map (·.2)) ∧ m' ≤ 90000 ∧ Same H H2 ∧ H2 l = some (.lst (ps.map fun p => V.ref p.1)) ∧ ∀ p ∈ ps, Pr K H2 p.1 p.2, fun σ' H2 h => h, ?_⟩
      refine ⟨_, rfl, .inl ⟨rfl, _, SqL.of hLm⟩, l, _, .ref u, rfl, rfl, hLm, ?_, ?_⟩
      · rw [List.length_append, List.length_singleton, Nat.add_sub_cancel, List.getElem?_append_right (Nat.le_refl _), Nat.sub_self]
        rfl
      rw [List.dropLast_concat]
      have hl2 : (upd H' l (.lst (qs.map fun p => V.ref p.1))) l = some (.lst (qs.map fun p => V.ref p.1)) := upd_same
      have o2 : ∀ b, b ≠ l → (upd H' l (.lst (qs.map fun p => V.ref p.1))) b = H' b := fun b n => upd_ne n
      have t2 : Tp K H' (upd H' l (.lst (qs.map fun p => V.ref p.1))) := Tp.lst hLm
      have sm2 : Same H (upd H' l (.lst (qs.map fun p => V.ref p.1))) := fun c o z => by
        rw [o2 c (ne_of_none z hlH)]
        exact sm c o z
      generalize upd H' l (.lst (qs.map fun p => V.ref p.1)) = H2 at hl2 o2 t2 sm2
      have hP2 : ∀ p ∈ qs, Pr K H2 p.1 p.2 := fun p hp => by
        have z := hP p (List.mem_append_left _ hp)
        refine z.keep (fun xs h => ?_) t2
        have np : p.1 ≠ l := fun z => by
          rw [z, hLm] at h
          cases h
        rw [o2 _ np]
        exact h
      have ha2 := ha.keep t2
      have hb2 := hb.keep t2
      have hu2 : H2 u = some (.tup [a, b]) := by
        rw [o2 u nu]
        exact hu
      refine ⟨u, [a, b], rfl, .inl (.inl hu2), rfl, a, [b], rfl, b, [], rfl, rfl, ?_⟩
      have fe := ha2.1
      refine ⟨_, rfl, a, _, _, _, _, rfl, .ty _, ha2.ty, kit_tup e fe, _, rfl, b, _, _, _, _, rfl, .ty _, hb2.ty, kit_tup e fe, rfl, _, rfl, iteNS rfl ?_⟩
      refine ⟨_, rfl, a, _, _, _, _, rfl, .ty _, ha2.ty, kit_bl e fe, _, rfl, b, _, _, _, _, rfl, .ty _, hb2.ty, kit_bl e fe, rfl, _, rfl, iteNS rfl ?_⟩
      refine ⟨_, rfl, b, _, _, _, _, rfl, .ty _, hb2.ty, kit_tup e fe, _, rfl, ?_⟩
      cases e with
      | list ds => simp [flat] at fe
      | dict ds => simp [flat] at fe
      | tuple ds =>
        refine iteT ?_
        obtain ⟨_, da⟩ := ha2
        obtain ⟨_, db⟩ := hb2
        cases da with
        | @tup ta xs _ qa ra =>
          cases db with
          | @tup tb ys _ qb rb =>
            have la := dpall_len ra
            have lb := dpall_len rb
            have lab : xs.length = ys.length := by omega
            refine ⟨_, rfl, ta, xs, rfl, .inr qa, _, rfl, tb, ys, rfl, .inr qb, rfl, _, rfl, iteNS (by rw [lab]) ?_⟩
            refine ⟨_, rfl, .inl ⟨rfl, _, SqL.of hl2⟩, _, rfl, _, rfl, ta, tb, xs, ys, rfl, qa, qb, lab, fun H3 p ts s3 pn tn hp3 lt pr => ?_⟩
            have hl3 : H3 l = some (.lst (qs.map fun p => V.ref p.1)) := s3 _ _ hl2
            have hle : ds.length ≤ dsz.dszs ds := dszs_len ds
            have hm3 : dsz (.tuple ds) = 1 + dsz.dszs ds := rfl
            have hq : qs.length ≤ dsz.dszs (qs.map (·.2)) := by
              have z := dszs_len (qs.map (·.2))
              rw [List.length_map] at z
              exact z
            refine ⟨l, p, _, _, rfl, rfl, hl3, hp3, ?_, ?_⟩
            · rw [List.length_map, List.length_map]
              exact small (by omega)
            · have t3 : Tp K H2 (upd H3 l (.lst ((qs.map fun p => V.ref p.1) ++ ts.map V.ref))) := (Tp.same s3).trans (Tp.lst hl3)
              have o3 : ∀ b o, b ≠ l → H2 b = some o → (upd H3 l (.lst ((qs.map fun p => V.ref p.1) ++ ts.map V.ref))) b = some o := fun b o n z => by
                rw [upd_ne n]
                exact s3 _ _ z
              have ltd : ts.length = ds.length := by omega
              have ez : (ts.zip ds).map (·.2) = ds := by
                rw [List.map_snd_zip]
                omega
              have ef : (ts.zip ds).map (·.1) = ts := by
                rw [List.map_fst_zip]
                omega
              refine ⟨dsz.dszs ((qs ++ ts.zip ds).map (·.2)), ?_, qs ++ ts.zip ds, some (.ref ta), some (.ref tb), rfl, rfl, ?_, fun c o z => ?_, ?_, fun p' hp' => ?_⟩
              · rw [List.map_append, dszs_app, ez, hm2, hm3]
                omega
              · rw [List.map_append, dszs_app, ez]
                rw [hm2, hm3] at hm
                omega
              · exact o3 c o (ne_of_none z hlH) (sm2 c o z)
              · rw [upd_same, List.map_append]
                have ev : (ts.zip ds).map (fun p => V.ref p.1) = ts.map V.ref := by
                  rw [← congrArg (List.map V.ref) ef, List.map_map]
                  rfl
                rw [ev]
              · rcases List.mem_append.mp hp' with z | z
                · have zz := hP2 p' z
                  refine zz.keep (fun xs h => ?_) t3
                  have np : p'.1 ≠ l := fun z => by
                    rw [z, hl2] at h
                    cases h
                  exact o3 _ _ np h
                · obtain ⟨j, hj⟩ := List.mem_iff_getElem?.mp z
                  rw [List.getElem?_zip_eq_some] at hj
                  obtain ⟨j1, j2⟩ := hj
                  obtain ⟨x', y', e1, e2, e3⟩ := pr j p'.1 j1
                  obtain ⟨d1, f1, g1⟩ := dpall_get ra j x' e1
                  obtain ⟨d2, f2, g2⟩ := dpall_get rb j y' e2
                  rw [j2] at f1 f2
                  have h1 := Option.some.inj f1
                  have h2 := Option.some.inj f2
                  have np : p'.1 ≠ l := fun z => by
                    rw [z, hl3] at e3
                    cases e3
                  have fj := flats_get fe j _ j2
                  refine ⟨x', y', by rw [upd_ne np]; exact e3, ?_, ?_⟩
                  · exact Fd.keep ⟨fj, by rw [h1]; exact g1⟩ t3
                  · exact Fd.keep ⟨fj, by rw [h2]; exact g2⟩ t3
      | none =>
        refine iteF ?_
        obtain ⟨_, da⟩ := ha2
        obtain ⟨_, db⟩ := hb2
        cases da
        cases db
        refine ⟨_, rfl, _, _, _, _, _, rfl, .ty _, .base .non, kit_str .none rfl, _, rfl, _, _, _, _, _, rfl, .ty _, .base .non, kit_str .none rfl, rfl, _, rfl, ?_⟩
        refine iteF ⟨_, rfl, _, rfl, rfl, _, rfl, iteF ?_⟩
        refine ⟨dsz.dszs (qs.map (·.2)), by rw [hm2]; show _ < _ + 1; omega, qs, some .non, some .non, rfl, rfl, by rw [hm2] at hm; omega, sm2, hl2, hP2⟩
      | bool v =>
        refine iteF ?_
        obtain ⟨_, da⟩ := ha2
        obtain ⟨_, db⟩ := hb2
        cases da
        cases db
        refine ⟨_, rfl, _, _, _, _, _, rfl, .ty _, .base (.bl v), kit_str (.bool v) rfl, _, rfl, _, _, _, _, _, rfl, .ty _, .base (.bl v), kit_str (.bool v) rfl, rfl, _, rfl, ?_⟩
        refine iteF ⟨_, rfl, _, rfl, rfl, _, rfl, iteNS rfl ?_⟩
        refine ⟨dsz.dszs (qs.map (·.2)), by rw [hm2]; show _ < _ + 1; omega, qs, some (.bl v), some (.bl v), rfl, rfl, by rw [hm2] at hm; omega, sm2, hl2, hP2⟩
      | int v =>
        refine iteF ?_
        obtain ⟨_, da⟩ := ha2
        obtain ⟨_, db⟩ := hb2
        cases da
        cases db
        refine ⟨_, rfl, _, _, _, _, _, rfl, .ty _, .base (.int v), kit_str (.int v) rfl, _, rfl, _, _, _, _, _, rfl, .ty _, .base (.int v), kit_str (.int v) rfl, rfl, _, rfl, ?_⟩
        refine iteF ⟨_, rfl, _, rfl, rfl, _, rfl, iteNS rfl ?_⟩
        refine ⟨dsz.dszs (qs.map (·.2)), by rw [hm2]; show _ < _ + 1; omega, qs, some (.int v), some (.int v), rfl, rfl, by rw [hm2] at hm; omega, sm2, hl2, hP2⟩
      | str v =>
        refine iteF ?_
        obtain ⟨_, da⟩ := ha2
        obtain ⟨_, db⟩ := hb2
        cases da
        cases db
        refine ⟨_, rfl, _, _, _, _, _, rfl, .ty _, .base (.str v), kit_str (.str v) rfl, _, rfl, _, _, _, _, _, rfl, .ty _, .base (.str v), kit_str (.str v) rfl, rfl, _, rfl, ?_⟩
        refine iteF ⟨_, rfl, _, rfl, rfl, _, rfl, iteNS rfl ?_⟩
        refine ⟨dsz.dszs (qs.map (·.2)), by rw [hm2]; show _ < _ + 1; omega, qs, some (.str v), some (.str v), rfl, rfl, by rw [hm2] at hm; omega, sm2, hl2, hP2⟩
    · exact q _ sm
end
end Lm

set_option Elab.async false
set_option linter.all false
set_option maxRecDepth 100000
set_option maxHeartbeats 2000000
namespace Lm
open PySem PySem.Spec PyProof.Rows L2 LmR
section
variable {P : Program} {w : World} {K : PySem.W.Frag} {mg : Str → Option Value} {base : Heap}
/-- the flow was drawn from, what else stands at ws may have changed, things were made -/
structure Gr (ws : List Addr) (f : Addr) (H H' : Hp) : Prop where
  ex : Ex (f :: ws) H H'
  fl : Flow H' f
theorem Dr.gr {f : Addr} {H H' : Hp} {ws : List Addr} (d : Dr f H H') : Gr ws f H H' := ⟨d.ex.mono fun b hb => by rw [List.mem_singleton.mp hb]; exact List.mem_cons_self, d.fl⟩
theorem Gr.trans {ws : List Addr} {f : Addr} {H H1 H2 : Hp} (a : Gr ws f H H1) (b : Gr ws f H1 H2) : Gr ws f H H2 := ⟨a.ex.trans b.ex, b.fl⟩
theorem Gr.mono {ws us : List Addr} {f : Addr} {H H' : Hp} (a : Gr ws f H H') (h : ∀ b ∈ ws, b ∈ us) : Gr us f H H' := ⟨a.ex.mono fun b hb => by
  rcases List.mem_cons.mp hb with z | z
  · rw [z]; exact List.mem_cons_self
  · exact List.mem_cons_of_mem _ (h b z), a.fl⟩
theorem Gr.new {ws : List Addr} {f : Addr} {H : Hp} {p : Addr} {o : HO} (fl : Flow H f) (h : H p = none) : Gr ws f H (upd H p o) := by
  refine ⟨Ex.new h, ?_⟩
  obtain ⟨a, b, c, e, r⟩ := fl
  exact ⟨a, b, c, by rw [upd_ne (ne_of_none e h)]; exact e, r⟩
theorem Gr.tp {f : Addr} {H H' : Hp} (a : Gr [] f H H') (h : Flow H f) : Tp K H H' := by
  obtain ⟨xs, e⟩ := h.lst
  refine a.ex.tp fun b hb ys q => ?_
  rw [List.mem_singleton.mp hb] at q
  rcases q with q | ⟨o, q⟩
  · rw [e] at q; cases q
  · rw [e] at q; cases q
abbrev s_l_numeral : Stmt := topS 32
theorem sc_l_numeral : FnScope ["_law_flow_here"] ["_law_flow_here"] (defScope s_l_numeral) := ⟨rfl, rfl, rfl, by decide +kernel, rfl, by decide +kernel, by decide +kernel⟩
def spNumeral : Sp := fun vs H Q _ => ∃ f : Addr, vs = [.ref f] ∧ Flow H f ∧ ∀ (i : Int) (H' : Hp), -1000 ≤ i → i ≤ 1000 → Gr [] f H H' → Q (.int i) H'
theorem ok_l_numeral (C_l_draw : Cal P w K mg base 1 "_law_draw" ["_law_flow_here", "_law_many"] (spDraw)) (D : DefAt K mg "_law_numeral" s_l_numeral ["_law_flow_here"]) : Cal P w K mg base 2 "_law_numeral" ["_law_flow_here"] (spNumeral) := by
  refine cal_of D sc_l_numeral (fun vs H Q E h => ?_) (fun f cdv A outer s H vs Q E hr h => ?_)
  · obtain ⟨a, rfl, _⟩ := h
    rfl
  obtain ⟨a, rfl, fl, q⟩ := h
  have hr' : Room 1 _ := hr
  refine ⟨_, (pss_one (ps_ret (pe_ix ix_list (pe_lst (pa_cons (pe_cal C_l_draw hr' (by rfl) (pa_cons (pv 0) (pa_cons pe_int pa_nil))) (pa_cons (pe_op op_sub pe_int (pe_cal C_l_draw hr' (by rfl) (pa_cons (pv 0) (pa_cons pe_int pa_nil)))) (pa_cons (pe_op op_sub (pe_cal C_l_draw hr' (by rfl) (pa_cons (pv 0) (pa_cons pe_int pa_nil))) pe_int) pa_nil)))) (pe_cal C_l_draw hr' (by rfl) (pa_cons (pv 0) (pa_cons pe_int pa_nil))) (fun _ _ => rfl)))), ?_⟩
  refine ⟨_, rfl, a, 4, rfl, fl, by decide, by decide, fun d1 H1 x1 y1 r1 => ?_⟩
  refine ⟨_, rfl, a, 4, rfl, r1.fl, by decide, by decide, fun d2 H2 x2 y2 r2 => ⟨_, _, rfl, rfl, ?_⟩⟩
  refine ⟨_, rfl, a, 2001, rfl, r2.fl, by decide, by decide, fun d3 H3 x3 y3 r3 => ⟨_, _, rfl, rfl, ?_⟩⟩
  refine ⟨(by show 3 ≤ sizeLine; decide), fun p hp => ?_⟩
  have g3 : Gr [] a H (upd H3 p (.lst [.int d1, .int (0 - d2), .int (d3 - 1000)])) := (((r1.trans r2).trans r3).gr).trans (Gr.new r3.fl hp)
  refine ⟨_, rfl, a, 3, rfl, g3.fl, by decide, by decide, fun d4 H4 x4 y4 r4 => ?_⟩
  have npa : p ≠ a := fun z => by
    obtain ⟨xs, e⟩ := r3.fl.lst
    rw [z, e] at hp
    cases hp
  have e4 : H4 p = some (.lst [.int d1, .int (0 - d2), .int (d3 - 1000)]) := by
    rw [r4.off p npa]
    exact upd_same
  have g4 := g3.trans r4.gr
  rcases (show d4 = 0 ∨ d4 = 1 ∨ d4 = 2 by omega) with z | z | z
  · subst z
    exact ⟨p, _, 0, .int d1, rfl, rfl, SqL.of e4, rfl, q _ _ (by omega) (by omega) g4⟩
  · subst z
    exact ⟨p, _, 1, .int (0 - d2), rfl, rfl, SqL.of e4, rfl, q _ _ (by omega) (by omega) g4⟩
  · subst z
    exact ⟨p, _, 2, .int (d3 - 1000), rfl, rfl, SqL.of e4, rfl, q _ _ (by omega) (by omega) g4⟩
/-! ### the world: the kinds of the inputs and what may still be used -/
def kVs (ks : List Bool) : List V := ks.map fun b => V.str (kS b)
def wKV (ka : Addr) (c i n : Int) : List (Key × V) := [(Sum.inr "kinds", .ref ka), (Sum.inr "cmp", .int c), (Sum.inr "if", .int i), (Sum.inr "any", .int n)]
def Wld (H : Hp) (wd ka : Addr) : Prop := ∃ c i n : Int, H wd = some (.dK (wKV ka c i n))
theorem wv_kinds (ka : Addr) (c i n : Int) : valV (wKV ka c i n) (Sum.inr "kinds") = some (.ref ka) := rfl
theorem wv_cmp (ka : Addr) (c i n : Int) : valV (wKV ka c i n) (Sum.inr "cmp") = some (.int c) := rfl
theorem wv_if (ka : Addr) (c i n : Int) : valV (wKV ka c i n) (Sum.inr "if") = some (.int i) := rfl
theorem wv_any (ka : Addr) (c i n : Int) : valV (wKV ka c i n) (Sum.inr "any") = some (.int n) := rfl
theorem wp_cmp (ka : Addr) (c i n z : Int) : putK (wKV ka c i n) (Sum.inr "cmp") (.int z) = wKV ka z i n := rfl
theorem wp_if (ka : Addr) (c i n z : Int) : putK (wKV ka c i n) (Sum.inr "if") (.int z) = wKV ka c z n := rfl
theorem wp_any (ka : Addr) (c i n z : Int) : putK (wKV ka c i n) (Sum.inr "any") (.int z) = wKV ka c i z := rfl
/-- a dict with the kinds -/
def Kin (H : Hp) (wd ka : Addr) : Prop := ∃ kvs, H wd = some (.dK kvs) ∧ valV kvs (Sum.inr "kinds") = some (.ref ka)
theorem Wld.kin {H : Hp} {wd ka : Addr} (h : Wld H wd ka) : Kin H wd ka := by
  obtain ⟨c, i, n, e⟩ := h
  exact ⟨_, e, rfl⟩
abbrev s_l_leaf : Stmt := topS 33
theorem sc_l_leaf : FnScope ["_law_flow_here", "_law_world", "_law_kind", "_law_some_here", "_law_number", "_law_form", "_law_k"] ["_law_flow_here", "_law_world", "_law_kind"] (defScope s_l_leaf) := ⟨rfl, rfl, rfl, by decide +kernel, rfl, by decide +kernel, by decide +kernel⟩
def spLeaf (K : PySem.W.Frag) : Sp := fun vs H Q _ => ∃ (f wd ka : Addr) (ks : List Bool) (k : Bool), vs = [.ref f, .ref wd, .str (kS k)] ∧ Flow H f ∧ Kin H wd ka ∧ SqT K H ka (kVs ks) ∧ ks.length ≤ 3 ∧
  ∀ (v : V) (p : Pg) (H' : Hp), Gr [] f H H' → At K H' v p → Wk ks p → own ks p = k → psz p = 1 → Q v H'
theorem ok_l_leaf (B : Bt mg) (C_l_draw : Cal P w K mg base 1 "_law_draw" ["_law_flow_here", "_law_many"] (spDraw)) (C_l_numeral : Cal P w K mg base 2 "_law_numeral" ["_law_flow_here"] (spNumeral)) (D : DefAt K mg "_law_leaf" s_l_leaf ["_law_flow_here", "_law_world", "_law_kind"]) : Cal P w K mg base 3 "_law_leaf" ["_law_flow_here", "_law_world", "_law_kind"] (spLeaf K) := by
  refine cal_of D sc_l_leaf (fun vs H Q E h => ?_) (fun f cdv A outer s H vs Q E hr h => ?_)
  · obtain ⟨f, wd, ka, ks, k, rfl, _⟩ := h
    rfl
  obtain ⟨f, wd, ka, ks, k, rfl, fl, ⟨kvs, hw, ekv⟩, hk, hk3, q⟩ := h
  have C_l_draw := C_l_draw.mono (k := 2) (by decide)
  have hr' : Room 2 _ := hr
  refine ⟨_, (pss_cons (ps_setLc (i := 3) (own := [("_law_k", 6)]) (g := gName 6) rfl sc_l_leaf.nd rfl rfl (sw_true rfl rfl rfl (by decide +kernel)) (pi_range1 (by rfl) B.range (pa_cons (pe_callB call_len_seq (by rfl) B.len PySem.boot_len (pa_cons (pe_dget (hu_of hr) (pv 1) pe_str (fun _ _ => rfl)) pa_nil)) pa_nil)) (blkOk_by (own := [("_law_k", 6)]) (N := ["_law_flow_here", "_law_world", "_law_kind", "_law_some_here", "_law_number", "_law_form", "_law_k"]) (sc := defScope s_l_leaf) (by decide +kernel)) (fun _ _ _ _ _ => (pg_name (i := 6) sc_l_leaf.nd rfl (.inl rfl))) (fun _ _ _ _ _ => (pts_one (pt_cmpR op_eq (pe_ix (ix_tupK (K := K) rfl) (pe_dget (hu_of hr) (pv 1) pe_str (fun _ _ => rfl)) (pv 6) (fun _ _ => rfl)) (pv 2) (nomark _)))) (fun _ _ _ _ _ => (pe_tup (pa_cons pe_str (pa_cons (pv 6) pa_nil)))))
      (pss_cons (ps_par (i := 4) (j := 5) rfl sc_l_leaf.nd rfl rfl (by decide) rfl rfl (pa_cons (pe_cal C_l_numeral hr' (by rfl) (pa_cons (pv 0) pa_nil)) (pa_cons (pe_cal C_l_draw hr' (by rfl) (pa_cons (pv 0) (pa_cons pe_int pa_nil))) pa_nil)) rfl)
      (pss_cons (ps_if (PW.pt (pw_and (pt_cmpR op_gt (pe_callB call_len_seq (by rfl) B.len PySem.boot_len (pa_cons (pv 3) pa_nil)) pe_int (nomark _)) (pw_and1 (pt_cmpR op_gt (pv 5) pe_int (nomark _)))))
        (pss_one (ps_ret (pe_ix ix_list (pv 3) (pe_cal C_l_draw hr' (by rfl) (pa_cons (pv 0) (pa_cons (pe_callB call_len_seq (by rfl) B.len PySem.boot_len (pa_cons (pv 3) pa_nil)) pa_nil))) (fun _ _ => rfl))))
        pss_nil)
      (pss_cons (ps_if (pt_cmpR op_eq (pv 2) pe_str (nomark _))
        (pss_one (ps_ret (pe_tup (pa_cons pe_str (pa_cons (pv 4) pa_nil)))))
        pss_nil)
      (pss_one (ps_ret (pe_ix ix_list (pe_lst (pa_cons (pe_tup (pa_cons pe_str pa_nil)) (pa_cons (pe_tup (pa_cons pe_str pa_nil)) pa_nil))) (pe_cal C_l_draw hr' (by rfl) (pa_cons (pv 0) (pa_cons pe_int pa_nil))) (fun _ _ => rfl)))))))), ?_⟩
  have dg : ∀ {H' : Hp}, H' wd = some (.dK kvs) → DGet H' wd (kV (Sum.inr "kinds")) (some (.ref ka)) := fun h => ekv ▸ DGet.k h
  have nwf : wd ≠ f := fun z => by
    obtain ⟨xs, e⟩ := fl.lst
    rw [z, e] at hw
    cases hw
  refine ⟨_, rfl, wd, .ref ka, rfl, dg hw, ka, _, rfl, .inr hk, (((kVs ks).length : Nat) : Int), rfl, by have := hk3; unfold kVs; rw [List.length_map]; omega, by unfold kVs; rw [List.length_map]; omega, fun D hD => lc_range (lo := 0) (n := (((kVs ks).length : Nat) : Int).toNat) (fun i H' => Same H H' ∧ ∃ acc, H' D = some (.lst acc) ∧ acc.length ≤ i ∧ ∀ v ∈ acc, ∃ j, ks[j]? = some k ∧ At K H' v (.inp j)) ?_ ?_ ?_⟩
  · exact ⟨same_new hD, [], upd_same, Nat.le_refl _, fun v hv => nomatch hv⟩
  · rintro i H' hi ⟨sm, acc, hA, hl, hP⟩
    have hi' : i < ks.length := by
      unfold kVs at hi
      rw [List.length_map] at hi
      omega
    have ek : (kVs ks)[i]? = some (.str (kS ks[i])) := by
      unfold kVs
      rw [List.getElem?_map, List.getElem?_eq_getElem hi']
      rfl
    refine ⟨rfl, _, rfl, wd, .ref ka, rfl, dg (sm _ _ hw), _, rfl, ka, _, _, _, rfl, rfl, Tp.same sm _ _ hk, at_of (j := i) (by omega) ek, _, rfl, rfl, _, rfl, ite2 (fun c => ?_) (fun c => ?_)⟩
    · have c' : V.str (kS ks[i]) = V.str (kS k) := of_decide_eq_true c
      have c2 : ks[i] = k := by
        generalize ks[i] = b at c'
        cases b <;> cases k <;> first | rfl | (exact absurd c' (by decide +kernel))
      refine ⟨_, rfl, (by show 2 ≤ sizeLine; decide), fun p hp => ⟨acc, ?_, smallL (by omega), ?_⟩⟩
      · rw [upd_ne (ne_of_none hA hp)]
        exact hA
      · have sp : Same H' (upd H' p (.tup [.str "in", .int (0 + (i : Int))])) := same_new hp
        have hD' : (upd H' p (.tup [.str "in", .int (0 + (i : Int))])) D = some (.lst acc) := sp _ _ hA
        have tp : Tp K H' (upd (upd H' p (.tup [.str "in", .int (0 + (i : Int))])) D (.lst (acc ++ [.ref p]))) := (Tp.same sp).trans (Tp.lst hD')
        refine ⟨fun b o z => ?_, acc ++ [.ref p], upd_same, by rw [List.length_append, List.length_singleton]; omega, fun v hv => ?_⟩
        · rw [upd_ne (ne_of_none z hD)]
          exact sp _ _ (sm _ _ z)
        · rcases List.mem_append.mp hv with z | z
          · obtain ⟨j, e1, e2⟩ := hP v z
            exact ⟨j, e1, e2.keep tp⟩
          · rw [List.mem_singleton.mp z]
            refine ⟨i, by rw [List.getElem?_eq_getElem hi', c2], ?_⟩
            have npD : p ≠ D := fun z => by
              rw [z, hA] at hp
              cases hp
            have ep : (upd (upd H' p (.tup [.str "in", .int (0 + (i : Int))])) D (.lst (acc ++ [.ref p]))) p = some (.tup [.str "in", .int (i : Int)]) := by
              rw [upd_ne npD, upd_same, Int.zero_add]
            exact .tup (.inl (.inl ep)) (.cons (.str _) (.cons (.int _) .nil))
    · exact ⟨sm, acc, hA, by omega, hP⟩
  · rintro H1 ⟨sm, acc, hA, hl, hP⟩
    have fl1 : Flow H1 f := by
      obtain ⟨x, y, z, e, r⟩ := fl
      exact ⟨x, y, z, sm _ _ e, r⟩
    have g1 : Gr [] f H H1 := ⟨Ex.of_same sm, fl1⟩
    have nDf : D ≠ f := fun z => by
      obtain ⟨xs, e⟩ := fl.lst
      rw [z, e] at hD
      cases hD
    refine ⟨_, rfl, f, rfl, fl1, fun num H2 n0 n1 g2 => ?_⟩
    refine ⟨_, rfl, f, 3, rfl, g2.fl, by decide, by decide, fun d H3 d0 d1 r3 => ⟨_, _, rfl, ?_⟩⟩
    have g3 : Gr [] f H1 H3 := g2.trans r3.gr
    have gH3 := g1.trans g3
    have hA3 : H3 D = some (.lst acc) := g3.ex D _ hA (by simp [nDf])
    have tp3 : Tp K H1 H3 := g3.tp fl1
    refine ⟨_, rfl, D, acc, rfl, .inl (SqL.of hA3), _, _, rfl, rfl, _, rfl, ?_⟩
    have last : (tSeq (tIfS (tTest (tOp rEq (tVar 2) (tC (V.str (Str.ofString "num"))))) (tRet (tTup (tCons (tC (V.str (Str.ofString "num"))) (tCons (tVar 4) tNil)))) tNext)
          (tRet (tOp (rIxL K) (tLst (tCons (tTup (tCons (tC (V.str (Str.ofString "yes"))) tNil)) (tCons (tTup (tCons (tC (V.str (Str.ofString "no"))) tNil)) tNil))) (tCall spDraw [] (fun x x_1 x_2 => False) (tCons (tVar 0) (tCons (tC (V.int 2)) tNil))))))
        { nx := fun x H' => Q V.non H', rt := Q } [some (.ref f), some (.ref wd), some (.str (kS k)), some (.ref D), some (.int num), some (.int d), none] H3 := by
      refine ⟨_, rfl, rfl, _, rfl, ite2 (fun c => ?_) (fun c => ?_)⟩
      · have c' : V.str (kS k) = V.str "num" := of_decide_eq_true c
        have ek : k = false := by
          cases k
          · rfl
          · exact absurd c' (by decide +kernel)
        subst ek
        refine ⟨_, rfl, (by show 2 ≤ sizeLine; decide), fun p hp => ?_⟩
        exact q _ (.num num) _ (gH3.trans (Gr.new gH3.fl hp)) (.tup (.inl (.inl upd_same)) (.cons (.str _) (.cons (.int _) .nil))) True.intro rfl rfl
      · have ek : k = true := by
          cases k
          · exact absurd (decide_eq_true rfl) c
          · rfl
        subst ek
        refine ⟨(by show 1 ≤ sizeLine; decide), fun p hp => ⟨(by show 1 ≤ sizeLine; decide), fun p2 hp2 => ⟨(by show 2 ≤ sizeLine; decide), fun l hl => ?_⟩⟩⟩
        have e1 : Gr [] f H (upd H3 p (.tup [.str "yes"])) := gH3.trans (Gr.new gH3.fl hp)
        have e2 := e1.trans (Gr.new (o := .tup [.str "no"]) e1.fl hp2)
        have e3 := e2.trans (Gr.new (o := .lst [.ref p, .ref p2]) e2.fl hl)
        have s2 : Same (upd H3 p (.tup [.str "yes"])) (upd (upd (upd H3 p (.tup [.str "yes"])) p2 (.tup [.str "no"])) l (.lst [.ref p, .ref p2])) := (same_new hp2).trans (same_new hl)
        have s3 : Same (upd (upd H3 p (.tup [.str "yes"])) p2 (.tup [.str "no"])) (upd (upd (upd H3 p (.tup [.str "yes"])) p2 (.tup [.str "no"])) l (.lst [.ref p, .ref p2])) := same_new hl
        refine ⟨_, rfl, f, 2, rfl, e3.fl, by decide, by decide, fun b H4 b0 b1 r4 => ?_⟩
        have e4 := e3.trans r4.gr
        have nlf : l ≠ f := fun z => by
          obtain ⟨xs, e⟩ := e2.fl.lst
          rw [z, e] at hl
          cases hl
        have hl4 : H4 l = some (.lst [.ref p, .ref p2]) := by
          rw [r4.off l nlf]
          exact upd_same
        have tp4 : Tp K _ H4 := r4.tp e3.fl
        rcases (show b = 0 ∨ b = 1 by omega) with z | z
        · subst z
          refine ⟨l, _, 0, .ref p, rfl, rfl, SqL.of hl4, rfl, q _ (.tr true) _ e4 ?_ True.intro rfl rfl⟩
          exact .tup (tp4 _ _ (.inl (.inl (s2 _ _ upd_same)))) (.cons (.str _) .nil)
        · subst z
          refine ⟨l, _, 1, .ref p2, rfl, rfl, SqL.of hl4, rfl, q _ (.tr false) _ e4 ?_ True.intro rfl rfl⟩
          exact .tup (tp4 _ _ (.inl (.inl (s3 _ _ upd_same)))) (.cons (.str _) .nil)
    refine ite2 (fun c => ?_) (fun c => ?_)
    · have c' : ((acc.length : Nat) : Int) > 0 := of_decide_eq_true c
      refine ⟨_, rfl, _, _, rfl, rfl, _, rfl, ite2 (fun c2 => ?_) (fun c2 => last)⟩
      refine ⟨_, rfl, _, rfl, _, rfl, D, acc, rfl, .inl (SqL.of hA3), f, _, rfl, g3.fl, c', ?_, fun j H4 j0 j1 r4 => ?_⟩
      · have : acc.length ≤ 3 := by
          unfold kVs at hl
          rw [List.length_map] at hl
          omega
        omega
      · have hA4 : H4 D = some (.lst acc) := by
          rw [r4.off D nDf]
          exact hA3
        have hj : j.toNat < acc.length := by omega
        obtain ⟨i, e1, e2⟩ := hP acc[j.toNat] (List.getElem_mem hj)
        refine ⟨D, acc, j, acc[j.toNat], rfl, rfl, SqL.of hA4, at_of (j := j.toNat) (by omega) (List.getElem?_eq_getElem hj), q _ (.inp i) _ (gH3.trans r4.gr) ((e2.keep tp3).keep (r4.tp g3.fl)) ?_ ?_ rfl⟩
        · exact (List.getElem?_eq_some_iff.mp e1).1
        · show ks.getD i false = k
          rw [List.getD_eq_getElem?_getD, e1]
          rfl
    · exact last
end
end Lm

set_option Elab.async false
set_option linter.all false
set_option maxRecDepth 100000
set_option maxHeartbeats 2000000
namespace Lm
open PySem PySem.Spec PyProof.Rows L2 LmR
/-- a loop over enumerate(list) -/
theorem for_enum {K : PySem.W.Frag} {a : Addr} {xs : List V} {g : TG} {tb : TS} {D : Ends} {σ : L2.St} {H : Hp} (Pv : Nat → L2.St → Hp → Prop) (h0 : Pv 0 σ H) (hq : ∀ i σ H, Pv i σ H → SqL K H a xs)
    (hs : ∀ (i : Nat) (x : V) (T : Addr) (σ : L2.St) (H : Hp), xs[i]? = some x → Pv i σ H → H T = none → g (.ref T) σ (upd H T (.tup [.int (i : Nat), x])) fun σ2 H2 => tb { D with nx := Pv (i + 1), ct := Pv (i + 1), bk := D.nx } σ2 H2) (hd : ∀ σ H, Pv xs.length σ H → D.nx σ H) :
    ∃ W : Nat → Nat → L2.St → Hp → Prop, (∃ m, W 0 m σ H) ∧ ∀ i m σ H, W i m σ H →
      ((Ite K a).stop i H ∧ D.nx σ H) ∨ ((Ite K a).go i H ∧ ∃ N : L2.St → Hp → Prop, (∀ σ' H', N σ' H' → ∃ m', m' < m ∧ W (i + 1) m' σ' H') ∧ ∀ v H', (Ite K a).yld i H v H' → g v σ H' fun σ2 H2 => tb { D with nx := N, ct := N, bk := D.nx } σ2 H2) := by
  refine ⟨fun i m σ H => m = xs.length - i ∧ i ≤ xs.length ∧ Pv i σ H, ⟨xs.length, rfl, Nat.zero_le _, h0⟩, ?_⟩
  rintro i m σ H ⟨rfl, hi, p⟩
  have qx := hq i σ H p
  by_cases hlt : i < xs.length
  · have hx : xs[i]? = some xs[i] := List.getElem?_eq_getElem hlt
    refine .inr ⟨⟨xs, _, qx, hx⟩, Pv (i + 1), fun σ' H' p' => ⟨xs.length - (i + 1), by omega, rfl, hlt, p'⟩, fun v H' y => ?_⟩
    obtain ⟨T, x', rfl, hT, rfl, f1⟩ := y
    exact hs i x' T σ H (f1 xs qx) p hT
  · have e : i = xs.length := by omega
    subst e
    exact .inl ⟨⟨xs, qx, Nat.le_refl _⟩, hd σ H p⟩
/-! ### the words that a program may be made with -/
inductive Ch where
  | plus
  | bin (w : Bw)
  | neg
  | ite
def Ch.str : Ch → Str
  | .plus => "plus"
  | .bin w => w.str
  | .neg => "not"
  | .ite => "if"
def Ch.fits (k : Bool) : Ch → Prop
  | .plus => k = false
  | .bin w => w.own = k
  | .neg => k = true
  | .ite => True
def Ch.ps (k : Bool) : Ch → List Bool
  | .plus => [false]
  | .bin w => [w.arg, w.arg]
  | .neg => [true]
  | .ite => [true, k, k]
def Ch.front (num : Int) : Ch → List V
  | .plus => [.str "plus", .int num]
  | .bin w => [.str w.str]
  | .neg => [.str "not"]
  | .ite => [.str "if"]
def Ch.sort : Ch → Str
  | .bin .least => "cmp"
  | .bin .most => "cmp"
  | .bin .atmost => "cmp"
  | .ite => "if"
  | _ => "any"
theorem map1 {α β : Type} {f : α → β} {l : List α} {x : β} (h : l.map f = [x]) : ∃ a, l = [a] ∧ f a = x := by
  match l, h with
  | [a], h => exact ⟨a, rfl, by simpa using h⟩
  | [], h => simp at h
  | a :: b :: r, h => simp at h
theorem map2 {α β : Type} {f : α → β} {l : List α} {x y : β} (h : l.map f = [x, y]) : ∃ a b, l = [a, b] ∧ f a = x ∧ f b = y := by
  match l, h with
  | [a, b], h => exact ⟨a, b, rfl, by simpa using h⟩
  | [], h => simp at h
  | [a], h => simp at h
  | a :: b :: c :: r, h => simp at h
theorem map3 {α β : Type} {f : α → β} {l : List α} {x y z : β} (h : l.map f = [x, y, z]) : ∃ a b c, l = [a, b, c] ∧ f a = x ∧ f b = y ∧ f c = z := by
  match l, h with
  | [a, b, c], h => exact ⟨a, b, c, rfl, by simpa using h⟩
  | [], h => simp at h
  | [a], h => simp at h
  | [a, b], h => simp at h
  | a :: b :: c :: d :: r, h => simp at h
/-- what is made of parts of the kinds due -/
theorem Ch.make {K : PySem.W.Frag} {H : Hp} {ks : List Bool} {k : Bool} {num : Int} (c : Ch) (hf : c.fits k) {t : Addr} {vs : List V} {ps : List Pg} (ha : Ats K H vs ps) (hw : ∀ p ∈ ps, Wk ks p) (hk : ps.map (own ks) = c.ps k)
    (ht : H t = some (.tup (c.front num ++ vs))) :
    ∃ p, At K H (.ref t) p ∧ Wk ks p ∧ own ks p = k ∧ psz p = 1 + (ps.map psz).sum := by
  cases c with
  | plus =>
    obtain ⟨a, rfl, e⟩ := map1 hk
    obtain ⟨v, rfl, h⟩ := ha.one
    exact ⟨.plus num a, .tup (.inl (.inl ht)) (.cons (.str _) (.cons (.int _) (.cons h .nil))), ⟨hw a (by simp), e⟩, hf.symm, by simp [psz]; omega⟩
  | bin w =>
    obtain ⟨a, b, rfl, e1, e2⟩ := map2 hk
    obtain ⟨u, v, rfl, h1, h2⟩ := ha.two
    exact ⟨.bin w a b, .tup (.inl (.inl ht)) (.cons (.str _) (.cons h1 (.cons h2 .nil))), ⟨hw a (by simp), hw b (by simp), e1, e2⟩, hf, by simp [psz]; omega⟩
  | neg =>
    obtain ⟨a, rfl, e⟩ := map1 hk
    obtain ⟨v, rfl, h⟩ := ha.one
    exact ⟨.neg a, .tup (.inl (.inl ht)) (.cons (.str _) (.cons h .nil)), ⟨hw a (by simp), e⟩, hf.symm, by simp [psz]; omega⟩
  | ite =>
    obtain ⟨p, a, b, rfl, e1, e2, e3⟩ := map3 hk
    obtain ⟨u, v, z, rfl, h1, h2, h3⟩ := ha.three
    exact ⟨.ite p a b, .tup (.inl (.inl ht)) (.cons (.str _) (.cons h1 (.cons h2 (.cons h3 .nil)))), ⟨hw p (by simp), hw a (by simp), hw b (by simp), e1, by rw [e2, e3]⟩, e2, by simp [psz]; omega⟩
theorem Gr.put {ws : List Addr} {f : Addr} {H H' : Hp} {p : Addr} {o : HO} (g : Gr ws f H H') (h : H p = none) (n : p ≠ f) : Gr ws f H (upd H' p o) := by
  refine ⟨fun b u hb nb => ?_, ?_⟩
  · rw [upd_ne (ne_of_none hb h)]
    exact g.ex b u hb nb
  · obtain ⟨x, y, z, e, r⟩ := g.fl
    exact ⟨x, y, z, by rw [upd_ne n.symm]; exact e, r⟩
section
variable {P : Program} {w : World} {K : PySem.W.Frag} {mg : Str → Option Value} {base : Heap}
abbrev s_l_made : Stmt := topS 34
theorem sc_l_made : FnScope ["_law_flow_here", "_law_world", "_law_kind", "_law_room", "_law_down", "_law_words", "_law_word", "_law_parts_here", "_law_sort", "_law_left", "_law_found", "_law_k", "_law_one", "_law_share"] ["_law_flow_here", "_law_world", "_law_kind", "_law_room", "_law_down"] (defScope s_l_made) := ⟨rfl, rfl, rfl, by decide +kernel, rfl, by decide +kernel, by decide +kernel⟩
def spMade (K : PySem.W.Frag) (n : Nat) : Sp := fun vs H Q _ => ∃ (f wd ka : Addr) (ks : List Bool) (k : Bool) (room down : Int), vs = [.ref f, .ref wd, .str (kS k), .int room, .int down] ∧ Flow H f ∧ Wld H wd ka ∧ SqT K H ka (kVs ks) ∧ ks.length ≤ 3 ∧ 1 ≤ room ∧ room ≤ 24 ∧ 0 ≤ down ∧ down < n ∧
  ∀ (v : V) (p : Pg) (H' : Hp), Gr [wd] f H H' → Wld H' wd ka → At K H' v p → Wk ks p → own ks p = k → (psz p : Int) ≤ room → Q v H'
theorem ok_l_made1 {n : Nat} (B : Bt mg) (C_l_draw : Cal P w K mg base 1 "_law_draw" ["_law_flow_here", "_law_many"] (spDraw)) (C_l_numeral : Cal P w K mg base 2 "_law_numeral" ["_law_flow_here"] (spNumeral)) (C_l_leaf : Cal P w K mg base 3 "_law_leaf" ["_law_flow_here", "_law_world", "_law_kind"] (spLeaf K)) (C_l_made : Cal P w K mg base (n + 3) "_law_made" ["_law_flow_here", "_law_world", "_law_kind", "_law_room", "_law_down"] (spMade K n)) (D : DefAt K mg "_law_made" s_l_made ["_law_flow_here", "_law_world", "_law_kind", "_law_room", "_law_down"]) : Cal P w K mg base (n + 3 + 1) "_law_made" ["_law_flow_here", "_law_world", "_law_kind", "_law_room", "_law_down"] (spMade K (n + 1)) := by
  refine cal_of D sc_l_made (fun vs H Q E h => ?_) (fun f cdv A outer s H vs Q E hr h => ?_)
  · obtain ⟨f, wd, ka, ks, k, room, down, rfl, _⟩ := h
    rfl
  obtain ⟨f, wd, ka, ks, k, room, down, rfl, fl, wl, hk, hk3, r1, r2, d0, d1, q⟩ := h
  have C_l_draw := C_l_draw.mono (k := n + 3) (by omega)
  have C_l_numeral := C_l_numeral.mono (k := n + 3) (by omega)
  have C_l_leaf := C_l_leaf.mono (k := n + 3) (by omega)
  have hr' : Room (n + 3) _ := hr
  refine ⟨_, (pss_cons (ps_set (i := 5) sc_l_made.nd rfl (.inl rfl) (pe_lst (pa_cons pe_str (pa_cons pe_str (pa_cons pe_str (pa_cons pe_str (pa_cons pe_str pa_nil)))))))
      (C8.pss_cut (ps_if (pt_cmpR op_eq (pv 2) pe_str (nomark _))
        (pss_one (ps_set (i := 5) sc_l_made.nd rfl (.inl rfl) (pe_lst (pa_cons pe_str (pa_cons pe_str (pa_cons pe_str (pa_cons pe_str (pa_cons pe_str (pa_cons pe_str pa_nil)))))))))
        pss_nil)
      (pss_cons (ps_set (i := 6) sc_l_made.nd rfl (.inl rfl) (pe_ix ix_list (pv 5) (pe_cal C_l_draw hr' (by rfl) (pa_cons (pv 0) (pa_cons (pe_callB call_len_seq (by rfl) B.len PySem.boot_len (pa_cons (pv 5) pa_nil)) pa_nil))) (fun _ _ => rfl)))
      (pss_cons (ps_set (i := 7) sc_l_made.nd rfl (.inl rfl) (pe_dget1 (hu_of hr) (pe_disp (pps_cons pe_str (pe_lst (pa_cons pe_str pa_nil)) (pps_cons pe_str (pe_lst (pa_cons pe_str pa_nil)) (pps_cons pe_str (pe_lst (pa_cons pe_str (pa_cons pe_str pa_nil))) (pps_cons pe_str (pe_lst (pa_cons pe_str (pa_cons pe_str pa_nil))) pps_nil)))) (by rfl) (by rfl) (fun z => by cases z) (by decide)) (pv 6) (by constructor <;> rfl)))
      (C8.pss_cut (ps_if (pt_cmpR op_isN (pv 7) pe_non (nomark _))
        (pss_one (ps_set (i := 7) sc_l_made.nd rfl (.inl rfl) (pe_lst (pa_cons pe_str (pa_cons pe_str pa_nil)))))
        pss_nil)
      (C8.pss_cut (ps_if (pt_cmpR op_eq (pv 6) pe_str (nomark _))
        (pss_one (ps_set (i := 7) sc_l_made.nd rfl (.inl rfl) (pe_lst (pa_cons pe_str (pa_cons (pv 2) (pa_cons (pv 2) pa_nil))))))
        pss_nil)
      (pss_cons (ps_set (i := 8) sc_l_made.nd rfl (.inl rfl) (pe_dget2 (hu_of hr) (pe_disp (pps_cons pe_str pe_str (pps_cons pe_str pe_str (pps_cons pe_str pe_str (pps_cons pe_str pe_str pps_nil)))) (by rfl) (by rfl) (fun z => by cases z) (by decide)) (pv 6) pe_str (by constructor <;> rfl)))
      (pss_cons (ps_if (PW.pt (pw_or (pt_cmpR op_le (pv 3) (pe_callB call_len_seq (by rfl) B.len PySem.boot_len (pa_cons (pv 7) pa_nil)) (nomark _)) (pw_or (pt_cmpR op_eq (pv 4) pe_int (nomark _)) (pw_or (pt_cmpR op_eq (pe_dget (hu_of hr) (pv 1) (pv 8) (fun _ _ => rfl)) pe_int (nomark _)) (pw_or1 (pt_cmpR op_eq (pe_cal C_l_draw hr' (by rfl) (pa_cons (pv 0) (pa_cons (pe_op op_add pe_int (pv 3)) pa_nil))) pe_int (nomark _)))))))
        (pss_one (ps_ret (pe_cal C_l_leaf hr' (by rfl) (pa_cons (pv 0) (pa_cons (pv 1) (pa_cons (pv 2) pa_nil))))))
        pss_nil)
      (pss_cons (ps_dput (hu_of hr) (pv 1) (pv 8) (pe_op op_sub (pe_dget (hu_of hr) (pv 1) (pv 8) (fun _ _ => rfl)) pe_int) rfl)
      (pss_cons (ps_par (i := 9) (j := 10) rfl sc_l_made.nd rfl rfl (by decide) rfl rfl (pa_cons (pe_op op_sub (pv 3) pe_int) (pa_cons (pe_lst (pa_cons (pv 6) pa_nil)) pa_nil)) rfl)
      (C8.pss_cut (ps_if (pt_cmpR op_eq (pv 6) pe_str (nomark _))
        (pss_one (ps_expr (pe_bm PySem.F.plainAttrs_list PySem.F.slot_list_append PySem.F.type_list_append mt_append (pv 10) (pa_cons (pe_cal C_l_numeral hr' (by rfl) (pa_cons (pv 0) pa_nil)) pa_nil))))
        pss_nil)
      (pss_cons (ps_for PassesOwn.never rfl (pi_enum (by rfl) B.enumerate (pa_cons (pv 7) pa_nil)) (pg_tup rfl (pgs_cons (pg_name (i := 11) sc_l_made.nd rfl (.inl rfl)) (pgs_cons (pg_name (i := 12) sc_l_made.nd rfl (.inl rfl)) pgs_nil)))
        (pss_cons (ps_set (i := 13) sc_l_made.nd rfl (.inl rfl) (pe_op op_add pe_int (pe_cal C_l_draw hr' (by rfl) (pa_cons (pv 0) (pa_cons (pe_op op_sub (pv 9) (pe_op op_sub (pe_op op_sub (pe_callB call_len_seq (by rfl) B.len PySem.boot_len (pa_cons (pv 7) pa_nil)) (pv 11)) pe_int)) pa_nil)))))
      (pss_cons (ps_set (i := 9) sc_l_made.nd rfl (.inl rfl) (pe_op op_sub (pv 9) (pv 13)))
      (pss_one (ps_expr (pe_bm PySem.F.plainAttrs_list PySem.F.slot_list_append PySem.F.type_list_append mt_append (pv 10) (pa_cons (pe_cal C_l_made hr' (by rfl) (pa_cons (pv 0) (pa_cons (pv 1) (pa_cons (pv 12) (pa_cons (pv 13) (pa_cons (pe_op op_sub (pv 4) pe_int) pa_nil)))))) pa_nil)))))))
      (pss_one (ps_ret (pe_callTy call_tuple_of (by rfl) B.tuple PyProof.Rows.boot_tuple (pa_cons (pv 10) pa_nil)))))))))))))))), ?_⟩
  obtain ⟨wc, wi, wn, hw⟩ := wl
  have nwf : wd ≠ f := fun z => by
    obtain ⟨xs, e⟩ := fl.lst
    rw [z, e] at hw
    cases hw
  -- words
  refine ⟨(by show 5 ≤ sizeLine; decide), fun l1 hl1 => ?_⟩
  refine ⟨fun σ' H' => ∃ (l : Addr) (ws : List V), σ' = [some (.ref f), some (.ref wd), some (.str (kS k)), some (.int room), some (.int down), some (.ref l), none, none, none, none, none, none, none, none] ∧ Same H H' ∧ H l = none ∧ H' l = some (.lst ws) ∧ 5 ≤ ws.length ∧ ws.length ≤ 6 ∧ ∀ v ∈ ws, ∃ c : Ch, c.fits k ∧ v = .str c.str, ?_, ?_⟩
  · refine ⟨_, rfl, rfl, _, rfl, ite2 (fun c => ?_) (fun c => ?_)⟩
    · have c' : V.str (kS k) = V.str "truth" := of_decide_eq_true c
      have ek : k = true := by
        cases k
        · exact absurd c' (by decide +kernel)
        · rfl
      subst ek
      refine ⟨(by show 6 ≤ sizeLine; decide), fun l2 hl2 => ?_⟩
      refine ⟨l2, _, rfl, (same_new hl1).trans (same_new hl2), (same_new hl1).free hl2, upd_same, (by show 5 ≤ 6; decide), (by show 6 ≤ 6; decide), fun v hv => ?_⟩
      simp only [List.mem_cons, List.not_mem_nil, or_false] at hv
      rcases hv with rfl | rfl | rfl | rfl | rfl | rfl
      · exact ⟨.bin .atmost, rfl, rfl⟩
      · exact ⟨.neg, rfl, rfl⟩
      · exact ⟨.bin .both, rfl, rfl⟩
      · exact ⟨.bin .either, rfl, rfl⟩
      · exact ⟨.bin .atmost, rfl, rfl⟩
      · exact ⟨.ite, True.intro, rfl⟩
    · have ek : k = false := by
        cases k
        · rfl
        · exact absurd (decide_eq_true rfl) c
      subst ek
      refine ⟨l1, _, rfl, same_new hl1, hl1, upd_same, (by show 5 ≤ 5; decide), (by show 5 ≤ 6; decide), fun v hv => ?_⟩
      simp only [List.mem_cons, List.not_mem_nil, or_false] at hv
      rcases hv with rfl | rfl | rfl | rfl | rfl
      · exact ⟨.plus, rfl, rfl⟩
      · exact ⟨.bin .least, rfl, rfl⟩
      · exact ⟨.bin .most, rfl, rfl⟩
      · exact ⟨.plus, rfl, rfl⟩
      · exact ⟨.ite, True.intro, rfl⟩
  rintro _ H1 ⟨l, ws, rfl, sm1, hl0, hl, len5, len6, hws⟩
  have fl1 : Flow H1 f := by
    obtain ⟨x, y, z, e, r⟩ := fl
    exact ⟨x, y, z, sm1 _ _ e, r⟩
  have nlf : l ≠ f := fun z => by
    obtain ⟨xs, e⟩ := fl.lst
    rw [z, e] at hl0
    cases hl0
  -- word
  refine ⟨_, rfl, _, rfl, _, rfl, l, ws, rfl, .inl (SqL.of hl), f, _, rfl, fl1, by omega, by omega, fun j H2 j0 j1 dr2 => ?_⟩
  have hj : j.toNat < ws.length := by omega
  obtain ⟨c, hc, ec⟩ := hws ws[j.toNat] (List.getElem_mem hj)
  refine ⟨l, ws, j, .str c.str, rfl, rfl, SqL.of (by rw [dr2.off l nlf]; exact hl), at_of (j := j.toNat) (by omega) (by rw [← ec]; exact List.getElem?_eq_getElem hj), ?_⟩
  have g2 : Gr [] f H H2 := (⟨Ex.of_same sm1, fl1⟩ : Gr [] f H H1).trans dr2.gr
  have hw2 : H2 wd = some (.dK (wKV ka wc wi wn)) := by
    rw [dr2.off wd nwf]
    exact sm1 _ _ hw
  have hk2 : SqT K H2 ka (kVs ks) := g2.tp fl _ _ hk
  clear dr2 hws
  -- parts
  refine fun dd hdd => ?_
  have sA : Same H2 (upd H2 dd (.dK [])) := same_new hdd
  refine ⟨(by show 1 ≤ sizeLine; decide), fun p1 hp1 => ⟨(by show 1 ≤ sizeLine; decide), fun p2 hp2 => ⟨(by show 2 ≤ sizeLine; decide), fun p3 hp3 => ⟨(by show 2 ≤ sizeLine; decide), fun p4 hp4 => ?_⟩⟩⟩⟩
  have sB := same_new (o := .lst [V.str (Str.ofString "num")]) hp1
  have sC := same_new (o := .lst [V.str (Str.ofString "truth")]) hp2
  have sD := same_new (o := .lst [V.str (Str.ofString "truth"), V.str (Str.ofString "truth")]) hp3
  have sE := same_new (o := .lst [V.str (Str.ofString "truth"), V.str (Str.ofString "truth")]) hp4
  have e1 := (sC.trans (sD.trans sE)) p1 _ upd_same
  have e2 := (sD.trans sE) p2 _ upd_same
  have e3 := sE p3 _ upd_same
  have e4 : (upd _ p4 (HO.lst [V.str (Str.ofString "truth"), V.str (Str.ofString "truth")])) p4 = _ := upd_same (H := (upd (upd (upd (upd H2 dd (HO.dK [])) p1 (HO.lst [V.str (Str.ofString "num")])) p2 (HO.lst [V.str (Str.ofString "truth")])) p3 (HO.lst [V.str (Str.ofString "truth"), V.str (Str.ofString "truth")])))
  have eD := (sB.trans (sC.trans (sD.trans sE))) dd _ upd_same
  have sM := sA.trans (sB.trans (sC.trans (sD.trans sE)))
  generalize upd (upd (upd (upd (upd H2 dd (HO.dK [])) p1 (HO.lst [V.str (Str.ofString "num")])) p2 (HO.lst [V.str (Str.ofString "truth")])) p3 (HO.lst [V.str (Str.ofString "truth"), V.str (Str.ofString "truth")])) p4 (HO.lst [V.str (Str.ofString "truth"), V.str (Str.ofString "truth")]) = H3 at e1 e2 e3 e4 eD sM
  clear sB sC sD sE hp1 hp2 hp3 hp4 sA
  refine ⟨eD, [(Sum.inr "plus", .ref p1), (Sum.inr "not", .ref p2), (Sum.inr "both", .ref p3), (Sum.inr "either", .ref p4)], rfl, (by show 4 ≤ 15; decide), ?_⟩
  have nd1 : p1 ≠ dd := fun z => by rw [z, eD] at e1; cases e1
  have nd2 : p2 ≠ dd := fun z => by rw [z, eD] at e2; cases e2
  have nd3 : p3 ≠ dd := fun z => by rw [z, eD] at e3; cases e3
  have nd4 : p4 ≠ dd := fun z => by rw [z, eD] at e4; cases e4
  have sN : Same H2 (upd H3 dd (.dK (mergeK [] [(Sum.inr "plus", .ref p1), (Sum.inr "not", .ref p2), (Sum.inr "both", .ref p3), (Sum.inr "either", .ref p4)]))) := fun b o z => by
    rw [upd_ne (ne_of_none z hdd)]
    exact sM b o z
  have f1 : (upd H3 dd (.dK (mergeK [] [(Sum.inr "plus", .ref p1), (Sum.inr "not", .ref p2), (Sum.inr "both", .ref p3), (Sum.inr "either", .ref p4)]))) p1 = some (.lst [V.str (Str.ofString "num")]) := by rw [upd_ne nd1]; exact e1
  have f2 : (upd H3 dd (.dK (mergeK [] [(Sum.inr "plus", .ref p1), (Sum.inr "not", .ref p2), (Sum.inr "both", .ref p3), (Sum.inr "either", .ref p4)]))) p2 = some (.lst [V.str (Str.ofString "truth")]) := by rw [upd_ne nd2]; exact e2
  have f3 : (upd H3 dd (.dK (mergeK [] [(Sum.inr "plus", .ref p1), (Sum.inr "not", .ref p2), (Sum.inr "both", .ref p3), (Sum.inr "either", .ref p4)]))) p3 = some (.lst [V.str (Str.ofString "truth"), V.str (Str.ofString "truth")]) := by rw [upd_ne nd3]; exact e3
  have f4 : (upd H3 dd (.dK (mergeK [] [(Sum.inr "plus", .ref p1), (Sum.inr "not", .ref p2), (Sum.inr "both", .ref p3), (Sum.inr "either", .ref p4)]))) p4 = some (.lst [V.str (Str.ofString "truth"), V.str (Str.ofString "truth")]) := by rw [upd_ne nd4]; exact e4
  have fD : (upd H3 dd (.dK (mergeK [] [(Sum.inr "plus", .ref p1), (Sum.inr "not", .ref p2), (Sum.inr "both", .ref p3), (Sum.inr "either", .ref p4)]))) dd = some (.dK (mergeK [] [(Sum.inr "plus", .ref p1), (Sum.inr "not", .ref p2), (Sum.inr "both", .ref p3), (Sum.inr "either", .ref p4)])) := upd_same
  generalize upd H3 dd (.dK (mergeK [] [(Sum.inr "plus", .ref p1), (Sum.inr "not", .ref p2), (Sum.inr "both", .ref p3), (Sum.inr "either", .ref p4)])) = H4 at sN f1 f2 f3 f4 fD
  clear e1 e2 e3 e4 eD sM nd1 nd2 nd3 nd4 hdd
  refine ⟨dd, rfl, .inl ⟨_, .inl fD⟩, _, rfl, _, DGet.k (k := Sum.inr c.str) fD, ?_⟩
  refine ⟨fun σ' H' => ∃ pl : Addr, σ' = [some (V.ref f), some (.ref wd), some (.str (kS k)), some (.int room), some (.int down), some (.ref l), some (.str c.str), some (.ref pl), none, none, none, none, none, none] ∧ Same H4 H' ∧ (c.str ≠ "if" → H' pl = some (.lst ((c.ps k).map fun b => V.str (kS b)))), ?_, ?_⟩
  · have non : ∀ a : Addr, decide (V.ref a = V.non) = true → False := fun a z => nomatch (of_decide_eq_true z)
    have mk2 : ∀ (Q' : L2.St → Hp → Prop), True := fun _ => True.intro
    cases c with
    | plus => exact ⟨_, rfl, rfl, _, rfl, ite2 (fun z => (non p1 z).elim) (fun _ => ⟨p1, rfl, Same.refl _, fun _ => f1⟩)⟩
    | neg => exact ⟨_, rfl, rfl, _, rfl, ite2 (fun z => (non p2 z).elim) (fun _ => ⟨p2, rfl, Same.refl _, fun _ => f2⟩)⟩
    | ite => exact ⟨_, rfl, rfl, _, rfl, ite2 (fun _ => ⟨(by show 2 ≤ sizeLine; decide), fun p hp => ⟨p, rfl, same_new hp, fun z => absurd rfl z⟩⟩) (fun z => absurd (decide_eq_true rfl) z)⟩
    | bin w =>
      cases w with
      | both => exact ⟨_, rfl, rfl, _, rfl, ite2 (fun z => (non p3 z).elim) (fun _ => ⟨p3, rfl, Same.refl _, fun _ => f3⟩)⟩
      | either => exact ⟨_, rfl, rfl, _, rfl, ite2 (fun z => (non p4 z).elim) (fun _ => ⟨p4, rfl, Same.refl _, fun _ => f4⟩)⟩
      | least => exact ⟨_, rfl, rfl, _, rfl, ite2 (fun _ => ⟨(by show 2 ≤ sizeLine; decide), fun p hp => ⟨p, rfl, same_new hp, fun _ => upd_same⟩⟩) (fun z => absurd (decide_eq_true rfl) z)⟩
      | most => exact ⟨_, rfl, rfl, _, rfl, ite2 (fun _ => ⟨(by show 2 ≤ sizeLine; decide), fun p hp => ⟨p, rfl, same_new hp, fun _ => upd_same⟩⟩) (fun z => absurd (decide_eq_true rfl) z)⟩
      | atmost => exact ⟨_, rfl, rfl, _, rfl, ite2 (fun _ => ⟨(by show 2 ≤ sizeLine; decide), fun p hp => ⟨p, rfl, same_new hp, fun _ => upd_same⟩⟩) (fun z => absurd (decide_eq_true rfl) z)⟩
  rintro _ H5 ⟨pl, rfl, s5, hpl⟩
  refine ⟨fun σ' H' => ∃ pl : Addr, σ' = [some (V.ref f), some (.ref wd), some (.str (kS k)), some (.int room), some (.int down), some (.ref l), some (.str c.str), some (.ref pl), none, none, none, none, none, none] ∧ Same H4 H' ∧ H' pl = some (.lst ((c.ps k).map fun b => V.str (kS b))), ?_, ?_⟩
  · refine ⟨_, rfl, rfl, _, rfl, ite2 (fun z => ?_) (fun z => ?_)⟩
    · have z' : V.str c.str = V.str "if" := of_decide_eq_true z
      have ec : c = .ite := by
        cases c with
        | plus => exact absurd z' (by decide +kernel)
        | neg => exact absurd z' (by decide +kernel)
        | ite => rfl
        | bin w => cases w <;> exact absurd z' (by decide +kernel)
      subst ec
      exact ⟨_, rfl, _, rfl, (by show 3 ≤ sizeLine; decide), fun p hp => ⟨p, rfl, s5.trans (same_new hp), upd_same⟩⟩
    · exact ⟨pl, rfl, s5, hpl fun e => z (decide_eq_true (by rw [e]))⟩
  clear hpl s5 f1 f2 f3 f4 fD
  rintro _ H6 ⟨pl', rfl, s6, hpl⟩
  have sH : Same H2 H6 := sN.trans s6
  have g6 : Gr [] f H H6 := g2.trans ⟨Ex.of_same sH, by
    obtain ⟨x, y, z, e, r⟩ := g2.fl
    exact ⟨x, y, z, sH _ _ e, r⟩⟩
  have hw6 := sH _ _ hw2
  have hk6 : SqT K H6 ka (kVs ks) := Tp.same sH _ _ hk2
  clear sN s6 sH hk2 hw2 g2 hl
  -- sort
  refine fun de hde => ⟨upd_same, [(Sum.inr "least", .str "cmp"), (Sum.inr "most", .str "cmp"), (Sum.inr "atmost", .str "cmp"), (Sum.inr "if", .str "if")], rfl, (by show 4 ≤ 15; decide), ?_⟩
  have s7 : Same H6 (upd (upd H6 de (.dK [])) de (.dK (mergeK [] [(Sum.inr "least", .str "cmp"), (Sum.inr "most", .str "cmp"), (Sum.inr "atmost", .str "cmp"), (Sum.inr "if", .str "if")]))) := fun b o z => by
    rw [upd_ne (ne_of_none z hde), upd_ne (ne_of_none z hde)]
    exact z
  refine ⟨de, rfl, .inl ⟨_, .inl upd_same⟩, _, rfl, _, DGet.k (k := Sum.inr c.str) upd_same, ?_⟩
  have esort : (Option.getD (valV (mergeK [] [(Sum.inr "least", V.str "cmp"), (Sum.inr "most", .str "cmp"), (Sum.inr "atmost", .str "cmp"), (Sum.inr "if", .str "if")]) (Sum.inr c.str)) (V.str "any")) = .str c.sort := by
    cases c with
    | plus => rfl
    | neg => rfl
    | ite => rfl
    | bin w => cases w <;> rfl
  rw [esort]
  generalize upd (upd H6 de (.dK [])) de (.dK (mergeK [] [(Sum.inr "least", .str "cmp"), (Sum.inr "most", .str "cmp"), (Sum.inr "atmost", .str "cmp"), (Sum.inr "if", .str "if")])) = H7 at s7
  have g7 : Gr [] f H H7 := g6.trans ⟨Ex.of_same s7, by
    obtain ⟨x, y, z, e, r⟩ := g6.fl
    exact ⟨x, y, z, s7 _ _ e, r⟩⟩
  have hw7 := s7 _ _ hw6
  have hk7 : SqT K H7 ka (kVs ks) := Tp.same s7 _ _ hk6
  have hp7 := s7 _ _ hpl
  clear s7 hk6 hw6 g6 hpl esort hde
  obtain ⟨wz, ewz⟩ : ∃ z : Int, valV (wKV ka wc wi wn) (Sum.inr c.sort) = some (.int z) := by
    cases c with
    | plus => exact ⟨_, rfl⟩
    | neg => exact ⟨_, rfl⟩
    | ite => exact ⟨_, rfl⟩
    | bin w => cases w <;> exact ⟨_, rfl⟩
  have gw7 : DGet H7 wd (.str c.sort) (some (.int wz)) := ewz ▸ DGet.k (k := Sum.inr c.sort) hw7
  -- a leaf, from wherever it is asked
  have hlen : ((c.ps k).map fun b => V.str (kS b)).length = (c.ps k).length := List.length_map _
  have lf : ∀ H8 : Hp, Gr [] f H H8 → H8 wd = some (.dK (wKV ka wc wi wn)) → SqT K H8 ka (kVs ks) → spLeaf K [.ref f, .ref wd, .str (kS k)] H8 Q (fun _ _ _ => False) := fun H8 g8 w8 k8 =>
    ⟨f, wd, ka, ks, k, rfl, g8.fl, ⟨_, w8, rfl⟩, k8, hk3, fun v p H' g a wk ow sz => q v p H' ((g8.trans g).mono fun b hb => nomatch hb) ⟨_, _, _, g.ex wd _ w8 (by simp [nwf])⟩ a wk ow (by rw [sz]; omega)⟩
  refine ⟨_, rfl, _, rfl, pl', _, rfl, .inl (SqL.of hp7), _, _, rfl, rfl, _, rfl, ite2 (fun _ => ⟨_, rfl, _, rfl, _, rfl, lf H7 g7 hw7 hk7⟩) (fun t1 => ?_)⟩
  refine ⟨_, rfl, rfl, _, rfl, ite2 (fun _ => ⟨_, rfl, _, rfl, _, rfl, lf H7 g7 hw7 hk7⟩) (fun t2 => ?_)⟩
  refine ⟨_, rfl, _, rfl, wd, .int wz, rfl, gw7, rfl, _, rfl, ite2 (fun _ => ⟨_, rfl, _, rfl, _, rfl, lf H7 g7 hw7 hk7⟩) (fun t3 => ?_)⟩
  refine ⟨_, rfl, _, rfl, _, _, rfl, rfl, f, 5 + room, rfl, g7.fl, by omega, by omega, fun d8 H8 _ _ dr8 => ?_⟩
  have g8 : Gr [] f H H8 := g7.trans dr8.gr
  have hw8 : H8 wd = some (.dK (wKV ka wc wi wn)) := by rw [dr8.off wd nwf]; exact hw7
  have hk8 : SqT K H8 ka (kVs ks) := dr8.tp g7.fl _ _ hk7
  have npf : pl' ≠ f := fun z => by
    obtain ⟨xs, e⟩ := g7.fl
    obtain ⟨_, _, e, _⟩ := e
    rw [z, e] at hp7
    have := congrArg (fun o => match o with | some (HO.lst (V.int _ :: _)) => true | _ => false) hp7
    cases c with
    | plus => exact absurd this (by simp [Ch.ps])
    | neg => exact absurd this (by simp [Ch.ps])
    | ite => exact absurd this (by simp [Ch.ps])
    | bin w => exact absurd this (by simp [Ch.ps])
  have npw : pl' ≠ wd := fun z => by
    rw [z, hw7] at hp7
    cases hp7
  have hp8 : H8 pl' = some (.lst ((c.ps k).map fun b => V.str (kS b))) := by rw [dr8.off pl' npf]; exact hp7
  refine ⟨rfl, _, rfl, ite2 (fun _ => ⟨_, rfl, _, rfl, _, rfl, lf H8 g8 hw8 hk8⟩) (fun t4 => ?_)⟩
  have room1 : ((c.ps k).length : Int) < room := by
    have z := of_decide_eq_false (Bool.eq_false_iff.mpr t1)
    rw [hlen] at z
    omega
  have down1 : down ≠ 0 := fun z => t2 (decide_eq_true (by rw [z]))
  clear t1 t2 t3 t4 gw7 hp7 hk7 hw7 lf
  -- world[sort] -= 1
  have gw8 : DGet H8 wd (.str c.sort) (some (.int wz)) := ewz ▸ DGet.k (k := Sum.inr c.sort) hw8
  refine ⟨_, rfl, _, rfl, wd, .int wz, rfl, gw8, _, _, rfl, rfl, _, rfl, _, rfl, wd, _, rfl, DPut.k (k := Sum.inr c.sort) hw8 (by show 4 < sizeLine; decide), ?_⟩
  obtain ⟨c9, i9, n9, e9⟩ : ∃ c9 i9 n9 : Int, putK (wKV ka wc wi wn) (Sum.inr c.sort) (.int (wz - 1)) = wKV ka c9 i9 n9 := by
    cases c with
    | plus => exact ⟨_, _, _, wp_any ..⟩
    | neg => exact ⟨_, _, _, wp_any ..⟩
    | ite => exact ⟨_, _, _, wp_if ..⟩
    | bin w =>
      cases w with
      | least => exact ⟨_, _, _, wp_cmp ..⟩
      | most => exact ⟨_, _, _, wp_cmp ..⟩
      | atmost => exact ⟨_, _, _, wp_cmp ..⟩
      | both => exact ⟨_, _, _, wp_any ..⟩
      | either => exact ⟨_, _, _, wp_any ..⟩
  rw [e9]
  have hw9 : (upd H8 wd (.dK (wKV ka c9 i9 n9))) wd = some (.dK (wKV ka c9 i9 n9)) := upd_same
  have g9 : Gr [wd] f H (upd H8 wd (.dK (wKV ka c9 i9 n9))) := by
    refine (g8.mono fun b hb => nomatch hb).trans ⟨Ex.at (by simp), ?_⟩
    obtain ⟨x, y, z, e, r⟩ := g8.fl
    exact ⟨x, y, z, by rw [upd_ne nwf.symm]; exact e, r⟩
  have hk9 : SqT K (upd H8 wd (.dK (wKV ka c9 i9 n9))) ka (kVs ks) := Tp.dct hw8 _ _ hk8
  have hp9 : (upd H8 wd (.dK (wKV ka c9 i9 n9))) pl' = some (.lst ((c.ps k).map fun b => V.str (kS b))) := by rw [upd_ne npw]; exact hp8
  generalize upd H8 wd (.dK (wKV ka c9 i9 n9)) = H9 at hw9 g9 hk9 hp9
  clear e9 gw8 hw8 hk8 hp8 dr8 ewz g8
  -- left, found
  refine ⟨_, rfl, _, _, rfl, rfl, _, rfl, (by show 1 ≤ sizeLine; decide), fun fo hfo => ⟨_, _, rfl, ?_⟩⟩
  have s10 : Same H9 (upd H9 fo (.lst [V.str c.str])) := same_new hfo
  have nfo : fo ≠ f ∧ fo ≠ wd ∧ fo ≠ pl' := by
    obtain ⟨xs, e⟩ := g9.fl.lst
    exact ⟨(ne_of_none e hfo).symm, (ne_of_none hw9 hfo).symm, (ne_of_none hp9 hfo).symm⟩
  have fo0 : H fo = none := g9.ex.free hfo (by simp [nfo.1, nfo.2.1])
  have fo10 : (upd H9 fo (.lst [V.str c.str])) fo = some (.lst [V.str c.str]) := upd_same
  have g10 : Gr [wd] f H (upd H9 fo (.lst [V.str c.str])) := g9.trans (Gr.new g9.fl hfo)
  have hw10 := s10 _ _ hw9
  have hk10 : SqT K _ ka (kVs ks) := Tp.same s10 _ _ hk9
  have hp10 := s10 _ _ hp9
  generalize upd H9 fo (.lst [V.str c.str]) = H10 at fo10 g10 hw10 hk10 hp10
  clear hfo s10 hw9 hk9 hp9 g9
  refine ⟨fun σ' H' => ∃ num : Int, σ' = [some (V.ref f), some (.ref wd), some (.str (kS k)), some (.int room), some (.int down), some (.ref l), some (.str c.str), some (.ref pl'), some (.str c.sort), some (.int (room - 1)), some (.ref fo), none, none, none] ∧ Gr [wd] f H H' ∧ Wld H' wd ka ∧ SqT K H' ka (kVs ks) ∧ H' pl' = some (.lst ((c.ps k).map fun b => V.str (kS b))) ∧ H' fo = some (.lst (c.front num)), ?_, ?_⟩
  · refine ⟨_, rfl, rfl, _, rfl, ite2 (fun z => ?_) (fun z => ?_)⟩
    · have z' : V.str c.str = V.str "plus" := of_decide_eq_true z
      have ec : c = .plus := by
        cases c with
        | plus => rfl
        | neg => exact absurd z' (by decide +kernel)
        | ite => exact absurd z' (by decide +kernel)
        | bin w => cases w <;> exact absurd z' (by decide +kernel)
      subst ec
      refine ⟨_, rfl, .inl ⟨rfl, _, SqL.of fo10⟩, _, rfl, f, rfl, g10.fl, fun num H11 _ _ g11 => ?_⟩
      have fo11 : H11 fo = some (.lst [V.str Ch.plus.str]) := g11.ex _ _ fo10 (by simp [nfo.1])
      have hw11 := g11.ex _ _ hw10 (by simp [nwf])
      have hp11 := g11.ex _ _ hp10 (by simp [npf])
      have hk11 : SqT K H11 ka (kVs ks) := g11.tp g10.fl _ _ hk10
      refine ⟨fo, _, _, rfl, rfl, fo11, (by show 1 < sizeLine; decide), num, rfl, (g10.trans (g11.mono fun b hb => nomatch hb)).put fo0 nfo.1, ⟨_, _, _, by rw [upd_ne nfo.2.1.symm]; exact hw11⟩, Tp.lst fo11 _ _ hk11, by rw [upd_ne nfo.2.2.symm]; exact hp11, upd_same⟩
    · refine ⟨0, rfl, g10, ⟨_, _, _, hw10⟩, hk10, hp10, ?_⟩
      rw [fo10]
      cases c with
      | plus => exact absurd (decide_eq_true rfl) z
      | neg => rfl
      | ite => rfl
      | bin w => rfl
  clear fo10 g10 hw10 hk10 hp10
  rintro _ H11 ⟨num, rfl, g11, wl11, hk11, hp11, fo11⟩
  have flen : (c.front num).length ≤ 2 := by cases c <;> simp [Ch.front]
  have plen : (c.ps k).length ≤ 3 := by cases c <;> simp [Ch.ps]
  have gfo : ∀ {H' H'' : Hp} {vs : List V}, Gr [wd] f H' H'' → H' fo = some (.lst vs) → H'' fo = some (.lst vs) := fun g e => g.ex _ _ e (by simp [nfo.1, nfo.2.1])
  refine ⟨_, rfl, pl', _, rfl, SqL.of hp11, for_enum (K := K) (a := pl') (xs := (c.ps k).map fun b => V.str (kS b)) (fun i σ' H' => ∃ (left : Int) (vs : List V) (ps : List Pg) (y1 y2 y3 : Option V), σ' = [some (V.ref f), some (.ref wd), some (.str (kS k)), some (.int room), some (.int down), some (.ref l), some (.str c.str), some (.ref pl'), some (.str c.sort), some (.int left), some (.ref fo), y1, y2, y3] ∧
      Gr [wd] f H H' ∧ Wld H' wd ka ∧ SqT K H' ka (kVs ks) ∧ H' pl' = some (.lst ((c.ps k).map fun b => V.str (kS b))) ∧ H' fo = some (.lst (c.front num ++ vs)) ∧ Ats K H' vs ps ∧ ps.length = i ∧ (∀ p ∈ ps, Wk ks p) ∧ ps.map (own ks) = (c.ps k).take i ∧ ((c.ps k).length : Int) - i ≤ left ∧ ((ps.map psz).sum : Int) + left ≤ room - 1) ?_ ?_ ?_ ?_⟩
  · refine ⟨room - 1, [], [], none, none, none, rfl, g11, wl11, hk11, hp11, by rw [List.append_nil]; exact fo11, .nil, rfl, fun p hp => absurd hp (by simp), by simp, by omega, by simp⟩
  · rintro i σ' H' ⟨left, vs, ps, y1, y2, y3, rfl, g, wl, hk', hp', fo', _⟩
    exact SqL.of hp'
  · rintro i x T σ' H' hx ⟨left, vs, ps, y1, y2, y3, rfl, g, wl, hk', hp', fo', ha, hl, hwk, hown, hleft, hsum⟩ hT
    obtain ⟨b, hb, rfl⟩ : ∃ b, (c.ps k)[i]? = some b ∧ x = V.str (kS b) := by
      rw [List.getElem?_map] at hx
      cases e : (c.ps k)[i]? with
      | none => rw [e] at hx; cases hx
      | some b => rw [e] at hx; exact ⟨b, rfl, (Option.some.inj hx).symm⟩
    have hi : i < (c.ps k).length := (List.getElem?_eq_some_iff.mp hb).1
    have sT : Same H' (upd H' T (.tup [.int (i : Nat), V.str (kS b)])) := same_new hT
    have gT : Gr [wd] f H (upd H' T (.tup [.int (i : Nat), V.str (kS b)])) := g.trans (Gr.new g.fl hT)
    refine ⟨T, _, rfl, .inl (.inl upd_same), rfl, _, _, rfl, _, [], rfl, rfl, ?_⟩
    have wlT : Wld (upd H' T (.tup [.int (i : Nat), V.str (kS b)])) wd ka := by
      obtain ⟨x, y, z, e⟩ := wl
      exact ⟨x, y, z, sT _ _ e⟩
    have hkT : SqT K (upd H' T (.tup [.int (i : Nat), V.str (kS b)])) ka (kVs ks) := Tp.same sT _ _ hk'
    have hpT := sT _ _ hp'
    have foT := sT _ _ fo'
    have haT : Ats K (upd H' T (.tup [.int (i : Nat), V.str (kS b)])) vs ps := ha.keep (Tp.same sT)
    generalize upd H' T (.tup [.int (i : Nat), V.str (kS b)]) = HT at gT wlT hkT hpT foT haT
    -- share
    refine ⟨_, rfl, _, rfl, _, rfl, pl', _, rfl, .inl (SqL.of hpT), _, rfl, _, _, rfl, rfl, _, _, rfl, rfl, _, _, rfl, rfl, f, _, rfl, gT.fl, ?_, ?_, fun d Hd dd0 dd1 drd => ⟨_, _, rfl, rfl, ?_⟩⟩
    · rw [hlen]; omega
    · rw [hlen]
      have : 0 ≤ ((ps.map psz).sum : Int) := by omega
      omega
    rw [hlen] at dd1
    have gd : Gr [wd] f H Hd := gT.trans drd.gr
    have wld : Wld Hd wd ka := by
      obtain ⟨x, y, z, e⟩ := wlT
      exact ⟨x, y, z, by rw [drd.off wd nwf]; exact e⟩
    have hkd : SqT K Hd ka (kVs ks) := drd.tp gT.fl _ _ hkT
    have hpd : Hd pl' = _ := (drd.off pl' npf).trans hpT
    have fod : Hd fo = _ := (drd.off fo nfo.1).trans foT
    have had : Ats K Hd vs ps := haT.keep (drd.tp gT.fl)
    have sum0 : 0 ≤ ((ps.map psz).sum : Int) := by omega
    -- left, then the part
    refine ⟨_, rfl, _, rfl, _, _, rfl, rfl, ?_⟩
    refine ⟨_, rfl, .inl ⟨rfl, _, SqL.of fod⟩, _, rfl, _, rfl, _, rfl, _, rfl, _, rfl, _, _, rfl, rfl, ?_⟩
    refine ⟨f, wd, ka, ks, b, 1 + d, down - 1, rfl, gd.fl, wld, hkd, hk3, by omega, by omega, by omega, by omega, fun v p He ge wle ae wke owe sze => ?_⟩
    have foe := gfo ge fod
    have npe : pl' ∉ [f, wd] := by simp [npf, npw]
    have hpe := ge.ex _ _ hpd npe
    have tpe : Tp K Hd He := by
      refine ge.ex.tp fun b hb ys q => ?_
      rcases List.mem_cons.mp hb with z | z
      · rw [z] at q
        obtain ⟨xs, e⟩ := gd.fl.lst
        rcases q with q | ⟨o, q⟩
        · rw [e] at q; cases q
        · rw [e] at q; cases q
      · rw [List.mem_singleton.mp z] at q
        obtain ⟨_, _, _, e⟩ := wld
        rcases q with q | ⟨o, q⟩
        · rw [e] at q; cases q
        · rw [e] at q; cases q
    have hke := tpe _ _ hkd
    have hae := had.keep tpe
    have vlen : vs.length = i := by rw [hae.len, hl]
    have tpf : Tp K He (upd He fo (.lst (c.front num ++ vs ++ [v]))) := Tp.lst foe
    refine ⟨fo, _, _, rfl, rfl, foe, by rw [List.length_append]; exact smallL (by omega), left - (1 + d), vs ++ [v], ps ++ [p], _, _, _, rfl, (gd.trans ge).put fo0 nfo.1, ?_, tpf _ _ hke, by rw [upd_ne nfo.2.2.symm]; exact hpe, by rw [upd_same, List.append_assoc], (hae.keep tpf).app (.cons (ae.keep tpf) .nil), by rw [List.length_append, hl]; rfl, ?_, ?_, by omega, ?_⟩
    · obtain ⟨x, y, z, e⟩ := wle
      exact ⟨x, y, z, by rw [upd_ne nfo.2.1.symm]; exact e⟩
    · intro p' hp'
      rcases List.mem_append.mp hp' with z | z
      · exact hwk p' z
      · rw [List.mem_singleton.mp z]
        exact wke
    · rw [List.map_append, hown, List.take_add_one, hb]
      simp [owe]
    · rw [List.map_append, List.sum_append]
      simp only [List.map_cons, List.map_nil, List.sum_cons, List.sum_nil]
      omega
  · rintro σ' H' ⟨left, vs, ps, y1, y2, y3, rfl, g, wl, hk', hp', fo', ha, hl, hwk, hown, hleft, hsum⟩
    refine ⟨_, rfl, fo, _, rfl, .inl ⟨SqL.of fo', fun t ht => ?_⟩⟩
    have st : Same H' (upd H' t (.tup (c.front num ++ vs))) := same_new ht
    rw [hlen, List.take_length] at hown
    obtain ⟨p, ap, wp, op, sp⟩ := c.make (num := num) hc (ha.keep (Tp.same st)) hwk hown upd_same
    refine q _ p _ (g.trans (Gr.new g.fl ht)) ?_ ap wp op ?_
    · obtain ⟨x, y, z, e⟩ := wl
      exact ⟨x, y, z, st _ _ e⟩
    · rw [hlen] at hleft
      rw [sp]
      omega
end
end Lm

set_option Elab.async false
set_option linter.all false
set_option maxRecDepth 100000
set_option maxHeartbeats 2000000
namespace Lm
open PySem PySem.Spec PyProof.Rows L2 LmR
section
variable {P : Program} {w : World} {K : PySem.W.Frag} {mg : Str → Option Value} {base : Heap}
theorem ok_l_made (B : Bt mg) (C_l_draw : Cal P w K mg base 1 "_law_draw" ["_law_flow_here", "_law_many"] (spDraw)) (C_l_numeral : Cal P w K mg base 2 "_law_numeral" ["_law_flow_here"] (spNumeral)) (C_l_leaf : Cal P w K mg base 3 "_law_leaf" ["_law_flow_here", "_law_world", "_law_kind"] (spLeaf K)) (D : DefAt K mg "_law_made" s_l_made ["_law_flow_here", "_law_world", "_law_kind", "_law_room", "_law_down"]) : ∀ n : Nat, Cal P w K mg base (n + 3) "_law_made" ["_law_flow_here", "_law_world", "_law_kind", "_law_room", "_law_down"] (spMade K n)
  | 0 => cal_no D fun vs H Q E h => by
    obtain ⟨f, wd, ka, ks, k, room, down, _, _, _, _, _, _, _, h1, h2, _⟩ := h
    omega
  | n + 1 => ok_l_made1 B C_l_draw C_l_numeral C_l_leaf (ok_l_made B C_l_draw C_l_numeral C_l_leaf D n) D
abbrev s_l_kinds : Stmt := topS 35
theorem sc_l_kinds : FnScope ["_law_flow_here", "_law_k"] ["_law_flow_here"] (defScope s_l_kinds) := ⟨rfl, rfl, rfl, by decide +kernel, rfl, by decide +kernel, by decide +kernel⟩
def spKinds (K : PySem.W.Frag) : Sp := fun vs H Q _ => ∃ f : Addr, vs = [.ref f] ∧ Flow H f ∧ ∀ (a : Addr) (ks : List Bool) (H' : Hp), Gr [] f H H' → ks.length ≤ 3 → H' a = some (.tup (kVs ks)) → Q (.ref a) H'
theorem ok_l_kinds (B : Bt mg) (C_l_draw : Cal P w K mg base 1 "_law_draw" ["_law_flow_here", "_law_many"] (spDraw)) (D : DefAt K mg "_law_kinds" s_l_kinds ["_law_flow_here"]) : Cal P w K mg base 2 "_law_kinds" ["_law_flow_here"] (spKinds K) := by
  refine cal_of D sc_l_kinds (fun vs H Q E h => ?_) (fun f cdv A outer s H vs Q E hr h => ?_)
  · obtain ⟨a, rfl, _⟩ := h
    rfl
  obtain ⟨f, rfl, fl, q⟩ := h
  have hr' : Room 1 _ := hr
  refine ⟨_, (pss_one (ps_ret (pe_callTy call_tuple_of (by rfl) B.tuple PyProof.Rows.boot_tuple (pa_cons (pe_lc (own := [("_law_k", 1)]) (g := gName 1) rfl sc_l_kinds.nd (pi_range1 (by rfl) B.range (pa_cons (pe_cal C_l_draw hr' (by rfl) (pa_cons (pv 0) (pa_cons pe_int pa_nil))) pa_nil)) (blkOk_by (own := [("_law_k", 1)]) (N := ["_law_flow_here", "_law_k"]) (sc := defScope s_l_kinds) (by decide +kernel)) (fun _ _ _ _ _ => (pg_name (i := 1) sc_l_kinds.nd rfl (.inl rfl))) (fun _ _ _ _ _ => pts_nil) (fun _ _ _ _ _ => (pe_ix (ix_listK (K := K) rfl) (pe_lst (pa_cons pe_str (pa_cons pe_str (pa_cons pe_str pa_nil)))) (pe_cal C_l_draw hr' (by rfl) (pa_cons (pv 0) (pa_cons pe_int pa_nil))) (fun _ _ => rfl)))) pa_nil)))), ?_⟩
  refine ⟨_, rfl, f, 4, rfl, fl, by decide, by decide, fun n H1 n0 n1 dr1 => ⟨n, rfl, by omega, by omega, fun D hD => lc_range (lo := 0) (n := n.toNat) (fun i H' => Gr [] f H H' ∧ ∃ ks : List Bool, ks.length = i ∧ H' D = some (.lst (kVs ks))) ?_ ?_ ?_⟩⟩
  · exact ⟨dr1.gr.trans (Gr.new dr1.fl hD), [], rfl, upd_same⟩
  · rintro i H' hi ⟨g, ks, hl, hA⟩
    refine ⟨rfl, (by show 3 ≤ sizeLine; decide), fun p hp => ?_⟩
    have gp : Gr [] f H (upd H' p (.lst [.str "num", .str "truth", .str "num"])) := g.trans (Gr.new g.fl hp)
    have nDf : D ≠ f := fun z => by
      obtain ⟨xs, e⟩ := dr1.fl.lst
      rw [z, e] at hD
      cases hD
    have npf : p ≠ f := fun z => by
      obtain ⟨xs, e⟩ := g.fl.lst
      rw [z, e] at hp
      cases hp
    have npD : p ≠ D := fun z => by
      rw [z, hA] at hp
      cases hp
    have D0 : H D = none := dr1.ex.free hD (by simp [nDf])
    refine ⟨_, rfl, f, 3, rfl, gp.fl, by decide, by decide, fun j H2 j0 j1 dr2 => ?_⟩
    have hp2 : H2 p = some (.lst [.str "num", .str "truth", .str "num"]) := by rw [dr2.off p npf]; exact upd_same
    have hA2 : H2 D = some (.lst (kVs ks)) := by rw [dr2.off D nDf, upd_ne npD.symm]; exact hA
    have g2 := gp.trans dr2.gr
    have kl : (kVs ks).length = ks.length := List.length_map _
    have fin : ∀ b : Bool, ∃ acc, H2 D = some (.lst acc) ∧ acc.length < sizeLine ∧ (Gr [] f H (upd H2 D (.lst (acc ++ [V.str (kS b)]))) ∧ ∃ ks : List Bool, ks.length = i + 1 ∧ (upd H2 D (.lst (acc ++ [V.str (kS b)]))) D = some (.lst (kVs ks))) := fun b =>
      ⟨_, hA2, by rw [kl]; exact smallL (by omega), g2.put D0 nDf, ks ++ [b], by rw [List.length_append, hl]; rfl, by rw [upd_same]; unfold kVs; rw [List.map_append]; rfl⟩
    rcases (show j = 0 ∨ j = 1 ∨ j = 2 by omega) with z | z | z
    · subst z
      exact ⟨p, _, 0, .str "num", rfl, rfl, SqL.of hp2, rfl, fin false⟩
    · subst z
      exact ⟨p, _, 1, .str "truth", rfl, rfl, SqL.of hp2, rfl, fin true⟩
    · subst z
      exact ⟨p, _, 2, .str "num", rfl, rfl, SqL.of hp2, rfl, fin false⟩
  · rintro H' ⟨g, ks, hl, hA⟩
    exact ⟨D, _, rfl, .inl ⟨SqL.of hA, fun t ht => q t ks _ (g.trans (Gr.new g.fl ht)) (by omega) upd_same⟩⟩
abbrev s_l_program : Stmt := topS 36
theorem sc_l_program : FnScope ["_law_flow_here", "_law_kinds_here", "_law_kind", "_law_room"] ["_law_flow_here", "_law_kinds_here", "_law_kind", "_law_room"] (defScope s_l_program) := ⟨rfl, rfl, rfl, by decide +kernel, rfl, by decide +kernel, by decide +kernel⟩
def spProgram (K : PySem.W.Frag) : Sp := fun vs H Q _ => ∃ (f ka : Addr) (ks : List Bool) (k : Bool) (room : Int), vs = [.ref f, .ref ka, .str (kS k), .int room] ∧ Flow H f ∧ SqT K H ka (kVs ks) ∧ ks.length ≤ 3 ∧ 1 ≤ room ∧ room ≤ 24 ∧
  ∀ (v : V) (p : Pg) (H' : Hp), Gr [] f H H' → At K H' v p → Wk ks p → own ks p = k → (psz p : Int) ≤ room → Q v H'
theorem ok_l_program (C_l_made : Cal P w K mg base 27 "_law_made" ["_law_flow_here", "_law_world", "_law_kind", "_law_room", "_law_down"] (spMade K 24)) (D : DefAt K mg "_law_program" s_l_program ["_law_flow_here", "_law_kinds_here", "_law_kind", "_law_room"]) : Cal P w K mg base 28 "_law_program" ["_law_flow_here", "_law_kinds_here", "_law_kind", "_law_room"] (spProgram K) := by
  refine cal_of D sc_l_program (fun vs H Q E h => ?_) (fun f cdv A outer s H vs Q E hr h => ?_)
  · obtain ⟨a, _, _, _, _, rfl, _⟩ := h
    rfl
  obtain ⟨f, ka, ks, k, room, rfl, fl, hk, hk3, r1, r2, q⟩ := h
  have hr' : Room 27 _ := hr
  refine ⟨_, (pss_one (ps_ret (pe_cal C_l_made hr' (by rfl) (pa_cons (pv 0) (pa_cons (pe_disp (pps_cons pe_str (pv 1) (pps_cons pe_str pe_int (pps_cons pe_str pe_int (pps_cons pe_str pe_int pps_nil)))) (by rfl) (by rfl) (fun z => by cases z) (by decide)) (pa_cons (pv 2) (pa_cons (pv 3) (pa_cons pe_int pa_nil)))))))), ?_⟩
  refine ⟨_, rfl, fun wd hwd => ⟨_, rfl, upd_same, [(Sum.inr "kinds", .ref ka), (Sum.inr "cmp", .int 6), (Sum.inr "if", .int 6), (Sum.inr "any", .int 99)], rfl, (by show 4 ≤ 15; decide), ?_⟩⟩
  have nwf : wd ≠ f := fun z => by
    obtain ⟨xs, e⟩ := fl.lst
    rw [z, e] at hwd
    cases hwd
  have s1 : Same H (upd (upd H wd (.dK [])) wd (.dK (mergeK [] [(Sum.inr "kinds", .ref ka), (Sum.inr "cmp", .int 6), (Sum.inr "if", .int 6), (Sum.inr "any", .int 99)]))) := fun b o z => by
    rw [upd_ne (ne_of_none z hwd), upd_ne (ne_of_none z hwd)]
    exact z
  have e1 : (upd (upd H wd (.dK [])) wd (.dK (mergeK [] [(Sum.inr "kinds", .ref ka), (Sum.inr "cmp", .int 6), (Sum.inr "if", .int 6), (Sum.inr "any", .int 99)]))) wd = some (.dK (wKV ka 6 6 99)) := upd_same
  generalize upd (upd H wd (.dK [])) wd (.dK (mergeK [] [(Sum.inr "kinds", .ref ka), (Sum.inr "cmp", .int 6), (Sum.inr "if", .int 6), (Sum.inr "any", .int 99)])) = H1 at s1 e1
  have fl1 : Flow H1 f := by
    obtain ⟨x, y, z, e, r⟩ := fl
    exact ⟨x, y, z, s1 _ _ e, r⟩
  refine ⟨_, rfl, _, rfl, f, wd, ka, ks, k, room, 23, rfl, fl1, ⟨_, _, _, e1⟩, Tp.same s1 _ _ hk, hk3, r1, r2, by decide, by decide, fun v p H' g wl a wk ow sz => q v p H' ⟨fun b o z nb => ?_, g.fl⟩ a wk ow sz⟩
  have nbw : b ≠ wd := ne_of_none z hwd
  exact g.ex b o (s1 _ _ z) (by simp at nb; simp [nb, nbw])
abbrev s_l_some : Stmt := topS 37
theorem sc_l_some : FnScope ["_law_flow_here", "_law_kinds_here"] ["_law_flow_here"] (defScope s_l_some) := ⟨rfl, rfl, rfl, by decide +kernel, rfl, by decide +kernel, by decide +kernel⟩
def spSome (K : PySem.W.Frag) : Sp := fun vs H Q _ => ∃ f : Addr, vs = [.ref f] ∧ Flow H f ∧ ∀ (t ka : Addr) (v : V) (p : Pg) (ks : List Bool) (H' : Hp), Gr [] f H H' → H' t = some (.tup [.ref ka, v]) → H' ka = some (.tup (kVs ks)) → ks.length ≤ 3 → At K H' v p → Wk ks p → psz p ≤ 24 → Q (.ref t) H'
theorem ok_l_some (C_l_draw : Cal P w K mg base 1 "_law_draw" ["_law_flow_here", "_law_many"] (spDraw)) (C_l_kinds : Cal P w K mg base 2 "_law_kinds" ["_law_flow_here"] (spKinds K)) (C_l_program : Cal P w K mg base 28 "_law_program" ["_law_flow_here", "_law_kinds_here", "_law_kind", "_law_room"] (spProgram K)) (D : DefAt K mg "_law_some" s_l_some ["_law_flow_here"]) : Cal P w K mg base 29 "_law_some" ["_law_flow_here"] (spSome K) := by
  refine cal_of D sc_l_some (fun vs H Q E h => ?_) (fun f cdv A outer s H vs Q E hr h => ?_)
  · obtain ⟨a, rfl, _⟩ := h
    rfl
  obtain ⟨f, rfl, fl, q⟩ := h
  have C_l_draw := C_l_draw.mono (k := 28) (by decide)
  have C_l_kinds := C_l_kinds.mono (k := 28) (by decide)
  have hr' : Room 28 _ := hr
  refine ⟨_, (pss_cons (ps_set (i := 1) sc_l_some.nd rfl (.inl rfl) (pe_cal C_l_kinds hr' (by rfl) (pa_cons (pv 0) pa_nil)))
      (pss_one (ps_ret (pe_tup (pa_cons (pv 1) (pa_cons (pe_cal C_l_program hr' (by rfl) (pa_cons (pv 0) (pa_cons (pv 1) (pa_cons (pe_ix ix_list (pe_lst (pa_cons pe_str (pa_cons pe_str pa_nil))) (pe_cal C_l_draw hr' (by rfl) (pa_cons (pv 0) (pa_cons pe_int pa_nil))) (fun _ _ => rfl)) (pa_cons (pe_op op_add pe_int (pe_cal C_l_draw hr' (by rfl) (pa_cons (pv 0) (pa_cons pe_int pa_nil)))) pa_nil))))) pa_nil)))))), ?_⟩
  refine ⟨_, rfl, f, rfl, fl, fun ka ks H1 g1 hk3 hk => ?_⟩
  refine ⟨_, rfl, _, rfl, _, rfl, (by show 2 ≤ sizeLine; decide), fun l hl => ?_⟩
  have gl : Gr [] f H (upd H1 l (.lst [.str "num", .str "truth"])) := g1.trans (Gr.new g1.fl hl)
  have nlf : l ≠ f := fun z => by
    obtain ⟨xs, e⟩ := g1.fl.lst
    rw [z, e] at hl
    cases hl
  refine ⟨_, rfl, f, 2, rfl, gl.fl, by decide, by decide, fun j H2 j0 j1 dr2 => ?_⟩
  have nkf : ka ≠ f := fun z => by
    obtain ⟨xs, e⟩ := g1.fl.lst
    rw [z, e] at hk
    cases hk
  have hl2 : H2 l = some (.lst [.str "num", .str "truth"]) := by rw [dr2.off l nlf]; exact upd_same
  have hk2 : H2 ka = some (.tup (kVs ks)) := by rw [dr2.off ka nkf, upd_ne (ne_of_none hk hl)]; exact hk
  have g2 := gl.trans dr2.gr
  have rest : ∀ b : Bool, ∀ (d : Int) (H3 : Hp), 0 ≤ d → d < 24 → Dr f H2 H3 → spProgram K [.ref f, .ref ka, .str (kS b), .int (1 + d)] H3 (fun v H4 => (2 ≤ sizeLine) ∧ ∀ p, H4 p = none → Q (.ref p) (upd H4 p (.tup [.ref ka, v]))) (fun _ _ _ => False) := fun b d H3 d0 d1 dr3 => by
    have hk3' : H3 ka = some (.tup (kVs ks)) := by rw [dr3.off ka nkf]; exact hk2
    refine ⟨f, ka, ks, b, 1 + d, rfl, dr3.fl, .inl (.inl hk3'), hk3, by omega, by omega, fun v p H4 g4 a wk ow sz => ⟨by decide, fun t ht => ?_⟩⟩
    have s5 : Same H4 (upd H4 t (.tup [.ref ka, v])) := same_new ht
    have hk4 := g4.ex _ _ hk3' (by simp [nkf])
    exact q t ka v p ks _ ((g2.trans (dr3.gr.trans g4)).trans (Gr.new g4.fl ht)) upd_same (s5 _ _ hk4) hk3 (a.keep (Tp.same s5)) wk (by omega)
  rcases (show j = 0 ∨ j = 1 by omega) with z | z
  · subst z
    exact ⟨l, _, 0, .str "num", rfl, rfl, SqL.of hl2, rfl, _, rfl, f, 24, rfl, dr2.fl, by decide, by decide, fun d H3 d0 d1 dr3 => ⟨_, _, rfl, rfl, rest false d H3 d0 d1 dr3⟩⟩
  · subst z
    exact ⟨l, _, 1, .str "truth", rfl, rfl, SqL.of hl2, rfl, _, rfl, f, 24, rfl, dr2.fl, by decide, by decide, fun d H3 d0 d1 dr3 => ⟨_, _, rfl, rfl, rest true d H3 d0 d1 dr3⟩⟩
end
end Lm

set_option Elab.async false
set_option linter.all false
set_option maxRecDepth 100000
set_option maxHeartbeats 2000000
namespace Lm
open PySem PySem.Spec PyProof.Rows L2 LmR
theorem pe_gr {X : Cx} {x : Str} {a : Addr} {pos : Pos} (hg : Gl X x) (hm : X.mg x = some (.ref a)) (hd : (x == ("__debug__" : Str)) = false := by decide) : PE X (.Name x pos) (tC (.ref a)) := pe_glob (v := .ref a) hg hm rfl hd
/-! ### the table of forms -/
def nn : Pg → Nat
  | .inp _ => 1
  | .num _ => 1
  | .tr _ => 0
  | .plus _ _ => 1
  | .bin _ _ _ => 0
  | .neg _ => 0
  | .ite _ _ _ => 0
def due : Pg → List V
  | .inp _ => []
  | .num _ => []
  | .tr _ => []
  | .plus _ _ => [.str (kS false)]
  | .bin w _ _ => [.str (kS w.arg), .str (kS w.arg)]
  | .neg _ => [.str (kS true)]
  | .ite _ _ _ => [.str (kS true), .non, .non]
def ownV : Pg → V
  | .inp _ => .non
  | .num _ => .str (kS false)
  | .tr _ => .str (kS true)
  | .plus _ _ => .str (kS false)
  | .bin w _ _ => .str (kS w.own)
  | .neg _ => .str (kS true)
  | .ite _ _ _ => .non
/-- a tuple of the written part -/
def KTup (K : PySem.W.Frag) (a : Addr) (xs : List V) : Prop := ∃ (o : Obj) (its : Array Value) (n : Nat), K.lookup a = some o ∧ o.cls = .type "tuple" ∧ o.data = .seq its n ∧ its.size ≤ sizeLine ∧ Vals xs its.toList
theorem KTup.sq {K : PySem.W.Frag} {a : Addr} {xs : List V} (h : KTup K a xs) (H : Hp) : SqT K H a xs := .inr h
/-- FORMS stands at d -/
structure Forms (K : PySem.W.Frag) (w : World) (mg : Str → Option Value) (d : Addr) : Prop where
  g : mg "FORMS" = some (.ref d)
  k : ∃ es n, KDict K w d es n
  e : ∀ p : Pg, ∃ t u : Addr, PySem.W.nsIn K d (word p) = some (some (.ref t)) ∧ KTup K t [.int (nn p), .ref u, ownV p] ∧ KTup K u (due p)
theorem Forms.at {K : PySem.W.Frag} {w : World} {mg : Str → Option Value} {d : Addr} (F : Forms K w mg d) (p : Pg) : ∃ t u : Addr, KDct K w d (word p) (.ref t) ∧ KTup K t [.int (nn p), .ref u, ownV p] ∧ KTup K u (due p) := by
  obtain ⟨t, u, e, a, b⟩ := F.e p
  obtain ⟨es, n, D⟩ := F.k
  exact ⟨t, u, ⟨es, n, .ref t, D.at_, D.lit, e, rfl⟩, a, b⟩
theorem due_len (p : Pg) : (due p).length = (parts p).length := by cases p <;> rfl
theorem front_len (p : Pg) : (front p).length = 1 + nn p := by cases p <;> rfl
theorem at_word (p : Pg) (vs : List V) : atI (front p ++ vs) 0 = some (.str (word p)) := at_of (j := 0) rfl (by cases p <;> rfl)
theorem at_num (p : Pg) (vs : List V) (h : nn p ≠ 0) : ∃ i, atI (front p ++ vs) 1 = some (.int i) := by
  cases p <;> first | exact absurd rfl h | exact ⟨_, at_of (j := 1) rfl rfl⟩
theorem kTT {K : PySem.W.Frag} : PySem.W.kitOne K (.type "tuple") (.type "tuple") = some true := kit_ty (by decide +kernel)
theorem kSS {K : PySem.W.Frag} : PySem.W.kitOne K (.type "str") (.type "str") = some true := kit_ty (by decide +kernel)
section
variable {P : Program} {w : World} {K : PySem.W.Frag} {mg : Str → Option Value} {base : Heap}
abbrev s_is_whole : Stmt := topS 18
theorem sc_is_whole : FnScope ["thing"] ["thing"] (defScope s_is_whole) := ⟨rfl, rfl, rfl, by decide +kernel, rfl, by decide +kernel, by decide +kernel⟩
def spWhole (K : PySem.W.Frag) : Sp := fun vs H Q _ => ∃ (v : V) (d : PyData), vs = [v] ∧ Fd K H v d ∧ Q (.bl (isInt d && !isBl d)) H
theorem ok_is_whole (B : Bt mg) (D : DefAt K mg "is_whole" s_is_whole ["thing"]) : Cal P w K mg base 1 "is_whole" ["thing"] (spWhole K) := by
  refine cal_of D sc_is_whole (fun vs H Q E h => ?_) (fun f cdv A outer s H vs Q E hr h => ?_)
  · obtain ⟨v, d, rfl, _⟩ := h
    rfl
  obtain ⟨v, d, rfl, hv, q⟩ := h
  refine ⟨_, (pss_one (ps_ret (pe_and (pe_callB call_isi (by rfl) B.isinstance (by decide +kernel) (pa_cons (pv 0) (pa_cons (pe_bltn (v := .ty "int") (by rfl) B.int PyProof.Rows.boot_int rfl) pa_nil))) (pe_one (pe_not (pe_callB call_isi (by rfl) B.isinstance (by decide +kernel) (pa_cons (pv 0) (pa_cons (pe_bltn (v := .ty "bool") (by rfl) B.bool PyProof.Rows.boot_bool rfl) pa_nil)))))))), ?_⟩
  refine ⟨_, rfl, v, _, _, _, _, rfl, .ty _, hv.ty, kit_int d hv.1, _, rfl, ite2 (fun c => ?_) (fun c => ?_)⟩
  · rw [c] at q
    exact ⟨_, rfl, v, _, _, _, _, rfl, .ty _, hv.ty, kit_bl d hv.1, _, rfl, q⟩
  · rw [Bool.eq_false_iff.mpr c] at q
    exact q
abbrev s_many_numbers : Stmt := topS 20
theorem sc_many_numbers : FnScope ["word"] ["word"] (defScope s_many_numbers) := ⟨rfl, rfl, rfl, by decide +kernel, rfl, by decide +kernel, by decide +kernel⟩
def spMN : Sp := fun vs H Q _ => ∃ p : Pg, vs = [.str (word p)] ∧ Q (.int (nn p)) H
theorem ok_many_numbers {d : Addr} (F : Forms K w mg d) (D : DefAt K mg "many_numbers" s_many_numbers ["word"]) : Cal P w K mg base 1 "many_numbers" ["word"] (spMN) := by
  refine cal_of D sc_many_numbers (fun vs H Q E h => ?_) (fun f cdv A outer s H vs Q E hr h => ?_)
  · obtain ⟨p, rfl, _⟩ := h
    rfl
  obtain ⟨p, rfl, q⟩ := h
  have hFORMS := F.g
  refine ⟨_, (pss_one (ps_ret (pe_ix ix_tup (pe_ix ix_kdict (pe_gr (by rfl) hFORMS) (pv 0) (fun _ _ => rfl)) pe_int (fun _ _ => rfl)))), ?_⟩
  obtain ⟨t, u, e, a, b⟩ := F.at p
  exact ⟨_, rfl, d, word p, .ref t, rfl, rfl, e, t, _, 0, .int (nn p), rfl, rfl, a.sq _, rfl, q⟩
abbrev s_many_parts : Stmt := topS 21
theorem sc_many_parts : FnScope ["word"] ["word"] (defScope s_many_parts) := ⟨rfl, rfl, rfl, by decide +kernel, rfl, by decide +kernel, by decide +kernel⟩
def spMP : Sp := fun vs H Q _ => ∃ p : Pg, vs = [.str (word p)] ∧ Q (.int ((parts p).length : Nat)) H
theorem ok_many_parts {d : Addr} (B : Bt mg) (F : Forms K w mg d) (D : DefAt K mg "many_parts" s_many_parts ["word"]) : Cal P w K mg base 1 "many_parts" ["word"] (spMP) := by
  refine cal_of D sc_many_parts (fun vs H Q E h => ?_) (fun f cdv A outer s H vs Q E hr h => ?_)
  · obtain ⟨p, rfl, _⟩ := h
    rfl
  obtain ⟨p, rfl, q⟩ := h
  have hFORMS := F.g
  refine ⟨_, (pss_one (ps_ret (pe_callB call_len_seq (by rfl) B.len PySem.boot_len (pa_cons (pe_ix ix_tup (pe_ix ix_kdict (pe_gr (by rfl) hFORMS) (pv 0) (fun _ _ => rfl)) pe_int (fun _ _ => rfl)) pa_nil)))), ?_⟩
  obtain ⟨t, u, e, a, b⟩ := F.at p
  rw [← due_len] at q
  exact ⟨_, rfl, d, word p, .ref t, rfl, rfl, e, t, _, 1, .ref u, rfl, rfl, a.sq _, rfl, u, _, rfl, .inr (b.sq _), q⟩
abbrev s_has_form : Stmt := topS 19
theorem sc_has_form : FnScope ["thing", "word"] ["thing"] (defScope s_has_form) := ⟨rfl, rfl, rfl, by decide +kernel, rfl, by decide +kernel, by decide +kernel⟩
def spHF (K : PySem.W.Frag) : Sp := fun vs H Q _ => ∃ (v : V) (p : Pg), vs = [v] ∧ At K H v p ∧ Q (.bl true) H
theorem ok_has_form {d : Addr} (B : Bt mg) (F : Forms K w mg d) (C_is_whole : Cal P w K mg base 1 "is_whole" ["thing"] (spWhole K)) (C_many_numbers : Cal P w K mg base 1 "many_numbers" ["word"] (spMN)) (C_many_parts : Cal P w K mg base 1 "many_parts" ["word"] (spMP)) (D : DefAt K mg "has_form" s_has_form ["thing"]) : Cal P w K mg base 2 "has_form" ["thing"] (spHF K) := by
  refine cal_of D sc_has_form (fun vs H Q E h => ?_) (fun f cdv A outer s H vs Q E hr h => ?_)
  · obtain ⟨v, p, rfl, _⟩ := h
    rfl
  obtain ⟨v, p, rfl, hv, q⟩ := h
  have hFORMS := F.g
  obtain ⟨es, n, kd⟩ := F.k
  have hr' : Room 1 _ := hr
  refine ⟨_, (pss_cons (ps_if (PW.pt (pw_or (pt_not (pt_val (pe_callB call_isi (by rfl) B.isinstance (by decide +kernel) (pa_cons (pv 0) (pa_cons (pe_bltn (v := .ty "tuple") (by rfl) B.tuple PyProof.Rows.boot_tuple rfl) pa_nil))))) (pw_or (pt_cmpR op_eq (pe_callB call_len_seq (by rfl) B.len PySem.boot_len (pa_cons (pv 0) pa_nil)) pe_int (nomark _)) (pw_or1 (pt_not (pt_val (pe_callB call_isi (by rfl) B.isinstance (by decide +kernel) (pa_cons (pe_ix ix_tup (pv 0) pe_int (fun _ _ => rfl)) (pa_cons (pe_bltn (v := .ty "str") (by rfl) B.str PyProof.Rows.boot_str rfl) pa_nil)))))))))
        (pss_one (ps_ret pe_bl))
        pss_nil)
      (pss_cons (ps_set (i := 1) sc_has_form.nd rfl (.inl rfl) (pe_ix ix_tup (pv 0) pe_int (fun _ _ => rfl)))
      (pss_cons (ps_if (PW.pt (pw_or (pt_cmpR (op_notIn_kd kd) (pv 1) (pe_gr (by rfl) hFORMS) rfl) (pw_or1 (pt_cmpR op_ne (pe_callB call_len_seq (by rfl) B.len PySem.boot_len (pa_cons (pv 0) pa_nil)) (pe_op op_add (pe_op op_add pe_int (pe_cal C_many_numbers hr' (by rfl) (pa_cons (pv 1) pa_nil))) (pe_cal C_many_parts hr' (by rfl) (pa_cons (pv 1) pa_nil))) (nomark _)))))
        (pss_one (ps_ret pe_bl))
        pss_nil)
      (pss_one (ps_ret (pe_or (pe_cmpR op_eq (pe_cal C_many_numbers hr' (by rfl) (pa_cons (pv 1) pa_nil)) pe_int (nomark _)) (pe_one (pe_cal C_is_whole hr' (by rfl) (pa_cons (pe_ix ix_tup (pv 0) pe_int (fun _ _ => rfl)) pa_nil))))))))), ?_⟩
  obtain ⟨a, vs, rfl, ha, hvs⟩ := hv.open
  obtain ⟨t, u, e, _, _⟩ := F.e p
  have hl : (front p ++ vs).length = 1 + nn p + (parts p).length := by rw [List.length_append, front_len, hvs.len]
  refine ⟨_, rfl, _, _, _, _, _, rfl, .ty _, tyx_tup ha, kTT, _, rfl, ?_⟩
  refine ⟨_, rfl, a, _, rfl, .inr ha, rfl, _, rfl, ite2 (fun z => ?_) (fun _ => ?_)⟩
  · have z' : V.int (((front p ++ vs).length : Nat) : Int) = V.int 0 := of_decide_eq_true z
    have z2 := V.int.inj z'
    omega
  refine ⟨_, rfl, a, _, 0, _, rfl, rfl, ha, at_word p vs, _, _, _, _, _, rfl, .ty _, .base (.str _), kSS, _, rfl, ?_⟩
  refine ⟨_, rfl, a, _, 0, _, rfl, rfl, ha, at_word p vs, ?_⟩
  refine ⟨_, rfl, word p, _, rfl, rfl, e, _, rfl, ?_⟩
  refine ⟨_, rfl, a, _, rfl, .inr ha, _, rfl, p, rfl, _, _, rfl, rfl, _, rfl, p, rfl, _, _, rfl, rfl, rfl, _, rfl, iteNS ?_ ?_⟩
  · rw [hl]
    exact congrArg V.int (by omega)
  refine ⟨_, rfl, p, rfl, rfl, _, rfl, ite2 (fun _ => q) (fun z => ?_)⟩
  have hn : nn p ≠ 0 := fun y => z (decide_eq_true (by rw [y]; rfl))
  obtain ⟨i, ei⟩ := at_num p vs hn
  exact ⟨_, rfl, a, _, 1, _, rfl, rfl, ha, ei, .int i, .int i, rfl, ⟨rfl, .int i⟩, q⟩
abbrev s_parts_of : Stmt := topS 22
theorem sc_parts_of : FnScope ["knot"] ["knot"] (defScope s_parts_of) := ⟨rfl, rfl, rfl, by decide +kernel, rfl, by decide +kernel, by decide +kernel⟩
def spPO (K : PySem.W.Frag) : Sp := fun vs H Q _ => ∃ (v : V) (p : Pg), vs = [v] ∧ At K H v p ∧ ∀ (t : Addr) (us : List V), H t = none → Ats K H us (parts p) → Q (.ref t) (upd H t (.tup us))
theorem cut_from (n : Nat) (xs ys : List V) (h : xs.length = n) : cutV (xs ++ ys) (some (n : Int)) none = ys := by
  unfold cutV
  rw [show HT.sIx (xs ++ ys).length 0 (some (n : Int)) = min n (xs ++ ys).length from HT.sIx_nat _ 0 n, HT.sIx_none]
  have e : min n (xs ++ ys).length = n := by rw [List.length_append]; omega
  rw [e, ← h, List.drop_left, List.length_append, Nat.add_sub_cancel_left, List.take_length]
theorem ok_parts_of (C_many_numbers : Cal P w K mg base 1 "many_numbers" ["word"] (spMN)) (D : DefAt K mg "parts_of" s_parts_of ["knot"]) : Cal P w K mg base 2 "parts_of" ["knot"] (spPO K) := by
  refine cal_of D sc_parts_of (fun vs H Q E h => ?_) (fun f cdv A outer s H vs Q E hr h => ?_)
  · obtain ⟨v, p, rfl, _⟩ := h
    rfl
  obtain ⟨v, p, rfl, hv, q⟩ := h
  have hr' : Room 1 _ := hr
  refine ⟨_, (pss_one (ps_ret (pe_slice sl_tup (pv 0) (po_some (pe_op op_add pe_int (pe_cal C_many_numbers hr' (by rfl) (pa_cons (pe_ix ix_tup (pv 0) pe_int (fun _ _ => rfl)) pa_nil)))) po_none))), ?_⟩
  obtain ⟨a, vs, rfl, ha, hvs⟩ := hv.open
  have e1 : (1 : Int) + (nn p : Int) = ((1 + nn p : Nat) : Int) := by omega
  refine ⟨_, rfl, _, rfl, a, _, 0, _, rfl, rfl, ha, at_word p vs, p, rfl, _, _, rfl, rfl, _, rfl, a, _, rfl, ha, ?_, fun t ht => ?_⟩
  · rintro ⟨z, _⟩
    rw [e1, show HT.sIx (front p ++ vs).length 0 (some ((1 + nn p : Nat) : Int)) = min (1 + nn p) (front p ++ vs).length from HT.sIx_nat _ 0 _, List.length_append, front_len] at z
    omega
  · rw [e1, cut_from _ _ _ (front_len p)]
    exact q t vs ht hvs
abbrev s_taken : Stmt := topS 23
theorem sc_taken : FnScope ["pile", "many", "turn"] ["pile", "many"] (defScope s_taken) := ⟨rfl, rfl, rfl, by decide +kernel, rfl, by decide +kernel, by decide +kernel⟩
def spTaken : Sp := fun vs H Q _ => ∃ (l : Addr) (xs ys : List V), vs = [.ref l, .int (ys.length : Nat)] ∧ H l = some (.lst (xs ++ ys.reverse)) ∧ ys.length ≤ 1000 ∧ ∀ (t : Addr) (H' : Hp), Ex [l] H H' → H' l = some (.lst xs) → H' t = some (.tup ys) → Q (.ref t) H'
theorem ok_taken (B : Bt mg) (D : DefAt K mg "taken" s_taken ["pile", "many"]) : Cal P w K mg base 1 "taken" ["pile", "many"] (spTaken) := by
  refine cal_of D sc_taken (fun vs H Q E h => ?_) (fun f cdv A outer s H vs Q E hr h => ?_)
  · obtain ⟨l, xs, ys, rfl, _⟩ := h
    rfl
  obtain ⟨l, xs, ys, rfl, hL, hlen, q⟩ := h
  refine ⟨_, (pss_one (ps_ret (pe_callTy call_tuple_of (by rfl) B.tuple PyProof.Rows.boot_tuple (pa_cons (pe_lc (own := [("turn", 2)]) (g := gName 2) rfl sc_taken.nd (pi_range1 (by rfl) B.range (pa_cons (pv 1) pa_nil)) (blkOk_by (own := [("turn", 2)]) (N := ["pile", "many", "turn"]) (sc := defScope s_taken) (by decide +kernel)) (fun _ _ _ _ _ => (pg_name (i := 2) sc_taken.nd rfl (.inl rfl))) (fun _ _ _ _ _ => pts_nil) (fun _ _ _ _ _ => (pe_bm0K (K := K) rfl PySem.F.plainAttrs_list PySem.F.slot_list_pop PySem.F.type_list_pop mt_pop (pv 0)))) pa_nil)))), ?_⟩
  refine ⟨_, rfl, _, rfl, by omega, by omega, fun D hD => lc_range (lo := 0) (n := ((ys.length : Nat) : Int).toNat) (fun i H' => Ex [l] H H' ∧ H' l = some (.lst (xs ++ (ys.drop i).reverse)) ∧ H' D = some (.lst (ys.take i))) ?_ ?_ ?_⟩
  · have n1 : l ≠ D := ne_of_none hL hD
    exact ⟨Ex.new hD, by rw [upd_ne n1, List.drop_zero]; exact hL, upd_same⟩
  · rintro i H' hi ⟨ex, h1, h2⟩
    have n1 : l ≠ D := ne_of_none hL hD
    have hi' : i < ys.length := by omega
    have ed : ys.drop i = ys[i] :: ys.drop (i + 1) := List.drop_eq_getElem_cons hi'
    rw [ed, List.reverse_cons, ← List.append_assoc] at h1
    refine ⟨rfl, _, rfl, .inl ⟨rfl, _, SqL.of h1⟩, l, _, ys[i], rfl, rfl, h1, ?_, ?_⟩
    · rw [List.length_append, List.length_singleton, Nat.add_sub_cancel, List.getElem?_append_right (Nat.le_refl _), Nat.sub_self]
      rfl
    rw [List.dropLast_concat]
    refine ⟨ys.take i, by rw [upd_ne n1.symm]; exact h2, by rw [List.length_take]; exact smallL (by omega), ?_, ?_, ?_⟩
    · intro b o hb nb
      have nbl : b ≠ l := fun z => nb (by rw [z]; simp)
      rw [upd_ne (ne_of_none hb hD), upd_ne nbl]
      exact ex b o hb nb
    · rw [upd_ne n1, upd_same]
    · rw [upd_same, List.take_add_one, List.getElem?_eq_getElem hi']
      rfl
  · rintro H' ⟨ex, h1, h2⟩
    have n1 : l ≠ D := ne_of_none hL hD
    have et : ((ys.length : Nat) : Int).toNat = ys.length := Int.toNat_natCast _
    rw [et, List.drop_length, List.reverse_nil, List.append_nil] at h1
    rw [et, List.take_length] at h2
    refine ⟨D, _, rfl, .inl ⟨SqL.of h2, fun t ht => q t _ (ex.trans (Ex.new ht)) ?_ upd_same⟩⟩
    rw [upd_ne (ne_of_none h1 ht)]
    exact h1
end
end Lm

set_option Elab.async false
set_option linter.all false
set_option maxRecDepth 100000
set_option maxHeartbeats 2000000
namespace Lm
open PySem PySem.Spec PyProof.Rows L2 LmR
/-! ### forests -/
def knf (fs : List Pg) : List Pg := fs.flatMap kn
theorem knf_cons (q : Pg) (fs : List Pg) : knf (q :: fs) = q :: knf (parts q ++ fs) := by
  unfold knf
  rw [List.flatMap_cons, kn_eq, List.flatMap_append, List.cons_append]
theorem knf_one (p : Pg) : knf [p] = kn p := by simp [knf]
theorem knf_drop : ∀ (j : Nat) (fs : List Pg), ∃ gs, (knf fs).drop j = knf gs
  | 0, fs => ⟨fs, rfl⟩
  | j + 1, [] => ⟨[], by simp [knf]⟩
  | j + 1, q :: fs => by
    rw [knf_cons, List.drop_succ_cons]
    exact knf_drop j _
theorem knf_inj : ∀ (n : Nat) (fs gs : List Pg), (knf fs).length ≤ n → knf fs = knf gs → fs = gs
  | n, [], [], _, _ => rfl
  | n, [], q :: gs, _, h => by rw [knf_cons] at h; simp [knf] at h
  | n, q :: fs, [], _, h => by rw [knf_cons] at h; simp [knf] at h
  | 0, q :: fs, r :: gs, l, _ => by rw [knf_cons] at l; simp at l
  | n + 1, q :: fs, r :: gs, l, h => by
    rw [knf_cons, knf_cons] at h
    rw [knf_cons, List.length_cons] at l
    obtain ⟨rfl, h⟩ := List.cons.inj h
    have e := knf_inj n _ _ (by omega) h
    rw [List.append_cancel_left e]
/-- one knot more from the end -/
theorem knf_step {p : Pg} {j : Nat} {x : Pg} {fs : List Pg} (hx : (kn p)[j]? = some x) (hf : (kn p).drop (j + 1) = knf fs) : ∃ rest, fs = parts x ++ rest ∧ (kn p).drop j = knf (x :: rest) := by
  obtain ⟨gs, hg⟩ := knf_drop j [p]
  rw [knf_one] at hg
  obtain ⟨hj, ex⟩ := List.getElem?_eq_some_iff.mp hx
  have e : (kn p).drop j = x :: (kn p).drop (j + 1) := by rw [List.drop_eq_getElem_cons hj, ex]
  rw [e, hf] at hg
  cases gs with
  | nil => simp [knf] at hg
  | cons q rest =>
    rw [knf_cons] at hg
    obtain ⟨rfl, h⟩ := List.cons.inj hg
    refine ⟨rest, knf_inj _ _ _ (Nat.le_refl _) h, ?_⟩
    rw [e, hf, knf_cons, h]
/-! ### which word it is -/
theorem word_in {p : Pg} (h : V.str (word p) = V.str "in") : ∃ k, p = .inp k := by
  cases p with
  | inp k => exact ⟨k, rfl⟩
  | tr b => cases b <;> first | exact absurd h (show ¬ V.str ("num" : Str) = V.str "in" by decide +kernel) | exact absurd h (show ¬ V.str ("yes" : Str) = V.str "in" by decide +kernel) | exact absurd h (show ¬ V.str ("no" : Str) = V.str "in" by decide +kernel) | exact absurd h (show ¬ V.str ("plus" : Str) = V.str "in" by decide +kernel) | exact absurd h (show ¬ V.str ("least" : Str) = V.str "in" by decide +kernel) | exact absurd h (show ¬ V.str ("most" : Str) = V.str "in" by decide +kernel) | exact absurd h (show ¬ V.str ("atmost" : Str) = V.str "in" by decide +kernel) | exact absurd h (show ¬ V.str ("both" : Str) = V.str "in" by decide +kernel) | exact absurd h (show ¬ V.str ("either" : Str) = V.str "in" by decide +kernel) | exact absurd h (show ¬ V.str ("not" : Str) = V.str "in" by decide +kernel) | exact absurd h (show ¬ V.str ("if" : Str) = V.str "in" by decide +kernel)
  | bin w a b => cases w <;> first | exact absurd h (show ¬ V.str ("num" : Str) = V.str "in" by decide +kernel) | exact absurd h (show ¬ V.str ("yes" : Str) = V.str "in" by decide +kernel) | exact absurd h (show ¬ V.str ("no" : Str) = V.str "in" by decide +kernel) | exact absurd h (show ¬ V.str ("plus" : Str) = V.str "in" by decide +kernel) | exact absurd h (show ¬ V.str ("least" : Str) = V.str "in" by decide +kernel) | exact absurd h (show ¬ V.str ("most" : Str) = V.str "in" by decide +kernel) | exact absurd h (show ¬ V.str ("atmost" : Str) = V.str "in" by decide +kernel) | exact absurd h (show ¬ V.str ("both" : Str) = V.str "in" by decide +kernel) | exact absurd h (show ¬ V.str ("either" : Str) = V.str "in" by decide +kernel) | exact absurd h (show ¬ V.str ("not" : Str) = V.str "in" by decide +kernel) | exact absurd h (show ¬ V.str ("if" : Str) = V.str "in" by decide +kernel)
  | _ => first | exact absurd h (show ¬ V.str ("num" : Str) = V.str "in" by decide +kernel) | exact absurd h (show ¬ V.str ("yes" : Str) = V.str "in" by decide +kernel) | exact absurd h (show ¬ V.str ("no" : Str) = V.str "in" by decide +kernel) | exact absurd h (show ¬ V.str ("plus" : Str) = V.str "in" by decide +kernel) | exact absurd h (show ¬ V.str ("least" : Str) = V.str "in" by decide +kernel) | exact absurd h (show ¬ V.str ("most" : Str) = V.str "in" by decide +kernel) | exact absurd h (show ¬ V.str ("atmost" : Str) = V.str "in" by decide +kernel) | exact absurd h (show ¬ V.str ("both" : Str) = V.str "in" by decide +kernel) | exact absurd h (show ¬ V.str ("either" : Str) = V.str "in" by decide +kernel) | exact absurd h (show ¬ V.str ("not" : Str) = V.str "in" by decide +kernel) | exact absurd h (show ¬ V.str ("if" : Str) = V.str "in" by decide +kernel)
theorem word_if {p : Pg} (h : V.str (word p) = V.str "if") : ∃ q a b, p = .ite q a b := by
  cases p with
  | ite q a b => exact ⟨q, a, b, rfl⟩
  | tr b => cases b <;> first | exact absurd h (show ¬ V.str ("in" : Str) = V.str "if" by decide +kernel) | exact absurd h (show ¬ V.str ("num" : Str) = V.str "if" by decide +kernel) | exact absurd h (show ¬ V.str ("yes" : Str) = V.str "if" by decide +kernel) | exact absurd h (show ¬ V.str ("no" : Str) = V.str "if" by decide +kernel) | exact absurd h (show ¬ V.str ("plus" : Str) = V.str "if" by decide +kernel) | exact absurd h (show ¬ V.str ("least" : Str) = V.str "if" by decide +kernel) | exact absurd h (show ¬ V.str ("most" : Str) = V.str "if" by decide +kernel) | exact absurd h (show ¬ V.str ("atmost" : Str) = V.str "if" by decide +kernel) | exact absurd h (show ¬ V.str ("both" : Str) = V.str "if" by decide +kernel) | exact absurd h (show ¬ V.str ("either" : Str) = V.str "if" by decide +kernel) | exact absurd h (show ¬ V.str ("not" : Str) = V.str "if" by decide +kernel)
  | bin w a b => cases w <;> first | exact absurd h (show ¬ V.str ("in" : Str) = V.str "if" by decide +kernel) | exact absurd h (show ¬ V.str ("num" : Str) = V.str "if" by decide +kernel) | exact absurd h (show ¬ V.str ("yes" : Str) = V.str "if" by decide +kernel) | exact absurd h (show ¬ V.str ("no" : Str) = V.str "if" by decide +kernel) | exact absurd h (show ¬ V.str ("plus" : Str) = V.str "if" by decide +kernel) | exact absurd h (show ¬ V.str ("least" : Str) = V.str "if" by decide +kernel) | exact absurd h (show ¬ V.str ("most" : Str) = V.str "if" by decide +kernel) | exact absurd h (show ¬ V.str ("atmost" : Str) = V.str "if" by decide +kernel) | exact absurd h (show ¬ V.str ("both" : Str) = V.str "if" by decide +kernel) | exact absurd h (show ¬ V.str ("either" : Str) = V.str "if" by decide +kernel) | exact absurd h (show ¬ V.str ("not" : Str) = V.str "if" by decide +kernel)
  | _ => first | exact absurd h (show ¬ V.str ("in" : Str) = V.str "if" by decide +kernel) | exact absurd h (show ¬ V.str ("num" : Str) = V.str "if" by decide +kernel) | exact absurd h (show ¬ V.str ("yes" : Str) = V.str "if" by decide +kernel) | exact absurd h (show ¬ V.str ("no" : Str) = V.str "if" by decide +kernel) | exact absurd h (show ¬ V.str ("plus" : Str) = V.str "if" by decide +kernel) | exact absurd h (show ¬ V.str ("least" : Str) = V.str "if" by decide +kernel) | exact absurd h (show ¬ V.str ("most" : Str) = V.str "if" by decide +kernel) | exact absurd h (show ¬ V.str ("atmost" : Str) = V.str "if" by decide +kernel) | exact absurd h (show ¬ V.str ("both" : Str) = V.str "if" by decide +kernel) | exact absurd h (show ¬ V.str ("either" : Str) = V.str "if" by decide +kernel) | exact absurd h (show ¬ V.str ("not" : Str) = V.str "if" by decide +kernel)
theorem word_plus {p : Pg} (h : V.str (word p) = V.str "plus") : ∃ c a, p = .plus c a := by
  cases p with
  | plus c a => exact ⟨c, a, rfl⟩
  | tr b => cases b <;> first | exact absurd h (show ¬ V.str ("in" : Str) = V.str "plus" by decide +kernel) | exact absurd h (show ¬ V.str ("num" : Str) = V.str "plus" by decide +kernel) | exact absurd h (show ¬ V.str ("yes" : Str) = V.str "plus" by decide +kernel) | exact absurd h (show ¬ V.str ("no" : Str) = V.str "plus" by decide +kernel) | exact absurd h (show ¬ V.str ("least" : Str) = V.str "plus" by decide +kernel) | exact absurd h (show ¬ V.str ("most" : Str) = V.str "plus" by decide +kernel) | exact absurd h (show ¬ V.str ("atmost" : Str) = V.str "plus" by decide +kernel) | exact absurd h (show ¬ V.str ("both" : Str) = V.str "plus" by decide +kernel) | exact absurd h (show ¬ V.str ("either" : Str) = V.str "plus" by decide +kernel) | exact absurd h (show ¬ V.str ("not" : Str) = V.str "plus" by decide +kernel) | exact absurd h (show ¬ V.str ("if" : Str) = V.str "plus" by decide +kernel)
  | bin w a b => cases w <;> first | exact absurd h (show ¬ V.str ("in" : Str) = V.str "plus" by decide +kernel) | exact absurd h (show ¬ V.str ("num" : Str) = V.str "plus" by decide +kernel) | exact absurd h (show ¬ V.str ("yes" : Str) = V.str "plus" by decide +kernel) | exact absurd h (show ¬ V.str ("no" : Str) = V.str "plus" by decide +kernel) | exact absurd h (show ¬ V.str ("least" : Str) = V.str "plus" by decide +kernel) | exact absurd h (show ¬ V.str ("most" : Str) = V.str "plus" by decide +kernel) | exact absurd h (show ¬ V.str ("atmost" : Str) = V.str "plus" by decide +kernel) | exact absurd h (show ¬ V.str ("both" : Str) = V.str "plus" by decide +kernel) | exact absurd h (show ¬ V.str ("either" : Str) = V.str "plus" by decide +kernel) | exact absurd h (show ¬ V.str ("not" : Str) = V.str "plus" by decide +kernel) | exact absurd h (show ¬ V.str ("if" : Str) = V.str "plus" by decide +kernel)
  | _ => first | exact absurd h (show ¬ V.str ("in" : Str) = V.str "plus" by decide +kernel) | exact absurd h (show ¬ V.str ("num" : Str) = V.str "plus" by decide +kernel) | exact absurd h (show ¬ V.str ("yes" : Str) = V.str "plus" by decide +kernel) | exact absurd h (show ¬ V.str ("no" : Str) = V.str "plus" by decide +kernel) | exact absurd h (show ¬ V.str ("least" : Str) = V.str "plus" by decide +kernel) | exact absurd h (show ¬ V.str ("most" : Str) = V.str "plus" by decide +kernel) | exact absurd h (show ¬ V.str ("atmost" : Str) = V.str "plus" by decide +kernel) | exact absurd h (show ¬ V.str ("both" : Str) = V.str "plus" by decide +kernel) | exact absurd h (show ¬ V.str ("either" : Str) = V.str "plus" by decide +kernel) | exact absurd h (show ¬ V.str ("not" : Str) = V.str "plus" by decide +kernel) | exact absurd h (show ¬ V.str ("if" : Str) = V.str "plus" by decide +kernel)
theorem word_num {p : Pg} (h : V.str (word p) = V.str "num") : ∃ c, p = .num c := by
  cases p with
  | num c => exact ⟨c, rfl⟩
  | tr b => cases b <;> first | exact absurd h (show ¬ V.str ("in" : Str) = V.str "num" by decide +kernel) | exact absurd h (show ¬ V.str ("yes" : Str) = V.str "num" by decide +kernel) | exact absurd h (show ¬ V.str ("no" : Str) = V.str "num" by decide +kernel) | exact absurd h (show ¬ V.str ("plus" : Str) = V.str "num" by decide +kernel) | exact absurd h (show ¬ V.str ("least" : Str) = V.str "num" by decide +kernel) | exact absurd h (show ¬ V.str ("most" : Str) = V.str "num" by decide +kernel) | exact absurd h (show ¬ V.str ("atmost" : Str) = V.str "num" by decide +kernel) | exact absurd h (show ¬ V.str ("both" : Str) = V.str "num" by decide +kernel) | exact absurd h (show ¬ V.str ("either" : Str) = V.str "num" by decide +kernel) | exact absurd h (show ¬ V.str ("not" : Str) = V.str "num" by decide +kernel) | exact absurd h (show ¬ V.str ("if" : Str) = V.str "num" by decide +kernel)
  | bin w a b => cases w <;> first | exact absurd h (show ¬ V.str ("in" : Str) = V.str "num" by decide +kernel) | exact absurd h (show ¬ V.str ("yes" : Str) = V.str "num" by decide +kernel) | exact absurd h (show ¬ V.str ("no" : Str) = V.str "num" by decide +kernel) | exact absurd h (show ¬ V.str ("plus" : Str) = V.str "num" by decide +kernel) | exact absurd h (show ¬ V.str ("least" : Str) = V.str "num" by decide +kernel) | exact absurd h (show ¬ V.str ("most" : Str) = V.str "num" by decide +kernel) | exact absurd h (show ¬ V.str ("atmost" : Str) = V.str "num" by decide +kernel) | exact absurd h (show ¬ V.str ("both" : Str) = V.str "num" by decide +kernel) | exact absurd h (show ¬ V.str ("either" : Str) = V.str "num" by decide +kernel) | exact absurd h (show ¬ V.str ("not" : Str) = V.str "num" by decide +kernel) | exact absurd h (show ¬ V.str ("if" : Str) = V.str "num" by decide +kernel)
  | _ => first | exact absurd h (show ¬ V.str ("in" : Str) = V.str "num" by decide +kernel) | exact absurd h (show ¬ V.str ("yes" : Str) = V.str "num" by decide +kernel) | exact absurd h (show ¬ V.str ("no" : Str) = V.str "num" by decide +kernel) | exact absurd h (show ¬ V.str ("plus" : Str) = V.str "num" by decide +kernel) | exact absurd h (show ¬ V.str ("least" : Str) = V.str "num" by decide +kernel) | exact absurd h (show ¬ V.str ("most" : Str) = V.str "num" by decide +kernel) | exact absurd h (show ¬ V.str ("atmost" : Str) = V.str "num" by decide +kernel) | exact absurd h (show ¬ V.str ("both" : Str) = V.str "num" by decide +kernel) | exact absurd h (show ¬ V.str ("either" : Str) = V.str "num" by decide +kernel) | exact absurd h (show ¬ V.str ("not" : Str) = V.str "num" by decide +kernel) | exact absurd h (show ¬ V.str ("if" : Str) = V.str "num" by decide +kernel)
section
variable {P : Program} {w : World} {K : PySem.W.Frag} {mg : Str → Option Value} {base : Heap}
abbrev s_refuse_forms : Stmt := topS 24
theorem sc_refuse_forms : FnScope ["every", "at", "knot"] ["every"] (defScope s_refuse_forms) := ⟨rfl, rfl, rfl, by decide +kernel, rfl, by decide +kernel, by decide +kernel⟩
def spRF (K : PySem.W.Frag) : Sp := fun vs H Q _ => ∃ (l : Addr) (us : List V) (ps : List Pg), vs = [.ref l] ∧ H l = some (.lst us) ∧ Ats K H us ps ∧ ∀ H', Same H H' → Q .non H'
theorem ok_refuse_forms (B : Bt mg) (C_has_form : Cal P w K mg base 2 "has_form" ["thing"] (spHF K)) (D : DefAt K mg "refuse_forms" s_refuse_forms ["every"]) : Cal P w K mg base 3 "refuse_forms" ["every"] (spRF K) := by
  refine cal_of D sc_refuse_forms (fun vs H Q E h => ?_) (fun f cdv A outer s H vs Q E hr h => ?_)
  · obtain ⟨l, us, ps, rfl, _⟩ := h
    rfl
  obtain ⟨l, us, ps, rfl, hL, ha, q⟩ := h
  have hr' : Room 2 _ := hr
  refine ⟨_, (pss_one (ps_for PassesOwn.never rfl (pi_enum (by rfl) B.enumerate (pa_cons (pv 0) pa_nil)) (pg_tup rfl (pgs_cons (pg_name (i := 1) sc_refuse_forms.nd rfl (.inl rfl)) (pgs_cons (pg_name (i := 2) sc_refuse_forms.nd rfl (.inl rfl)) pgs_nil)))
        (pss_one (ps_if (pt_not (pt_val (pe_cal C_has_form hr' (by rfl) (pa_cons (pv 2) pa_nil))))
        (pss_one ps_never)
        pss_nil)))), ?_⟩
  refine ⟨_, rfl, l, _, rfl, SqL.of hL, for_enum (K := K) (a := l) (xs := us) (fun i σ' H' => ∃ y1 y2 : Option V, σ' = [some (.ref l), y1, y2] ∧ Same H H') ⟨none, none, rfl, Same.refl _⟩ ?_ ?_ ?_⟩
  · rintro i σ' H' ⟨y1, y2, rfl, sm⟩
    exact SqL.of (sm _ _ hL)
  · rintro i x T σ' H' hx ⟨y1, y2, rfl, sm⟩ hT
    obtain ⟨p, _, hp⟩ := ha.get i x hx
    have sT := sm.trans (same_new (o := .tup [.int (i : Nat), x]) hT)
    refine ⟨T, _, rfl, .inl (.inl upd_same), rfl, _, _, rfl, _, [], rfl, rfl, ?_⟩
    exact ⟨_, rfl, x, p, rfl, hp.keep (Tp.same sT), _, rfl, _, _, rfl, sT⟩
  · rintro σ' H' ⟨y1, y2, rfl, sm⟩
    exact q H' sm
abbrev s_refuse_inputs : Stmt := topS 25
theorem sc_refuse_inputs : FnScope ["every", "many", "at", "knot"] ["every", "many"] (defScope s_refuse_inputs) := ⟨rfl, rfl, rfl, by decide +kernel, rfl, by decide +kernel, by decide +kernel⟩
def spRI (K : PySem.W.Frag) : Sp := fun vs H Q _ => ∃ (l : Addr) (us : List V) (ps : List Pg) (ks : List Bool), vs = [.ref l, .int (ks.length : Nat)] ∧ H l = some (.lst us) ∧ Ats K H us ps ∧ (∀ p ∈ ps, Wk ks p) ∧ ∀ H', Same H H' → Q .non H'
theorem ok_refuse_inputs (B : Bt mg) (D : DefAt K mg "refuse_inputs" s_refuse_inputs ["every", "many"]) : Cal P w K mg base 1 "refuse_inputs" ["every", "many"] (spRI K) := by
  refine cal_of D sc_refuse_inputs (fun vs H Q E h => ?_) (fun f cdv A outer s H vs Q E hr h => ?_)
  · obtain ⟨l, us, ps, ks, rfl, _⟩ := h
    rfl
  obtain ⟨l, us, ps, ks, rfl, hL, ha, hw, q⟩ := h
  refine ⟨_, (pss_one (ps_for PassesOwn.never rfl (pi_enum (by rfl) B.enumerate (pa_cons (pv 0) pa_nil)) (pg_tup rfl (pgs_cons (pg_name (i := 2) sc_refuse_inputs.nd rfl (.inl rfl)) (pgs_cons (pg_name (i := 3) sc_refuse_inputs.nd rfl (.inl rfl)) pgs_nil)))
        (pss_one (ps_if (PW.pt (pw_and (pt_cmpR op_eq (pe_ix ix_tup (pv 3) pe_int (fun _ _ => rfl)) pe_str (nomark _)) (pw_and1 (pt_not (pt_chain op_le op_lt pe_int (pe_ix ix_tup (pv 3) pe_int (fun _ _ => rfl)) (pv 1))))))
        (pss_one ps_never)
        pss_nil)))), ?_⟩
  refine ⟨_, rfl, l, _, rfl, SqL.of hL, for_enum (K := K) (a := l) (xs := us) (fun i σ' H' => ∃ y1 y2 : Option V, σ' = [some (.ref l), some (.int (ks.length : Nat)), y1, y2] ∧ Same H H') ⟨none, none, rfl, Same.refl _⟩ ?_ ?_ ?_⟩
  · rintro i σ' H' ⟨y1, y2, rfl, sm⟩
    exact SqL.of (sm _ _ hL)
  · rintro i x T σ' H' hx ⟨y1, y2, rfl, sm⟩ hT
    obtain ⟨p, hpi, hp⟩ := ha.get i x hx
    have hwp := hw p (List.mem_of_getElem? hpi)
    have sT := sm.trans (same_new (o := .tup [.int (i : Nat), x]) hT)
    refine ⟨T, _, rfl, .inl (.inl upd_same), rfl, _, _, rfl, _, [], rfl, rfl, ?_⟩
    obtain ⟨a, vs, rfl, hA, hvs⟩ := (hp.keep (Tp.same sT)).open
    refine ⟨_, rfl, a, _, 0, _, rfl, rfl, hA, at_word p vs, rfl, _, rfl, ite2 (fun z => ?_) (fun z => ?_)⟩
    · have z' : V.str (word p) = V.str "in" := of_decide_eq_true z
      obtain ⟨k, rfl⟩ := word_in z'
      have hk : k < ks.length := hwp
      refine ⟨_, rfl, a, _, 1, .int k, rfl, rfl, hA, at_of (j := 1) rfl rfl, _, _, rfl, rfl, _, rfl, ite2 (fun _ => ?_) (fun y => ?_)⟩
      · refine ⟨_, rfl, _, _, rfl, rfl, _, rfl, ite2 (fun y => ?_) (fun y => ?_)⟩
        · have : decide ((k : Int) < ((ks.length : Nat) : Int)) = true := decide_eq_true (by omega)
          rw [this] at y
          cases y
        · exact ⟨_, _, rfl, sT⟩
      · exact absurd (decide_eq_true (by omega)) y
    · exact ⟨_, _, rfl, sT⟩
  · rintro σ' H' ⟨y1, y2, rfl, sm⟩
    exact q H' sm
end
end Lm

set_option Elab.async false
set_option linter.all false
set_option maxRecDepth 100000
set_option maxHeartbeats 2000000
namespace Lm
open PySem PySem.Spec PyProof.Rows L2 LmR
def kD (b : Bool) : PyData := .str (kS b)
theorem sh0 : SeqAt.shaped (.tuple []) = true := by decide +kernel
theorem sh1 (a : Bool) : SeqAt.shaped (.tuple [kD a]) = true := by revert a; decide +kernel
theorem sh2 (a b : Bool) : SeqAt.shaped (.tuple [kD a, kD b]) = true := by revert a b; decide +kernel
theorem sh3 (a b c : Bool) : SeqAt.shaped (.tuple [kD a, kD b, kD c]) = true := by revert a b c; decide +kernel
theorem eqv_sh {d : PyData} (h : SeqAt.shaped d = true) : PyData.eqv d d = true := by
  unfold SeqAt.shaped at h
  rw [Bool.and_eq_true] at h
  exact SeqAt.eqv_refl d h.1
/-- the kinds of some programs -/
def kids (ks : List Bool) (ps : List Pg) : List V := ps.map fun p => V.str (kS (own ks p))
section
variable {P : Program} {w : World} {K : PySem.W.Frag} {mg : Str → Option Value} {base : Heap}
abbrev s_parts_fit : Stmt := topS 26
theorem sc_parts_fit : FnScope ["word", "told", "due"] ["word", "told"] (defScope s_parts_fit) := ⟨rfl, rfl, rfl, by decide +kernel, rfl, by decide +kernel, by decide +kernel⟩
def spPF (K : PySem.W.Frag) : Sp := fun vs H Q _ => ∃ (p : Pg) (ks : List Bool) (t : Addr), vs = [.str (word p), .ref t] ∧ SqT K H t (kids ks (parts p)) ∧ Wk ks p ∧ ∀ H', Same H H' → Q (.bl true) H'
theorem ok_parts_fit {d : Addr} (F : Forms K w mg d) (D : DefAt K mg "parts_fit" s_parts_fit ["word", "told"]) : Cal P w K mg base 1 "parts_fit" ["word", "told"] (spPF K) := by
  refine cal_of D sc_parts_fit (fun vs H Q E h => ?_) (fun f cdv A outer s H vs Q E hr h => ?_)
  · obtain ⟨p, ks, t, rfl, _⟩ := h
    rfl
  obtain ⟨p, ks, t, rfl, ht, hw, q⟩ := h
  have hFORMS := F.g
  refine ⟨_, (pss_cons (ps_set (i := 2) sc_parts_fit.nd rfl (.inl rfl) (pe_ix ix_tup (pe_ix ix_kdict (pe_gr (by rfl) hFORMS) (pv 0) (fun _ _ => rfl)) pe_int (fun _ _ => rfl)))
      (pss_cons (ps_if (pt_cmpR op_eq (pv 0) pe_str (nomark _))
        (pss_one (ps_ret (pe_cmpR (op_eqD hr.units) (pv 1) (pe_tup (pa_cons (pe_ix ix_tup (pv 2) pe_int (fun _ _ => rfl)) (pa_cons (pe_ix ix_tup (pv 1) pe_int (fun _ _ => rfl)) (pa_cons (pe_ix ix_tup (pv 1) pe_int (fun _ _ => rfl)) pa_nil)))) (nomark _))))
        pss_nil)
      (pss_one (ps_ret (pe_cmpR (op_eqD hr.units) (pv 1) (pv 2) (nomark _)))))), ?_⟩
  obtain ⟨ft, fu, e, fa, fb⟩ := F.at p
  refine ⟨_, rfl, d, word p, .ref ft, rfl, rfl, e, ft, _, 1, .ref fu, rfl, rfl, fa.sq _, rfl, ?_⟩
  refine ⟨_, rfl, rfl, _, rfl, ite2 (fun z => ?_) (fun z => ?_)⟩
  · have z' : V.str (word p) = V.str "if" := of_decide_eq_true z
    obtain ⟨r, x, y, rfl⟩ := word_if z'
    obtain ⟨_, _, _, h1, h2⟩ := hw
    refine ⟨_, rfl, _, rfl, fu, _, 0, _, rfl, rfl, fb.sq _, rfl, _, rfl, t, _, 1, _, rfl, rfl, ht, rfl, _, rfl, t, _, 1, _, rfl, rfl, ht, rfl, (by show 3 ≤ sizeLine; decide), fun n hn => ?_⟩
    have sn : Same H (upd H n (.tup [.str (kS true), .str (kS (own ks x)), .str (kS (own ks x))])) := same_new hn
    refine ⟨.tuple [kD true, kD (own ks x), kD (own ks x)], .tuple [kD true, kD (own ks x), kD (own ks x)], ?_, .tup (.inl (.inl upd_same)) (.cons (.str _) (.cons (.str _) (.cons (.str _) .nil))), sh3 _ _ _, sh3 _ _ _, ?_⟩
    · have e2 : kids ks (parts (.ite r x y)) = [.str (kS true), .str (kS (own ks x)), .str (kS (own ks x))] := by
        show [V.str (kS (own ks r)), V.str (kS (own ks x)), V.str (kS (own ks y))] = _
        rw [h1, h2]
      rw [e2] at ht
      exact .tup (Tp.same sn _ _ ht) (.cons (.str _) (.cons (.str _) (.cons (.str _) .nil)))
    · rw [eqv_sh (sh3 _ _ _)]
      exact q _ sn
  · have fin : ∀ ds : List PyData, DpAll K H (kids ks (parts p)) ds → DpAll K H (due p) ds → SeqAt.shaped (.tuple ds) = true → ∃ d e, Dp K H (.ref t) d ∧ Dp K H (.ref fu) e ∧ SeqAt.shaped d = true ∧ SeqAt.shaped e = true ∧ Q (.bl (PyData.eqv d e)) H := fun ds h1 h2 h3 => ⟨_, _, .tup ht h1, .tup (fb.sq _) h2, h3, h3, by rw [eqv_sh h3]; exact q _ (Same.refl _)⟩
    refine ⟨_, rfl, _, rfl, ?_⟩
    cases p with
    | inp k => exact fin [] .nil .nil sh0
    | num k => exact fin [] .nil .nil sh0
    | tr k => exact fin [] .nil .nil sh0
    | plus c a =>
      obtain ⟨_, h⟩ := hw
      refine fin [kD false] ?_ (.cons (.str _) .nil) (sh1 _)
      show DpAll K H [V.str (kS (own ks a))] _
      rw [h]
      exact .cons (.str _) .nil
    | bin w a b =>
      obtain ⟨_, _, h1, h2⟩ := hw
      refine fin [kD w.arg, kD w.arg] ?_ (.cons (.str _) (.cons (.str _) .nil)) (sh2 _ _)
      show DpAll K H [V.str (kS (own ks a)), V.str (kS (own ks b))] _
      rw [h1, h2]
      exact .cons (.str _) (.cons (.str _) .nil)
    | neg a =>
      obtain ⟨_, h⟩ := hw
      refine fin [kD true] ?_ (.cons (.str _) .nil) (sh1 _)
      show DpAll K H [V.str (kS (own ks a))] _
      rw [h]
      exact .cons (.str _) .nil
    | ite r x y => exact absurd (decide_eq_true rfl) z
abbrev s_own_kind : Stmt := topS 27
theorem sc_own_kind : FnScope ["kinds", "knot", "told"] ["kinds", "knot", "told"] (defScope s_own_kind) := ⟨rfl, rfl, rfl, by decide +kernel, rfl, by decide +kernel, by decide +kernel⟩
def spOK (K : PySem.W.Frag) : Sp := fun vs H Q _ => ∃ (p : Pg) (ks : List Bool) (ka t : Addr) (v : V), vs = [.ref ka, v, .ref t] ∧ SqT K H ka (kVs ks) ∧ At K H v p ∧ SqT K H t (kids ks (parts p)) ∧ Wk ks p ∧ Q (.str (kS (own ks p))) H
theorem ok_own_kind {d : Addr} (F : Forms K w mg d) (D : DefAt K mg "own_kind" s_own_kind ["kinds", "knot", "told"]) : Cal P w K mg base 1 "own_kind" ["kinds", "knot", "told"] (spOK K) := by
  refine cal_of D sc_own_kind (fun vs H Q E h => ?_) (fun f cdv A outer s H vs Q E hr h => ?_)
  · obtain ⟨p, ks, ka, t, v, rfl, _⟩ := h
    rfl
  obtain ⟨p, ks, ka, t, v, rfl, hk, hv, ht, hw, q⟩ := h
  have hFORMS := F.g
  refine ⟨_, (pss_cons (ps_if (pt_cmpR op_eq (pe_ix ix_tup (pv 1) pe_int (fun _ _ => rfl)) pe_str (nomark _))
        (pss_one (ps_ret (pe_ix ix_tup (pv 0) (pe_ix ix_tup (pv 1) pe_int (fun _ _ => rfl)) (fun _ _ => rfl))))
        pss_nil)
      (pss_cons (ps_if (pt_cmpR op_eq (pe_ix ix_tup (pv 1) pe_int (fun _ _ => rfl)) pe_str (nomark _))
        (pss_one (ps_ret (pe_ix ix_tup (pv 2) pe_int (fun _ _ => rfl))))
        pss_nil)
      (pss_one (ps_ret (pe_ix ix_tup (pe_ix ix_kdict (pe_gr (by rfl) hFORMS) (pe_ix ix_tup (pv 1) pe_int (fun _ _ => rfl)) (fun _ _ => rfl)) pe_int (fun _ _ => rfl)))))), ?_⟩
  obtain ⟨a, vs, rfl, ha, hvs⟩ := hv.open
  obtain ⟨ft, fu, e, a', b⟩ := F.at p
  refine ⟨_, rfl, a, _, 0, _, rfl, rfl, ha, at_word p vs, rfl, _, rfl, ite2 (fun z => ?_) (fun z => ?_)⟩
  · have z' : V.str (word p) = V.str "in" := of_decide_eq_true z
    obtain ⟨k, rfl⟩ := word_in z'
    have hk' : k < ks.length := hw
    have ek : (kVs ks)[k]? = some (.str (kS (own ks (.inp k)))) := by
      unfold kVs
      rw [List.getElem?_map, List.getElem?_eq_getElem hk']
      show some (V.str (kS ks[k])) = some (V.str (kS (ks.getD k false)))
      rw [List.getD_eq_getElem?_getD, List.getElem?_eq_getElem hk']
      rfl
    exact ⟨_, rfl, _, rfl, a, _, 1, .int k, rfl, rfl, ha, at_of (j := 1) rfl rfl, ka, _, _, _, rfl, rfl, hk, at_of (j := k) rfl ek, q⟩
  refine ⟨_, rfl, a, _, 0, _, rfl, rfl, ha, at_word p vs, rfl, _, rfl, ite2 (fun y => ?_) (fun y => ?_)⟩
  · have y' : V.str (word p) = V.str "if" := of_decide_eq_true y
    obtain ⟨r, x, u, rfl⟩ := word_if y'
    exact ⟨_, rfl, t, _, 1, .str (kS (own ks x)), rfl, rfl, ht, rfl, q⟩
  · have eo : ownV p = .str (kS (own ks p)) := by
      cases p with
      | inp k => exact absurd (decide_eq_true rfl) z
      | ite r x u => exact absurd (decide_eq_true rfl) y
      | _ => rfl
    rw [eo] at a'
    exact ⟨_, rfl, a, _, 0, _, rfl, rfl, ha, at_word p vs, d, word p, .ref ft, rfl, rfl, e, ft, _, 2, _, rfl, rfl, a'.sq _, rfl, q⟩
abbrev s_knots : Stmt := topS 17
theorem sc_knots : FnScope ["program", "told", "waiting", "knot"] ["program"] (defScope s_knots) := ⟨rfl, rfl, rfl, by decide +kernel, rfl, by decide +kernel, by decide +kernel⟩
def spKnots (K : PySem.W.Frag) : Sp := fun vs H Q _ => ∃ (v : V) (p : Pg), vs = [v] ∧ At K H v p ∧ psz p ≤ 10000 ∧ ∀ (l : Addr) (us : List V) (H' : Hp), Same H H' → H l = none → H' l = some (.lst us) → Ats K H' us (kn p) → Q (.ref l) H'
theorem knf_len : ∀ fs : List Pg, fs.length ≤ (knf fs).length
  | [] => Nat.le_refl _
  | q :: fs => by
    have := knf_len fs
    have h : knf (q :: fs) = kn q ++ knf fs := by simp [knf]
    rw [h, List.length_append, kn_len, List.length_cons]
    have := psz_pos q
    omega
theorem ok_knots (C_has_form : Cal P w K mg base 2 "has_form" ["thing"] (spHF K)) (C_parts_of : Cal P w K mg base 2 "parts_of" ["knot"] (spPO K)) (D : DefAt K mg "knots" s_knots ["program"]) : Cal P w K mg base 3 "knots" ["program"] (spKnots K) := by
  refine cal_of D sc_knots (fun vs H Q E h => ?_) (fun f cdv A outer s H vs Q E hr h => ?_)
  · obtain ⟨v, p, rfl, _⟩ := h
    rfl
  obtain ⟨v, p, rfl, hv, hsz, q⟩ := h
  have hr' : Room 2 _ := hr
  refine ⟨_, (pss_cons (ps_set (i := 1) sc_knots.nd rfl (.inl rfl) (pe_lst pa_nil))
      (pss_cons (ps_set (i := 2) sc_knots.nd rfl (.inl rfl) (pe_lst (pa_cons (pv 0) pa_nil)))
      (pss_cons (ps_while PassesOwn.never (pt_truth (pv 2) (by intro _; rfl))
        (pss_cons (ps_set (i := 3) sc_knots.nd rfl (.inl rfl) (pe_bm0 PySem.F.plainAttrs_list PySem.F.slot_list_pop PySem.F.type_list_pop mt_pop (pv 2)))
      (pss_cons (ps_expr (pe_bm PySem.F.plainAttrs_list PySem.F.slot_list_append PySem.F.type_list_append mt_append (pv 1) (pa_cons (pv 3) pa_nil)))
      (pss_one (ps_if (pt_val (pe_cal C_has_form hr' (by rfl) (pa_cons (pv 3) pa_nil)))
        (pss_one (ps_expr (pe_bm PySem.F.plainAttrs_list PySem.F.slot_list_extend PySem.F.type_list_extend mt_extendT (pv 2) (pa_cons (pe_revT (pe_cal C_parts_of hr' (by rfl) (pa_cons (pv 3) pa_nil))) pa_nil))))
        pss_nil)))))
      (pss_one (ps_ret (pv 1)))))), ?_⟩
  refine ⟨(by show 0 ≤ sizeLine; decide), fun lt hlt => ⟨_, rfl, (by show 1 ≤ sizeLine; decide), fun lw hlw => ?_⟩⟩
  have s1 : Same H (upd H lt (.lst [])) := same_new hlt
  have s2 : Same (upd H lt (.lst [])) (upd (upd H lt (.lst [])) lw (.lst [v])) := same_new hlw
  have lw0 : H lw = none := s1.free hlw
  have ntw : lt ≠ lw := fun z => by rw [← z, upd_same] at hlw; cases hlw
  refine ⟨fun m σ H' => ∃ (fs done : List Pg) (us ws : List V) (y3 : Option V), σ = [some v, some (.ref lt), some (.ref lw), y3] ∧ m = (knf fs).length ∧ Same H H' ∧ H' lt = some (.lst us) ∧ H' lw = some (.lst ws.reverse) ∧ Ats K H' ws fs ∧ Ats K H' us done ∧ done ++ knf fs = kn p, ?_, ?_⟩
  · refine ⟨_, [p], [], [], [v], none, rfl, rfl, s1.trans s2, s2 _ _ upd_same, upd_same, .cons (hv.keep (Tp.same (s1.trans s2))) .nil, .nil, by rw [knf_one]; rfl⟩
  · rintro m σ H' ⟨fs, done, us, ws, y3, rfl, rfl, sm, ht, hw, aw, au, ek⟩
    have lk : done.length + (knf fs).length = psz p := by rw [← kn_len, ← ek, List.length_append]
    refine ⟨_, rfl, _, .inl ⟨_, SqL.of hw, rfl⟩, ite2 (fun c => ?_) (fun c => ?_)⟩
    · cases ws with
      | nil => simp at c
      | cons x ws =>
        cases fs with
        | nil => cases aw
        | cons r fs =>
          obtain ⟨ax, aws⟩ : At K H' x r ∧ Ats K H' ws fs := by
            cases aw with
            | cons a b => exact ⟨a, b⟩
          rw [List.reverse_cons] at hw
          rw [knf_cons] at ek lk ⊢
          rw [List.length_cons] at lk ⊢
          refine ⟨fun σ' H2 => ∃ m', m' < (knf (parts r ++ fs)).length + 1 ∧ ∃ (fs done : List Pg) (us ws : List V) (y3 : Option V), σ' = [some v, some (.ref lt), some (.ref lw), y3] ∧ m' = (knf fs).length ∧ Same H H2 ∧ H2 lt = some (.lst us) ∧ H2 lw = some (.lst ws.reverse) ∧ Ats K H2 ws fs ∧ Ats K H2 us done ∧ done ++ knf fs = kn p, fun σ' H2 h => h, ?_⟩
          refine ⟨_, rfl, .inl ⟨rfl, _, SqL.of hw⟩, lw, _, x, rfl, rfl, hw, ?_, ?_⟩
          · rw [List.length_append, List.length_singleton, Nat.add_sub_cancel, List.getElem?_append_right (Nat.le_refl _), Nat.sub_self]
            rfl
          rw [List.dropLast_concat]
          have t2 : Tp K H' (upd H' lw (.lst ws.reverse)) := Tp.lst hw
          have hw2 : (upd H' lw (.lst ws.reverse)) lw = some (.lst ws.reverse) := upd_same
          have ht2 : (upd H' lw (.lst ws.reverse)) lt = some (.lst us) := by rw [upd_ne ntw]; exact ht
          have sm2 : Same H (upd H' lw (.lst ws.reverse)) := fun b o z => by
            rw [upd_ne (ne_of_none z lw0)]
            exact sm b o z
          generalize upd H' lw (.lst ws.reverse) = H2 at t2 hw2 ht2 sm2
          have ul : us.length = done.length := au.len
          refine ⟨_, rfl, .inl ⟨rfl, _, SqL.of ht2⟩, _, rfl, lt, _, _, rfl, rfl, ht2, smallL (by omega), ?_⟩
          have t3 : Tp K H2 (upd H2 lt (.lst (us ++ [x]))) := Tp.lst ht2
          have hw3 : (upd H2 lt (.lst (us ++ [x]))) lw = some (.lst ws.reverse) := by rw [upd_ne ntw.symm]; exact hw2
          have ht3 : (upd H2 lt (.lst (us ++ [x]))) lt = some (.lst (us ++ [x])) := upd_same
          have sm3 : Same H (upd H2 lt (.lst (us ++ [x]))) := fun b o z => by
            rw [upd_ne (ne_of_none z hlt)]
            exact sm2 b o z
          generalize upd H2 lt (.lst (us ++ [x])) = H3 at t3 hw3 ht3 sm3
          have t13 := t2.trans t3
          have ax3 := ax.keep t13
          refine ⟨_, rfl, x, r, rfl, ax3, _, rfl, ?_⟩
          refine ⟨_, rfl, .inl ⟨rfl, _, SqL.of hw3⟩, _, rfl, x, r, rfl, ax3, fun t vs ht' hvs => ?_⟩
          have s4 : Same H3 (upd H3 t (.tup vs)) := same_new ht'
          refine ⟨t, vs, rfl, .inl (.inl upd_same), fun t2' ht2' => ?_⟩
          have s5 : Same (upd H3 t (.tup vs)) (upd (upd H3 t (.tup vs)) t2' (.tup vs.reverse)) := same_new ht2'
          have s35 := s4.trans s5
          have hw5 := s35 _ _ hw3
          have ht5 := s35 _ _ ht3
          have vl := hvs.len
          have wl := aws.len
          have kl := knf_len (parts r ++ fs)
          rw [List.length_append] at kl
          refine ⟨lw, t2', _, _, rfl, rfl, hw5, .inl (.inl upd_same), by rw [List.length_reverse, List.length_reverse]; exact small (by omega), ?_⟩
          have t6 : Tp K H3 (upd (upd (upd H3 t (.tup vs)) t2' (.tup vs.reverse)) lw (.lst (ws.reverse ++ vs.reverse))) := (Tp.same s35).trans (Tp.lst hw5)
          refine ⟨(knf (parts r ++ fs)).length, Nat.lt_succ_self _, parts r ++ fs, done ++ [r], us ++ [x], vs ++ ws, some x, rfl, rfl, ?_, by rw [upd_ne ntw]; exact ht5, by rw [upd_same, List.reverse_append], (hvs.keep t6).app ((aws.keep t13).keep t6), ((au.keep t13).keep t6).app (.cons (ax3.keep t6) .nil), by rw [← ek, List.append_assoc]; rfl⟩
          intro b o z
          rw [upd_ne (ne_of_none z lw0)]
          exact s35 _ _ (sm3 b o z)
    · cases ws with
      | cons x ws => exact absurd (by simp) c
      | nil =>
        cases fs with
        | cons r fs => cases aw
        | nil =>
          have ed : done = kn p := by rw [← ek]; simp [knf]
          rw [ed] at au
          exact ⟨_, rfl, q lt us H' sm hlt ht au⟩
end
end Lm

set_option Elab.async false
set_option linter.all false
set_option maxRecDepth 100000
set_option maxHeartbeats 2000000
namespace Lm
open PySem PySem.Spec PyProof.Rows L2 LmR
section
variable {P : Program} {w : World} {K : PySem.W.Frag} {mg : Str → Option Value} {base : Heap}
abbrev s_kind_of : Stmt := topS 16
theorem sc_kind_of : FnScope ["kinds", "program", "every", "wrong", "ready", "at", "word", "told"] ["kinds", "program"] (defScope s_kind_of) := ⟨rfl, rfl, rfl, by decide +kernel, rfl, by decide +kernel, by decide +kernel⟩
def spKO (K : PySem.W.Frag) : Sp := fun vs H Q _ => ∃ (ka : Addr) (ks : List Bool) (v : V) (p : Pg), vs = [.ref ka, v] ∧ SqT K H ka (kVs ks) ∧ At K H v p ∧ Wk ks p ∧ psz p ≤ 10000 ∧ ∀ H', Same H H' → Q (.str (kS (own ks p))) H'
theorem ok_kind_of (B : Bt mg) (C_knots : Cal P w K mg base 3 "knots" ["program"] (spKnots K)) (C_refuse_forms : Cal P w K mg base 3 "refuse_forms" ["every"] (spRF K)) (C_refuse_inputs : Cal P w K mg base 1 "refuse_inputs" ["every", "many"] (spRI K)) (C_taken : Cal P w K mg base 1 "taken" ["pile", "many"] (spTaken)) (C_many_parts : Cal P w K mg base 1 "many_parts" ["word"] (spMP)) (C_parts_fit : Cal P w K mg base 1 "parts_fit" ["word", "told"] (spPF K)) (C_own_kind : Cal P w K mg base 1 "own_kind" ["kinds", "knot", "told"] (spOK K)) (D : DefAt K mg "kind_of" s_kind_of ["kinds", "program"]) : Cal P w K mg base 4 "kind_of" ["kinds", "program"] (spKO K) := by
  refine cal_of D sc_kind_of (fun vs H Q E h => ?_) (fun f cdv A outer s H vs Q E hr h => ?_)
  · obtain ⟨ka, ks, v, p, rfl, _⟩ := h
    rfl
  obtain ⟨ka, ks, v, p, rfl, hk, hv, hw, hsz, q⟩ := h
  have C_refuse_inputs := C_refuse_inputs.mono (k := 3) (by decide)
  have C_taken := C_taken.mono (k := 3) (by decide)
  have C_many_parts := C_many_parts.mono (k := 3) (by decide)
  have C_parts_fit := C_parts_fit.mono (k := 3) (by decide)
  have C_own_kind := C_own_kind.mono (k := 3) (by decide)
  have hr' : Room 3 _ := hr
  refine ⟨_, (pss_cons (ps_set (i := 2) sc_kind_of.nd rfl (.inl rfl) (pe_cal C_knots hr' (by rfl) (pa_cons (pv 1) pa_nil)))
      (pss_cons (ps_expr (pe_cal C_refuse_forms hr' (by rfl) (pa_cons (pv 2) pa_nil)))
      (pss_cons (ps_expr (pe_cal C_refuse_inputs hr' (by rfl) (pa_cons (pv 2) (pa_cons (pe_callB call_len_seq (by rfl) B.len PySem.boot_len (pa_cons (pv 0) pa_nil)) pa_nil))))
      (pss_cons (ps_set (i := 3) sc_kind_of.nd rfl (.inl rfl) pe_non)
      (pss_cons (ps_set (i := 4) sc_kind_of.nd rfl (.inl rfl) (pe_lst pa_nil))
      (pss_cons (ps_for PassesOwn.never rfl (pi_revR (by rfl) B.reversed (prg_1 (by rfl) B.range (pe_callB call_len_seq (by rfl) B.len PySem.boot_len (pa_cons (pv 2) pa_nil)))) (pg_name (i := 5) sc_kind_of.nd rfl (.inl rfl))
        (pss_cons (ps_set (i := 6) sc_kind_of.nd rfl (.inl rfl) (pe_ix ix_tup (pe_ix ix_list (pv 2) (pv 5) (fun _ _ => rfl)) pe_int (fun _ _ => rfl)))
      (pss_cons (ps_set (i := 7) sc_kind_of.nd rfl (.inl rfl) (pe_cal C_taken hr' (by rfl) (pa_cons (pv 4) (pa_cons (pe_cal C_many_parts hr' (by rfl) (pa_cons (pv 6) pa_nil)) pa_nil))))
      (pss_cons (ps_if (pt_not (pt_val (pe_cal C_parts_fit hr' (by rfl) (pa_cons (pv 6) (pa_cons (pv 7) pa_nil)))))
        (pss_one (ps_set (i := 3) sc_kind_of.nd rfl (.inl rfl) (pv 5)))
        pss_nil)
      (pss_one (ps_expr (pe_bm PySem.F.plainAttrs_list PySem.F.slot_list_append PySem.F.type_list_append mt_append (pv 4) (pa_cons (pe_cal C_own_kind hr' (by rfl) (pa_cons (pv 0) (pa_cons (pe_ix ix_list (pv 2) (pv 5) (fun _ _ => rfl)) (pa_cons (pv 7) pa_nil)))) pa_nil))))))))
      (pss_cons (ps_if (pt_cmpR op_notN (pv 3) pe_non (nomark _))
        (pss_one ps_never)
        pss_nil)
      (pss_one (ps_ret (pe_ix ix_list (pv 4) pe_int (fun _ _ => rfl))))))))))), ?_⟩
  refine ⟨_, rfl, v, p, rfl, hv, hsz, fun le us H1 s1 le0 hle hus => ?_⟩
  refine ⟨_, rfl, le, us, kn p, rfl, hle, hus, fun H2 s2 => ?_⟩
  have klen : (kVs ks).length = ks.length := List.length_map _
  have hk2 : SqT K H2 ka (kVs ks) := Tp.same (s1.trans s2) _ _ hk
  refine ⟨_, rfl, _, rfl, ka, _, rfl, .inr hk2, le, us, kn p, ks, by rw [klen]; rfl, s2 _ _ hle, hus.keep (Tp.same s2), fun q' hq' => kn_wk ks p q' hw hq', fun H3 s3 => ?_⟩
  refine ⟨(by show 0 ≤ sizeLine; decide), fun lr hlr => ?_⟩
  have s4 : Same H3 (upd H3 lr (.lst [])) := same_new hlr
  have s03 : Same H H3 := s1.trans (s2.trans s3)
  have lr0 : H lr = none := s03.free hlr
  have hle4 : (upd H3 lr (.lst [])) le = some (.lst us) := (s2.trans (s3.trans s4)) _ _ hle
  have hus4 : Ats K (upd H3 lr (.lst [])) us (kn p) := hus.keep (Tp.same (s2.trans (s3.trans s4)))
  have hk4 : SqT K (upd H3 lr (.lst [])) ka (kVs ks) := Tp.same (s03.trans s4) _ _ hk
  have hlr4 : (upd H3 lr (.lst [])) lr = some (.lst []) := upd_same
  have s04 := s03.trans s4
  have nler : le ≠ lr := fun z => by
    rw [← z, (s2.trans s3) _ _ hle] at hlr
    cases hlr
  generalize upd H3 lr (.lst []) = H4 at hle4 hus4 hk4 hlr4 s04
  have ul : us.length = (kn p).length := hus.len
  have kl := kn_len p
  refine ⟨_, rfl, le, us, rfl, .inl (SqL.of hle4), _, rfl, by omega, by omega, by omega, by omega, for_rangeC (n := (((us.length : Nat) : Int) - 0).toNat) (fun i σ' H' => ∃ (fs : List Pg) (y5 y6 y7 : Option V), σ' = [some (.ref ka), some v, some (.ref le), some .non, some (.ref lr), y5, y6, y7] ∧ Same H H' ∧ H' le = some (.lst us) ∧ Ats K H' us (kn p) ∧ SqT K H' ka (kVs ks) ∧ (kn p).drop (us.length - i) = knf fs ∧ H' lr = some (.lst (kids ks fs).reverse)) ?_ ?_ ?_⟩
  · exact ⟨[], none, none, none, rfl, s04, hle4, hus4, hk4, by rw [ul, Nat.sub_zero, List.drop_length]; rfl, hlr4⟩
  · rintro i σ' H' hi ⟨fs, y5, y6, y7, rfl, sm, hle', hus', hk', hdrop, hlr'⟩
    have hi' : i < us.length := by omega
    obtain ⟨x, hx⟩ : ∃ x, (kn p)[us.length - (i + 1)]? = some x := ⟨_, List.getElem?_eq_getElem (by omega)⟩
    have hu : us[us.length - (i + 1)]? = some us[us.length - (i + 1)] := List.getElem?_eq_getElem (by omega)
    obtain ⟨x', hx', hax⟩ := hus'.get _ _ hu
    rw [hx] at hx'
    have ex := Option.some.inj hx'
    subst ex
    generalize us[us.length - (i + 1)] = xv at hu hax
    have e1 : us.length - (i + 1) + 1 = us.length - i := by omega
    obtain ⟨rest, rfl, hdr⟩ := knf_step hx (by rw [e1]; exact hdrop)
    have hwx : Wk ks x := kn_wk ks p x hw (List.mem_of_getElem? hx)
    have eidx : (0 : Int) + ((((us.length : Nat) : Int) - 0).toNat : Int) - 1 + (i : Int) * (-1) = ((us.length - (i + 1) : Nat) : Int) := by omega
    obtain ⟨a, vs, rfl, ha, hvs⟩ := hax.open
    refine ⟨_, rfl, _, rfl, le, us, _, _, rfl, rfl, SqL.of hle', at_of (j := us.length - (i + 1)) eidx hu, a, _, 0, _, rfl, rfl, ha, at_word x vs, ?_⟩
    have ekids : kids ks (parts x ++ rest) = kids ks (parts x) ++ kids ks rest := List.map_append ..
    have elen : (kids ks (parts x)).length = (parts x).length := List.length_map _
    have plen : (parts x).length ≤ 3 := by cases x <;> simp [parts]
    rw [ekids, List.reverse_append] at hlr'
    refine ⟨_, rfl, _, rfl, x, rfl, lr, (kids ks rest).reverse, kids ks (parts x), by rw [elen]; rfl, hlr', by omega, fun t H5 ex5 hlr5 ht5 => ?_⟩
    have nar : ∀ {o : HO}, ∀ b, H b = some o → b ∉ [lr] := fun b hb => by simp [ne_of_none hb lr0]
    have sm5 : Same H H5 := fun b o hb => ex5 b o (sm b o hb) (nar b hb)
    have tp5 : Tp K H' H5 := ex5.tp fun b hb ys z => by
      rw [List.mem_singleton.mp hb] at z
      rcases z with z | ⟨o, z⟩
      · rw [hlr'] at z; cases z
      · rw [hlr'] at z; cases z
    have hle5 := ex5 _ _ hle' (by simp [nler])
    have hus5 := hus'.keep tp5
    have hk5 := tp5 _ _ hk'
    refine ⟨_, rfl, _, rfl, x, ks, t, rfl, .inl (.inl ht5), hwx, fun H6 s6 => ⟨_, rfl, ?_⟩⟩
    have hlr6 := s6 _ _ hlr5
    have hle6 := s6 _ _ hle5
    have hax6 : At K H6 (.ref a) x := (hax.keep tp5).keep (Tp.same s6)
    refine ⟨_, rfl, .inl ⟨rfl, _, SqL.of hlr6⟩, _, rfl, _, rfl, _, rfl, le, us, _, _, rfl, rfl, SqL.of hle6, at_of (j := us.length - (i + 1)) eidx hu, _, rfl, ?_⟩
    refine ⟨x, ks, ka, t, .ref a, rfl, Tp.same s6 _ _ hk5, hax6, .inl (.inl (s6 _ _ ht5)), hwx, ?_⟩
    have rl : (kids ks rest).length ≤ 10000 := by
      have z := knf_len rest
      have z2 : (kn p).length - (us.length - (i + 1)) = (knf (x :: rest)).length := by rw [← hdr, List.length_drop]
      rw [knf_cons, List.length_cons] at z2
      have z3 : knf (parts x ++ rest) = knf (parts x) ++ knf rest := by simp [knf]
      rw [z3, List.length_append] at z2
      rw [show (kids ks rest).length = rest.length from List.length_map _]
      omega
    have t7 : Tp K H6 (upd H6 lr (.lst ((kids ks rest).reverse ++ [V.str (kS (own ks x))]))) := Tp.lst hlr6
    refine ⟨lr, _, _, rfl, rfl, hlr6, by rw [List.length_reverse]; exact smallL (by omega), x :: rest, _, _, _, rfl, fun b o hb => ?_, by rw [upd_ne nler]; exact hle6, (hus5.keep (Tp.same s6)).keep t7, t7 _ _ (Tp.same s6 _ _ hk5), hdr, ?_⟩
    · rw [upd_ne (ne_of_none hb lr0)]
      exact s6 _ _ (sm5 b o hb)
    · rw [upd_same]
      show _ = some (HO.lst (V.str (kS (own ks x)) :: kids ks rest).reverse)
      rw [List.reverse_cons]
  · rintro σ' H' ⟨fs, y5, y6, y7, rfl, sm, hle', hus', hk', hdrop, hlr'⟩
    have e0 : us.length - (((us.length : Nat) : Int) - 0).toNat = 0 := by omega
    rw [e0, List.drop_zero, ← knf_one] at hdrop
    have ef := knf_inj _ _ _ (Nat.le_refl _) hdrop
    subst ef
    exact ⟨_, rfl, rfl, _, rfl, _, rfl, lr, _, 0, _, rfl, rfl, SqL.of hlr', rfl, q _ sm⟩
end
end Lm

set_option Elab.async false
set_option linter.all false
set_option maxRecDepth 100000
set_option maxHeartbeats 2000000
namespace Lm
open PySem PySem.Spec PyProof.Rows L2 LmR
theorem in_nums (p : Pg) : inV (.str (word p)) [.str "in", .str "num", .str "plus"] = decide (nn p = 1) := by
  cases p with
  | tr b => cases b <;> rfl
  | bin w a b => cases w <;> rfl
  | _ => rfl
theorem in_words (p : Pg) : inV (.str (word p)) [.str "yes", .str "no", .str "not", .str "if", .str "least", .str "most", .str "atmost", .str "both", .str "either"] = decide (nn p = 0) := by
  cases p with
  | tr b => cases b <;> rfl
  | bin w a b => cases w <;> rfl
  | _ => rfl
theorem in_leaf (p : Pg) : inV (.str (word p)) [.str "in", .str "num"] = decide (nn p = 1 ∧ parts p = []) := by
  cases p with
  | tr b => cases b <;> rfl
  | bin w a b => cases w <;> rfl
  | plus c a => exact (show false = decide (1 = 1 ∧ [a] = []) by simp)
  | inp k => exact (show true = decide (1 = 1 ∧ ([] : List Pg) = []) by simp)
  | num k => exact (show true = decide (1 = 1 ∧ ([] : List Pg) = []) by simp)
  | neg a => rfl
  | ite p a b => rfl
def manyL : List (Key × V) := [(Sum.inr "in", .int 0), (Sum.inr "num", .int 0), (Sum.inr "yes", .int 0), (Sum.inr "no", .int 0), (Sum.inr "plus", .int 1), (Sum.inr "not", .int 1), (Sum.inr "if", .int 3)]
def manyKV : List (Key × V) := mergeK [] manyL
theorem many_get (p : Pg) : (valV manyKV (Sum.inr (word p))).getD (.int 2) = .int ((parts p).length : Nat) := by
  cases p with
  | tr b => cases b <;> rfl
  | bin w a b => cases w <;> rfl
  | _ => rfl
theorem kII {K : PySem.W.Frag} : PySem.W.kitOne K (.type "int") (.type "int") = some true := kit_ty (by decide +kernel)
theorem kIB {K : PySem.W.Frag} : PySem.W.kitOne K (.type "int") (.type "bool") = some false := kit_ty (by decide +kernel)
theorem fl_str {x : Str} : flatV (.str x) = true := rfl
section
variable {P : Program} {w : World} {K : PySem.W.Frag} {mg : Str → Option Value} {base : Heap}
abbrev s_l_has_form : Stmt := topS 38
theorem sc_l_has_form : FnScope ["_law_knot", "_law_many", "_law_words"] ["_law_knot"] (defScope s_l_has_form) := ⟨rfl, rfl, rfl, by decide +kernel, rfl, by decide +kernel, by decide +kernel⟩
def spLHF (K : PySem.W.Frag) : Sp := fun vs H Q _ => ∃ (v : V) (p : Pg), vs = [v] ∧ At K H v p ∧ ∀ H', Same H H' → Q (.bl true) H'
theorem ok_l_has_form (B : Bt mg) (D : DefAt K mg "_law_has_form" s_l_has_form ["_law_knot"]) : Cal P w K mg base 1 "_law_has_form" ["_law_knot"] (spLHF K) := by
  refine cal_of D sc_l_has_form (fun vs H Q E h => ?_) (fun f cdv A outer s H vs Q E hr h => ?_)
  · obtain ⟨v, p, rfl, _⟩ := h
    rfl
  obtain ⟨v, p, rfl, hv, q⟩ := h
  refine ⟨_, (pss_cons (ps_if (PW.pt (pw_or (pt_not (pt_val (pe_callB call_isi (by rfl) B.isinstance (by decide +kernel) (pa_cons (pv 0) (pa_cons (pe_bltn (v := .ty "tuple") (by rfl) B.tuple PyProof.Rows.boot_tuple rfl) pa_nil))))) (pw_or (pt_cmpR op_eq (pe_callB call_len_seq (by rfl) B.len PySem.boot_len (pa_cons (pv 0) pa_nil)) pe_int (nomark _)) (pw_or1 (pt_not (pt_val (pe_callB call_isi (by rfl) B.isinstance (by decide +kernel) (pa_cons (pe_ix ix_tup (pv 0) pe_int (fun _ _ => rfl)) (pa_cons (pe_bltn (v := .ty "str") (by rfl) B.str PyProof.Rows.boot_str rfl) pa_nil)))))))))
        (pss_one (ps_ret pe_bl))
        pss_nil)
      (pss_cons (ps_set (i := 1) sc_l_has_form.nd rfl (.inl rfl) (pe_dget2 (hu_of hr) (pe_disp (pps_cons pe_str pe_int (pps_cons pe_str pe_int (pps_cons pe_str pe_int (pps_cons pe_str pe_int (pps_cons pe_str pe_int (pps_cons pe_str pe_int (pps_cons pe_str pe_int pps_nil))))))) (by rfl) (by rfl) (fun z => by cases z) (by decide)) (pe_ix ix_tup (pv 0) pe_int (fun _ _ => rfl)) pe_int (by constructor <;> rfl)))
      (pss_cons (ps_if (pt_cmpR op_in_seq (pe_ix ix_tup (pv 0) pe_int (fun _ _ => rfl)) (pe_tup (pa_cons pe_str (pa_cons pe_str (pa_cons pe_str pa_nil)))) rfl)
        (pss_one (ps_ret (pe_and (pe_cmpR op_eq (pe_callB call_len_seq (by rfl) B.len PySem.boot_len (pa_cons (pv 0) pa_nil)) (pe_op op_add (pv 1) pe_int) (nomark _)) (pe_and (pe_callB call_isi (by rfl) B.isinstance (by decide +kernel) (pa_cons (pe_ix ix_tup (pv 0) pe_int (fun _ _ => rfl)) (pa_cons (pe_bltn (v := .ty "int") (by rfl) B.int PyProof.Rows.boot_int rfl) pa_nil))) (pe_one (pe_not (pe_callB call_isi (by rfl) B.isinstance (by decide +kernel) (pa_cons (pe_ix ix_tup (pv 0) pe_int (fun _ _ => rfl)) (pa_cons (pe_bltn (v := .ty "bool") (by rfl) B.bool PyProof.Rows.boot_bool rfl) pa_nil)))))))))
        pss_nil)
      (pss_cons (ps_set (i := 2) sc_l_has_form.nd rfl (.inl rfl) (pe_tup (pa_cons pe_str (pa_cons pe_str (pa_cons pe_str (pa_cons pe_str (pa_cons pe_str (pa_cons pe_str (pa_cons pe_str (pa_cons pe_str (pa_cons pe_str pa_nil)))))))))))
      (pss_one (ps_ret (pe_and (pe_cmpR op_in_seq (pe_ix ix_tup (pv 0) pe_int (fun _ _ => rfl)) (pv 2) rfl) (pe_one (pe_cmpR op_eq (pe_callB call_len_seq (by rfl) B.len PySem.boot_len (pa_cons (pv 0) pa_nil)) (pe_op op_add (pv 1) pe_int) (nomark _)))))))))), ?_⟩
  obtain ⟨a, vs, rfl, ha, hvs⟩ := hv.open
  have hl : (front p ++ vs).length = 1 + nn p + (parts p).length := by rw [List.length_append, front_len, hvs.len]
  refine ⟨_, rfl, _, _, _, _, _, rfl, .ty _, tyx_tup ha, kTT, _, rfl, ?_⟩
  refine ⟨_, rfl, a, _, rfl, .inr ha, rfl, _, rfl, ite2 (fun z => ?_) (fun _ => ?_)⟩
  · have z' : V.int (((front p ++ vs).length : Nat) : Int) = V.int 0 := of_decide_eq_true z
    have z2 := V.int.inj z'
    omega
  refine ⟨_, rfl, a, _, 0, _, rfl, rfl, ha, at_word p vs, _, _, _, _, _, rfl, .ty _, .base (.str _), kSS, _, rfl, ?_⟩
  -- many
  refine fun d hd => ⟨upd_same, manyL, rfl, (by show 7 ≤ 15; decide), ?_⟩
  refine ⟨d, rfl, .inl ⟨_, .inl upd_same⟩, ?_⟩
  have s1 : Same H (upd (upd H d (.dK [])) d (.dK manyKV)) := fun b o z => by
    rw [upd_ne (ne_of_none z hd), upd_ne (ne_of_none z hd)]
    exact z
  have e1 : (upd (upd H d (.dK [])) d (.dK manyKV)) d = some (.dK manyKV) := upd_same
  show (tOp (rIxT K) (tVar 0) (tC (V.int 0))) _ (upd (upd H d (.dK [])) d (.dK manyKV)) _
  generalize upd (upd H d (.dK [])) d (.dK manyKV) = H1 at s1 e1
  have ha1 := Tp.same (K := K) s1 _ _ ha
  refine ⟨_, rfl, a, _, 0, _, rfl, rfl, ha1, at_word p vs, _, DGet.k (k := Sum.inr (word p)) e1, ?_⟩
  rw [many_get]
  refine ⟨_, rfl, a, _, 0, _, rfl, rfl, ha1, at_word p vs, (by show 3 ≤ sizeLine; decide), fun t ht => ?_⟩
  have s2 : Same H1 (upd H1 t (.tup [.str "in", .str "num", .str "plus"])) := same_new ht
  have ha2 := Tp.same (K := K) s2 _ _ ha1
  have q2 := q _ (s1.trans s2)
  refine ⟨t, _, rfl, .inr (.inl (.inl upd_same)), rfl, rfl, _, rfl, ?_⟩
  show if inV (.str (word p)) [.str "in", .str "num", .str "plus"] = true then _ else _
  rw [in_nums]
  generalize upd H1 t (.tup [.str "in", .str "num", .str "plus"]) = H2 at s2 ha2 q2
  refine ite2 (fun z => ?_) (fun z => ?_)
  · have hn : nn p = 1 := of_decide_eq_true z
    obtain ⟨i, ei⟩ := at_num p vs (by omega)
    refine ⟨_, rfl, a, _, rfl, .inr ha2, _, rfl, _, _, rfl, rfl, rfl, _, rfl, ?_⟩
    rw [hl, show decide (V.int (((1 + nn p + (parts p).length : Nat)) : Int) = V.int (((parts p).length : Nat) + 2)) = true from decide_eq_true (congrArg V.int (by omega))]
    refine ⟨_, rfl, a, _, 1, _, rfl, rfl, ha2, ei, _, _, _, _, _, rfl, .ty _, .base (.int i), kII, _, rfl, ?_⟩
    exact ⟨_, rfl, a, _, 1, _, rfl, rfl, ha2, ei, _, _, _, _, _, rfl, .ty _, .base (.int i), kIB, _, rfl, q2⟩
  · have hn : nn p = 0 := by
      have hz : nn p ≠ 1 := fun y => z (decide_eq_true y)
      cases p <;> first | rfl | exact absurd rfl hz
    refine ⟨(by show 9 ≤ sizeLine; decide), fun t2 ht2 => ?_⟩
    have s3 : Same H2 (upd H2 t2 (.tup [.str "yes", .str "no", .str "not", .str "if", .str "least", .str "most", .str "atmost", .str "both", .str "either"])) := same_new ht2
    have ha3 := Tp.same (K := K) s3 _ _ ha2
    refine ⟨_, rfl, a, _, 0, _, rfl, rfl, ha3, at_word p vs, _, rfl, t2, _, rfl, .inr (.inl (.inl upd_same)), rfl, rfl, _, rfl, ?_⟩
    show if inV (.str (word p)) [.str "yes", .str "no", .str "not", .str "if", .str "least", .str "most", .str "atmost", .str "both", .str "either"] = true then _ else _
    rw [in_words, decide_eq_true hn]
    refine ⟨_, rfl, a, _, rfl, .inr ha3, _, rfl, _, _, rfl, rfl, rfl, ?_⟩
    rw [hl, show decide (V.int (((1 + nn p + (parts p).length : Nat)) : Int) = V.int (((parts p).length : Nat) + 1)) = true from decide_eq_true (congrArg V.int (by omega))]
    exact q _ (s1.trans (s2.trans s3))
abbrev s_l_parts : Stmt := topS 39
theorem sc_l_parts : FnScope ["_law_knot"] ["_law_knot"] (defScope s_l_parts) := ⟨rfl, rfl, rfl, by decide +kernel, rfl, by decide +kernel, by decide +kernel⟩
def spLP (K : PySem.W.Frag) : Sp := fun vs H Q _ => ∃ (v : V) (p : Pg), vs = [v] ∧ At K H v p ∧ ∀ (t : Addr) (us : List V) (H' : Hp), Same H H' → H' t = some (.tup us) → Ats K H' us (parts p) → Q (.ref t) H'
theorem ok_l_parts (B : Bt mg) (D : DefAt K mg "_law_parts" s_l_parts ["_law_knot"]) : Cal P w K mg base 1 "_law_parts" ["_law_knot"] (spLP K) := by
  refine cal_of D sc_l_parts (fun vs H Q E h => ?_) (fun f cdv A outer s H vs Q E hr h => ?_)
  · obtain ⟨v, p, rfl, _⟩ := h
    rfl
  obtain ⟨v, p, rfl, hv, q⟩ := h
  refine ⟨_, (pss_cons (ps_if (pt_cmpR op_in_seq (pe_ix ix_tup (pv 0) pe_int (fun _ _ => rfl)) (pe_tup (pa_cons pe_str (pa_cons pe_str pa_nil))) rfl)
        (pss_one (ps_ret (pe_tup pa_nil)))
        pss_nil)
      (pss_one (ps_ret (pe_slice sl_tup (pv 0) (po_some (pe_op op_add pe_int (pe_callTy call_int1 (by rfl) B.int PyProof.Rows.boot_int (pa_cons (pe_cmpR op_eq (pe_ix ix_tup (pv 0) pe_int (fun _ _ => rfl)) pe_str (nomark _)) pa_nil)))) po_none)))), ?_⟩
  obtain ⟨a, vs, rfl, ha, hvs⟩ := hv.open
  refine ⟨_, rfl, a, _, 0, _, rfl, rfl, ha, at_word p vs, (by show 2 ≤ sizeLine; decide), fun t ht => ?_⟩
  have s2 : Same H (upd H t (.tup [.str "in", .str "num"])) := same_new ht
  have ha2 := Tp.same (K := K) s2 _ _ ha
  refine ⟨t, _, rfl, .inr (.inl (.inl upd_same)), rfl, rfl, _, rfl, ?_⟩
  show if inV (.str (word p)) [.str "in", .str "num"] = true then _ else _
  rw [in_leaf]
  generalize upd H t (.tup [.str "in", .str "num"]) = H2 at s2 ha2
  refine ite2 (fun z => ?_) (fun z => ?_)
  · obtain ⟨_, hp⟩ := of_decide_eq_true z
    exact ⟨(by show 0 ≤ sizeLine; decide), fun t2 ht2 => q t2 [] _ (s2.trans (same_new ht2)) upd_same (by rw [hp]; exact .nil)⟩
  · have e1 : (1 : Int) + (if (decide (V.str (word p) = V.str "plus")) = true then (1 : Int) else 0) = ((1 + nn p : Nat) : Int) := by
      have hz : ¬ (nn p = 1 ∧ parts p = []) := fun y => z (decide_eq_true y)
      cases p with
      | inp k => exact absurd ⟨rfl, rfl⟩ hz
      | num k => exact absurd ⟨rfl, rfl⟩ hz
      | tr b => cases b <;> rfl
      | plus c a => rfl
      | bin w a b => cases w <;> rfl
      | neg a => rfl
      | ite p a b => rfl
    refine ⟨_, rfl, _, rfl, a, _, 0, _, rfl, rfl, ha2, at_word p vs, rfl, .inr ⟨_, rfl, _, _, rfl, rfl, _, rfl, a, _, rfl, ha2, ?_, fun t2 ht2 => ?_⟩⟩
    · rintro ⟨y, _⟩
      have y' : HT.sIx (front p ++ vs).length 0 (some ((1 : Int) + (if (decide (V.str (word p) = V.str "plus")) = true then (1 : Int) else 0))) = 0 := y
      rw [e1, show HT.sIx (front p ++ vs).length 0 (some ((1 + nn p : Nat) : Int)) = min (1 + nn p) (front p ++ vs).length from HT.sIx_nat _ 0 _, List.length_append, front_len] at y'
      omega
    · have ec : cutV (front p ++ vs) (some ((1 : Int) + (if (decide (V.str (word p) = V.str "plus")) = true then (1 : Int) else 0))) none = vs := by rw [e1]; exact cut_from _ _ _ (front_len p)
      have st : Same H2 (upd H2 t2 (.tup vs)) := same_new ht2
      show Q (.ref t2) (upd H2 t2 (.tup (cutV (front p ++ vs) (some ((1 : Int) + (if (decide (V.str (word p) = V.str "plus")) = true then (1 : Int) else 0))) none)))
      rw [ec]
      exact q t2 vs _ (s2.trans st) upd_same (hvs.keep (Tp.same (s2.trans st)))
end
end Lm

set_option Elab.async false
set_option linter.all false
set_option maxRecDepth 100000
set_option maxHeartbeats 2000000
namespace Lm
open PySem PySem.Spec PyProof.Rows L2 LmR
theorem dep_part (p q : Pg) (h : q ∈ parts p) : dep q + 1 ≤ dep p := by
  cases p with
  | inp k => simp [parts] at h
  | num k => simp [parts] at h
  | tr k => simp [parts] at h
  | plus c a => simp only [parts, List.mem_singleton] at h; subst h; simp only [dep]; omega
  | bin w a b =>
    simp only [parts, List.mem_cons, List.not_mem_nil, or_false] at h
    rcases h with rfl | rfl <;> (simp only [dep]; omega)
  | neg a => simp only [parts, List.mem_singleton] at h; subst h; simp only [dep]; omega
  | ite r a b =>
    simp only [parts, List.mem_cons, List.not_mem_nil, or_false] at h
    rcases h with rfl | rfl | rfl <;> (simp only [dep]; omega)
theorem psz_part (p q : Pg) (h : q ∈ parts p) : psz q + 1 ≤ psz p := by
  cases p with
  | inp k => simp [parts] at h
  | num k => simp [parts] at h
  | tr k => simp [parts] at h
  | plus c a => simp only [parts, List.mem_singleton] at h; subst h; simp only [psz]; omega
  | bin w a b =>
    simp only [parts, List.mem_cons, List.not_mem_nil, or_false] at h
    rcases h with rfl | rfl <;> (simp only [psz]; omega)
  | neg a => simp only [parts, List.mem_singleton] at h; subst h; simp only [psz]; omega
  | ite r a b =>
    simp only [parts, List.mem_cons, List.not_mem_nil, or_false] at h
    rcases h with rfl | rfl | rfl <;> (simp only [psz]; omega)
theorem dsz_enc : ∀ p : Pg, dsz (enc p) ≤ 4 * psz p
  | .inp _ => by simp [enc, dsz, dsz.dszs, psz]
  | .num _ => by simp [enc, dsz, dsz.dszs, psz]
  | .tr _ => by simp [enc, dsz, dsz.dszs, psz]
  | .plus c a => by have := dsz_enc a; simp [enc, dsz, dsz.dszs, psz]; omega
  | .bin w a b => by have := dsz_enc a; have := dsz_enc b; simp [enc, dsz, dsz.dszs, psz]; omega
  | .neg a => by have := dsz_enc a; simp [enc, dsz, dsz.dszs, psz]; omega
  | .ite p a b => by have := dsz_enc a; have := dsz_enc b; have := dsz_enc p; simp [enc, dsz, dsz.dszs, psz]; omega
theorem dszs_le (m : Nat) : ∀ ps : List Pg, (∀ p ∈ ps, psz p ≤ m) → dsz.dszs (ps.map enc) ≤ ps.length * (4 * m)
  | [], _ => by simp [dsz.dszs]
  | p :: ps, h => by
    have h1 := dszs_le m ps fun q hq => h q (List.mem_cons_of_mem _ hq)
    have h2 := dsz_enc p
    have h3 := h p List.mem_cons_self
    simp only [List.map_cons, dsz.dszs, List.length_cons, Nat.add_mul]
    omega
/-- the data of some programs in a tuple -/
theorem fd_knots {K : PySem.W.Frag} {H : Hp} {t : Addr} {us : List V} {ps : List Pg} (h : H t = some (.tup us)) (a : Ats K H us ps) : Fd K H (.ref t) (.tuple (ps.map enc)) := ⟨by simp [flat, flats_encs], .tup (.inl (.inl h)) a⟩
theorem kLL {K : PySem.W.Frag} : PySem.W.kitOne K (.type "list") (.type "list") = some true := kit_ty (by decide +kernel)
theorem pg_tupK {X : Cx} {K : PySem.W.Frag} {es : List Expr} {k : Nat} {t : TGs} {n : Nat} {pos : Pos} (hK : X.K = K) (hc : X.calm = true) (h : PGs X es t)
    (hn : (assignEach es X.env).length = n := by rfl) (hst : (assignEach es X.env).findIdx? (·.1) = none := by rfl) : PG X (.Tuple es k pos) (gTup K n t) := hK ▸ pg_tup hc h hn hst
section
variable {P : Program} {w : World} {K : PySem.W.Frag} {mg : Str → Option Value} {base : Heap}
abbrev s_l_knots : Stmt := topS 40
theorem sc_l_knots : FnScope ["_law_program_here", "_law_found", "_law_part"] ["_law_program_here"] (defScope s_l_knots) := ⟨rfl, rfl, rfl, by decide +kernel, rfl, by decide +kernel, by decide +kernel⟩
def spLK (K : PySem.W.Frag) (n : Nat) : Sp := fun vs H Q _ => ∃ (v : V) (p : Pg), vs = [v] ∧ At K H v p ∧ dep p ≤ n ∧ psz p ≤ 10000 ∧ ∀ (l : Addr) (us : List V) (H' : Hp), Same H H' → H l = none → H' l = some (.lst us) → Ats K H' us (kn p) → Q (.ref l) H'
theorem ok_l_knots1 {n : Nat} (C_l_has_form : Cal P w K mg base 1 "_law_has_form" ["_law_knot"] (spLHF K)) (C_l_parts : Cal P w K mg base 1 "_law_parts" ["_law_knot"] (spLP K)) (C_l_knots : Cal P w K mg base (n + 1) "_law_knots" ["_law_program_here"] (spLK K n)) (D : DefAt K mg "_law_knots" s_l_knots ["_law_program_here"]) : Cal P w K mg base (n + 1 + 1) "_law_knots" ["_law_program_here"] (spLK K (n + 1)) := by
  refine cal_of D sc_l_knots (fun vs H Q E h => ?_) (fun f cdv A outer s H vs Q E hr h => ?_)
  · obtain ⟨v, p, rfl, _⟩ := h
    rfl
  obtain ⟨v, p, rfl, hv, hdep, hsz, q⟩ := h
  have C_l_has_form := C_l_has_form.mono (k := n + 1) (by omega)
  have C_l_parts := C_l_parts.mono (k := n + 1) (by omega)
  have hr' : Room (n + 1) _ := hr
  refine ⟨_, (pss_cons (ps_set (i := 1) sc_l_knots.nd rfl (.inl rfl) (pe_lst (pa_cons (pv 0) pa_nil)))
      (pss_cons (ps_if (pt_val (pe_cal C_l_has_form hr' (by rfl) (pa_cons (pv 0) pa_nil)))
        (pss_one (ps_for PassesOwn.never rfl (pi_tup (pe_cal C_l_parts hr' (by rfl) (pa_cons (pv 0) pa_nil))) (pg_name (i := 2) sc_l_knots.nd rfl (.inl rfl))
        (pss_one (ps_expr (pe_bm PySem.F.plainAttrs_list PySem.F.slot_list_extend PySem.F.type_list_extend mt_extend (pv 1) (pa_cons (pe_cal C_l_knots hr' (by rfl) (pa_cons (pv 2) pa_nil)) pa_nil))))))
        pss_nil)
      (pss_one (ps_ret (pv 1))))), ?_⟩
  refine ⟨_, rfl, (by show 1 ≤ sizeLine; decide), fun l hl => ?_⟩
  have s1 : Same H (upd H l (.lst [v])) := same_new hl
  have l1 : (upd H l (.lst [v])) l = some (.lst [v]) := upd_same
  generalize upd H l (.lst [v]) = H1 at s1 l1
  have hv1 := hv.keep (Tp.same s1)
  refine ⟨_, rfl, v, p, rfl, hv1, fun H2 s2 => ⟨_, rfl, ?_⟩⟩
  have hv2 := hv1.keep (Tp.same s2)
  refine ⟨_, rfl, v, p, rfl, hv2, fun t vs H3 s3 ht hvs => ?_⟩
  have s13 := s2.trans s3
  refine ⟨t, rfl, ⟨_, .inl (.inl ht)⟩, for_tup (K := K) (a := t) (xs := vs) (fun i σ' H' => ∃ (us : List V) (y2 : Option V), σ' = [some v, some (.ref l), y2] ∧ Same H H' ∧ H' t = some (.tup vs) ∧ Ats K H' vs (parts p) ∧ H' l = some (.lst us) ∧ Ats K H' us (p :: knf ((parts p).take i))) ?_ ?_ ?_ ?_⟩
  · exact ⟨[v], none, rfl, s1.trans s13, ht, hvs, s13 _ _ l1, .cons (hv.keep (Tp.same (s1.trans s13))) (by simp [knf]; exact .nil)⟩
  · rintro i σ' H' _ ⟨us, y2, rfl, sm, ht', _⟩
    exact .inl (.inl ht')
  · rintro i x σ' H' hx ⟨us, y2, rfl, sm, ht', hvs', hl', hus⟩
    obtain ⟨r, hr1, har⟩ := hvs'.get i x hx
    have hmem := List.mem_of_getElem? hr1
    have d1 := dep_part p r hmem
    have z1 := psz_part p r hmem
    refine ⟨_, rfl, .inl ⟨rfl, _, SqL.of hl'⟩, _, rfl, x, r, rfl, har, by omega, by omega, fun l2 us2 H4 s4 l20 hl2 hus2 => ?_⟩
    have hl4 := s4 _ _ hl'
    have nl : l ≠ l2 := fun z => by
      rw [← z, hl'] at l20
      cases l20
    have e1 : us.length = 1 + (knf ((parts p).take i)).length := by rw [hus.len, List.length_cons]; omega
    have e2 : us2.length = psz r := by rw [hus2.len, kn_len]
    have e3 : (knf ((parts p).take (i + 1))) = knf ((parts p).take i) ++ kn r := by
      rw [List.take_add_one, hr1]
      simp [knf]
    have e4 : (knf ((parts p).take (i + 1))).length ≤ psz p := by
      have z : knf (parts p) = knf ((parts p).take (i + 1)) ++ knf ((parts p).drop (i + 1)) := by
        unfold knf
        rw [← List.flatMap_append, List.take_append_drop]
      have z2 : psz p = 1 + (knf (parts p)).length := by
        rw [← kn_len, kn_eq]
        simp [knf]
        omega
      rw [z, List.length_append] at z2
      omega
    rw [e3, List.length_append, kn_len] at e4
    refine ⟨l, l2, us, us2, rfl, rfl, hl4, hl2, small (by omega), us ++ us2, _, rfl, fun b o z => ?_, ?_, ?_, upd_same, ?_⟩
    · rw [upd_ne (ne_of_none z hl)]
      exact s4 _ _ (sm b o z)
    · rw [upd_ne (fun z => by rw [z, hl'] at ht'; cases ht')]
      exact s4 _ _ ht'
    · exact (hvs'.keep (Tp.same s4)).keep (Tp.lst hl4)
    · have t5 : Tp K H4 (upd H4 l (.lst (us ++ us2))) := Tp.lst hl4
      have z := ((hus.keep (Tp.same s4)).keep t5).app (hus2.keep t5)
      rw [e3]
      exact z
  · rintro σ' H' ⟨us, y2, rfl, sm, ht', hvs', hl', hus⟩
    rw [hvs.len, List.take_length] at hus
    refine ⟨_, rfl, q l us H' sm hl hl' ?_⟩
    rw [kn_eq]
    exact hus
theorem ok_l_knots (C_l_has_form : Cal P w K mg base 1 "_law_has_form" ["_law_knot"] (spLHF K)) (C_l_parts : Cal P w K mg base 1 "_law_parts" ["_law_knot"] (spLP K)) (D : DefAt K mg "_law_knots" s_l_knots ["_law_program_here"]) : ∀ n : Nat, Cal P w K mg base (n + 1) "_law_knots" ["_law_program_here"] (spLK K n)
  | 0 => cal_no D fun vs H Q E h => by
    obtain ⟨v, p, _, _, h1, _⟩ := h
    have := dep_pos p
    omega
  | n + 1 => ok_l_knots1 C_l_has_form C_l_parts (ok_l_knots C_l_has_form C_l_parts D n) D
abbrev s_l_own : Stmt := topS 41
theorem sc_l_own : FnScope ["_law_kinds_here", "_law_knot"] ["_law_kinds_here", "_law_knot"] (defScope s_l_own) := ⟨rfl, rfl, rfl, by decide +kernel, rfl, by decide +kernel, by decide +kernel⟩
def spLO (K : PySem.W.Frag) (n : Nat) : Sp := fun vs H Q _ => ∃ (ka : Addr) (ks : List Bool) (v : V) (p : Pg), vs = [.ref ka, v] ∧ SqT K H ka (kVs ks) ∧ At K H v p ∧ Wk ks p ∧ dep p ≤ n ∧ ∀ H', Same H H' → Q (.str (kS (own ks p))) H'
theorem in_num4 (p : Pg) (h1 : ∀ k, p ≠ .inp k) (h2 : ∀ q a b, p ≠ .ite q a b) (ks : List Bool) : inV (.str (word p)) [.str "num", .str "plus", .str "least", .str "most"] = !(own ks p) := by
  cases p with
  | tr b => cases b <;> rfl
  | bin w a b => cases w <;> rfl
  | inp k => exact absurd rfl (h1 k)
  | ite q a b => exact absurd rfl (h2 q a b)
  | _ => rfl
theorem ok_l_own1 {n : Nat} (B : Bt mg) (C_l_own : Cal P w K mg base (n + 1) "_law_own" ["_law_kinds_here", "_law_knot"] (spLO K n)) (D : DefAt K mg "_law_own" s_l_own ["_law_kinds_here", "_law_knot"]) : Cal P w K mg base (n + 1 + 1) "_law_own" ["_law_kinds_here", "_law_knot"] (spLO K (n + 1)) := by
  refine cal_of D sc_l_own (fun vs H Q E h => ?_) (fun f cdv A outer s H vs Q E hr h => ?_)
  · obtain ⟨ka, ks, v, p, rfl, _⟩ := h
    rfl
  obtain ⟨ka, ks, v, p, rfl, hk, hv, hw, hdep, q⟩ := h
  have hr' : Room (n + 1) _ := hr
  refine ⟨_, (pss_cons (ps_if (pt_cmpR op_eq (pe_ix ix_tup (pv 1) pe_int (fun _ _ => rfl)) pe_str (nomark _))
        (pss_one (ps_ret (pe_cal C_l_own hr' (by rfl) (pa_cons (pv 0) (pa_cons (pe_ix ix_tup (pv 1) pe_int (fun _ _ => rfl)) pa_nil)))))
        pss_nil)
      (pss_cons (ps_if (pt_cmpR op_eq (pe_ix ix_tup (pv 1) pe_int (fun _ _ => rfl)) pe_str (nomark _))
        (pss_one (ps_ret (pe_ix ix_tup (pv 0) (pe_ix ix_tup (pv 1) pe_int (fun _ _ => rfl)) (fun _ _ => rfl))))
        pss_nil)
      (pss_one (ps_ret (pe_ix ix_list (pe_lst (pa_cons pe_str (pa_cons pe_str pa_nil))) (pe_callTy call_int1 (by rfl) B.int PyProof.Rows.boot_int (pa_cons (pe_cmpR op_in_seq (pe_ix ix_tup (pv 1) pe_int (fun _ _ => rfl)) (pe_tup (pa_cons pe_str (pa_cons pe_str (pa_cons pe_str (pa_cons pe_str pa_nil))))) rfl) pa_nil)) (fun _ _ => rfl)))))), ?_⟩
  obtain ⟨a, vs, rfl, ha, hvs⟩ := hv.open
  refine ⟨_, rfl, a, _, 0, _, rfl, rfl, ha, at_word p vs, rfl, _, rfl, ite2 (fun z => ?_) (fun z => ?_)⟩
  · have z' : V.str (word p) = V.str "if" := of_decide_eq_true z
    obtain ⟨r, x, y, rfl⟩ := word_if z'
    obtain ⟨u1, u2, u3, rfl, a1, a2, a3⟩ := hvs.three
    have d1 := dep_part (.ite r x y) x (by simp [parts])
    exact ⟨_, rfl, _, rfl, a, _, 2, u2, rfl, rfl, ha, rfl, ka, ks, u2, x, rfl, hk, a2, hw.2.1, by omega, q⟩
  refine ⟨_, rfl, a, _, 0, _, rfl, rfl, ha, at_word p vs, rfl, _, rfl, ite2 (fun y => ?_) (fun y => ?_)⟩
  · have y' : V.str (word p) = V.str "in" := of_decide_eq_true y
    obtain ⟨k, rfl⟩ := word_in y'
    have hk' : k < ks.length := hw
    have ek : (kVs ks)[k]? = some (.str (kS (own ks (.inp k)))) := by
      unfold kVs
      rw [List.getElem?_map, List.getElem?_eq_getElem hk']
      show some (V.str (kS ks[k])) = some (V.str (kS (ks.getD k false)))
      rw [List.getD_eq_getElem?_getD, List.getElem?_eq_getElem hk']
      rfl
    exact ⟨_, rfl, _, rfl, a, _, 1, .int k, rfl, rfl, ha, at_of (j := 1) rfl rfl, ka, _, _, _, rfl, rfl, hk, at_of (j := k) rfl ek, q _ (Same.refl _)⟩
  · have h1 : ∀ k, p ≠ .inp k := fun k e => y (decide_eq_true (by rw [e]; rfl))
    have h2 : ∀ r x u, p ≠ .ite r x u := fun r x u e => z (decide_eq_true (by rw [e]; rfl))
    refine ⟨(by show 2 ≤ sizeLine; decide), fun l hl => ?_⟩
    have s1 : Same H (upd H l (.lst [.str "truth", .str "num"])) := same_new hl
    have ha1 := Tp.same (K := K) s1 _ _ ha
    refine ⟨_, rfl, a, _, 0, _, rfl, rfl, ha1, at_word p vs, (by show 4 ≤ sizeLine; decide), fun t ht => ?_⟩
    have s2 := same_new (o := .tup [.str "num", .str "plus", .str "least", .str "most"]) ht
    refine ⟨t, _, rfl, .inr (.inl (.inl upd_same)), rfl, rfl, .inr ⟨_, rfl, ?_⟩⟩
    have hl2 := s2 _ _ (upd_same (H := H) (a := l) (o := .lst [.str "truth", .str "num"]))
    show (rIxL K) (.ref l) (.int (if inV (.str (word p)) [.str "num", .str "plus", .str "least", .str "most"] = true then 1 else 0)) _ _
    rw [in_num4 p h1 h2 ks]
    have qq := q _ (s1.trans s2)
    revert qq
    cases own ks p with
    | true => intro qq; exact ⟨l, _, 0, .str "truth", rfl, rfl, SqL.of hl2, rfl, qq⟩
    | false => intro qq; exact ⟨l, _, 1, .str "num", rfl, rfl, SqL.of hl2, rfl, qq⟩
theorem ok_l_own (B : Bt mg) (D : DefAt K mg "_law_own" s_l_own ["_law_kinds_here", "_law_knot"]) : ∀ n : Nat, Cal P w K mg base (n + 1) "_law_own" ["_law_kinds_here", "_law_knot"] (spLO K n)
  | 0 => cal_no D fun vs H Q E h => by
    obtain ⟨ka, ks, v, p, _, _, _, _, h1, _⟩ := h
    have := dep_pos p
    omega
  | n + 1 => ok_l_own1 B (ok_l_own B D n) D
end
end Lm

set_option Elab.async false
set_option linter.all false
set_option maxRecDepth 100000
set_option maxHeartbeats 2000000
namespace Lm
open PySem PySem.Spec PyProof.Rows L2 LmR
/-! ### programs as data, whatever they are -/
theorem dpall_app {K : PySem.W.Frag} {H : Hp} : ∀ {xs ys : List V} {ds es : List PyData}, DpAll K H xs ds → DpAll K H ys es → DpAll K H (xs ++ ys) (ds ++ es)
  | [], _, _, _, .nil, b => b
  | _ :: _, _, _, _, .cons a r, b => .cons a (dpall_app r b)
theorem flats_app : ∀ ds es : List PyData, flat.flats ds = true → flat.flats es = true → flat.flats (ds ++ es) = true
  | [], _, _, b => b
  | d :: ds, es, a, b => by
    rw [flat.flats, Bool.and_eq_true] at a
    rw [List.cons_append, flat.flats, a.1, flats_app ds es a.2 b]
    rfl
theorem flats_nth : ∀ ds : List PyData, flat.flats ds = true → ∀ (i : Nat) (d : PyData), ds[i]? = some d → flat d = true
  | [], _, _, _, h => by simp at h
  | d :: ds, a, i, e, h => by
    rw [flat.flats, Bool.and_eq_true] at a
    cases i with
    | zero => simp at h; rw [← h]; exact a.1
    | succ i => exact flats_nth ds a.2 i e (by simpa using h)
theorem iteY {c : Prop} [Decidable c] {A B : Prop} (h : c) (a : A) : if c then A else B := by rw [if_pos h]; exact a
/-- how many numbers and parts stand behind a word -/
def nnW (w : Str) : Option (Nat × Nat) :=
  if w = "in" ∨ w = "num" then some (1, 0) else if w = "plus" then some (1, 1) else if w = "yes" ∨ w = "no" then some (0, 0) else if w = "not" then some (0, 1) else if w = "if" then some (0, 3)
  else if w = "least" ∨ w = "most" ∨ w = "atmost" ∨ w = "both" ∨ w = "either" then some (0, 2) else none
/-- each word is a program's -/
theorem nnW_pg {w : Str} {n m : Nat} (h : nnW w = some (n, m)) : ∃ p : Pg, word p = w ∧ nn p = n ∧ (parts p).length = m := by
  unfold nnW at h
  split at h
  · rename_i c
    cases h
    rcases c with rfl | rfl
    · exact ⟨.inp 0, rfl, rfl, rfl⟩
    · exact ⟨.num 0, rfl, rfl, rfl⟩
  split at h
  · rename_i c
    cases h
    subst c
    exact ⟨.plus 0 (.num 0), rfl, rfl, rfl⟩
  split at h
  · rename_i c
    cases h
    rcases c with rfl | rfl
    · exact ⟨.tr true, rfl, rfl, rfl⟩
    · exact ⟨.tr false, rfl, rfl, rfl⟩
  split at h
  · rename_i c
    cases h
    subst c
    exact ⟨.neg (.num 0), rfl, rfl, rfl⟩
  split at h
  · rename_i c
    cases h
    subst c
    exact ⟨.ite (.num 0) (.num 0) (.num 0), rfl, rfl, rfl⟩
  split at h
  · rename_i c
    cases h
    rcases c with rfl | rfl | rfl | rfl | rfl
    · exact ⟨.bin .least (.num 0) (.num 0), rfl, rfl, rfl⟩
    · exact ⟨.bin .most (.num 0) (.num 0), rfl, rfl, rfl⟩
    · exact ⟨.bin .atmost (.num 0) (.num 0), rfl, rfl, rfl⟩
    · exact ⟨.bin .both (.num 0) (.num 0), rfl, rfl, rfl⟩
    · exact ⟨.bin .either (.num 0) (.num 0), rfl, rfl, rfl⟩
  · cases h
def whole (d : PyData) : Bool := isInt d && !isBl d
/-- whether a thing has a knot's form -/
def hasF : PyData → Bool
  | .tuple (.str w :: r) => match nnW w with
    | some (n, m) => (r.length == n + m) && (n == 0 || (r.head?.map whole).getD false)
    | none => false
  | _ => false
/-- the word ahead is one of these, or a program's -/
def wordOk (bad : List Str) : PyData → Prop
  | .tuple (.str w :: _) => (nnW w).isSome = true ∨ w ∈ bad
  | _ => True
/-- FORMS has none of these words -/
def NoForms (K : PySem.W.Frag) (d : Addr) (bad : List Str) : Prop := ∀ x ∈ bad, PySem.W.nsIn K d x = some none ∧ nnW x = none
section
variable {P : Program} {w : World} {K : PySem.W.Frag} {mg : Str → Option Value} {base : Heap}
def spHFD (K : PySem.W.Frag) (bad : List Str) : Sp := fun vs H Q _ => ∃ (v : V) (d : PyData), vs = [v] ∧ Fd K H v d ∧ wordOk bad d ∧ dsz d ≤ 90000 ∧ Q (.bl (hasF d)) H
theorem ok_has_formD {d : Addr} {bad : List Str} (B : Bt mg) (F : Forms K w mg d) (nof : NoForms K d bad) (C_is_whole : Cal P w K mg base 1 "is_whole" ["thing"] (spWhole K)) (C_many_numbers : Cal P w K mg base 1 "many_numbers" ["word"] (spMN)) (C_many_parts : Cal P w K mg base 1 "many_parts" ["word"] (spMP)) (D : DefAt K mg "has_form" s_has_form ["thing"]) : Cal P w K mg base 2 "has_form" ["thing"] (spHFD K bad) := by
  refine cal_of D sc_has_form (fun vs H Q E h => ?_) (fun f cdv A outer s H vs Q E hr h => ?_)
  · obtain ⟨v, p, rfl, _⟩ := h
    rfl
  obtain ⟨v, dd, rfl, hv, hw, hz, q⟩ := h
  have hFORMS := F.g
  obtain ⟨es, n, kd⟩ := F.k
  have hr' : Room 1 _ := hr
  refine ⟨_, (pss_cons (ps_if (PW.pt (pw_or (pt_not (pt_val (pe_callB call_isi (by rfl) B.isinstance (by decide +kernel) (pa_cons (pv 0) (pa_cons (pe_bltn (v := .ty "tuple") (by rfl) B.tuple PyProof.Rows.boot_tuple rfl) pa_nil))))) (pw_or (pt_cmpR op_eq (pe_callB call_len_seq (by rfl) B.len PySem.boot_len (pa_cons (pv 0) pa_nil)) pe_int (nomark _)) (pw_or1 (pt_not (pt_val (pe_callB call_isi (by rfl) B.isinstance (by decide +kernel) (pa_cons (pe_ix ix_tup (pv 0) pe_int (fun _ _ => rfl)) (pa_cons (pe_bltn (v := .ty "str") (by rfl) B.str PyProof.Rows.boot_str rfl) pa_nil)))))))))
        (pss_one (ps_ret pe_bl))
        pss_nil)
      (pss_cons (ps_set (i := 1) sc_has_form.nd rfl (.inl rfl) (pe_ix ix_tup (pv 0) pe_int (fun _ _ => rfl)))
      (pss_cons (ps_if (PW.pt (pw_or (pt_cmpR (op_notIn_kd kd) (pv 1) (pe_gr (by rfl) hFORMS) rfl) (pw_or1 (pt_cmpR op_ne (pe_callB call_len_seq (by rfl) B.len PySem.boot_len (pa_cons (pv 0) pa_nil)) (pe_op op_add (pe_op op_add pe_int (pe_cal C_many_numbers hr' (by rfl) (pa_cons (pv 1) pa_nil))) (pe_cal C_many_parts hr' (by rfl) (pa_cons (pv 1) pa_nil))) (nomark _)))))
        (pss_one (ps_ret pe_bl))
        pss_nil)
      (pss_one (ps_ret (pe_or (pe_cmpR op_eq (pe_cal C_many_numbers hr' (by rfl) (pa_cons (pv 1) pa_nil)) pe_int (nomark _)) (pe_one (pe_cal C_is_whole hr' (by rfl) (pa_cons (pe_ix ix_tup (pv 0) pe_int (fun _ _ => rfl)) pa_nil))))))))), ?_⟩
  refine ⟨_, rfl, v, _, _, _, _, rfl, .ty _, hv.ty, kit_tup dd hv.1, _, rfl, ite2 (fun c => ?_) (fun c => ?_)⟩
  · have e : hasF dd = false := by
      cases dd <;> first | rfl | (simp [isTup] at c; done)
    rw [e] at q
    exact iteY rfl q
  have it : isTup dd = true := by simpa using c
  obtain ⟨ds, rfl⟩ : ∃ ds, dd = .tuple ds := by cases dd <;> first | exact ⟨_, rfl⟩ | (simp [isTup] at it; done)
  obtain ⟨a, xs, rfl, qa, r⟩ : ∃ a xs, v = .ref a ∧ SqT K H a xs ∧ DpAll K H xs ds := by
    cases hv.2 with
    | tup qa r => exact ⟨_, _, rfl, qa, r⟩
  have hl := dpall_len r
  refine ⟨_, rfl, a, xs, rfl, .inr qa, rfl, _, rfl, ite2 (fun c2 => ?_) (fun c2 => ?_)⟩
  · have e : hasF (.tuple ds) = false := by
      have n2 : ds = [] := by
        have z : ((xs.length : Nat) : Int) = 0 := by simpa using c2
        exact List.length_eq_zero_iff.mp (by omega)
      rw [n2]
      rfl
    rw [e] at q
    exact iteY rfl q
  obtain ⟨d0, rs, rfl⟩ : ∃ d0 rs, ds = d0 :: rs := by
    cases ds with
    | nil =>
      have z : xs = [] := List.length_eq_zero_iff.mp hl
      subst z
      exact absurd rfl c2
    | cons d0 rs => exact ⟨_, _, rfl⟩
  obtain ⟨v0, ys, rfl, r0, rr⟩ : ∃ v0 ys, xs = v0 :: ys ∧ Dp K H v0 d0 ∧ DpAll K H ys rs := by
    cases r with
    | cons r1 r => exact ⟨_, _, rfl, r1, r⟩
  have f0 : flat d0 = true ∧ flat.flats rs = true := by
    simpa [flat, flat.flats] using hv.1
  have h0 : Fd K H v0 d0 := ⟨f0.1, r0⟩
  refine ⟨_, rfl, a, _, 0, _, rfl, rfl, qa, at_of (j := 0) rfl rfl, _, _, _, _, _, rfl, .ty _, h0.ty, kit_str d0 f0.1, _, rfl, ite2 (fun c3 => ?_) (fun c3 => ?_)⟩
  · have e : hasF (.tuple (d0 :: rs)) = false := by
      cases d0 <;> first | rfl | (simp [isStr] at c3; done)
    rw [e] at q
    exact q
  obtain ⟨wd, rfl⟩ : ∃ wd, d0 = .str wd := by
    have z : isStr d0 = true := by simpa using c3
    cases d0 <;> first | exact ⟨_, rfl⟩ | (simp [isStr] at z; done)
  cases r0
  refine ⟨_, rfl, a, _, 0, _, rfl, rfl, qa, at_of (j := 0) rfl rfl, ?_⟩
  rcases (show (nnW wd).isSome = true ∨ wd ∈ bad from hw) with hs | hb
  · obtain ⟨⟨n1, m1⟩, hnm⟩ := Option.isSome_iff_exists.mp hs
    obtain ⟨p, rfl, e1, e2⟩ := nnW_pg hnm
    obtain ⟨t, u, e, _, _⟩ := F.e p
    have hF : hasF (.tuple (.str (word p) :: rs)) = ((rs.length == n1 + m1) && (n1 == 0 || (rs.head?.map whole).getD false)) := by
      show (match nnW (word p) with | some (n, m) => _ | none => false) = _
      rw [hnm]
    refine ⟨_, rfl, word p, _, rfl, rfl, e, _, rfl, ?_⟩
    refine ⟨_, rfl, a, _, rfl, .inr qa, _, rfl, p, rfl, _, _, rfl, rfl, _, rfl, p, rfl, _, _, rfl, rfl, rfl, _, rfl, ite2 (fun c4 => ?_) (fun c4 => ?_)⟩
    · have ne : rs.length ≠ n1 + m1 := fun z => by
        have y : (!decide (V.int (((V.str (word p) :: ys).length : Nat) : Int) = V.int (1 + (nn p : Int) + ((parts p).length : Nat)))) = true := c4
        rw [e1, e2, List.length_cons, dpall_len rr, z] at y
        have x : (((n1 + m1 + 1 : Nat)) : Int) = 1 + (n1 : Int) + (m1 : Nat) := by omega
        rw [x] at y
        simp at y
      have hF2 : hasF (.tuple (.str (word p) :: rs)) = false := by
        rw [hF, beq_false_of_ne ne]
        rfl
      rw [hF2] at q
      exact q
    · have eq : rs.length = n1 + m1 := by
        have y : ¬ (!decide (V.int (((V.str (word p) :: ys).length : Nat) : Int) = V.int (1 + (nn p : Int) + ((parts p).length : Nat)))) = true := c4
        have x : V.int (((V.str (word p) :: ys).length : Nat) : Int) = V.int (1 + (nn p : Int) + ((parts p).length : Nat)) := by simpa using y
        have x2 := V.int.inj x
        rw [e1, e2, List.length_cons, dpall_len rr] at x2
        omega
      have hF2 : hasF (.tuple (.str (word p) :: rs)) = (n1 == 0 || (rs.head?.map whole).getD false) := by
        rw [hF, eq, beq_self_eq_true, Bool.true_and]
      rw [hF2] at q
      refine ⟨_, rfl, p, rfl, rfl, _, rfl, ite2 (fun c5 => ?_) (fun c5 => ?_)⟩
      · have z : n1 = 0 := by
          have y : V.int (nn p : Int) = V.int 0 := of_decide_eq_true c5
          have x := V.int.inj y
          omega
        rw [z] at q
        exact q
      · have z : n1 ≠ 0 := fun y => c5 (decide_eq_true (by rw [e1, y]; rfl))
        have zb : (n1 == 0) = false := beq_false_of_ne z
        rw [zb, Bool.false_or] at q
        obtain ⟨dx, rs', rfl⟩ : ∃ dx rs', rs = dx :: rs' := by
          cases rs with
          | nil => simp at eq; omega
          | cons x y => exact ⟨_, _, rfl⟩
        obtain ⟨vx, ys', rfl, rx, _⟩ : ∃ v0 ys', ys = v0 :: ys' ∧ Dp K H v0 dx ∧ DpAll K H ys' rs' := by
          cases rr with
          | cons r1 r => exact ⟨_, _, rfl, r1, r⟩
        have fx : flat dx = true := by
          have z := f0.2
          rw [flat.flats, Bool.and_eq_true] at z
          exact z.1
        exact ⟨_, rfl, a, _, 1, _, rfl, rfl, qa, at_of (j := 1) rfl rfl, vx, dx, rfl, ⟨fx, rx⟩, q⟩
  · obtain ⟨e, hno⟩ := nof wd hb
    have hF : hasF (.tuple (.str wd :: rs)) = false := by
      show (match nnW wd with | some (n, m) => _ | none => false) = _
      rw [hno]
    rw [hF] at q
    exact ⟨_, rfl, wd, _, rfl, rfl, e, _, rfl, iteY rfl q⟩
end
end Lm

set_option Elab.async false
set_option linter.all false
set_option maxRecDepth 100000
set_option maxHeartbeats 2000000
namespace Lm
open PySem PySem.Spec PyProof.Rows L2 LmR
/-! ### rows of data -/
def Fds (K : PySem.W.Frag) (H : Hp) (vs : List V) (ds : List PyData) : Prop := flat.flats ds = true ∧ DpAll K H vs ds
theorem Fds.keep {K : PySem.W.Frag} {H H' : Hp} {vs : List V} {ds : List PyData} (h : Fds K H vs ds) (t : Tp K H H') : Fds K H' vs ds := ⟨h.1, dps_keep t ds vs h.1 h.2⟩
theorem Fds.nil {K : PySem.W.Frag} {H : Hp} : Fds K H [] [] := ⟨rfl, .nil⟩
theorem Fds.cons {K : PySem.W.Frag} {H : Hp} {v : V} {d : PyData} {vs : List V} {ds : List PyData} (a : Fd K H v d) (b : Fds K H vs ds) : Fds K H (v :: vs) (d :: ds) := ⟨by rw [flat.flats, a.1, b.1]; rfl, .cons a.2 b.2⟩
theorem Fds.app {K : PySem.W.Frag} {H : Hp} {vs ws : List V} {ds es : List PyData} (a : Fds K H vs ds) (b : Fds K H ws es) : Fds K H (vs ++ ws) (ds ++ es) := ⟨flats_app ds es a.1 b.1, dpall_app a.2 b.2⟩
theorem Fds.len {K : PySem.W.Frag} {H : Hp} {vs : List V} {ds : List PyData} (a : Fds K H vs ds) : vs.length = ds.length := dpall_len a.2
theorem Fds.two {K : PySem.W.Frag} {H : Hp} {v : V} {d : PyData} {vs : List V} {ds : List PyData} (h : Fds K H (v :: vs) (d :: ds)) : Fd K H v d ∧ Fds K H vs ds := by
  obtain ⟨f, r⟩ := h
  rw [flat.flats, Bool.and_eq_true] at f
  cases r with
  | cons a b => exact ⟨⟨f.1, a⟩, f.2, b⟩
theorem Fds.drop {K : PySem.W.Frag} {H : Hp} : ∀ (n : Nat) {vs : List V} {ds : List PyData}, Fds K H vs ds → Fds K H (vs.drop n) (ds.drop n)
  | 0, _, _, h => h
  | n + 1, [], [], h => h
  | n + 1, _ :: _, _ :: _, h => Fds.drop n h.two.2
  | n + 1, [], _ :: _, h => by cases h.2
  | n + 1, _ :: _, [], h => by cases h.2
/-! ### the parts and the knots of data -/
def skipD : List PyData → Nat
  | .str w :: _ => 1 + ((nnW w).map (·.1)).getD 0
  | _ => 0
def partsD : PyData → List PyData
  | .tuple xs => xs.drop (skipD xs)
  | _ => []
def knD : PyData → List PyData
  | .tuple xs => .tuple xs :: (if hasF (.tuple xs) then knL xs (skipD xs) else [])
  | d => [d]
where knL : List PyData → Nat → List PyData
  | [], _ => []
  | _ :: ds, n + 1 => knL ds n
  | d :: ds, 0 => knD d ++ knL ds 0
def knDs (ds : List PyData) : List PyData := (ds.map knD).flatten
theorem knL_eq : ∀ (xs : List PyData) (n : Nat), knD.knL xs n = knDs (xs.drop n)
  | [], n => by cases n <;> simp [knD.knL, knDs]
  | _ :: ds, n + 1 => by
    rw [knD.knL, knL_eq ds n]
    rfl
  | d :: ds, 0 => by
    rw [knD.knL, knL_eq ds 0]
    simp [knDs]
theorem knDs_cons (d : PyData) (ds : List PyData) : knDs (d :: ds) = d :: knDs ((if hasF d then partsD d else []) ++ ds) := by
  have e : knD d = d :: knDs (if hasF d then partsD d else []) := by
    cases d with
    | tuple xs =>
      rw [knD, knL_eq]
      by_cases h : hasF (.tuple xs) = true
      · rw [if_pos h, if_pos h]
        rfl
      · rw [if_neg h, if_neg h]
        rfl
    | _ => rfl
  show knD d ++ knDs ds = _
  rw [e]
  simp [knDs]
theorem knDs_len : ∀ ds : List PyData, ds.length ≤ (knDs ds).length
  | [] => Nat.le_refl _
  | d :: ds => by
    rw [knDs_cons]
    have := knDs_len ds
    have e : knDs ((if hasF d then partsD d else []) ++ ds) = knDs (if hasF d then partsD d else []) ++ knDs ds := by simp [knDs]
    rw [e, List.length_cons, List.length_cons, List.length_append]
    omega
section
variable {P : Program} {w : World} {K : PySem.W.Frag} {mg : Str → Option Value} {base : Heap}
/-! ### parts_of, knots -/
def spPOD (K : PySem.W.Frag) : Sp := fun vs H Q _ => ∃ (v : V) (d : PyData), vs = [v] ∧ Fd K H v d ∧ hasF d = true ∧ ∀ (t : Addr) (us : List V), H t = none → Fds K H us (partsD d) → Q (.ref t) (upd H t (.tup us))
theorem ok_parts_ofD (C_many_numbers : Cal P w K mg base 1 "many_numbers" ["word"] (spMN)) (D : DefAt K mg "parts_of" s_parts_of ["knot"]) : Cal P w K mg base 2 "parts_of" ["knot"] (spPOD K) := by
  refine cal_of D sc_parts_of (fun vs H Q E h => ?_) (fun f cdv A outer s H vs Q E hr h => ?_)
  · obtain ⟨v, p, rfl, _⟩ := h
    rfl
  obtain ⟨v, d, rfl, hv, hf, q⟩ := h
  have hr' : Room 1 _ := hr
  refine ⟨_, (pss_one (ps_ret (pe_slice sl_tup (pv 0) (po_some (pe_op op_add pe_int (pe_cal C_many_numbers hr' (by rfl) (pa_cons (pe_ix ix_tup (pv 0) pe_int (fun _ _ => rfl)) pa_nil)))) po_none))), ?_⟩
  obtain ⟨wd, rs, n, m, rfl, hnm⟩ : ∃ wd rs n m, d = .tuple (.str wd :: rs) ∧ nnW wd = some (n, m) := by
    cases d with
    | tuple xs =>
      cases xs with
      | nil => cases hf
      | cons x xs =>
        cases x with
        | str wd =>
          cases e : nnW wd with
          | none =>
            have z : hasF (.tuple (.str wd :: xs)) = false := by
              show (match nnW wd with | some (n, m) => _ | none => false) = _
              rw [e]
            rw [z] at hf
            cases hf
          | some nm => exact ⟨wd, xs, nm.1, nm.2, rfl, e⟩
        | _ => cases hf
    | _ => cases hf
  obtain ⟨a, xs, rfl, qa, r⟩ : ∃ a xs, v = .ref a ∧ SqT K H a xs ∧ DpAll K H xs (.str wd :: rs) := by
    cases hv.2 with
    | tup qa r => exact ⟨_, _, rfl, qa, r⟩
  have hall : Fds K H xs (.str wd :: rs) := ⟨hv.1, r⟩
  obtain ⟨ys, rfl⟩ : ∃ ys, xs = .str wd :: ys := by
    cases r with
    | cons r0 rr => cases r0; exact ⟨_, rfl⟩
  obtain ⟨p, rfl, e1, e2⟩ := nnW_pg hnm
  have e3 : (1 : Int) + (nn p : Int) = ((1 + nn p : Nat) : Int) := by omega
  have sk : skipD (.str (word p) :: rs) = 1 + nn p := by
    show 1 + ((nnW (word p)).map (·.1)).getD 0 = _
    rw [hnm, e1]
    rfl
  refine ⟨_, rfl, _, rfl, a, _, 0, _, rfl, rfl, qa, at_of (j := 0) rfl rfl, p, rfl, _, _, rfl, rfl, _, rfl, a, _, rfl, qa, ?_, fun t ht => ?_⟩
  · rintro ⟨z, _⟩
    rw [e3, show HT.sIx (V.str (word p) :: ys).length 0 (some ((1 + nn p : Nat) : Int)) = min (1 + nn p) (V.str (word p) :: ys).length from HT.sIx_nat _ 0 _, List.length_cons] at z
    omega
  · have ec : cutV (V.str (word p) :: ys) (some ((1 : Int) + (nn p : Int))) none = (V.str (word p) :: ys).drop (1 + nn p) := by
      unfold cutV
      rw [e3, show HT.sIx (V.str (word p) :: ys).length 0 (some ((1 + nn p : Nat) : Int)) = min (1 + nn p) (V.str (word p) :: ys).length from HT.sIx_nat _ 0 _, HT.sIx_none]
      by_cases h : 1 + nn p ≤ (V.str (word p) :: ys).length
      · rw [Nat.min_eq_left h]
        exact List.take_of_length_le (by rw [List.length_drop]; exact Nat.le_refl _)
      · rw [Nat.min_eq_right (by omega), List.drop_eq_nil_of_le (Nat.le_refl _), List.drop_eq_nil_of_le (by omega), List.take_nil]
    rw [ec]
    refine q t _ ht ?_
    show Fds K H _ ((PyData.str (word p) :: rs).drop (skipD (.str (word p) :: rs)))
    rw [sk]
    exact hall.drop _
def spKnD (K : PySem.W.Frag) (bad : List Str) : Sp := fun vs H Q _ => ∃ (v : V) (d : PyData), vs = [v] ∧ Fd K H v d ∧ (knD d).length ≤ 10000 ∧ (∀ x ∈ knD d, wordOk bad x ∧ dsz x ≤ 90000) ∧ ∀ (l : Addr) (us : List V) (H' : Hp), Same H H' → H l = none → H' l = some (.lst us) → Fds K H' us (knD d) → Q (.ref l) H'
theorem ok_knotsD {bad : List Str} (C_has_form : Cal P w K mg base 2 "has_form" ["thing"] (spHFD K bad)) (C_parts_of : Cal P w K mg base 2 "parts_of" ["knot"] (spPOD K)) (D : DefAt K mg "knots" s_knots ["program"]) : Cal P w K mg base 3 "knots" ["program"] (spKnD K bad) := by
  refine cal_of D sc_knots (fun vs H Q E h => ?_) (fun f cdv A outer s H vs Q E hr h => ?_)
  · obtain ⟨v, p, rfl, _⟩ := h
    rfl
  obtain ⟨v, d, rfl, hv, hsz, hwk, q⟩ := h
  have hr' : Room 2 _ := hr
  refine ⟨_, (pss_cons (ps_set (i := 1) sc_knots.nd rfl (.inl rfl) (pe_lst pa_nil))
      (pss_cons (ps_set (i := 2) sc_knots.nd rfl (.inl rfl) (pe_lst (pa_cons (pv 0) pa_nil)))
      (pss_cons (ps_while PassesOwn.never (pt_truth (pv 2) (by intro _; rfl))
        (pss_cons (ps_set (i := 3) sc_knots.nd rfl (.inl rfl) (pe_bm0 PySem.F.plainAttrs_list PySem.F.slot_list_pop PySem.F.type_list_pop mt_pop (pv 2)))
      (pss_cons (ps_expr (pe_bm PySem.F.plainAttrs_list PySem.F.slot_list_append PySem.F.type_list_append mt_append (pv 1) (pa_cons (pv 3) pa_nil)))
      (pss_one (ps_if (pt_val (pe_cal C_has_form hr' (by rfl) (pa_cons (pv 3) pa_nil)))
        (pss_one (ps_expr (pe_bm PySem.F.plainAttrs_list PySem.F.slot_list_extend PySem.F.type_list_extend mt_extendT (pv 2) (pa_cons (pe_revT (pe_cal C_parts_of hr' (by rfl) (pa_cons (pv 3) pa_nil))) pa_nil))))
        pss_nil)))))
      (pss_one (ps_ret (pv 1)))))), ?_⟩
  refine ⟨(by show 0 ≤ sizeLine; decide), fun lt hlt => ⟨_, rfl, (by show 1 ≤ sizeLine; decide), fun lw hlw => ?_⟩⟩
  have s1 : Same H (upd H lt (.lst [])) := same_new hlt
  have s2 : Same (upd H lt (.lst [])) (upd (upd H lt (.lst [])) lw (.lst [v])) := same_new hlw
  have lw0 : H lw = none := s1.free hlw
  have ntw : lt ≠ lw := fun z => by rw [← z, upd_same] at hlw; cases hlw
  have one : knDs [d] = knD d := by simp [knDs]
  refine ⟨fun m σ H' => ∃ (fs done : List PyData) (us ws : List V) (y3 : Option V), σ = [some v, some (.ref lt), some (.ref lw), y3] ∧ m = (knDs fs).length ∧ Same H H' ∧ H' lt = some (.lst us) ∧ H' lw = some (.lst ws.reverse) ∧ Fds K H' ws fs ∧ Fds K H' us done ∧ done ++ knDs fs = knD d, ?_, ?_⟩
  · refine ⟨_, [d], [], [], [v], none, rfl, rfl, s1.trans s2, s2 _ _ upd_same, upd_same, .cons (hv.keep (Tp.same (s1.trans s2))) .nil, .nil, one⟩
  · rintro m σ H' ⟨fs, done, us, ws, y3, rfl, rfl, sm, ht, hw, aw, au, ek⟩
    have lk : done.length + (knDs fs).length = (knD d).length := by rw [← ek, List.length_append]
    refine ⟨_, rfl, _, .inl ⟨_, SqL.of hw, rfl⟩, ite2 (fun c => ?_) (fun c => ?_)⟩
    · cases ws with
      | nil => simp at c
      | cons x ws =>
        cases fs with
        | nil => cases aw.2
        | cons r fs =>
          obtain ⟨ax, aws⟩ := aw.two
          rw [List.reverse_cons] at hw
          have hr0 : wordOk bad r ∧ dsz r ≤ 90000 := hwk r (by rw [← ek, knDs_cons]; simp)
          rw [knDs_cons] at ek lk ⊢
          rw [List.length_cons] at lk ⊢
          refine ⟨fun σ' H2 => ∃ m', m' < (knDs ((if hasF r then partsD r else []) ++ fs)).length + 1 ∧ ∃ (fs done : List PyData) (us ws : List V) (y3 : Option V), σ' = [some v, some (.ref lt), some (.ref lw), y3] ∧ m' = (knDs fs).length ∧ Same H H2 ∧ H2 lt = some (.lst us) ∧ H2 lw = some (.lst ws.reverse) ∧ Fds K H2 ws fs ∧ Fds K H2 us done ∧ done ++ knDs fs = knD d, fun σ' H2 h => h, ?_⟩
          refine ⟨_, rfl, .inl ⟨rfl, _, SqL.of hw⟩, lw, _, x, rfl, rfl, hw, ?_, ?_⟩
          · rw [List.length_append, List.length_singleton, Nat.add_sub_cancel, List.getElem?_append_right (Nat.le_refl _), Nat.sub_self]
            rfl
          rw [List.dropLast_concat]
          have t2 : Tp K H' (upd H' lw (.lst ws.reverse)) := Tp.lst hw
          have hw2 : (upd H' lw (.lst ws.reverse)) lw = some (.lst ws.reverse) := upd_same
          have ht2 : (upd H' lw (.lst ws.reverse)) lt = some (.lst us) := by rw [upd_ne ntw]; exact ht
          have sm2 : Same H (upd H' lw (.lst ws.reverse)) := fun b o z => by
            rw [upd_ne (ne_of_none z lw0)]
            exact sm b o z
          generalize upd H' lw (.lst ws.reverse) = H2 at t2 hw2 ht2 sm2
          have ul : us.length = done.length := au.len
          refine ⟨_, rfl, .inl ⟨rfl, _, SqL.of ht2⟩, _, rfl, lt, _, _, rfl, rfl, ht2, smallL (by omega), ?_⟩
          have t3 : Tp K H2 (upd H2 lt (.lst (us ++ [x]))) := Tp.lst ht2
          have hw3 : (upd H2 lt (.lst (us ++ [x]))) lw = some (.lst ws.reverse) := by rw [upd_ne ntw.symm]; exact hw2
          have ht3 : (upd H2 lt (.lst (us ++ [x]))) lt = some (.lst (us ++ [x])) := upd_same
          have sm3 : Same H (upd H2 lt (.lst (us ++ [x]))) := fun b o z => by
            rw [upd_ne (ne_of_none z hlt)]
            exact sm2 b o z
          generalize upd H2 lt (.lst (us ++ [x])) = H3 at t3 hw3 ht3 sm3
          have t13 := t2.trans t3
          have ax3 := ax.keep t13
          refine ⟨_, rfl, x, r, rfl, ax3, hr0.1, hr0.2, _, rfl, ite2 (fun cf => ?_) (fun cf => ?_)⟩
          · rw [if_pos cf] at ek lk ⊢
            refine ⟨_, rfl, .inl ⟨rfl, _, SqL.of hw3⟩, _, rfl, x, r, rfl, ax3, cf, fun t vs ht' hvs => ?_⟩
            have s4 : Same H3 (upd H3 t (.tup vs)) := same_new ht'
            refine ⟨t, vs, rfl, .inl (.inl upd_same), fun t2' ht2' => ?_⟩
            have s5 : Same (upd H3 t (.tup vs)) (upd (upd H3 t (.tup vs)) t2' (.tup vs.reverse)) := same_new ht2'
            have s35 := s4.trans s5
            have hw5 := s35 _ _ hw3
            have ht5 := s35 _ _ ht3
            have vl := hvs.len
            have wl := aws.len
            have kl := knDs_len (partsD r ++ fs)
            rw [List.length_append] at kl
            refine ⟨lw, t2', _, _, rfl, rfl, hw5, .inl (.inl upd_same), by rw [List.length_reverse, List.length_reverse]; exact small (by omega), ?_⟩
            have t6 : Tp K H3 (upd (upd (upd H3 t (.tup vs)) t2' (.tup vs.reverse)) lw (.lst (ws.reverse ++ vs.reverse))) := (Tp.same s35).trans (Tp.lst hw5)
            refine ⟨(knDs (partsD r ++ fs)).length, Nat.lt_succ_self _, partsD r ++ fs, done ++ [r], us ++ [x], vs ++ ws, some x, rfl, rfl, ?_, by rw [upd_ne ntw]; exact ht5, by rw [upd_same, List.reverse_append], (hvs.keep t6).app ((aws.keep t13).keep t6), ((au.keep t13).keep t6).app (.cons (ax3.keep t6) .nil), by rw [← ek, List.append_assoc]; rfl⟩
            intro b o z
            rw [upd_ne (ne_of_none z lw0)]
            exact s35 _ _ (sm3 b o z)
          · rw [if_neg cf] at ek lk ⊢
            exact ⟨_, Nat.lt_succ_self _, fs, done ++ [r], us ++ [x], ws, some x, rfl, rfl, sm3, ht3, hw3, aws.keep t13, (au.keep t13).app (.cons ax3 .nil), by rw [← ek, List.append_assoc]; rfl⟩
    · cases ws with
      | cons x ws => exact absurd (by simp) c
      | nil =>
        cases fs with
        | cons r fs => cases aw.2
        | nil =>
          have ed : done = knD d := by rw [← ek]; simp [knDs]
          rw [ed] at au
          exact ⟨_, rfl, q lt us H' sm hlt ht au⟩
end
end Lm

set_option Elab.async false
set_option linter.all false
set_option maxRecDepth 100000
set_option maxHeartbeats 2000000
namespace Lm
open PySem PySem.Spec PyProof.Rows L2 LmR
theorem for_enumL {K : PySem.W.Frag} {a : Addr} {xs : List V} {g : TG} {tb : TS} {D : Ends} {σ : L2.St} {H : Hp} (Pv : Nat → L2.St → Hp → Prop) (h0 : Pv 0 σ H) (hq : ∀ i σ H, Pv i σ H → SqL K H a xs)
    (hstep : ∀ i x σ H T, xs[i]? = some x → Pv i σ H → H T = none → g (.ref T) σ (upd H T (.tup [.int (i : Nat), x])) fun σ2 H2 => tb { D with nx := Pv (i + 1), ct := Pv (i + 1), bk := D.nx } σ2 H2)
    (hend : ∀ σ H, Pv xs.length σ H → D.nx σ H) :
    ∃ W : Nat → Nat → L2.St → Hp → Prop, (∃ m, W 0 m σ H) ∧ ∀ i m σ H, W i m σ H →
      ((Ite K a).stop i H ∧ D.nx σ H) ∨ ((Ite K a).go i H ∧ ∃ N : L2.St → Hp → Prop, (∀ σ' H', N σ' H' → ∃ m', m' < m ∧ W (i + 1) m' σ' H') ∧ ∀ x H', (Ite K a).yld i H x H' → g x σ H' fun σ2 H2 => tb { D with nx := N, ct := N, bk := D.nx } σ2 H2) := by
  refine ⟨fun i m σ H => i ≤ xs.length ∧ m = xs.length - i ∧ Pv i σ H, ⟨_, Nat.zero_le _, rfl, h0⟩, fun i m σ H ⟨hi, hm, hp⟩ => ?_⟩
  have hs := hq i σ H hp
  rcases Nat.lt_or_ge i xs.length with hlt | hge
  · obtain ⟨x, hx⟩ : ∃ x, xs[i]? = some x := ⟨xs[i], List.getElem?_eq_getElem hlt⟩
    refine .inr ⟨⟨xs, x, hs, hx⟩, Pv (i + 1), fun σ' H' h' => ⟨xs.length - (i + 1), by omega, hlt, rfl, h'⟩, ?_⟩
    rintro y H' ⟨T, z, rfl, hT, rfl, hz⟩
    have e := hz xs hs
    rw [hx] at e
    cases e
    exact hstep i x σ H T hx hp hT
  · have e : i = xs.length := Nat.le_antisymm hi hge
    refine .inl ⟨⟨xs, hs, hge⟩, hend σ H (e ▸ hp)⟩
/-- the first one amiss, from the n-th on -/
def firstBad (f : PyData → Bool) : List PyData → Nat → Option Nat
  | [], _ => none
  | d :: ds, n => if f d then firstBad f ds (n + 1) else some n
theorem firstBad_step {f : PyData → Bool} {ds : List PyData} {i : Nat} {d : PyData} (h : ds[i]? = some d) : firstBad f (ds.drop i) i = if f d then firstBad f (ds.drop (i + 1)) (i + 1) else some i := by
  obtain ⟨hi, e⟩ := List.getElem?_eq_some_iff.mp h
  rw [List.drop_eq_getElem_cons hi, e]
  rfl
theorem Fds.nth {K : PySem.W.Frag} {H : Hp} {vs : List V} {ds : List PyData} (h : Fds K H vs ds) {i : Nat} {v : V} (e : vs[i]? = some v) : ∃ d, ds[i]? = some d ∧ Fd K H v d := by
  obtain ⟨d, hd, hD⟩ := dpall_get h.2 i v e
  exact ⟨d, hd, flats_nth ds h.1 i d hd, hD⟩
section
variable {P : Program} {w : World} {K : PySem.W.Frag} {mg : Str → Option Value} {base : Heap}
abbrev s_NoProgram : Stmt := (clsBody (topS 3)).getD 0 (.Pass ⟨0, 0, 0, 0⟩)
theorem sc_NoProgram : FnScope ["self", "word", "at"] ["self", "word", "at"] (defScope s_NoProgram) := ⟨rfl, rfl, rfl, by decide +kernel, rfl, by decide +kernel, by decide +kernel⟩
variable {c_NoProgram i_NoProgram : Addr} {f_NoProgram : FuncData}
theorem ini_NoProgram {P : Program} {w : World} {base : Heap} (R : Rf K mg "NoProgram" "NoProgram.__init__" c_NoProgram i_NoProgram f_NoProgram s_NoProgram ["word", "at"]) : FnOk P w K mg base (L2.CX P w) 1 i_NoProgram f_NoProgram ["self", "word", "at"] (spIni2 c_NoProgram "word" "at") := by
  refine R.F.okX sc_NoProgram (fun vs H Q E h => ?_) (fun cdv A outer s H vs Q E hr h => ?_)
  · obtain ⟨a, x, y, rfl, _⟩ := h
    rfl
  obtain ⟨a, x, y, rfl, ha, q⟩ := h
  refine ⟨_, pss_cons (ps_ost (pv 0) (pv 1)) (pss_one (ps_ost (pv 0) (pv 2))), ?_⟩
  refine ⟨_, rfl, _, rfl, a, _, rfl, R.o, R.fld _ (by simp), .inl ⟨ha, fun d hd nd => ⟨_, rfl, _, rfl, a, _, rfl, R.o, R.fld _ (by simp), .inr ⟨d, _, upd_same, ?_, by show 1 ≤ 900; decide, q d _ hd ?_ upd_same fun b h1 h2 => ?_⟩⟩⟩⟩
  · rw [upd_ne nd, upd_same]
  · rw [upd_ne (Ne.symm nd), upd_same]
  · rw [upd_ne h2, upd_ne h1, upd_ne h2]
def spRFD (K : PySem.W.Frag) (C : Addr) (bad : List Str) : Sp := fun vs H Q E => ∃ (l : Addr) (us : List V) (ds : List PyData), vs = [.ref l] ∧ SqL K H l us ∧ Fds K H us ds ∧ (∀ x ∈ ds, wordOk bad x ∧ dsz x ≤ 90000) ∧
  (firstBad hasF ds 0 = none → ∀ H', Same H H' → Q .non H') ∧ ∀ n, firstBad hasF ds 0 = some n → ∀ a H', Same H H' → H' a = some (.xd [("at", .int (n : Nat)), ("word", .str "form")]) → E (.ref C) (some a) H'
theorem ok_refuse_formsD {bad : List Str} (B : Bt mg) (R_NoProgram : Rf K mg "NoProgram" "NoProgram.__init__" c_NoProgram i_NoProgram f_NoProgram s_NoProgram ["word", "at"]) (C_has_form : Cal P w K mg base 2 "has_form" ["thing"] (spHFD K bad)) (D : DefAt K mg "refuse_forms" s_refuse_forms ["every"]) : CalX P w K mg base 3 "refuse_forms" ["every"] (spRFD K c_NoProgram bad) := by
  refine calx_of D sc_refuse_forms (fun vs H Q E h => ?_) (fun f cdv A outer s H vs Q E hr h => ?_)
  · obtain ⟨l, us, ds, rfl, _⟩ := h
    rfl
  obtain ⟨l, us, ds, rfl, hl, hus, hwk, q, qe⟩ := h
  have hr' : Room 2 _ := hr
  refine ⟨_, (pss_one (ps_for (passes_of rfl) rfl (pi_enum (by rfl) B.enumerate (pa_cons (pv 0) pa_nil)) (pg_tup rfl (pgs_cons (pg_name (i := 1) sc_refuse_forms.nd rfl (.inl rfl)) (pgs_cons (pg_name (i := 2) sc_refuse_forms.nd rfl (.inl rfl)) pgs_nil)))
        (pss_one (ps_if (pt_not (pt_val (pe_cal C_has_form hr' (by rfl) (pa_cons (pv 2) pa_nil))))
        (pss_one (ps_ref R_NoProgram (ini_NoProgram R_NoProgram) hr rfl (takes_of rfl rfl rfl rfl) (by rfl) (pa_cons pe_str (pa_cons (pv 1) pa_nil))))
        pss_nil)))), ?_⟩
  refine ⟨_, rfl, l, us, rfl, hl, for_enumL (K := K) (xs := us) (fun i σ H' => (∃ y1 y2 : Option V, σ = [some (V.ref l), y1, y2]) ∧ Same H H' ∧ firstBad hasF ds 0 = firstBad hasF (ds.drop i) i) ?_ ?_ ?_ ?_⟩
  · exact ⟨⟨_, _, rfl⟩, fun _ _ h => h, by rw [List.drop_zero]⟩
  · rintro i σ H' ⟨_, sm, _⟩
    exact sm.seq hl
  · rintro i x σ H' T hx ⟨⟨y1, y2, rfl⟩, sm, hbd⟩ hT
    have sm2 := sm.trans (same_new (o := .tup [.int (i : Nat), x]) hT)
    refine ⟨T, _, rfl, .inl (.inl upd_same), rfl, _, _, rfl, _, _, rfl, rfl, ?_⟩
    obtain ⟨dx, hdx, hDx⟩ := hus.nth hx
    rw [firstBad_step hdx] at hbd
    have fx := hDx.keep (Tp.same sm2)
    have hw := hwk dx (List.mem_of_getElem? hdx)
    refine ⟨_, rfl, x, dx, rfl, fx, hw.1, hw.2, _, rfl, ite2 (fun c => ?_) (fun c => ?_)⟩
    · have nk : hasF dx = false := by simpa using c
      rw [nk] at hbd
      exact ⟨_, rfl, mk_two fun a' H2 r => qe i hbd a' H2 (sm2.trans r.same) r.2.1⟩
    · have nk : hasF dx = true := by simpa using c
      rw [nk] at hbd
      exact ⟨⟨_, _, rfl⟩, sm2, hbd⟩
  · rintro σ H' ⟨_, sm, hbd⟩
    refine q ?_ H' sm
    rw [hbd, List.drop_eq_nil_of_le (by rw [hus.len]; exact Nat.le_refl _)]
    rfl
/-- no input, or one that is there -/
def inOk (many : Int) : PyData → Bool
  | .tuple (.str w :: .int i :: _) => if w = "in" then decide (0 ≤ i ∧ i < many) else true
  | _ => true
def spRID (K : PySem.W.Frag) (C : Addr) : Sp := fun vs H Q E => ∃ (l : Addr) (us : List V) (ds : List PyData) (many : Int), vs = [.ref l, .int many] ∧ SqL K H l us ∧ Fds K H us ds ∧ (∀ x ∈ ds, hasF x = true) ∧
  (firstBad (inOk many) ds 0 = none → ∀ H', Same H H' → Q .non H') ∧ ∀ n, firstBad (inOk many) ds 0 = some n → ∀ a H', Same H H' → H' a = some (.xd [("at", .int (n : Nat)), ("word", .str "input")]) → E (.ref C) (some a) H'
theorem hasF_open {d : PyData} (h : hasF d = true) : ∃ w rs n m, d = .tuple (.str w :: rs) ∧ nnW w = some (n, m) ∧ rs.length = n + m ∧ (n ≠ 0 → ∃ i rs', rs = .int i :: rs') := by
  cases d with
  | tuple xs =>
    cases xs with
    | nil => cases h
    | cons x xs =>
      cases x with
      | str w =>
        cases e : nnW w with
        | none =>
          have z : hasF (.tuple (.str w :: xs)) = false := by
            show (match nnW w with | some (n, m) => _ | none => false) = _
            rw [e]
          rw [z] at h
          cases h
        | some nm =>
          obtain ⟨n, m⟩ := nm
          have z : hasF (.tuple (.str w :: xs)) = ((xs.length == n + m) && (n == 0 || (xs.head?.map whole).getD false)) := by
            show (match nnW w with | some (n, m) => _ | none => false) = _
            rw [e]
          rw [z, Bool.and_eq_true] at h
          refine ⟨w, xs, n, m, rfl, e, by simpa using h.1, fun hn => ?_⟩
          have y := h.2
          rw [beq_false_of_ne hn, Bool.false_or] at y
          cases xs with
          | nil => cases y
          | cons a b =>
            cases a with
            | int i => exact ⟨i, b, rfl⟩
            | _ => cases y
      | _ => cases h
  | _ => cases h
theorem nn_in {n m : Nat} (h : nnW "in" = some (n, m)) : n = 1 := by
  have z : nnW "in" = some (1, 0) := rfl
  rw [z] at h
  cases h
  rfl
theorem ok_refuse_inputsD (B : Bt mg) (R_NoProgram : Rf K mg "NoProgram" "NoProgram.__init__" c_NoProgram i_NoProgram f_NoProgram s_NoProgram ["word", "at"]) (D : DefAt K mg "refuse_inputs" s_refuse_inputs ["every", "many"]) : CalX P w K mg base 3 "refuse_inputs" ["every", "many"] (spRID K c_NoProgram) := by
  refine calx_of D sc_refuse_inputs (fun vs H Q E h => ?_) (fun f cdv A outer s H vs Q E hr h => ?_)
  · obtain ⟨l, us, ds, many, rfl, _⟩ := h
    rfl
  obtain ⟨l, us, ds, many, rfl, hl, hus, hwk, q, qe⟩ := h
  have hr' : Room 2 _ := hr
  refine ⟨_, (pss_one (ps_for (passes_of rfl) rfl (pi_enum (by rfl) B.enumerate (pa_cons (pv 0) pa_nil)) (pg_tup rfl (pgs_cons (pg_name (i := 2) sc_refuse_inputs.nd rfl (.inl rfl)) (pgs_cons (pg_name (i := 3) sc_refuse_inputs.nd rfl (.inl rfl)) pgs_nil)))
        (pss_one (ps_if (PW.pt (pw_and (pt_cmpR op_eq (pe_ix ix_tup (pv 3) pe_int (fun _ _ => rfl)) pe_str (nomark _)) (pw_and1 (pt_not (pt_chain op_le op_lt pe_int (pe_ix ix_tup (pv 3) pe_int (fun _ _ => rfl)) (pv 1))))))
        (pss_one (ps_ref R_NoProgram (ini_NoProgram R_NoProgram) hr rfl (takes_of rfl rfl rfl rfl) (by rfl) (pa_cons pe_str (pa_cons (pv 2) pa_nil))))
        pss_nil)))), ?_⟩
  refine ⟨_, rfl, l, us, rfl, hl, for_enumL (K := K) (xs := us) (fun i σ H' => (∃ y1 y2 : Option V, σ = [some (V.ref l), some (.int many), y1, y2]) ∧ Same H H' ∧ firstBad (inOk many) ds 0 = firstBad (inOk many) (ds.drop i) i) ?_ ?_ ?_ ?_⟩
  · exact ⟨⟨_, _, rfl⟩, fun _ _ h => h, by rw [List.drop_zero]⟩
  · rintro i σ H' ⟨_, sm, _⟩
    exact sm.seq hl
  · rintro i x σ H' T hx ⟨⟨y1, y2, rfl⟩, sm, hbd⟩ hT
    have sm2 := sm.trans (same_new (o := .tup [.int (i : Nat), x]) hT)
    refine ⟨T, _, rfl, .inl (.inl upd_same), rfl, _, _, rfl, _, _, rfl, rfl, ?_⟩
    obtain ⟨dx, hdx, hDx⟩ := hus.nth hx
    rw [firstBad_step hdx] at hbd
    have fx := hDx.keep (Tp.same sm2)
    have hf := hwk dx (List.mem_of_getElem? hdx)
    clear hDx hdx hx
    generalize upd H' T (.tup [.int (i : Nat), x]) = H2 at sm2 fx
    have pass : inOk many dx = true → (∃ y1 y2 : Option V, [some (V.ref l), some (.int many), some (V.int (i : Nat)), some x] = [some (V.ref l), some (.int many), y1, y2]) ∧ Same H H2 ∧ firstBad (inOk many) ds 0 = firstBad (inOk many) (ds.drop (i + 1)) (i + 1) := fun nk => by
      rw [nk] at hbd
      exact ⟨⟨_, _, rfl⟩, sm2, hbd⟩
    have fail : inOk many dx = false → ∀ σ : L2.St, σ[2]? = some (some (.int (i : Nat))) → tMkO c_NoProgram (spIni2 c_NoProgram "word" "at") [] (tCons (tC (V.str "input")) (tCons (tVar 2) tNil)) σ H2 fun cls d H' => E cls d H' := fun nk σ hσ => by
      rw [nk] at hbd
      exact ⟨_, hσ, mk_two fun a' H3 r => qe i hbd a' H3 (sm2.trans r.same) r.2.1⟩
    obtain ⟨wd, rs, n, m, rfl, hnm, hlen, hnum⟩ := hasF_open hf
    obtain ⟨a, xs, rfl, qa, r⟩ : ∃ a xs, x = .ref a ∧ SqT K H2 a xs ∧ DpAll K H2 xs (.str wd :: rs) := by
      cases fx.2 with
      | tup qa r => exact ⟨_, _, rfl, qa, r⟩
    obtain ⟨ys, rfl, rr⟩ : ∃ ys, xs = .str wd :: ys ∧ DpAll K H2 ys rs := by
      cases r with
      | cons r0 rr => cases r0; exact ⟨_, rfl, rr⟩
    refine ⟨_, rfl, a, _, 0, _, rfl, rfl, qa, at_of (j := 0) rfl rfl, rfl, _, rfl, ite2 (fun c => ?_) (fun c => ?_)⟩
    · have ew : wd = "in" := V.str.inj (of_decide_eq_true c)
      subst ew
      obtain ⟨k, rs', rfl⟩ := hnum (by rw [nn_in hnm]; decide)
      obtain ⟨ys', rfl⟩ : ∃ ys', ys = .int k :: ys' := by
        cases rr with
        | cons r0 rr => cases r0; exact ⟨_, rfl⟩
      have hio : inOk many (.tuple (.str "in" :: .int k :: rs')) = decide (0 ≤ k ∧ k < many) := by simp [inOk]
      refine ⟨_, rfl, a, _, 1, .int k, rfl, rfl, qa, at_of (j := 1) rfl rfl, _, _, rfl, rfl, _, rfl, ite2 (fun c1 => ?_) (fun c1 => ?_)⟩
      · have k0 : 0 ≤ k := of_decide_eq_true c1
        refine ⟨_, rfl, _, _, rfl, rfl, _, rfl, ite2 (fun c2 => ?_) (fun c2 => ?_)⟩
        · refine fail ?_ _ rfl
          rw [hio]
          have z : (!decide (k < many)) = true := c2
          have y : ¬ k < many := by simpa using z
          exact decide_eq_false fun x => y x.2
        · refine pass ?_
          rw [hio]
          have z : ¬ (!decide (k < many)) = true := c2
          have y : k < many := by simpa using z
          exact decide_eq_true ⟨k0, y⟩
      · refine ⟨_, rfl, iteY rfl (fail ?_ _ rfl)⟩
        rw [hio]
        exact decide_eq_false fun x => c1 (decide_eq_true x.1)
    · have nw : ¬ wd = "in" := fun z => c (decide_eq_true (by rw [z]))
      refine iteF (pass ?_)
      cases rs with
      | nil => rfl
      | cons a b =>
        cases a with
        | int k => exact if_neg nw
        | _ => rfl
  · rintro σ H' ⟨_, sm, hbd⟩
    refine q ?_ H' sm
    rw [hbd, List.drop_eq_nil_of_le (by rw [hus.len]; exact Nat.le_refl _)]
    rfl
end
end Lm

set_option Elab.async false
set_option linter.all false
set_option maxRecDepth 100000
set_option maxHeartbeats 2000000
namespace Lm
open PySem PySem.Spec PyProof.Rows L2 LmR
/-- whether the parts of a knot have the kinds due -/
def fits (ks : List Bool) : Pg → Bool
  | .inp _ => true
  | .num _ => true
  | .tr _ => true
  | .plus _ a => own ks a == false
  | .bin w a b => (own ks a == w.arg) && (own ks b == w.arg)
  | .neg a => own ks a == true
  | .ite p a b => (own ks p == true) && (own ks b == own ks a)
/-- its own input, if it is one, is there -/
def In0 (n : Nat) : Pg → Prop
  | .inp k => k < n
  | _ => True
theorem eqv0 : PyData.eqv (.tuple []) (.tuple []) = true := by decide +kernel
theorem eqv1 (a b : Bool) : PyData.eqv (.tuple [kD a]) (.tuple [kD b]) = (a == b) := by revert a b; decide +kernel
theorem eqv2 (a b c d : Bool) : PyData.eqv (.tuple [kD a, kD b]) (.tuple [kD c, kD d]) = ((a == c) && (b == d)) := by revert a b c d; decide +kernel
theorem eqv3 (a b c : Bool) : PyData.eqv (.tuple [kD a, kD b, kD c]) (.tuple [kD true, kD b, kD b]) = ((a == true) && (c == b)) := by revert a b c; decide +kernel
section
variable {P : Program} {w : World} {K : PySem.W.Frag} {mg : Str → Option Value} {base : Heap}
def spPFA (K : PySem.W.Frag) : Sp := fun vs H Q _ => ∃ (p : Pg) (ks : List Bool) (t : Addr), vs = [.str (word p), .ref t] ∧ SqT K H t (kids ks (parts p)) ∧ ∀ H', Same H H' → Q (.bl (fits ks p)) H'
theorem ok_parts_fitA {d : Addr} (F : Forms K w mg d) (D : DefAt K mg "parts_fit" s_parts_fit ["word", "told"]) : Cal P w K mg base 1 "parts_fit" ["word", "told"] (spPFA K) := by
  refine cal_of D sc_parts_fit (fun vs H Q E h => ?_) (fun f cdv A outer s H vs Q E hr h => ?_)
  · obtain ⟨p, ks, t, rfl, _⟩ := h
    rfl
  obtain ⟨p, ks, t, rfl, ht, q⟩ := h
  have hFORMS := F.g
  refine ⟨_, (pss_cons (ps_set (i := 2) sc_parts_fit.nd rfl (.inl rfl) (pe_ix ix_tup (pe_ix ix_kdict (pe_gr (by rfl) hFORMS) (pv 0) (fun _ _ => rfl)) pe_int (fun _ _ => rfl)))
      (pss_cons (ps_if (pt_cmpR op_eq (pv 0) pe_str (nomark _))
        (pss_one (ps_ret (pe_cmpR (op_eqD hr.units) (pv 1) (pe_tup (pa_cons (pe_ix ix_tup (pv 2) pe_int (fun _ _ => rfl)) (pa_cons (pe_ix ix_tup (pv 1) pe_int (fun _ _ => rfl)) (pa_cons (pe_ix ix_tup (pv 1) pe_int (fun _ _ => rfl)) pa_nil)))) (nomark _))))
        pss_nil)
      (pss_one (ps_ret (pe_cmpR (op_eqD hr.units) (pv 1) (pv 2) (nomark _)))))), ?_⟩
  obtain ⟨ft, fu, e, fa, fb⟩ := F.at p
  refine ⟨_, rfl, d, word p, .ref ft, rfl, rfl, e, ft, _, 1, .ref fu, rfl, rfl, fa.sq _, rfl, ?_⟩
  refine ⟨_, rfl, rfl, _, rfl, ite2 (fun z => ?_) (fun z => ?_)⟩
  · have z' : V.str (word p) = V.str "if" := of_decide_eq_true z
    obtain ⟨r, x, y, rfl⟩ := word_if z'
    refine ⟨_, rfl, _, rfl, fu, _, 0, _, rfl, rfl, fb.sq _, rfl, _, rfl, t, _, 1, _, rfl, rfl, ht, rfl, _, rfl, t, _, 1, _, rfl, rfl, ht, rfl, (by show 3 ≤ sizeLine; decide), fun n hn => ?_⟩
    have sn : Same H (upd H n (.tup [.str (kS true), .str (kS (own ks x)), .str (kS (own ks x))])) := same_new hn
    refine ⟨.tuple [kD (own ks r), kD (own ks x), kD (own ks y)], .tuple [kD true, kD (own ks x), kD (own ks x)], .tup (Tp.same sn _ _ ht) (.cons (.str _) (.cons (.str _) (.cons (.str _) .nil))), .tup (.inl (.inl upd_same)) (.cons (.str _) (.cons (.str _) (.cons (.str _) .nil))), sh3 _ _ _, sh3 _ _ _, ?_⟩
    rw [eqv3]
    exact q _ sn
  · refine ⟨_, rfl, _, rfl, ?_⟩
    have fin : ∀ ds es : List PyData, DpAll K H (kids ks (parts p)) ds → DpAll K H (due p) es → SeqAt.shaped (.tuple ds) = true → SeqAt.shaped (.tuple es) = true → PyData.eqv (.tuple ds) (.tuple es) = fits ks p → ∃ d e, Dp K H (.ref t) d ∧ Dp K H (.ref fu) e ∧ SeqAt.shaped d = true ∧ SeqAt.shaped e = true ∧ Q (.bl (PyData.eqv d e)) H := fun ds es h1 h2 h3 h4 h5 => ⟨_, _, .tup ht h1, .tup (fb.sq _) h2, h3, h4, by rw [h5]; exact q H (Same.refl _)⟩
    cases p with
    | inp k => exact fin [] [] .nil .nil sh0 sh0 eqv0
    | num k => exact fin [] [] .nil .nil sh0 sh0 eqv0
    | tr k => exact fin [] [] .nil .nil sh0 sh0 eqv0
    | plus c a => exact fin [kD (own ks a)] [kD false] (.cons (.str _) .nil) (.cons (.str _) .nil) (sh1 _) (sh1 _) (eqv1 _ _)
    | bin w a b => exact fin [kD (own ks a), kD (own ks b)] [kD w.arg, kD w.arg] (.cons (.str _) (.cons (.str _) .nil)) (.cons (.str _) (.cons (.str _) .nil)) (sh2 _ _) (sh2 _ _) (eqv2 _ _ _ _)
    | neg a => exact fin [kD (own ks a)] [kD true] (.cons (.str _) .nil) (.cons (.str _) .nil) (sh1 _) (sh1 _) (eqv1 _ _)
    | ite r x y => exact absurd (decide_eq_true rfl) z
def spOKA (K : PySem.W.Frag) : Sp := fun vs H Q _ => ∃ (p : Pg) (ks : List Bool) (ka t : Addr) (v : V), vs = [.ref ka, v, .ref t] ∧ SqT K H ka (kVs ks) ∧ At K H v p ∧ SqT K H t (kids ks (parts p)) ∧ In0 ks.length p ∧ Q (.str (kS (own ks p))) H
theorem ok_own_kindA {d : Addr} (F : Forms K w mg d) (D : DefAt K mg "own_kind" s_own_kind ["kinds", "knot", "told"]) : Cal P w K mg base 1 "own_kind" ["kinds", "knot", "told"] (spOKA K) := by
  refine cal_of D sc_own_kind (fun vs H Q E h => ?_) (fun f cdv A outer s H vs Q E hr h => ?_)
  · obtain ⟨p, ks, ka, t, v, rfl, _⟩ := h
    rfl
  obtain ⟨p, ks, ka, t, v, rfl, hk, hv, ht, hw, q⟩ := h
  have hFORMS := F.g
  refine ⟨_, (pss_cons (ps_if (pt_cmpR op_eq (pe_ix ix_tup (pv 1) pe_int (fun _ _ => rfl)) pe_str (nomark _))
        (pss_one (ps_ret (pe_ix ix_tup (pv 0) (pe_ix ix_tup (pv 1) pe_int (fun _ _ => rfl)) (fun _ _ => rfl))))
        pss_nil)
      (pss_cons (ps_if (pt_cmpR op_eq (pe_ix ix_tup (pv 1) pe_int (fun _ _ => rfl)) pe_str (nomark _))
        (pss_one (ps_ret (pe_ix ix_tup (pv 2) pe_int (fun _ _ => rfl))))
        pss_nil)
      (pss_one (ps_ret (pe_ix ix_tup (pe_ix ix_kdict (pe_gr (by rfl) hFORMS) (pe_ix ix_tup (pv 1) pe_int (fun _ _ => rfl)) (fun _ _ => rfl)) pe_int (fun _ _ => rfl)))))), ?_⟩
  obtain ⟨a, vs, rfl, ha, hvs⟩ := hv.open
  obtain ⟨ft, fu, e, a', b⟩ := F.at p
  refine ⟨_, rfl, a, _, 0, _, rfl, rfl, ha, at_word p vs, rfl, _, rfl, ite2 (fun z => ?_) (fun z => ?_)⟩
  · have z' : V.str (word p) = V.str "in" := of_decide_eq_true z
    obtain ⟨k, rfl⟩ := word_in z'
    have hk' : k < ks.length := hw
    have ek : (kVs ks)[k]? = some (.str (kS (own ks (.inp k)))) := by
      unfold kVs
      rw [List.getElem?_map, List.getElem?_eq_getElem hk']
      show some (V.str (kS ks[k])) = some (V.str (kS (ks.getD k false)))
      rw [List.getD_eq_getElem?_getD, List.getElem?_eq_getElem hk']
      rfl
    exact ⟨_, rfl, _, rfl, a, _, 1, .int k, rfl, rfl, ha, at_of (j := 1) rfl rfl, ka, _, _, _, rfl, rfl, hk, at_of (j := k) rfl ek, q⟩
  refine ⟨_, rfl, a, _, 0, _, rfl, rfl, ha, at_word p vs, rfl, _, rfl, ite2 (fun y => ?_) (fun y => ?_)⟩
  · have y' : V.str (word p) = V.str "if" := of_decide_eq_true y
    obtain ⟨r, x, u, rfl⟩ := word_if y'
    exact ⟨_, rfl, t, _, 1, .str (kS (own ks x)), rfl, rfl, ht, rfl, q⟩
  · have eo : ownV p = .str (kS (own ks p)) := by
      cases p with
      | inp k => exact absurd (decide_eq_true rfl) z
      | ite r x u => exact absurd (decide_eq_true rfl) y
      | _ => rfl
    rw [eo] at a'
    exact ⟨_, rfl, a, _, 0, _, rfl, rfl, ha, at_word p vs, d, word p, .ref ft, rfl, rfl, e, ft, _, 2, _, rfl, rfl, a'.sq _, rfl, q⟩
end
/-! ### data whose knots all have forms, and inputs that are there, is a program -/
theorem dsz_mem : ∀ (ds : List PyData) (d : PyData), d ∈ ds → dsz d ≤ dsz.dszs ds
  | e :: ds, d, h => by
    simp only [dsz.dszs]
    rcases List.mem_cons.mp h with z | z
    · rw [z]; omega
    · have := dsz_mem ds d z
      omega
theorem pow_nat {n : Int} (h : 0 ≤ n) : ∃ k : Nat, n = k := ⟨n.toNat, by omega⟩
theorem dec_pg (n : Nat) : ∀ (N : Nat) (d : PyData), dsz d ≤ N → (∀ x ∈ knD d, hasF x = true) → (∀ x ∈ knD d, inOk n x = true) → ∃ p : Pg, d = enc p
  | 0, d, hz, _, _ => absurd (dsz_pos d) (by omega)
  | N + 1, d, hz, hf, hi => by
    have hd : d ∈ knD d := by cases d <;> simp [knD]
    have hfd := hf d hd
    obtain ⟨wd, rs, a, b, rfl, hnm, hlen, hnum⟩ := hasF_open hfd
    have ek : knD (.tuple (.str wd :: rs)) = .tuple (.str wd :: rs) :: knDs ((PyData.str wd :: rs).drop (1 + a)) := by
      have sk : skipD (.str wd :: rs) = 1 + a := by
        show 1 + ((nnW wd).map (·.1)).getD 0 = _
        rw [hnm]
        rfl
      rw [knD, if_pos hfd, knL_eq, sk]
    have sub : ∀ x ∈ rs.drop a, ∃ p : Pg, x = enc p := fun x hx => by
      have hx' : x ∈ (PyData.str wd :: rs).drop (1 + a) := by rw [Nat.add_comm]; exact hx
      have mem : ∀ y ∈ knD x, y ∈ knD (.tuple (.str wd :: rs)) := fun y hy => by
        rw [ek]
        refine List.mem_cons_of_mem _ ?_
        unfold knDs
        exact List.mem_flatten.mpr ⟨knD x, List.mem_map.mpr ⟨x, hx', rfl⟩, hy⟩
      have sz : dsz x ≤ N := by
        have z := dsz_mem _ _ (List.mem_of_mem_drop hx)
        simp only [dsz, dsz.dszs] at hz
        omega
      exact dec_pg n N x sz (fun y hy => hf y (mem y hy)) fun y hy => hi y (mem y hy)
    have hin := hi _ hd
    unfold nnW at hnm
    split at hnm
    · rename_i c
      cases hnm
      obtain ⟨i, rs', rfl⟩ := hnum (by decide)
      have er : rs' = [] := List.length_eq_zero_iff.mp (by simpa using hlen)
      subst er
      rcases c with rfl | rfl
      · have z : decide (0 ≤ i ∧ i < (n : Int)) = true := by simpa [inOk] using hin
        obtain ⟨k, rfl⟩ := pow_nat (of_decide_eq_true z).1
        exact ⟨.inp k, rfl⟩
      · exact ⟨.num i, rfl⟩
    split at hnm
    · rename_i c
      cases hnm
      subst c
      obtain ⟨i, rs', rfl⟩ := hnum (by decide)
      match rs', hlen with
      | [x], _ =>
        obtain ⟨p, rfl⟩ := sub x (by simp)
        exact ⟨.plus i p, rfl⟩
    split at hnm
    · rename_i c
      cases hnm
      have er : rs = [] := List.length_eq_zero_iff.mp (by simpa using hlen)
      subst er
      rcases c with rfl | rfl
      · exact ⟨.tr true, rfl⟩
      · exact ⟨.tr false, rfl⟩
    split at hnm
    · rename_i c
      cases hnm
      subst c
      match rs, hlen with
      | [x], _ =>
        obtain ⟨p, rfl⟩ := sub x (by simp)
        exact ⟨.neg p, rfl⟩
    split at hnm
    · rename_i c
      cases hnm
      subst c
      match rs, hlen with
      | [x, y, z], _ =>
        obtain ⟨p, rfl⟩ := sub x (by simp)
        obtain ⟨q, rfl⟩ := sub y (by simp)
        obtain ⟨r, rfl⟩ := sub z (by simp)
        exact ⟨.ite p q r, rfl⟩
    split at hnm
    · rename_i c
      cases hnm
      match rs, hlen with
      | [x, y], _ =>
        obtain ⟨p, rfl⟩ := sub x (by simp)
        obtain ⟨q, rfl⟩ := sub y (by simp)
        rcases c with rfl | rfl | rfl | rfl | rfl
        · exact ⟨.bin .least p q, rfl⟩
        · exact ⟨.bin .most p q, rfl⟩
        · exact ⟨.bin .atmost p q, rfl⟩
        · exact ⟨.bin .both p q, rfl⟩
        · exact ⟨.bin .either p q, rfl⟩
    · cases hnm
end Lm

set_option Elab.async false
set_option linter.all false
set_option maxRecDepth 100000
set_option maxHeartbeats 2000000
namespace Lm
open PySem PySem.Spec PyProof.Rows L2 LmR
def fbP (f : Pg → Bool) : List Pg → Nat → Option Nat
  | [], _ => none
  | d :: ds, n => if f d then fbP f ds (n + 1) else some n
theorem hasF_enc (p : Pg) : hasF (enc p) = true := by
  cases p with
  | tr b => cases b <;> rfl
  | bin w a b => cases w <;> rfl
  | _ => rfl
theorem knD_enc : ∀ p : Pg, knD (enc p) = (kn p).map enc
  | .inp _ => rfl
  | .num _ => rfl
  | .tr b => by cases b <;> rfl
  | .plus c a => by
    show enc (.plus c a) :: (knD (enc a) ++ []) = _
    rw [knD_enc a]
    simp [kn]
  | .bin w a b => by
    have e : knD (enc (.bin w a b)) = enc (.bin w a b) :: (knD (enc a) ++ (knD (enc b) ++ [])) := by cases w <;> rfl
    rw [e, knD_enc a, knD_enc b]
    simp [kn]
  | .neg a => by
    show enc (.neg a) :: (knD (enc a) ++ []) = _
    rw [knD_enc a]
    simp [kn]
  | .ite p a b => by
    show enc (.ite p a b) :: (knD (enc p) ++ (knD (enc a) ++ (knD (enc b) ++ []))) = _
    rw [knD_enc p, knD_enc a, knD_enc b]
    simp [kn]
noncomputable def pgOf (d : PyData) : Pg := open Classical in if h : ∃ p, d = enc p then Classical.choose h else .num 0
theorem pg_spec {d : PyData} (h : ∃ p, d = enc p) : d = enc (pgOf d) := by
  unfold pgOf
  rw [dif_pos h]
  exact Classical.choose_spec h
theorem firstBad_none {f : PyData → Bool} : ∀ {ds : List PyData} {n : Nat}, firstBad f ds n = none → ∀ x ∈ ds, f x = true
  | d :: ds, n, h, x, hx => by
    unfold firstBad at h
    by_cases c : f d = true
    · rw [if_pos c] at h
      rcases List.mem_cons.mp hx with e | e
      · rw [e]; exact c
      · exact firstBad_none h x e
    · rw [if_neg c] at h
      cases h
/-- what is amiss with a program, whatever it is -/
noncomputable def wrongD (ks : List Bool) (d : PyData) : Option (Str × Nat) := match firstBad hasF (knD d) 0 with
  | some n => some ("form", n)
  | none => match firstBad (inOk (ks.length : Nat)) (knD d) 0 with
    | some n => some ("input", n)
    | none => (fbP (fits ks) (kn (pgOf d)) 0).map fun n => ("kind", n)
theorem wrong_form {ks : List Bool} {d : PyData} {n : Nat} (h : firstBad hasF (knD d) 0 = some n) : wrongD ks d = some (("form" : Str), n) := by
  unfold wrongD
  rw [h]
theorem wrong_input {ks : List Bool} {d : PyData} {n : Nat} (h0 : firstBad hasF (knD d) 0 = none) (h : firstBad (inOk (ks.length : Nat)) (knD d) 0 = some n) : wrongD ks d = some (("input" : Str), n) := by
  unfold wrongD
  rw [h0]
  show (match firstBad (inOk (ks.length : Nat)) (knD d) 0 with | some n => some (("input" : Str), n) | none => _) = _
  rw [h]
theorem wrong_kind {ks : List Bool} {d : PyData} (h0 : firstBad hasF (knD d) 0 = none) (h : firstBad (inOk (ks.length : Nat)) (knD d) 0 = none) : wrongD ks d = (fbP (fits ks) (kn (pgOf d)) 0).map fun n => (("kind" : Str), n) := by
  unfold wrongD
  rw [h0]
  show (match firstBad (inOk (ks.length : Nat)) (knD d) 0 with | some n => some (("input" : Str), n) | none => _) = _
  rw [h]
theorem is_pg {ks : List Bool} {d : PyData} (h0 : firstBad hasF (knD d) 0 = none) (h : firstBad (inOk (ks.length : Nat)) (knD d) 0 = none) : d = enc (pgOf d) ∧ ∀ x ∈ kn (pgOf d), In0 ks.length x := by
  have e := pg_spec (dec_pg ks.length _ d (Nat.le_refl _) (firstBad_none h0) (firstBad_none h))
  refine ⟨e, fun x hx => ?_⟩
  have z := firstBad_none h (enc x) (by rw [e, knD_enc]; exact List.mem_map.mpr ⟨x, hx, rfl⟩)
  cases x with
  | inp k =>
    have y : decide (0 ≤ (k : Int) ∧ (k : Int) < (ks.length : Nat)) = true := by simpa [inOk, enc] using z
    have w := (of_decide_eq_true y).2
    show k < ks.length
    omega
  | _ => trivial
section
variable {P : Program} {w : World} {K : PySem.W.Frag} {mg : Str → Option Value} {base : Heap}
def wV : Option Nat → V
  | none => .non
  | some n => .int (n : Nat)
def spKOD (K : PySem.W.Frag) (C : Addr) (bad : List Str) : Sp := fun vs H Q E => ∃ (ka : Addr) (ks : List Bool) (v : V) (d : PyData), vs = [.ref ka, v] ∧ SqT K H ka (kVs ks) ∧ Fd K H v d ∧ (knD d).length ≤ 10000 ∧ (∀ x ∈ knD d, wordOk bad x ∧ dsz x ≤ 90000) ∧
  (wrongD ks d = none → ∀ H', Same H H' → Q (.str (kS (own ks (pgOf d)))) H') ∧ ∀ x n, wrongD ks d = some (x, n) → ∀ a H', Same H H' → H' a = some (.xd [("at", .int (n : Nat)), ("word", .str x)]) → E (.ref C) (some a) H'
theorem ok_kind_ofD {bad : List Str} (B : Bt mg) (R_NoProgram : Rf K mg "NoProgram" "NoProgram.__init__" c_NoProgram i_NoProgram f_NoProgram s_NoProgram ["word", "at"]) (C_knots : Cal P w K mg base 3 "knots" ["program"] (spKnD K bad)) (C_refuse_forms : CalX P w K mg base 3 "refuse_forms" ["every"] (spRFD K c_NoProgram bad)) (C_refuse_inputs : CalX P w K mg base 3 "refuse_inputs" ["every", "many"] (spRID K c_NoProgram)) (C_taken : Cal P w K mg base 1 "taken" ["pile", "many"] (spTaken)) (C_many_parts : Cal P w K mg base 1 "many_parts" ["word"] (spMP)) (C_parts_fit : Cal P w K mg base 1 "parts_fit" ["word", "told"] (spPFA K)) (C_own_kind : Cal P w K mg base 1 "own_kind" ["kinds", "knot", "told"] (spOKA K)) (D : DefAt K mg "kind_of" s_kind_of ["kinds", "program"]) : CalX P w K mg base 4 "kind_of" ["kinds", "program"] (spKOD K c_NoProgram bad) := by
  refine calx_of D sc_kind_of (fun vs H Q E h => ?_) (fun f cdv A outer s H vs Q E hr h => ?_)
  · obtain ⟨ka, ks, v, p, rfl, _⟩ := h
    rfl
  obtain ⟨ka, ks, v, d, rfl, hk, hv, hsz, hwk, q, qe⟩ := h
  have C_taken := C_taken.mono (k := 3) (by decide)
  have C_many_parts := C_many_parts.mono (k := 3) (by decide)
  have C_parts_fit := C_parts_fit.mono (k := 3) (by decide)
  have C_own_kind := C_own_kind.mono (k := 3) (by decide)
  have hr' : Room 3 _ := hr
  have hr := hr'.mono (show 2 ≤ 3 by decide)
  refine ⟨_, (pss_cons (ps_set (i := 2) sc_kind_of.nd rfl (.inl rfl) (pe_cal C_knots hr' (by rfl) (pa_cons (pv 1) pa_nil)))
      (pss_cons (ps_expr (pe_calX C_refuse_forms (takes_of rfl rfl rfl rfl) hr' (by rfl) (pa_cons (pv 2) pa_nil)))
      (pss_cons (ps_expr (pe_calX C_refuse_inputs (takes_of rfl rfl rfl rfl) hr' (by rfl) (pa_cons (pv 2) (pa_cons (pe_callB call_len_seq (by rfl) B.len PySem.boot_len (pa_cons (pv 0) pa_nil)) pa_nil))))
      (pss_cons (ps_set (i := 3) sc_kind_of.nd rfl (.inl rfl) pe_non)
      (pss_cons (ps_set (i := 4) sc_kind_of.nd rfl (.inl rfl) (pe_lst pa_nil))
      (pss_cons (ps_for (passes_of rfl) rfl (pi_revR (by rfl) B.reversed (prg_1 (by rfl) B.range (pe_callB call_len_seq (by rfl) B.len PySem.boot_len (pa_cons (pv 2) pa_nil)))) (pg_name (i := 5) sc_kind_of.nd rfl (.inl rfl))
        (pss_cons (ps_set (i := 6) sc_kind_of.nd rfl (.inl rfl) (pe_ix ix_tup (pe_ix ix_list (pv 2) (pv 5) (fun _ _ => rfl)) pe_int (fun _ _ => rfl)))
      (pss_cons (ps_set (i := 7) sc_kind_of.nd rfl (.inl rfl) (pe_cal C_taken hr' (by rfl) (pa_cons (pv 4) (pa_cons (pe_cal C_many_parts hr' (by rfl) (pa_cons (pv 6) pa_nil)) pa_nil))))
      (pss_cons (ps_if (pt_not (pt_val (pe_cal C_parts_fit hr' (by rfl) (pa_cons (pv 6) (pa_cons (pv 7) pa_nil)))))
        (pss_one (ps_set (i := 3) sc_kind_of.nd rfl (.inl rfl) (pv 5)))
        pss_nil)
      (pss_one (ps_expr (pe_bm PySem.F.plainAttrs_list PySem.F.slot_list_append PySem.F.type_list_append mt_append (pv 4) (pa_cons (pe_cal C_own_kind hr' (by rfl) (pa_cons (pv 0) (pa_cons (pe_ix ix_list (pv 2) (pv 5) (fun _ _ => rfl)) (pa_cons (pv 7) pa_nil)))) pa_nil))))))))
      (pss_cons (ps_if (pt_cmpR op_notN (pv 3) pe_non (nomark _))
        (pss_one (ps_ref R_NoProgram (ini_NoProgram R_NoProgram) hr rfl (takes_of rfl rfl rfl rfl) (by rfl) (pa_cons pe_str (pa_cons (pv 3) pa_nil))))
        pss_nil)
      (pss_one (ps_ret (pe_ix ix_list (pv 4) pe_int (fun _ _ => rfl))))))))))), ?_⟩
  refine ⟨_, rfl, v, d, rfl, hv, hsz, hwk, fun le us H1 s1 le0 hle hus => ?_⟩
  refine ⟨_, rfl, le, us, knD d, rfl, SqL.of hle, hus, hwk, fun n0 H2 s2 => ?_, fun n hn a' H' sm hx => qe _ n (wrong_form hn) a' H' (s1.trans sm) hx⟩
  have klen : (kVs ks).length = ks.length := List.length_map _
  have hk2 : SqT K H2 ka (kVs ks) := Tp.same (s1.trans s2) _ _ hk
  refine ⟨_, rfl, _, rfl, ka, _, rfl, .inr hk2, le, us, knD d, (ks.length : Nat), by rw [klen], SqL.of (s2 _ _ hle), hus.keep (Tp.same s2), firstBad_none n0, fun n1 H3 s3 => ?_, fun n hn a' H' sm hx => qe _ n (wrong_input n0 hn) a' H' ((s1.trans s2).trans sm) hx⟩
  obtain ⟨ed, hin⟩ := is_pg n0 n1
  have wk := wrong_kind n0 n1
  have ek : knD d = (kn (pgOf d)).map enc := by
    have z := knD_enc (pgOf d)
    rw [← ed] at z
    exact z
  have hus : Ats K H1 us (kn (pgOf d)) := by
    have z := hus.2
    rw [ek] at z
    exact z
  have hsz : psz (pgOf d) ≤ 10000 := by
    rw [← kn_len]
    rw [ek, List.length_map] at hsz
    exact hsz
  generalize pgOf d = p at wk hin hus hsz q
  refine ⟨(by show 0 ≤ sizeLine; decide), fun lr hlr => ?_⟩
  have s4 : Same H3 (upd H3 lr (.lst [])) := same_new hlr
  have s03 : Same H H3 := s1.trans (s2.trans s3)
  have lr0 : H lr = none := s03.free hlr
  have hle4 : (upd H3 lr (.lst [])) le = some (.lst us) := (s2.trans (s3.trans s4)) _ _ hle
  have hus4 : Ats K (upd H3 lr (.lst [])) us (kn p) := hus.keep (Tp.same (s2.trans (s3.trans s4)))
  have hk4 : SqT K (upd H3 lr (.lst [])) ka (kVs ks) := Tp.same (s03.trans s4) _ _ hk
  have hlr4 : (upd H3 lr (.lst [])) lr = some (.lst []) := upd_same
  have s04 := s03.trans s4
  have nler : le ≠ lr := fun z => by
    rw [← z, (s2.trans s3) _ _ hle] at hlr
    cases hlr
  generalize upd H3 lr (.lst []) = H4 at hle4 hus4 hk4 hlr4 s04
  have ul : us.length = (kn p).length := hus.len
  have kl := kn_len p
  refine ⟨_, rfl, le, us, rfl, .inl (SqL.of hle4), _, rfl, by omega, by omega, by omega, by omega, for_rangeC (n := (((us.length : Nat) : Int) - 0).toNat) (fun i σ' H' => ∃ (fs : List Pg) (y5 y6 y7 : Option V), σ' = [some (.ref ka), some v, some (.ref le), some (wV (fbP (fits ks) ((kn p).drop (us.length - i)) (us.length - i))), some (.ref lr), y5, y6, y7] ∧ Same H H' ∧ H' le = some (.lst us) ∧ Ats K H' us (kn p) ∧ SqT K H' ka (kVs ks) ∧ (kn p).drop (us.length - i) = knf fs ∧ H' lr = some (.lst (kids ks fs).reverse)) ?_ ?_ ?_⟩
  · refine ⟨[], none, none, none, ?_, s04, hle4, hus4, hk4, by rw [ul, Nat.sub_zero, List.drop_length]; rfl, hlr4⟩
    rw [Nat.sub_zero, ul, List.drop_length]
    rfl
  · rintro i σ' H' hi ⟨fs, y5, y6, y7, rfl, sm, hle', hus', hk', hdrop, hlr'⟩
    have hi' : i < us.length := by omega
    obtain ⟨x, hx⟩ : ∃ x, (kn p)[us.length - (i + 1)]? = some x := ⟨_, List.getElem?_eq_getElem (by omega)⟩
    have hu : us[us.length - (i + 1)]? = some us[us.length - (i + 1)] := List.getElem?_eq_getElem (by omega)
    obtain ⟨x', hx', hax⟩ := hus'.get _ _ hu
    rw [hx] at hx'
    have ex := Option.some.inj hx'
    subst ex
    generalize us[us.length - (i + 1)] = xv at hu hax
    have e1 : us.length - (i + 1) + 1 = us.length - i := by omega
    have hfb : fbP (fits ks) ((kn p).drop (us.length - (i + 1))) (us.length - (i + 1)) = if fits ks x then fbP (fits ks) ((kn p).drop (us.length - i)) (us.length - i) else some (us.length - (i + 1)) := by
      obtain ⟨hlt, e⟩ := List.getElem?_eq_some_iff.mp hx
      rw [List.drop_eq_getElem_cons hlt, e, e1]
      show (if fits ks x then fbP (fits ks) _ (us.length - (i + 1) + 1) else _) = _
      rw [e1]
    obtain ⟨rest, rfl, hdr⟩ := knf_step hx (by rw [e1]; exact hdrop)
    have hwx : In0 ks.length x := hin x (List.mem_of_getElem? hx)
    have eidx : (0 : Int) + ((((us.length : Nat) : Int) - 0).toNat : Int) - 1 + (i : Int) * (-1) = ((us.length - (i + 1) : Nat) : Int) := by omega
    obtain ⟨a, vs, rfl, ha, hvs⟩ := hax.open
    refine ⟨_, rfl, _, rfl, le, us, _, _, rfl, rfl, SqL.of hle', at_of (j := us.length - (i + 1)) eidx hu, a, _, 0, _, rfl, rfl, ha, at_word x vs, ?_⟩
    have ekids : kids ks (parts x ++ rest) = kids ks (parts x) ++ kids ks rest := List.map_append ..
    have elen : (kids ks (parts x)).length = (parts x).length := List.length_map _
    have plen : (parts x).length ≤ 3 := by cases x <;> simp [parts]
    rw [ekids, List.reverse_append] at hlr'
    refine ⟨_, rfl, _, rfl, x, rfl, lr, (kids ks rest).reverse, kids ks (parts x), by rw [elen]; rfl, hlr', by omega, fun t H5 ex5 hlr5 ht5 => ?_⟩
    have nar : ∀ {o : HO}, ∀ b, H b = some o → b ∉ [lr] := fun b hb => by simp [ne_of_none hb lr0]
    have sm5 : Same H H5 := fun b o hb => ex5 b o (sm b o hb) (nar b hb)
    have tp5 : Tp K H' H5 := ex5.tp fun b hb ys z => by
      rw [List.mem_singleton.mp hb] at z
      rcases z with z | ⟨o, z⟩
      · rw [hlr'] at z; cases z
      · rw [hlr'] at z; cases z
    have hle5 := ex5 _ _ hle' (by simp [nler])
    have hus5 := hus'.keep tp5
    have hk5 := tp5 _ _ hk'
    have rl : (kids ks rest).length ≤ 10000 := by
      have z := knf_len rest
      have z2 : (kn p).length - (us.length - (i + 1)) = (knf (x :: rest)).length := by rw [← hdr, List.length_drop]
      rw [knf_cons, List.length_cons] at z2
      have z3 : knf (parts x ++ rest) = knf (parts x) ++ knf rest := by simp [knf]
      rw [z3, List.length_append] at z2
      rw [show (kids ks rest).length = rest.length from List.length_map _]
      omega
    refine ⟨_, rfl, _, rfl, x, ks, t, rfl, .inl (.inl ht5), fun H6 s6 => ⟨_, rfl, ?_⟩⟩
    have hlr6 := s6 _ _ hlr5
    have hle6 := s6 _ _ hle5
    have hax6 : At K H6 (.ref a) x := (hax.keep tp5).keep (Tp.same s6)
    have t7 : Tp K H6 (upd H6 lr (.lst ((kids ks rest).reverse ++ [V.str (kS (own ks x))]))) := Tp.lst hlr6
    have last : upd H6 lr (.lst ((kids ks rest).reverse ++ [V.str (kS (own ks x))])) lr = some (.lst (kids ks (x :: rest)).reverse) := by
      rw [upd_same]
      show _ = some (HO.lst (V.str (kS (own ks x)) :: kids ks rest).reverse)
      rw [List.reverse_cons]
    have same7 : Same H (upd H6 lr (.lst ((kids ks rest).reverse ++ [V.str (kS (own ks x))]))) := fun b o hb => by
      rw [upd_ne (ne_of_none hb lr0)]
      exact s6 _ _ (sm5 b o hb)
    refine ite2 (fun c => ⟨_, rfl, ?_⟩) (fun c => ?_)
    · have nk : fits ks x = false := by simpa using c
      rw [nk] at hfb
      refine ⟨_, rfl, .inl ⟨rfl, _, SqL.of hlr6⟩, _, rfl, _, rfl, _, rfl, le, us, _, _, rfl, rfl, SqL.of hle6, at_of (j := us.length - (i + 1)) eidx hu, _, rfl, ?_⟩
      refine ⟨x, ks, ka, t, .ref a, rfl, Tp.same s6 _ _ hk5, hax6, .inl (.inl (s6 _ _ ht5)), hwx, ?_⟩
      refine ⟨lr, _, _, rfl, rfl, hlr6, by rw [List.length_reverse]; exact smallL (by omega), x :: rest, ?y5, ?y6, ?y7, ?eq, same7, by rw [upd_ne nler]; exact hle6, (hus5.keep (Tp.same s6)).keep t7, t7 _ _ (Tp.same s6 _ _ hk5), hdr, last⟩
      case eq =>
        rw [hfb, eidx]
        rfl
    · have nk : fits ks x = true := by simpa using c
      rw [nk] at hfb
      refine ⟨_, rfl, .inl ⟨rfl, _, SqL.of hlr6⟩, _, rfl, _, rfl, _, rfl, le, us, _, _, rfl, rfl, SqL.of hle6, at_of (j := us.length - (i + 1)) eidx hu, _, rfl, ?_⟩
      refine ⟨x, ks, ka, t, .ref a, rfl, Tp.same s6 _ _ hk5, hax6, .inl (.inl (s6 _ _ ht5)), hwx, ?_⟩
      refine ⟨lr, _, _, rfl, rfl, hlr6, by rw [List.length_reverse]; exact smallL (by omega), x :: rest, ?z5, ?z6, ?z7, ?eq2, same7, by rw [upd_ne nler]; exact hle6, (hus5.keep (Tp.same s6)).keep t7, t7 _ _ (Tp.same s6 _ _ hk5), hdr, last⟩
      case eq2 =>
        rw [hfb]
        rfl
  · rintro σ' H' ⟨fs, y5, y6, y7, rfl, sm, hle', hus', hk', hdrop, hlr'⟩
    have e0 : us.length - (((us.length : Nat) : Int) - 0).toNat = 0 := by omega
    rw [e0, List.drop_zero, ← knf_one] at hdrop
    have ef := knf_inj _ _ _ (Nat.le_refl _) hdrop
    subst ef
    rw [e0, List.drop_zero]
    cases ew : fbP (fits ks) (kn p) 0 with
    | none =>
      rw [ew] at wk
      refine ⟨_, rfl, rfl, _, rfl, ite2 (fun c => ?_) (fun _ => ⟨_, rfl, lr, _, 0, _, rfl, rfl, SqL.of hlr', rfl, q wk _ sm⟩)⟩
      simp [wV] at c
    | some n =>
      rw [ew] at wk
      refine ⟨_, rfl, rfl, _, rfl, ite2 (fun _ => ⟨_, rfl, mk_two fun a' H2 r => qe _ n wk a' H2 (sm.trans r.same) r.2.1⟩) (fun c => ?_)⟩
      simp [wV] at c
end
end Lm

set_option Elab.async false
set_option linter.all false
set_option maxRecDepth 100000
set_option maxHeartbeats 2000000
namespace Lm
open PySem PySem.Spec PyProof.Rows L2 LmR
theorem fd_tup {K : PySem.W.Frag} {H : Hp} {t : Addr} {vs : List V} {ds : List PyData} (h : H t = some (.tup vs)) (r : DpAll K H vs ds) (f : flat.flats ds = true) : Fd K H (.ref t) (.tuple ds) := ⟨f, .tup (.inl (.inl h)) r⟩
section
variable {P : Program} {w : World} {K : PySem.W.Frag} {mg : Str → Option Value} {base : Heap}
abbrev s_l_sorts : Stmt := topS 45
theorem sc_l_sorts : FnScope ["_law_e", "_law_found"] ["_law_e"] (defScope s_l_sorts) := ⟨rfl, rfl, rfl, by decide +kernel, rfl, by decide +kernel, by decide +kernel⟩
theorem ok_l_sorts (B : Bt mg) {C : Addr} {bs : List Bool} (S : Sorts K mg C bs) (k : ExK K C) {f : Addr} {fd : FuncData} (F : Fun K "_law_sorts" "_law_sorts" s_l_sorts f fd) (a : Addr) (oe : Obj) (cls : Value) (d : Option Addr) (hz : Zc cls d oe) (hf : ∃ vs, oe.data = .fields vs) :
    FnP P w K mg base (a, oe) 1 f fd ["_law_e"] (spSorts C a cls d bs) := by
  refine fn_ofP F sc_l_sorts (fun vs H Q E h => ?_) (fun cdv A outer s H vs Q E hr h => ?_)
  · obtain ⟨rfl, _⟩ := h
    rfl
  obtain ⟨rfl, rfl, dd, fs, rfl, hx, q⟩ := h
  obtain ⟨c1, c2, c3, c4, c5, c6, c7, c8, c9, c10, c11, c12, b1, b2, b3, b4, b5, b6, b7, b8, b9, b10, b11, b12, S, rfl⟩ := S
  have hNoHead := S.g1
  have hNoProgram := S.g2
  have hNoText := S.g3
  have hNoStock := S.g4
  have hNoAnswer := S.g5
  have hNoInputs := S.g6
  have hClash := S.g7
  have hNoRow := S.g8
  have hNoQuestion := S.g9
  have hNoDoer := S.g10
  have hNotKept := S.g11
  have hNoName := S.g12
  refine ⟨_, (pss_cons (ps_set (i := 1) sc_l_sorts.nd rfl (.inl rfl) (pe_lst (pa_cons (pe_callB (call_isX k hz hf (List.mem_singleton.mpr rfl)) (by rfl) B.isinstance (by decide +kernel) (pa_cons (pv 0) (pa_cons (pe_glob (v := .ref _) (by rfl) hNoHead rfl) pa_nil))) (pa_cons (pe_callB (call_isX k hz hf (List.mem_singleton.mpr rfl)) (by rfl) B.isinstance (by decide +kernel) (pa_cons (pv 0) (pa_cons (pe_glob (v := .ref _) (by rfl) hNoProgram rfl) pa_nil))) (pa_cons (pe_callB (call_isX k hz hf (List.mem_singleton.mpr rfl)) (by rfl) B.isinstance (by decide +kernel) (pa_cons (pv 0) (pa_cons (pe_glob (v := .ref _) (by rfl) hNoText rfl) pa_nil))) (pa_cons (pe_callB (call_isX k hz hf (List.mem_singleton.mpr rfl)) (by rfl) B.isinstance (by decide +kernel) (pa_cons (pv 0) (pa_cons (pe_glob (v := .ref _) (by rfl) hNoStock rfl) pa_nil))) pa_nil))))))
      (pss_cons (ps_set (i := 1) sc_l_sorts.nd rfl (.inl rfl) (pe_op op_cat (pv 1) (pe_lst (pa_cons (pe_callB (call_isX k hz hf (List.mem_singleton.mpr rfl)) (by rfl) B.isinstance (by decide +kernel) (pa_cons (pv 0) (pa_cons (pe_glob (v := .ref _) (by rfl) hNoAnswer rfl) pa_nil))) (pa_cons (pe_callB (call_isX k hz hf (List.mem_singleton.mpr rfl)) (by rfl) B.isinstance (by decide +kernel) (pa_cons (pv 0) (pa_cons (pe_glob (v := .ref _) (by rfl) hNoInputs rfl) pa_nil))) (pa_cons (pe_callB (call_isX k hz hf (List.mem_singleton.mpr rfl)) (by rfl) B.isinstance (by decide +kernel) (pa_cons (pv 0) (pa_cons (pe_glob (v := .ref _) (by rfl) hClash rfl) pa_nil))) (pa_cons (pe_callB (call_isX k hz hf (List.mem_singleton.mpr rfl)) (by rfl) B.isinstance (by decide +kernel) (pa_cons (pv 0) (pa_cons (pe_glob (v := .ref _) (by rfl) hNoRow rfl) pa_nil))) pa_nil)))))))
      (pss_one (ps_ret (pe_op op_cat (pv 1) (pe_lst (pa_cons (pe_callB (call_isX k hz hf (List.mem_singleton.mpr rfl)) (by rfl) B.isinstance (by decide +kernel) (pa_cons (pv 0) (pa_cons (pe_glob (v := .ref _) (by rfl) hNoQuestion rfl) pa_nil))) (pa_cons (pe_callB (call_isX k hz hf (List.mem_singleton.mpr rfl)) (by rfl) B.isinstance (by decide +kernel) (pa_cons (pv 0) (pa_cons (pe_glob (v := .ref _) (by rfl) hNoDoer rfl) pa_nil))) (pa_cons (pe_callB (call_isX k hz hf (List.mem_singleton.mpr rfl)) (by rfl) B.isinstance (by decide +kernel) (pa_cons (pv 0) (pa_cons (pe_glob (v := .ref _) (by rfl) hNotKept rfl) pa_nil))) (pa_cons (pe_callB (call_isX k hz hf (List.mem_singleton.mpr rfl)) (by rfl) B.isinstance (by decide +kernel) (pa_cons (pv 0) (pa_cons (pe_glob (v := .ref _) (by rfl) hNoName rfl) pa_nil))) pa_nil)))))))))), ?_⟩
  refine ⟨_, rfl, _, _, rfl, S.k1, ⟨_, hx⟩, _, rfl, _, _, rfl, S.k2, ⟨_, hx⟩, _, rfl, _, _, rfl, S.k3, ⟨_, hx⟩, _, rfl, _, _, rfl, S.k4, ⟨_, hx⟩, (by show 4 ≤ sizeLine; decide), fun l1 h1 => ?_⟩
  have s1 : Same H (upd H l1 (.lst [.bl b1, .bl b2, .bl b3, .bl b4])) := same_new h1
  have e1 : upd H l1 (.lst [.bl b1, .bl b2, .bl b3, .bl b4]) l1 = some (.lst [.bl b1, .bl b2, .bl b3, .bl b4]) := upd_same
  have x1 := s1 _ _ hx
  refine ⟨_, rfl, _, rfl, _, _, rfl, S.k5, ⟨_, x1⟩, _, rfl, _, _, rfl, S.k6, ⟨_, x1⟩, _, rfl, _, _, rfl, S.k7, ⟨_, x1⟩, _, rfl, _, _, rfl, S.k8, ⟨_, x1⟩, (by show 4 ≤ sizeLine; decide), fun l2 h2 => ?_⟩
  have s2 := same_new (o := .lst [.bl b5, .bl b6, .bl b7, .bl b8]) h2
  refine ⟨l1, l2, _, _, rfl, rfl, s2 _ _ e1, upd_same, (by show 8 ≤ sizeLine; decide), fun l3 h3 => ?_⟩
  have s3 := same_new (o := .lst ([.bl b1, .bl b2, .bl b3, .bl b4] ++ [.bl b5, .bl b6, .bl b7, .bl b8])) h3
  have x3 := s3 _ _ (s2 _ _ x1)
  refine ⟨_, rfl, _, rfl, _, _, rfl, S.k9, ⟨_, x3⟩, _, rfl, _, _, rfl, S.k10, ⟨_, x3⟩, _, rfl, _, _, rfl, S.k11, ⟨_, x3⟩, _, rfl, _, _, rfl, S.k12, ⟨_, x3⟩, (by show 4 ≤ sizeLine; decide), fun l4 h4 => ?_⟩
  have s4 := same_new (o := .lst [.bl b9, .bl b10, .bl b11, .bl b12]) h4
  refine ⟨l3, l4, _, _, rfl, rfl, s4 _ _ upd_same, upd_same, (by show 12 ≤ sizeLine; decide), fun l5 h5 => ?_⟩
  exact q _ l5 ((((s1.trans s2).trans s3).trans s4).trans (same_new h5)) upd_same
/-! ### refused -/
noncomputable def dueD (ks : List Bool) (d : PyData) : PyData := match wrongD ks d with
  | none => .tuple [.str "kind", .str (kS (own ks (pgOf d)))]
  | some (x, n) => .tuple [.str "no program", .str x, .int (n : Nat)]
theorem due_none {ks : List Bool} {d : PyData} (h : wrongD ks d = none) : dueD ks d = .tuple [.str "kind", .str (kS (own ks (pgOf d)))] := by
  unfold dueD
  rw [h]
theorem due_some {ks : List Bool} {d : PyData} {x : Str} {n : Nat} (h : wrongD ks d = some (x, n)) : dueD ks d = .tuple [.str "no program", .str x, .int (n : Nat)] := by
  unfold dueD
  rw [h]
def spRefused (K : PySem.W.Frag) (bad : List Str) : Sp := fun vs H Q _ => ∃ (ka : Addr) (ks : List Bool) (v : V) (d : PyData), vs = [.ref ka, v] ∧ SqT K H ka (kVs ks) ∧ Fd K H v d ∧ (knD d).length ≤ 10000 ∧ (∀ x ∈ knD d, wordOk bad x ∧ dsz x ≤ 90000) ∧ ∀ u H', Same H H' → Fd K H' u (dueD ks d) → Q u H'
def rCountB (K : PySem.W.Frag) : V → List V → Hp → VK → Prop := fun x xs H Q => ∃ (p : Addr) (bs : List Bool), x = .ref p ∧ xs = [.bl true] ∧ SqL K H p (bs.map V.bl) ∧ Q (.int (bs.count true : Nat)) H
def tSuite (K : PySem.W.Frag) (C : Addr) (bs : List Bool) (a : Addr) (cls : Value) (d : Option Addr) : TS :=
  tIfS (tTest (tOp rEq (tBM K "list" (rCountB K) (tCall (spSorts C a cls d bs) [] (fun _ _ _ => False) (tCons (tVar 3) tNil)) (tCons (tC (.bl true)) tNil)) (tC (.int 1))))
    (tAsg (tTup (tCons (tC (.str "no program")) (tCons (tXf a cls d C "word" (tVar 3)) (tCons (tXf a cls d C "at" (tVar 3)) tNil)))) (gName 2)) tNext
theorem roomH_mark4 {A : Around} (r : Room 4 A) (m : Option Value) : L2H.RoomH 1 (A.mark m) := by
  have h1 := r.dp
  have h2 := r.un
  refine ⟨?_, ?_⟩
  · show A.depth + 3 * 1 + 5 < recursionLimit
    omega
  · show A.units + 16 * 1 + 200 < cLine
    omega
abbrev s_l_refused : Stmt := topS 46
theorem sc_l_refused : FnScope ["_law_kinds_here", "_law_program_here", "_law_found", "_law_e"] ["_law_kinds_here", "_law_program_here"] (defScope s_l_refused) := ⟨rfl, rfl, rfl, by decide +kernel, rfl, by decide +kernel, by decide +kernel⟩
theorem ok_l_refused (B : Bt mg) {bad : List Str} {bs : List Bool} (S : Sorts K mg c_NoProgram bs) (hone : bs.count true = 1) (R_NoProgram : Rf K mg "NoProgram" "NoProgram.__init__" c_NoProgram i_NoProgram f_NoProgram s_NoProgram ["word", "at"]) (C_kind_of : CalX P w K mg base 4 "kind_of" ["kinds", "program"] (spKOD K c_NoProgram bad)) (D_sorts : DefAt K mg "_law_sorts" s_l_sorts ["_law_e"]) (D : DefAt K mg "_law_refused" s_l_refused ["_law_kinds_here", "_law_program_here"]) : Cal P w K mg base 5 "_law_refused" ["_law_kinds_here", "_law_program_here"] (spRefused K bad) := by
  refine cal_of D sc_l_refused (fun vs H Q E h => ?_) (fun f cdv A outer s H vs Q E hr h => ?_)
  · obtain ⟨ka, ks, v, d, rfl, _⟩ := h
    rfl
  obtain ⟨ka, ks, v, d, rfl, hk, hv, hz, hwk, q⟩ := h
  obtain ⟨fs, fds, Fs, bs_, gs⟩ := D_sorts
  have hr' : Room 4 _ := hr
  refine ⟨_, pss_cons (ps_set (i := 2) sc_l_refused.nd rfl (.inl rfl) (pe_tup (pa_cons pe_str pa_nil)))
    (pss_cons (ps_try_as (tb := fun W => tAsg (tTup (tCons (tC (.str "kind")) (tCons (tCallS (spKOD K c_NoProgram bad) (WE W) (tCons (tVar 0) (tCons (tVar 1) tNil))) tNil))) (gName 2)) (ts := tSuite K c_NoProgram bs) (Wout := fun _ _ _ _ => False) rfl rfl sc_l_refused.nd (i := 3) rfl rfl (c := .ref c_NoProgram) ⟨rfl, by decide, .inl R_NoProgram.g⟩ takes0
      (fun W pn xe tk _ => pss_one (ps_set (i := 2) sc_l_refused.nd rfl (.inl rfl) (pe_tup (pa_cons pe_str (pa_cons (pe_calX C_kind_of tk hr' (by rfl) (pa_cons (pv 0) (pa_cons (pv 1) pa_nil))) pa_nil)))))
      (fun a oe cls d pn hz hf => pss_one (ps_if
        (pt_cmpR op_eq (pe_bm PySem.F.plainAttrs_list PySem.F.slot_list_count PySem.F.type_list_count mt_countB (pe_callP (ok_l_sorts B S R_NoProgram.k Fs a oe cls d hz hf) (roomH_mark4 hr' _) (List.mem_cons_self ..) (by rfl) gs Fs.kp bs_ (pa_cons (pv 3) pa_nil)) (pa_cons pe_bl pa_nil)) pe_int (nomark _))
        (pss_one (ps_set (i := 2) sc_l_refused.nd rfl (.inl rfl) (pe_tup (pa_cons pe_str (pa_cons (pe_xf R_NoProgram.f (R_NoProgram.fld _ (by simp)) hz hf (pv 3)) (pa_cons (pe_xf R_NoProgram.f (R_NoProgram.fld _ (by simp)) hz hf (pv 3)) pa_nil))))))
        pss_nil)))
      (pss_one (ps_ret (pv 2)))), ?_⟩
  refine ⟨(by show 1 ≤ sizeLine; decide), fun t0 h0 => ?_⟩
  have s0 : Same H (upd H t0 (.tup [.str "other"])) := same_new h0
  generalize upd H t0 (.tup [.str "other"]) = H0 at s0
  refine ⟨_, rfl, _, rfl, ka, ks, v, d, rfl, Tp.same s0 _ _ hk, hv.keep (Tp.same s0), hz, hwk, fun e H' sm => ⟨(by show 2 ≤ sizeLine; decide), fun t ht => ⟨_, rfl, ?_⟩⟩, fun x n e a' H' sm hx => ⟨true, R_NoProgram.te, fun _ ea hea => ?_, fun z => nomatch z⟩⟩
  · refine q _ _ ((s0.trans sm).trans (same_new ht)) ?_
    rw [due_none e]
    exact fd_tup upd_same (.cons (.str _) (.cons (.str _) .nil)) rfl
  refine ⟨_, rfl, rfl, rfl, a', _, rfl, hx, fun H2 l sm2 hl => ⟨.inl ⟨rfl, _, SqL.of hl⟩, l, bs, rfl, rfl, SqL.of hl, rfl, _, rfl, ite2 (fun _ => ?_) (fun c => ?_)⟩⟩
  · have hx2 := sm2 _ _ hx
    refine ⟨_, rfl, rfl, rfl, a', _, _, rfl, hx2, rfl, _, rfl, rfl, rfl, a', _, _, rfl, hx2, rfl, (by show 3 ≤ sizeLine; decide), fun t ht => ⟨_, rfl, ?_⟩⟩
    refine q _ _ (((s0.trans sm).trans sm2).trans (same_new ht)) ?_
    rw [due_some e]
    exact fd_tup upd_same (.cons (.str _) (.cons (.str _) (.cons (.int _) .nil))) rfl
  · exact absurd (by rw [hone]; rfl) c
end
end Lm

set_option Elab.async false
set_option linter.all false
set_option maxRecDepth 100000
set_option maxHeartbeats 2000000
namespace Lm
open PySem PySem.Spec PyProof.Rows L2 LmR
def numsV : List V := [.str "in", .str "num", .str "plus"]
def wordsV : List V := [.str "yes", .str "no", .str "not", .str "if", .str "least", .str "most", .str "atmost", .str "both", .str "either"]
/-- none of these words is a program's -/
def BadW (bad : List Str) : Prop := ∀ x ∈ bad, (valV manyKV (Sum.inr x)).getD (.int 2) = .int 2 ∧ inV (.str x) numsV = false ∧ inV (.str x) wordsV = false ∧ nnW x = none
section
variable {P : Program} {w : World} {K : PySem.W.Frag} {mg : Str → Option Value} {base : Heap}
def spLHFD (K : PySem.W.Frag) (bad : List Str) : Sp := fun vs H Q _ => ∃ (v : V) (d : PyData), vs = [v] ∧ Fd K H v d ∧ wordOk bad d ∧ dsz d ≤ 90000 ∧ ∀ H', Same H H' → Q (.bl (hasF d)) H'
theorem ok_l_has_formD {bad : List Str} (B : Bt mg) (hbad : BadW bad) (D : DefAt K mg "_law_has_form" s_l_has_form ["_law_knot"]) : Cal P w K mg base 1 "_law_has_form" ["_law_knot"] (spLHFD K bad) := by
  refine cal_of D sc_l_has_form (fun vs H Q E h => ?_) (fun f cdv A outer s H vs Q E hr h => ?_)
  · obtain ⟨v, p, rfl, _⟩ := h
    rfl
  obtain ⟨v, dd, rfl, hv, hw, hz, q⟩ := h
  refine ⟨_, (pss_cons (ps_if (PW.pt (pw_or (pt_not (pt_val (pe_callB call_isi (by rfl) B.isinstance (by decide +kernel) (pa_cons (pv 0) (pa_cons (pe_bltn (v := .ty "tuple") (by rfl) B.tuple PyProof.Rows.boot_tuple rfl) pa_nil))))) (pw_or (pt_cmpR op_eq (pe_callB call_len_seq (by rfl) B.len PySem.boot_len (pa_cons (pv 0) pa_nil)) pe_int (nomark _)) (pw_or1 (pt_not (pt_val (pe_callB call_isi (by rfl) B.isinstance (by decide +kernel) (pa_cons (pe_ix ix_tup (pv 0) pe_int (fun _ _ => rfl)) (pa_cons (pe_bltn (v := .ty "str") (by rfl) B.str PyProof.Rows.boot_str rfl) pa_nil)))))))))
        (pss_one (ps_ret pe_bl))
        pss_nil)
      (pss_cons (ps_set (i := 1) sc_l_has_form.nd rfl (.inl rfl) (pe_dget2 (hu_of hr) (pe_disp (pps_cons pe_str pe_int (pps_cons pe_str pe_int (pps_cons pe_str pe_int (pps_cons pe_str pe_int (pps_cons pe_str pe_int (pps_cons pe_str pe_int (pps_cons pe_str pe_int pps_nil))))))) (by rfl) (by rfl) (fun z => by cases z) (by decide)) (pe_ix ix_tup (pv 0) pe_int (fun _ _ => rfl)) pe_int (by constructor <;> rfl)))
      (pss_cons (ps_if (pt_cmpR op_in_seq (pe_ix ix_tup (pv 0) pe_int (fun _ _ => rfl)) (pe_tup (pa_cons pe_str (pa_cons pe_str (pa_cons pe_str pa_nil)))) rfl)
        (pss_one (ps_ret (pe_and (pe_cmpR op_eq (pe_callB call_len_seq (by rfl) B.len PySem.boot_len (pa_cons (pv 0) pa_nil)) (pe_op op_add (pv 1) pe_int) (nomark _)) (pe_and (pe_callB call_isi (by rfl) B.isinstance (by decide +kernel) (pa_cons (pe_ix ix_tup (pv 0) pe_int (fun _ _ => rfl)) (pa_cons (pe_bltn (v := .ty "int") (by rfl) B.int PyProof.Rows.boot_int rfl) pa_nil))) (pe_one (pe_not (pe_callB call_isi (by rfl) B.isinstance (by decide +kernel) (pa_cons (pe_ix ix_tup (pv 0) pe_int (fun _ _ => rfl)) (pa_cons (pe_bltn (v := .ty "bool") (by rfl) B.bool PyProof.Rows.boot_bool rfl) pa_nil)))))))))
        pss_nil)
      (pss_cons (ps_set (i := 2) sc_l_has_form.nd rfl (.inl rfl) (pe_tup (pa_cons pe_str (pa_cons pe_str (pa_cons pe_str (pa_cons pe_str (pa_cons pe_str (pa_cons pe_str (pa_cons pe_str (pa_cons pe_str (pa_cons pe_str pa_nil)))))))))))
      (pss_one (ps_ret (pe_and (pe_cmpR op_in_seq (pe_ix ix_tup (pv 0) pe_int (fun _ _ => rfl)) (pv 2) rfl) (pe_one (pe_cmpR op_eq (pe_callB call_len_seq (by rfl) B.len PySem.boot_len (pa_cons (pv 0) pa_nil)) (pe_op op_add (pv 1) pe_int) (nomark _)))))))))), ?_⟩
  refine ⟨_, rfl, v, _, _, _, _, rfl, .ty _, hv.ty, kit_tup dd hv.1, _, rfl, ite2 (fun c => ?_) (fun c => ?_)⟩
  · have e : hasF dd = false := by
      cases dd <;> first | rfl | (simp [isTup] at c; done)
    rw [e] at q
    exact iteY rfl (q H (Same.refl _))
  have it : isTup dd = true := by simpa using c
  obtain ⟨ds, rfl⟩ : ∃ ds, dd = .tuple ds := by cases dd <;> first | exact ⟨_, rfl⟩ | (simp [isTup] at it; done)
  obtain ⟨a, xs, rfl, qa, r⟩ : ∃ a xs, v = .ref a ∧ SqT K H a xs ∧ DpAll K H xs ds := by
    cases hv.2 with
    | tup qa r => exact ⟨_, _, rfl, qa, r⟩
  have hl := dpall_len r
  refine ⟨_, rfl, a, xs, rfl, .inr qa, rfl, _, rfl, ite2 (fun c2 => ?_) (fun c2 => ?_)⟩
  · have e : hasF (.tuple ds) = false := by
      have n2 : ds = [] := by
        have z : ((xs.length : Nat) : Int) = 0 := by simpa using c2
        exact List.length_eq_zero_iff.mp (by omega)
      rw [n2]
      rfl
    rw [e] at q
    exact iteY rfl (q H (Same.refl _))
  obtain ⟨d0, rs, rfl⟩ : ∃ d0 rs, ds = d0 :: rs := by
    cases ds with
    | nil =>
      have z : xs = [] := List.length_eq_zero_iff.mp hl
      subst z
      exact absurd rfl c2
    | cons d0 rs => exact ⟨_, _, rfl⟩
  obtain ⟨v0, ys, rfl, r0, rr⟩ : ∃ v0 ys, xs = v0 :: ys ∧ Dp K H v0 d0 ∧ DpAll K H ys rs := by
    cases r with
    | cons r1 r => exact ⟨_, _, rfl, r1, r⟩
  have f0 : flat d0 = true ∧ flat.flats rs = true := by
    simpa [flat, flat.flats] using hv.1
  have h0 : Fd K H v0 d0 := ⟨f0.1, r0⟩
  refine ⟨_, rfl, a, _, 0, _, rfl, rfl, qa, at_of (j := 0) rfl rfl, _, _, _, _, _, rfl, .ty _, h0.ty, kit_str d0 f0.1, _, rfl, ite2 (fun c3 => ?_) (fun c3 => ?_)⟩
  · have e : hasF (.tuple (d0 :: rs)) = false := by
      cases d0 <;> first | rfl | (simp [isStr] at c3; done)
    rw [e] at q
    exact q H (Same.refl _)
  obtain ⟨wd, rfl⟩ : ∃ wd, d0 = .str wd := by
    have z : isStr d0 = true := by simpa using c3
    cases d0 <;> first | exact ⟨_, rfl⟩ | (simp [isStr] at z; done)
  cases r0
  have ylen := dpall_len rr
  -- many
  refine fun d hd => ⟨upd_same, manyL, rfl, (by show 7 ≤ 15; decide), ?_⟩
  refine ⟨d, rfl, .inl ⟨_, .inl upd_same⟩, ?_⟩
  have s1 : Same H (upd (upd H d (.dK [])) d (.dK manyKV)) := fun b o z => by
    rw [upd_ne (ne_of_none z hd), upd_ne (ne_of_none z hd)]
    exact z
  have e1 : (upd (upd H d (.dK [])) d (.dK manyKV)) d = some (.dK manyKV) := upd_same
  show (tOp (rIxT K) (tVar 0) (tC (V.int 0))) _ (upd (upd H d (.dK [])) d (.dK manyKV)) _
  generalize upd (upd H d (.dK [])) d (.dK manyKV) = H1 at s1 e1
  have ha1 := Tp.same (K := K) s1 _ _ qa
  refine ⟨_, rfl, a, _, 0, _, rfl, rfl, ha1, at_of (j := 0) rfl rfl, _, DGet.k (k := Sum.inr wd) e1, ?_⟩
  obtain ⟨mv, emv⟩ : ∃ mv : Int, (valV manyKV (Sum.inr wd)).getD (.int 2) = .int mv := by
    rcases (show (nnW wd).isSome = true ∨ wd ∈ bad from hw) with hs | hb
    · obtain ⟨⟨n1, m1⟩, hnm⟩ := Option.isSome_iff_exists.mp hs
      obtain ⟨p, rfl, _, _⟩ := nnW_pg hnm
      exact ⟨_, many_get p⟩
    · exact ⟨_, (hbad wd hb).1⟩
  rw [emv]
  refine ⟨_, rfl, a, _, 0, _, rfl, rfl, ha1, at_of (j := 0) rfl rfl, (by show 3 ≤ sizeLine; decide), fun t ht => ?_⟩
  have s2 : Same H1 (upd H1 t (.tup [.str "in", .str "num", .str "plus"])) := same_new ht
  have ha2 := Tp.same (K := K) s2 _ _ ha1
  have q2 := q _ (s1.trans s2)
  refine ⟨t, _, rfl, .inr (.inl (.inl upd_same)), rfl, rfl, _, rfl, ?_⟩
  show if inV (.str wd) numsV = true then _ else _
  have rr2 := dps_keep (Tp.same (K := K) (s1.trans s2)) rs ys f0.2 rr
  generalize upd H1 t (.tup [.str "in", .str "num", .str "plus"]) = H2 at s2 ha2 q2 rr2
  have words : ∀ (nk : inV (.str wd) wordsV = false) (hF : hasF (.tuple (.str wd :: rs)) = false), True := fun _ _ => trivial
  rcases (show (nnW wd).isSome = true ∨ wd ∈ bad from hw) with hs | hb
  · obtain ⟨⟨n1, m1⟩, hnm⟩ := Option.isSome_iff_exists.mp hs
    obtain ⟨p, rfl, en, em⟩ := nnW_pg hnm
    have hF : hasF (.tuple (.str (word p) :: rs)) = ((rs.length == n1 + m1) && (n1 == 0 || (rs.head?.map whole).getD false)) := by
      show (match nnW (word p) with | some (n, m) => _ | none => false) = _
      rw [hnm]
    have emv2 : mv = ((parts p).length : Nat) := by
      rw [many_get] at emv
      exact (V.int.inj emv).symm
    subst emv2
    rw [show inV (.str (word p)) numsV = decide (nn p = 1) from in_nums p]
    refine ite2 (fun z => ?_) (fun z => ?_)
    · have hn : nn p = 1 := of_decide_eq_true z
      refine ⟨_, rfl, a, _, rfl, .inr ha2, _, rfl, _, _, rfl, rfl, rfl, _, rfl, ite2 (fun c4 => ?_) (fun c4 => ?_)⟩
      · have x := V.int.inj (of_decide_eq_true c4)
        have eq : rs.length = n1 + m1 := by
          rw [List.length_cons, ylen] at x
          omega
        obtain ⟨dx, rs', rfl⟩ : ∃ dx rs', rs = dx :: rs' := by
          cases rs with
          | nil => simp at eq; omega
          | cons x y => exact ⟨_, _, rfl⟩
        obtain ⟨vx, ys', rfl, rx⟩ : ∃ v0 ys', ys = v0 :: ys' ∧ Dp K H2 v0 dx := by
          cases rr2 with
          | cons r1 r => exact ⟨_, _, rfl, r1⟩
        have fx : flat dx = true := by
          have z := f0.2
          rw [flat.flats, Bool.and_eq_true] at z
          exact z.1
        have hx : Fd K H2 vx dx := ⟨fx, rx⟩
        have n0 : (n1 == 0) = false := beq_false_of_ne (by omega)
        have hF2 : hasF (.tuple (.str (word p) :: dx :: rs')) = (isInt dx && !isBl dx) := by
          rw [hF, eq, beq_self_eq_true, Bool.true_and, n0, Bool.false_or]
          rfl
        rw [hF2] at q2
        refine ⟨_, rfl, a, _, 1, _, rfl, rfl, ha2, at_of (j := 1) rfl rfl, _, _, _, _, _, rfl, .ty _, hx.ty, kit_int dx fx, _, rfl, ite2 (fun c5 => ?_) (fun c5 => ?_)⟩
        · rw [c5, Bool.true_and] at q2
          exact ⟨_, rfl, a, _, 1, _, rfl, rfl, ha2, at_of (j := 1) rfl rfl, _, _, _, _, _, rfl, .ty _, hx.ty, kit_bl dx fx, _, rfl, q2⟩
        · rw [Bool.eq_false_iff.mpr c5, Bool.false_and] at q2
          exact q2
      · have ne : rs.length ≠ n1 + m1 := fun y => c4 (decide_eq_true (congrArg V.int (by rw [List.length_cons, ylen, y]; omega)))
        rw [hF, beq_false_of_ne ne, Bool.false_and] at q2
        exact q2
    · have hn : nn p = 0 := by
        have hz : nn p ≠ 1 := fun y => z (decide_eq_true y)
        cases p <;> first | rfl | exact absurd rfl hz
      refine ⟨(by show 9 ≤ sizeLine; decide), fun t2 ht2 => ?_⟩
      have s3 : Same H2 (upd H2 t2 (.tup wordsV)) := same_new ht2
      have ha3 := Tp.same (K := K) s3 _ _ ha2
      refine ⟨_, rfl, a, _, 0, _, rfl, rfl, ha3, at_of (j := 0) rfl rfl, _, rfl, t2, _, rfl, .inr (.inl (.inl upd_same)), rfl, rfl, _, rfl, ?_⟩
      show if inV (.str (word p)) wordsV = true then _ else _
      rw [show inV (.str (word p)) wordsV = decide (nn p = 0) from in_words p, decide_eq_true hn]
      refine ⟨_, rfl, a, _, rfl, .inr ha3, _, rfl, _, _, rfl, rfl, rfl, ?_⟩
      have q3 := q _ (s1.trans (s2.trans s3))
      have n0 : (n1 == 0) = true := by
        have : n1 = 0 := by omega
        rw [this]
        rfl
      rw [hF, n0, Bool.true_or, Bool.and_true] at q3
      have eb : decide (V.int (((V.str (word p) :: ys).length : Nat) : Int) = V.int (((parts p).length : Nat) + 1)) = (rs.length == n1 + m1) := by
        rw [List.length_cons, ylen]
        by_cases y : rs.length = n1 + m1
        · rw [y, beq_self_eq_true]
          exact decide_eq_true (congrArg V.int (by omega))
        · rw [beq_false_of_ne y]
          exact decide_eq_false fun x => y (by have := V.int.inj x; omega)
      rw [← eb] at q3
      exact q3
  · obtain ⟨_, b1, b2, b3⟩ := hbad wd hb
    have hF : hasF (.tuple (.str wd :: rs)) = false := by
      show (match nnW wd with | some (n, m) => _ | none => false) = _
      rw [b3]
    rw [b1]
    refine iteF ⟨(by show 9 ≤ sizeLine; decide), fun t2 ht2 => ?_⟩
    have s3 : Same H2 (upd H2 t2 (.tup wordsV)) := same_new ht2
    have ha3 := Tp.same (K := K) s3 _ _ ha2
    refine ⟨_, rfl, a, _, 0, _, rfl, rfl, ha3, at_of (j := 0) rfl rfl, _, rfl, t2, _, rfl, .inr (.inl (.inl upd_same)), rfl, rfl, _, rfl, ?_⟩
    show if inV (.str wd) wordsV = true then _ else _
    rw [b2]
    have q3 := q _ (s1.trans (s2.trans s3))
    rw [hF] at q3
    exact iteF q3
end
end Lm

set_option Elab.async false
set_option linter.all false
set_option maxRecDepth 100000
set_option maxHeartbeats 2000000
namespace Lm
open PySem PySem.Spec PyProof.Rows L2 LmR
def depD : PyData → Nat
  | .tuple xs => 1 + depL xs
  | _ => 1
where depL : List PyData → Nat
  | [] => 0
  | d :: ds => max (depD d) (depL ds)
theorem depD_pos (d : PyData) : 1 ≤ depD d := by cases d <;> simp [depD]
theorem depL_mem : ∀ (ds : List PyData) (d : PyData), d ∈ ds → depD d ≤ depD.depL ds
  | e :: ds, d, h => by
    rw [depD.depL]
    rcases List.mem_cons.mp h with z | z
    · rw [z]; exact Nat.le_max_left _ _
    · exact Nat.le_trans (depL_mem ds d z) (Nat.le_max_right _ _)
theorem dep_partD {d x : PyData} (h : x ∈ partsD d) : depD x < depD d := by
  cases d with
  | tuple xs =>
    have z := depL_mem xs x (List.mem_of_mem_drop h)
    show depD x < 1 + depD.depL xs
    omega
  | _ => cases h
theorem knD_eq {d : PyData} (h : hasF d = true) : knD d = d :: knDs (partsD d) := by
  have z := knDs_cons d []
  rw [if_pos h, List.append_nil] at z
  rw [← z]
  simp [knDs]
theorem knD_ne {d : PyData} (h : ¬ hasF d = true) : knD d = [d] := by
  have z := knDs_cons d []
  rw [if_neg h] at z
  rw [show knD d = knDs [d] by simp [knDs], z]
  rfl
section
variable {P : Program} {w : World} {K : PySem.W.Frag} {mg : Str → Option Value} {base : Heap}
def spLPD (K : PySem.W.Frag) : Sp := fun vs H Q _ => ∃ (v : V) (d : PyData), vs = [v] ∧ Fd K H v d ∧ hasF d = true ∧ ∀ (t : Addr) (us : List V) (H' : Hp), Same H H' → H' t = some (.tup us) → Fds K H' us (partsD d) → Q (.ref t) H'
theorem ok_l_partsD (B : Bt mg) (D : DefAt K mg "_law_parts" s_l_parts ["_law_knot"]) : Cal P w K mg base 1 "_law_parts" ["_law_knot"] (spLPD K) := by
  refine cal_of D sc_l_parts (fun vs H Q E h => ?_) (fun f cdv A outer s H vs Q E hr h => ?_)
  · obtain ⟨v, p, rfl, _⟩ := h
    rfl
  obtain ⟨v, d, rfl, hv, hf, q⟩ := h
  refine ⟨_, (pss_cons (ps_if (pt_cmpR op_in_seq (pe_ix ix_tup (pv 0) pe_int (fun _ _ => rfl)) (pe_tup (pa_cons pe_str (pa_cons pe_str pa_nil))) rfl)
        (pss_one (ps_ret (pe_tup pa_nil)))
        pss_nil)
      (pss_one (ps_ret (pe_slice sl_tup (pv 0) (po_some (pe_op op_add pe_int (pe_callTy call_int1 (by rfl) B.int PyProof.Rows.boot_int (pa_cons (pe_cmpR op_eq (pe_ix ix_tup (pv 0) pe_int (fun _ _ => rfl)) pe_str (nomark _)) pa_nil)))) po_none)))), ?_⟩
  obtain ⟨wd, rs, n, m, rfl, hnm, hlen, hnum⟩ := hasF_open hf
  obtain ⟨a, xs, rfl, qa, r⟩ : ∃ a xs, v = .ref a ∧ SqT K H a xs ∧ DpAll K H xs (.str wd :: rs) := by
    cases hv.2 with
    | tup qa r => exact ⟨_, _, rfl, qa, r⟩
  have hall : Fds K H xs (.str wd :: rs) := ⟨hv.1, r⟩
  obtain ⟨ys, rfl⟩ : ∃ ys, xs = .str wd :: ys := by
    cases r with
    | cons r0 rr => cases r0; exact ⟨_, rfl⟩
  obtain ⟨p, rfl, en, em⟩ := nnW_pg hnm
  have sk : skipD (.str (word p) :: rs) = 1 + nn p := by
    show 1 + ((nnW (word p)).map (·.1)).getD 0 = _
    rw [hnm, en]
    rfl
  have ep : partsD (.tuple (.str (word p) :: rs)) = (PyData.str (word p) :: rs).drop (1 + nn p) := by
    show (PyData.str (word p) :: rs).drop (skipD (.str (word p) :: rs)) = _
    rw [sk]
  rw [ep] at q
  refine ⟨_, rfl, a, _, 0, _, rfl, rfl, qa, at_of (j := 0) rfl rfl, (by show 2 ≤ sizeLine; decide), fun t ht => ?_⟩
  have s2 : Same H (upd H t (.tup [.str "in", .str "num"])) := same_new ht
  have ha2 := Tp.same (K := K) s2 _ _ qa
  refine ⟨t, _, rfl, .inr (.inl (.inl upd_same)), rfl, rfl, _, rfl, ?_⟩
  show if inV (.str (word p)) [.str "in", .str "num"] = true then _ else _
  rw [in_leaf]
  generalize upd H t (.tup [.str "in", .str "num"]) = H2 at s2 ha2
  refine ite2 (fun z => ?_) (fun z => ?_)
  · obtain ⟨h1, hp⟩ := of_decide_eq_true z
    have e0 : (PyData.str (word p) :: rs).drop (1 + nn p) = [] := List.drop_eq_nil_of_le (by
      have : m = 0 := by rw [← em, hp]; rfl
      rw [List.length_cons, hlen, en]
      omega)
    rw [e0] at q
    exact ⟨(by show 0 ≤ sizeLine; decide), fun t2 ht2 => q t2 [] _ (s2.trans (same_new ht2)) upd_same .nil⟩
  · have e1 : (1 : Int) + (if (decide (V.str (word p) = V.str "plus")) = true then (1 : Int) else 0) = ((1 + nn p : Nat) : Int) := by
      have hz : ¬ (nn p = 1 ∧ parts p = []) := fun y => z (decide_eq_true y)
      cases p with
      | inp k => exact absurd ⟨rfl, rfl⟩ hz
      | num k => exact absurd ⟨rfl, rfl⟩ hz
      | tr b => cases b <;> rfl
      | plus c a => rfl
      | bin w a b => cases w <;> rfl
      | neg a => rfl
      | ite p a b => rfl
    have ecut : cutV (V.str (word p) :: ys) (some ((1 : Int) + (if (decide (V.str (word p) = V.str "plus")) = true then (1 : Int) else 0))) none = (V.str (word p) :: ys).drop (1 + nn p) := by
      unfold cutV
      rw [e1, show HT.sIx (V.str (word p) :: ys).length 0 (some ((1 + nn p : Nat) : Int)) = min (1 + nn p) (V.str (word p) :: ys).length from HT.sIx_nat _ 0 _, HT.sIx_none]
      by_cases h : 1 + nn p ≤ (V.str (word p) :: ys).length
      · rw [Nat.min_eq_left h]
        exact List.take_of_length_le (by rw [List.length_drop]; exact Nat.le_refl _)
      · rw [Nat.min_eq_right (by omega), List.drop_eq_nil_of_le (Nat.le_refl _), List.drop_eq_nil_of_le (by omega), List.take_nil]
    refine ⟨_, rfl, _, rfl, a, _, 0, _, rfl, rfl, ha2, at_of (j := 0) rfl rfl, rfl, .inr ⟨_, rfl, _, _, rfl, rfl, _, rfl, a, _, rfl, ha2, ?_, fun t2 ht2 => ?_⟩⟩
    · rintro ⟨y, _⟩
      have y' : HT.sIx (V.str (word p) :: ys).length 0 (some ((1 : Int) + (if (decide (V.str (word p) = V.str "plus")) = true then (1 : Int) else 0))) = 0 := y
      rw [e1, show HT.sIx (V.str (word p) :: ys).length 0 (some ((1 + nn p : Nat) : Int)) = min (1 + nn p) (V.str (word p) :: ys).length from HT.sIx_nat _ 0 _, List.length_cons] at y'
      omega
    · have st : Same H2 (upd H2 t2 (.tup ((V.str (word p) :: ys).drop (1 + nn p)))) := same_new ht2
      show Q (.ref t2) (upd H2 t2 (.tup (cutV (V.str (word p) :: ys) (some ((1 : Int) + (if (decide (V.str (word p) = V.str "plus")) = true then (1 : Int) else 0))) none)))
      rw [ecut]
      exact q t2 _ _ (s2.trans st) upd_same ((hall.drop _).keep (Tp.same (s2.trans st)))
def spLKD (K : PySem.W.Frag) (bad : List Str) (n : Nat) : Sp := fun vs H Q _ => ∃ (v : V) (d : PyData), vs = [v] ∧ Fd K H v d ∧ depD d ≤ n ∧ (knD d).length ≤ 10000 ∧ (∀ x ∈ knD d, wordOk bad x ∧ dsz x ≤ 90000) ∧ ∀ (l : Addr) (us : List V) (H' : Hp), Same H H' → H l = none → H' l = some (.lst us) → Fds K H' us (knD d) → Q (.ref l) H'
theorem knDs_app (ds es : List PyData) : knDs (ds ++ es) = knDs ds ++ knDs es := by simp [knDs]
theorem ok_l_knotsD1 {bad : List Str} {n : Nat} (C_l_has_form : Cal P w K mg base 1 "_law_has_form" ["_law_knot"] (spLHFD K bad)) (C_l_parts : Cal P w K mg base 1 "_law_parts" ["_law_knot"] (spLPD K)) (C_l_knots : Cal P w K mg base (n + 1) "_law_knots" ["_law_program_here"] (spLKD K bad n)) (D : DefAt K mg "_law_knots" s_l_knots ["_law_program_here"]) : Cal P w K mg base (n + 1 + 1) "_law_knots" ["_law_program_here"] (spLKD K bad (n + 1)) := by
  refine cal_of D sc_l_knots (fun vs H Q E h => ?_) (fun f cdv A outer s H vs Q E hr h => ?_)
  · obtain ⟨v, p, rfl, _⟩ := h
    rfl
  obtain ⟨v, d, rfl, hv, hdep, hsz, hwk, q⟩ := h
  have C_l_has_form := C_l_has_form.mono (k := n + 1) (by omega)
  have C_l_parts := C_l_parts.mono (k := n + 1) (by omega)
  have hr' : Room (n + 1) _ := hr
  refine ⟨_, (pss_cons (ps_set (i := 1) sc_l_knots.nd rfl (.inl rfl) (pe_lst (pa_cons (pv 0) pa_nil)))
      (pss_cons (ps_if (pt_val (pe_cal C_l_has_form hr' (by rfl) (pa_cons (pv 0) pa_nil)))
        (pss_one (ps_for PassesOwn.never rfl (pi_tup (pe_cal C_l_parts hr' (by rfl) (pa_cons (pv 0) pa_nil))) (pg_name (i := 2) sc_l_knots.nd rfl (.inl rfl))
        (pss_one (ps_expr (pe_bm PySem.F.plainAttrs_list PySem.F.slot_list_extend PySem.F.type_list_extend mt_extend (pv 1) (pa_cons (pe_cal C_l_knots hr' (by rfl) (pa_cons (pv 2) pa_nil)) pa_nil))))))
        pss_nil)
      (pss_one (ps_ret (pv 1))))), ?_⟩
  refine ⟨_, rfl, (by show 1 ≤ sizeLine; decide), fun l hl => ?_⟩
  have s1 : Same H (upd H l (.lst [v])) := same_new hl
  have l1 : (upd H l (.lst [v])) l = some (.lst [v]) := upd_same
  generalize upd H l (.lst [v]) = H1 at s1 l1
  have hv1 := hv.keep (Tp.same s1)
  have hd0 : wordOk bad d ∧ dsz d ≤ 90000 := hwk d (by
    by_cases c : hasF d = true
    · rw [knD_eq c]; simp
    · rw [knD_ne c]; simp)
  refine ⟨_, rfl, v, d, rfl, hv1, hd0.1, hd0.2, fun H2 s2 => ⟨_, rfl, ite2 (fun c => ?_) (fun c => ?_)⟩⟩
  · have hv2 := hv1.keep (Tp.same s2)
    have ek := knD_eq c
    refine ⟨_, rfl, v, d, rfl, hv2, c, fun t vs H3 s3 ht hvs => ?_⟩
    have s13 := s2.trans s3
    refine ⟨t, rfl, ⟨_, .inl (.inl ht)⟩, for_tup (K := K) (a := t) (xs := vs) (fun i σ' H' => ∃ (us : List V) (y2 : Option V), σ' = [some v, some (.ref l), y2] ∧ Same H H' ∧ H' t = some (.tup vs) ∧ Fds K H' vs (partsD d) ∧ H' l = some (.lst us) ∧ Fds K H' us (d :: knDs ((partsD d).take i))) ?_ ?_ ?_ ?_⟩
    · exact ⟨[v], none, rfl, s1.trans s13, ht, hvs, s13 _ _ l1, .cons (hv.keep (Tp.same (s1.trans s13))) .nil⟩
    · rintro i σ' H' _ ⟨us, y2, rfl, sm, ht', _⟩
      exact .inl (.inl ht')
    · rintro i x σ' H' hx ⟨us, y2, rfl, sm, ht', hvs', hl', hus⟩
      obtain ⟨r, hr1, har⟩ := hvs'.nth hx
      have hmem := List.mem_of_getElem? hr1
      have d1 := dep_partD hmem
      have sub : ∀ y ∈ knD r, y ∈ knD d := fun y hy => by
        rw [ek]
        refine List.mem_cons_of_mem _ ?_
        unfold knDs
        exact List.mem_flatten.mpr ⟨knD r, List.mem_map.mpr ⟨r, hmem, rfl⟩, hy⟩
      have esplit : knDs (partsD d) = knDs ((partsD d).take (i + 1)) ++ knDs ((partsD d).drop (i + 1)) := by
        rw [← knDs_app, List.take_append_drop]
      have e3 : knDs ((partsD d).take (i + 1)) = knDs ((partsD d).take i) ++ knD r := by
        rw [List.take_add_one, hr1, knDs_app]
        simp [knDs]
      have e4 : (knDs ((partsD d).take i)).length + (knD r).length + 1 ≤ 10000 := by
        rw [ek, List.length_cons, esplit, List.length_append, e3, List.length_append] at hsz
        omega
      refine ⟨_, rfl, .inl ⟨rfl, _, SqL.of hl'⟩, _, rfl, x, r, rfl, har, by omega, by omega, fun y hy => hwk y (sub y hy), fun l2 us2 H4 s4 l20 hl2 hus2 => ?_⟩
      have hl4 := s4 _ _ hl'
      have e1 : us.length = 1 + (knDs ((partsD d).take i)).length := by rw [hus.len, List.length_cons]; omega
      have e2 : us2.length = (knD r).length := hus2.len
      refine ⟨l, l2, us, us2, rfl, rfl, hl4, hl2, small (by omega), us ++ us2, _, rfl, fun b o z => ?_, ?_, ?_, upd_same, ?_⟩
      · rw [upd_ne (ne_of_none z hl)]
        exact s4 _ _ (sm b o z)
      · rw [upd_ne (fun z => by rw [z, hl'] at ht'; cases ht')]
        exact s4 _ _ ht'
      · exact (hvs'.keep (Tp.same s4)).keep (Tp.lst hl4)
      · have t5 : Tp K H4 (upd H4 l (.lst (us ++ us2))) := Tp.lst hl4
        have z := ((hus.keep (Tp.same s4)).keep t5).app (hus2.keep t5)
        rw [e3]
        exact z
    · rintro σ' H' ⟨us, y2, rfl, sm, ht', hvs', hl', hus⟩
      rw [hvs.len, List.take_length] at hus
      refine ⟨_, rfl, q l us H' sm hl hl' ?_⟩
      rw [ek]
      exact hus
  · refine ⟨_, rfl, q l [v] H2 (s1.trans s2) hl (s2 _ _ l1) ?_⟩
    rw [knD_ne c]
    exact .cons (hv1.keep (Tp.same s2)) .nil
theorem ok_l_knotsD {bad : List Str} (C_l_has_form : Cal P w K mg base 1 "_law_has_form" ["_law_knot"] (spLHFD K bad)) (C_l_parts : Cal P w K mg base 1 "_law_parts" ["_law_knot"] (spLPD K)) (D : DefAt K mg "_law_knots" s_l_knots ["_law_program_here"]) : ∀ n : Nat, Cal P w K mg base (n + 1) "_law_knots" ["_law_program_here"] (spLKD K bad n)
  | 0 => cal_no D fun vs H Q E h => by
    obtain ⟨v, d, _, _, h1, _⟩ := h
    have := depD_pos d
    omega
  | n + 1 => ok_l_knotsD1 C_l_has_form C_l_parts (ok_l_knotsD C_l_has_form C_l_parts D n) D
end
end Lm

set_option Elab.async false
set_option linter.all false
set_option maxRecDepth 100000
set_option maxHeartbeats 2000000
namespace Lm
open PySem PySem.Spec PyProof.Rows L2 LmR
section
variable {P : Program} {w : World} {K : PySem.W.Frag} {mg : Str → Option Value} {base : Heap}
/-- own of any program whose inputs are there -/
def spLOA (K : PySem.W.Frag) (n : Nat) : Sp := fun vs H Q _ => ∃ (ka : Addr) (ks : List Bool) (v : V) (p : Pg), vs = [.ref ka, v] ∧ SqT K H ka (kVs ks) ∧ At K H v p ∧ (∀ x ∈ kn p, In0 ks.length x) ∧ dep p ≤ n ∧ ∀ H', Same H H' → Q (.str (kS (own ks p))) H'
theorem ok_l_ownA1 {n : Nat} (B : Bt mg) (C_l_own : Cal P w K mg base (n + 1) "_law_own" ["_law_kinds_here", "_law_knot"] (spLOA K n)) (D : DefAt K mg "_law_own" s_l_own ["_law_kinds_here", "_law_knot"]) : Cal P w K mg base (n + 1 + 1) "_law_own" ["_law_kinds_here", "_law_knot"] (spLOA K (n + 1)) := by
  refine cal_of D sc_l_own (fun vs H Q E h => ?_) (fun f cdv A outer s H vs Q E hr h => ?_)
  · obtain ⟨ka, ks, v, p, rfl, _⟩ := h
    rfl
  obtain ⟨ka, ks, v, p, rfl, hk, hv, hw, hdep, q⟩ := h
  have hr' : Room (n + 1) _ := hr
  refine ⟨_, (pss_cons (ps_if (pt_cmpR op_eq (pe_ix ix_tup (pv 1) pe_int (fun _ _ => rfl)) pe_str (nomark _))
        (pss_one (ps_ret (pe_cal C_l_own hr' (by rfl) (pa_cons (pv 0) (pa_cons (pe_ix ix_tup (pv 1) pe_int (fun _ _ => rfl)) pa_nil)))))
        pss_nil)
      (pss_cons (ps_if (pt_cmpR op_eq (pe_ix ix_tup (pv 1) pe_int (fun _ _ => rfl)) pe_str (nomark _))
        (pss_one (ps_ret (pe_ix ix_tup (pv 0) (pe_ix ix_tup (pv 1) pe_int (fun _ _ => rfl)) (fun _ _ => rfl))))
        pss_nil)
      (pss_one (ps_ret (pe_ix ix_list (pe_lst (pa_cons pe_str (pa_cons pe_str pa_nil))) (pe_callTy call_int1 (by rfl) B.int PyProof.Rows.boot_int (pa_cons (pe_cmpR op_in_seq (pe_ix ix_tup (pv 1) pe_int (fun _ _ => rfl)) (pe_tup (pa_cons pe_str (pa_cons pe_str (pa_cons pe_str (pa_cons pe_str pa_nil))))) rfl) pa_nil)) (fun _ _ => rfl)))))), ?_⟩
  obtain ⟨a, vs, rfl, ha, hvs⟩ := hv.open
  refine ⟨_, rfl, a, _, 0, _, rfl, rfl, ha, at_word p vs, rfl, _, rfl, ite2 (fun z => ?_) (fun z => ?_)⟩
  · have z' : V.str (word p) = V.str "if" := of_decide_eq_true z
    obtain ⟨r, x, y, rfl⟩ := word_if z'
    obtain ⟨u1, u2, u3, rfl, a1, a2, a3⟩ := hvs.three
    have d1 := dep_part (.ite r x y) x (by simp [parts])
    exact ⟨_, rfl, _, rfl, a, _, 2, u2, rfl, rfl, ha, rfl, ka, ks, u2, x, rfl, hk, a2, (fun q' hq' => hw q' (by rw [kn_eq]; simp [parts, hq'])), by omega, q⟩
  refine ⟨_, rfl, a, _, 0, _, rfl, rfl, ha, at_word p vs, rfl, _, rfl, ite2 (fun y => ?_) (fun y => ?_)⟩
  · have y' : V.str (word p) = V.str "in" := of_decide_eq_true y
    obtain ⟨k, rfl⟩ := word_in y'
    have hk' : k < ks.length := hw (.inp k) (by simp [kn])
    have ek : (kVs ks)[k]? = some (.str (kS (own ks (.inp k)))) := by
      unfold kVs
      rw [List.getElem?_map, List.getElem?_eq_getElem hk']
      show some (V.str (kS ks[k])) = some (V.str (kS (ks.getD k false)))
      rw [List.getD_eq_getElem?_getD, List.getElem?_eq_getElem hk']
      rfl
    exact ⟨_, rfl, _, rfl, a, _, 1, .int k, rfl, rfl, ha, at_of (j := 1) rfl rfl, ka, _, _, _, rfl, rfl, hk, at_of (j := k) rfl ek, q _ (Same.refl _)⟩
  · have h1 : ∀ k, p ≠ .inp k := fun k e => y (decide_eq_true (by rw [e]; rfl))
    have h2 : ∀ r x u, p ≠ .ite r x u := fun r x u e => z (decide_eq_true (by rw [e]; rfl))
    refine ⟨(by show 2 ≤ sizeLine; decide), fun l hl => ?_⟩
    have s1 : Same H (upd H l (.lst [.str "truth", .str "num"])) := same_new hl
    have ha1 := Tp.same (K := K) s1 _ _ ha
    refine ⟨_, rfl, a, _, 0, _, rfl, rfl, ha1, at_word p vs, (by show 4 ≤ sizeLine; decide), fun t ht => ?_⟩
    have s2 := same_new (o := .tup [.str "num", .str "plus", .str "least", .str "most"]) ht
    refine ⟨t, _, rfl, .inr (.inl (.inl upd_same)), rfl, rfl, .inr ⟨_, rfl, ?_⟩⟩
    have hl2 := s2 _ _ (upd_same (H := H) (a := l) (o := .lst [.str "truth", .str "num"]))
    show (rIxL K) (.ref l) (.int (if inV (.str (word p)) [.str "num", .str "plus", .str "least", .str "most"] = true then 1 else 0)) _ _
    rw [in_num4 p h1 h2 ks]
    have qq := q _ (s1.trans s2)
    revert qq
    cases own ks p with
    | true => intro qq; exact ⟨l, _, 0, .str "truth", rfl, rfl, SqL.of hl2, rfl, qq⟩
    | false => intro qq; exact ⟨l, _, 1, .str "num", rfl, rfl, SqL.of hl2, rfl, qq⟩
theorem ok_l_ownA (B : Bt mg) (D : DefAt K mg "_law_own" s_l_own ["_law_kinds_here", "_law_knot"]) : ∀ n : Nat, Cal P w K mg base (n + 1) "_law_own" ["_law_kinds_here", "_law_knot"] (spLOA K n)
  | 0 => cal_no D fun vs H Q E h => by
    obtain ⟨ka, ks, v, p, _, _, _, _, h1, _⟩ := h
    have := dep_pos p
    omega
  | n + 1 => ok_l_ownA1 B (ok_l_ownA B D n) D
end
end Lm

set_option Elab.async false
set_option linter.all false
set_option maxRecDepth 100000
set_option maxHeartbeats 2000000
namespace Lm
open PySem PySem.Spec PyProof.Rows L2 LmR
theorem fbP_step {f : Pg → Bool} {ds : List Pg} {i : Nat} {d : Pg} (h : ds[i]? = some d) : fbP f (ds.drop i) i = if f d then fbP f (ds.drop (i + 1)) (i + 1) else some i := by
  obtain ⟨hi, e⟩ := List.getElem?_eq_some_iff.mp h
  rw [List.drop_eq_getElem_cons hi, e]
  rfl
theorem kn_part {r s x : Pg} (hs : s ∈ parts r) (hx : x ∈ kn s) : x ∈ kn r := by
  rw [kn_eq]
  exact List.mem_cons_of_mem _ (List.mem_flatMap.mpr ⟨s, hs, hx⟩)
theorem kn_ind (p q : Pg) (h : q ∈ kn p) : q = p ∨ ∃ s ∈ parts p, q ∈ kn s := by
  rw [kn_eq] at h
  rcases List.mem_cons.mp h with e | e
  · exact .inl e
  · obtain ⟨s, hs, hq⟩ := List.mem_flatMap.mp e
    exact .inr ⟨s, hs, hq⟩
theorem kn_transN : ∀ (n : Nat) (p q x : Pg), psz p ≤ n → q ∈ kn p → x ∈ kn q → x ∈ kn p
  | 0, p, _, _, hn, _, _ => by have := psz_pos p; omega
  | n + 1, p, q, x, hn, hq, hx => by
    rcases kn_ind p q hq with e | ⟨s, hs, hq⟩
    · rw [← e]; exact hx
    · have := psz_part p s hs
      exact kn_part hs (kn_transN n s q x (by omega) hq hx)
theorem kn_trans (p q x : Pg) (hq : q ∈ kn p) (hx : x ∈ kn q) : x ∈ kn p := kn_transN _ p q x (Nat.le_refl _) hq hx
theorem kn_depN : ∀ (n : Nat) (p q : Pg), psz p ≤ n → q ∈ kn p → dep q ≤ dep p
  | 0, p, _, hn, _ => by have := psz_pos p; omega
  | n + 1, p, q, hn, hq => by
    rcases kn_ind p q hq with e | ⟨s, hs, hq⟩
    · rw [e]; exact Nat.le_refl _
    · have := psz_part p s hs
      have := dep_part p s hs
      have := kn_depN n s q (by omega) hq
      omega
theorem kn_dep (p q : Pg) (hq : q ∈ kn p) : dep q ≤ dep p := kn_depN _ p q (Nat.le_refl _) hq
theorem dep_depD : ∀ p : Pg, dep p ≤ depD (enc p)
  | .inp _ => depD_pos _
  | .num _ => depD_pos _
  | .tr _ => depD_pos _
  | .plus c a => by have := dep_depD a; simp only [enc, depD, depD.depL, dep]; omega
  | .bin w a b => by have := dep_depD a; have := dep_depD b; simp only [enc, depD, depD.depL, dep]; omega
  | .neg a => by have := dep_depD a; simp only [enc, depD, depD.depL, dep]; omega
  | .ite p a b => by have := dep_depD a; have := dep_depD b; have := dep_depD p; simp only [enc, depD, depD.depL, dep]; omega
theorem partsD_enc (p : Pg) : partsD (enc p) = (parts p).map enc := by
  cases p with
  | tr b => cases b <;> rfl
  | bin w a b => cases w <;> rfl
  | _ => rfl
theorem rep_flat {x : V} : ∀ n : Nat, (List.replicate n [x]).flatten = List.replicate n x
  | 0 => rfl
  | n + 1 => by rw [List.replicate_succ, List.flatten_cons, rep_flat n, List.replicate_succ]; rfl
/-- the kind due to all parts -/
def argK : Pg → Bool
  | .plus _ _ => false
  | .bin w _ _ => w.arg
  | _ => true
theorem in_arg (p : Pg) : inV (.str (word p)) [.str "plus", .str "least", .str "most", .str "atmost"] = !argK p := by
  cases p with
  | tr b => cases b <;> rfl
  | bin w a b => cases w <;> rfl
  | _ => rfl
theorem eqvl0 : PyData.eqv (.list []) (.list []) = true := by decide +kernel
theorem eqvl1 (a b : Bool) : PyData.eqv (.list [kD a]) (.list [kD b]) = (a == b) := by revert a b; decide +kernel
theorem eqvl2 (a b c d : Bool) : PyData.eqv (.list [kD a, kD b]) (.list [kD c, kD d]) = ((a == c) && (b == d)) := by revert a b c d; decide +kernel
theorem eqvl3 (a b c : Bool) : PyData.eqv (.list [kD a, kD b, kD c]) (.list [kD true, kD b, kD b]) = ((a == true) && (c == b)) := by revert a b c; decide +kernel
theorem shl0 : SeqAt.shaped (.list []) = true := by decide +kernel
theorem shl1 (a : Bool) : SeqAt.shaped (.list [kD a]) = true := by revert a; decide +kernel
theorem shl2 (a b : Bool) : SeqAt.shaped (.list [kD a, kD b]) = true := by revert a b; decide +kernel
theorem shl3 (a b c : Bool) : SeqAt.shaped (.list [kD a, kD b, kD c]) = true := by revert a b c; decide +kernel
section
variable {P : Program} {w : World} {K : PySem.W.Frag} {mg : Str → Option Value} {base : Heap}
abbrev s_l_wrong : Stmt := topS 42
theorem sc_l_wrong : FnScope ["_law_kinds_here", "_law_program_here", "_law_found", "_law_at", "_law_knot", "_law_own_here", "_law_due", "_law_part"] ["_law_kinds_here", "_law_program_here"] (defScope s_l_wrong) := ⟨rfl, rfl, rfl, by decide +kernel, rfl, by decide +kernel, by decide +kernel⟩
noncomputable def wrongV (ks : List Bool) (d : PyData) : PyData := match wrongD ks d with
  | none => .none
  | some (x, n) => .tuple [.str x, .int (n : Nat)]
def spWrong (K : PySem.W.Frag) (bad : List Str) (N : Nat) : Sp := fun vs H Q _ => ∃ (ka : Addr) (ks : List Bool) (v : V) (d : PyData), vs = [.ref ka, v] ∧ SqT K H ka (kVs ks) ∧ Fd K H v d ∧ depD d ≤ N ∧ (knD d).length ≤ 10000 ∧ (∀ x ∈ knD d, wordOk bad x ∧ dsz x ≤ 90000) ∧ ∀ u H', Same H H' → Fd K H' u (wrongV ks d) → Q u H'
theorem ok_l_wrong {bad : List Str} {N : Nat} (hN : 1 ≤ N) (B : Bt mg) (C_l_has_form : Cal P w K mg base 1 "_law_has_form" ["_law_knot"] (spLHFD K bad)) (C_l_parts : Cal P w K mg base 1 "_law_parts" ["_law_knot"] (spLPD K)) (C_l_knots : Cal P w K mg base (N + 1) "_law_knots" ["_law_program_here"] (spLKD K bad N)) (C_l_own : Cal P w K mg base (N + 1) "_law_own" ["_law_kinds_here", "_law_knot"] (spLOA K N)) (D : DefAt K mg "_law_wrong" s_l_wrong ["_law_kinds_here", "_law_program_here"]) : Cal P w K mg base (N + 2) "_law_wrong" ["_law_kinds_here", "_law_program_here"] (spWrong K bad N) := by
  refine cal_of D sc_l_wrong (fun vs H Q E h => ?_) (fun f cdv A outer s H vs Q E hr h => ?_)
  · obtain ⟨ka, ks, v, d, rfl, _⟩ := h
    rfl
  obtain ⟨ka, ks, v, d, rfl, hk, hv, hdep, hsz, hwk, q⟩ := h
  have C_l_has_form := C_l_has_form.mono (k := N + 1) (by omega)
  have C_l_parts := C_l_parts.mono (k := N + 1) (by omega)
  have hr' : Room (N + 1) _ := hr
  refine ⟨_, (pss_cons (ps_set (i := 2) sc_l_wrong.nd rfl (.inl rfl) (pe_cal C_l_knots hr' (by rfl) (pa_cons (pv 1) pa_nil)))
      (pss_cons (ps_for PassesOwn.never rfl (pi_enum (by rfl) B.enumerate (pa_cons (pv 2) pa_nil)) (pg_tup rfl (pgs_cons (pg_name (i := 3) sc_l_wrong.nd rfl (.inl rfl)) (pgs_cons (pg_name (i := 4) sc_l_wrong.nd rfl (.inl rfl)) pgs_nil)))
        (pss_one (ps_if (pt_not (pt_val (pe_cal C_l_has_form hr' (by rfl) (pa_cons (pv 4) pa_nil))))
        (pss_one (ps_ret (pe_tup (pa_cons pe_str (pa_cons (pv 3) pa_nil)))))
        pss_nil)))
      (pss_cons (ps_for PassesOwn.never rfl (pi_enum (by rfl) B.enumerate (pa_cons (pv 2) pa_nil)) (pg_tup rfl (pgs_cons (pg_name (i := 3) sc_l_wrong.nd rfl (.inl rfl)) (pgs_cons (pg_name (i := 4) sc_l_wrong.nd rfl (.inl rfl)) pgs_nil)))
        (pss_one (ps_if (PW.pt (pw_and (pt_cmpR op_eq (pe_ix ix_tup (pv 4) pe_int (fun _ _ => rfl)) pe_str (nomark _)) (pw_and1 (PW.pt (pw_or (pt_cmpR op_lt (pe_ix ix_tup (pv 4) pe_int (fun _ _ => rfl)) pe_int (nomark _)) (pw_or1 (pt_cmpR op_ge (pe_ix ix_tup (pv 4) pe_int (fun _ _ => rfl)) (pe_callB call_len_seq (by rfl) B.len PySem.boot_len (pa_cons (pv 0) pa_nil)) (nomark _))))))))
        (pss_one (ps_ret (pe_tup (pa_cons pe_str (pa_cons (pv 3) pa_nil)))))
        pss_nil)))
      (pss_cons (ps_for PassesOwn.never rfl (pi_enum (by rfl) B.enumerate (pa_cons (pv 2) pa_nil)) (pg_tup rfl (pgs_cons (pg_name (i := 3) sc_l_wrong.nd rfl (.inl rfl)) (pgs_cons (pg_name (i := 4) sc_l_wrong.nd rfl (.inl rfl)) pgs_nil)))
        (pss_cons (ps_setLc (i := 5) (own := [("_law_part", 7)]) (g := gName 7) rfl sc_l_wrong.nd rfl rfl (sw_true rfl rfl rfl (by decide +kernel)) (pi_tup (pe_cal C_l_parts hr' (by rfl) (pa_cons (pv 4) pa_nil))) (blkOk_by (own := [("_law_part", 7)]) (N := ["_law_kinds_here", "_law_program_here", "_law_found", "_law_at", "_law_knot", "_law_own_here", "_law_due", "_law_part"]) (sc := defScope s_l_wrong) (by decide +kernel)) (fun _ _ _ _ _ => (pg_name (i := 7) sc_l_wrong.nd rfl (.inl rfl))) (fun _ _ _ _ _ => pts_nil) (fun _ _ _ _ _ => (pe_cal C_l_own hr' (by rfl) (pa_cons (pv 0) (pa_cons (pv 7) pa_nil)))))
      (pss_cons (ps_set (i := 6) sc_l_wrong.nd rfl (.inl rfl) (pe_op op_rep (pe_lst (pa_cons pe_str pa_nil)) (pe_callB call_len_seq (by rfl) B.len PySem.boot_len (pa_cons (pv 5) pa_nil))))
      (C8.pss_cut (ps_if (pt_cmpR op_in_seq (pe_ix ix_tup (pv 4) pe_int (fun _ _ => rfl)) (pe_tup (pa_cons pe_str (pa_cons pe_str (pa_cons pe_str (pa_cons pe_str pa_nil))))) rfl)
        (pss_one (ps_set (i := 6) sc_l_wrong.nd rfl (.inl rfl) (pe_op op_rep (pe_lst (pa_cons pe_str pa_nil)) (pe_callB call_len_seq (by rfl) B.len PySem.boot_len (pa_cons (pv 5) pa_nil)))))
        pss_nil)
      (C8.pss_cut (ps_if (pt_cmpR op_eq (pe_ix ix_tup (pv 4) pe_int (fun _ _ => rfl)) pe_str (nomark _))
        (pss_one (ps_set (i := 6) sc_l_wrong.nd rfl (.inl rfl) (pe_lst (pa_cons pe_str (pa_cons (pe_ix ix_list (pv 5) pe_int (fun _ _ => rfl)) (pa_cons (pe_ix ix_list (pv 5) pe_int (fun _ _ => rfl)) pa_nil))))))
        pss_nil)
      (pss_one (ps_if (pt_cmpR (op_neD hr.units) (pv 5) (pv 6) (nomark _))
        (pss_one (ps_ret (pe_tup (pa_cons pe_str (pa_cons (pv 3) pa_nil)))))
        pss_nil)))))))
      (pss_one (ps_ret pe_non)))))), ?_⟩
  refine ⟨_, rfl, v, d, rfl, hv, hdep, hsz, hwk, fun l us H1 s1 l0 hl hus => ?_⟩
  have hk1 := Tp.same (K := K) s1 _ _ hk
  have klen : (kVs ks).length = ks.length := List.length_map _
  -- forms
  refine ⟨_, rfl, l, us, rfl, SqL.of hl, for_enumL (K := K) (xs := us) (fun i σ H' => (∃ y3 y4 y5 y6 y7 : Option V, σ = [some (V.ref ka), some v, some (.ref l), y3, y4, y5, y6, y7]) ∧ Same H1 H' ∧ firstBad hasF (knD d) 0 = firstBad hasF ((knD d).drop i) i) ?_ ?_ ?_ ?_⟩
  · exact ⟨⟨_, _, _, _, _, rfl⟩, fun _ _ h => h, by rw [List.drop_zero]⟩
  · rintro i σ H' ⟨_, sm, _⟩
    exact SqL.of (sm _ _ hl)
  · rintro i x σ H' T hx ⟨⟨y3, y4, y5, y6, y7, rfl⟩, sm, hbd⟩ hT
    have sm2 := sm.trans (same_new (o := .tup [.int (i : Nat), x]) hT)
    refine ⟨T, _, rfl, .inl (.inl upd_same), rfl, _, _, rfl, _, _, rfl, rfl, ?_⟩
    obtain ⟨dx, hdx, hDx⟩ := hus.nth hx
    rw [firstBad_step hdx] at hbd
    have fx := hDx.keep (Tp.same sm2)
    have hw := hwk dx (List.mem_of_getElem? hdx)
    refine ⟨_, rfl, x, dx, rfl, fx, hw.1, hw.2, fun H3 s3 => ⟨_, rfl, ite2 (fun c => ?_) (fun c => ?_)⟩⟩
    · have nk : hasF dx = false := by simpa using c
      rw [nk] at hbd
      refine ⟨_, rfl, (by show 2 ≤ sizeLine; decide), fun p hp => q _ _ ((s1.trans (sm2.trans s3)).trans (same_new hp)) ?_⟩
      have z : wrongV ks d = .tuple [.str "form", .int ((i : Nat) : Int)] := by
        unfold wrongV
        rw [wrong_form hbd]
      rw [z]
      exact fd_tup upd_same (.cons (.str _) (.cons (.int _) .nil)) rfl
    · have nk : hasF dx = true := by simpa using c
      rw [nk] at hbd
      exact ⟨⟨_, _, _, _, _, rfl⟩, sm2.trans s3, hbd⟩
  · rintro σ H2 ⟨⟨y3, y4, y5, y6, y7, rfl⟩, sm2, hbd⟩
    have n0 : firstBad hasF (knD d) 0 = none := by
      rw [hbd, List.drop_eq_nil_of_le (by rw [hus.len]; exact Nat.le_refl _)]
      rfl
    have hl2 := sm2 _ _ hl
    -- inputs
    refine ⟨_, rfl, l, us, rfl, SqL.of hl2, for_enumL (K := K) (xs := us) (fun i σ H' => (∃ y3 y4 y5 y6 y7 : Option V, σ = [some (V.ref ka), some v, some (.ref l), y3, y4, y5, y6, y7]) ∧ Same H1 H' ∧ firstBad (inOk (ks.length : Nat)) (knD d) 0 = firstBad (inOk (ks.length : Nat)) ((knD d).drop i) i) ?_ ?_ ?_ ?_⟩
    · exact ⟨⟨_, _, _, _, _, rfl⟩, sm2, by rw [List.drop_zero]⟩
    · rintro i σ H' ⟨_, sm, _⟩
      exact SqL.of (sm _ _ hl)
    · rintro i x σ H' T hx ⟨⟨y3, y4, y5, y6, y7, rfl⟩, sm, hbd⟩ hT
      have sm3 := sm.trans (same_new (o := .tup [.int (i : Nat), x]) hT)
      refine ⟨T, _, rfl, .inl (.inl upd_same), rfl, _, _, rfl, _, _, rfl, rfl, ?_⟩
      obtain ⟨dx, hdx, hDx⟩ := hus.nth hx
      rw [firstBad_step hdx] at hbd
      have fx := hDx.keep (Tp.same sm3)
      have hf := firstBad_none n0 dx (List.mem_of_getElem? hdx)
      clear hDx hx
      generalize upd H' T (.tup [.int (i : Nat), x]) = H3 at sm3 fx
      obtain ⟨wd, rs, n, m, rfl, hnm, hlen, hnum⟩ := hasF_open hf
      obtain ⟨a, xs, rfl, qa, r⟩ : ∃ a xs, x = .ref a ∧ SqT K H3 a xs ∧ DpAll K H3 xs (.str wd :: rs) := by
        cases fx.2 with
        | tup qa r => exact ⟨_, _, rfl, qa, r⟩
      obtain ⟨ys, rfl, rr⟩ : ∃ ys, xs = .str wd :: ys ∧ DpAll K H3 ys rs := by
        cases r with
        | cons r0 rr => cases r0; exact ⟨_, rfl, rr⟩
      have hk3 := Tp.same (K := K) sm3 _ _ hk1
      have pass : inOk (ks.length : Nat) (.tuple (.str wd :: rs)) = true → (∃ z3 z4 z5 z6 z7 : Option V, [some (V.ref ka), some v, some (.ref l), some (V.int (i : Nat)), some (V.ref a), y5, y6, y7] = [some (V.ref ka), some v, some (.ref l), z3, z4, z5, z6, z7]) ∧ Same H1 H3 ∧ firstBad (inOk (ks.length : Nat)) (knD d) 0 = firstBad (inOk (ks.length : Nat)) ((knD d).drop (i + 1)) (i + 1) := fun nk => by
        rw [nk] at hbd
        exact ⟨⟨_, _, _, _, _, rfl⟩, sm3, hbd⟩
      have fail : inOk (ks.length : Nat) (.tuple (.str wd :: rs)) = false → [V.str "input", V.int (i : Nat)].length ≤ sizeLine ∧ ∀ p, H3 p = none → Q (.ref p) (upd H3 p (.tup [V.str "input", V.int (i : Nat)])) := fun nk => by
        rw [nk] at hbd
        refine ⟨(by show 2 ≤ sizeLine; decide), fun p hp => q _ _ ((s1.trans sm3).trans (same_new hp)) ?_⟩
        have z : wrongV ks d = .tuple [.str "input", .int ((i : Nat) : Int)] := by
          unfold wrongV
          rw [wrong_input n0 hbd]
        rw [z]
        exact fd_tup upd_same (.cons (.str _) (.cons (.int _) .nil)) rfl
      refine ⟨_, rfl, a, _, 0, _, rfl, rfl, qa, at_of (j := 0) rfl rfl, rfl, _, rfl, ite2 (fun c => ?_) (fun c => ?_)⟩
      · have ew : wd = "in" := V.str.inj (of_decide_eq_true c)
        subst ew
        obtain ⟨k, rs', rfl⟩ := hnum (by rw [nn_in hnm]; decide)
        obtain ⟨ys', rfl⟩ : ∃ ys', ys = .int k :: ys' := by
          cases rr with
          | cons r0 rr => cases r0; exact ⟨_, rfl⟩
        have hio : inOk (ks.length : Nat) (.tuple (.str "in" :: .int k :: rs')) = decide (0 ≤ k ∧ k < (ks.length : Nat)) := by simp [inOk]
        refine ⟨_, rfl, a, _, 1, .int k, rfl, rfl, qa, at_of (j := 1) rfl rfl, _, _, rfl, rfl, _, rfl, ite2 (fun c1 => ?_) (fun c1 => ?_)⟩
        · have k0 : k < 0 := of_decide_eq_true c1
          refine iteY rfl ⟨_, rfl, fail ?_⟩
          rw [hio]
          exact decide_eq_false fun x => by omega
        · have k0 : ¬ k < 0 := fun z => c1 (decide_eq_true z)
          refine ⟨_, rfl, a, _, 1, .int k, rfl, rfl, qa, at_of (j := 1) rfl rfl, _, rfl, ka, _, rfl, .inr hk3, _, _, rfl, rfl, _, rfl, ite2 (fun c2 => ?_) (fun c2 => ?_)⟩
          · have z : k ≥ (((kVs ks).length : Nat) : Int) := of_decide_eq_true c2
            rw [klen] at z
            refine ⟨_, rfl, fail ?_⟩
            rw [hio]
            exact decide_eq_false fun x => by omega
          · have z : ¬ k ≥ (((kVs ks).length : Nat) : Int) := fun y => c2 (decide_eq_true y)
            rw [klen] at z
            refine pass ?_
            rw [hio]
            exact decide_eq_true ⟨by omega, by omega⟩
      · have nw : ¬ wd = "in" := fun z => c (decide_eq_true (by rw [z]))
        refine iteF (pass ?_)
        cases rs with
        | nil => rfl
        | cons a b =>
          cases a with
          | int k => exact if_neg nw
          | _ => rfl
    · rintro σ H4 ⟨⟨y3, y4, y5, y6, y7, rfl⟩, sm4, hbd⟩
      have n1 : firstBad (inOk (ks.length : Nat)) (knD d) 0 = none := by
        rw [hbd, List.drop_eq_nil_of_le (by rw [hus.len]; exact Nat.le_refl _)]
        rfl
      obtain ⟨ed, hin⟩ := is_pg n0 n1
      have wk := wrong_kind n0 n1
      have hats : Ats K H1 us (kn (pgOf d)) := by
        have z := hus.2
        rw [(congrArg knD ed).trans (knD_enc _)] at z
        exact z
      have hdp : dep (pgOf d) ≤ N := by
        have z := dep_depD (pgOf d)
        rw [← ed] at z
        omega
      have hsz' : (kn (pgOf d)).length ≤ 10000 := by
        have z := congrArg List.length ((congrArg knD ed).trans (knD_enc _))
        rw [List.length_map] at z
        omega
      generalize pgOf d = p at hats hin wk hdp hsz'
      -- kinds
      refine ⟨_, rfl, l, us, rfl, SqL.of (sm4 _ _ hl), for_enumL (K := K) (xs := us) (fun i σ H' => (∃ y3 y4 y5 y6 y7 : Option V, σ = [some (V.ref ka), some v, some (.ref l), y3, y4, y5, y6, y7]) ∧ Same H1 H' ∧ fbP (fits ks) (kn p) 0 = fbP (fits ks) ((kn p).drop i) i) ?_ ?_ ?_ ?_⟩
      · exact ⟨⟨_, _, _, _, _, rfl⟩, sm4, by rw [List.drop_zero]⟩
      · rintro i σ H' ⟨_, sm, _⟩
        exact SqL.of (sm _ _ hl)
      · rintro i x σ H' T hx ⟨⟨y3, y4, y5, y6, y7, rfl⟩, sm, hbd⟩ hT
        have sm5 := sm.trans (same_new (o := .tup [.int (i : Nat), x]) hT)
        refine ⟨T, _, rfl, .inl (.inl upd_same), rfl, _, _, rfl, _, _, rfl, rfl, ?_⟩
        obtain ⟨r, hr1, har⟩ := hats.get i x hx
        rw [fbP_step hr1] at hbd
        have hrm := List.mem_of_getElem? hr1
        have ax := har.keep (Tp.same sm5)
        generalize upd H' T (.tup [.int (i : Nat), x]) = H5 at sm5 ax
        have drp := kn_dep p r hrm
        -- own_here
        refine ⟨_, rfl, x, enc r, rfl, ax.fd, hasF_enc r, fun t ps H6 s6 ht hps => ?_⟩
        have hps' : Ats K H6 ps (parts r) := by
          have z := hps.2
          rw [partsD_enc] at z
          exact z
        have sm6 := sm5.trans s6
        refine ⟨t, rfl, ⟨_, .inl (.inl ht)⟩, fun D hD => lc_tup (K := K) (a := t) (xs := ps) (fun j H7 => Same H6 H7 ∧ H7 D = some (.lst (kids ks ((parts r).take j)))) ?_ ?_ ?_ ?_⟩
        · exact ⟨same_new hD, upd_same⟩
        · rintro j H7 _ ⟨s7, _⟩
          exact .inl (.inl (s7 _ _ ht))
        · rintro j y H7 hy ⟨s7, hD7⟩
          obtain ⟨r2, hr2, har2⟩ := (hps'.keep (Tp.same s7)).get j y hy
          have hmem := List.mem_of_getElem? hr2
          have d1 := dep_part r r2 hmem
          refine ⟨rfl, _, rfl, _, rfl, ka, ks, y, r2, rfl, Tp.same (sm6.trans s7) _ _ hk1, har2, fun z hz => hin z (kn_trans p r z hrm (kn_part hmem hz)), by omega, fun H8 s8 => ?_⟩
          refine ⟨_, s8 _ _ hD7, ?_, fun b o z => ?_, ?_⟩
          · unfold kids
            rw [List.length_map, List.length_take]
            have : (parts r).length ≤ 3 := by cases r <;> simp [parts]
            exact smallL (by omega)
          · rw [upd_ne (ne_of_none z hD)]
            exact s8 _ _ (s7 b o z)
          · rw [upd_same, List.take_add_one, hr2]
            unfold kids
            rw [List.map_append]
            rfl
        rintro H7 ⟨s7, hD7⟩
        rw [hps'.len, List.take_length] at hD7
        have sm7 := sm6.trans s7
        have ax7 := ax.keep (Tp.same (s6.trans s7))
        clear hps' hps ht s7 hD sm6 s6
        obtain ⟨a, vs, rfl, ha, hvs⟩ := ax7.open
        have kl : (kids ks (parts r)).length = (parts r).length := List.length_map _
        have pl : (parts r).length ≤ 3 := by cases r <;> simp [parts]
        have rep : ∀ (x : V) (k : Int), k = (((kids ks (parts r)).length : Nat) : Int) → (List.replicate k.toNat [x]).flatten = List.replicate (parts r).length x := fun x k e => by
          rw [e, Int.toNat_natCast, kl, rep_flat]
        refine ⟨(by show 1 ≤ sizeLine; decide), fun q1 hq1 => ?_⟩
        have s8 := same_new (o := .lst [.str "truth"]) hq1
        refine ⟨_, rfl, D, _, rfl, .inl (SqL.of (s8 _ _ hD7)), q1, _, _, rfl, rfl, upd_same, by omega, by omega, ?_, fun e1 he1 => ?_⟩
        · rw [Int.toNat_natCast, kl]
          exact small (by simp; omega)
        rw [rep _ _ rfl]
        have s9 := s8.trans (same_new (o := .lst (List.replicate (parts r).length (.str "truth"))) he1)
        have he9 : (upd (upd H7 q1 (.lst [.str "truth"])) e1 (.lst (List.replicate (parts r).length (.str "truth")))) e1 = some (.lst (List.replicate (parts r).length (.str "truth"))) := upd_same
        generalize upd (upd H7 q1 (.lst [.str "truth"])) e1 (.lst (List.replicate (parts r).length (.str "truth"))) = H9 at s9 he9
        -- which
        refine ⟨fun σ' H' => ∃ dl : Addr, σ' = [some (V.ref ka), some v, some (.ref l), some (.int (i : Nat)), some (.ref a), some (.ref D), some (.ref dl), y7] ∧ Same H7 H' ∧ H' dl = some (.lst (List.replicate (parts r).length (.str (kS (argK r))))), ?_, ?_⟩
        · refine ⟨_, rfl, a, _, 0, _, rfl, rfl, Tp.same s9 _ _ ha, at_word r vs, (by show 4 ≤ sizeLine; decide), fun t ht => ⟨t, _, rfl, .inr (.inl (.inl upd_same)), rfl, rfl, _, rfl, ?_⟩⟩
          have sA := same_new (o := .tup [.str "plus", .str "least", .str "most", .str "atmost"]) ht
          show if inV (.str (word r)) [.str "plus", .str "least", .str "most", .str "atmost"] = true then _ else _
          rw [in_arg]
          refine ite2 (fun z => ?_) (fun z => ?_)
          · have ez : argK r = false := by simpa using z
            generalize upd H9 t (.tup [.str "plus", .str "least", .str "most", .str "atmost"]) = HA at sA
            refine ⟨(by show 1 ≤ sizeLine; decide), fun q2 hq2 => ?_⟩
            have sB := same_new (o := .lst [.str "num"]) hq2
            refine ⟨_, rfl, D, _, rfl, .inl (SqL.of ((s9.trans (sA.trans sB)) _ _ hD7)), q2, _, _, rfl, rfl, upd_same, by omega, by omega, ?_, fun e2 he2 => ?_⟩
            · rw [Int.toNat_natCast, kl]
              exact small (by simp; omega)
            rw [rep _ _ rfl]
            refine ⟨e2, rfl, (s9.trans (sA.trans sB)).trans (same_new he2), ?_⟩
            rw [upd_same, ez]
            rfl
          · have ez : argK r = true := by simpa using z
            refine ⟨e1, rfl, s9.trans sA, ?_⟩
            rw [sA _ _ he9, ez]
            rfl
        rintro _ HA ⟨dl, rfl, sA, hdl⟩
        refine ⟨fun σ' H' => ∃ (dl : Addr) (dv : List V) (ds es : List PyData), σ' = [some (V.ref ka), some v, some (.ref l), some (.int (i : Nat)), some (.ref a), some (.ref D), some (.ref dl), y7] ∧ Same H7 H' ∧ H' dl = some (.lst dv) ∧ DpAll K H' (kids ks (parts r)) ds ∧ DpAll K H' dv es ∧ SeqAt.shaped (.list ds) = true ∧ SeqAt.shaped (.list es) = true ∧ PyData.eqv (.list ds) (.list es) = fits ks r, ?_, ?_⟩
        · refine ⟨_, rfl, a, _, 0, _, rfl, rfl, Tp.same sA _ _ ha, at_word r vs, rfl, _, rfl, ite2 (fun z => ?_) (fun z => ?_)⟩
          · have z' : V.str (word r) = V.str "if" := of_decide_eq_true z
            obtain ⟨r0, r1, r2, rfl⟩ := word_if z'
            refine ⟨_, rfl, D, _, 1, _, rfl, rfl, SqL.of (sA _ _ hD7), rfl, _, rfl, D, _, 1, _, rfl, rfl, SqL.of (sA _ _ hD7), rfl, (by show 3 ≤ sizeLine; decide), fun g hg => ?_⟩
            refine ⟨g, _, [kD (own ks r0), kD (own ks r1), kD (own ks r2)], [kD true, kD (own ks r1), kD (own ks r1)], rfl, sA.trans (same_new hg), upd_same, .cons (.str _) (.cons (.str _) (.cons (.str _) .nil)), .cons (.str _) (.cons (.str _) (.cons (.str _) .nil)), shl3 _ _ _, shl3 _ _ _, ?_⟩
            rw [eqvl3]
            rfl
          · have fin : ∀ ds es : List PyData, DpAll K HA (kids ks (parts r)) ds → DpAll K HA (List.replicate (parts r).length (.str (kS (argK r)))) es → SeqAt.shaped (.list ds) = true → SeqAt.shaped (.list es) = true → PyData.eqv (.list ds) (.list es) = fits ks r → ∃ (dl' : Addr) (dv : List V) (ds es : List PyData), [some (V.ref ka), some v, some (.ref l), some (.int (i : Nat)), some (.ref a), some (.ref D), some (.ref dl), y7] = [some (V.ref ka), some v, some (.ref l), some (.int (i : Nat)), some (.ref a), some (.ref D), some (.ref dl'), y7] ∧ Same H7 HA ∧ HA dl' = some (.lst dv) ∧ DpAll K HA (kids ks (parts r)) ds ∧ DpAll K HA dv es ∧ SeqAt.shaped (.list ds) = true ∧ SeqAt.shaped (.list es) = true ∧ PyData.eqv (.list ds) (.list es) = fits ks r := fun ds es b1 b2 b3 b4 b5 => ⟨dl, _, ds, es, rfl, sA, hdl, b1, b2, b3, b4, b5⟩
            cases r with
            | inp k => exact fin [] [] .nil .nil shl0 shl0 eqvl0
            | num k => exact fin [] [] .nil .nil shl0 shl0 eqvl0
            | tr k => exact fin [] [] .nil .nil shl0 shl0 eqvl0
            | plus c b => exact fin [kD (own ks b)] [kD false] (.cons (.str _) .nil) (.cons (.str _) .nil) (shl1 _) (shl1 _) (eqvl1 _ _)
            | bin bw b c => exact fin [kD (own ks b), kD (own ks c)] [kD bw.arg, kD bw.arg] (.cons (.str _) (.cons (.str _) .nil)) (.cons (.str _) (.cons (.str _) .nil)) (shl2 _ _) (shl2 _ _) (eqvl2 _ _ _ _)
            | neg b => exact fin [kD (own ks b)] [kD true] (.cons (.str _) .nil) (.cons (.str _) .nil) (shl1 _) (shl1 _) (eqvl1 _ _)
            | ite r0 r1 r2 => exact absurd (decide_eq_true rfl) z
        rintro _ HB ⟨dl, dv, ds, es, rfl, sB, hdl, hds, hes, sh1, sh2, he⟩
        refine ⟨_, rfl, _, rfl, .list ds, .list es, .lst (SqL.of (sB _ _ hD7)) hds, .lst (SqL.of hdl) hes, sh1, sh2, _, rfl, ?_⟩
        show if (!PyData.eqv (.list ds) (.list es)) = true then _ else _
        rw [he]
        refine ite2 (fun c => ?_) (fun c => ?_)
        · have nk : fits ks r = false := by simpa using c
          rw [nk] at hbd
          refine ⟨_, rfl, (by show 2 ≤ sizeLine; decide), fun p2 hp2 => q _ _ ((s1.trans (sm7.trans sB)).trans (same_new hp2)) ?_⟩
          have z : wrongV ks d = .tuple [.str "kind", .int ((i : Nat) : Int)] := by
            unfold wrongV
            rw [wk, hbd]
            rfl
          rw [z]
          exact fd_tup upd_same (.cons (.str _) (.cons (.int _) .nil)) rfl
        · have nk : fits ks r = true := by simpa using c
          rw [nk] at hbd
          exact ⟨⟨_, _, _, _, _, rfl⟩, sm7.trans sB, hbd⟩
      · rintro σ H5 ⟨⟨y3, y4, y5, y6, y7, rfl⟩, sm5, hbd⟩
        have n2 : fbP (fits ks) (kn p) 0 = none := by
          rw [hbd, List.drop_eq_nil_of_le (by rw [hats.len]; exact Nat.le_refl _)]
          rfl
        have z : wrongV ks d = .none := by
          unfold wrongV
          rw [wk, n2]
          rfl
        refine q _ _ (s1.trans sm5) ?_
        rw [z]
        exact ⟨rfl, .non⟩
end
end Lm

set_option Elab.async false
set_option linter.all false
set_option maxRecDepth 100000
set_option maxHeartbeats 2000000
namespace Lm
open PySem PySem.Spec PyProof.Rows L2 LmR
/-! ### data all of whose words are known -/
def okD (bad : List Str) : PyData → Prop
  | .tuple xs => wordOk bad (.tuple xs) ∧ okL xs
  | _ => True
where okL : List PyData → Prop
  | [] => True
  | d :: ds => okD bad d ∧ okL ds
theorem okL_mem {bad : List Str} : ∀ {ds : List PyData}, okD.okL bad ds → ∀ d ∈ ds, okD bad d
  | e :: ds, h, d, hd => by
    rw [okD.okL] at h
    rcases List.mem_cons.mp hd with z | z
    · rw [z]; exact h.1
    · exact okL_mem h.2 d z
theorem okL_of {bad : List Str} : ∀ {ds : List PyData}, (∀ d ∈ ds, okD bad d) → okD.okL bad ds
  | [], _ => by rw [okD.okL]; trivial
  | d :: ds, h => by rw [okD.okL]; exact ⟨h d List.mem_cons_self, okL_of fun x hx => h x (List.mem_cons_of_mem _ hx)⟩
theorem okD_word {bad : List Str} {d : PyData} (h : okD bad d) : wordOk bad d := by
  cases d with
  | tuple xs => rw [okD] at h; exact h.1
  | _ => trivial
theorem okD_list {bad : List Str} {xs : List PyData} (h : okD bad (.tuple xs)) : ∀ x ∈ xs, okD bad x := by
  rw [okD] at h
  exact okL_mem h.2
theorem okD_part {bad : List Str} {d x : PyData} (h : okD bad d) (hx : x ∈ partsD d) : okD bad x := by
  cases d with
  | tuple xs => exact okD_list h x (List.mem_of_mem_drop hx)
  | _ => cases hx
theorem dszs_drop' : ∀ (n : Nat) (ds : List PyData), dsz.dszs (ds.drop n) ≤ dsz.dszs ds
  | 0, _ => Nat.le_refl _
  | n + 1, [] => Nat.le_refl _
  | n + 1, d :: ds => by
    have := dszs_drop' n ds
    simp only [List.drop_succ_cons, dsz.dszs]
    omega
theorem dsz_parts {d : PyData} (h : hasF d = true) : dsz.dszs (partsD d) + 1 ≤ dsz d := by
  obtain ⟨w, rs, n, m, rfl, _⟩ := hasF_open h
  have z := dszs_drop' (skipD (.str w :: rs)) (.str w :: rs)
  show dsz.dszs ((PyData.str w :: rs).drop (skipD (.str w :: rs))) + 1 ≤ 1 + dsz.dszs (.str w :: rs)
  omega
theorem knDs_mem {ds : List PyData} {x : PyData} (h : x ∈ knDs ds) : ∃ y ∈ ds, x ∈ knD y := by
  unfold knDs at h
  obtain ⟨l, hl, hx⟩ := List.mem_flatten.mp h
  obtain ⟨y, hy, rfl⟩ := List.mem_map.mp hl
  exact ⟨y, hy, hx⟩
theorem knDs_le : ∀ ds : List PyData, (∀ y ∈ ds, (knD y).length ≤ dsz y) → (knDs ds).length ≤ dsz.dszs ds
  | [], _ => by simp [knDs]
  | d :: ds, h => by
    have h1 := h d List.mem_cons_self
    have h2 := knDs_le ds fun y hy => h y (List.mem_cons_of_mem _ hy)
    have e : knDs (d :: ds) = knD d ++ knDs ds := by simp [knDs]
    rw [e, List.length_append, dsz.dszs]
    omega
theorem knD_all {bad : List Str} : ∀ (n : Nat) (d : PyData), dsz d ≤ n → okD bad d → (∀ x ∈ knD d, okD bad x ∧ dsz x ≤ dsz d) ∧ (knD d).length ≤ dsz d
  | 0, d, hn, _ => by have := dsz_pos d; omega
  | n + 1, d, hn, ok => by
    by_cases c : hasF d = true
    · have z := dsz_parts c
      have ih : ∀ y ∈ partsD d, (∀ x ∈ knD y, okD bad x ∧ dsz x ≤ dsz y) ∧ (knD y).length ≤ dsz y := fun y hy => knD_all n y (by have := dsz_mem _ _ hy; omega) (okD_part ok hy)
      rw [knD_eq c]
      refine ⟨fun x hx => ?_, ?_⟩
      · rcases List.mem_cons.mp hx with e | e
        · rw [e]; exact ⟨ok, Nat.le_refl _⟩
        · obtain ⟨y, hy, hx⟩ := knDs_mem e
          have a := (ih y hy).1 x hx
          have b := dsz_mem _ _ hy
          exact ⟨a.1, by omega⟩
      · have a := knDs_le (partsD d) fun y hy => (ih y hy).2
        rw [List.length_cons]
        omega
    · rw [knD_ne c]
      refine ⟨fun x hx => ?_, dsz_pos d⟩
      rw [List.mem_singleton.mp hx]
      exact ⟨ok, Nat.le_refl _⟩
theorem kn_good {bad : List Str} {d : PyData} (ok : okD bad d) (hz : dsz d ≤ 10000) : (knD d).length ≤ 10000 ∧ ∀ x ∈ knD d, wordOk bad x ∧ dsz x ≤ 90000 := by
  have z := knD_all _ d (Nat.le_refl _) ok
  exact ⟨by omega, fun x hx => ⟨okD_word (z.1 x hx).1, by have := (z.1 x hx).2; omega⟩⟩
theorem okD_enc {bad : List Str} : ∀ p : Pg, okD bad (enc p)
  | .inp k => by simp only [enc, okD, okD.okL, wordOk]; exact ⟨.inl rfl, trivial, trivial, trivial⟩
  | .num k => by simp only [enc, okD, okD.okL, wordOk]; exact ⟨.inl rfl, trivial, trivial, trivial⟩
  | .tr b => by
    simp only [enc, okD, okD.okL, wordOk]
    refine ⟨.inl ?_, trivial, trivial⟩
    cases b <;> rfl
  | .plus c a => by
    have := okD_enc (bad := bad) a
    simp only [enc, okD, okD.okL, wordOk]
    exact ⟨.inl rfl, trivial, trivial, this, trivial⟩
  | .bin w a b => by
    have h1 := okD_enc (bad := bad) a
    have h2 := okD_enc (bad := bad) b
    simp only [enc, okD, okD.okL, wordOk]
    refine ⟨.inl ?_, trivial, h1, h2, trivial⟩
    cases w <;> rfl
  | .neg a => by
    have := okD_enc (bad := bad) a
    simp only [enc, okD, okD.okL, wordOk]
    exact ⟨.inl rfl, trivial, this, trivial⟩
  | .ite p a b => by
    have h1 := okD_enc (bad := bad) a
    have h2 := okD_enc (bad := bad) b
    have h3 := okD_enc (bad := bad) p
    simp only [enc, okD, okD.okL, wordOk]
    exact ⟨.inl rfl, trivial, h3, h1, h2, trivial⟩
theorem depD_enc : ∀ p : Pg, depD (enc p) ≤ dep p + 1
  | .inp _ => by simp [enc, depD, depD.depL, dep]
  | .num _ => by simp [enc, depD, depD.depL, dep]
  | .tr _ => by simp [enc, depD, depD.depL, dep]
  | .plus c a => by have := depD_enc a; simp only [enc, depD, depD.depL, dep]; omega
  | .bin w a b => by have := depD_enc a; have := depD_enc b; simp only [enc, depD, depD.depL, dep]; omega
  | .neg a => by have := depD_enc a; simp only [enc, depD, depD.depL, dep]; omega
  | .ite p a b => by have := depD_enc a; have := depD_enc b; have := depD_enc p; simp only [enc, depD, depD.depL, dep]; omega
theorem depL_app : ∀ ds es : List PyData, depD.depL (ds ++ es) = max (depD.depL ds) (depD.depL es)
  | [], es => by simp [depD.depL]
  | d :: ds, es => by
    show max (depD d) (depD.depL (ds ++ es)) = max (max (depD d) (depD.depL ds)) (depD.depL es)
    rw [depL_app ds es]
    omega
/-! ### slices and sums of tuples, whichever object they are -/
section
variable {P : Program} {w : World} {K : PySem.W.Frag} {mg : Str → Option Value} {base : Heap}
theorem cutV_all {xs : List V} {lo hi : Option Int} (h : HT.sIx xs.length 0 lo = 0 ∧ HT.sIx xs.length xs.length hi = xs.length) : cutV xs lo hi = xs := by
  unfold cutV
  rw [h.1, h.2, List.drop_zero, Nat.sub_zero, List.take_length]
theorem slA_any {a : Addr} {xs : List V} {lo hi : Option Int} {H : Hp} {Q : VK} (ha : SqT K H a xs) (q : ∀ p H', Same H H' → SqT K H' p (cutV xs lo hi) → Q (.ref p) H') : rSlA K (.ref a) lo hi H Q :=
  ⟨a, xs, rfl, ha, fun h => q a H (fun _ _ z => z) (by rw [cutV_all h]; exact ha), fun _ p hp => q p _ (same_new hp) (.inl (.inl upd_same))⟩
theorem catA_any {a b : Addr} {xs ys : List V} {H : Hp} {Q : VK} (ha : SqT K H a xs) (hb : SqT K H b ys) (hz : xs.length + ys.length ≤ sizeLine) (q : ∀ p H', Same H H' → SqT K H' p (xs ++ ys) → Q (.ref p) H') : rCatA K (.ref a) (.ref b) H Q :=
  ⟨a, b, xs, ys, rfl, rfl, ha, hb, hz, fun e => q b H (fun _ _ z => z) (by rw [e]; exact hb), fun _ e => q a H (fun _ _ z => z) (by rw [e, List.append_nil]; exact ha), fun _ _ p hp => q p _ (same_new hp) (.inl (.inl upd_same))⟩
theorem dpall_take {H : Hp} : ∀ (n : Nat) {xs : List V} {ds : List PyData}, DpAll K H xs ds → DpAll K H (xs.take n) (ds.take n)
  | 0, _, _, _ => .nil
  | n + 1, [], [], .nil => .nil
  | n + 1, _ :: _, _ :: _, .cons a r => .cons a (dpall_take n r)
theorem flats_take : ∀ (n : Nat) (ds : List PyData), flat.flats ds = true → flat.flats (ds.take n) = true
  | 0, _, _ => rfl
  | n + 1, [], _ => rfl
  | n + 1, d :: ds, h => by
    rw [flat.flats, Bool.and_eq_true] at h
    rw [List.take_succ_cons, flat.flats, h.1, flats_take n ds h.2]
    rfl
theorem cut_take (n : Nat) (xs : List V) (h : n ≤ xs.length) : cutV xs none (some (n : Int)) = xs.take n := by
  unfold cutV
  rw [HT.sIx_none, show HT.sIx xs.length xs.length (some (n : Int)) = min n xs.length from HT.sIx_nat _ _ n, List.drop_zero, Nat.sub_zero]
  congr 1
  omega
/-! ### replaced -/
def cr (dn : PyData) (c : Int) : Nat := if 0 ≤ c then dsz dn else 0
abbrev s_l_replaced : Stmt := topS 43
theorem sc_l_replaced : FnScope ["_law_program_here", "_law_left", "_law_new", "_law_parts_here", "_law_head", "_law_part"] ["_law_program_here", "_law_left", "_law_new"] (defScope s_l_replaced) := ⟨rfl, rfl, rfl, by decide +kernel, rfl, by decide +kernel, by decide +kernel⟩
def spRepl (K : PySem.W.Frag) (bad : List Str) (n : Nat) : Sp := fun vs H Q _ => ∃ (v : V) (d : PyData) (lf : Addr) (c : Int) (nv : V) (dn : PyData), vs = [v, .ref lf, nv] ∧ Fd K H v d ∧ okD bad d ∧ dsz d ≤ 10000 ∧ depD d ≤ n ∧ H lf = some (.lst [.int c]) ∧ Fd K H nv dn ∧ okD bad dn ∧
  ∀ (u : V) (d' : PyData) (c' : Int) (H' : Hp), Ex [lf] H H' → H' lf = some (.lst [.int c']) → Fd K H' u d' → okD bad d' → depD d' ≤ depD d + depD dn → dsz d' + cr dn c' ≤ dsz d + cr dn c → Q u H'
theorem ok_l_replaced1 {bad : List Str} {n : Nat} (B : Bt mg) (C_l_has_form : Cal P w K mg base 1 "_law_has_form" ["_law_knot"] (spLHFD K bad)) (C_l_parts : Cal P w K mg base 1 "_law_parts" ["_law_knot"] (spLPD K)) (C_l_replaced : Cal P w K mg base (n + 1) "_law_replaced" ["_law_program_here", "_law_left", "_law_new"] (spRepl K bad n)) (D : DefAt K mg "_law_replaced" s_l_replaced ["_law_program_here", "_law_left", "_law_new"]) : Cal P w K mg base (n + 1 + 1) "_law_replaced" ["_law_program_here", "_law_left", "_law_new"] (spRepl K bad (n + 1)) := by
  refine cal_of D sc_l_replaced (fun vs H Q E h => ?_) (fun f cdv A outer s H vs Q E hr h => ?_)
  · obtain ⟨v, d, lf, c, nv, dn, rfl, _⟩ := h
    rfl
  obtain ⟨v, d, lf, c, nv, dn, rfl, hv, okd, hz, hdep, hlf, hnv, okn, q⟩ := h
  have C_l_has_form := C_l_has_form.mono (k := n + 1) (by omega)
  have C_l_parts := C_l_parts.mono (k := n + 1) (by omega)
  have hr' : Room (n + 1) _ := hr
  refine ⟨_, (pss_cons (ps_asg (pe_op op_sub (pe_ix ix_list (pv 1) pe_int (fun _ _ => rfl)) pe_int) (pg_sub (pv 1) pe_int set_list))
      (pss_cons (ps_if (pt_cmpR op_eq (pe_ix ix_list (pv 1) pe_int (fun _ _ => rfl)) (pe_op op_sub pe_int pe_int) (nomark _))
        (pss_one (ps_ret (pv 2)))
        pss_nil)
      (pss_cons (ps_if (pt_not (pt_val (pe_cal C_l_has_form hr' (by rfl) (pa_cons (pv 0) pa_nil))))
        (pss_one (ps_ret (pv 0)))
        pss_nil)
      (pss_cons (ps_set (i := 3) sc_l_replaced.nd rfl (.inl rfl) (pe_cal C_l_parts hr' (by rfl) (pa_cons (pv 0) pa_nil)))
      (pss_cons (ps_set (i := 4) sc_l_replaced.nd rfl (.inl rfl) (pe_slice sl_tupA (pv 0) po_none (po_some (pe_op op_sub (pe_callB call_len_seq (by rfl) B.len PySem.boot_len (pa_cons (pv 0) pa_nil)) (pe_callB call_len_seq (by rfl) B.len PySem.boot_len (pa_cons (pv 3) pa_nil))))))
      (pss_one (ps_ret (pe_op op_catA (pv 4) (pe_callTy call_tuple_of (by rfl) B.tuple PyProof.Rows.boot_tuple (pa_cons (pe_lc (own := [("_law_part", 5)]) (g := gName 5) rfl sc_l_replaced.nd (pi_tup (pv 3)) (blkOk_by (own := [("_law_part", 5)]) (N := ["_law_program_here", "_law_left", "_law_new", "_law_parts_here", "_law_head", "_law_part"]) (sc := defScope s_l_replaced) (by decide +kernel)) (fun _ _ _ _ _ => (pg_name (i := 5) sc_l_replaced.nd rfl (.inl rfl))) (fun _ _ _ _ _ => pts_nil) (fun _ _ _ _ _ => (pe_cal C_l_replaced hr' (by rfl) (pa_cons (pv 5) (pa_cons (pv 1) (pa_cons (pv 2) pa_nil)))))) pa_nil)))))))))), ?_⟩
  have L : SqL K H lf [.int c] := SqL.of hlf
  refine ⟨_, rfl, lf, _, 0, .int c, rfl, rfl, L, rfl, _, _, rfl, rfl, ?_⟩
  refine ⟨_, rfl, lf, _, 0, 0, rfl, rfl, hlf, rfl, ?_⟩
  have e1 : upd H lf (.lst (List.set [.int c] 0 (.int (c - 1)))) lf = some (.lst [.int (c - 1)]) := upd_same
  have ex1 : Ex [lf] H (upd H lf (.lst (List.set [.int c] 0 (.int (c - 1))))) := Ex.at (List.mem_singleton.mpr rfl)
  have tp1 : Tp K H (upd H lf (.lst (List.set [.int c] 0 (.int (c - 1))))) := Tp.lst hlf
  generalize upd H lf (.lst (List.set [.int c] 0 (.int (c - 1)))) = H1 at e1 ex1 tp1
  refine ⟨_, rfl, lf, _, 0, .int (c - 1), rfl, rfl, SqL.of e1, rfl, _, _, rfl, rfl, rfl, _, rfl, ite2 (fun z => ?_) (fun z => ?_)⟩
  · have z' : c - 1 = 0 - 1 := V.int.inj (of_decide_eq_true z)
    have c0 : c = 0 := by omega
    subst c0
    refine ⟨_, rfl, q nv dn _ H1 ex1 e1 (hnv.keep tp1) okn (by omega) ?_⟩
    unfold cr
    rw [if_neg (by decide), if_pos (by decide)]
    omega
  have nz : c ≠ 0 := fun e => z (by rw [e]; rfl)
  have cr1 : cr dn (c - 1) = cr dn c := by
    unfold cr
    by_cases h : 0 ≤ c
    · rw [if_pos h, if_pos (by omega)]
    · rw [if_neg h, if_neg (by omega)]
  refine ⟨_, rfl, v, d, rfl, hv.keep tp1, okD_word okd, by omega, fun H2 s2 => ⟨_, rfl, ite2 (fun y => ?_) (fun y => ?_)⟩⟩
  · have ex2 : Ex [lf] H H2 := ex1.trans (Ex.of_same s2)
    exact ⟨_, rfl, q v d _ H2 ex2 (s2 _ _ e1) (hv.keep (tp1.trans (Tp.same s2))) okd (by omega) (by omega)⟩
  have hf : hasF d = true := by simpa using y
  have tp2 := tp1.trans (Tp.same (K := K) s2)
  refine ⟨_, rfl, v, d, rfl, hv.keep tp2, hf, fun t us H3 s3 ht hus => ?_⟩
  have tp3 := tp2.trans (Tp.same (K := K) s3)
  have ex3 : Ex [lf] H H3 := (ex1.trans (Ex.of_same s2)).trans (Ex.of_same s3)
  have e3 := s3 _ _ (s2 _ _ e1)
  have hv3 := hv.keep tp3
  have hnv3 := hnv.keep tp3
  clear hv hnv tp1 tp2 ex1 e1 s2 s3
  obtain ⟨wd, rs, nn0, mm, rfl, hnm, hlen, hnum⟩ := hasF_open hf
  obtain ⟨a, xs, rfl, qa, r⟩ : ∃ a xs, v = .ref a ∧ SqT K H3 a xs ∧ DpAll K H3 xs (.str wd :: rs) := by
    cases hv3.2 with
    | tup qa r => exact ⟨_, _, rfl, qa, r⟩
  have xl : xs.length = rs.length + 1 := by rw [dpall_len r]; rfl
  have sk : skipD (.str wd :: rs) = 1 + nn0 := by
    show 1 + ((nnW wd).map (·.1)).getD 0 = _
    rw [hnm]
    rfl
  have ep : partsD (.tuple (.str wd :: rs)) = (PyData.str wd :: rs).drop (1 + nn0) := by
    show (PyData.str wd :: rs).drop (skipD (.str wd :: rs)) = _
    rw [sk]
  have ul : us.length = mm := by
    rw [hus.len, ep, List.length_drop, List.length_cons]
    omega
  have e1 : (((xs.length : Nat) : Int)) - ((us.length : Nat) : Int) = ((1 + nn0 : Nat) : Int) := by omega
  refine ⟨_, rfl, _, rfl, a, _, rfl, .inr qa, _, rfl, t, us, rfl, .inr (.inl (.inl ht)), _, _, rfl, rfl, _, rfl, ?_⟩
  show rSlA K (.ref a) none (some ((((xs.length : Nat) : Int)) - ((us.length : Nat) : Int))) H3 _
  rw [e1]
  refine slA_any qa fun hd H4 s4 q4 => ?_
  rw [cut_take _ _ (by omega)] at q4
  have dt := dpall_take (1 + nn0) r
  have ft : flat.flats ((PyData.str wd :: rs).take (1 + nn0)) = true := flats_take _ _ hv3.1
  have ht4 := s4 _ _ ht
  have e4 := s4 _ _ e3
  have fus : Fds K H4 us (partsD (.tuple (.str wd :: rs))) := hus.keep (Tp.same s4)
  have tpd : ∀ {Hx Hy : Hp}, Hx lf = some (.lst [.int c]) ∨ (∃ x, Hx lf = some (.lst x)) → Ex [lf] Hx Hy → Tp K Hx Hy := fun {Hx Hy} h ex => ex.tp fun b hb ys z => by
    obtain ⟨x, hx⟩ : ∃ x, Hx lf = some (.lst x) := by
      rcases h with h | h
      · exact ⟨_, h⟩
      · exact h
    rw [List.mem_singleton.mp hb] at z
    rcases z with z | ⟨o, z⟩
    · rw [hx] at z; cases z
    · rw [hx] at z; cases z
  refine ⟨_, rfl, _, rfl, t, rfl, ⟨_, .inl (.inl ht4)⟩, fun D hD => lc_tup (K := K) (a := t) (xs := us) (fun i H' => Ex [lf] H4 H' ∧ ∃ (ci : Int) (ws : List V) (es : List PyData), H' lf = some (.lst [.int ci]) ∧ H' D = some (.lst ws) ∧ Fds K H' ws es ∧ es.length = i ∧ okD.okL bad es ∧ depD.depL es ≤ depD.depL rs + depD dn ∧ dsz.dszs es + cr dn ci ≤ dsz.dszs ((partsD (.tuple (.str wd :: rs))).take i) + cr dn c) ?_ ?_ ?_ ?_⟩
  · have nl : lf ≠ D := ne_of_none e4 hD
    refine ⟨Ex.new hD, _, [], [], by rw [upd_ne nl]; exact e4, upd_same, Fds.nil, rfl, by rw [okD.okL]; trivial, by simp [depD.depL], ?_⟩
    rw [cr1]
    simp [dsz.dszs]
  · rintro i H' _ ⟨ex, _⟩
    have ntl : t ≠ lf := fun z => by rw [z, e4] at ht4; cases ht4
    exact .inl (.inl (ex _ _ ht4 (by simp [ntl])))
  · rintro i x H' hx ⟨ex, ci, ws, es, hlf', hD', hws, hel, okl, dpl, dsl⟩
    have tpi : Tp K H4 H' := tpd (.inr ⟨_, e4⟩) ex
    obtain ⟨dx, hdx, hfx⟩ := (fus.keep tpi).nth hx
    have hmem := List.mem_of_getElem? hdx
    have dxd := dep_partD hmem
    have dxz := dsz_mem _ _ hmem
    have dpz := dsz_parts hf
    have hi : i < us.length := (List.getElem?_eq_some_iff.mp hx).1
    have dxr : depD dx ≤ depD.depL rs := by
      rw [ep, show (PyData.str wd :: rs).drop (1 + nn0) = rs.drop nn0 by rw [Nat.add_comm]; rfl] at hmem
      exact depL_mem rs dx (List.mem_of_mem_drop hmem)
    refine ⟨rfl, _, rfl, _, rfl, _, rfl, x, dx, lf, ci, nv, dn, rfl, hfx, okD_part okd hmem, by omega, by omega, hlf', hnv3.keep ((Tp.same s4).trans tpi), okn, fun u d' c' H5 ex5 hlf5 hu okd' dpd' dsd' => ?_⟩
    have nDl : D ≠ lf := (ne_of_none e4 hD).symm
    have hD5 := ex5 _ _ hD' (by simp [nDl])
    have tp5 : Tp K H' H5 := tpd (.inr ⟨_, hlf'⟩) ex5
    have t6 : Tp K H5 (upd H5 D (.lst (ws ++ [u]))) := Tp.lst hD5
    have mm3 : mm ≤ 3 := by
      obtain ⟨pp, _, _, em⟩ := nnW_pg hnm
      have : (parts pp).length ≤ 3 := by cases pp <;> simp [parts]
      omega
    have wl : ws.length ≤ 3 := by
      rw [hws.len]
      omega
    refine ⟨ws, hD5, smallL (by omega), fun b o z nb => ?_, c', ws ++ [u], es ++ [d'], by rw [upd_ne nDl.symm]; exact hlf5, upd_same, ((hws.keep tp5).keep t6).app (.cons (hu.keep t6) .nil), by rw [List.length_append, hel]; rfl, ?_, ?_, ?_⟩
    · have nbD : b ≠ D := ne_of_none z hD
      rw [upd_ne nbD]
      exact ex5 b o (ex b o z nb) nb
    · refine okL_of fun y hy => ?_
      rcases List.mem_append.mp hy with z | z
      · exact okL_mem okl y z
      · rw [List.mem_singleton.mp z]; exact okd'
    · rw [depL_app]
      simp only [depD.depL]
      omega
    · rw [dszs_app, List.take_add_one, hdx]
      show _ ≤ dsz.dszs (_ ++ [dx]) + _
      rw [dszs_app]
      simp only [dsz.dszs]
      omega
  · rintro H5 ⟨ex, ci, ws, es, hlf5, hD5, hws, hel, okl, dpl, dsl⟩
    have tp5 : Tp K H4 H5 := tpd (.inr ⟨_, e4⟩) ex
    refine ⟨D, ws, rfl, .inl ⟨SqL.of hD5, fun t2 ht2 => ?_⟩⟩
    have s6 : Same H5 (upd H5 t2 (.tup ws)) := same_new ht2
    have wl : ws.length = mm := by rw [hws.len, hel, ul]
    have mm3 : mm ≤ 3 := by
      obtain ⟨pp, _, _, em⟩ := nnW_pg hnm
      have : (parts pp).length ≤ 3 := by cases pp <;> simp [parts]
      omega
    have nn3 : nn0 ≤ 1 := by
      obtain ⟨pp, _, em, _⟩ := nnW_pg hnm
      have : nn pp ≤ 1 := by cases pp <;> simp [nn]
      omega
    refine catA_any (ys := ws) ((tp5.trans (Tp.same s6)) _ _ q4) (.inl (.inl upd_same)) (by rw [List.length_take]; exact small (by omega)) fun pp H7 s7 q7 => ?_
    have tpa : Tp K H3 H7 := ((Tp.same s4).trans tp5).trans (Tp.same (s6.trans s7))
    have tpb : Tp K H5 H7 := Tp.same (s6.trans s7)
    have fw := hws.keep tpb
    have etk : (PyData.str wd :: rs).take (1 + nn0) = .str wd :: rs.take nn0 := by rw [Nat.add_comm]; rfl
    have edr : (PyData.str wd :: rs).drop (1 + nn0) = rs.drop nn0 := by rw [Nat.add_comm]; rfl
    have okrs : ∀ x ∈ rs, okD bad x := fun x hx => okD_list okd x (List.mem_cons_of_mem _ hx)
    have zsum : dsz.dszs rs = dsz.dszs (rs.take nn0) + dsz.dszs (rs.drop nn0) := by rw [← dszs_app, List.take_append_drop]
    have dsum : depD.depL rs = max (depD.depL (rs.take nn0)) (depD.depL (rs.drop nn0)) := by rw [← depL_app, List.take_append_drop]
    refine q (.ref pp) (.tuple ((.str wd :: rs.take nn0) ++ es)) ci H7 (fun b o z nb => ?_) ((s6.trans s7) _ _ hlf5) ⟨?_, .tup q7 (dpall_app (by rw [← etk]; exact dps_keep tpa _ _ ft dt) fw.2)⟩ ?_ ?_ ?_
    · exact (s6.trans s7) _ _ (ex b o (s4 _ _ (ex3 b o z nb)) nb)
    · rw [etk] at ft
      exact flats_app _ _ ft fw.1
    · rw [okD]
      have zw : (nnW wd).isSome = true ∨ wd ∈ bad := okD_word okd
      refine ⟨zw, okL_of fun x hx => ?_⟩
      rcases List.mem_append.mp hx with z | z
      · rcases List.mem_cons.mp z with y | y
        · rw [y]; trivial
        · exact okrs x (List.mem_of_mem_take y)
      · exact okL_mem okl x z
    · simp only [depD, depL_app, depD.depL]
      omega
    · rw [ul, ep, edr] at dsl
      rw [List.take_of_length_le (by rw [List.length_drop]; omega)] at dsl
      show 1 + dsz.dszs ((.str wd :: rs.take nn0) ++ es) + cr dn ci ≤ 1 + dsz.dszs (.str wd :: rs) + cr dn c
      rw [dszs_app]
      simp only [dsz.dszs]
      omega
theorem ok_l_replaced {bad : List Str} (B : Bt mg) (C_l_has_form : Cal P w K mg base 1 "_law_has_form" ["_law_knot"] (spLHFD K bad)) (C_l_parts : Cal P w K mg base 1 "_law_parts" ["_law_knot"] (spLPD K)) (D : DefAt K mg "_law_replaced" s_l_replaced ["_law_program_here", "_law_left", "_law_new"]) : ∀ n : Nat, Cal P w K mg base (n + 1) "_law_replaced" ["_law_program_here", "_law_left", "_law_new"] (spRepl K bad n)
  | 0 => cal_no D fun vs H Q E h => by
    obtain ⟨v, d, lf, c, nv, dn, _, _, _, _, h1, _⟩ := h
    have := depD_pos d
    omega
  | n + 1 => ok_l_replaced1 B C_l_has_form C_l_parts (ok_l_replaced B C_l_has_form C_l_parts D n) D
/-! ### due_kind -/
abbrev s_l_due_kind : Stmt := topS 47
theorem sc_l_due_kind : FnScope ["_law_kinds_here", "_law_program_here", "_law_wrong_here"] ["_law_kinds_here", "_law_program_here"] (defScope s_l_due_kind) := ⟨rfl, rfl, rfl, by decide +kernel, rfl, by decide +kernel, by decide +kernel⟩
def spDue (K : PySem.W.Frag) (bad : List Str) (N : Nat) : Sp := fun vs H Q _ => ∃ (ka : Addr) (ks : List Bool) (v : V) (d : PyData), vs = [.ref ka, v] ∧ SqT K H ka (kVs ks) ∧ Fd K H v d ∧ okD bad d ∧ dsz d ≤ 10000 ∧ depD d ≤ N ∧ ∀ u H', Same H H' → Fd K H' u (dueD ks d) → Q u H'
theorem wrong_none {ks : List Bool} {d : PyData} (h : wrongD ks d = none) : d = enc (pgOf d) ∧ ∀ x ∈ kn (pgOf d), In0 ks.length x := by
  cases h0 : firstBad hasF (knD d) 0 with
  | some n => rw [wrong_form h0] at h; cases h
  | none =>
    cases h1 : firstBad (inOk (ks.length : Nat)) (knD d) 0 with
    | some n => rw [wrong_input h0 h1] at h; cases h
    | none => exact is_pg h0 h1
theorem ok_l_due {bad : List Str} {N : Nat} (C_l_wrong : Cal P w K mg base (N + 2) "_law_wrong" ["_law_kinds_here", "_law_program_here"] (spWrong K bad N)) (C_l_own : Cal P w K mg base (N + 1) "_law_own" ["_law_kinds_here", "_law_knot"] (spLOA K N)) (D : DefAt K mg "_law_due_kind" s_l_due_kind ["_law_kinds_here", "_law_program_here"]) : Cal P w K mg base (N + 3) "_law_due_kind" ["_law_kinds_here", "_law_program_here"] (spDue K bad N) := by
  refine cal_of D sc_l_due_kind (fun vs H Q E h => ?_) (fun f cdv A outer s H vs Q E hr h => ?_)
  · obtain ⟨ka, ks, v, d, rfl, _⟩ := h
    rfl
  obtain ⟨ka, ks, v, d, rfl, hk, hv, okd, hz, hdep, q⟩ := h
  have C_l_own := C_l_own.mono (k := N + 2) (by omega)
  have hr' : Room (N + 2) _ := hr
  refine ⟨_, (pss_cons (ps_set (i := 2) sc_l_due_kind.nd rfl (.inl rfl) (pe_cal C_l_wrong hr' (by rfl) (pa_cons (pv 0) (pa_cons (pv 1) pa_nil))))
      (pss_cons (ps_if (pt_cmpR op_isN (pv 2) pe_non (nomark _))
        (pss_one (ps_ret (pe_tup (pa_cons pe_str (pa_cons (pe_cal C_l_own hr' (by rfl) (pa_cons (pv 0) (pa_cons (pv 1) pa_nil))) pa_nil)))))
        pss_nil)
      (pss_one (ps_ret (pe_op op_catA (pe_tup (pa_cons pe_str pa_nil)) (pv 2)))))), ?_⟩
  obtain ⟨g1, g2⟩ := kn_good okd hz
  refine ⟨_, rfl, _, rfl, ka, ks, v, d, rfl, hk, hv, hdep, g1, g2, fun u H1 s1 hu => ?_⟩
  cases hw : wrongD ks d with
  | none =>
    have e : wrongV ks d = .none := by unfold wrongV; rw [hw]
    rw [e] at hu
    cases hu.2
    obtain ⟨ed, hin⟩ := wrong_none hw
    have av : At K H v (pgOf d) := by
      have z := hv.2
      rw [ed] at z
      exact z
    have dp : dep (pgOf d) ≤ N := by
      have z := dep_depD (pgOf d)
      rw [← ed] at z
      omega
    refine ⟨_, rfl, rfl, _, rfl, iteY rfl ?_⟩
    refine ⟨_, rfl, _, rfl, ka, ks, v, pgOf d, rfl, Tp.same s1 _ _ hk, av.keep (Tp.same s1), hin, dp, fun H2 s2 => ⟨(by show 2 ≤ sizeLine; decide), fun t ht => ?_⟩⟩
    refine q _ _ ((s1.trans s2).trans (same_new ht)) ?_
    rw [due_none hw]
    exact fd_tup upd_same (.cons (.str _) (.cons (.str _) .nil)) rfl
  | some xn =>
    obtain ⟨x, n⟩ := xn
    have e : wrongV ks d = .tuple [.str x, .int (n : Nat)] := by unfold wrongV; rw [hw]
    rw [e] at hu
    obtain ⟨b, rfl, qb⟩ : ∃ b, u = .ref b ∧ SqT K H1 b [.str x, .int (n : Nat)] := by
      cases hu.2 with
      | tup qa r =>
        cases r with
        | cons r1 r =>
          cases r with
          | cons r2 r =>
            cases r
            cases r1
            cases r2
            exact ⟨_, rfl, qa⟩
    refine ⟨_, rfl, rfl, _, rfl, iteF ?_⟩
    refine ⟨(by show 1 ≤ sizeLine; decide), fun t ht => ⟨_, rfl, ?_⟩⟩
    have s2 := same_new (o := .tup [.str "no program"]) ht
    refine catA_any (xs := [.str "no program"]) (ys := [.str x, .int (n : Nat)]) (.inl (.inl upd_same)) (Tp.same s2 _ _ qb) (by show 3 ≤ sizeLine; decide) fun pp H3 s3 q3 => ?_
    refine q _ _ (s1.trans (s2.trans s3)) ?_
    rw [due_some hw]
    exact ⟨rfl, .tup q3 (.cons (.str _) (.cons (.str _) (.cons (.int _) .nil)))⟩
end
end Lm

set_option Elab.async false
set_option linter.all false
set_option maxRecDepth 100000
set_option maxHeartbeats 2000000
namespace Lm
open PySem PySem.Spec PyProof.Rows L2 LmR
def GB (bad : List Str) (d : PyData) : Prop := okD bad d ∧ dsz d ≤ 30 ∧ depD d ≤ 4
section
variable {bad : List Str} {d : PyData} {ds : List PyData}
theorem okT (h : wordOk bad (.tuple ds)) (hs : okD.okL bad ds) : okD bad (.tuple ds) := by rw [okD]; exact ⟨h, hs⟩
theorem okN : okD.okL bad [] := by rw [okD.okL]; trivial
theorem okC (h : okD bad d) (hs : okD.okL bad ds) : okD.okL bad (d :: ds) := by rw [okD.okL]; exact ⟨h, hs⟩
theorem okI {i : Int} : okD bad (.int i) := by simp [okD]
theorem okS {i : Str} : okD bad (.str i) := by simp [okD]
theorem okB {i : Bool} : okD bad (.bool i) := by simp [okD]
theorem okNo : okD bad .none := by simp [okD]
theorem gb_nil : ∀ x ∈ ([] : List PyData), GB bad x := fun x hx => by cases hx
theorem gb_cons (h : GB bad d) (hs : ∀ x ∈ ds, GB bad x) : ∀ x ∈ d :: ds, GB bad x := fun x hx => by
  rcases List.mem_cons.mp hx with e | e
  · rw [e]; exact h
  · exact hs x e
theorem gb_app {es : List PyData} (h : ∀ x ∈ ds, GB bad x) (hs : ∀ x ∈ es, GB bad x) : ∀ x ∈ ds ++ es, GB bad x := fun x hx => by
  rcases List.mem_append.mp hx with e | e
  · exact h x e
  · exact hs x e
end
section
variable {P : Program} {w : World} {K : PySem.W.Frag} {mg : Str → Option Value} {base : Heap}
theorem Gr.same {f : Addr} {H H' : Hp} (fl : Flow H f) (s : Same H H') : Gr [] f H H' := ⟨Ex.of_same s, by
  obtain ⟨x, y, z, e, r⟩ := fl
  exact ⟨x, y, z, s _ _ e, r⟩⟩
theorem Gr.nf {f : Addr} {H H' : Hp} (g : Gr [] f H H') {D : Addr} (h : H' D = none) : D ≠ f := fun z => by
  obtain ⟨xs, e⟩ := g.fl.lst
  rw [z, e] at h
  cases h
theorem Flow.nf {f : Addr} {H : Hp} (g : Flow H f) {D : Addr} (h : H D = none) : D ≠ f := fun z => by
  obtain ⟨xs, e⟩ := g.lst
  rw [z, e] at h
  cases h
/-- so many things in a list, all good -/
def Bag (K : PySem.W.Frag) (bad : List Str) (H : Hp) (l : Addr) (n : Nat) : Prop := ∃ us ds, H l = some (.lst us) ∧ FdL K H us ds ∧ ds.length = n ∧ ∀ x ∈ ds, GB bad x
theorem Bag.len {bad : List Str} {H : Hp} {l : Addr} {n : Nat} {us : List V} (h : Bag K bad H l n) (e : H l = some (.lst us)) : us.length = n := by
  obtain ⟨us', ds, e', h, hl, _⟩ := h
  rw [e] at e'
  cases e'
  rw [dpall_len h.2, hl]
theorem bag_cat {bad : List Str} {H : Hp} {l1 l2 : Addr} {n m : Nat} {Q : VK} (h1 : Bag K bad H l1 n) (h2 : Bag K bad H l2 m) (hz : n + m ≤ 1000) (q : ∀ p H', Same H H' → Bag K bad H' p (n + m) → Q (.ref p) H') :
    rCat (.ref l1) (.ref l2) H Q := by
  have k1 := h1
  have k2 := h2
  obtain ⟨us, ds, e1, f1, hl1, g1⟩ := h1
  obtain ⟨vs, es, e2, f2, hl2, g2⟩ := h2
  refine ⟨l1, l2, us, vs, rfl, rfl, e1, e2, by rw [k1.len e1, k2.len e2]; exact small (by omega), fun p hp => q p _ (same_new hp) ⟨us ++ vs, ds ++ es, upd_same, ?_, by rw [List.length_append]; omega, gb_app g1 g2⟩⟩
  have f1' := f1.keep (Tp.new (K := K) (o := .lst (us ++ vs)) hp)
  have f2' := f2.keep (Tp.new (K := K) (o := .lst (us ++ vs)) hp)
  exact ⟨flats_app ds es f1'.1 f2'.1, dpall_app f1'.2 f2'.2⟩
theorem Bag.same {bad : List Str} {H H' : Hp} {l : Addr} {n : Nat} (h : Bag K bad H l n) (s : Same H H') : Bag K bad H' l n := by
  obtain ⟨us, ds, e, f, hl, g⟩ := h
  exact ⟨us, ds, s _ _ e, f.keep (Tp.same s), hl, g⟩
theorem bag_get {bad : List Str} {H : Hp} {l : Addr} {n : Nat} {i : Int} (h : Bag K bad H l n) (h0 : 0 ≤ i) (h1 : i < n) : ∃ us u d, H l = some (.lst us) ∧ atI us i = some u ∧ Fd K H u d ∧ GB bad d := by
  have k := h
  obtain ⟨us, ds, e, f, hl, g⟩ := h
  have ul := k.len e
  have hi : i.toNat < us.length := by omega
  obtain ⟨d, hd, hD⟩ := dpall_get f.2 i.toNat _ (List.getElem?_eq_getElem hi)
  exact ⟨us, us[i.toNat], d, e, at_of (j := i.toNat) (by omega) (List.getElem?_eq_getElem hi), ⟨flats_nth ds f.1 _ d hd, hD⟩, g d (List.mem_of_getElem? hd)⟩
abbrev s_l_bad_knot : Stmt := topS 48
theorem sc_l_bad_knot : FnScope ["_law_flow_here", "_law_kinds_here", "_law_kind", "_law_one", "_law_other", "_law_some_here", "_law_form"] ["_law_flow_here", "_law_kinds_here", "_law_kind"] (defScope s_l_bad_knot) := ⟨rfl, rfl, rfl, by decide +kernel, rfl, by decide +kernel, by decide +kernel⟩
def spBK (K : PySem.W.Frag) (bad : List Str) : Sp := fun vs H Q _ => ∃ (f ka : Addr) (ks : List Bool) (k : Bool), vs = [.ref f, .ref ka, .str (kS k)] ∧ Flow H f ∧ SqT K H ka (kVs ks) ∧ ks.length ≤ 3 ∧
  ∀ (u : V) (d : PyData) (H' : Hp), Gr [] f H H' → Fd K H' u d → GB bad d → Q u H'
theorem ok_l_bad_knot {bad : List Str} (hfoo : bad = ([("foo" : Str)] : List Str)) (B : Bt mg) (C_l_draw : Cal P w K mg base 1 "_law_draw" ["_law_flow_here", "_law_many"] (spDraw)) (C_l_leaf : Cal P w K mg base 3 "_law_leaf" ["_law_flow_here", "_law_world", "_law_kind"] (spLeaf K)) (D : DefAt K mg "_law_bad_knot" s_l_bad_knot ["_law_flow_here", "_law_kinds_here", "_law_kind"]) : Cal P w K mg base 4 "_law_bad_knot" ["_law_flow_here", "_law_kinds_here", "_law_kind"] (spBK K bad) := by
  subst hfoo
  refine cal_of D sc_l_bad_knot (fun vs H Q E h => ?_) (fun f cdv A outer s H vs Q E hr h => ?_)
  · obtain ⟨f, ka, ks, k, rfl, _⟩ := h
    rfl
  obtain ⟨f, ka, ks, k, rfl, fl, hk, hk3, q⟩ := h
  have C_l_draw := C_l_draw.mono (k := 3) (by decide)
  have hr' : Room 3 _ := hr
  refine ⟨_, (pss_cons (ps_par (i := 3) (j := 4) rfl sc_l_bad_knot.nd rfl rfl (by decide) rfl rfl (pa_cons (pe_cal C_l_leaf hr' (by rfl) (pa_cons (pv 0) (pa_cons (pe_disp (pps_cons pe_str (pv 1) pps_nil) (by rfl) (by rfl) (fun z => by cases z) (by decide)) (pa_cons pe_str pa_nil)))) (pa_cons (pe_cal C_l_leaf hr' (by rfl) (pa_cons (pv 0) (pa_cons (pe_disp (pps_cons pe_str (pv 1) pps_nil) (by rfl) (by rfl) (fun z => by cases z) (by decide)) (pa_cons pe_str pa_nil)))) pa_nil)) rfl)
      (pss_cons (ps_set (i := 5) sc_l_bad_knot.nd rfl (.inl rfl) (fd_lst (fd_cons fd_non (fd_cons fd_bl (fd_cons fd_int (fd_cons fd_str (fd_cons (fd_tupE fd_nil) (fd_cons (fd_tupE (fd_cons fd_int (fd_cons (fd_var 3) fd_nil))) (fd_cons (fd_tupE (fd_cons fd_str fd_nil)) (fd_cons (fd_tupE (fd_cons fd_str (fd_cons fd_str fd_nil))) (fd_cons (fd_tupE (fd_cons fd_str (fd_cons fd_bl fd_nil))) (fd_cons (fd_tupE (fd_cons fd_str fd_nil)) (fd_cons (fd_tupE (fd_cons fd_str (fd_cons fd_non fd_nil))) fd_nil)))))))))))))
      (pss_cons (ps_set (i := 5) sc_l_bad_knot.nd rfl (.inl rfl) (pe_op op_cat (pv 5) (fd_lst (fd_cons (fd_tupE (fd_cons fd_str (fd_cons fd_bl fd_nil))) (fd_cons (fd_tupE (fd_cons fd_str (fd_cons fd_int fd_nil))) (fd_cons (fd_tupE (fd_cons fd_str (fd_cons (fd_var 3) fd_nil))) (fd_cons (fd_tupE (fd_cons fd_str (fd_cons fd_int fd_nil))) (fd_cons (fd_tupE (fd_cons fd_str (fd_cons (fd_var 3) (fd_cons fd_int fd_nil)))) (fd_cons (fd_tupE (fd_cons fd_str (fd_cons fd_non (fd_cons (fd_var 3) fd_nil)))) fd_nil)))))))))
      (pss_cons (ps_set (i := 5) sc_l_bad_knot.nd rfl (.inl rfl) (pe_op op_cat (pv 5) (fd_lst (fd_cons (fd_tupE (fd_cons fd_str (fd_cons fd_bl (fd_cons (fd_var 3) fd_nil)))) (fd_cons (fd_tupE (fd_cons fd_str (fd_cons fd_bl (fd_cons (fd_var 3) fd_nil)))) fd_nil)))))
      (pss_cons (ps_set (i := 5) sc_l_bad_knot.nd rfl (.inl rfl) (pe_op op_cat (pv 5) (fd_lst (fd_cons (fd_tupE (fd_cons fd_str (fd_cons fd_int (fd_cons (fd_var 3) (fd_cons (fd_var 3) fd_nil))))) (fd_cons (fd_tupE (fd_cons fd_str (fd_cons (fd_var 3) fd_nil))) (fd_cons (fd_tupE (fd_cons fd_str (fd_cons (fd_var 3) (fd_cons (fd_var 3) (fd_cons (fd_var 3) fd_nil))))) (fd_cons (fd_tupE (fd_cons fd_str (fd_cons (fd_var 4) (fd_cons (fd_var 3) fd_nil)))) (fd_cons (fd_tupE (fd_cons fd_str (fd_cons (fd_var 3) fd_nil))) fd_nil))))))))
      (pss_cons (ps_set (i := 5) sc_l_bad_knot.nd rfl (.inl rfl) (pe_op op_cat (pv 5) (fd_lst (fd_cons (fd_tupE (fd_cons fd_str fd_nil)) (fd_cons (fd_tupE (fd_cons (fd_tupE (fd_cons fd_str fd_nil)) (fd_cons (fd_var 4) fd_nil))) fd_nil)))))
      (pss_cons (ps_set (i := 5) sc_l_bad_knot.nd rfl (.inl rfl) (pe_op op_cat (pv 5) (fd_lst (fd_cons (fd_tupE (fd_cons fd_str (fd_cons (fd_num (pe_op op_sub pe_int pe_int) (fun _ _ i => i = 0 - 1) (fun σ H Q i hf k => by subst hf; exact ⟨_, _, rfl, rfl, k⟩) (fun _ _ _ _ _ h => h)) fd_nil))) (fd_cons (fd_tupE (fd_cons fd_str (fd_cons (fd_num (pe_callB call_len_seq (by rfl) B.len PySem.boot_len (pa_cons (pv 1) pa_nil)) (fun σ H i => ∃ a xs, σ[1]? = some (some (V.ref a)) ∧ SqT K H a xs ∧ i = ((xs.length : Nat) : Int)) (fun σ H Q i ⟨a, xs, e, h, z⟩ k => by subst z; exact ⟨_, e, a, xs, rfl, .inr h, k⟩) (fun σ H H' i s ⟨a, xs, e, h, z⟩ => ⟨a, xs, e, Tp.same s _ _ h, z⟩)) fd_nil))) (fd_cons (fd_tupE (fd_cons fd_str (fd_cons (fd_num (pe_op op_add (pe_callB call_len_seq (by rfl) B.len PySem.boot_len (pa_cons (pv 1) pa_nil)) pe_int) (fun σ H i => ∃ a xs, σ[1]? = some (some (V.ref a)) ∧ SqT K H a xs ∧ i = ((xs.length : Nat) : Int) + 7) (fun σ H Q i ⟨a, xs, e, h, z⟩ k => by subst z; exact ⟨_, e, a, xs, rfl, .inr h, _, _, rfl, rfl, k⟩) (fun σ H H' i s ⟨a, xs, e, h, z⟩ => ⟨a, xs, e, Tp.same s _ _ h, z⟩)) fd_nil))) (fd_cons (fd_tupE (fd_cons fd_str (fd_cons (fd_var 4) (fd_cons (fd_tupE (fd_cons fd_str (fd_cons (fd_num (pe_op op_sub pe_int pe_int) (fun _ _ i => i = 0 - 2) (fun σ H Q i hf k => by subst hf; exact ⟨_, _, rfl, rfl, k⟩) (fun _ _ _ _ _ h => h)) fd_nil))) fd_nil)))) fd_nil)))))))
      (pss_cons (ps_set (i := 6) sc_l_bad_knot.nd rfl (.inl rfl) (pe_cal C_l_draw hr' (by rfl) (pa_cons (pv 0) (pa_cons pe_int pa_nil))))
      (pss_cons (ps_if (pt_cmpR op_eq (pv 6) pe_int (nomark _))
        (pss_one (ps_ret (pe_ix ix_list (pv 5) (pe_cal C_l_draw hr' (by rfl) (pa_cons (pv 0) (pa_cons pe_int pa_nil))) (fun _ _ => rfl))))
        pss_nil)
      (pss_cons (ps_if (pt_cmpR op_eq (pv 6) pe_int (nomark _))
        (pss_one (ps_ret (pe_ix ix_list (pv 5) (pe_op op_add pe_int (pe_cal C_l_draw hr' (by rfl) (pa_cons (pv 0) (pa_cons pe_int pa_nil)))) (fun _ _ => rfl))))
        pss_nil)
      (pss_one (ps_ret (pe_ix ix_list (fd_lst (fd_cons (fd_var 4) (fd_cons (fd_var 3) fd_nil))) (pe_callTy call_int1 (by rfl) B.int PyProof.Rows.boot_int (pa_cons (pe_cmpR op_eq (pv 2) pe_str (nomark _)) pa_nil)) (fun _ _ => rfl)))))))))))))), ?_⟩
  -- the two leaves
  refine ⟨_, rfl, fun d1 hd1 => ⟨_, rfl, upd_same, [(Sum.inr "kinds", .ref ka)], rfl, (by show 1 ≤ 15; decide), ?_⟩⟩
  have s1 : Same H (upd (upd H d1 (.dK [])) d1 (.dK (mergeK [] [(Sum.inr "kinds", .ref ka)]))) := fun b o z => by
    rw [upd_ne (ne_of_none z hd1), upd_ne (ne_of_none z hd1)]
    exact z
  have e1 : (upd (upd H d1 (.dK [])) d1 (.dK (mergeK [] [(Sum.inr "kinds", .ref ka)]))) d1 = some (.dK [(Sum.inr "kinds", .ref ka)]) := upd_same
  generalize upd (upd H d1 (.dK [])) d1 (.dK (mergeK [] [(Sum.inr "kinds", .ref ka)])) = H1 at s1 e1
  have g1 := Gr.same fl s1
  refine ⟨f, d1, ka, ks, false, rfl, g1.fl, ⟨_, e1, rfl⟩, Tp.same s1 _ _ hk, hk3, fun v1 p1 H2 g2 a1 wk1 ow1 sz1 => ?_⟩
  have g02 := g1.trans g2
  have k2 := g02.tp fl _ _ hk
  refine ⟨_, rfl, fun d2 hd2 => ⟨_, rfl, upd_same, [(Sum.inr "kinds", .ref ka)], rfl, (by show 1 ≤ 15; decide), ?_⟩⟩
  have s3 : Same H2 (upd (upd H2 d2 (.dK [])) d2 (.dK (mergeK [] [(Sum.inr "kinds", .ref ka)]))) := fun b o z => by
    rw [upd_ne (ne_of_none z hd2), upd_ne (ne_of_none z hd2)]
    exact z
  have e3 : (upd (upd H2 d2 (.dK [])) d2 (.dK (mergeK [] [(Sum.inr "kinds", .ref ka)]))) d2 = some (.dK [(Sum.inr "kinds", .ref ka)]) := upd_same
  generalize upd (upd H2 d2 (.dK [])) d2 (.dK (mergeK [] [(Sum.inr "kinds", .ref ka)])) = H3 at s3 e3
  have g3 := Gr.same g02.fl s3
  refine ⟨f, d2, ka, ks, true, rfl, g3.fl, ⟨_, e3, rfl⟩, Tp.same s3 _ _ k2, hk3, fun v2 p2 H4 g4 a2 wk2 ow2 sz2 => ?_⟩
  have g04 := g02.trans (g3.trans g4)
  have a1' := a1.keep ((g3.trans g4).tp g02.fl)
  have k4 := g04.tp fl _ _ hk
  have f1 : Fd K H4 v1 (enc p1) := a1'.fd
  have f2 : Fd K H4 v2 (enc p2) := a2.fd
  have o1 : okD ["foo"] (enc p1) := okD_enc p1
  have o2 : okD ["foo"] (enc p2) := okD_enc p2
  have z1 := dsz_enc p1
  have z2 := dsz_enc p2
  have y1 := depD_enc p1
  have y2 := depD_enc p2
  have x1 := dep_le p1
  have x2 := dep_le p2
  rw [sz1] at z1 x1
  rw [sz2] at z2 x2
  clear wk1 ow1 sz1 a1 a1' wk2 ow2 sz2 a2 g3 s3 e3 g2 g1 s1 e1 k2
  generalize enc p1 = D1 at f1 o1 z1 y1
  generalize enc p2 = D2 at f2 o2 z2 y2
  have gb1 : GB ["foo"] D1 := ⟨o1, by omega, by omega⟩
  have gb2 : GB ["foo"] D2 := ⟨o2, by omega, by omega⟩
  -- the bag
  refine ⟨_, _, rfl, ?_⟩
  refine ⟨_, (by show 11 ≤ 1000; decide), ⟨_, _, rfl, rfl, ⟨_, _, rfl, rfl, ⟨_, _, rfl, rfl, ⟨_, _, rfl, rfl, ⟨_, _, rfl, ⟨_, rfl, (by show 0 ≤ 1000; decide), rfl⟩, ⟨_, _, rfl, ⟨_, rfl, (by show 2 ≤ 1000; decide), ⟨_, _, rfl, rfl, ⟨_, _, rfl, ⟨_, rfl, f1⟩, rfl⟩⟩⟩, ⟨_, _, rfl, ⟨_, rfl, (by show 1 ≤ 1000; decide), ⟨_, _, rfl, rfl, rfl⟩⟩, ⟨_, _, rfl, ⟨_, rfl, (by show 2 ≤ 1000; decide), ⟨_, _, rfl, rfl, ⟨_, _, rfl, rfl, rfl⟩⟩⟩, ⟨_, _, rfl, ⟨_, rfl, (by show 2 ≤ 1000; decide), ⟨_, _, rfl, rfl, ⟨_, _, rfl, rfl, rfl⟩⟩⟩, ⟨_, _, rfl, ⟨_, rfl, (by show 1 ≤ 1000; decide), ⟨_, _, rfl, rfl, rfl⟩⟩, ⟨_, _, rfl, ⟨_, rfl, (by show 2 ≤ 1000; decide), ⟨_, _, rfl, rfl, ⟨_, _, rfl, rfl, rfl⟩⟩⟩, rfl⟩⟩⟩⟩⟩⟩⟩⟩⟩⟩⟩, fun l1 us1 J1 t1 l10 hl1 hus1 => ?_⟩
  have b1 : Bag K ["foo"] J1 l1 11 := ⟨us1, _, hl1, hus1, rfl, (gb_cons ⟨okNo, (by simp [dsz, dsz.dszs]; try omega), (by simp [depD, depD.depL]; try omega)⟩ (gb_cons ⟨okB, (by simp [dsz, dsz.dszs]; try omega), (by simp [depD, depD.depL]; try omega)⟩ (gb_cons ⟨okI, (by simp [dsz, dsz.dszs]; try omega), (by simp [depD, depD.depL]; try omega)⟩ (gb_cons ⟨okS, (by simp [dsz, dsz.dszs]; try omega), (by simp [depD, depD.depL]; try omega)⟩ (gb_cons ⟨(okT trivial okN), (by simp [dsz, dsz.dszs]; try omega), (by simp [depD, depD.depL]; try omega)⟩ (gb_cons ⟨(okT trivial (okC okI (okC o1 okN))), (by simp [dsz, dsz.dszs]; try omega), (by simp [depD, depD.depL]; try omega)⟩ (gb_cons ⟨(okT (.inl rfl) (okC okS okN)), (by simp [dsz, dsz.dszs]; try omega), (by simp [depD, depD.depL]; try omega)⟩ (gb_cons ⟨(okT (.inl rfl) (okC okS (okC okS okN))), (by simp [dsz, dsz.dszs]; try omega), (by simp [depD, depD.depL]; try omega)⟩ (gb_cons ⟨(okT (.inl rfl) (okC okS (okC okB okN))), (by simp [dsz, dsz.dszs]; try omega), (by simp [depD, depD.depL]; try omega)⟩ (gb_cons ⟨(okT (.inl rfl) (okC okS okN)), (by simp [dsz, dsz.dszs]; try omega), (by simp [depD, depD.depL]; try omega)⟩ (gb_cons ⟨(okT (.inl rfl) (okC okS (okC okNo okN))), (by simp [dsz, dsz.dszs]; try omega), (by simp [depD, depD.depL]; try omega)⟩ gb_nil)))))))))))⟩
  clear hus1 hl1
  have f1 := f1.keep (Tp.same t1)
  have f2 := f2.keep (Tp.same t1)
  refine ⟨_, rfl, _, (by show 6 ≤ 1000; decide), ⟨_, _, rfl, ⟨_, rfl, (by show 2 ≤ 1000; decide), ⟨_, _, rfl, rfl, ⟨_, _, rfl, rfl, rfl⟩⟩⟩, ⟨_, _, rfl, ⟨_, rfl, (by show 2 ≤ 1000; decide), ⟨_, _, rfl, rfl, ⟨_, _, rfl, rfl, rfl⟩⟩⟩, ⟨_, _, rfl, ⟨_, rfl, (by show 2 ≤ 1000; decide), ⟨_, _, rfl, rfl, ⟨_, _, rfl, ⟨_, rfl, f1⟩, rfl⟩⟩⟩, ⟨_, _, rfl, ⟨_, rfl, (by show 2 ≤ 1000; decide), ⟨_, _, rfl, rfl, ⟨_, _, rfl, rfl, rfl⟩⟩⟩, ⟨_, _, rfl, ⟨_, rfl, (by show 3 ≤ 1000; decide), ⟨_, _, rfl, rfl, ⟨_, _, rfl, ⟨_, rfl, f1⟩, ⟨_, _, rfl, rfl, rfl⟩⟩⟩⟩, ⟨_, _, rfl, ⟨_, rfl, (by show 3 ≤ 1000; decide), ⟨_, _, rfl, rfl, ⟨_, _, rfl, rfl, ⟨_, _, rfl, ⟨_, rfl, f1⟩, rfl⟩⟩⟩⟩, rfl⟩⟩⟩⟩⟩⟩, fun l2 us2 J2 t2 l20 hl2 hus2 => ?_⟩
  have b2 : Bag K ["foo"] J2 l2 6 := ⟨us2, _, hl2, hus2, rfl, (gb_cons ⟨(okT (.inl rfl) (okC okS (okC okB okN))), (by simp [dsz, dsz.dszs]; try omega), (by simp [depD, depD.depL]; try omega)⟩ (gb_cons ⟨(okT (.inl rfl) (okC okS (okC okI okN))), (by simp [dsz, dsz.dszs]; try omega), (by simp [depD, depD.depL]; try omega)⟩ (gb_cons ⟨(okT (.inl rfl) (okC okS (okC o1 okN))), (by simp [dsz, dsz.dszs]; try omega), (by simp [depD, depD.depL]; try omega)⟩ (gb_cons ⟨(okT (.inl rfl) (okC okS (okC okI okN))), (by simp [dsz, dsz.dszs]; try omega), (by simp [depD, depD.depL]; try omega)⟩ (gb_cons ⟨(okT (.inl rfl) (okC okS (okC o1 (okC okI okN)))), (by simp [dsz, dsz.dszs]; try omega), (by simp [depD, depD.depL]; try omega)⟩ (gb_cons ⟨(okT (.inl rfl) (okC okS (okC okNo (okC o1 okN)))), (by simp [dsz, dsz.dszs]; try omega), (by simp [depD, depD.depL]; try omega)⟩ gb_nil))))))⟩
  clear hus2 hl2
  refine bag_cat (b1.same t2) b2 (by decide) fun l3 J3 t3 b3 => ?_
  have t13 := t2.trans t3
  have f1 := f1.keep (Tp.same t13)
  have f2 := f2.keep (Tp.same t13)
  refine ⟨_, rfl, _, (by show 2 ≤ 1000; decide), ⟨_, _, rfl, ⟨_, rfl, (by show 3 ≤ 1000; decide), ⟨_, _, rfl, rfl, ⟨_, _, rfl, rfl, ⟨_, _, rfl, ⟨_, rfl, f1⟩, rfl⟩⟩⟩⟩, ⟨_, _, rfl, ⟨_, rfl, (by show 3 ≤ 1000; decide), ⟨_, _, rfl, rfl, ⟨_, _, rfl, rfl, ⟨_, _, rfl, ⟨_, rfl, f1⟩, rfl⟩⟩⟩⟩, rfl⟩⟩, fun l2 us2 J4 t4 l20 hl2 hus2 => ?_⟩
  have b4 : Bag K ["foo"] J4 l2 2 := ⟨us2, _, hl2, hus2, rfl, (gb_cons ⟨(okT (.inl rfl) (okC okS (okC okB (okC o1 okN)))), (by simp [dsz, dsz.dszs]; try omega), (by simp [depD, depD.depL]; try omega)⟩ (gb_cons ⟨(okT (.inl rfl) (okC okS (okC okB (okC o1 okN)))), (by simp [dsz, dsz.dszs]; try omega), (by simp [depD, depD.depL]; try omega)⟩ gb_nil))⟩
  clear hus2 hl2
  refine bag_cat (b3.same t4) b4 (by decide) fun l5 J5 t5 b5 => ?_
  have t35 := t4.trans t5
  have f1 := f1.keep (Tp.same t35)
  have f2 := f2.keep (Tp.same t35)
  refine ⟨_, rfl, _, (by show 5 ≤ 1000; decide), ⟨_, _, rfl, ⟨_, rfl, (by show 4 ≤ 1000; decide), ⟨_, _, rfl, rfl, ⟨_, _, rfl, rfl, ⟨_, _, rfl, ⟨_, rfl, f1⟩, ⟨_, _, rfl, ⟨_, rfl, f1⟩, rfl⟩⟩⟩⟩⟩, ⟨_, _, rfl, ⟨_, rfl, (by show 2 ≤ 1000; decide), ⟨_, _, rfl, rfl, ⟨_, _, rfl, ⟨_, rfl, f1⟩, rfl⟩⟩⟩, ⟨_, _, rfl, ⟨_, rfl, (by show 4 ≤ 1000; decide), ⟨_, _, rfl, rfl, ⟨_, _, rfl, ⟨_, rfl, f1⟩, ⟨_, _, rfl, ⟨_, rfl, f1⟩, ⟨_, _, rfl, ⟨_, rfl, f1⟩, rfl⟩⟩⟩⟩⟩, ⟨_, _, rfl, ⟨_, rfl, (by show 3 ≤ 1000; decide), ⟨_, _, rfl, rfl, ⟨_, _, rfl, ⟨_, rfl, f2⟩, ⟨_, _, rfl, ⟨_, rfl, f1⟩, rfl⟩⟩⟩⟩, ⟨_, _, rfl, ⟨_, rfl, (by show 2 ≤ 1000; decide), ⟨_, _, rfl, rfl, ⟨_, _, rfl, ⟨_, rfl, f1⟩, rfl⟩⟩⟩, rfl⟩⟩⟩⟩⟩, fun l2 us2 J6 t6 l20 hl2 hus2 => ?_⟩
  have b6 : Bag K ["foo"] J6 l2 5 := ⟨us2, _, hl2, hus2, rfl, (gb_cons ⟨(okT (.inl rfl) (okC okS (okC okI (okC o1 (okC o1 okN))))), (by simp [dsz, dsz.dszs]; try omega), (by simp [depD, depD.depL]; try omega)⟩ (gb_cons ⟨(okT (.inl rfl) (okC okS (okC o1 okN))), (by simp [dsz, dsz.dszs]; try omega), (by simp [depD, depD.depL]; try omega)⟩ (gb_cons ⟨(okT (.inl rfl) (okC okS (okC o1 (okC o1 (okC o1 okN))))), (by simp [dsz, dsz.dszs]; try omega), (by simp [depD, depD.depL]; try omega)⟩ (gb_cons ⟨(okT (.inl rfl) (okC okS (okC o2 (okC o1 okN)))), (by simp [dsz, dsz.dszs]; try omega), (by simp [depD, depD.depL]; try omega)⟩ (gb_cons ⟨(okT (.inr (by simp)) (okC okS (okC o1 okN))), (by simp [dsz, dsz.dszs]; try omega), (by simp [depD, depD.depL]; try omega)⟩ gb_nil)))))⟩
  clear hus2 hl2
  refine bag_cat (b5.same t6) b6 (by decide) fun l7 J7 t7 b7 => ?_
  have t57 := t6.trans t7
  have f1 := f1.keep (Tp.same t57)
  have f2 := f2.keep (Tp.same t57)
  refine ⟨_, rfl, _, (by show 2 ≤ 1000; decide), ⟨_, _, rfl, ⟨_, rfl, (by show 1 ≤ 1000; decide), ⟨_, _, rfl, rfl, rfl⟩⟩, ⟨_, _, rfl, ⟨_, rfl, (by show 2 ≤ 1000; decide), ⟨_, _, rfl, ⟨_, rfl, (by show 1 ≤ 1000; decide), ⟨_, _, rfl, rfl, rfl⟩⟩, ⟨_, _, rfl, ⟨_, rfl, f2⟩, rfl⟩⟩⟩, rfl⟩⟩, fun l2 us2 J8 t8 l20 hl2 hus2 => ?_⟩
  have b8 : Bag K ["foo"] J8 l2 2 := ⟨us2, _, hl2, hus2, rfl, (gb_cons ⟨(okT (.inl rfl) (okC okS okN)), (by simp [dsz, dsz.dszs]; try omega), (by simp [depD, depD.depL]; try omega)⟩ (gb_cons ⟨(okT trivial (okC (okT (.inl rfl) (okC okS okN)) (okC o2 okN))), (by simp [dsz, dsz.dszs]; try omega), (by simp [depD, depD.depL]; try omega)⟩ gb_nil))⟩
  clear hus2 hl2
  refine bag_cat (b7.same t8) b8 (by decide) fun l9 J9 t9 b9 => ?_
  have t79 := t8.trans t9
  have f1 := f1.keep (Tp.same t79)
  have f2 := f2.keep (Tp.same t79)
  have t09 := t1.trans (t13.trans (t35.trans (t57.trans t79)))
  have k9 := Tp.same (K := K) t09 _ _ k4
  refine ⟨_, rfl, _, (by show 4 ≤ 1000; decide), ⟨_, _, rfl, ⟨_, rfl, (by show 2 ≤ 1000; decide), ⟨_, _, rfl, rfl, ⟨_, _, rfl, ⟨_, rfl, rfl⟩, rfl⟩⟩⟩, ⟨_, _, rfl, ⟨_, rfl, (by show 2 ≤ 1000; decide), ⟨_, _, rfl, rfl, ⟨_, _, rfl, ⟨_, rfl, ⟨ka, _, rfl, k9, rfl⟩⟩, rfl⟩⟩⟩, ⟨_, _, rfl, ⟨_, rfl, (by show 2 ≤ 1000; decide), ⟨_, _, rfl, rfl, ⟨_, _, rfl, ⟨_, rfl, ⟨ka, _, rfl, k9, rfl⟩⟩, rfl⟩⟩⟩, ⟨_, _, rfl, ⟨_, rfl, (by show 3 ≤ 1000; decide), ⟨_, _, rfl, rfl, ⟨_, _, rfl, ⟨_, rfl, f2⟩, ⟨_, _, rfl, ⟨_, rfl, (by show 2 ≤ 1000; decide), ⟨_, _, rfl, rfl, ⟨_, _, rfl, ⟨_, rfl, rfl⟩, rfl⟩⟩⟩, rfl⟩⟩⟩⟩, rfl⟩⟩⟩⟩, fun l2 us2 JA tA l20 hl2 hus2 => ?_⟩
  have bA : Bag K ["foo"] JA l2 4 := ⟨us2, _, hl2, hus2, rfl, (gb_cons ⟨(okT (.inl rfl) (okC okS (okC okI okN))), (by simp [dsz, dsz.dszs]; try omega), (by simp [depD, depD.depL]; try omega)⟩ (gb_cons ⟨(okT (.inl rfl) (okC okS (okC okI okN))), (by simp [dsz, dsz.dszs]; try omega), (by simp [depD, depD.depL]; try omega)⟩ (gb_cons ⟨(okT (.inl rfl) (okC okS (okC okI okN))), (by simp [dsz, dsz.dszs]; try omega), (by simp [depD, depD.depL]; try omega)⟩ (gb_cons ⟨(okT (.inl rfl) (okC okS (okC o2 (okC (okT (.inl rfl) (okC okS (okC okI okN))) okN)))), (by simp [dsz, dsz.dszs]; try omega), (by simp [depD, depD.depL]; try omega)⟩ gb_nil))))⟩
  clear hus2 hl2
  refine bag_cat (b9.same tA) bA (by decide) fun lB JB tB bB => ?_
  have t9B := tA.trans tB
  have f1 := f1.keep (Tp.same t9B)
  have f2 := f2.keep (Tp.same t9B)
  have gB : Gr [] f H JB := g04.trans (Gr.same g04.fl (t09.trans t9B))
  clear b1 b2 b3 b4 b5 b6 b7 b8 b9 bA t09 t9B t79 t57 t35 t13 k9 k4
  refine ⟨_, rfl, f, 3, rfl, gB.fl, by decide, by decide, fun form JC fo0 fo1 drC => ?_⟩
  have gC := gB.trans drC.gr
  have pick : ∀ (i : Int) (JD : Hp), 0 ≤ i → i < 30 → Dr f JB JD → ∃ (p : Addr) (xs : List V) (j : Int) (v : V), V.ref lB = .ref p ∧ V.int i = .int j ∧ SqL K JD p xs ∧ atI xs j = some v ∧ Q v JD := fun i JD i0 i1 dr => by
    obtain ⟨us, u, d, e, ea, hfd, hgb⟩ := bag_get bB i0 i1
    have nBf : lB ≠ f := fun z => by
      obtain ⟨x, y, w', e', _⟩ := gB.fl
      have e2 := bB.len (show JB lB = some (.lst [.int x, .int y, .int w']) by rw [z]; exact e')
      simp at e2
    exact ⟨lB, us, i, u, rfl, rfl, SqL.of ((dr.off lB nBf).trans e), ea, q u d JD (gB.trans dr.gr) (hfd.keep (dr.tp gB.fl)) hgb⟩
  refine ⟨_, rfl, rfl, _, rfl, ite2 (fun c => ?_) (fun c => ?_)⟩
  · refine ⟨_, rfl, _, rfl, f, 30, rfl, gC.fl, by decide, by decide, fun i JD i0 i1 drD => pick i JD i0 i1 (drC.trans drD)⟩
  refine ⟨_, rfl, rfl, _, rfl, ite2 (fun c => ?_) (fun c => ?_)⟩
  · refine ⟨_, rfl, _, rfl, f, 4, rfl, gC.fl, by decide, by decide, fun i JD i0 i1 drD => ⟨_, _, rfl, rfl, pick (26 + i) JD (by omega) (by omega) (drC.trans drD)⟩⟩
  have f1 := f1.keep (drC.tp gB.fl)
  have f2 := f2.keep (drC.tp gB.fl)
  refine ⟨_, (by show 2 ≤ 1000; decide), ⟨_, _, rfl, ⟨_, rfl, f2⟩, ⟨_, _, rfl, ⟨_, rfl, f1⟩, rfl⟩⟩, fun l2 us2 JD tD l20 hl2 hus2 => ?_⟩
  have bD : Bag K ["foo"] JD l2 2 := ⟨us2, _, hl2, hus2, rfl, gb_cons gb2 (gb_cons gb1 gb_nil)⟩
  refine ⟨_, rfl, rfl, .inr ⟨_, rfl, ?_⟩⟩
  have gD := gC.trans (Gr.same gC.fl tD)
  have last : ∀ i : Int, 0 ≤ i → i < 2 → ∃ (p : Addr) (xs : List V) (j : Int) (v : V), V.ref l2 = .ref p ∧ V.int i = .int j ∧ SqL K JD p xs ∧ atI xs j = some v ∧ Q v JD := fun i i0 i1 => by
    obtain ⟨us, u, d, e, ea, hfd, hgb⟩ := bag_get bD i0 i1
    exact ⟨l2, us, i, u, rfl, rfl, SqL.of e, ea, q u d JD gD hfd hgb⟩
  cases k with
  | true => exact last 1 (by decide) (by decide)
  | false => exact last 0 (by decide) (by decide)
end
end Lm

set_option Elab.async false
set_option linter.all false
set_option maxRecDepth 100000
set_option maxHeartbeats 2000000
namespace Lm
open PySem PySem.Spec PyProof.Rows L2 LmR
theorem due_sz (ks : List Bool) (d : PyData) : dsz (dueD ks d) ≤ 10 := by
  unfold dueD
  cases wrongD ks d with
  | none => simp [dsz, dsz.dszs]
  | some x => simp [dsz, dsz.dszs]
theorem ex_seq {K : PySem.W.Frag} {H H' : Hp} {f a : Addr} {xs : List V} (hf : H f = none) (ex : Ex [f] H H') (h : SqL K H a xs) : SqL K H' a xs := by
  rcases h with (h | ⟨o, h⟩) | h
  · exact .inl (.inl (ex _ _ h (by simp [ne_of_none h hf])))
  · exact .inl (.inr ⟨o, ex _ _ h (by simp [ne_of_none h hf])⟩)
  · exact .inr h
theorem at_last {xs : List V} {n : Nat} (h : xs.length = n + 1) : ∃ x, xs[n]? = some x ∧ atI xs (-1) = some x := by
  have hl : n < xs.length := by omega
  refine ⟨xs[n], List.getElem?_eq_getElem hl, ?_⟩
  unfold atI ixN
  rw [if_neg (by decide), h, if_pos (by omega)]
  show xs[((-1 : Int) + ((n + 1 : Nat) : Int)).toNat]? = _
  rw [show ((-1 : Int) + ((n + 1 : Nat) : Int)).toNat = n by omega]
  exact List.getElem?_eq_getElem hl
section
variable {P : Program} {w : World} {K : PySem.W.Frag} {mg : Str → Option Value} {base : Heap}
/-- the programs till now: i + 1 of them -/
def Row (K : PySem.W.Frag) (bad : List Str) (H : Hp) (L : Addr) (i : Nat) : Prop := ∃ us ds, H L = some (.lst us) ∧ FdL K H us ds ∧ ds.length = i + 1 ∧ ∀ d ∈ ds, okD bad d ∧ dsz d ≤ 96 + 30 * i ∧ depD d ≤ 25 + 4 * i
theorem Row.last {bad : List Str} {H : Hp} {L : Addr} {i : Nat} (h : Row K bad H L i) : ∃ us u d, H L = some (.lst us) ∧ atI us (-1) = some u ∧ Fd K H u d ∧ okD bad d ∧ dsz d ≤ 96 + 30 * i ∧ depD d ≤ 25 + 4 * i := by
  obtain ⟨us, ds, e, f, hl, g⟩ := h
  obtain ⟨u, e1, e2⟩ := at_last (xs := us) (n := i) (by rw [dpall_len f.2, hl])
  obtain ⟨d, hd, hD⟩ := dpall_get f.2 i _ e1
  exact ⟨us, u, d, e, e2, ⟨flats_nth ds f.1 _ d hd, hD⟩, g d (List.mem_of_getElem? hd)⟩
theorem Row.keep {bad : List Str} {H H' : Hp} {L : Addr} {i : Nat} (h : Row K bad H L i) (t : Tp K H H') (e : H' L = H L) : Row K bad H' L i := by
  obtain ⟨us, ds, e1, f, hl, g⟩ := h
  exact ⟨us, ds, e.trans e1, f.keep t, hl, g⟩
abbrev s_law : Stmt := topS 49
theorem sc_law : FnScope ["_law_script", "_law_k", "_law_flow_here", "_law_kinds_here", "_law_program_here", "_law_some_here", "_law_turn", "_law_one", "_law_at", "_law_knot", "_law_kind"] ["_law_script"] (defScope s_law) := ⟨rfl, rfl, rfl, by decide +kernel, rfl, by decide +kernel, by decide +kernel⟩
def spLaw (K : PySem.W.Frag) : Sp := fun vs H Q _ => ∃ (a : Addr) (ns : List Int), vs = [.ref a] ∧ SqL K H a (ns.map V.int) ∧ ns.length ≤ 63 ∧ ∀ H', Q (.bl true) H'
theorem ok_law (B : Bt mg) (C_l_flow : Cal P w K mg base 2 "_law_flow" ["_law_script", "_law_k"] (spFlow K)) (C_l_draw : Cal P w K mg base 1 "_law_draw" ["_law_flow_here", "_law_many"] (spDraw)) (C_l_some : Cal P w K mg base 29 "_law_some" ["_law_flow_here"] (spSome K)) (C_l_knots : Cal P w K mg base 43 "_law_knots" ["_law_program_here"] (spLKD K ["foo"] 42)) (C_l_wrong : Cal P w K mg base 44 "_law_wrong" ["_law_kinds_here", "_law_program_here"] (spWrong K ["foo"] 42)) (C_l_own : Cal P w K mg base 43 "_law_own" ["_law_kinds_here", "_law_knot"] (spLOA K 42)) (C_l_bad_knot : Cal P w K mg base 4 "_law_bad_knot" ["_law_flow_here", "_law_kinds_here", "_law_kind"] (spBK K ["foo"])) (C_l_replaced : Cal P w K mg base 43 "_law_replaced" ["_law_program_here", "_law_left", "_law_new"] (spRepl K ["foo"] 42)) (C_l_refused : Cal P w K mg base 5 "_law_refused" ["_law_kinds_here", "_law_program_here"] (spRefused K ["foo"])) (C_l_due_kind : Cal P w K mg base 45 "_law_due_kind" ["_law_kinds_here", "_law_program_here"] (spDue K ["foo"] 42)) (C_l_alike : Cal P w K mg base 1 "_law_alike" ["_law_found", "_law_due"] (spAlike K)) {f : Addr} {fd : FuncData} (F : Fun K "law" "law" s_law f fd) : FnOk P w K mg base CX0 46 f fd ["_law_script"] (spLaw K) := by
  refine F.ok sc_law (fun vs H Q E h => ?_) (fun cdv A outer s H vs Q E hr h => ?_)
  · obtain ⟨a, ns, rfl, _⟩ := h
    rfl
  obtain ⟨a, ns, rfl, hS, h63, q⟩ := h
  have C_l_flow := C_l_flow.mono (k := 45) (by decide)
  have C_l_draw := C_l_draw.mono (k := 45) (by decide)
  have C_l_some := C_l_some.mono (k := 45) (by decide)
  have C_l_knots := C_l_knots.mono (k := 45) (by decide)
  have C_l_wrong := C_l_wrong.mono (k := 45) (by decide)
  have C_l_own := C_l_own.mono (k := 45) (by decide)
  have C_l_bad_knot := C_l_bad_knot.mono (k := 45) (by decide)
  have C_l_replaced := C_l_replaced.mono (k := 45) (by decide)
  have C_l_refused := C_l_refused.mono (k := 45) (by decide)
  have C_l_alike := C_l_alike.mono (k := 45) (by decide)
  have hr' : Room 45 _ := hr
  refine ⟨_, (pss_cons (ps_for PassesOwn.never rfl (pi_range1 (by rfl) B.range (pa_cons (pe_callB (call_max2 rfl) (by rfl) B.max PyProof.Rows.boot_max (pa_cons pe_int (pa_cons (pe_callB call_len_seq (by rfl) B.len PySem.boot_len (pa_cons (pe_slice sl_list (pv 0) po_none (po_some pe_int)) pa_nil)) pa_nil))) pa_nil)) (pg_name (i := 1) sc_law.nd rfl (.inl rfl))
        (pss_cons (ps_set (i := 2) sc_law.nd rfl (.inl rfl) (pe_cal C_l_flow hr' (by rfl) (pa_cons (pv 0) (pa_cons (pv 1) pa_nil))))
      (pss_cons (ps_asg (pe_cal C_l_some hr' (by rfl) (pa_cons (pv 2) pa_nil)) (pg_tup rfl (pgs_cons (pg_name (i := 3) sc_law.nd rfl (.inl rfl)) (pgs_cons (pg_name (i := 4) sc_law.nd rfl (.inl rfl)) pgs_nil))))
      (pss_cons (ps_set (i := 5) sc_law.nd rfl (.inl rfl) (fd_lst (fd_cons (fd_var 4) fd_nil)))
      (C8.pss_cut (ps_for PassesOwn.never rfl (pi_range1 (by rfl) B.range (pa_cons (pe_op op_add pe_int (pe_cal C_l_draw hr' (by rfl) (pa_cons (pv 2) (pa_cons pe_int pa_nil)))) pa_nil)) (pg_name (i := 6) sc_law.nd rfl (.inl rfl))
        (pss_cons (ps_set (i := 8) sc_law.nd rfl (.inl rfl) (pe_cal C_l_draw hr' (by rfl) (pa_cons (pv 2) (pa_cons (pe_callB call_len_seq (by rfl) B.len PySem.boot_len (pa_cons (pe_cal C_l_knots hr' (by rfl) (pa_cons (pe_ix ix_list (pv 5) (pe_un un_neg pe_int) (fun _ _ => rfl)) pa_nil)) pa_nil)) pa_nil))))
      (pss_cons (ps_set (i := 9) sc_law.nd rfl (.inl rfl) (pe_ix ix_list (pe_cal C_l_knots hr' (by rfl) (pa_cons (pe_ix ix_list (pv 5) (pe_un un_neg pe_int) (fun _ _ => rfl)) pa_nil)) (pv 8) (fun _ _ => rfl)))
      (pss_cons (ps_set (i := 10) sc_law.nd rfl (.inl rfl) pe_str)
      (C8.pss_cut (ps_if (pt_cmpR op_isN (pe_cal C_l_wrong hr' (by rfl) (pa_cons (pv 3) (pa_cons (pe_ix ix_list (pv 5) (pe_un un_neg pe_int) (fun _ _ => rfl)) pa_nil))) pe_non (nomark _))
        (pss_one (ps_set (i := 10) sc_law.nd rfl (.inl rfl) (pe_cal C_l_own hr' (by rfl) (pa_cons (pv 3) (pa_cons (pv 9) pa_nil)))))
        pss_nil)
      (pss_one (ps_expr (pe_bm PySem.F.plainAttrs_list PySem.F.slot_list_append PySem.F.type_list_append mt_append (pv 5) (pa_cons (pe_cal C_l_replaced hr' (by rfl) (pa_cons (pe_ix ix_list (pv 5) (pe_un un_neg pe_int) (fun _ _ => rfl)) (pa_cons (pe_lst (pa_cons (pv 8) pa_nil)) (pa_cons (pe_cal C_l_bad_knot hr' (by rfl) (pa_cons (pv 2) (pa_cons (pv 3) (pa_cons (pv 10) pa_nil)))) pa_nil)))) pa_nil)))))))))
      (pss_one (ps_for PassesOwn.never rfl (pi_list (pe_op op_cat (pe_revL (pv 5)) (fd_lst (fd_cons fd_non (fd_cons (fd_tupE fd_nil) (fd_cons fd_str (fd_cons fd_int (fd_cons fd_bl (fd_cons (fd_tupE (fd_cons fd_str (fd_cons fd_int fd_nil))) (fd_cons (fd_tupE (fd_cons (fd_tupE fd_nil) fd_nil)) fd_nil)))))))))) (pg_name (i := 7) sc_law.nd rfl (.inl rfl))
        (pss_one (ps_if (pt_not (pt_val (pe_cal C_l_alike hr' (by rfl) (pa_cons (pe_cal C_l_refused hr' (by rfl) (pa_cons (pv 3) (pa_cons (pv 7) pa_nil))) (pa_cons (pe_cal C_l_due_kind hr' (by rfl) (pa_cons (pv 3) (pa_cons (pv 7) pa_nil))) pa_nil)))))
        (pss_one (ps_ret pe_bl))
        pss_nil)))))))))
      (pss_one (ps_ret pe_bl))), ?_⟩
  refine ⟨_, rfl, 4, rfl, a, _, rfl, hS, fun p0 hp0 => ?_⟩
  have sA : Same H (upd H p0 (.lst (cutV (ns.map V.int) none (some 4)))) := same_new hp0
  have lc : (cutV (ns.map V.int) none (some 4)).length ≤ 63 := by
    unfold cutV
    rw [List.length_take, List.length_drop, List.length_map]
    omega
  have hS1 := sA.seq hS
  generalize cutV (ns.map V.int) none (some 4) = cs at lc sA hS1
  refine ⟨p0, cs, rfl, .inl (SqL.of upd_same), 2, _, rfl, ?_⟩
  obtain ⟨m, em, m0, m63⟩ : ∃ m : Int, (if ((cs.length : Nat) : Int) > 2 then ((cs.length : Nat) : Int) else 2) = m ∧ 0 ≤ m ∧ m ≤ 63 := by
    refine ⟨_, rfl, ?_, ?_⟩
    · split <;> omega
    · split <;> omega
  show ∃ n : Int, [V.int (if ((cs.length : Nat) : Int) > 2 then ((cs.length : Nat) : Int) else 2)] = [V.int n] ∧ _
  rw [em]
  generalize upd H p0 (.lst cs) = H1 at sA hS1
  refine ⟨m, rfl, by omega, by omega, for_range (lo := 0) (n := m.toNat) (fun i σ' H' => (∃ ys : List (Option V), ys.length = 10 ∧ σ' = some (.ref a) :: ys) ∧ SqL K H' a (ns.map V.int)) ⟨⟨[none, none, none, none, none, none, none, none, none, none], rfl, rfl⟩, hS1⟩ ?_ ?_⟩
  · rintro i σ' H' hi ⟨⟨ys, hy, rfl⟩, hS'⟩
    obtain ⟨y1, y2, y3, y4, y5, y6, y7, y8, y9, y10, rfl⟩ : ∃ y1 y2 y3 y4 y5 y6 y7 y8 y9 y10, ys = [y1, y2, y3, y4, y5, y6, y7, y8, y9, y10] := by
      match ys, hy with
      | [y1, y2, y3, y4, y5, y6, y7, y8, y9, y10], _ => exact ⟨_, _, _, _, _, _, _, _, _, _, rfl⟩
    refine ⟨_, rfl, _, rfl, a, ns, _, rfl, hS', by omega, by omega, fun f o hf fl => ?_⟩
    have s1 : Same H' (upd H' f o) := same_new hf
    generalize upd H' f o = H2 at s1 fl
    refine ⟨_, rfl, f, rfl, fl, fun t ka v p ks H3 g3 ht hka hk3 hat hwk hsz => ?_⟩
    refine ⟨t, _, rfl, .inl (.inl ht), rfl, _, _, rfl, _, [], rfl, rfl, ?_⟩
    have hk : SqT K H3 ka (kVs ks) := .inl (.inl hka)
    clear ht hka
    have dz := dsz_enc p
    have dd := depD_enc p
    have dl := dep_le p
    have okp : okD ["foo"] (enc p) := okD_enc p
    refine ⟨_, (by show 1 ≤ 1000; decide), ⟨_, _, rfl, ⟨_, rfl, hat.fd⟩, rfl⟩, fun L us H4 s4 L0 hL hus => ?_⟩
    have nLf : L ≠ f := g3.nf L0
    have g34 : Gr [] f H3 H4 := Gr.same g3.fl s4
    have r4 : Row K ["foo"] H4 L 0 := ⟨us, _, hL, hus, rfl, fun d hd => by rw [List.mem_singleton.mp hd]; exact ⟨okp, by omega, by omega⟩⟩
    -- spoilt by and by
    refine ⟨fun σ' H' => (∃ z6 z7 z8 z9 z10 : Option V, σ' = [some (.ref a), some (.int (0 + (i : Int))), some (.ref f), some (.ref ka), some v, some (.ref L), z6, z7, z8, z9, z10]) ∧ Gr [] f H3 H' ∧ ∃ n, n ≤ 4 ∧ Row K ["foo"] H' L n, ?_, ?_⟩
    · refine ⟨_, rfl, f, 3, rfl, g34.fl, by decide, by decide, fun d3 H5 d0 d1 dr5 => ⟨_, _, rfl, rfl, 2 + d3, rfl, by omega, by omega, for_range (lo := 0) (n := (2 + d3).toNat) (fun j σ' H' => (∃ z6 z7 z8 z9 z10 : Option V, σ' = [some (.ref a), some (.int (0 + (i : Int))), some (.ref f), some (.ref ka), some v, some (.ref L), z6, z7, z8, z9, z10]) ∧ Gr [] f H3 H' ∧ Row K ["foo"] H' L j) ⟨⟨_, _, _, _, _, rfl⟩, g34.trans dr5.gr, r4.keep (dr5.tp g34.fl) (dr5.off L nLf)⟩ ?_ ?_⟩⟩
      · rintro j σ' H6 hj ⟨⟨z6, z7, z8, z9, z10, rfl⟩, g6, r6⟩
        have hj4 : j ≤ 3 := by omega
        obtain ⟨us6, u6, d6, e6, at6, fd6, ok6, sz6, dp6⟩ := r6.last
        obtain ⟨kg1, kg2⟩ := kn_good ok6 (by omega)
        -- at
        refine ⟨_, rfl, _, rfl, _, rfl, L, us6, -1, u6, rfl, rfl, SqL.of e6, at6, u6, d6, rfl, fd6, by omega, kg1, kg2, fun l7 us7 H7 s7 l70 hl7 hus7 => ?_⟩
        have g7 := g6.trans (Gr.same g6.fl s7)
        have k7 : 1 ≤ us7.length := by
          rw [hus7.len]
          by_cases c : hasF d6 = true
          · rw [knD_eq c]; simp
          · rw [knD_ne c]; simp
        refine ⟨l7, us7, rfl, .inl (SqL.of hl7), f, _, rfl, g7.fl, by omega, by rw [hus7.len]; omega, fun at_ H8 a0 a1 dr8 => ?_⟩
        have g8 := g7.trans dr8.gr
        have tp8 : Tp K H6 H8 := (Tp.same s7).trans (dr8.tp g7.fl)
        have e8 : H8 L = some (.lst us6) := (dr8.off L nLf).trans (s7 _ _ e6)
        -- knot
        refine ⟨_, rfl, _, rfl, L, us6, -1, u6, rfl, rfl, SqL.of e8, at6, u6, d6, rfl, fd6.keep tp8, by omega, kg1, kg2, fun l9 us9 H9 s9 l90 hl9 hus9 => ?_⟩
        have g9 := g8.trans (Gr.same g8.fl s9)
        have tp9 := tp8.trans (Tp.same (K := K) s9)
        have lt9 : at_.toNat < us9.length := by rw [hus9.len, ← hus7.len]; omega
        obtain ⟨dx, hdx, hfx⟩ := hus9.nth (List.getElem?_eq_getElem lt9)
        refine ⟨_, rfl, l9, us9, at_, _, rfl, rfl, SqL.of hl9, at_of (j := at_.toNat) (by omega) (List.getElem?_eq_getElem lt9), ?_⟩
        generalize us9[at_.toNat] = xk at hfx
        have e9 := s9 _ _ e8
        have k9 := g9.tp g3.fl _ _ hk
        have r9 := r6.keep tp9 (e9.trans e6.symm)
        have fd9 := fd6.keep tp9
        -- kind
        refine ⟨fun σ' H' => (∃ kb : Bool, σ' = [some (.ref a), some (.int (0 + (i : Int))), some (.ref f), some (.ref ka), some v, some (.ref L), some (.int (0 + (j : Int))), z7, some (.int at_), some xk, some (.str (kS kb))]) ∧ Same H9 H', ?_, ?_⟩
        · refine ⟨_, rfl, _, rfl, _, rfl, L, us6, -1, u6, rfl, rfl, SqL.of e9, at6, ka, ks, u6, d6, rfl, k9, fd9, by omega, kg1, kg2, fun uw HA sA' huw => ?_⟩
          cases hw : wrongD ks d6 with
          | none =>
            have e : wrongV ks d6 = .none := by unfold wrongV; rw [hw]
            rw [e] at huw
            cases huw.2
            obtain ⟨ed, hin⟩ := wrong_none hw
            refine ⟨rfl, _, rfl, iteY rfl ?_⟩
            have hdx2 : ((kn (pgOf d6)).map enc)[at_.toNat]? = some dx := by
              rw [← (congrArg knD ed).trans (knD_enc _)]
              exact hdx
            rw [List.getElem?_map] at hdx2
            obtain ⟨r, hr1, er⟩ : ∃ r, (kn (pgOf d6))[at_.toNat]? = some r ∧ enc r = dx := by
              cases e : (kn (pgOf d6))[at_.toNat]? with
              | none => rw [e] at hdx2; cases hdx2
              | some r => rw [e] at hdx2; exact ⟨r, rfl, Option.some.inj hdx2⟩
            have hrm := List.mem_of_getElem? hr1
            have drp := kn_dep _ r hrm
            have dpp : dep (pgOf d6) ≤ 42 := by
              have z := dep_depD (pgOf d6)
              rw [← ed] at z
              omega
            subst er
            exact ⟨_, rfl, _, rfl, ka, ks, xk, r, rfl, Tp.same sA' _ _ k9, (show At K H9 xk r from hfx.2).keep (Tp.same sA'), fun z hz => hin z (kn_trans _ r z hrm hz), by omega, fun HB sB => ⟨⟨own ks r, rfl⟩, sA'.trans sB⟩⟩
          | some xn =>
            obtain ⟨x, n⟩ := xn
            have e : wrongV ks d6 = .tuple [.str x, .int (n : Nat)] := by unfold wrongV; rw [hw]
            rw [e] at huw
            obtain ⟨b, rfl⟩ : ∃ b, uw = .ref b := by
              cases huw.2 with
              | tup qa r => exact ⟨_, rfl⟩
            exact ⟨rfl, _, rfl, iteF ⟨⟨false, rfl⟩, sA'⟩⟩
        rintro _ HA ⟨⟨kb, rfl⟩, sA'⟩
        have gA := g9.trans (Gr.same g9.fl sA')
        have eA := sA' _ _ e9
        have kA := Tp.same (K := K) sA' _ _ k9
        have fdA := fd9.keep (Tp.same sA')
        -- one more
        refine ⟨_, rfl, .inl ⟨rfl, _, SqL.of eA⟩, _, rfl, _, rfl, L, us6, -1, u6, rfl, rfl, SqL.of eA, at6, _, rfl, (by show 1 ≤ sizeLine; decide), fun lf hlf => ?_⟩
        have sB := same_new (o := .lst [.int at_]) hlf
        have nlfL : lf ≠ L := (ne_of_none eA hlf).symm
        have nlff : lf ≠ f := gA.nf hlf
        have eB : (upd HA lf (.lst [.int at_])) lf = some (.lst [.int at_]) := upd_same
        generalize upd HA lf (.lst [.int at_]) = HB at sB eB
        have gB := gA.trans (Gr.same gA.fl sB)
        refine ⟨_, rfl, _, rfl, _, rfl, f, ka, ks, kb, rfl, gB.fl, Tp.same sB _ _ kA, hk3, fun nv dn HC gC hnv hgb => ?_⟩
        have tpC : Tp K HB HC := gC.tp gB.fl
        have eC := gC.ex _ _ eB (by simp [nlff])
        have eLC := gC.ex _ _ (sB _ _ eA) (by simp [nLf])
        refine ⟨u6, d6, lf, at_, nv, dn, rfl, (fdA.keep (Tp.same sB)).keep tpC, ok6, by omega, by omega, eC, hnv, hgb.1, fun u d' c' HD exD hlD hu okd' dpd' dsd' => ?_⟩
        have gBC := gB.trans gC
        have eLD := exD _ _ eLC (by simp [nlfL.symm])
        have tpD : Tp K HC HD := exD.tp fun b hb ys z => by
          rw [List.mem_singleton.mp hb] at z
          rcases z with z | ⟨o, z⟩
          · rw [eC] at z; cases z
          · rw [eC] at z; cases z
        have lf3 : H3 lf = none := by
          cases e : H3 lf with
          | none => rfl
          | some o => rw [gA.ex _ _ e (by simp [nlff])] at hlf; cases hlf
        have gD : Gr [] f H3 HD := ⟨fun b o z nb => exD b o (gBC.ex b o z nb) (by simp [ne_of_none z lf3]), by
          obtain ⟨x, y, z, e, r⟩ := gBC.fl
          exact ⟨x, y, z, exD _ _ e (by simp [nlff.symm]), r⟩⟩
        obtain ⟨us', ds', e', f', hl', g'⟩ := r9
        have eus : us' = us6 := by
          rw [e9] at e'
          cases e'
          rfl
        subst eus
        have tp9D : Tp K H9 HD := (((Tp.same sA').trans (Tp.same sB)).trans tpC).trans tpD
        have tpE : Tp K HD (upd HD L (.lst (us' ++ [u]))) := Tp.lst eLD
        have ul : us'.length = j + 1 := by rw [dpall_len f'.2, hl']
        have crz : cr dn at_ ≤ dsz dn := by unfold cr; split <;> omega
        have z2 := hgb.2.1
        have z3 := hgb.2.2
        have fE := (f'.keep tp9D).keep tpE
        have uE := hu.keep tpE
        refine ⟨L, _, _, rfl, rfl, eLD, smallL (by omega), ⟨_, _, _, _, _, rfl⟩, gD.put L0 nLf, us' ++ [u], ds' ++ [d'], upd_same, ⟨flats_app ds' [d'] fE.1 (by simp [flat.flats, uE.1]), dpall_app fE.2 (.cons uE.2 .nil)⟩, by rw [List.length_append, hl']; rfl, fun d hd => ?_⟩
        rcases List.mem_append.mp hd with z | z
        · have y := g' d z
          exact ⟨y.1, by omega, by omega⟩
        · rw [List.mem_singleton.mp z]
          exact ⟨okd', by omega, by omega⟩
      · rintro σ' H6 ⟨⟨z6, z7, z8, z9, z10, rfl⟩, g6, r6⟩
        exact ⟨⟨_, _, _, _, _, rfl⟩, g6, _, by omega, r6⟩
    rintro _ H5 ⟨⟨z6, z7, z8, z9, z10, rfl⟩, g5, n, n4, r5⟩
    -- each of them
    obtain ⟨us5, ds5, e5, f5, hl5, gd5⟩ := r5
    have ul5 : us5.length = n + 1 := by rw [dpall_len f5.2, hl5]
    refine ⟨_, rfl, L, us5, rfl, SqL.of e5, fun lr hlr => ?_⟩
    have s6 := same_new (o := .lst us5.reverse) hlr
    have e6 : (upd H5 lr (.lst us5.reverse)) lr = some (.lst us5.reverse) := upd_same
    generalize upd H5 lr (.lst us5.reverse) = H6 at s6 e6
    refine ⟨_, (by show 7 ≤ 1000; decide), ⟨_, _, rfl, rfl, ⟨_, _, rfl, ⟨_, rfl, (by show 0 ≤ 1000; decide), rfl⟩, ⟨_, _, rfl, rfl, ⟨_, _, rfl, rfl, ⟨_, _, rfl, rfl, ⟨_, _, rfl, ⟨_, rfl, (by show 2 ≤ 1000; decide), ⟨_, _, rfl, rfl, ⟨_, _, rfl, rfl, rfl⟩⟩⟩, ⟨_, _, rfl, ⟨_, rfl, (by show 1 ≤ 1000; decide), ⟨_, _, rfl, ⟨_, rfl, (by show 0 ≤ 1000; decide), rfl⟩, rfl⟩⟩, rfl⟩⟩⟩⟩⟩⟩⟩, fun l7 us7 H7 s7 l70 hl7 hus7 => ?_⟩
    have gb7 : ∀ x ∈ ([.none, .tuple [], .str "yes", .int 0, .bool true, .tuple [.str "in", .int 0], .tuple [.tuple []]] : List PyData), GB ([("foo" : Str)] : List Str) x := (gb_cons ⟨okNo, (by simp [dsz, dsz.dszs]; try omega), (by simp [depD, depD.depL]; try omega)⟩ (gb_cons ⟨(okT trivial okN), (by simp [dsz, dsz.dszs]; try omega), (by simp [depD, depD.depL]; try omega)⟩ (gb_cons ⟨okS, (by simp [dsz, dsz.dszs]; try omega), (by simp [depD, depD.depL]; try omega)⟩ (gb_cons ⟨okI, (by simp [dsz, dsz.dszs]; try omega), (by simp [depD, depD.depL]; try omega)⟩ (gb_cons ⟨okB, (by simp [dsz, dsz.dszs]; try omega), (by simp [depD, depD.depL]; try omega)⟩ (gb_cons ⟨(okT (.inl rfl) (okC okS (okC okI okN))), (by simp [dsz, dsz.dszs]; try omega), (by simp [depD, depD.depL]; try omega)⟩ (gb_cons ⟨(okT trivial (okC (okT trivial okN) okN)), (by simp [dsz, dsz.dszs]; try omega), (by simp [depD, depD.depL]; try omega)⟩ gb_nil)))))))
    have ul7 : us7.length = 7 := dpall_len hus7.2
    refine ⟨lr, l7, _, _, rfl, rfl, s7 _ _ e6, hl7, by rw [List.length_reverse]; exact small (by omega), fun l8 hl8 => ?_⟩
    have s8 := same_new (o := .lst (us5.reverse ++ us7)) hl8
    have e8 : (upd H7 l8 (.lst (us5.reverse ++ us7))) l8 = some (.lst (us5.reverse ++ us7)) := upd_same
    have all8 : ∀ x ∈ us5.reverse ++ us7, ∃ d, Fd K (upd H7 l8 (.lst (us5.reverse ++ us7))) x d ∧ okD ["foo"] d ∧ dsz d ≤ 300 ∧ depD d ≤ 42 := fun x hx => by
      rcases List.mem_append.mp hx with z | z
      · obtain ⟨j, hj, ej⟩ := List.getElem_of_mem (List.mem_reverse.mp z)
        obtain ⟨d, hd, hD⟩ := dpall_get f5.2 j x (by rw [List.getElem?_eq_getElem hj, ej])
        have y := gd5 d (List.mem_of_getElem? hd)
        exact ⟨d, (show Fd K H5 x d from ⟨flats_nth ds5 f5.1 _ d hd, hD⟩).keep (Tp.same (s6.trans (s7.trans s8))), y.1, by omega, by omega⟩
      · obtain ⟨j, hj, ej⟩ := List.getElem_of_mem z
        obtain ⟨d, hd, hD⟩ := dpall_get hus7.2 j x (by rw [List.getElem?_eq_getElem hj, ej])
        have y := gb7 d (List.mem_of_getElem? hd)
        exact ⟨d, (show Fd K H7 x d from ⟨flats_nth _ hus7.1 _ d hd, hD⟩).keep (Tp.same s8), y.1, by have := y.2.1; omega, by have := y.2.2; omega⟩
    have len8 : (us5.reverse ++ us7).length ≤ 100 := by rw [List.length_append, List.length_reverse]; omega
    have s58 := s6.trans (s7.trans s8)
    generalize upd H7 l8 (.lst (us5.reverse ++ us7)) = H8 at e8 all8 s58
    generalize us5.reverse ++ us7 = xs at e8 all8 len8
    have k8 := Tp.same (K := K) s58 _ _ (g5.tp g3.fl _ _ hk)
    refine ⟨l8, rfl, ⟨_, SqL.of e8⟩, for_list (K := K) (a := l8) (xs := xs) (fun j σ' H' => (∃ z6 z7 z8 z9 z10 : Option V, σ' = [some (.ref a), some (.int (0 + (i : Int))), some (.ref f), some (.ref ka), some v, some (.ref L), z6, z7, z8, z9, z10]) ∧ Same H8 H') ?_ ?_ ?_ ?_⟩
    · exact ⟨⟨_, _, _, _, _, rfl⟩, Same.refl _⟩
    · rintro j σ' H9 _ ⟨_, s9⟩
      exact SqL.of (s9 _ _ e8)
    · rintro j x σ' H9 hx ⟨⟨z6, z7, z8, z9, z10, rfl⟩, s9⟩
      obtain ⟨d, hd, okd, szd, dpd⟩ := all8 x (List.mem_of_getElem? hx)
      obtain ⟨kg1, kg2⟩ := kn_good okd (by omega)
      have k9 := Tp.same (K := K) s9 _ _ k8
      refine ⟨_, rfl, _, rfl, ka, ks, x, d, rfl, k9, hd.keep (Tp.same s9), kg1, kg2, fun u1 HB sB hu1 => ?_⟩
      refine ⟨_, rfl, _, rfl, ka, ks, x, d, rfl, Tp.same sB _ _ k9, hd.keep (Tp.same (s9.trans sB)), okd, by omega, dpd, fun u2 HC sC hu2 => ?_⟩
      have dsz4 := due_sz ks d
      exact ⟨u1, u2, dueD ks d, rfl, hu1.keep (Tp.same sC), hu2, by omega, fun HD sD => ⟨_, rfl, ⟨_, _, _, _, _, rfl⟩, s9.trans (sB.trans (sC.trans sD))⟩⟩
    · rintro σ' H9 ⟨⟨z6, z7, z8, z9, z10, rfl⟩, s9⟩
      refine ⟨⟨_, rfl, rfl⟩, ?_⟩
      have g9 := g5.trans (Gr.same g5.fl (s58.trans s9))
      exact ex_seq hf (fun b o z nb => g9.ex b o (g3.ex b o (s1 _ _ z) nb) nb) hS'
  · rintro σ' H' _
    exact q _
end
end Lm

set_option Elab.async false
set_option linter.all false
set_option maxRecDepth 100000
set_option maxHeartbeats 2000000
namespace Lm
open PySem PySem.Spec PyProof.Rows L2 LmR
theorem defAt_mk {K : PySem.W.Frag} {h : Heap} {mg : Str → Option Value} {x : Str} {st : Stmt} {ps : List Str} {f : Addr} {oc : Value} {od an : Option Addr} {osl : Array (Option Value)} {kV doc pm cdv ct : Value} (X : K.In h) (G : h.Ns mainGlobals mg)
    (a : PySem.W.nsIn K mainGlobals x = some (some (.ref f))) (l : K.lookup f = some ⟨oc, od, .func (PySem.W.fnOf x x (defArgs st) (defBody st) (defScope st) .none kV doc pm an cdv ct), osl⟩) (c : PySem.W.codeIn K cdv x = true) (k : PySem.W.keepIn K (.ref f) = true)
    (hb : ∀ (kV doc pm : Value) (an : Option Addr) (cdv ct : Value) (us : List Value), us.length = ps.length → bindArgs (PySem.W.fnOf x x (defArgs st) (defBody st) (defScope st) .none kV doc pm an cdv ct) ⟨us, []⟩ = pure (ps.zip us)) : DefAt K mg x st ps :=
  ⟨f, _, fun_mk l c k, (fun_mk l c k).binds hb, PySem.W.mg_of X G a⟩
theorem all_mk {l : PySem.W.OpenLaw} {w : World} {K : PySem.W.Frag} {h : Heap} {mg : Str → Option Value} {fa : Addr} (X : K.In h) (G : h.Ns mainGlobals mg) (hfa : mg "law" = some (.ref fa))
    {f0 : Addr} {od0 an0 : Option Addr} {sl0 : Array (Option Value)} {oc0 kV0 dc0 pm0 cd0 ct0 : Value} {f1 : Addr} {od1 an1 : Option Addr} {sl1 : Array (Option Value)} {oc1 kV1 dc1 pm1 cd1 ct1 : Value} {f2 : Addr} {od2 an2 : Option Addr} {sl2 : Array (Option Value)} {oc2 kV2 dc2 pm2 cd2 ct2 : Value} {f3 : Addr} {od3 an3 : Option Addr} {sl3 : Array (Option Value)} {oc3 kV3 dc3 pm3 cd3 ct3 : Value} {f4 : Addr} {od4 an4 : Option Addr} {sl4 : Array (Option Value)} {oc4 kV4 dc4 pm4 cd4 ct4 : Value} {f5 : Addr} {od5 an5 : Option Addr} {sl5 : Array (Option Value)} {oc5 kV5 dc5 pm5 cd5 ct5 : Value} {f6 : Addr} {od6 an6 : Option Addr} {sl6 : Array (Option Value)} {oc6 kV6 dc6 pm6 cd6 ct6 : Value} {f7 : Addr} {od7 an7 : Option Addr} {sl7 : Array (Option Value)} {oc7 kV7 dc7 pm7 cd7 ct7 : Value} {f8 : Addr} {od8 an8 : Option Addr} {sl8 : Array (Option Value)} {oc8 kV8 dc8 pm8 cd8 ct8 : Value} {f9 : Addr} {od9 an9 : Option Addr} {sl9 : Array (Option Value)} {oc9 kV9 dc9 pm9 cd9 ct9 : Value} {f10 : Addr} {od10 an10 : Option Addr} {sl10 : Array (Option Value)} {oc10 kV10 dc10 pm10 cd10 ct10 : Value} {f11 : Addr} {od11 an11 : Option Addr} {sl11 : Array (Option Value)} {oc11 kV11 dc11 pm11 cd11 ct11 : Value} {f12 : Addr} {od12 an12 : Option Addr} {sl12 : Array (Option Value)} {oc12 kV12 dc12 pm12 cd12 ct12 : Value} {f13 : Addr} {od13 an13 : Option Addr} {sl13 : Array (Option Value)} {oc13 kV13 dc13 pm13 cd13 ct13 : Value} {f14 : Addr} {od14 an14 : Option Addr} {sl14 : Array (Option Value)} {oc14 kV14 dc14 pm14 cd14 ct14 : Value} {f15 : Addr} {od15 an15 : Option Addr} {sl15 : Array (Option Value)} {oc15 kV15 dc15 pm15 cd15 ct15 : Value} {f16 : Addr} {od16 an16 : Option Addr} {sl16 : Array (Option Value)} {oc16 kV16 dc16 pm16 cd16 ct16 : Value} {f17 : Addr} {od17 an17 : Option Addr} {sl17 : Array (Option Value)} {oc17 kV17 dc17 pm17 cd17 ct17 : Value} {f18 : Addr} {od18 an18 : Option Addr} {sl18 : Array (Option Value)} {oc18 kV18 dc18 pm18 cd18 ct18 : Value} {f19 : Addr} {od19 an19 : Option Addr} {sl19 : Array (Option Value)} {oc19 kV19 dc19 pm19 cd19 ct19 : Value} {f20 : Addr} {od20 an20 : Option Addr} {sl20 : Array (Option Value)} {oc20 kV20 dc20 pm20 cd20 ct20 : Value} {f21 : Addr} {od21 an21 : Option Addr} {sl21 : Array (Option Value)} {oc21 kV21 dc21 pm21 cd21 ct21 : Value} {f22 : Addr} {od22 an22 : Option Addr} {sl22 : Array (Option Value)} {oc22 kV22 dc22 pm22 cd22 ct22 : Value} {f23 : Addr} {od23 an23 : Option Addr} {sl23 : Array (Option Value)} {oc23 kV23 dc23 pm23 cd23 ct23 : Value} {f24 : Addr} {od24 an24 : Option Addr} {sl24 : Array (Option Value)} {oc24 kV24 dc24 pm24 cd24 ct24 : Value} {f25 : Addr} {od25 an25 : Option Addr} {sl25 : Array (Option Value)} {oc25 kV25 dc25 pm25 cd25 ct25 : Value} {f26 : Addr} {od26 an26 : Option Addr} {sl26 : Array (Option Value)} {oc26 kV26 dc26 pm26 cd26 ct26 : Value} {f27 : Addr} {od27 an27 : Option Addr} {sl27 : Array (Option Value)} {oc27 kV27 dc27 pm27 cd27 ct27 : Value} {f28 : Addr} {od28 an28 : Option Addr} {sl28 : Array (Option Value)} {oc28 kV28 dc28 pm28 cd28 ct28 : Value} {f29 : Addr} {od29 an29 : Option Addr} {sl29 : Array (Option Value)} {oc29 kV29 dc29 pm29 cd29 ct29 : Value} {f30 : Addr} {od30 an30 : Option Addr} {sl30 : Array (Option Value)} {oc30 kV30 dc30 pm30 cd30 ct30 : Value} {f31 : Addr} {od31 an31 : Option Addr} {sl31 : Array (Option Value)} {oc31 kV31 dc31 pm31 cd31 ct31 : Value} {f32 : Addr} {od32 an32 : Option Addr} {sl32 : Array (Option Value)} {oc32 kV32 dc32 pm32 cd32 ct32 : Value} {dF : Addr} {esF : Array DictEntry} {nF : Nat} {t0 u0 : Addr} {dt0 du0 : Option Addr} {st0 su0 : Array (Option Value)} {nt0 nu0 : Nat} {q0_0 : Tok} {t1 u1 : Addr} {dt1 du1 : Option Addr} {st1 su1 : Array (Option Value)} {nt1 nu1 : Nat} {q0_1 q1_1 : Tok} {t2 u2 : Addr} {dt2 du2 : Option Addr} {st2 su2 : Array (Option Value)} {nt2 nu2 : Nat} {q0_2 q1_2 : Tok} {t3 u3 : Addr} {dt3 du3 : Option Addr} {st3 su3 : Array (Option Value)} {nt3 nu3 : Nat} {q0_3 q1_3 : Tok} {t4 u4 : Addr} {dt4 du4 : Option Addr} {st4 su4 : Array (Option Value)} {nt4 nu4 : Nat} {q0_4 q1_4 q2_4 : Tok} {t5 u5 : Addr} {dt5 du5 : Option Addr} {st5 su5 : Array (Option Value)} {nt5 nu5 : Nat} {q0_5 q1_5 q2_5 q3_5 : Tok} {t6 u6 : Addr} {dt6 du6 : Option Addr} {st6 su6 : Array (Option Value)} {nt6 nu6 : Nat} {q0_6 q1_6 q2_6 q3_6 : Tok} {t7 u7 : Addr} {dt7 du7 : Option Addr} {st7 su7 : Array (Option Value)} {nt7 nu7 : Nat} {q0_7 q1_7 q2_7 q3_7 : Tok} {t8 u8 : Addr} {dt8 du8 : Option Addr} {st8 su8 : Array (Option Value)} {nt8 nu8 : Nat} {q0_8 q1_8 q2_8 : Tok} {t9 u9 : Addr} {dt9 du9 : Option Addr} {st9 su9 : Array (Option Value)} {nt9 nu9 : Nat} {q0_9 q1_9 q2_9 q3_9 : Tok} {t10 u10 : Addr} {dt10 du10 : Option Addr} {st10 su10 : Array (Option Value)} {nt10 nu10 : Nat} {q0_10 q1_10 q2_10 q3_10 : Tok} {t11 u11 : Addr} {dt11 du11 : Option Addr} {st11 su11 : Array (Option Value)} {nt11 nu11 : Nat} {q0_11 q2_11 : Tok} {c_NoProgram i_NoProgram u_NoProgram N_NoProgram : Addr} {nm_NoProgram qn_NoProgram : Str} {bs_NoProgram sub_NoProgram : List Value} {sn_NoProgram : List Str} {ab_NoProgram : Bool} {col_NoProgram : Option Bool} {dd_NoProgram od_NoProgram an_NoProgram : Option Addr} {m0_NoProgram m1_NoProgram m2_NoProgram m3_NoProgram m5_NoProgram : Option Value} {osl_NoProgram : Array (Option Value)} {oc_NoProgram kV_NoProgram doc_NoProgram pm_NoProgram cdv_NoProgram ct_NoProgram : Value} {w0 w1 w2 w3 w4 w5 w6 w7 w8 w9 w10 w11 : Addr}
    (a0 : PySem.W.nsIn K mainGlobals "kind_of" = some (some (.ref f0))) (l0 : K.lookup f0 = some ⟨oc0, od0, .func (PySem.W.fnOf "kind_of" "kind_of" (defArgs s_kind_of) (defBody s_kind_of) (defScope s_kind_of) .none kV0 dc0 pm0 an0 cd0 ct0), sl0⟩) (c0 : PySem.W.codeIn K cd0 "kind_of" = true) (k0 : PySem.W.keepIn K (.ref f0) = true)
    (a1 : PySem.W.nsIn K mainGlobals "knots" = some (some (.ref f1))) (l1 : K.lookup f1 = some ⟨oc1, od1, .func (PySem.W.fnOf "knots" "knots" (defArgs s_knots) (defBody s_knots) (defScope s_knots) .none kV1 dc1 pm1 an1 cd1 ct1), sl1⟩) (c1 : PySem.W.codeIn K cd1 "knots" = true) (k1 : PySem.W.keepIn K (.ref f1) = true)
    (a2 : PySem.W.nsIn K mainGlobals "is_whole" = some (some (.ref f2))) (l2 : K.lookup f2 = some ⟨oc2, od2, .func (PySem.W.fnOf "is_whole" "is_whole" (defArgs s_is_whole) (defBody s_is_whole) (defScope s_is_whole) .none kV2 dc2 pm2 an2 cd2 ct2), sl2⟩) (c2 : PySem.W.codeIn K cd2 "is_whole" = true) (k2 : PySem.W.keepIn K (.ref f2) = true)
    (a3 : PySem.W.nsIn K mainGlobals "has_form" = some (some (.ref f3))) (l3 : K.lookup f3 = some ⟨oc3, od3, .func (PySem.W.fnOf "has_form" "has_form" (defArgs s_has_form) (defBody s_has_form) (defScope s_has_form) .none kV3 dc3 pm3 an3 cd3 ct3), sl3⟩) (c3 : PySem.W.codeIn K cd3 "has_form" = true) (k3 : PySem.W.keepIn K (.ref f3) = true)
    (a4 : PySem.W.nsIn K mainGlobals "many_numbers" = some (some (.ref f4))) (l4 : K.lookup f4 = some ⟨oc4, od4, .func (PySem.W.fnOf "many_numbers" "many_numbers" (defArgs s_many_numbers) (defBody s_many_numbers) (defScope s_many_numbers) .none kV4 dc4 pm4 an4 cd4 ct4), sl4⟩) (c4 : PySem.W.codeIn K cd4 "many_numbers" = true) (k4 : PySem.W.keepIn K (.ref f4) = true)
    (a5 : PySem.W.nsIn K mainGlobals "many_parts" = some (some (.ref f5))) (l5 : K.lookup f5 = some ⟨oc5, od5, .func (PySem.W.fnOf "many_parts" "many_parts" (defArgs s_many_parts) (defBody s_many_parts) (defScope s_many_parts) .none kV5 dc5 pm5 an5 cd5 ct5), sl5⟩) (c5 : PySem.W.codeIn K cd5 "many_parts" = true) (k5 : PySem.W.keepIn K (.ref f5) = true)
    (a6 : PySem.W.nsIn K mainGlobals "parts_of" = some (some (.ref f6))) (l6 : K.lookup f6 = some ⟨oc6, od6, .func (PySem.W.fnOf "parts_of" "parts_of" (defArgs s_parts_of) (defBody s_parts_of) (defScope s_parts_of) .none kV6 dc6 pm6 an6 cd6 ct6), sl6⟩) (c6 : PySem.W.codeIn K cd6 "parts_of" = true) (k6 : PySem.W.keepIn K (.ref f6) = true)
    (a7 : PySem.W.nsIn K mainGlobals "taken" = some (some (.ref f7))) (l7 : K.lookup f7 = some ⟨oc7, od7, .func (PySem.W.fnOf "taken" "taken" (defArgs s_taken) (defBody s_taken) (defScope s_taken) .none kV7 dc7 pm7 an7 cd7 ct7), sl7⟩) (c7 : PySem.W.codeIn K cd7 "taken" = true) (k7 : PySem.W.keepIn K (.ref f7) = true)
    (a8 : PySem.W.nsIn K mainGlobals "refuse_forms" = some (some (.ref f8))) (l8 : K.lookup f8 = some ⟨oc8, od8, .func (PySem.W.fnOf "refuse_forms" "refuse_forms" (defArgs s_refuse_forms) (defBody s_refuse_forms) (defScope s_refuse_forms) .none kV8 dc8 pm8 an8 cd8 ct8), sl8⟩) (c8 : PySem.W.codeIn K cd8 "refuse_forms" = true) (k8 : PySem.W.keepIn K (.ref f8) = true)
    (a9 : PySem.W.nsIn K mainGlobals "refuse_inputs" = some (some (.ref f9))) (l9 : K.lookup f9 = some ⟨oc9, od9, .func (PySem.W.fnOf "refuse_inputs" "refuse_inputs" (defArgs s_refuse_inputs) (defBody s_refuse_inputs) (defScope s_refuse_inputs) .none kV9 dc9 pm9 an9 cd9 ct9), sl9⟩) (c9 : PySem.W.codeIn K cd9 "refuse_inputs" = true) (k9 : PySem.W.keepIn K (.ref f9) = true)
    (a10 : PySem.W.nsIn K mainGlobals "parts_fit" = some (some (.ref f10))) (l10 : K.lookup f10 = some ⟨oc10, od10, .func (PySem.W.fnOf "parts_fit" "parts_fit" (defArgs s_parts_fit) (defBody s_parts_fit) (defScope s_parts_fit) .none kV10 dc10 pm10 an10 cd10 ct10), sl10⟩) (c10 : PySem.W.codeIn K cd10 "parts_fit" = true) (k10 : PySem.W.keepIn K (.ref f10) = true)
    (a11 : PySem.W.nsIn K mainGlobals "own_kind" = some (some (.ref f11))) (l11 : K.lookup f11 = some ⟨oc11, od11, .func (PySem.W.fnOf "own_kind" "own_kind" (defArgs s_own_kind) (defBody s_own_kind) (defScope s_own_kind) .none kV11 dc11 pm11 an11 cd11 ct11), sl11⟩) (c11 : PySem.W.codeIn K cd11 "own_kind" = true) (k11 : PySem.W.keepIn K (.ref f11) = true)
    (a12 : PySem.W.nsIn K mainGlobals "_law_cell" = some (some (.ref f12))) (l12 : K.lookup f12 = some ⟨oc12, od12, .func (PySem.W.fnOf "_law_cell" "_law_cell" (defArgs s_l_cell) (defBody s_l_cell) (defScope s_l_cell) .none kV12 dc12 pm12 an12 cd12 ct12), sl12⟩) (c12 : PySem.W.codeIn K cd12 "_law_cell" = true) (k12 : PySem.W.keepIn K (.ref f12) = true)
    (a13 : PySem.W.nsIn K mainGlobals "_law_flow" = some (some (.ref f13))) (l13 : K.lookup f13 = some ⟨oc13, od13, .func (PySem.W.fnOf "_law_flow" "_law_flow" (defArgs s_l_flow) (defBody s_l_flow) (defScope s_l_flow) .none kV13 dc13 pm13 an13 cd13 ct13), sl13⟩) (c13 : PySem.W.codeIn K cd13 "_law_flow" = true) (k13 : PySem.W.keepIn K (.ref f13) = true)
    (a14 : PySem.W.nsIn K mainGlobals "_law_draw" = some (some (.ref f14))) (l14 : K.lookup f14 = some ⟨oc14, od14, .func (PySem.W.fnOf "_law_draw" "_law_draw" (defArgs s_l_draw) (defBody s_l_draw) (defScope s_l_draw) .none kV14 dc14 pm14 an14 cd14 ct14), sl14⟩) (c14 : PySem.W.codeIn K cd14 "_law_draw" = true) (k14 : PySem.W.keepIn K (.ref f14) = true)
    (a15 : PySem.W.nsIn K mainGlobals "_law_numeral" = some (some (.ref f15))) (l15 : K.lookup f15 = some ⟨oc15, od15, .func (PySem.W.fnOf "_law_numeral" "_law_numeral" (defArgs s_l_numeral) (defBody s_l_numeral) (defScope s_l_numeral) .none kV15 dc15 pm15 an15 cd15 ct15), sl15⟩) (c15 : PySem.W.codeIn K cd15 "_law_numeral" = true) (k15 : PySem.W.keepIn K (.ref f15) = true)
    (a16 : PySem.W.nsIn K mainGlobals "_law_leaf" = some (some (.ref f16))) (l16 : K.lookup f16 = some ⟨oc16, od16, .func (PySem.W.fnOf "_law_leaf" "_law_leaf" (defArgs s_l_leaf) (defBody s_l_leaf) (defScope s_l_leaf) .none kV16 dc16 pm16 an16 cd16 ct16), sl16⟩) (c16 : PySem.W.codeIn K cd16 "_law_leaf" = true) (k16 : PySem.W.keepIn K (.ref f16) = true)
    (a17 : PySem.W.nsIn K mainGlobals "_law_made" = some (some (.ref f17))) (l17 : K.lookup f17 = some ⟨oc17, od17, .func (PySem.W.fnOf "_law_made" "_law_made" (defArgs s_l_made) (defBody s_l_made) (defScope s_l_made) .none kV17 dc17 pm17 an17 cd17 ct17), sl17⟩) (c17 : PySem.W.codeIn K cd17 "_law_made" = true) (k17 : PySem.W.keepIn K (.ref f17) = true)
    (a18 : PySem.W.nsIn K mainGlobals "_law_kinds" = some (some (.ref f18))) (l18 : K.lookup f18 = some ⟨oc18, od18, .func (PySem.W.fnOf "_law_kinds" "_law_kinds" (defArgs s_l_kinds) (defBody s_l_kinds) (defScope s_l_kinds) .none kV18 dc18 pm18 an18 cd18 ct18), sl18⟩) (c18 : PySem.W.codeIn K cd18 "_law_kinds" = true) (k18 : PySem.W.keepIn K (.ref f18) = true)
    (a19 : PySem.W.nsIn K mainGlobals "_law_program" = some (some (.ref f19))) (l19 : K.lookup f19 = some ⟨oc19, od19, .func (PySem.W.fnOf "_law_program" "_law_program" (defArgs s_l_program) (defBody s_l_program) (defScope s_l_program) .none kV19 dc19 pm19 an19 cd19 ct19), sl19⟩) (c19 : PySem.W.codeIn K cd19 "_law_program" = true) (k19 : PySem.W.keepIn K (.ref f19) = true)
    (a20 : PySem.W.nsIn K mainGlobals "_law_some" = some (some (.ref f20))) (l20 : K.lookup f20 = some ⟨oc20, od20, .func (PySem.W.fnOf "_law_some" "_law_some" (defArgs s_l_some) (defBody s_l_some) (defScope s_l_some) .none kV20 dc20 pm20 an20 cd20 ct20), sl20⟩) (c20 : PySem.W.codeIn K cd20 "_law_some" = true) (k20 : PySem.W.keepIn K (.ref f20) = true)
    (a21 : PySem.W.nsIn K mainGlobals "_law_has_form" = some (some (.ref f21))) (l21 : K.lookup f21 = some ⟨oc21, od21, .func (PySem.W.fnOf "_law_has_form" "_law_has_form" (defArgs s_l_has_form) (defBody s_l_has_form) (defScope s_l_has_form) .none kV21 dc21 pm21 an21 cd21 ct21), sl21⟩) (c21 : PySem.W.codeIn K cd21 "_law_has_form" = true) (k21 : PySem.W.keepIn K (.ref f21) = true)
    (a22 : PySem.W.nsIn K mainGlobals "_law_parts" = some (some (.ref f22))) (l22 : K.lookup f22 = some ⟨oc22, od22, .func (PySem.W.fnOf "_law_parts" "_law_parts" (defArgs s_l_parts) (defBody s_l_parts) (defScope s_l_parts) .none kV22 dc22 pm22 an22 cd22 ct22), sl22⟩) (c22 : PySem.W.codeIn K cd22 "_law_parts" = true) (k22 : PySem.W.keepIn K (.ref f22) = true)
    (a23 : PySem.W.nsIn K mainGlobals "_law_knots" = some (some (.ref f23))) (l23 : K.lookup f23 = some ⟨oc23, od23, .func (PySem.W.fnOf "_law_knots" "_law_knots" (defArgs s_l_knots) (defBody s_l_knots) (defScope s_l_knots) .none kV23 dc23 pm23 an23 cd23 ct23), sl23⟩) (c23 : PySem.W.codeIn K cd23 "_law_knots" = true) (k23 : PySem.W.keepIn K (.ref f23) = true)
    (a24 : PySem.W.nsIn K mainGlobals "_law_own" = some (some (.ref f24))) (l24 : K.lookup f24 = some ⟨oc24, od24, .func (PySem.W.fnOf "_law_own" "_law_own" (defArgs s_l_own) (defBody s_l_own) (defScope s_l_own) .none kV24 dc24 pm24 an24 cd24 ct24), sl24⟩) (c24 : PySem.W.codeIn K cd24 "_law_own" = true) (k24 : PySem.W.keepIn K (.ref f24) = true)
    (a25 : PySem.W.nsIn K mainGlobals "_law_wrong" = some (some (.ref f25))) (l25 : K.lookup f25 = some ⟨oc25, od25, .func (PySem.W.fnOf "_law_wrong" "_law_wrong" (defArgs s_l_wrong) (defBody s_l_wrong) (defScope s_l_wrong) .none kV25 dc25 pm25 an25 cd25 ct25), sl25⟩) (c25 : PySem.W.codeIn K cd25 "_law_wrong" = true) (k25 : PySem.W.keepIn K (.ref f25) = true)
    (a26 : PySem.W.nsIn K mainGlobals "_law_replaced" = some (some (.ref f26))) (l26 : K.lookup f26 = some ⟨oc26, od26, .func (PySem.W.fnOf "_law_replaced" "_law_replaced" (defArgs s_l_replaced) (defBody s_l_replaced) (defScope s_l_replaced) .none kV26 dc26 pm26 an26 cd26 ct26), sl26⟩) (c26 : PySem.W.codeIn K cd26 "_law_replaced" = true) (k26 : PySem.W.keepIn K (.ref f26) = true)
    (a27 : PySem.W.nsIn K mainGlobals "_law_alike" = some (some (.ref f27))) (l27 : K.lookup f27 = some ⟨oc27, od27, .func (PySem.W.fnOf "_law_alike" "_law_alike" (defArgs s_l_alike) (defBody s_l_alike) (defScope s_l_alike) .none kV27 dc27 pm27 an27 cd27 ct27), sl27⟩) (c27 : PySem.W.codeIn K cd27 "_law_alike" = true) (k27 : PySem.W.keepIn K (.ref f27) = true)
    (a28 : PySem.W.nsIn K mainGlobals "_law_sorts" = some (some (.ref f28))) (l28 : K.lookup f28 = some ⟨oc28, od28, .func (PySem.W.fnOf "_law_sorts" "_law_sorts" (defArgs s_l_sorts) (defBody s_l_sorts) (defScope s_l_sorts) .none kV28 dc28 pm28 an28 cd28 ct28), sl28⟩) (c28 : PySem.W.codeIn K cd28 "_law_sorts" = true) (k28 : PySem.W.keepIn K (.ref f28) = true)
    (a29 : PySem.W.nsIn K mainGlobals "_law_refused" = some (some (.ref f29))) (l29 : K.lookup f29 = some ⟨oc29, od29, .func (PySem.W.fnOf "_law_refused" "_law_refused" (defArgs s_l_refused) (defBody s_l_refused) (defScope s_l_refused) .none kV29 dc29 pm29 an29 cd29 ct29), sl29⟩) (c29 : PySem.W.codeIn K cd29 "_law_refused" = true) (k29 : PySem.W.keepIn K (.ref f29) = true)
    (a30 : PySem.W.nsIn K mainGlobals "_law_due_kind" = some (some (.ref f30))) (l30 : K.lookup f30 = some ⟨oc30, od30, .func (PySem.W.fnOf "_law_due_kind" "_law_due_kind" (defArgs s_l_due_kind) (defBody s_l_due_kind) (defScope s_l_due_kind) .none kV30 dc30 pm30 an30 cd30 ct30), sl30⟩) (c30 : PySem.W.codeIn K cd30 "_law_due_kind" = true) (k30 : PySem.W.keepIn K (.ref f30) = true)
    (a31 : PySem.W.nsIn K mainGlobals "_law_bad_knot" = some (some (.ref f31))) (l31 : K.lookup f31 = some ⟨oc31, od31, .func (PySem.W.fnOf "_law_bad_knot" "_law_bad_knot" (defArgs s_l_bad_knot) (defBody s_l_bad_knot) (defScope s_l_bad_knot) .none kV31 dc31 pm31 an31 cd31 ct31), sl31⟩) (c31 : PySem.W.codeIn K cd31 "_law_bad_knot" = true) (k31 : PySem.W.keepIn K (.ref f31) = true)
    (a32 : PySem.W.nsIn K mainGlobals "law" = some (some (.ref f32))) (l32 : K.lookup f32 = some ⟨oc32, od32, .func (PySem.W.fnOf "law" "law" (defArgs s_law) (defBody s_law) (defScope s_law) .none kV32 dc32 pm32 an32 cd32 ct32), sl32⟩) (c32 : PySem.W.codeIn K cd32 "law" = true) (k32 : PySem.W.keepIn K (.ref f32) = true)
    (z0 : PySem.W.nsIn K mainGlobals "len" = some none)
    (z1 : PySem.W.nsIn K mainGlobals "isinstance" = some none)
    (z2 : PySem.W.nsIn K mainGlobals "tuple" = some none)
    (z3 : PySem.W.nsIn K mainGlobals "list" = some none)
    (z4 : PySem.W.nsIn K mainGlobals "str" = some none)
    (z5 : PySem.W.nsIn K mainGlobals "int" = some none)
    (z6 : PySem.W.nsIn K mainGlobals "bool" = some none)
    (z7 : PySem.W.nsIn K mainGlobals "range" = some none)
    (z8 : PySem.W.nsIn K mainGlobals "zip" = some none)
    (z9 : PySem.W.nsIn K mainGlobals "enumerate" = some none)
    (z10 : PySem.W.nsIn K mainGlobals "reversed" = some none)
    (z11 : PySem.W.nsIn K mainGlobals "max" = some none)
    (z12 : PySem.W.nsIn K mainGlobals "all" = some none)
    (z13 : PySem.W.nsIn K mainGlobals "min" = some none)
    (z14 : PySem.W.nsIn K mainGlobals "sum" = some none)
    (z15 : PySem.W.nsIn K mainGlobals "any" = some none)
    (z16 : PySem.W.nsIn K mainGlobals "sorted" = some none)
    (z17 : PySem.W.nsIn K mainGlobals "set" = some none)
    (z18 : PySem.W.nsIn K mainGlobals "repr" = some none)
    (z19 : PySem.W.nsIn K mainGlobals "abs" = some none)
    (aF : PySem.W.nsIn K mainGlobals "FORMS" = some (some (.ref dF))) (lF : K.lookup dF = some ⟨.type "dict", none, .dict esF nF, #[]⟩) (kF : PySem.W.KeysLit w.params esF.toList) (wF : (dF == sysModules) = false)
    (e0 : PySem.W.nsIn K dF "in" = some (some (.ref t0))) (m0 : K.lookup t0 = some ⟨.type "tuple", dt0, .seq #[.int 1 q0_0, .ref u0, .none] nt0, st0⟩) (v0 : K.lookup u0 = some ⟨.type "tuple", du0, .seq #[] nu0, su0⟩)
    (e1 : PySem.W.nsIn K dF "num" = some (some (.ref t1))) (m1 : K.lookup t1 = some ⟨.type "tuple", dt1, .seq #[.int 1 q0_1, .ref u1, .str "num" q1_1] nt1, st1⟩) (v1 : K.lookup u1 = some ⟨.type "tuple", du1, .seq #[] nu1, su1⟩)
    (e2 : PySem.W.nsIn K dF "yes" = some (some (.ref t2))) (m2 : K.lookup t2 = some ⟨.type "tuple", dt2, .seq #[.int 0 q0_2, .ref u2, .str "truth" q1_2] nt2, st2⟩) (v2 : K.lookup u2 = some ⟨.type "tuple", du2, .seq #[] nu2, su2⟩)
    (e3 : PySem.W.nsIn K dF "no" = some (some (.ref t3))) (m3 : K.lookup t3 = some ⟨.type "tuple", dt3, .seq #[.int 0 q0_3, .ref u3, .str "truth" q1_3] nt3, st3⟩) (v3 : K.lookup u3 = some ⟨.type "tuple", du3, .seq #[] nu3, su3⟩)
    (e4 : PySem.W.nsIn K dF "plus" = some (some (.ref t4))) (m4 : K.lookup t4 = some ⟨.type "tuple", dt4, .seq #[.int 1 q0_4, .ref u4, .str "num" q1_4] nt4, st4⟩) (v4 : K.lookup u4 = some ⟨.type "tuple", du4, .seq #[.str "num" q2_4] nu4, su4⟩)
    (e5 : PySem.W.nsIn K dF "least" = some (some (.ref t5))) (m5 : K.lookup t5 = some ⟨.type "tuple", dt5, .seq #[.int 0 q0_5, .ref u5, .str "num" q1_5] nt5, st5⟩) (v5 : K.lookup u5 = some ⟨.type "tuple", du5, .seq #[.str "num" q2_5, .str "num" q3_5] nu5, su5⟩)
    (e6 : PySem.W.nsIn K dF "most" = some (some (.ref t6))) (m6 : K.lookup t6 = some ⟨.type "tuple", dt6, .seq #[.int 0 q0_6, .ref u6, .str "num" q1_6] nt6, st6⟩) (v6 : K.lookup u6 = some ⟨.type "tuple", du6, .seq #[.str "num" q2_6, .str "num" q3_6] nu6, su6⟩)
    (e7 : PySem.W.nsIn K dF "atmost" = some (some (.ref t7))) (m7 : K.lookup t7 = some ⟨.type "tuple", dt7, .seq #[.int 0 q0_7, .ref u7, .str "truth" q1_7] nt7, st7⟩) (v7 : K.lookup u7 = some ⟨.type "tuple", du7, .seq #[.str "num" q2_7, .str "num" q3_7] nu7, su7⟩)
    (e8 : PySem.W.nsIn K dF "not" = some (some (.ref t8))) (m8 : K.lookup t8 = some ⟨.type "tuple", dt8, .seq #[.int 0 q0_8, .ref u8, .str "truth" q1_8] nt8, st8⟩) (v8 : K.lookup u8 = some ⟨.type "tuple", du8, .seq #[.str "truth" q2_8] nu8, su8⟩)
    (e9 : PySem.W.nsIn K dF "both" = some (some (.ref t9))) (m9 : K.lookup t9 = some ⟨.type "tuple", dt9, .seq #[.int 0 q0_9, .ref u9, .str "truth" q1_9] nt9, st9⟩) (v9 : K.lookup u9 = some ⟨.type "tuple", du9, .seq #[.str "truth" q2_9, .str "truth" q3_9] nu9, su9⟩)
    (e10 : PySem.W.nsIn K dF "either" = some (some (.ref t10))) (m10 : K.lookup t10 = some ⟨.type "tuple", dt10, .seq #[.int 0 q0_10, .ref u10, .str "truth" q1_10] nt10, st10⟩) (v10 : K.lookup u10 = some ⟨.type "tuple", du10, .seq #[.str "truth" q2_10, .str "truth" q3_10] nu10, su10⟩)
    (e11 : PySem.W.nsIn K dF "if" = some (some (.ref t11))) (m11 : K.lookup t11 = some ⟨.type "tuple", dt11, .seq #[.int 0 q0_11, .ref u11, .none] nt11, st11⟩) (v11 : K.lookup u11 = some ⟨.type "tuple", du11, .seq #[.str "truth" q2_11, .none, .none] nu11, su11⟩)
    (nFoo : PySem.W.nsIn K dF "foo" = some none)
    (a_NoProgram : PySem.W.nsIn K mainGlobals "NoProgram" = some (some (.ref c_NoProgram)))
    (x_NoProgram : K.lookup c_NoProgram = some (excClassObj nm_NoProgram qn_NoProgram c_NoProgram N_NoProgram bs_NoProgram [.ref u_NoProgram, .type "ValueError", .type "Exception", .type "BaseException", .type "object"] true sn_NoProgram sub_NoProgram ab_NoProgram col_NoProgram dd_NoProgram m0_NoProgram m1_NoProgram m2_NoProgram m3_NoProgram m5_NoProgram "ValueError.__new__"))
    (sa_NoProgram : PySem.W.findIn K (.ref c_NoProgram) "__setattr__" = some (some (.builtin "object.__setattr__")))
    (ga_NoProgram : PySem.W.findIn K (.ref c_NoProgram) "__getattribute__" = some (some (.builtin "BaseException.__getattribute__")))
    (gg_NoProgram : PySem.W.findIn K (.ref c_NoProgram) "__getattr__" = some none)
    (i_NoProgram' : PySem.W.findIn K (.ref c_NoProgram) "__init__" = some (some (.ref i_NoProgram)))
    (ca_NoProgram : PySem.W.findIn K (.ref c_NoProgram) "__class__" = some (some (.builtin "object.__class__")))
    (t_NoProgram : PySem.W.typeIn K (.ref i_NoProgram) = some (.type "function"))
    (l_NoProgram : K.lookup i_NoProgram = some ⟨oc_NoProgram, od_NoProgram, .func (PySem.W.fnOf "__init__" "NoProgram.__init__" (defArgs s_NoProgram) (defBody s_NoProgram) (defScope s_NoProgram) .none kV_NoProgram doc_NoProgram pm_NoProgram an_NoProgram cdv_NoProgram ct_NoProgram), osl_NoProgram⟩)
    (c_NoProgram' : PySem.W.codeIn K cdv_NoProgram "NoProgram.__init__" = true)
    (kf_NoProgram : PySem.W.keepIn K (.ref i_NoProgram) = true)
    (kc_NoProgram : PySem.W.keepIn K (.ref c_NoProgram) = true)
    (ex_NoProgram : PySem.W.subIn K (.ref c_NoProgram) (.type "BaseException") = some true)
    (ty_NoProgram : PySem.W.typeIn K (.ref c_NoProgram) = some (.type "type"))
    (hd_NoProgram : PySem.W.hasDictIn K c_NoProgram = true)
    (is_NoProgram : PySem.W.isClsIn K c_NoProgram = true)
    (te_NoProgram : PySem.W.exmOne K (.ref c_NoProgram) (.ref c_NoProgram) = some true)
    (ob_NoProgram : PySem.W.mroIn K c_NoProgram (.type "object") = some true)
    (gn_NoProgram : PySem.W.specialIn K (.builtin "object.__class__") "__get__" = some (some (.builtin "getset_descriptor.__get__")))
    (tk_NoProgram : PySem.W.takesIn K (.builtin "object.__class__") = some true)
    (f0_NoProgram : PySem.W.findIn K (.ref c_NoProgram) "word" = some none)
    (f1_NoProgram : PySem.W.findIn K (.ref c_NoProgram) "at" = some none)
    (ys0 : PySem.W.nsIn K mainGlobals "NoHead" = some (some (.ref w0))) (vs0 : PySem.W.kitOne K (.ref c_NoProgram) (.ref w0) = some false)
    (ys1 : PySem.W.nsIn K mainGlobals "NoProgram" = some (some (.ref w1))) (vs1 : PySem.W.kitOne K (.ref c_NoProgram) (.ref w1) = some true)
    (ys2 : PySem.W.nsIn K mainGlobals "NoText" = some (some (.ref w2))) (vs2 : PySem.W.kitOne K (.ref c_NoProgram) (.ref w2) = some false)
    (ys3 : PySem.W.nsIn K mainGlobals "NoStock" = some (some (.ref w3))) (vs3 : PySem.W.kitOne K (.ref c_NoProgram) (.ref w3) = some false)
    (ys4 : PySem.W.nsIn K mainGlobals "NoAnswer" = some (some (.ref w4))) (vs4 : PySem.W.kitOne K (.ref c_NoProgram) (.ref w4) = some false)
    (ys5 : PySem.W.nsIn K mainGlobals "NoInputs" = some (some (.ref w5))) (vs5 : PySem.W.kitOne K (.ref c_NoProgram) (.ref w5) = some false)
    (ys6 : PySem.W.nsIn K mainGlobals "Clash" = some (some (.ref w6))) (vs6 : PySem.W.kitOne K (.ref c_NoProgram) (.ref w6) = some false)
    (ys7 : PySem.W.nsIn K mainGlobals "NoRow" = some (some (.ref w7))) (vs7 : PySem.W.kitOne K (.ref c_NoProgram) (.ref w7) = some false)
    (ys8 : PySem.W.nsIn K mainGlobals "NoQuestion" = some (some (.ref w8))) (vs8 : PySem.W.kitOne K (.ref c_NoProgram) (.ref w8) = some false)
    (ys9 : PySem.W.nsIn K mainGlobals "NoDoer" = some (some (.ref w9))) (vs9 : PySem.W.kitOne K (.ref c_NoProgram) (.ref w9) = some false)
    (ys10 : PySem.W.nsIn K mainGlobals "NotKept" = some (some (.ref w10))) (vs10 : PySem.W.kitOne K (.ref c_NoProgram) (.ref w10) = some false)
    (ys11 : PySem.W.nsIn K mainGlobals "NoName" = some (some (.ref w11))) (vs11 : PySem.W.kitOne K (.ref c_NoProgram) (.ref w11) = some false)
    : ∃ fd : FuncData, (∀ (s : Shared) (v : Value), BindsTo s fd ⟨[v], []⟩ [("_law_script", v)]) ∧ ∀ base : Heap, K.In base → base.Ns mainGlobals mg → FnOk l.prog w K mg base CX0 46 fa fd ["_law_script"] (spLaw K) := by
  have e := hfa.symm.trans (PySem.W.mg_of X G a32)
  cases e
  have D_kind_of : DefAt K mg "kind_of" s_kind_of ["kinds", "program"] := defAt_mk X G a0 l0 c0 k0 fun _ _ _ _ _ _ us hl => match us, hl with | [_, _], _ => rfl
  have D_knots : DefAt K mg "knots" s_knots ["program"] := defAt_mk X G a1 l1 c1 k1 fun _ _ _ _ _ _ us hl => match us, hl with | [_], _ => rfl
  have D_is_whole : DefAt K mg "is_whole" s_is_whole ["thing"] := defAt_mk X G a2 l2 c2 k2 fun _ _ _ _ _ _ us hl => match us, hl with | [_], _ => rfl
  have D_has_form : DefAt K mg "has_form" s_has_form ["thing"] := defAt_mk X G a3 l3 c3 k3 fun _ _ _ _ _ _ us hl => match us, hl with | [_], _ => rfl
  have D_many_numbers : DefAt K mg "many_numbers" s_many_numbers ["word"] := defAt_mk X G a4 l4 c4 k4 fun _ _ _ _ _ _ us hl => match us, hl with | [_], _ => rfl
  have D_many_parts : DefAt K mg "many_parts" s_many_parts ["word"] := defAt_mk X G a5 l5 c5 k5 fun _ _ _ _ _ _ us hl => match us, hl with | [_], _ => rfl
  have D_parts_of : DefAt K mg "parts_of" s_parts_of ["knot"] := defAt_mk X G a6 l6 c6 k6 fun _ _ _ _ _ _ us hl => match us, hl with | [_], _ => rfl
  have D_taken : DefAt K mg "taken" s_taken ["pile", "many"] := defAt_mk X G a7 l7 c7 k7 fun _ _ _ _ _ _ us hl => match us, hl with | [_, _], _ => rfl
  have D_refuse_forms : DefAt K mg "refuse_forms" s_refuse_forms ["every"] := defAt_mk X G a8 l8 c8 k8 fun _ _ _ _ _ _ us hl => match us, hl with | [_], _ => rfl
  have D_refuse_inputs : DefAt K mg "refuse_inputs" s_refuse_inputs ["every", "many"] := defAt_mk X G a9 l9 c9 k9 fun _ _ _ _ _ _ us hl => match us, hl with | [_, _], _ => rfl
  have D_parts_fit : DefAt K mg "parts_fit" s_parts_fit ["word", "told"] := defAt_mk X G a10 l10 c10 k10 fun _ _ _ _ _ _ us hl => match us, hl with | [_, _], _ => rfl
  have D_own_kind : DefAt K mg "own_kind" s_own_kind ["kinds", "knot", "told"] := defAt_mk X G a11 l11 c11 k11 fun _ _ _ _ _ _ us hl => match us, hl with | [_, _, _], _ => rfl
  have D_l_cell : DefAt K mg "_law_cell" s_l_cell ["_law_script", "_law_k"] := defAt_mk X G a12 l12 c12 k12 fun _ _ _ _ _ _ us hl => match us, hl with | [_, _], _ => rfl
  have D_l_flow : DefAt K mg "_law_flow" s_l_flow ["_law_script", "_law_k"] := defAt_mk X G a13 l13 c13 k13 fun _ _ _ _ _ _ us hl => match us, hl with | [_, _], _ => rfl
  have D_l_draw : DefAt K mg "_law_draw" s_l_draw ["_law_flow_here", "_law_many"] := defAt_mk X G a14 l14 c14 k14 fun _ _ _ _ _ _ us hl => match us, hl with | [_, _], _ => rfl
  have D_l_numeral : DefAt K mg "_law_numeral" s_l_numeral ["_law_flow_here"] := defAt_mk X G a15 l15 c15 k15 fun _ _ _ _ _ _ us hl => match us, hl with | [_], _ => rfl
  have D_l_leaf : DefAt K mg "_law_leaf" s_l_leaf ["_law_flow_here", "_law_world", "_law_kind"] := defAt_mk X G a16 l16 c16 k16 fun _ _ _ _ _ _ us hl => match us, hl with | [_, _, _], _ => rfl
  have D_l_made : DefAt K mg "_law_made" s_l_made ["_law_flow_here", "_law_world", "_law_kind", "_law_room", "_law_down"] := defAt_mk X G a17 l17 c17 k17 fun _ _ _ _ _ _ us hl => match us, hl with | [_, _, _, _, _], _ => rfl
  have D_l_kinds : DefAt K mg "_law_kinds" s_l_kinds ["_law_flow_here"] := defAt_mk X G a18 l18 c18 k18 fun _ _ _ _ _ _ us hl => match us, hl with | [_], _ => rfl
  have D_l_program : DefAt K mg "_law_program" s_l_program ["_law_flow_here", "_law_kinds_here", "_law_kind", "_law_room"] := defAt_mk X G a19 l19 c19 k19 fun _ _ _ _ _ _ us hl => match us, hl with | [_, _, _, _], _ => rfl
  have D_l_some : DefAt K mg "_law_some" s_l_some ["_law_flow_here"] := defAt_mk X G a20 l20 c20 k20 fun _ _ _ _ _ _ us hl => match us, hl with | [_], _ => rfl
  have D_l_has_form : DefAt K mg "_law_has_form" s_l_has_form ["_law_knot"] := defAt_mk X G a21 l21 c21 k21 fun _ _ _ _ _ _ us hl => match us, hl with | [_], _ => rfl
  have D_l_parts : DefAt K mg "_law_parts" s_l_parts ["_law_knot"] := defAt_mk X G a22 l22 c22 k22 fun _ _ _ _ _ _ us hl => match us, hl with | [_], _ => rfl
  have D_l_knots : DefAt K mg "_law_knots" s_l_knots ["_law_program_here"] := defAt_mk X G a23 l23 c23 k23 fun _ _ _ _ _ _ us hl => match us, hl with | [_], _ => rfl
  have D_l_own : DefAt K mg "_law_own" s_l_own ["_law_kinds_here", "_law_knot"] := defAt_mk X G a24 l24 c24 k24 fun _ _ _ _ _ _ us hl => match us, hl with | [_, _], _ => rfl
  have D_l_wrong : DefAt K mg "_law_wrong" s_l_wrong ["_law_kinds_here", "_law_program_here"] := defAt_mk X G a25 l25 c25 k25 fun _ _ _ _ _ _ us hl => match us, hl with | [_, _], _ => rfl
  have D_l_replaced : DefAt K mg "_law_replaced" s_l_replaced ["_law_program_here", "_law_left", "_law_new"] := defAt_mk X G a26 l26 c26 k26 fun _ _ _ _ _ _ us hl => match us, hl with | [_, _, _], _ => rfl
  have D_l_alike : DefAt K mg "_law_alike" s_l_alike ["_law_found", "_law_due"] := defAt_mk X G a27 l27 c27 k27 fun _ _ _ _ _ _ us hl => match us, hl with | [_, _], _ => rfl
  have D_l_sorts : DefAt K mg "_law_sorts" s_l_sorts ["_law_e"] := defAt_mk X G a28 l28 c28 k28 fun _ _ _ _ _ _ us hl => match us, hl with | [_], _ => rfl
  have D_l_refused : DefAt K mg "_law_refused" s_l_refused ["_law_kinds_here", "_law_program_here"] := defAt_mk X G a29 l29 c29 k29 fun _ _ _ _ _ _ us hl => match us, hl with | [_, _], _ => rfl
  have D_l_due_kind : DefAt K mg "_law_due_kind" s_l_due_kind ["_law_kinds_here", "_law_program_here"] := defAt_mk X G a30 l30 c30 k30 fun _ _ _ _ _ _ us hl => match us, hl with | [_, _], _ => rfl
  have D_l_bad_knot : DefAt K mg "_law_bad_knot" s_l_bad_knot ["_law_flow_here", "_law_kinds_here", "_law_kind"] := defAt_mk X G a31 l31 c31 k31 fun _ _ _ _ _ _ us hl => match us, hl with | [_, _, _], _ => rfl
  have D_law : DefAt K mg "law" s_law ["_law_script"] := defAt_mk X G a32 l32 c32 k32 fun _ _ _ _ _ _ us hl => match us, hl with | [_], _ => rfl
  have R_NoProgram : Rf K mg "NoProgram" "NoProgram.__init__" c_NoProgram i_NoProgram _ s_NoProgram ["word", "at"] := { g := PySem.W.mg_of X G a_NoProgram, o := ⟨⟨_, _, _, _, _, _, _, _, _, _, _, _, _, _, _, x_NoProgram, rfl⟩, sa_NoProgram, ex_NoProgram, ty_NoProgram, kc_NoProgram⟩, f := ⟨ga_NoProgram, gg_NoProgram, ex_NoProgram, hd_NoProgram⟩, k := ⟨is_NoProgram, ga_NoProgram, gg_NoProgram, ex_NoProgram, ca_NoProgram, gn_NoProgram, tk_NoProgram, ob_NoProgram⟩, te := te_NoProgram, fld := fun n hn => by simp only [List.mem_cons, List.not_mem_nil, or_false] at hn; rcases hn with h | h <;> subst h <;> assumption, iC := i_NoProgram', tI := t_NoProgram, F := fun_mk l_NoProgram c_NoProgram' kf_NoProgram, b := (fun_mk l_NoProgram c_NoProgram' kf_NoProgram).binds fun _ _ _ _ _ _ us hl => match us, hl with | [_, _, _], _ => rfl }
  have S_sorts : Sorts K mg c_NoProgram [false, true, false, false, false, false, false, false, false, false, false, false] := ⟨_, _, _, _, _, _, _, _, _, _, _, _, _, _, _, _, _, _, _, _, _, _, _, _, ⟨PySem.W.mg_of X G ys0, PySem.W.mg_of X G ys1, PySem.W.mg_of X G ys2, PySem.W.mg_of X G ys3, PySem.W.mg_of X G ys4, PySem.W.mg_of X G ys5, PySem.W.mg_of X G ys6, PySem.W.mg_of X G ys7, PySem.W.mg_of X G ys8, PySem.W.mg_of X G ys9, PySem.W.mg_of X G ys10, PySem.W.mg_of X G ys11, vs0, vs1, vs2, vs3, vs4, vs5, vs6, vs7, vs8, vs9, vs10, vs11⟩, rfl⟩
  have B : Bt mg := ⟨PySem.W.mg_none_of X G z0, PySem.W.mg_none_of X G z1, PySem.W.mg_none_of X G z2, PySem.W.mg_none_of X G z3, PySem.W.mg_none_of X G z4, PySem.W.mg_none_of X G z5, PySem.W.mg_none_of X G z6, PySem.W.mg_none_of X G z7, PySem.W.mg_none_of X G z8, PySem.W.mg_none_of X G z9, PySem.W.mg_none_of X G z10, PySem.W.mg_none_of X G z11, PySem.W.mg_none_of X G z12, PySem.W.mg_none_of X G z13, PySem.W.mg_none_of X G z14, PySem.W.mg_none_of X G z15, PySem.W.mg_none_of X G z16, PySem.W.mg_none_of X G z17, PySem.W.mg_none_of X G z18, PySem.W.mg_none_of X G z19⟩
  have F : Forms K w mg dF := by
    refine ⟨PySem.W.mg_of X G aF, ⟨esF, nF, lF, kF, wF⟩, fun p => ?_⟩
    cases p with
    | inp k => exact ⟨t0, u0, e0, ⟨_, _, _, m0, rfl, rfl, (by show 3 ≤ sizeLine; decide), (.cons ⟨_, rfl⟩ (.cons rfl (.cons rfl .nil)))⟩, ⟨_, _, _, v0, rfl, rfl, (by show 0 ≤ sizeLine; decide), .nil⟩⟩
    | num c => exact ⟨t1, u1, e1, ⟨_, _, _, m1, rfl, rfl, (by show 3 ≤ sizeLine; decide), (.cons ⟨_, rfl⟩ (.cons rfl (.cons ⟨_, rfl⟩ .nil)))⟩, ⟨_, _, _, v1, rfl, rfl, (by show 0 ≤ sizeLine; decide), .nil⟩⟩
    | tr b =>
      cases b with
      | true => exact ⟨t2, u2, e2, ⟨_, _, _, m2, rfl, rfl, (by show 3 ≤ sizeLine; decide), (.cons ⟨_, rfl⟩ (.cons rfl (.cons ⟨_, rfl⟩ .nil)))⟩, ⟨_, _, _, v2, rfl, rfl, (by show 0 ≤ sizeLine; decide), .nil⟩⟩
      | false => exact ⟨t3, u3, e3, ⟨_, _, _, m3, rfl, rfl, (by show 3 ≤ sizeLine; decide), (.cons ⟨_, rfl⟩ (.cons rfl (.cons ⟨_, rfl⟩ .nil)))⟩, ⟨_, _, _, v3, rfl, rfl, (by show 0 ≤ sizeLine; decide), .nil⟩⟩
    | plus c a => exact ⟨t4, u4, e4, ⟨_, _, _, m4, rfl, rfl, (by show 3 ≤ sizeLine; decide), (.cons ⟨_, rfl⟩ (.cons rfl (.cons ⟨_, rfl⟩ .nil)))⟩, ⟨_, _, _, v4, rfl, rfl, (by show 1 ≤ sizeLine; decide), (.cons ⟨_, rfl⟩ .nil)⟩⟩
    | bin w a b =>
      cases w with
      | least => exact ⟨t5, u5, e5, ⟨_, _, _, m5, rfl, rfl, (by show 3 ≤ sizeLine; decide), (.cons ⟨_, rfl⟩ (.cons rfl (.cons ⟨_, rfl⟩ .nil)))⟩, ⟨_, _, _, v5, rfl, rfl, (by show 2 ≤ sizeLine; decide), (.cons ⟨_, rfl⟩ (.cons ⟨_, rfl⟩ .nil))⟩⟩
      | most => exact ⟨t6, u6, e6, ⟨_, _, _, m6, rfl, rfl, (by show 3 ≤ sizeLine; decide), (.cons ⟨_, rfl⟩ (.cons rfl (.cons ⟨_, rfl⟩ .nil)))⟩, ⟨_, _, _, v6, rfl, rfl, (by show 2 ≤ sizeLine; decide), (.cons ⟨_, rfl⟩ (.cons ⟨_, rfl⟩ .nil))⟩⟩
      | atmost => exact ⟨t7, u7, e7, ⟨_, _, _, m7, rfl, rfl, (by show 3 ≤ sizeLine; decide), (.cons ⟨_, rfl⟩ (.cons rfl (.cons ⟨_, rfl⟩ .nil)))⟩, ⟨_, _, _, v7, rfl, rfl, (by show 2 ≤ sizeLine; decide), (.cons ⟨_, rfl⟩ (.cons ⟨_, rfl⟩ .nil))⟩⟩
      | both => exact ⟨t9, u9, e9, ⟨_, _, _, m9, rfl, rfl, (by show 3 ≤ sizeLine; decide), (.cons ⟨_, rfl⟩ (.cons rfl (.cons ⟨_, rfl⟩ .nil)))⟩, ⟨_, _, _, v9, rfl, rfl, (by show 2 ≤ sizeLine; decide), (.cons ⟨_, rfl⟩ (.cons ⟨_, rfl⟩ .nil))⟩⟩
      | either => exact ⟨t10, u10, e10, ⟨_, _, _, m10, rfl, rfl, (by show 3 ≤ sizeLine; decide), (.cons ⟨_, rfl⟩ (.cons rfl (.cons ⟨_, rfl⟩ .nil)))⟩, ⟨_, _, _, v10, rfl, rfl, (by show 2 ≤ sizeLine; decide), (.cons ⟨_, rfl⟩ (.cons ⟨_, rfl⟩ .nil))⟩⟩
    | neg a => exact ⟨t8, u8, e8, ⟨_, _, _, m8, rfl, rfl, (by show 3 ≤ sizeLine; decide), (.cons ⟨_, rfl⟩ (.cons rfl (.cons ⟨_, rfl⟩ .nil)))⟩, ⟨_, _, _, v8, rfl, rfl, (by show 1 ≤ sizeLine; decide), (.cons ⟨_, rfl⟩ .nil)⟩⟩
    | ite p a b => exact ⟨t11, u11, e11, ⟨_, _, _, m11, rfl, rfl, (by show 3 ≤ sizeLine; decide), (.cons ⟨_, rfl⟩ (.cons rfl (.cons rfl .nil)))⟩, ⟨_, _, _, v11, rfl, rfl, (by show 3 ≤ sizeLine; decide), (.cons ⟨_, rfl⟩ (.cons rfl (.cons rfl .nil)))⟩⟩
  have NF : NoForms K dF ([("foo" : Str)] : List Str) := fun x hx => by rw [List.mem_singleton.mp hx]; exact ⟨nFoo, by decide +kernel⟩
  have BW : BadW ([("foo" : Str)] : List Str) := fun x hx => by rw [List.mem_singleton.mp hx]; decide +kernel
  refine ⟨PySem.W.fnOf "law" "law" (defArgs s_law) (defBody s_law) (defScope s_law) .none kV32 dc32 pm32 an32 cd32 ct32, fun s v => .of_eq rfl, fun base _ _ => ?_⟩
  have C_cell := ok_l_cell (P := l.prog) (w := w) (base := base) B D_l_cell
  have C_flow := ok_l_flow C_cell D_l_flow
  have C_draw := ok_l_draw (P := l.prog) (w := w) (base := base) D_l_draw
  have C_numeral := ok_l_numeral C_draw D_l_numeral
  have C_leaf := ok_l_leaf B C_draw C_numeral D_l_leaf
  have C_made := ok_l_made B C_draw C_numeral C_leaf D_l_made 24
  have C_kinds := ok_l_kinds (K := K) B C_draw D_l_kinds
  have C_program := ok_l_program C_made D_l_program
  have C_some := ok_l_some C_draw C_kinds C_program D_l_some
  have C_whole := ok_is_whole (P := l.prog) (w := w) (base := base) B D_is_whole
  have C_mn := ok_many_numbers (P := l.prog) (base := base) F D_many_numbers
  have C_mp := ok_many_parts (P := l.prog) (base := base) B F D_many_parts
  have C_hf := ok_has_formD B F NF C_whole C_mn C_mp D_has_form
  have C_po := ok_parts_ofD (K := K) C_mn D_parts_of
  have C_tk := ok_taken (P := l.prog) (w := w) (base := base) B D_taken
  have C_kn := ok_knotsD C_hf C_po D_knots
  have C_rf := ok_refuse_formsD B R_NoProgram C_hf D_refuse_forms
  have C_ri := ok_refuse_inputsD (P := l.prog) (w := w) (base := base) B R_NoProgram D_refuse_inputs
  have C_pf := ok_parts_fitA (P := l.prog) (base := base) F D_parts_fit
  have C_ok := ok_own_kindA (P := l.prog) (base := base) F D_own_kind
  have C_ko := ok_kind_ofD B R_NoProgram C_kn C_rf C_ri C_tk C_mp C_pf C_ok D_kind_of
  have C_ref := ok_l_refused B S_sorts rfl R_NoProgram C_ko D_l_sorts D_l_refused
  have C_lhf := ok_l_has_formD (P := l.prog) (w := w) (base := base) (K := K) B BW D_l_has_form
  have C_lp := ok_l_partsD (P := l.prog) (w := w) (base := base) (K := K) B D_l_parts
  have C_lk := ok_l_knotsD C_lhf C_lp D_l_knots 42
  have C_lo := ok_l_ownA (P := l.prog) (w := w) (base := base) (K := K) B D_l_own 42
  have C_wr := ok_l_wrong (by decide) B C_lhf C_lp C_lk C_lo D_l_wrong
  have C_due := ok_l_due C_wr C_lo D_l_due_kind
  have C_rep := ok_l_replaced B C_lhf C_lp D_l_replaced 42
  have C_bk := ok_l_bad_knot rfl B C_draw C_leaf D_l_bad_knot
  have C_al := ok_l_alike (P := l.prog) (w := w) (base := base) (K := K) B D_l_alike
  exact ok_law B C_flow C_draw C_some C_lk C_wr C_lo C_bk C_rep C_ref C_due C_al (fun_mk l32 c32 k32)

end Lm
open PySem PySem.W PyProof.Rows
set_option maxRecDepth 100000 in
set_option maxHeartbeats 0 in
theorem PySem.Challenge.cw_leastmaker_k05_several_knots_amiss_holds : PySem.Challenge.rw_leastmaker_k05_several_knots_amiss.Holds := by
  w_on; o_law; k_head; (case hw => w_witness2)
  k_fill
  refine L2.walk_of (l := PySem.Challenge.rw_leastmaker_k05_several_knots_amiss) (n := 63) (k := 46) (x := "_law_script") (CX := fun _ => L2.CX0) (sp := fun w => Lm.spLaw _) rfl (by decide) rfl ⟨rfl, by decide, by decide⟩ (fun w h Y => PySem.W.kIn_of Y) ?F (fun _ _ a ns hl _ hS => ⟨a, ns, rfl, hS, hl, fun _ => rfl⟩) (fun _ _ _ _ _ h => h)
  case F =>
    intro w mg fa h KX G hmg
    refine' Lm.all_mk KX G hmg ?a0 ?l0 ?c0 ?k0 ?a1 ?l1 ?c1 ?k1 ?a2 ?l2 ?c2 ?k2 ?a3 ?l3 ?c3 ?k3 ?a4 ?l4 ?c4 ?k4 ?a5 ?l5 ?c5 ?k5 ?a6 ?l6 ?c6 ?k6 ?a7 ?l7 ?c7 ?k7 ?a8 ?l8 ?c8 ?k8 ?a9 ?l9 ?c9 ?k9 ?a10 ?l10 ?c10 ?k10 ?a11 ?l11 ?c11 ?k11 ?a12 ?l12 ?c12 ?k12 ?a13 ?l13 ?c13 ?k13 ?a14 ?l14 ?c14 ?k14 ?a15 ?l15 ?c15 ?k15 ?a16 ?l16 ?c16 ?k16 ?a17 ?l17 ?c17 ?k17 ?a18 ?l18 ?c18 ?k18 ?a19 ?l19 ?c19 ?k19 ?a20 ?l20 ?c20 ?k20 ?a21 ?l21 ?c21 ?k21 ?a22 ?l22 ?c22 ?k22 ?a23 ?l23 ?c23 ?k23 ?a24 ?l24 ?c24 ?k24 ?a25 ?l25 ?c25 ?k25 ?a26 ?l26 ?c26 ?k26 ?a27 ?l27 ?c27 ?k27 ?a28 ?l28 ?c28 ?k28 ?a29 ?l29 ?c29 ?k29 ?a30 ?l30 ?c30 ?k30 ?a31 ?l31 ?c31 ?k31 ?a32 ?l32 ?c32 ?k32 ?z0 ?z1 ?z2 ?z3 ?z4 ?z5 ?z6 ?z7 ?z8 ?z9 ?z10 ?z11 ?z12 ?z13 ?z14 ?z15 ?z16 ?z17 ?z18 ?z19 ?aF ?lF ?kF ?wF ?e0 ?m0 ?v0 ?e1 ?m1 ?v1 ?e2 ?m2 ?v2 ?e3 ?m3 ?v3 ?e4 ?m4 ?v4 ?e5 ?m5 ?v5 ?e6 ?m6 ?v6 ?e7 ?m7 ?v7 ?e8 ?m8 ?v8 ?e9 ?m9 ?v9 ?e10 ?m10 ?v10 ?e11 ?m11 ?v11 ?nFoo ?a_NoProgram ?x_NoProgram ?sa_NoProgram ?ga_NoProgram ?gg_NoProgram ?i_NoProgram' ?ca_NoProgram ?t_NoProgram ?l_NoProgram ?c_NoProgram' ?kf_NoProgram ?kc_NoProgram ?ex_NoProgram ?ty_NoProgram ?hd_NoProgram ?is_NoProgram ?te_NoProgram ?ob_NoProgram ?gn_NoProgram ?tk_NoProgram ?f0_NoProgram ?f1_NoProgram ?ys0 ?vs0 ?ys1 ?vs1 ?ys2 ?vs2 ?ys3 ?vs3 ?ys4 ?vs4 ?ys5 ?vs5 ?ys6 ?vs6 ?ys7 ?vs7 ?ys8 ?vs8 ?ys9 ?vs9 ?ys10 ?vs10 ?ys11 ?vs11
    (case a0 => k_is)
    (case l0 => k_is)
    (case c0 => k_is)
    (case k0 => k_is)
    (case a1 => k_is)
    (case l1 => k_is)
    (case c1 => k_is)
    (case k1 => k_is)
    (case a2 => k_is)
    (case l2 => k_is)
    (case c2 => k_is)
    (case k2 => k_is)
    (case a3 => k_is)
    (case l3 => k_is)
    (case c3 => k_is)
    (case k3 => k_is)
    (case a4 => k_is)
    (case l4 => k_is)
    (case c4 => k_is)
    (case k4 => k_is)
    (case a5 => k_is)
    (case l5 => k_is)
    (case c5 => k_is)
    (case k5 => k_is)
    (case a6 => k_is)
    (case l6 => k_is)
    (case c6 => k_is)
    (case k6 => k_is)
    (case a7 => k_is)
    (case l7 => k_is)
    (case c7 => k_is)
    (case k7 => k_is)
    (case a8 => k_is)
    (case l8 => k_is)
    (case c8 => k_is)
    (case k8 => k_is)
    (case a9 => k_is)
    (case l9 => k_is)
    (case c9 => k_is)
    (case k9 => k_is)
    (case a10 => k_is)
    (case l10 => k_is)
    (case c10 => k_is)
    (case k10 => k_is)
    (case a11 => k_is)
    (case l11 => k_is)
    (case c11 => k_is)
    (case k11 => k_is)
    (case a12 => k_is)
    (case l12 => k_is)
    (case c12 => k_is)
    (case k12 => k_is)
    (case a13 => k_is)
    (case l13 => k_is)
    (case c13 => k_is)
    (case k13 => k_is)
    (case a14 => k_is)
    (case l14 => k_is)
    (case c14 => k_is)
    (case k14 => k_is)
    (case a15 => k_is)
    (case l15 => k_is)
    (case c15 => k_is)
    (case k15 => k_is)
    (case a16 => k_is)
    (case l16 => k_is)
    (case c16 => k_is)
    (case k16 => k_is)
    (case a17 => k_is)
    (case l17 => k_is)
    (case c17 => k_is)
    (case k17 => k_is)
    (case a18 => k_is)
    (case l18 => k_is)
    (case c18 => k_is)
    (case k18 => k_is)
    (case a19 => k_is)
    (case l19 => k_is)
    (case c19 => k_is)
    (case k19 => k_is)
    (case a20 => k_is)
    (case l20 => k_is)
    (case c20 => k_is)
    (case k20 => k_is)
    (case a21 => k_is)
    (case l21 => k_is)
    (case c21 => k_is)
    (case k21 => k_is)
    (case a22 => k_is)
    (case l22 => k_is)
    (case c22 => k_is)
    (case k22 => k_is)
    (case a23 => k_is)
    (case l23 => k_is)
    (case c23 => k_is)
    (case k23 => k_is)
    (case a24 => k_is)
    (case l24 => k_is)
    (case c24 => k_is)
    (case k24 => k_is)
    (case a25 => k_is)
    (case l25 => k_is)
    (case c25 => k_is)
    (case k25 => k_is)
    (case a26 => k_is)
    (case l26 => k_is)
    (case c26 => k_is)
    (case k26 => k_is)
    (case a27 => k_is)
    (case l27 => k_is)
    (case c27 => k_is)
    (case k27 => k_is)
    (case a28 => k_is)
    (case l28 => k_is)
    (case c28 => k_is)
    (case k28 => k_is)
    (case a29 => k_is)
    (case l29 => k_is)
    (case c29 => k_is)
    (case k29 => k_is)
    (case a30 => k_is)
    (case l30 => k_is)
    (case c30 => k_is)
    (case k30 => k_is)
    (case a31 => k_is)
    (case l31 => k_is)
    (case c31 => k_is)
    (case k31 => k_is)
    (case a32 => k_is)
    (case l32 => k_is)
    (case c32 => k_is)
    (case k32 => k_is)
    (case z0 => k_is)
    (case z1 => k_is)
    (case z2 => k_is)
    (case z3 => k_is)
    (case z4 => k_is)
    (case z5 => k_is)
    (case z6 => k_is)
    (case z7 => k_is)
    (case z8 => k_is)
    (case z9 => k_is)
    (case z10 => k_is)
    (case z11 => k_is)
    (case z12 => k_is)
    (case z13 => k_is)
    (case z14 => k_is)
    (case z15 => k_is)
    (case z16 => k_is)
    (case z17 => k_is)
    (case z18 => k_is)
    (case z19 => k_is)
    (case aF => k_is)
    (case lF => k_is)
    (case kF => k_keys)
    (case wF => first | rfl | decide | k_is)
    (case e0 => k_is)
    (case m0 => k_is)
    (case v0 => k_is)
    (case e1 => k_is)
    (case m1 => k_is)
    (case v1 => k_is)
    (case e2 => k_is)
    (case m2 => k_is)
    (case v2 => k_is)
    (case e3 => k_is)
    (case m3 => k_is)
    (case v3 => k_is)
    (case e4 => k_is)
    (case m4 => k_is)
    (case v4 => k_is)
    (case e5 => k_is)
    (case m5 => k_is)
    (case v5 => k_is)
    (case e6 => k_is)
    (case m6 => k_is)
    (case v6 => k_is)
    (case e7 => k_is)
    (case m7 => k_is)
    (case v7 => k_is)
    (case e8 => k_is)
    (case m8 => k_is)
    (case v8 => k_is)
    (case e9 => k_is)
    (case m9 => k_is)
    (case v9 => k_is)
    (case e10 => k_is)
    (case m10 => k_is)
    (case v10 => k_is)
    (case e11 => k_is)
    (case m11 => k_is)
    (case v11 => k_is)
    (case nFoo => k_is)
    (case a_NoProgram => k_is)
    (case x_NoProgram => k_is)
    (case sa_NoProgram => k_is)
    (case ga_NoProgram => k_is)
    (case gg_NoProgram => k_is)
    (case i_NoProgram' => k_is)
    (case ca_NoProgram => k_is)
    (case t_NoProgram => k_is)
    (case l_NoProgram => k_is)
    (case c_NoProgram' => k_is)
    (case kf_NoProgram => k_is)
    (case kc_NoProgram => k_is)
    (case ex_NoProgram => k_is)
    (case ty_NoProgram => k_is)
    (case hd_NoProgram => k_is)
    (case is_NoProgram => k_is)
    (case te_NoProgram => first | rfl | k_is)
    (case ob_NoProgram => first | rfl | k_is)
    (case gn_NoProgram => first | rfl | k_is)
    (case tk_NoProgram => first | rfl | k_is)
    (case f0_NoProgram => k_is)
    (case f1_NoProgram => k_is)
    (case ys0 => k_is)
    (case vs0 => first | rfl | k_is)
    (case ys1 => k_is)
    (case vs1 => first | rfl | k_is)
    (case ys2 => k_is)
    (case vs2 => first | rfl | k_is)
    (case ys3 => k_is)
    (case vs3 => first | rfl | k_is)
    (case ys4 => k_is)
    (case vs4 => first | rfl | k_is)
    (case ys5 => k_is)
    (case vs5 => first | rfl | k_is)
    (case ys6 => k_is)
    (case vs6 => first | rfl | k_is)
    (case ys7 => k_is)
    (case vs7 => first | rfl | k_is)
    (case ys8 => k_is)
    (case vs8 => first | rfl | k_is)
    (case ys9 => k_is)
    (case vs9 => first | rfl | k_is)
    (case ys10 => k_is)
    (case vs10 => first | rfl | k_is)
    (case ys11 => k_is)
    (case vs11 => first | rfl | k_is)

