import PyProof.Rows.All
import Wide.All
import OpenK.AllK
import Wide.FinOn
import HandS.ForMost
import HandS.IsInst
import HandS.TupAny
import HandS.Flow
import HandS.Style
import HandS.RevRange
import HandS.Conv
import HandS.More
import HandS.Zip
import KE.KDictZip
import KE.KDictList
import KE.KRevSl
import HandS.ForExc
import HandS.ExcInit
import HandS.ExcField
import HandS.HotCalls
import HandS.SetFor
import KE.KExcIs
import KE.GoesEnum
import KE.GoesMore
import HandS.Star
import HandS.ExcOwn
import HandS.WordsExc
import PyProof.RulesMatch
import HandS.Walk
import HandS.Codes
import HandS.Ends
import PyProof.ReprRoads
import PyProof.ReprLen
import HandS.Defaults
import HandS.Deep
import HandS.RaiseMore
import PySem.Challenge.RW_leastmaker_k39_wishes_put_in
set_option Elab.async false
set_option linter.all false
set_option maxRecDepth 100000
set_option maxHeartbeats 2000000
namespace LmR
open PySem PySem.Spec PyProof.Rows L2
/-! ### t[::-1] of a tuple -/
section
variable {prog : Program} {w : World} {A : Around} {E : Value → Shared → Prop} {s : Shared}
theorem pick_rev (xs : Array Value) : ((List.range xs.size).filterMap fun (m : Nat) => xs[(((xs.size : Int) - 1) + (m : Int) * (-1)).toNat]?).toArray = xs.toList.reverse.toArray := by
  congr 1
  have e : ∀ n, n ≤ xs.size → ((List.range n).filterMap fun (m : Nat) => xs[(((xs.size : Int) - 1) + (m : Int) * (-1)).toNat]?) = (xs.toList.reverse).take n := by
    intro n
    induction n with
    | zero => intro _; rfl
    | succ n ih =>
      intro h
      rw [List.range_succ, List.filterMap_append, ih (by omega), List.take_add_one]
      congr 1
      have e1 : (((xs.size : Int) - 1) + (n : Int) * (-1)).toNat = xs.size - 1 - n := by omega
      have e2 : xs.toList.reverse[n]? = xs[xs.size - 1 - n]? := by
        rw [List.getElem?_reverse (by rw [Array.length_toList]; omega), Array.length_toList, Array.getElem?_toList]
      rw [e2]
      have hlt : xs.size - 1 - n < xs.size := by omega
      simp only [List.filterMap_cons, List.filterMap_nil]
      rw [e1, Array.getElem?_eq_getElem hlt]
      rfl
  rw [e xs.size (Nat.le_refl _)]
  exact List.take_of_length_le (by rw [List.length_reverse, Array.length_toList]; exact Nat.le_refl _)
theorem rev_applied {sl : Addr} {vl vu vs : Value} {n : Nat} {Q : Int × Int × Nat → Shared → Prop} (hs : s.heap.IsSliceOf sl vl vu vs) (pl : IsPart vl none) (pu : IsPart vu none) (ps : IsPart vs (some (-1)))
    (h : Q ((n : Int) - 1, -1, n) s) : wpAny (model prog w) A (Builtin.Slice.sliceApplied (.ref sl) (pure (n : Int))) Q E s := by
  obtain ⟨os, hos, hcs, hds⟩ := id hs
  unfold Builtin.Slice.sliceApplied Builtin.Slice.sliceFields
  refine wpAny_bind (wpAny_bind (wpAny_field hos hds (x := vl) rfl (wpAny_bind (wpAny_field hos hds (x := vu) rfl (wpAny_bind (wpAny_field hos hds (x := vs) rfl (wpAny_pure ?_)))))))
  refine wpAny_bind (HT.slicePart_ ps ?_)
  show wpAny _ _ (if ((-1 : Int) == 0) = true then _ else _) _ _ s
  rw [if_neg (by decide)]
  refine wpAny_bind (HT.slicePart_ pl (wpAny_bind (HT.slicePart_ pu (wpAny_bind (wpAny_pure ?_)))))
  have e : Builtin.Slice.sliceAdjust none none (-1) (n : Int) = ((n : Int) - 1, -1) := by
    simp [Builtin.Slice.sliceAdjust]
  have e2 : Builtin.Slice.slicePlaces ((n : Int) - 1) (-1) (-1) = n := by
    unfold Builtin.Slice.slicePlaces
    simp
    omega
  show wpAny _ _ (match Builtin.Slice.sliceAdjust none none (-1) (n : Int) with | (lo, hi) => pure (lo, (-1 : Int), Builtin.Slice.slicePlaces lo hi (-1))) _ _ s
  rw [e]
  show wpAny _ _ (pure ((n : Int) - 1, (-1 : Int), Builtin.Slice.slicePlaces ((n : Int) - 1) (-1) (-1))) _ _ s
  rw [e2]
  exact wpAny_pure h
theorem getItem_tuple_rev {t sl : Addr} {items : Array Value} {vl vu vs : Value} {Q : Value → Shared → Prop} (ht : IsTup s.heap t items) (hs : s.heap.IsSliceOf sl vl vu vs) (pl : IsPart vl none) (pu : IsPart vu none) (ps : IsPart vs (some (-1)))
    (h : Q (.ref s.heap.objs.size) { s with heap := s.heap.push { cls := .type "tuple", data := .seq items.toList.reverse.toArray } })
    (hsz : items.size ≤ sizeLine) : wpAny (model prog w) A (getItem (.ref t) (.ref sl)) Q E s := by
  have htake : sizeOk (.seq items.toList.reverse.toArray) := by
    show (items.toList.reverse).toArray.size ≤ sizeLine
    rw [List.size_toArray, List.length_reverse, Array.length_toList]
    omega
  obtain ⟨os, hos, hcs, hds⟩ := id hs
  have hTs : s.TypeIs (.ref sl) "slice" := ⟨os, hos, hcs⟩
  unfold getItem
  try with_reducible refine wpAny_holding ?_
  first | refine wpAny_bind (wpAny_pure ?_) | skip
  refine wpAny_bind (wpAny_sequenceKey ht.typeIs (by decide) ?_)
  refine wpAny_bind (wpAny_callSpecial?_slot (name := Str.ofString "__getitem__") ht.typeIs PyProof.Rows.slot_tuple_getitem
    (wpAny_call_entry PyProof.Rows.slot_tuple_getitem ht.typeIs PyProof.Rows.entry_tuple_getitem ?_ (PyProof.Rows.args_tuple_getitem _ _)))
  show wpAny _ _ (Builtin.Tuple.tupleItemsOf (.ref t) >>= _) _ _ s
  refine wpAny_bind (PyProof.Rows.tupleItemsOf_ ht ?_)
  refine wpAny_bind (wpAny_typeOf hTs ?_)
  rw [if_pos (by decide)]
  refine wpAny_bind (rev_applied hs pl pu ps ?_)
  have hno : ¬ (((items.size : Int) - 1 == 0 && (-1 : Int) == 1 && items.size == items.size) = true) := by
    intro q
    rw [Bool.and_eq_true, Bool.and_eq_true] at q
    exact absurd q.1.2 (by decide)
  show wpAny _ _ (if ((items.size : Int) - 1 == 0 && (-1 : Int) == 1 && items.size == items.size) = true then _ else _) _ _ s
  rw [if_neg hno, pick_rev]
  first
    | exact wpAny_bind (m := Builtin.Tuple.tupleExact _) (wpAny_newObj_type (wpAny_pure ⟨_, rfl, wpAny_pure h⟩) htake)
    | exact wpAny_bind (m := Builtin.Tuple.tupleExact _) (wpAny_newObj_type (wpAny_bind (wpAny_pure (wpAny_pure ⟨_, rfl, wpAny_pure h⟩))) htake)
    | exact wpAny_bind (wpAny_bind (m := Builtin.Tuple.tupleExact _) (wpAny_newObj_type (wpAny_pure (wpAny_pure ⟨_, rfl, wpAny_pure h⟩)) htake))
    | exact wpAny_bind (wpAny_bind (m := Builtin.Tuple.tupleExact _) (wpAny_newObj_type (wpAny_pure ⟨_, rfl, wpAny_pure h⟩) htake))
end
def tRevT (K : PySem.W.Frag) (te : TE) : TE := fun σ H Q => te σ H fun x H1 => ∃ a xs, x = .ref a ∧ SqT K H1 a xs ∧ ∀ p, H1 p = none → Q (.ref p) (upd H1 p (.tup xs.reverse))
section
variable {X : Cx}
theorem pe_revT {e : Expr} {te : TE} {k : Nat} {p1 p2 p3 pos : Pos} (he : PE X e te) : PE X (.Subscript e (.Slice none none (some (.UnaryOp .USub (.Constant (.int 1) k p1) p2)) p3) pos) (tRevT X.K te) := by
  refine ⟨fun pins s σ H Q I h => ?_⟩
  refine Subscript_ (thn (he.run pins s σ H _ I h) fun v s1 ⟨x, H1, I1, r1, q1⟩ => ?_)
  obtain ⟨a, xs, ex, hx, q⟩ := q1
  subst ex
  cases r1
  have hst : PO X (some (.UnaryOp .USub (.Constant (.int 1) k p1) p2)) (tPart (tUn (rU fun i => .int (-i)) (tC (.int 1)))) := po_some (pe_un un_neg pe_int)
  refine wpAny_Slice (thn (po_none.run pins s1 σ H1 (fun o H2 => o = none ∧ H2 = H1) I1 ⟨rfl, rfl⟩) fun vl s2 ⟨l, H2, I2, pl, el, e2⟩ => ?_)
  subst el e2
  refine thn (po_none.run pins s2 σ H2 (fun o H3 => o = none ∧ H3 = H2) I2 ⟨rfl, rfl⟩) fun vu s3 ⟨u, H3, I3, pu, eu, e3⟩ => ?_
  subst eu e3
  refine thn (hst.run pins s3 σ H3 (fun o H4 => o = some (-1) ∧ H4 = H3) I3 ⟨1, rfl, -1, rfl, rfl, rfl⟩) fun vs s4 ⟨o, H4, I4, ps, eo, e4⟩ => ?_
  subst eo e4
  have I5 : Inv X pins σ H4 { s4 with heap := s4.heap.push { cls := .type "slice", data := .fields #[vl, vu, vs] } } := I4.kept (t' := s4.toks) fun b ob q => Heap.get?_push_of_some _ q
  obtain ⟨its, r, ht, hz⟩ := I5.tuple hx
  have hlen := r.length
  show wpAny (model X.prog X.w) X.A (subscriptTail e (.Slice none none (some (.UnaryOp .USub (.Constant (.int 1) k p1) p2)) p3) (.ref a) (.ref s4.heap.objs.size)) (EP X pins σ Q) X.xe { s4 with heap := s4.heap.push { cls := .type "slice", data := .fields #[vl, vu, vs] } }
  refine tail_any (ops := [.ref a, .ref s4.heap.objs.size]) ht.typeIs (PyProof.Rows.slot_tuple_getitem.lookup) ?_ (by with_unfolding_all rfl)
  refine getItem_tuple_rev ht (Heap.IsSliceOf.new _ vl vu vs) pl pu ps ?_ (by rw [List.size_toArray]; omega)
  refine ⟨.ref _, _, I5.laid (t' := s4.toks) (o := .tup xs.reverse) (fun b ob q => Heap.get?_push_of_some _ q) (Nat.le_refl _) ?_, rfl, q _ (I5.hok.fresh (Nat.le_refl _))⟩
  exact ⟨by rw [List.length_reverse]; exact hz, its.reverse, r.reverse, ⟨_, Heap.get?_push_size _ rfl, rfl, _, rfl⟩⟩
end
/-! ### l.extend(t), t a tuple -/
theorem extend_tuple (l : Addr) (items : Array Value) (n : Nat) (b : Addr) (items2 : Array Value) (n2 : Nat) (dd : Option Addr) (sl : Array (Option Value)) (hs0 : ¬(!items.isEmpty && Builtin.List.listTooLong (items.size + items2.size)) = true) (hs1 : items.size ≤ sizeLine) (hs2 : items.size + items2.size ≤ sizeLine + 1 := by seq_fits) :
    Meets (Builtin.«list.extend» ⟨[.ref l, .ref b], []⟩) (fun _ R s => s.heap.get? l = some { cls := .type "list", dict := none, data := .seq items n, slots := #[] } ∧ s.heap.get? b = some { cls := .type "tuple", dict := dd, data := .seq items2 n2, slots := sl } ∧ R (.ok (.ret Value.none)) { s with heap := s.heap.update l (Obj.mapSeq fun x => x ++ items2), toks := s.toks }) :=
  .of_wp fun prog w A R s h => by
    obtain ⟨hp, g, d, tk, os⟩ := s; obtain ⟨hl, hb, h⟩ := h; have f1 := AutoSeq1.idx_int; have f2 := AutoSeq1.sub_tuple_tuple; have f3 := AutoSeq1.sub_list_list; have f4 := AutoSeq1.sub_tuple_list; have f5 := AutoSeq1.sub_list_tuple;
    have hz' : (items ++ items2).size ≤ sizeLine + 1 := by rw [Array.size_append]; exact hs2
    wp_walk using (wpAny_updateSeq hl rfl (hz := hs1) (_hz' := hz')), wpAny_loadPart' hl, wpAny_loadPart' hb; exact ⟨_, rfl, h⟩
def rExtT (K : PySem.W.Frag) : V → List V → Hp → VK → Prop := fun x vs H Q => ∃ l b xs zs, x = .ref l ∧ vs = [.ref b] ∧ H l = some (.lst xs) ∧ SqT K H b zs ∧ xs.length + zs.length ≤ sizeLine ∧ Q .non (upd H l (.lst (xs ++ zs)))
theorem mt_extendT {X : Cx} : MtM X "list.extend" (rExtT X.K) := by
  intro pins s σ H x vs v us Q I rx rv h
  obtain ⟨l, b, xs, zs, rfl, rfl, hH, hB, hz, q⟩ := h
  cases rx
  obtain ⟨u, rfl, ru⟩ := rv.one
  cases ru
  obtain ⟨z, its, n, r, hl, e⟩ := I.lstM hH
  obtain ⟨its2, r2, ⟨⟨cls, dd, dt, sl⟩, ho, hc, n2, hd⟩, _⟩ := I.tuple hB
  simp only at hc hd
  subst hc hd
  have hl2 := r2.length
  have hsz : its.toArray.size + its2.toArray.size ≤ sizeLine := by rw [List.size_toArray, List.size_toArray]; omega
  have hlong : ¬ (!its.toArray.isEmpty && Builtin.List.listTooLong (its.toArray.size + its2.toArray.size)) = true := by
    rw [notLongL hsz, Bool.and_false]
    exact Bool.false_ne_true
  refine call_meets F.slot_list_extend ⟨_, e, rfl⟩ F.entry_list_extend (F.args_list_extend_2 _ _)
    (extend_tuple l its.toArray n b its2.toArray n2 dd sl hlong (by rw [List.size_toArray]; omega) (by omega)) ⟨e, ho, ?_⟩
  refine ⟨.non, _, I.lset (its' := its ++ its2) hH e (by simp) (r.append r2) ?_, rfl, q⟩
  rw [List.length_append]
  omega
end LmR

set_option Elab.async false
set_option linter.all false
set_option maxRecDepth 100000
set_option maxHeartbeats 2000000
namespace LmR
open PySem PySem.Spec PyProof.Rows L2 RZ
theorem zip_no_len : typeLookup (.type "zip") "__len__" = pure none := by rw [typeLookup_type, builtinLookup_eq_fast]; kernel_rfl
theorem zip_no_hint : typeLookup (.type "zip") "__length_hint__" = pure none := by rw [typeLookup_type, builtinLookup_eq_fast]; kernel_rfl
section
variable {prog : Program} {w : World} {A : Around} {E : Value → Shared → Prop} {s : Shared}
theorem zipT_item_held {z TI TO T i1 i2 l1 l2 : Addr} {f : Bool} {oT : Obj} {k1 k2 : Nat} {xs ys : Array Value} {x y : Value} {Q : Value → Shared → Prop} (D : ZipApart z TI TO i1 i2 l1 l2)
    (hz : IsZipHeld s.heap z TI TO T f) (hT : s.heap.get? T = some oT) (hTI : IsPair s.heap TI (.ref i1) (.ref i2))
    (h1 : s.heap.IsTupleIter i1 l1 k1) (h2 : s.heap.IsTupleIter i2 l2 k2) (hl1 : s.heap.IsTuple l1 xs) (hl2 : s.heap.IsTuple l2 ys) (hx : xs[k1]? = some x) (hy : ys[k2]? = some y)
    (hQ : ∀ h', IsZipHeld h' z TI TO T true → h'.IsTupleIter i1 l1 (k1 + 1) → h'.IsTupleIter i2 l2 (k2 + 1) → IsPair h' s.heap.objs.size x y → h'.objs.size = s.heap.objs.size + 1 →
      (∀ c o, c ≠ z → c ≠ i1 → c ≠ i2 → s.heap.get? c = some o → h'.get? c = some o) → Q (.ref s.heap.objs.size) { s with heap := h' }) :
    wpAny (model prog w) A (Builtin.«zip.__next__» ⟨[.ref z], []⟩) (fun fin s' => ∃ v, fin = .done (.ret v) ∧ Q v s') E s := by
  show wpAny _ _ (field (.ref z) 2 >>= _) _ _ _
  refine wpAny_bind (wpAny_field hz rfl (x := .bool false) rfl ?_)
  show wpAny _ _ (field (.ref z) 3 >>= _) _ _ _
  refine wpAny_bind (wpAny_field hz rfl (x := .ref TI) rfl ?_)
  refine wpAny_bind (wpAny_seqItems hTI rfl ?_)
  show wpAny _ _ (Builtin.SmallTypes.ownedTupleIsFree (.ref z) >>= _) _ _ _
  refine wpAny_bind (wpAny_tupleHeld_zip hz hT fun h₁ hz₁ hs₁ => ?_)
  simp only [Bool.false_eq_true, if_false]
  refine wpAny_bind ?_
  rw [← Array.forIn_toList]
  simp only [List.forIn_cons, List.forIn_nil]
  refine wpAny_bind (wpAny_bind (wpAny_holding ?_))
  show wpAny _ _ (Builtin.SmallTypes.nextOf (.ref i1) >>= _) _ _ _
  refine wpAny_bind (nextOf_tuple_item (s := { s with heap := h₁ }) (h1.extBut hs₁.extBut D.i1z) (hl1.extBut hs₁.extBut D.l1z) hx fun h₂ h1₂ hs₂ => wpAny_pure ?_)
  refine wpAny_pure ?_
  refine wpAny_bind (wpAny_bind (wpAny_holding ?_))
  show wpAny _ _ (Builtin.SmallTypes.nextOf (.ref i2) >>= _) _ _ _
  refine wpAny_bind (nextOf_tuple_item (s := { s with heap := h₂ }) ((h2.extBut hs₁.extBut D.i2z).extBut hs₂.extBut D.i12.symm) ((hl2.extBut hs₁.extBut D.l2z).extBut hs₂.extBut D.l2i1) hy fun h₃ h2₃ hs₃ => wpAny_pure ?_)
  refine wpAny_pure (wpAny_pure ?_)
  show wpAny _ _ (newTuple [x, y] >>= _) _ _ _
  refine wpAny_bind (wpAny_newTuple ?_)
  have hsz : h₃.objs.size = s.heap.objs.size := by rw [hs₃.1, hs₂.1, hs₁.1]
  have hz₃ : IsZipHeld h₃ z TI TO T true := hs₃.extBut _ _ D.i2z.symm (hs₂.extBut _ _ D.i1z.symm hz₁)
  have hk : ∀ c o, c ≠ z → c ≠ i1 → c ≠ i2 → s.heap.get? c = some o → h₃.get? c = some o := fun c o c1 c2 c3 e => hs₃.extBut _ _ c3 (hs₂.extBut _ _ c2 (hs₁.extBut _ _ c1 e))
  have h1₃ : h₃.IsTupleIter i1 l1 (k1 + 1) := h1₂.extBut hs₃.extBut D.i12
  refine wpAny_pure ⟨_, rfl, ?_⟩
  show Q (.ref h₃.objs.size) _
  have hp : IsPair (h₃.push { cls := .type "tuple", data := .seq #[x, y] }) h₃.objs.size x y := Heap.get?_push_size _ rfl
  have hz4 : (h₃.push { cls := .type "tuple", data := .seq #[x, y] }).objs.size = h₃.objs.size + 1 := Heap.size_push ..
  rw [hsz] at hp hz4 ⊢
  exact hQ _ (Heap.get?_push_of_some _ hz₃) (h1₃.at fun o e => Heap.get?_push_of_some _ e) (h2₃.at fun o e => Heap.get?_push_of_some _ e) hp hz4 fun c o c1 c2 c3 e => Heap.get?_push_of_some _ (hk c o c1 c2 c3 e)
theorem zipT_end_held {z TI TO T i1 i2 l1 l2 : Addr} {f : Bool} {oT : Obj} {k1 k2 : Nat} {xs ys : Array Value} {Q : Fin → Shared → Prop} (hh : A.handled = none) (D : ZipApart z TI TO i1 i2 l1 l2)
    (hz : IsZipHeld s.heap z TI TO T f) (hT : s.heap.get? T = some oT) (hTI : IsPair s.heap TI (.ref i1) (.ref i2))
    (h1 : s.heap.IsTupleIter i1 l1 k1) (h2 : s.heap.IsTupleIter i2 l2 k2) (hl1 : s.heap.IsTuple l1 xs) (hl2 : s.heap.IsTuple l2 ys) (hx : xs[k1]? = none)
    (hE : ∀ h' e, (∀ c o, c ≠ z → c ≠ i1 → c ≠ i2 → s.heap.get? c = some o → h'.get? c = some o) → (∃ o, h'.get? e = some o ∧ o.cls = .type "StopIteration") → E (.ref e) { s with heap := h' }) :
    wpAny (model prog w) A (Builtin.«zip.__next__» ⟨[.ref z], []⟩) Q E s := by
  show wpAny _ _ (field (.ref z) 2 >>= _) _ _ _
  refine wpAny_bind (wpAny_field hz rfl (x := .bool false) rfl ?_)
  show wpAny _ _ (field (.ref z) 3 >>= _) _ _ _
  refine wpAny_bind (wpAny_field hz rfl (x := .ref TI) rfl ?_)
  refine wpAny_bind (wpAny_seqItems hTI rfl ?_)
  show wpAny _ _ (Builtin.SmallTypes.ownedTupleIsFree (.ref z) >>= _) _ _ _
  refine wpAny_bind (wpAny_tupleHeld_zip hz hT fun h₁ hz₁ hs₁ => ?_)
  simp only [Bool.false_eq_true, if_false]
  refine wpAny_bind ?_
  rw [← Array.forIn_toList]
  simp only [List.forIn_cons, List.forIn_nil]
  refine wpAny_bind (wpAny_bind (wpAny_holding ?_))
  show wpAny _ _ (Builtin.SmallTypes.nextOf (.ref i1) >>= _) _ _ _
  refine wpAny_bind (nextOf_tuple_end (s := { s with heap := h₁ }) hh (h1.extBut hs₁.extBut D.i1z) (hl1.extBut hs₁.extBut D.l1z) hx fun h₂ e hs₂ he => ?_)
  exact hE h₂ e (fun c o c1 c2 _ x => hs₂ _ _ c2 (hs₁.extBut _ _ c1 x)) he
/-- a zip of two tuples between two turns of list(..) -/
structure ZSt (h : Heap) (z TI TO i1 i2 l1 l2 S lo : Addr) (xs ys : Array Value) (i : Nat) : Prop where
  zip : (i = 0 ∧ IsZip h z TI TO .none ∧ ∃ a b, IsPair h TO a b) ∨ ∃ T f oT, IsZipHeld h z TI TO T f ∧ h.get? T = some oT ∧ lo ≤ T
  ti : IsPair h TI (.ref i1) (.ref i2)
  h1 : h.IsTupleIter i1 l1 i
  h2 : h.IsTupleIter i2 l2 i
  l1' : h.IsTuple l1 xs
  l2' : h.IsTuple l2 ys
/-- the addresses that are there ahead of the pairs -/
structure ZLo (z TI TO i1 i2 l1 l2 S lo : Addr) : Prop where
  z' : z < lo
  TI' : TI < lo
  TO' : TO < lo
  i1' : i1 < lo
  i2' : i2 < lo
  l1' : l1 < lo
  l2' : l2 < lo
  S' : S < lo
  Sz : S ≠ z
  STI : S ≠ TI
  STO : S ≠ TO
  Si1 : S ≠ i1
  Si2 : S ≠ i2
  Sl1 : S ≠ l1
  Sl2 : S ≠ l2
variable {z TI TO i1 i2 l1 l2 S lo : Addr} {xs ys : Array Value}
theorem ZSt.upd {h h' : Heap} {i : Nat} (L : ZLo z TI TO i1 i2 l1 l2 S lo) (st : ZSt h z TI TO i1 i2 l1 l2 S lo xs ys i) (k : ∀ b o, b ≠ S → h.get? b = some o → h'.get? b = some o) : ZSt h' z TI TO i1 i2 l1 l2 S lo xs ys i where
  zip := by
    rcases st.zip with ⟨e, hz, a, b, ht⟩ | ⟨T, f, oT, hz, hT, hl⟩
    · exact .inl ⟨e, k _ _ L.Sz.symm hz, a, b, k _ _ L.STO.symm ht⟩
    · exact .inr ⟨T, f, oT, k _ _ L.Sz.symm hz, k _ _ (fun e => by have := L.S'; rw [e] at hl; exact absurd hl (Nat.not_le.mpr this)) hT, hl⟩
  ti := k _ _ L.STI.symm st.ti
  h1 := st.h1.at fun o e => k _ _ L.Si1.symm e
  h2 := st.h2.at fun o e => k _ _ L.Si2.symm e
  l1' := by
    obtain ⟨o, ho, r⟩ := st.l1'
    exact ⟨o, k _ _ L.Sl1.symm ho, r⟩
  l2' := by
    obtain ⟨o, ho, r⟩ := st.l2'
    exact ⟨o, k _ _ L.Sl2.symm ho, r⟩
theorem tup_keep {h h' : Heap} {l : Addr} {its : Array Value} (t : h.IsTuple l its) (k : ∀ o, h.get? l = some o → h'.get? l = some o) : h'.IsTuple l its := by
  obtain ⟨o, ho, r⟩ := t
  exact ⟨o, k o ho, r⟩
theorem zst_item {i : Nat} {x y : Value} {Q : Option Value → Shared → Prop} (D : ZipApart z TI TO i1 i2 l1 l2) (L : ZLo z TI TO i1 i2 l1 l2 S lo) (hlo : lo ≤ s.heap.objs.size) (st : ZSt s.heap z TI TO i1 i2 l1 l2 S lo xs ys i) (hx : xs[i]? = some x) (hy : ys[i]? = some y)
    (hQ : ∀ h', ZSt h' z TI TO i1 i2 l1 l2 S lo xs ys (i + 1) → IsPair h' s.heap.objs.size x y → h'.objs.size = s.heap.objs.size + 1 →
      (∀ c o, c ≠ z → c ≠ TO → c ≠ i1 → c ≠ i2 → s.heap.get? c = some o → h'.get? c = some o) → Q (some (.ref s.heap.objs.size)) { s with heap := h' }) :
    wpAny (model prog w) A (pyNext (.ref z)) Q E s := by
  rcases st.zip with ⟨e, hz, a, b, ht⟩ | ⟨T, f, oT, hz, hT, hl⟩
  · refine pyNext_zipT_item D hz st.ti ht st.h1 st.h2 st.l1' st.l2' hx hy fun h' z' to' a1 a2 pr sz k => hQ h' ⟨.inr ⟨s.heap.objs.size, false, _, z', pr, hlo⟩, ?_, a1, a2, ?_, ?_⟩ pr sz k
    · exact k _ _ D.TIz D.TITO D.TIi1 D.TIi2 st.ti
    · exact tup_keep st.l1' fun o q => k _ _ D.l1z D.l1TO D.l1i1 D.l1i2 q
    · exact tup_keep st.l2' fun o q => k _ _ D.l2z D.l2TO D.l2i1 D.l2i2 q
  · have hTy : s.TypeIs (.ref z) "zip" := ⟨_, hz, rfl⟩
    unfold pyNext
    refine wpAny_bind (wpAny_attempt (wpAny_callSpecial?_slot (name := Str.ofString "__next__") hTy F.slot_zip_next
      (wpAny_call_entry F.slot_zip_next hTy F.entry_zip_next
        (zipT_item_held D hz hT st.ti st.h1 st.h2 st.l1' st.l2' hx hy fun h' z' a1 a2 pr sz k => wpAny_pure (hQ h' ⟨.inr ⟨T, true, oT, z', ?_, hl⟩, ?_, a1, a2, ?_, ?_⟩ pr sz fun c o c1 _ c3 c4 q => k c o c1 c3 c4 q)) (F.args_zip_next_1 _))))
    · exact k _ _ (fun e => by rw [e] at hl; exact absurd hl (Nat.not_le.mpr L.z')) (fun e => by rw [e] at hl; exact absurd hl (Nat.not_le.mpr L.i1')) (fun e => by rw [e] at hl; exact absurd hl (Nat.not_le.mpr L.i2')) hT
    · exact k _ _ D.TIz D.TIi1 D.TIi2 st.ti
    · exact tup_keep st.l1' fun o q => k _ _ D.l1z D.l1i1 D.l1i2 q
    · exact tup_keep st.l2' fun o q => k _ _ D.l2z D.l2i1 D.l2i2 q
theorem zst_done {i : Nat} {Q : Option Value → Shared → Prop} (hh : A.handled = none) (D : ZipApart z TI TO i1 i2 l1 l2) (st : ZSt s.heap z TI TO i1 i2 l1 l2 S lo xs ys i) (hx : xs[i]? = none)
    (hQ : ∀ h', (∀ c o, c ≠ z → c ≠ TO → c ≠ i1 → c ≠ i2 → s.heap.get? c = some o → h'.get? c = some o) → Q none { s with heap := h' }) : wpAny (model prog w) A (pyNext (.ref z)) Q E s := by
  rcases st.zip with ⟨e, hz, a, b, ht⟩ | ⟨T, f, oT, hz, hT, hl⟩
  · exact pyNext_zipT_end hh D hz st.ti ht st.h1 st.h2 st.l1' st.l2' (.inl hx) hQ
  · have hTy : s.TypeIs (.ref z) "zip" := ⟨_, hz, rfl⟩
    unfold pyNext
    refine wpAny_bind (wpAny_attempt (wpAny_callSpecial?_slot (name := Str.ofString "__next__") hTy F.slot_zip_next
      (wpAny_call_entry F.slot_zip_next hTy F.entry_zip_next (zipT_end_held hh D hz hT st.ti st.h1 st.h2 st.l1' st.l2' hx fun h' e hk he => ?_) (F.args_zip_next_1 _))))
    obtain ⟨o, ho, hc⟩ := he
    refine wpAny_bind (wpAny_isInstance (T := "StopIteration") (b := true) ⟨o, ho, hc⟩ isSubtype_stop ?_)
    exact wpAny_pure (hQ _ fun c o c1 _ c3 c4 q => hk c o c1 c3 c4 q)
/-- the pairs made so far -/
structure ZG (xs ys : Array Value) (lo : Addr) (h : Heap) (as : List Addr) : Prop where
  rise : as.Pairwise (· < ·)
  above : ∀ a ∈ as, lo ≤ a
  pairs : ∀ (j : Nat) (a : Addr), as[j]? = some a → ∃ x y, xs[j]? = some x ∧ ys[j]? = some y ∧ IsPair h a x y
theorem ZG.there {h : Heap} {as : List Addr} (g : ZG xs ys lo h as) {a : Addr} (ha : a ∈ as) : a < h.objs.size := by
  obtain ⟨j, hj⟩ := List.mem_iff_getElem?.mp ha
  obtain ⟨_, _, _, _, e⟩ := g.pairs j a hj
  exact Heap.lt_size e
theorem zl_loop {R : Result → Shared → Prop} (hh : A.handled = none) (D : ZipApart z TI TO i1 i2 l1 l2) (L : ZLo z TI TO i1 i2 l1 l2 S lo) (hl : xs.size = ys.size) (hn : xs.size ≤ sizeLine) (res : Value) {h₁ : Heap}
    (hR : ∀ h' tk acc c as, (∀ b o, b ≠ S → b ≠ z → b ≠ TO → b ≠ i1 → b ≠ i2 → h₁.get? b = some o → h'.get? b = some o) → h'.get? S = some { cls := .type "list", dict := none, data := .seq acc c, slots := #[] } → as.length = xs.size → ZG xs ys lo h' as →
      acc.toList = as.map Value.ref → R (.ok (.ret res)) { s with heap := h', toks := tk }) :
    ∀ (k i : Nat) (h : Heap) (tk c : Nat) (acc : Array Value) (as : List Addr), xs.size - i = k → i ≤ xs.size → ZSt h z TI TO i1 i2 l1 l2 S lo xs ys i → (∀ b o, b ≠ S → b ≠ z → b ≠ TO → b ≠ i1 → b ≠ i2 → h₁.get? b = some o → h.get? b = some o) →
      h.get? S = some { cls := .type "list", dict := none, data := .seq acc c, slots := #[] } → acc.toList = as.map Value.ref → as.length = i → ZG xs ys lo h as → lo ≤ h.objs.size →
      codeAny (model prog w) A (.builtin "list.extend.loop" ⟨[.ref S, .ref z, res], []⟩) R { s with heap := h, toks := tk } := by
  intro k
  induction k with
  | zero =>
    intro i h tk c acc as hk hi st hkeep hS hacc hal hG hlo
    have hin : i = xs.size := by omega
    refine codeAny_builtin PySem.F.entry_extend_loop ?_
    rw [Around.under_plainId PySem.F.plain_extend_loop _]
    show wpAny _ A.in1 (pyNext (.ref z) >>= _) _ _ _
    refine wpAny_bind (zst_done (s := { s with heap := h, toks := tk }) (A := A.in1) hh D st (Array.getElem?_eq_none (by omega)) fun h' he => ?_)
    refine wpAny_pure (hR h' tk acc c as (fun b o h1 h2 h3 h4 h5 e => he b o h2 h3 h4 h5 (hkeep b o h1 h2 h3 h4 h5 e)) (he S _ L.Sz L.STO L.Si1 L.Si2 hS) (by omega) ⟨hG.rise, hG.above, fun j a hj => ?_⟩ hacc)
    obtain ⟨x, y, e1, e2, e3⟩ := hG.pairs j a hj
    have ha := hG.above a (List.mem_of_getElem? hj)
    exact ⟨x, y, e1, e2, he a _ (Nat.ne_of_gt (Nat.lt_of_lt_of_le L.z' ha)) (Nat.ne_of_gt (Nat.lt_of_lt_of_le L.TO' ha)) (Nat.ne_of_gt (Nat.lt_of_lt_of_le L.i1' ha)) (Nat.ne_of_gt (Nat.lt_of_lt_of_le L.i2' ha)) e3⟩
  | succ k ih =>
    intro i h tk c acc as hk hi st hkeep hS hacc hal hG hlo
    have hlt : i < xs.size := by omega
    have hx : xs[i]? = some xs[i] := Array.getElem?_eq_getElem hlt
    have hlt2 : i < ys.size := by omega
    have hy : ys[i]? = some ys[i] := Array.getElem?_eq_getElem hlt2
    have hsz : acc.size = i := by rw [← Array.length_toList, hacc, List.length_map, hal]
    refine codeAny_builtin PySem.F.entry_extend_loop ?_
    rw [Around.under_plainId PySem.F.plain_extend_loop _]
    show wpAny _ A.in1 (pyNext (.ref z) >>= _) _ _ _
    refine wpAny_bind (zst_item (s := { s with heap := h, toks := tk }) (A := A.in1) D L hlo st hx hy fun h' st' ht hz hkp => ?_)
    dsimp only at ht hz hkp ⊢
    have hS' := hkp S _ L.Sz L.STO L.Si1 L.Si2 hS
    have up : ∀ b o, b ≠ S → h'.get? b = some o → (h'.update S (Obj.mapSeq (·.push (Value.ref h.objs.size)))).get? b = some o := fun b o hb e => (Heap.get?_update_other _ _ (Ne.symm hb)).trans e
    have hSl : S < h.objs.size := Heap.lt_size hS
    show wpAny _ A.in1 (updateSeq S (·.push (Value.ref h.objs.size)) >>= _) _ _ _
    refine wpAny_bind ?_
    refine wpAny_updateSeq hS' rfl (wpAny_pure ⟨plainId_quiet PySem.F.plain_extend_loop _, ih (i + 1) _ tk _ (acc.push (Value.ref h.objs.size)) (as ++ [h.objs.size]) (by omega) hlt (st'.upd L up)
      (fun b o h1 h2 h3 h4 h5 e => up b o h1 (hkp b o h2 h3 h4 h5 (hkeep b o h1 h2 h3 h4 h5 e))) (Heap.get?_update_self _ hS' rfl) (by rw [Array.toList_push, hacc, List.map_append]; rfl) (by rw [List.length_append, hal]; rfl) ⟨?_, ?_, ?_⟩ ?_⟩) (by rw [hsz]; omega) (by show (acc.push (Value.ref h.objs.size)).size ≤ sizeLine + 1; rw [Array.size_push, hsz]; omega)
    · refine List.pairwise_append.mpr ⟨hG.rise, List.pairwise_singleton _ _, fun a ha b hb => ?_⟩
      rw [List.mem_singleton.mp hb]
      exact hG.there ha
    · intro a ha
      rcases List.mem_append.mp ha with ha | ha
      · exact hG.above a ha
      · rw [List.mem_singleton.mp ha]; exact hlo
    · intro j b hj
      rcases Nat.lt_trichotomy j as.length with h1 | h1 | h1
      · rw [List.getElem?_append_left h1] at hj
        obtain ⟨x', y', e1, e2, e3⟩ := hG.pairs j b hj
        have hb := hG.above b (List.mem_of_getElem? hj)
        exact ⟨x', y', e1, e2, up b _ (Nat.ne_of_gt (Nat.lt_of_lt_of_le L.S' hb)) (hkp b _ (Nat.ne_of_gt (Nat.lt_of_lt_of_le L.z' hb)) (Nat.ne_of_gt (Nat.lt_of_lt_of_le L.TO' hb)) (Nat.ne_of_gt (Nat.lt_of_lt_of_le L.i1' hb)) (Nat.ne_of_gt (Nat.lt_of_lt_of_le L.i2' hb)) e3)⟩
      · subst h1
        have hb : h.objs.size = b := by simpa using hj
        subst hb
        exact ⟨xs[i], ys[i], by rw [hal]; exact hx, by rw [hal]; exact hy, up _ _ (Nat.ne_of_gt hSl) ht⟩
      · have hnone : (as ++ [h.objs.size])[j]? = none := List.getElem?_eq_none (by rw [List.length_append, List.length_singleton]; omega)
        rw [hnone] at hj; cases hj
    · have e : (h'.update S (Obj.mapSeq (·.push (Value.ref h.objs.size)))).get? h.objs.size = _ := up _ _ (Nat.ne_of_gt hSl) ht
      exact Nat.le_trans hlo (Nat.le_of_lt (Heap.lt_size e))
end
end LmR

set_option Elab.async false
set_option linter.all false
set_option maxRecDepth 100000
set_option maxHeartbeats 2000000
namespace LmR
open PySem PySem.Spec PyProof.Rows L2 RZ
section
variable {prog : Program} {w : World} {A : Around} {E : Value → Shared → Prop} {s : Shared}
variable {z TI TO i1 i2 l1 l2 S lo : Addr} {xs ys : Array Value}
theorem zl_extend {R : Result → Shared → Prop} (hh : A.handled = none) (D : ZipApart z TI TO i1 i2 l1 l2) (L : ZLo z TI TO i1 i2 l1 l2 S lo) (hl : xs.size = ys.size) (hn : xs.size ≤ sizeLine) (res : Value) (c₀ : Nat) (hlo : lo ≤ s.heap.objs.size)
    (st : ZSt s.heap z TI TO i1 i2 l1 l2 S lo xs ys 0) (hz : IsZip s.heap z TI TO .none) (hS : s.heap.get? S = some { cls := .type "list", data := .seq #[] c₀ })
    (hR : ∀ h' tk acc c as, (∀ b o, b ≠ S → b ≠ z → b ≠ TO → b ≠ i1 → b ≠ i2 → s.heap.get? b = some o → h'.get? b = some o) → h'.get? S = some { cls := .type "list", dict := none, data := .seq acc c, slots := #[] } → as.length = xs.size → ZG xs ys lo h' as →
      acc.toList = as.map Value.ref → R (.ok (.ret res)) { s with heap := h', toks := tk }) :
    wpAny (model prog w) A.in1 (Builtin.List.listExtendWith (.ref S) (.ref z) res)
      (fun fin s' => match fin with | .done f => R (.ok f) s' | .again c' => c'.quiet = true ∧ codeAny (model prog w) A c' R s') (fun e s' => R (.error e) s') s := by
  have hT : s.TypeIs (.ref z) "zip" := ⟨_, hz, rfl⟩
  unfold Builtin.List.listExtendWith
  refine wpAny_bind (wpAny_typeOf hT ?_)
  have h1 : Builtin.List.listSameRef (.ref S) (.ref z) = false := by simp [Builtin.List.listSameRef, L.Sz]
  have h2 : (Value.type "zip" == Value.type "list") = false := by decide
  have h3 : (Value.type "zip" == Value.type "tuple") = false := by decide
  simp only [h1, h2, h3, Bool.or_false, Bool.false_eq_true, if_false]
  refine wpAny_bind (wpAny_pyIter_zip hz ?_)
  refine wpAny_bind (wpAny_holding ?_)
  unfold Builtin.List.listLengthHint
  refine wpAny_bind (wpAny_specialOf hT zip_no_len ?_)
  show wpAny _ A.in1 (specialOf (Value.ref z) (Str.ofString "__length_hint__") >>= _) _ _ _
  refine wpAny_bind (wpAny_specialOf hT zip_no_hint ?_)
  refine wpAny_pure ?_
  show wpAny _ A.in1 (rule "list.extend.makes-room" >>= fun _ => Builtin.List.listTouch (.ref S) >>= fun _ =>
    again (.builtin "list.extend.loop" ⟨[.ref S, .ref z, res], []⟩)) _ _ _
  refine wpAny_bind (wpAny_rule ?_)
  refine wpAny_bind ?_
  show wpAny _ A.in1 (updateSeq S (·.push .none) >>= fun _ => updateSeq S (·.pop)) _ _ _
  refine wpAny_bind (wpAny_updateSeq hS rfl ?_)
  have hS₂ := Heap.get?_update_self (Obj.mapSeq (·.push Value.none)) hS rfl
  refine wpAny_updateSeq (hz := by seq_fits) hS₂ rfl ?_
  have hS₃ := Heap.get?_update_self (Obj.mapSeq (·.pop)) hS₂ rfl
  have oth : ∀ b o, b ≠ S → s.heap.get? b = some o → ((s.heap.update S (Obj.mapSeq (·.push Value.none))).update S (Obj.mapSeq (·.pop))).get? b = some o :=
    fun b o hb e => (Heap.get?_update_other _ _ (Ne.symm hb)).trans ((Heap.get?_update_other _ _ (Ne.symm hb)).trans e)
  refine wpAny_pure ⟨plainId_quiet PySem.F.plain_extend_loop _, zl_loop (s := s) (h₁ := s.heap) hh D L hl hn res hR xs.size 0 _ s.toks _ #[] [] (Nat.sub_zero _) (Nat.zero_le _) (st.upd L oth) (fun b o h1 _ _ _ _ e => oth b o h1 e) hS₃ rfl rfl ⟨List.Pairwise.nil, (fun _ ha => nomatch ha), (fun j a hj => by simp at hj)⟩ ?_⟩
  have zz := oth z _ L.Sz.symm hz
  have e1 : ((s.heap.update S (Obj.mapSeq (·.push Value.none))).update S (Obj.mapSeq (·.pop))).objs.size = s.heap.objs.size := by
    first
      | (rw [Heap.size_update, Heap.size_update])
      | (simp [Heap.update])
  rw [e1]
  exact hlo
theorem zl_init {R : Result → Shared → Prop} (hh : A.handled = none) (D : ZipApart z TI TO i1 i2 l1 l2) (L : ZLo z TI TO i1 i2 l1 l2 S lo) (hl : xs.size = ys.size) (hn : xs.size ≤ sizeLine) (hlo : lo ≤ s.heap.objs.size)
    (st : ZSt s.heap z TI TO i1 i2 l1 l2 S lo xs ys 0) (hz : IsZip s.heap z TI TO .none) (hS : s.heap.get? S = some { cls := .type "list", data := .seq #[] })
    (hR : ∀ h' tk acc c as, (∀ b o, b ≠ S → b ≠ z → b ≠ TO → b ≠ i1 → b ≠ i2 → s.heap.get? b = some o → h'.get? b = some o) → h'.get? S = some { cls := .type "list", dict := none, data := .seq acc c, slots := #[] } → as.length = xs.size → ZG xs ys lo h' as →
      acc.toList = as.map Value.ref → R (.ok (.ret .none)) { s with heap := h', toks := tk }) :
    wpAny (model prog w) A.in1 (Builtin.«list.__init__» ⟨[.ref S, .ref z], []⟩)
      (fun fin s' => match fin with | .done f => R (.ok f) s' | .again c' => c'.quiet = true ∧ codeAny (model prog w) A c' R s') (fun e s' => R (.error e) s') s := by
  show wpAny _ _ (do let old ← Builtin.List.listItems (.ref S); Builtin.List.listUpdate (.ref S) (fun _ => #[]); letGo old.toList.reverse; Builtin.List.listExtendWith (.ref S) (.ref z) .none) _ _ s
  refine wpAny_bind ?_
  unfold Builtin.List.listItems
  refine wpAny_bind (wpAny_seqItems hS rfl (wpAny_pure ?_))
  show wpAny _ _ (updateSeq S (fun _ => #[]) >>= fun _ => letGo (#[] : Array Value).toList.reverse >>= fun _ => Builtin.List.listExtendWith (.ref S) (.ref z) .none) _ _ s
  refine wpAny_bind (wpAny_updateSeq hS rfl ?_)
  have hS₂ := Heap.get?_update_self (Obj.mapSeq (fun _ => (#[] : Array Value))) hS rfl
  have oth : ∀ b o, b ≠ S → s.heap.get? b = some o → (s.heap.update S (Obj.mapSeq (fun _ => (#[] : Array Value)))).get? b = some o :=
    fun b o hb e => (Heap.get?_update_other _ _ (Ne.symm hb)).trans e
  refine wpAny_bind (wpAny_letGo ?_)
  have e1 : (s.heap.update S (Obj.mapSeq (fun _ => (#[] : Array Value)))).objs.size = s.heap.objs.size := by
    first
      | (rw [Heap.size_update])
      | (simp [Heap.update])
  refine zl_extend hh D L hl hn .none _ (by show lo ≤ (s.heap.update S _).objs.size; rw [e1]; exact hlo) (st.upd L oth) (oth z _ L.Sz.symm hz) hS₂ (fun h' tk acc c as hk hS' hl' hG hacc => ?_)
  exact hR h' tk acc c as (fun b o h1 h2 h3 h4 h5 e => hk b o h1 h2 h3 h4 h5 (oth b o h1 e)) hS' hl' hG hacc
theorem zl_call {Q : Value → Shared → Prop} (hh : A.handled = none) (D : ZipApart z TI TO i1 i2 l1 l2) (hl : xs.size = ys.size) (hn : xs.size ≤ sizeLine)
    (hz : IsZip s.heap z TI TO .none) (hTI : IsPair s.heap TI (.ref i1) (.ref i2)) (hTO : ∃ a b, IsPair s.heap TO a b) (h1 : s.heap.IsTupleIter i1 l1 0) (h2 : s.heap.IsTupleIter i2 l2 0) (hl1 : s.heap.IsTuple l1 xs) (hl2 : s.heap.IsTuple l2 ys)
    (hQ : ∀ h' tk acc c as, (∀ b o, b ≠ z → b ≠ TO → b ≠ i1 → b ≠ i2 → s.heap.get? b = some o → h'.get? b = some o) → h'.get? s.heap.objs.size = some { cls := .type "list", dict := none, data := .seq acc c, slots := #[] } → as.length = xs.size → ZG xs ys (s.heap.objs.size + 1) h' as →
      acc.toList = as.map Value.ref → Q (.ref s.heap.objs.size) { s with heap := h', toks := tk }) :
    wpAny (model prog w) A (call (.type "list") [.ref z]) Q E s := by
  refine callType_codes (Q₁ := fun obj s₁ => obj = .ref s.heap.objs.size ∧ s₁ = { s with heap := s.heap.push { cls := .type "list", data := .seq #[] } }) PySem.F.called_list (PySem.F.typeCall_list_1 _) PySem.F.entry_list_init
    (code_list_new _ ⟨rfl, rfl⟩) fun obj s₁ h₁ => ?_
  obtain ⟨rfl, rfl⟩ := h₁
  have hS : (s.heap.push { cls := .type "list", data := .seq #[] }).get? s.heap.objs.size = some { cls := .type "list", data := .seq #[] } := Heap.get?_push_size _ rfl
  have kp : ∀ b o, s.heap.get? b = some o → (s.heap.push { cls := .type "list", data := .seq #[] }).get? b = some o := fun b o e => Heap.get?_push_of_some _ e
  have lz := Heap.lt_size hz
  have lTI := Heap.lt_size hTI
  obtain ⟨ta, tb, hTO'⟩ := hTO
  have lTO := Heap.lt_size hTO'
  have li1 : i1 < s.heap.objs.size := let ⟨_, e, _⟩ := h1; Heap.lt_size e
  have li2 : i2 < s.heap.objs.size := let ⟨_, e, _⟩ := h2; Heap.lt_size e
  have ll1 : l1 < s.heap.objs.size := let ⟨_, e, _⟩ := hl1; Heap.lt_size e
  have ll2 : l2 < s.heap.objs.size := let ⟨_, e, _⟩ := hl2; Heap.lt_size e
  have L : ZLo z TI TO i1 i2 l1 l2 s.heap.objs.size (s.heap.objs.size + 1) := ⟨Nat.lt_succ_of_lt lz, Nat.lt_succ_of_lt lTI, Nat.lt_succ_of_lt lTO, Nat.lt_succ_of_lt li1, Nat.lt_succ_of_lt li2, Nat.lt_succ_of_lt ll1, Nat.lt_succ_of_lt ll2, Nat.lt_succ_self _,
    Nat.ne_of_gt lz, Nat.ne_of_gt lTI, Nat.ne_of_gt lTO, Nat.ne_of_gt li1, Nat.ne_of_gt li2, Nat.ne_of_gt ll1, Nat.ne_of_gt ll2⟩
  have st : ZSt (s.heap.push { cls := .type "list", data := .seq #[] }) z TI TO i1 i2 l1 l2 s.heap.objs.size (s.heap.objs.size + 1) xs ys 0 :=
    ⟨.inl ⟨rfl, kp _ _ hz, ta, tb, kp _ _ hTO'⟩, kp _ _ hTI, h1.at fun o e => kp _ _ e, h2.at fun o e => kp _ _ e, tup_keep hl1 fun o e => kp _ _ e, tup_keep hl2 fun o e => kp _ _ e⟩
  refine ⟨⟨_, hS, rfl⟩, PySem.F.args_list_init_2 _ _, zl_init (A := A.in1) hh D L hl hn (by show s.heap.objs.size + 1 ≤ (s.heap.push _).objs.size; rw [Heap.size_push]; exact Nat.le_refl _) st (kp _ _ hz) hS (fun h' tk acc c as hk hS' hl' hG hacc => ?_)⟩
  exact ⟨rfl, hQ h' tk acc c as (fun b o c1 c2 c3 c4 e => hk b o (Nat.ne_of_lt (Heap.lt_size e)) c1 c2 c3 c4 (kp b o e)) hS' hl' hG hacc⟩
end
/-! ### the rule -/
/-- pairs tracked at their addresses -/
def putZ : Hp → List Addr → List (V × V) → Hp
  | H, a :: as, p :: ps => putZ (upd H a (.tup [p.1, p.2])) as ps
  | H, _, _ => H
theorem putZ_off {b : Addr} : ∀ (as : List Addr) (ps : List (V × V)) (H : Hp), b ∉ as → putZ H as ps b = H b
  | [], _, _, _ => rfl
  | _ :: _, [], _, _ => rfl
  | a :: as, p :: ps, H, h => by
    show putZ (upd H a (.tup [p.1, p.2])) as ps b = H b
    rw [putZ_off as ps _ (fun z => h (List.mem_cons_of_mem _ z)), upd_ne (fun z => h (by rw [z]; exact List.mem_cons_self))]
theorem putZ_at : ∀ (as : List Addr) (ps : List (V × V)) (H : Hp) (j : Nat) (a : Addr) (p : V × V), as.Nodup → as[j]? = some a → ps[j]? = some p → putZ H as ps a = some (.tup [p.1, p.2])
  | [], _, _, j, _, _, _, h, _ => by simp at h
  | _ :: _, [], _, j, _, _, _, _, h => by simp at h
  | a :: as, p :: ps, H, 0, b, q, nd, h1, h2 => by
    have e1 : a = b := Option.some.inj h1
    have e2 : p = q := Option.some.inj h2
    subst e1 e2
    show putZ (upd H a (.tup [p.1, p.2])) as ps a = some (.tup [p.1, p.2])
    rw [putZ_off as ps _ (List.nodup_cons.mp nd).1, upd_same]
  | a :: as, p :: ps, H, j + 1, b, q, nd, h1, h2 => putZ_at as ps _ j b q (List.nodup_cons.mp nd).2 h1 h2
/-- list(zip(t, u)) of two tuples of one length -/
def tListZip (K : PySem.W.Frag) (ta : TA) : TE := fun σ H Q => ta σ H fun vs H1 => ∃ (a b : Addr) (xs ys : List V), vs = [.ref a, .ref b] ∧ SqT K H1 a xs ∧ SqT K H1 b ys ∧ xs.length = ys.length ∧
  ∀ (H' : Hp) (p : Addr) (ts : List Addr), Same H1 H' → H1 p = none → (∀ t ∈ ts, H1 t = none) → H' p = some (.lst (ts.map V.ref)) → ts.length = xs.length →
    (∀ (j : Nat) (t : Addr), ts[j]? = some t → ∃ x y, xs[j]? = some x ∧ ys[j]? = some y ∧ H' t = some (.tup [x, y])) → Q (.ref p) H'
section
variable {X : Cx}
theorem pe_listZip {e e2 : Expr} {ta : TA} {p p2 pos pos2 : Pos} (hc : X.calm = true) (hgl : Gl X "list") (hml : X.mg "list" = none) (hgz : Gl X "zip") (hmz : X.mg "zip" = none) (ha : PA X [e, e2] ta)
    (hs : starEach [e, e2] X.env = (false, eval e X.env) :: starEach [e2] X.env := by rfl) (hpl : (backTo pos2 (starEach [e2] X.env)).any (·.1) = false := by rfl)
    (hs2 : starEach [.Call (.Name "zip" p2) [e, e2] [] pos2] X.env = (false, eval (.Call (.Name "zip" p2) [e, e2] [] pos2) X.env) :: starEach [] X.env := by rfl) :
    PE X (.Call (.Name "list" p) [.Call (.Name "zip" p2) [e, e2] [] pos2] [] pos) (tListZip X.K ta) := by
  refine ⟨fun pins s σ H Q I h => ?_⟩
  refine wpAny_Call_Name_kw (ld_blt I hgl hml PyProof.Rows.boot_list ?_)
  refine PyProof.Rows.callWith_type1 ?_ hs2 rfl
  rw [hs2]
  show wpAny _ _ (spliced ((false, eval (.Call (.Name "zip" p2) [e, e2] [] pos2) X.env) :: backTo pos (starEach [] X.env))) _ _ s
  refine Calls.spliced_cons ?_
  refine Call_ (ld_blt I hgz hmz PyProof.Rows.boot_zip (PyProof.Rows.callWith_type1 (thn (ha.run pos2 pins s σ H _ I h) fun us s1 ⟨vs, H1, I1, r1, q1⟩ => ?_) hs hpl))
  obtain ⟨a, b, xs, ys, ex, hqx, hqy, hxy, q⟩ := q1
  subst ex
  cases r1 with
  | cons r rr =>
    cases rr with
    | cons r' rr =>
      cases rr
      cases r
      cases r'
      obtain ⟨its, rv, p1, hz1⟩ := I1.tuple hqx
      obtain ⟨its2, rv2, p2', _⟩ := I1.tuple hqy
      obtain ⟨o1, ho1, _⟩ := id p1
      obtain ⟨o2, ho2, _⟩ := id p2'
      have e1 := rv.length
      have e2 := rv2.length
      refine call_zipT (show s1.heap.IsTuple a its.toArray from p1) (show s1.heap.IsTuple b its2.toArray from p2') fun h' hz hTI hTO h1 h2 hsz hk => ?_
      refine Calls.spliced_nil ?_
      have D := PySem.W.ktu_apart s1.heap.objs.size a b (Heap.lt_size ho1) (Heap.lt_size ho2)
      refine zl_call (s := { s1 with heap := h' }) (xs := its.toArray) (ys := its2.toArray) (I1.ok.hd hc) D (by rw [List.size_toArray, List.size_toArray]; omega) (by rw [List.size_toArray]; omega) hz hTI ⟨_, _, hTO⟩ h1 h2 (tup_keep p1 fun o q => hk _ _ q) (tup_keep p2' fun o q => hk _ _ q) fun h2' tk acc c as hkk hS hl hG hacc => ?_
      have lo : ∀ b o, s1.heap.get? b = some o → h2'.get? b = some o := fun b o q => by
        have lb := Heap.lt_size q
        exact hkk b o (fun z => by rw [z] at lb; exact absurd lb (Nat.not_lt.mpr (Nat.le_add_right _ _))) (fun z => by rw [z] at lb; exact absurd lb (Nat.not_lt.mpr (Nat.le_add_right _ _))) (fun z => by rw [z] at lb; exact absurd lb (Nat.lt_irrefl _)) (fun z => by rw [z] at lb; exact absurd lb (Nat.not_lt.mpr (Nat.le_add_right _ _))) (hk b o q)
      have hsz' : h'.objs.size = s1.heap.objs.size + 5 := hsz
      have hal : as.length = xs.length := by
        rw [hl, List.size_toArray]
        omega
      have nd : as.Nodup := List.Pairwise.imp (fun {a b} (h : a < b) => Nat.ne_of_lt h) hG.rise
      have big : ∀ t ∈ as, h'.objs.size < t := fun t ht => hG.above t ht
      have hSn : h'.objs.size ∉ as := fun z => Nat.lt_irrefl _ (big _ z)
      have new : ∀ t ∈ as, H1 t = none := fun t ht => I1.hok.fresh (by have := big t ht; rw [hsz'] at this; exact Nat.le_of_lt (Nat.lt_of_le_of_lt (Nat.le_add_right _ _) this))
      have newS : H1 h'.objs.size = none := I1.hok.fresh (by rw [hsz']; exact Nat.le_add_right _ _)
      have lk : ∀ b o, s1.heap.get? b = some o → b ∉ as ∧ b ≠ h'.objs.size := fun b o q => by
        have lb := Heap.lt_size q
        refine ⟨fun z => ?_, fun z => ?_⟩
        · have := big b z
          rw [hsz'] at this
          exact absurd lb (Nat.not_lt.mpr (Nat.le_trans (Nat.le_add_right _ 5) (Nat.le_of_lt this)))
        · rw [z, hsz'] at lb
          exact absurd lb (Nat.not_lt.mpr (Nat.le_add_right _ _))
      have off : ∀ b, b ∉ as → b ≠ h'.objs.size → putZ (upd H1 h'.objs.size (.lst (as.map V.ref))) as (xs.zip ys) b = H1 b := fun b h1 h2 => by rw [putZ_off as _ _ h1, upd_ne h2]
      have kp : ∀ b u, H1 b = some u → putZ (upd H1 h'.objs.size (.lst (as.map V.ref))) as (xs.zip ys) b = some u := fun b u e => by
        rw [off b (fun z => by rw [new b z] at e; cases e) (fun z => by rw [z, newS] at e; cases e)]
        exact e
      have eS : putZ (upd H1 h'.objs.size (.lst (as.map V.ref))) as (xs.zip ys) h'.objs.size = some (.lst (as.map V.ref)) := by rw [putZ_off as _ _ hSn, upd_same]
      have prs : ∀ (j : Nat) (t : Addr), as[j]? = some t → ∃ x y u1 u2, xs[j]? = some x ∧ ys[j]? = some y ∧ RelV x u1 ∧ RelV y u2 ∧ IsPair h2' t u1 u2 ∧ putZ (upd H1 h'.objs.size (.lst (as.map V.ref))) as (xs.zip ys) t = some (.tup [x, y]) := fun j t ht => by
        obtain ⟨u1, u2, f1, f2, f3⟩ := hG.pairs j t ht
        have hj : j < xs.length := by
          have := (List.getElem?_eq_some_iff.mp ht).1
          omega
        have hj2 : j < ys.length := by omega
        have g1 : xs[j]? = some xs[j] := List.getElem?_eq_getElem hj
        have g2 : ys[j]? = some ys[j] := List.getElem?_eq_getElem hj2
        obtain ⟨w1, k1, r1⟩ := rv.get g1
        obtain ⟨w2, k2, r2⟩ := rv2.get g2
        have m1 : u1 = w1 := by
          rw [List.getElem?_toArray, k1] at f1
          exact (Option.some.inj f1).symm
        have m2 : u2 = w2 := by
          rw [List.getElem?_toArray, k2] at f2
          exact (Option.some.inj f2).symm
        subst m1 m2
        refine ⟨xs[j], ys[j], u1, u2, g1, g2, r1, r2, f3, ?_⟩
        exact putZ_at as (xs.zip ys) _ j t (xs[j], ys[j]) nd ht (by rw [List.getElem?_zip_eq_some]; exact ⟨g1, g2⟩)
      refine ⟨.ref _, putZ (upd H1 h'.objs.size (.lst (as.map V.ref))) as (xs.zip ys), ?_, rfl, q _ _ as kp newS new eS hal fun j t ht => ?_⟩
      · have Ik : Inv X pins σ H1 { s1 with heap := h2', toks := tk } := I1.kept (t' := tk) lo
        refine I1.call' (ch := []) rfl ⟨fun b o q _ _ _ => lo b o q, fun b o q _ _ _ => ⟨o.slots, lo b o q⟩, fun b o q n _ => ?_, fun b o q _ => ⟨o, lo b o q⟩, fun b zs q => kp b _ q, fun b o u q => kp b _ q, fun b ps q => ⟨#[], by rw [kp b _ q]; simp⟩⟩ (fun b u q => ?_) I1.bare fun b z => by simp at z
        · obtain ⟨z1, z2⟩ := lk b o q
          rw [off b z1 z2]
          exact n
        · by_cases hb : b ∈ as
          · obtain ⟨j, hj⟩ := List.mem_iff_getElem?.mp hb
            obtain ⟨x, y, u1, u2, _, _, r1, r2, f3, e⟩ := prs j b hj
            rw [e] at q
            cases q
            exact ⟨by show 2 ≤ sizeLine; decide, [u1, u2], .cons r1 (.cons r2 .nil), ⟨_, f3, rfl, _, rfl⟩⟩
          · by_cases hb2 : b = h'.objs.size
            · rw [hb2] at q ⊢
              rw [eS] at q
              cases q
              refine ⟨by rw [List.length_map]; omega, acc.toList, c, by rw [hacc]; exact (let rec go : ∀ as : List Addr, Vals (as.map V.ref) (as.map Value.ref) | [] => .nil | _ :: as => .cons rfl (go as); go as), ?_⟩
              rw [Array.toArray_toList]
              exact hS
            · rw [off b hb hb2] at q
              exact (I1.hok b u q).stay (fun d v _ y => lo d v y) (fun d y => kp d _ y) fun d xs y => kp d _ y
      · obtain ⟨x, y, _, _, g1, g2, _, _, _, e⟩ := prs j t ht
        exact ⟨x, y, g1, g2, e⟩
end
end LmR

set_option Elab.async false
set_option linter.all false
set_option maxRecDepth 100000
set_option maxHeartbeats 2000000
namespace Lm
open PySem PySem.Spec PyProof.Rows L2 LmR
/-! ### defs of the text, callable -/
/-- the def st stands in the text under the name x -/
def DefAt (K : PySem.W.Frag) (mg : Str → Option Value) (x : Str) (st : Stmt) (ps : List Str) : Prop := ∃ f fd, Fun K x x st f fd ∧ Binds K fd ps [] ∧ mg x = some (.ref f)
/-- what stands under the name x keeps sp, by at most level k -/
def Cal (P : Program) (w : World) (K : PySem.W.Frag) (mg : Str → Option Value) (base : Heap) (k : Nat) (x : Str) (ps : List Str) (sp : Sp) : Prop :=
  ∃ f fd, FnOk P w K mg base CX0 k f fd ps sp ∧ mg x = some (.ref f) ∧ PySem.W.keepIn K (.ref f) = true ∧ Binds K fd ps [] ∧ ∃ st, Fun K x x st f fd
section
variable {P : Program} {w : World} {K : PySem.W.Frag} {mg : Str → Option Value} {base : Heap}
theorem Cal.mono {j k : Nat} {x : Str} {ps : List Str} {sp : Sp} (c : Cal P w K mg base j x ps sp) (h : j ≤ k) : Cal P w K mg base k x ps sp := by
  obtain ⟨f, fd, F, g, kp, b⟩ := c
  exact ⟨f, fd, F.mono h, g, kp, b⟩
theorem Cal.weak {k : Nat} {x : Str} {ps : List Str} {sp sp' : Sp} (c : Cal P w K mg base k x ps sp) (h : ∀ vs H Q E, sp' vs H Q E → sp vs H Q E) : Cal P w K mg base k x ps sp' := by
  obtain ⟨f, fd, F, g, kp, b⟩ := c
  exact ⟨f, fd, ⟨fun vs H Q E z => F.len vs H Q E (h vs H Q E z), fun A outer s H args us vs Q E r e b v z => F.run A outer s H args us vs Q E r e b v (h vs H Q E z)⟩, g, kp, b⟩
theorem cal_of {x : Str} {st : Stmt} {N ps : List Str} {k : Nat} {sp : Sp} (D : DefAt K mg x st ps) (S : FnScope N ps (defScope st)) (len : ∀ vs H Q E, sp vs H Q E → vs.length = ps.length)
    (hbody : ∀ (f : Addr) (cdv : Value) (A : Around) (outer : List Env) (s : Shared) (H : Hp) (vs : List V) (Q : VK) (E : XK), Room k (A.deeper (envOfC x (defScope st) s.heap.objs.size f cdv)) → sp vs H Q E →
      ∃ t, PSs (cxOf CX0 P w K mg base N x (defScope st) f cdv A outer s H E).nox (defBody st) t ∧ t { nx := fun _ H' => Q .non H', rt := Q } (start N vs) H) : Cal P w K mg base (k + 1) x ps sp := by
  obtain ⟨f, fd, F, b, g⟩ := D
  exact ⟨f, fd, F.ok S len (hbody f), g, F.kp, b, _, F⟩
/-- nothing is asked: no call is allowed -/
theorem cal_no {x : Str} {st : Stmt} {ps : List Str} {sp : Sp} (D : DefAt K mg x st ps) (no : ∀ vs H Q E, ¬ sp vs H Q E) {k : Nat} : Cal P w K mg base k x ps sp := by
  obtain ⟨f, fd, F, b, g⟩ := D
  exact ⟨f, fd, ⟨fun vs H Q E h => absurd h (no vs H Q E), fun A outer s H args us vs Q E _ _ _ _ h => absurd h (no vs H Q E)⟩, g, F.kp, b, _, F⟩
end
/-- f(e, ..) -/
theorem pe_cal {X : Cx} {k : Nat} {x : Str} {ps : List Str} {sp : Sp} {e : Expr} {es : List Expr} {t : TA} {p pos : Pos} (C : Cal X.prog X.w X.K X.mg X.base k x ps sp) (hr : Room k X.A) (hg : Gl X x) (ha : PA X (e :: es) t)
    (hdb : (x == ("__debug__" : Str)) = false := by decide) (he : starEach (e :: es) X.env = (false, eval e X.env) :: starEach es X.env := by rfl) (hpl : (backTo pos (starEach es X.env)).any (·.1) = false := by rfl) :
    PE X (.Call (.Name x p) (e :: es) [] pos) (tCall sp [] (fun _ _ _ => False) t) := by
  obtain ⟨f, fd, F, g, kp, b, _⟩ := C
  exact pe_call F hr hg g kp b .nil pass0 ha hdb he hpl
/-- the built-ins that the text names and no one has rebound -/
structure Bt (mg : Str → Option Value) : Prop where
  len : mg "len" = none
  isinstance : mg "isinstance" = none
  tuple : mg "tuple" = none
  list : mg "list" = none
  str : mg "str" = none
  int : mg "int" = none
  bool : mg "bool" = none
  range : mg "range" = none
  zip : mg "zip" = none
  enumerate : mg "enumerate" = none
  reversed : mg "reversed" = none
  max : mg "max" = none
  all : mg "all" = none
  min : mg "min" = none
  sum : mg "sum" = none
  any : mg "any" = none
  sorted : mg "sorted" = none
  set : mg "set" = none
  repr : mg "repr" = none
  abs : mg "abs" = none
/-! ### heaps -/
/-- all that was tracked is as it was, but what stands at ws -/
def Ex (ws : List Addr) (H H' : Hp) : Prop := ∀ b o, H b = some o → b ∉ ws → H' b = some o
theorem Ex.refl (ws : List Addr) (H : Hp) : Ex ws H H := fun _ _ h _ => h
theorem Ex.trans {ws : List Addr} {H H1 H2 : Hp} (a : Ex ws H H1) (b : Ex ws H1 H2) : Ex ws H H2 := fun c o h n => b c o (a c o h n) n
theorem Ex.mono {ws us : List Addr} {H H' : Hp} (a : Ex ws H H') (h : ∀ b ∈ ws, b ∈ us) : Ex us H H' := fun c o e n => a c o e fun m => n (h c m)
theorem Ex.of_same {ws : List Addr} {H H' : Hp} (a : Same H H') : Ex ws H H' := fun c o e _ => a c o e
theorem Ex.same {H H' : Hp} (a : Ex [] H H') : Same H H' := fun c o e => a c o e (by simp)
theorem Ex.new {ws : List Addr} {H : Hp} {p : Addr} {o : HO} (h : H p = none) : Ex ws H (upd H p o) := fun b u q _ => by rw [upd_ne (ne_of_none q h)]; exact q
theorem Ex.at {ws : List Addr} {H : Hp} {p : Addr} {o : HO} (h : p ∈ ws) : Ex ws H (upd H p o) := fun b u q n => by rw [upd_ne (fun z => n (by rw [z]; exact h))]; exact q
theorem same_new {H : Hp} {p : Addr} {o : HO} (h : H p = none) : Same H (upd H p o) := fun b u q => by rw [upd_ne (ne_of_none q h)]; exact q
theorem Ex.free {ws : List Addr} {H H' : Hp} (a : Ex ws H H') {p : Addr} (h : H' p = none) (n : p ∉ ws) : H p = none := by
  cases q : H p with
  | none => rfl
  | some o =>
    rw [a p o q n] at h
    cases h
theorem Ex.ne {ws : List Addr} {H H' : Hp} (a : Ex ws H H') {p q : Addr} {o : HO} (h : H q = some o) (hq : q ∉ ws) (hp : H' p = none) : q ≠ p := fun z => by
  rw [← z, a q o h hq] at hp
  cases hp
theorem small {n : Nat} (h : n ≤ 100000) : n ≤ sizeLine := Nat.le_trans h (by decide)
theorem smallL {n : Nat} (h : n ≤ 100000) : n < sizeLine := Nat.lt_of_le_of_lt h (by decide)
/-! ### data: None, truths, ints, texts, tuples of these -/
/-- without lists and dicts -/
def flat : PyData → Bool
  | .none => true
  | .bool _ => true
  | .int _ => true
  | .str _ => true
  | .list _ => false
  | .tuple xs => flats xs
  | .dict _ => false
where flats : List PyData → Bool
  | [] => true
  | d :: ds => flat d && flats ds
/-- the tuples that were there are there -/
def Tp (K : PySem.W.Frag) (H H' : Hp) : Prop := ∀ a xs, SqT K H a xs → SqT K H' a xs
theorem Ex.tp {K : PySem.W.Frag} {ws : List Addr} {H H' : Hp} (a : Ex ws H H') (h : ∀ b ∈ ws, ∀ xs, ¬ Rd H b (.tup xs)) : Tp K H H' := fun b xs q => by
  rcases q with (q | ⟨o, q⟩) | q
  · exact .inl (.inl (a b _ q fun m => h b m xs (.inl q)))
  · exact .inl (.inr ⟨o, a b _ q fun m => h b m xs (.inr ⟨o, q⟩)⟩)
  · exact .inr q
theorem Tp.refl (K : PySem.W.Frag) (H : Hp) : Tp K H H := fun _ _ h => h
theorem Tp.trans {K : PySem.W.Frag} {H H1 H2 : Hp} (a : Tp K H H1) (b : Tp K H1 H2) : Tp K H H2 := fun c xs h => b c xs (a c xs h)
theorem Tp.same {K : PySem.W.Frag} {H H' : Hp} (a : Same H H') : Tp K H H' := fun b xs q => by
  rcases q with (q | ⟨o, q⟩) | q
  · exact .inl (.inl (a b _ q))
  · exact .inl (.inr ⟨o, a b _ q⟩)
  · exact .inr q
/-- a list (or dict) that is written -/
theorem Tp.put {K : PySem.W.Frag} {H : Hp} {p : Addr} {o o' : HO} (h : H p = some o) (n1 : ∀ xs, o ≠ .tup xs) (n2 : ∀ u v, o ≠ .frz u v) : Tp K H (upd H p o') := fun b xs q => by
  rcases q with (q | ⟨u, q⟩) | q
  · have nb : b ≠ p := fun z => by
      rw [z, h] at q
      exact n1 xs (Option.some.inj q)
    exact .inl (.inl (by rw [upd_ne nb]; exact q))
  · have nb : b ≠ p := fun z => by
      rw [z, h] at q
      exact n2 _ _ (Option.some.inj q)
    exact .inl (.inr ⟨u, by rw [upd_ne nb]; exact q⟩)
  · exact .inr q
theorem Tp.lst {K : PySem.W.Frag} {H : Hp} {p : Addr} {xs : List V} {o' : HO} (h : H p = some (.lst xs)) : Tp K H (upd H p o') := Tp.put h (fun _ z => nomatch z) (fun _ _ z => nomatch z)
theorem Tp.dct {K : PySem.W.Frag} {H : Hp} {p : Addr} {xs : List (Key × V)} {o' : HO} (h : H p = some (.dK xs)) : Tp K H (upd H p o') := Tp.put h (fun _ z => nomatch z) (fun _ _ z => nomatch z)
theorem Tp.new {K : PySem.W.Frag} {H : Hp} {p : Addr} {o : HO} (h : H p = none) : Tp K H (upd H p o) := Tp.same (same_new h)
mutual
theorem dp_keep {K : PySem.W.Frag} {H H' : Hp} (t : Tp K H H') : ∀ (d : PyData) (v : V), flat d = true → Dp K H v d → Dp K H' v d
  | .none, _, _, h => by cases h; exact .non
  | .bool b, _, _, h => by cases h; exact .bl b
  | .int i, _, _, h => by cases h; exact .int i
  | .str x, _, _, h => by cases h; exact .str x
  | .list ds, _, f, _ => by simp [flat] at f
  | .tuple ds, _, f, h => by
    cases h with
    | tup q r => exact .tup (t _ _ q) (dps_keep t ds _ f r)
  | .dict ds, _, f, _ => by simp [flat] at f
theorem dps_keep {K : PySem.W.Frag} {H H' : Hp} (t : Tp K H H') : ∀ (ds : List PyData) (vs : List V), flat.flats ds = true → DpAll K H vs ds → DpAll K H' vs ds
  | [], _, _, h => by cases h; exact .nil
  | d :: ds, _, f, h => by
    rw [flat.flats, Bool.and_eq_true] at f
    cases h with
    | cons a b => exact .cons (dp_keep t d _ f.1 a) (dps_keep t ds _ f.2 b)
end
/-- flat data at v -/
def Fd (K : PySem.W.Frag) (H : Hp) (v : V) (d : PyData) : Prop := flat d = true ∧ Dp K H v d
theorem Fd.keep {K : PySem.W.Frag} {H H' : Hp} {v : V} {d : PyData} (h : Fd K H v d) (t : Tp K H H') : Fd K H' v d := ⟨h.1, dp_keep t d v h.1 h.2⟩
/-! ### rules within a comprehension: the written part by its name -/
section
variable {X : Cx} {K : PySem.W.Frag}
theorem ix_tupK (h : X.K = K) : IxR X (rIxT K) := h ▸ ix_tup
theorem ix_listK (h : X.K = K) : IxR X (rIxL K) := h ▸ ix_list
def rLenK (K : PySem.W.Frag) : List V → Hp → VK → Prop := fun xs H Q => ∃ p ys, xs = [.ref p] ∧ (SqL K H p ys ∨ SqT K H p ys) ∧ Q (.int ys.length) H
theorem call_len_seqK (h : X.K = K) : CallR X (.builtin "len") (rLenK K) := h ▸ call_len_seq
theorem pe_bm0K {T : String} {name : Str} {id : String} {r : V → List V → Hp → VK → Prop} {o : Expr} {to : TE} {apos cpos : Pos} (h : X.K = K) (pa : PlainAttrs T) (slot : Slot T name id) (hty : typeOf (.builtin id) = pure (.type "method_descriptor")) (hm : MtR X id r) (ho : PE X o to)
    (hbase : attributeBase o name X.env (eval o X.env) = eval o X.env := by rfl) (hline : (apos.endLine == cpos.line) = true := by rfl) : PE X (.Call (.Attribute o name apos) [] [] cpos) (tBM0 K T r to) := h ▸ pe_bm0 pa slot hty hm ho hbase hline
end
end Lm

set_option Elab.async false
set_option linter.all false
set_option maxRecDepth 100000
set_option maxHeartbeats 2000000
namespace Lm
open PySem PySem.Spec PyProof.Rows L2 LmR
/-! ### programs -/
inductive Bw where
  | least
  | most
  | atmost
  | both
  | either
def Bw.str : Bw → Str
  | .least => "least"
  | .most => "most"
  | .atmost => "atmost"
  | .both => "both"
  | .either => "either"
/-- the kind due to its parts; its own (true: truth) -/
def Bw.arg : Bw → Bool
  | .least => false
  | .most => false
  | .atmost => false
  | .both => true
  | .either => true
def Bw.own : Bw → Bool
  | .least => false
  | .most => false
  | .atmost => true
  | .both => true
  | .either => true
inductive Pg where
  | inp (k : Nat)
  | num (c : Int)
  | tr (b : Bool)
  | plus (c : Int) (a : Pg)
  | bin (w : Bw) (a b : Pg)
  | neg (a : Pg)
  | ite (p a b : Pg)
def trS : Bool → Str
  | true => "yes"
  | false => "no"
def kS : Bool → Str
  | true => "truth"
  | false => "num"
def word : Pg → Str
  | .inp _ => "in"
  | .num _ => "num"
  | .tr b => trS b
  | .plus _ _ => "plus"
  | .bin w _ _ => w.str
  | .neg _ => "not"
  | .ite _ _ _ => "if"
def enc : Pg → PyData
  | .inp k => .tuple [.str "in", .int k]
  | .num c => .tuple [.str "num", .int c]
  | .tr b => .tuple [.str (trS b)]
  | .plus c a => .tuple [.str "plus", .int c, enc a]
  | .bin w a b => .tuple [.str w.str, enc a, enc b]
  | .neg a => .tuple [.str "not", enc a]
  | .ite p a b => .tuple [.str "if", enc p, enc a, enc b]
theorem flat_enc : ∀ p : Pg, flat (enc p) = true
  | .inp _ => rfl
  | .num _ => rfl
  | .tr _ => rfl
  | .plus c a => by simp [enc, flat, flat.flats, flat_enc a]
  | .bin w a b => by simp [enc, flat, flat.flats, flat_enc a, flat_enc b]
  | .neg a => by simp [enc, flat, flat.flats, flat_enc a]
  | .ite p a b => by simp [enc, flat, flat.flats, flat_enc a, flat_enc b, flat_enc p]
/-- its kind by itself -/
def own (ks : List Bool) : Pg → Bool
  | .inp k => ks.getD k false
  | .num _ => false
  | .tr _ => true
  | .plus _ _ => false
  | .bin w _ _ => w.own
  | .neg _ => true
  | .ite _ a _ => own ks a
/-- it is let by -/
def Wk (ks : List Bool) : Pg → Prop
  | .inp k => k < ks.length
  | .num _ => True
  | .tr _ => True
  | .plus _ a => Wk ks a ∧ own ks a = false
  | .bin w a b => Wk ks a ∧ Wk ks b ∧ own ks a = w.arg ∧ own ks b = w.arg
  | .neg a => Wk ks a ∧ own ks a = true
  | .ite p a b => Wk ks p ∧ Wk ks a ∧ Wk ks b ∧ own ks p = true ∧ own ks b = own ks a
def parts : Pg → List Pg
  | .inp _ => []
  | .num _ => []
  | .tr _ => []
  | .plus _ a => [a]
  | .bin _ a b => [a, b]
  | .neg a => [a]
  | .ite p a b => [p, a, b]
def psz : Pg → Nat
  | .inp _ => 1
  | .num _ => 1
  | .tr _ => 1
  | .plus _ a => psz a + 1
  | .bin _ a b => psz a + psz b + 1
  | .neg a => psz a + 1
  | .ite p a b => psz p + psz a + psz b + 1
def dep : Pg → Nat
  | .inp _ => 1
  | .num _ => 1
  | .tr _ => 1
  | .plus _ a => dep a + 1
  | .bin _ a b => max (dep a) (dep b) + 1
  | .neg a => dep a + 1
  | .ite p a b => max (dep p) (max (dep a) (dep b)) + 1
def kn : Pg → List Pg
  | .inp k => [.inp k]
  | .num c => [.num c]
  | .tr b => [.tr b]
  | .plus c a => .plus c a :: kn a
  | .bin w a b => .bin w a b :: (kn a ++ kn b)
  | .neg a => .neg a :: kn a
  | .ite p a b => .ite p a b :: (kn p ++ (kn a ++ kn b))
theorem kn_len : ∀ p : Pg, (kn p).length = psz p
  | .inp _ => rfl
  | .num _ => rfl
  | .tr _ => rfl
  | .plus c a => by simp [kn, psz, kn_len a]
  | .bin w a b => by simp [kn, psz, kn_len a, kn_len b]
  | .neg a => by simp [kn, psz, kn_len a]
  | .ite p a b => by simp [kn, psz, kn_len a, kn_len b, kn_len p]; omega
theorem psz_pos (p : Pg) : 1 ≤ psz p := by cases p <;> simp [psz]
theorem dep_pos (p : Pg) : 1 ≤ dep p := by cases p <;> simp [dep]
theorem dep_le : ∀ p : Pg, dep p ≤ psz p
  | .inp _ => Nat.le_refl _
  | .num _ => Nat.le_refl _
  | .tr _ => Nat.le_refl _
  | .plus c a => by have := dep_le a; simp only [dep, psz]; omega
  | .bin w a b => by have := dep_le a; have := dep_le b; simp only [dep, psz]; omega
  | .neg a => by have := dep_le a; simp only [dep, psz]; omega
  | .ite p a b => by have := dep_le a; have := dep_le b; have := dep_le p; simp only [dep, psz]; omega
theorem kn_eq (p : Pg) : kn p = p :: (parts p).flatMap kn := by cases p <;> simp [kn, parts]
theorem psz_eq (p : Pg) : psz p = 1 + ((parts p).map psz).sum := by cases p <;> simp [psz, parts] <;> omega
/-- the things behind its word, as they stand in the tuple -/
def front : Pg → List V
  | .inp k => [.str "in", .int k]
  | .num c => [.str "num", .int c]
  | .tr b => [.str (trS b)]
  | .plus c _ => [.str "plus", .int c]
  | .bin w _ _ => [.str w.str]
  | .neg _ => [.str "not"]
  | .ite _ _ _ => [.str "if"]
/-- the program p stands at v -/
def At (K : PySem.W.Frag) (H : Hp) (v : V) (p : Pg) : Prop := Dp K H v (enc p)
def Ats (K : PySem.W.Frag) (H : Hp) (vs : List V) (ps : List Pg) : Prop := DpAll K H vs (ps.map enc)
theorem At.fd {K : PySem.W.Frag} {H : Hp} {v : V} {p : Pg} (h : At K H v p) : Fd K H v (enc p) := ⟨flat_enc p, h⟩
theorem At.keep {K : PySem.W.Frag} {H H' : Hp} {v : V} {p : Pg} (h : At K H v p) (t : Tp K H H') : At K H' v p := dp_keep t _ _ (flat_enc p) h
theorem flats_encs : ∀ ps : List Pg, flat.flats (ps.map enc) = true
  | [] => rfl
  | p :: ps => by simp [flat.flats, flat_enc p, flats_encs ps]
theorem Ats.keep {K : PySem.W.Frag} {H H' : Hp} {vs : List V} {ps : List Pg} (h : Ats K H vs ps) (t : Tp K H H') : Ats K H' vs ps := dps_keep t _ _ (flats_encs ps) h
theorem Ats.nil {K : PySem.W.Frag} {H : Hp} : Ats K H [] [] := DpAll.nil
theorem Ats.cons {K : PySem.W.Frag} {H : Hp} {v : V} {vs : List V} {p : Pg} {ps : List Pg} (h : At K H v p) (t : Ats K H vs ps) : Ats K H (v :: vs) (p :: ps) := DpAll.cons h t
theorem Ats.app {K : PySem.W.Frag} {H : Hp} : ∀ {vs us : List V} {ps qs : List Pg}, Ats K H vs ps → Ats K H us qs → Ats K H (vs ++ us) (ps ++ qs)
  | [], _, [], _, _, b => b
  | v :: vs, _, p :: ps, _, a, b => by
    cases a with
    | cons h t => exact Ats.cons h (Ats.app (vs := vs) (ps := ps) t b)
  | [], _, p :: ps, _, a, _ => by cases a
  | v :: vs, _, [], _, a, _ => by cases a
theorem Ats.len {K : PySem.W.Frag} {H : Hp} : ∀ {vs : List V} {ps : List Pg}, Ats K H vs ps → vs.length = ps.length
  | [], [], _ => rfl
  | v :: vs, p :: ps, a => by
    cases a with
    | cons h t => rw [List.length_cons, List.length_cons, Ats.len (vs := vs) (ps := ps) t]
  | [], p :: ps, a => by cases a
  | v :: vs, [], a => by cases a
theorem Ats.get {K : PySem.W.Frag} {H : Hp} : ∀ {vs : List V} {ps : List Pg}, Ats K H vs ps → ∀ (j : Nat) (v : V), vs[j]? = some v → ∃ p, ps[j]? = some p ∧ At K H v p
  | [], [], _, j, v, h => by simp at h
  | u :: vs, p :: ps, a, 0, v, h => by
    cases a with
    | cons x t =>
      have e := Option.some.inj h
      subst e
      exact ⟨p, rfl, x⟩
  | u :: vs, p :: ps, a, j + 1, v, h => by
    cases a with
    | cons x t => exact Ats.get (vs := vs) (ps := ps) t j v h
  | [], p :: ps, a, _, _, _ => by cases a
  | v :: vs, [], a, _, _, _ => by cases a
/-- the tuple that it is -/
theorem At.open {K : PySem.W.Frag} {H : Hp} {v : V} {p : Pg} (h : At K H v p) : ∃ (a : Addr) (vs : List V), v = .ref a ∧ SqT K H a (front p ++ vs) ∧ Ats K H vs (parts p) := by
  cases p with
  | inp k =>
    cases h with
    | tup q r =>
      cases r with
      | cons r1 r =>
        cases r with
        | cons r2 r =>
          cases r
          cases r1
          cases r2
          exact ⟨_, [], rfl, q, .nil⟩
  | num c =>
    cases h with
    | tup q r =>
      cases r with
      | cons r1 r =>
        cases r with
        | cons r2 r =>
          cases r
          cases r1
          cases r2
          exact ⟨_, [], rfl, q, .nil⟩
  | tr b =>
    cases h with
    | tup q r =>
      cases r with
      | cons r1 r =>
        cases r
        cases r1
        exact ⟨_, [], rfl, q, .nil⟩
  | plus c a =>
    cases h with
    | tup q r =>
      cases r with
      | cons r1 r =>
        cases r with
        | cons r2 r =>
          cases r1
          cases r2
          exact ⟨_, _, rfl, q, r⟩
  | bin w a b =>
    cases h with
    | tup q r =>
      cases r with
      | cons r1 r =>
        cases r1
        exact ⟨_, _, rfl, q, r⟩
  | neg a =>
    cases h with
    | tup q r =>
      cases r with
      | cons r1 r =>
        cases r1
        exact ⟨_, _, rfl, q, r⟩
  | ite p a b =>
    cases h with
    | tup q r =>
      cases r with
      | cons r1 r =>
        cases r1
        exact ⟨_, _, rfl, q, r⟩
theorem Ats.one {K : PySem.W.Frag} {H : Hp} {vs : List V} {p : Pg} (h : Ats K H vs [p]) : ∃ v, vs = [v] ∧ At K H v p := by
  cases h with
  | cons a r =>
    cases r
    exact ⟨_, rfl, a⟩
theorem Ats.two {K : PySem.W.Frag} {H : Hp} {vs : List V} {p q : Pg} (h : Ats K H vs [p, q]) : ∃ u v, vs = [u, v] ∧ At K H u p ∧ At K H v q := by
  cases h with
  | cons a r =>
    cases r with
    | cons b r =>
      cases r
      exact ⟨_, _, rfl, a, b⟩
theorem Ats.three {K : PySem.W.Frag} {H : Hp} {vs : List V} {p q r : Pg} (h : Ats K H vs [p, q, r]) : ∃ u v w, vs = [u, v, w] ∧ At K H u p ∧ At K H v q ∧ At K H w r := by
  cases h with
  | cons a t =>
    cases t with
    | cons b t =>
      cases t with
      | cons c t =>
        cases t
        exact ⟨_, _, _, rfl, a, b, c⟩
/-! ### sums of sizes -/
theorem kn_le : ∀ (p q : Pg), q ∈ kn p → psz q ≤ psz p
  | .inp _, q, h => by simp [kn] at h; rw [h]; exact Nat.le_refl _
  | .num _, q, h => by simp [kn] at h; rw [h]; exact Nat.le_refl _
  | .tr _, q, h => by simp [kn] at h; rw [h]; exact Nat.le_refl _
  | .plus c a, q, h => by
    simp only [kn, List.mem_cons] at h
    rcases h with h | h
    · rw [h]; exact Nat.le_refl _
    · have := kn_le a q h; simp only [psz]; omega
  | .bin w a b, q, h => by
    simp only [kn, List.mem_cons, List.mem_append] at h
    rcases h with h | h | h
    · rw [h]; exact Nat.le_refl _
    · have := kn_le a q h; simp only [psz]; omega
    · have := kn_le b q h; simp only [psz]; omega
  | .neg a, q, h => by
    simp only [kn, List.mem_cons] at h
    rcases h with h | h
    · rw [h]; exact Nat.le_refl _
    · have := kn_le a q h; simp only [psz]; omega
  | .ite p a b, q, h => by
    simp only [kn, List.mem_cons, List.mem_append] at h
    rcases h with h | h | h | h
    · rw [h]; exact Nat.le_refl _
    · have := kn_le p q h; simp only [psz]; omega
    · have := kn_le a q h; simp only [psz]; omega
    · have := kn_le b q h; simp only [psz]; omega
theorem kn_wk (ks : List Bool) : ∀ (p q : Pg), Wk ks p → q ∈ kn p → Wk ks q
  | .inp _, q, w, h => by simp [kn] at h; rw [h]; exact w
  | .num _, q, w, h => by simp [kn] at h; rw [h]; exact w
  | .tr _, q, w, h => by simp [kn] at h; rw [h]; exact w
  | .plus c a, q, w, h => by
    simp only [kn, List.mem_cons] at h
    rcases h with h | h
    · rw [h]; exact w
    · exact kn_wk ks a q w.1 h
  | .bin _ a b, q, w, h => by
    simp only [kn, List.mem_cons, List.mem_append] at h
    rcases h with h | h | h
    · rw [h]; exact w
    · exact kn_wk ks a q w.1 h
    · exact kn_wk ks b q w.2.1 h
  | .neg a, q, w, h => by
    simp only [kn, List.mem_cons] at h
    rcases h with h | h
    · rw [h]; exact w
    · exact kn_wk ks a q w.1 h
  | .ite p a b, q, w, h => by
    simp only [kn, List.mem_cons, List.mem_append] at h
    rcases h with h | h | h | h
    · rw [h]; exact w
    · exact kn_wk ks p q w.1 h
    · exact kn_wk ks a q w.2.1 h
    · exact kn_wk ks b q w.2.2.1 h
end Lm

set_option Elab.async false
set_option linter.all false
set_option maxRecDepth 100000
set_option maxHeartbeats 2000000
namespace Lm
open PySem PySem.Spec PyProof.Rows L2 LmR
/-! ### a def called within an except suite, handed the exception -/
structure FnP (P : Program) (w : World) (K : PySem.W.Frag) (mg : Str → Option Value) (base : Heap) (p : Addr × Obj) (k : Nat) (f : Addr) (fd : FuncData) (ps : List Str) (sp : Sp) : Prop where
  len : ∀ vs H Q E, sp vs H Q E → vs.length = ps.length
  run : ∀ (A : Around) (outer : List Env) (s : Shared) (H : Hp) (args : Args) (us : List Value) (vs : List V) (Q : VK) (E : XK), L2H.RoomH k A → L2H.PinOk outer H s p → Env0 P w K mg base A outer s H → BindsTo s fd args (ps.zip us) → Vals vs us → sp vs H Q E →
    codeAny (model P w) A (.call (.ref f) args) (CR CX0 outer P w H s Q E) s
theorem fn_ofP {P : Program} {w : World} {K : PySem.W.Frag} {mg : Str → Option Value} {base : Heap} {k : Nat} {x : Str} {st : Stmt} {f : Addr} {fd : FuncData} {N ps : List Str} {sp : Sp} {p : Addr × Obj} (F : Fun K x x st f fd) (S : FnScope N ps (defScope st))
    (len : ∀ vs H Q E, sp vs H Q E → vs.length = ps.length)
    (hbody : ∀ (cdv : Value) (A : Around) (outer : List Env) (s : Shared) (H : Hp) (vs : List V) (Q : VK) (E : XK), L2H.RoomH k (A.deeper (envOfC x (defScope st) s.heap.objs.size f cdv)) → sp vs H Q E →
      ∃ t, PSs (L2H.cxH CX0 P w K mg base N x (defScope st) f cdv A outer s H E p) (defBody st) t ∧ t { nx := fun _ H' => Q .non H', rt := Q } (L2.start N vs) H) : FnP P w K mg base p (k + 1) f fd ps sp := by
  obtain ⟨oc, od, kV, doc, pm, an, cdv, ct, osl, rfl, lk, hcd⟩ := F.ex
  refine ⟨len, fun A outer s H args us vs Q E hr hpin e0 hb r hsp => ?_⟩
  have hl := len _ _ _ _ hsp
  have KX : K.In s.heap := e0.mod.kin.keeps fun b o e => (e0.bs b o e).1
  have lim : s.heap.NoLimit := e0.mod.nolimit.keeps fun b o e => (e0.bs b o e).1
  have hkind : ∀ y ∈ ps.zip us, (defScope st).names.lookup y.1 = some .local ∨ ((defScope st).names.lookup y.1 = some .cell ∧ ((cellsFrom (s.heap.objs.size + 1) (defScope st).names []).lookup y.1).isSome = true) := fun ⟨n, v⟩ hy => by
    rcases S.par n (List.of_mem_zip hy).1 with q | q
    · exact .inl q
    · exact .inr ⟨q, PySem.W.cellsFrom_some _ _ _ (.inl q)⟩
  refine codeAny_call_function hr.depth (KX _ _ lk) rfl S.co S.gen rfl (PySem.W.codeRec_of KX hcd) (hb _ _ _ _ ?_)
  refine wpAny_newFunctionEnv_cells S.kind hkind fun env he s1 y => ?_
  subst he
  refine ⟨lim.keeps y.toInCall.keep, codeAny_func ?_⟩
  obtain ⟨t, ht, hq⟩ := hbody cdv A outer s H vs Q E (hr.deeper _) hsp
  have I : Inv (L2H.cxH CX0 P w K mg base N x (defScope st) f cdv A outer s H E p) [] (L2.start N vs) H s1 := L2H.inv_startH S hpin e0 hl r y
  refine wpAny_mono (ht.run [] s1 (L2.start N vs) H _ I hq) (fun fl s' hs => ?_) fun e s' hs => hs
  have fin : ∀ {σ' : L2.St} {H' : Hp} {v : V} {u : Value}, Inv (L2H.cxH CX0 P w K mg base N x (defScope st) f cdv A outer s H E p) [] σ' H' s' → RelV v u → Q v H' → CE outer P w H s Q u s' :=
    fun {σ' H' v u} J rv q => ⟨v, H', J.os, J.bare, J.base, J.hok, rv, q⟩
  cases fl with
  | ret u =>
    obtain ⟨v, σ', H', J, rv, q⟩ := hs
    exact fin J rv q
  | next =>
    obtain ⟨σ', H', J, q⟩ := hs
    exact fin (v := V.non) (u := Value.none) J rfl q
  | brk =>
    obtain ⟨_, _, _, q⟩ := hs
    exact False.elim q
  | cont =>
    obtain ⟨_, _, _, q⟩ := hs
    exact False.elim q
theorem pe_callP {X : Cx} {k : Nat} {f : Addr} {fd : FuncData} {ps : List Str} {sp : Sp} {x : Str} {q pos : Pos} {e : Expr} {es : List Expr} {t : TA} {p : Addr × Obj} (F : FnP X.prog X.w X.K X.mg X.base p k f fd ps sp) (hr : L2H.RoomH k X.A) (hp : p ∈ X.pn) (hg : Gl X x) (hm : X.mg x = some (.ref f)) (hk : PySem.W.keepIn X.K (.ref f) = true) (hb : Binds X.K fd ps [])
    (ha : PA X (e :: es) t) (hdb : (x == ("__debug__" : Str)) = false := by decide) (he : starEach (e :: es) X.env = (false, eval e X.env) :: starEach es X.env := by rfl) (hpl : (backTo pos (starEach es X.env)).any (·.1) = false := by rfl) :
    PE X (.Call (.Name x q) (e :: es) [] pos) (tCall sp [] (fun _ _ _ => False) t) := by
  refine ⟨fun pins s σ H Q I h => ?_⟩
  refine wpAny_Call_Name_kw (ld_glob I hg hm ?_ hdb)
  refine PySem.W.callWith_K (h₀ := X.base) I.ok.mod.kin hk (thn (ha.run pos pins s σ H _ I h) fun us s1 ⟨vs, H1, I1, r, q⟩ => ⟨I1.kIn, ?_⟩) he hpl
  have q : sp vs H1 Q (fun _ _ _ => False) := by
    have z : sp (vs ++ []) H1 Q (fun _ _ _ => False) := q
    rw [List.append_nil] at z
    exact z
  have hl : us.length = ps.length := by rw [← r.length]; exact F.len _ _ _ _ q
  have b := hb s1 us I1.kIn (by rw [List.append_nil]; exact hl)
  rw [List.append_nil] at b
  have P1 := I1.pin p (List.mem_append_left _ hp)
  have hpin : L2H.PinOk X.stack H1 s1 p := ⟨P1.1, P1.2.1, fun hm => (List.mem_cons.mp (I1.stkSub p.1 hm)).elim P1.2.2.1 P1.2.2.2.1, P1.2.2.2.2⟩
  refine wpAny_call (codeAny_mono (F.run X.A X.stack s1 H1 ⟨us, []⟩ us vs Q (fun _ _ _ => False) hr hpin I1.env0 b r q) fun r s' hq => ?_)
  cases r with
  | error e => exact hq.elim
  | ok fl =>
    cases fl with
    | ret u => exact I1.after hq
    | next => exact False.elim hq
    | brk => exact False.elim hq
    | cont => exact False.elim hq
/-! ### isinstance of an exception that is pinned -/
structure ExK (K : PySem.W.Frag) (C : Addr) : Prop where
  cl : (PySem.W.clsIn K C).isSome = true
  ga : PySem.W.findIn K (.ref C) "__getattribute__" = some (some (.builtin "BaseException.__getattribute__"))
  gg : PySem.W.findIn K (.ref C) "__getattr__" = some none
  ex : PySem.W.subIn K (.ref C) (.type "BaseException") = some true
  ca : PySem.W.findIn K (.ref C) "__class__" = some (some (.builtin "object.__class__"))
  gn : PySem.W.specialIn K (.builtin "object.__class__") "__get__" = some (some (.builtin "getset_descriptor.__get__"))
  tk : PySem.W.takesIn K (.builtin "object.__class__") = some true
  ob : PySem.W.mroIn K C (.type "object") = some true
/-- isinstance(e, c), e the exception at a of the class at C -/
def rIsP (K : PySem.W.Frag) (C a : Addr) : List V → Hp → VK → Prop := fun xs H Q => ∃ (D : Addr) (b : Bool), xs = [.ref a, .ref D] ∧ PySem.W.kitOne K (.ref C) (.ref D) = some b ∧ Q (.bl b) H
theorem call_isP {X : Cx} {a C : Addr} {oe : Obj} {dct : Option Addr} (k : ExK X.K C) (hz : Zc (.ref C) dct oe) (hf : ∃ vs, oe.data = .fields vs) (hp : (a, oe) ∈ X.pn) (hd : ∀ pins σ H s, Inv X pins σ H s → ∃ od : Option Obj, PySem.W.InstAt s.heap a oe C od) : CallR X (.builtin "isinstance") (rIsP X.K C a) := by
  intro pins s σ H xs us Q I r h
  obtain ⟨D, b, rfl, e, q⟩ := h
  obtain ⟨u1, u2, rfl, r1, r2⟩ := vals2 r
  cases (show u1 = Value.ref a from r1)
  cases (show u2 = Value.ref D from r2)
  obtain ⟨od, J⟩ := hd pins σ H s I
  exact PySem.W.kia_one (PySem.W.kitx_exc k.cl k.ga k.gg k.ex k.ca k.gn k.tk k.ob) I.kIn J e (fun z => nomatch z) fun tk => ⟨.bl b, H, I.tok tk, rfl, q⟩
/-! ### xs.count(True) of truths -/
theorem mt_countB {X : Cx} : MtR X "list.count" (fun x xs H Q => ∃ (p : Addr) (bs : List Bool), x = .ref p ∧ xs = [.bl true] ∧ SqL X.K H p (bs.map V.bl) ∧ Q (.int (bs.count true : Nat)) H) := by
  intro pins s σ H x xs v us Q I rx rxs h
  obtain ⟨p, bs, rfl, rfl, hs, q⟩ := h
  cases rx
  obtain ⟨u, rfl, ru⟩ := rxs.one
  cases (show u = Value.bool true from ru)
  obtain ⟨its, rv, ⟨⟨cls, dd, data, sl⟩, n, ho, hc, hdn, hd⟩, hlen⟩ := I.list hs
  simp only at hc hd
  subst hc hd
  have key : ∀ (bs : List Bool) (its : List Value), Vals (bs.map V.bl) its → its = bs.map Value.bool := by
    intro bs
    induction bs with
    | nil => intro its r; cases r; rfl
    | cons b bs ih =>
      intro its r
      cases r with
      | cons a r =>
        rename_i u us'
        rw [List.map_cons, ih us' r]
        congr 1
  have ei := key bs its rv
  subst ei
  let g : Value → Bool := fun y => y == .bool true
  refine call_meets PySem.F.slot_list_count ⟨_, ho, rfl⟩ PySem.F.entry_list_count (PySem.F.args_list_count_2 _ _)
    (SeqAt.list_countAt p (bs.map Value.bool).toArray n dd sl (.bool true) g) ⟨ho, fun y hy => ?_, ?_⟩
  · have hy' : y ∈ bs.map Value.bool := by simpa using hy
    obtain ⟨b, _, rfl⟩ := List.mem_map.mp hy'
    have eg : g (.bool b) = eqV (.bl b) (.bl true) := by cases b <;> rfl
    rw [eg]
    exact eqAt_V (y := .bl b) (x := .bl true) rfl rfl rfl rfl
  · have ec : ((bs.map Value.bool).toArray.toList.countP g) = bs.count true := by
      show (bs.map Value.bool).countP g = _
      rw [List.countP_map]
      unfold List.count
      congr 1
      funext b
      cases b <;> rfl
    refine ⟨.int (bs.count true : Nat), H, I.tok _, ⟨s.toks, ?_⟩, q⟩
    show Value.int (((bs.map Value.bool).toArray.toList.countP g : Nat) : Int) s.toks = Value.int ((bs.count true : Nat) : Int) s.toks
    rw [ec]
end Lm

set_option Elab.async false
set_option linter.all false
set_option maxRecDepth 100000
set_option maxHeartbeats 2000000
namespace Lm
open PySem PySem.Spec PyProof.Rows L2 LmR
abbrev oEnum (a : Addr) : Obj := { cls := .type "enumerate", data := .fields #[.none, .bool false, .ref a, rawInt 0, .none, .none] }
/-- enumerate(v): two new cells -/
theorem enum_new1 {v : Value} {o : Obj} {G : Heap → Prop} (B : Begins v o G) :
    Meets (Builtin.«enumerate.__new__» ⟨[.type "enumerate", v], []⟩) (fun _ R s => G s.heap ∧ R (.ok (.ret (.ref (s.heap.push o).objs.size))) { s with heap := (s.heap.push o).push (oEnum s.heap.objs.size) }) :=
  .of_wp fun prog w A R s hh => by
    obtain ⟨hp, g, d, tk, os⟩ := s
    obtain ⟨hG, hR⟩ := hh
    have hsub := sub_enumerate
    have go : ∀ {A' : Around} {E : Value → Shared → Prop} {Q : Value → Shared → Prop}, Q (.ref hp.objs.size) ⟨hp.push o, g, d, tk, os⟩ → wpAny (model prog w) A' (pyIter v) Q E ⟨hp, g, d, tk, os⟩ :=
      fun q => B.iter prog w _ _ _ _ hG q
    wp_walk using go
    refine wpAny_stack_any fun st => wpAny_pure ?_
    split
    · rename_i c _ _ _ _ _
      cases (c == Value.type "enumerate") <;> (wp_walk using go; exact ⟨_, rfl, hR⟩)
    · wp_walk using go
      exact ⟨_, rfl, hR⟩
theorem enum_call1 {prog : Program} {w : World} {A : Around} {E : Value → Shared → Prop} {s : Shared} {v : Value} {o : Obj} {G : Heap → Prop} {Q : Value → Shared → Prop} (B : Begins v o G) (hG : G s.heap)
    (hQ : ∀ h2, IsEnum h2 (s.heap.objs.size + 1) s.heap.objs.size 0 .none → h2.get? s.heap.objs.size = some o → (∀ b ob, s.heap.get? b = some ob → h2.get? b = some ob) → Q (.ref (s.heap.objs.size + 1)) { s with heap := h2 }) :
    wpAny (model prog w) A (call (.type "enumerate") [v]) Q E s := by
  refine callType_new F.called_enumerate (by decide) (F.typeCall_enumerate_1 _) (F.newCall_enumerate_1 _) (fun obj => F.args_object_init_2 obj _) F.entry_enumerate_new (enum_new1 B) ⟨hG, ?_⟩
  have z : (s.heap.push o).objs.size = s.heap.objs.size + 1 := Heap.size_push ..
  show _ ∧ _
  rw [z]
  have he : IsEnum ((s.heap.push o).push (oEnum s.heap.objs.size)) (s.heap.objs.size + 1) s.heap.objs.size 0 .none := by
    have y := Heap.get?_push_size (s.heap.push o) (o := oEnum s.heap.objs.size) rfl
    rw [z] at y
    exact y
  exact ⟨⟨_, he, rfl⟩, hQ _ he (Heap.get?_push_of_some _ (Heap.get?_push_size _ B.free)) fun b ob x => Heap.get?_push_of_some _ (Heap.get?_push_of_some _ x)⟩
theorem enum_over {prog : Program} {w : World} {A : Around} {E : Value → Shared → Prop} {s : Shared} {e it a : Addr} {i : Nat} {items : Array Value} {c : Int} {old : Value} {Q : Option Value → Shared → Prop} (hd : A.handled = none)
    (he : IsEnum s.heap e it c old) (hit : s.heap.IsTupleIter it a i) (ht : s.heap.IsTuple a items) (hx : items[i]? = none) (hQ : ∀ h2, Heap.ExtBut it s.heap h2 → Q none { s with heap := h2 }) : wpAny (model prog w) A (pyNext (.ref e)) Q E s := by
  have D : Draws prog w A.in1 it [it, a] i (fun _ _ => True) (fun j h => j = i ∧ h.IsTupleIter it a i ∧ h.IsTuple a items) :=
    { live := fun _ _ st => by obtain ⟨_, ⟨o, ho, _⟩, _⟩ := st; exact ⟨o, ho⟩
      frame := fun _ _ _ st hk => ⟨st.1, st.2.1.at fun o q => hk it (by simp) o q, st.2.2.at fun o q => hk a (by simp) o q⟩
      item := fun j s Q E hj st _ => absurd st.1 (Nat.ne_of_lt hj)
      done := fun s Q E st hE => wpAny_nextOf_tuple_end (by first | exact hd | (show A.in1.handled = none; exact hd)) st.2.1 st.2.2 hx hE }
  exact wpAny_pyNext_enum_endD D he ⟨rfl, hit, ht⟩ hQ
/-- the tuple at a: each item, its number ahead of it, in a new pair -/
def IteT (K : PySem.W.Frag) (a : Addr) : It :=
  ⟨fun i H => ∃ (xs : List V) (x : V), SqT K H a xs ∧ xs[i]? = some x,
    fun i H v H' => ∃ T x, v = .ref T ∧ H T = none ∧ H' = upd H T (.tup [.int (i : Nat), x]) ∧ ∀ xs, SqT K H a xs → xs[i]? = some x,
    fun i H => ∃ xs : List V, SqT K H a xs ∧ xs.length ≤ i⟩
theorem turn_enumT {P : Program} {w : World} {K : PySem.W.Frag} {elts : List Expr} {kk : Nat} {tpos : Pos} (a e it : Addr) :
    Turn P w K (.Tuple elts kk tpos) (IteT K a) [e, it] e (fun i h => (∃ old, IsEnum h e it ((i : Nat) : Int) old) ∧ h.IsTupleIter it a i ∧ e ≠ it ∧ a ≠ e ∧ a ≠ it) where
  mem := by simp
  obj := fun i h st b hb => by
    obtain ⟨⟨old, he⟩, ⟨o, ho, hc, hd⟩, _⟩ := st
    have e' : b = e ∨ b = it := by simpa using hb
    rcases e' with z | z
    · rw [z]; exact ⟨_, he, fun v q => nomatch q⟩
    · rw [z]; exact ⟨o, ho, fun v q => by rw [hd] at q; cases q⟩
  keep := fun i h h' st k => by
    obtain ⟨⟨old, he⟩, hi, r⟩ := st
    exact ⟨⟨old, k e (by simp) _ he⟩, hi.at fun o q => k it (by simp) o q, r⟩
  item := by
    intro X hP hw hK hc i pins s σ H E I hf st hg
    subst hP hw hK
    obtain ⟨⟨old, he⟩, hit, hne, hae, hai⟩ := st
    obtain ⟨xs, x, hq, hx⟩ := hg
    obtain ⟨its, rv, p, hz⟩ := I.tuple hq
    obtain ⟨u, hu, ru⟩ := rv.get hx
    have ht : s.heap.IsTuple a its.toArray := p
    have hel : e < s.heap.objs.size := Heap.lt_size he
    have hil : it < s.heap.objs.size := by obtain ⟨_, q, _⟩ := hit; exact Heap.lt_size q
    have D := Draws.tuple (prog := X.prog) (w := X.w) (A := X.A.in1) (I.ok.hd hc) it a hai its.toArray
    have hlt : i < its.toArray.size := by
      have z : i < its.length := (List.getElem?_eq_some_iff.mp hu).1
      simpa using z
    refine wpAny_pyNext_enum_itemD D he ⟨hit, ht⟩ hlt hne (by simp [hne, Ne.symm hae]) fun y h' tk hy ho hst hT hsz hk => ?_
    have ey : y = u := by
      have z : its[i]? = some y := by simpa using hy
      rw [hu] at z
      exact (Option.some.inj z).symm
    subst ey
    refine ⟨_, rfl, wpAny_letOwnedTupleGo_enum (s := { s with heap := h', toks := tk + 1 }) ho fun h'' he' sb => ?_⟩
    have hT2 : h''.get? s.heap.objs.size = some { cls := .type "tuple", data := .seq #[.int i tk, y] } := (sb.2 _ (Nat.ne_of_gt hel)).trans hT
    have new : ObjOk X.prog X.w (upd H s.heap.objs.size (.tup [.int (i : Nat), x])) h'' s.heap.objs.size (.tup [.int (i : Nat), x]) :=
      ⟨by show 2 ≤ sizeLine; decide, [.int i tk, y], .cons ⟨_, rfl⟩ (.cons ru .nil), ⟨_, hT2, rfl, _, rfl⟩⟩
    have I1 : Inv X pins σ (upd H s.heap.objs.size (.tup [.int (i : Nat), x])) { s with heap := h'', toks := tk + 1 } :=
      I.turnedNew (ch := [e, it]) (fun b ob hb q => (sb.2 b (fun z => hb (by simp [z]))).trans (hk b ob (fun z => hb (by simp [z])) (fun z => hb (by simp [z])) q)) hf (Nat.le_refl _) new
    have fr : H s.heap.objs.size = none := I.hok.fresh (Nat.le_refl _)
    refine ⟨.ref s.heap.objs.size, _, I1, rfl, ⟨_, x, rfl, fr, rfl, fun ys hy => by rw [I.tuple_inj hy hq]; exact hx⟩, ⟨⟨y, ?_⟩, hst.1.at fun o q => (sb.2 it (Ne.symm hne)).trans q, hne, hae, hai⟩, fun b hb => ?_⟩
    · have e1 : ((i + 1 : Nat) : Int) = (i : Int) + 1 := by omega
      rw [e1]; exact he'
    · have e' : b = e ∨ b = it := by simpa using hb
      have hb' : b < s.heap.objs.size := by rcases e' with z | z <;> rw [z] <;> assumption
      rw [upd_ne (Nat.ne_of_lt hb')]
      exact (hf b hb).1
  done := by
    intro X hP hw hK hc i pins s σ H E I hf st hg
    subst hP hw hK
    obtain ⟨⟨old, he⟩, hit, hne, hae, hai⟩ := st
    obtain ⟨xs, hq, hx⟩ := hg
    obtain ⟨its, rv, p, hz⟩ := I.tuple hq
    have ht : s.heap.IsTuple a its.toArray := p
    obtain ⟨f0, f1, f2, f3, f4, f5⟩ := hf it (by simp)
    have hl := rv.length
    have hT : s.TypeIs (.ref e) "enumerate" := ⟨_, he, rfl⟩
    refine enum_over (I.ok.hd hc) he hit ht (by simp; omega) fun h' eb => ⟨rfl, I.turned (t' := s.toks) (fun b o hb q => eb b o hb q) f0 f1 f3 f4 f5⟩
  self := fun A i s Q E st h => by
    obtain ⟨⟨_, he⟩, _⟩ := st
    exact wpAny_pyIter_enum he h
def iEnumT (K : PySem.W.Frag) (ta : TA) : TI := fun σ H R => ta σ H fun vs H1 => ∃ a xs, vs = [.ref a] ∧ SqT K H1 a xs ∧ R (IteT K a) H1
theorem pi_enumT {X : Cx} {e : Expr} {ta : TA} {p pos tpos : Pos} {elts : List Expr} {kk : Nat} (hg : Gl X "enumerate") (hm : X.mg "enumerate" = none) (ha : PA X [e] ta) (hs : starEach [e] X.env = [(false, eval e X.env)] := by rfl) :
    PI X (.Tuple elts kk tpos) (.Call (.Name "enumerate" p) [e] [] pos) (iEnumT X.K ta) := by
  refine ⟨fun pins s σ H R I h => ?_⟩
  refine Call_ (ld_blt I hg hm boot_enumerate (PyProof.Rows.callWith_type1 (thn (ha.run pos pins s σ H _ I h) fun us s1 ⟨vs, H1, I1, r1, q1⟩ => ?_) hs rfl))
  obtain ⟨a, xs, ex, hq, q⟩ := q1
  subst ex
  cases r1 with
  | cons r rr =>
    cases rr
    cases r
    obtain ⟨its, rv, pt, hz⟩ := I1.tuple hq
    have ht : s1.heap.IsTuple a its.toArray := pt
    have hal : a < s1.heap.objs.size := by obtain ⟨_, q, _⟩ := ht; exact Heap.lt_size q
    refine enum_call1 (begins_tuple a its.toArray) ht fun h2 he hit hk => wpAny_pyIter_enum he ?_
    have I2 : Inv X pins σ H1 { s1 with heap := h2 } := I1.kept (t' := s1.toks) hk
    refine ⟨s1.heap.objs.size + 1, [s1.heap.objs.size + 1, s1.heap.objs.size], _, _, H1, rfl, I2, turn_enumT a (s1.heap.objs.size + 1) s1.heap.objs.size, ⟨⟨.none, he⟩, ⟨_, hit, rfl, rfl⟩, Nat.succ_ne_self _, Nat.ne_of_lt (Nat.lt_succ_of_lt hal), Nat.ne_of_lt hal⟩, fun b hb => ?_, q⟩
    have e' : b = s1.heap.objs.size + 1 ∨ b = s1.heap.objs.size := by simpa using hb
    have hle : s1.heap.objs.size ≤ b := by rcases e' with z | z <;> rw [z] <;> first | exact Nat.le_succ _ | exact Nat.le_refl _
    exact I1.fpOk hle (I1.hok.fresh hle)
end Lm

set_option Elab.async false
set_option linter.all false
set_option maxRecDepth 100000
set_option maxHeartbeats 2000000
namespace Lm
open PySem PySem.Spec PyProof.Rows L2 LmR
/-! ### defs that may refuse -/
def CalX (P : Program) (w : World) (K : PySem.W.Frag) (mg : Str → Option Value) (base : Heap) (k : Nat) (x : Str) (ps : List Str) (sp : Sp) : Prop :=
  ∃ f fd, FnOk P w K mg base (L2.CX P w) k f fd ps sp ∧ mg x = some (.ref f) ∧ PySem.W.keepIn K (.ref f) = true ∧ Binds K fd ps [] ∧ ∃ st, Fun K x x st f fd
section
variable {P : Program} {w : World} {K : PySem.W.Frag} {mg : Str → Option Value} {base : Heap}
theorem calx_of {x : Str} {st : Stmt} {N ps : List Str} {k : Nat} {sp : Sp} (D : DefAt K mg x st ps) (S : FnScope N ps (defScope st)) (len : ∀ vs H Q E, sp vs H Q E → vs.length = ps.length)
    (hbody : ∀ (f : Addr) (cdv : Value) (A : Around) (outer : List Env) (s : Shared) (H : Hp) (vs : List V) (Q : VK) (E : XK), Room k (A.deeper (envOfC x (defScope st) s.heap.objs.size f cdv)) → sp vs H Q E →
      ∃ t, PSs (cxOf (L2.CX P w) P w K mg base N x (defScope st) f cdv A outer s H E) (defBody st) t ∧ t { nx := fun _ H' => Q .non H', rt := Q } (start N vs) H) : CalX P w K mg base (k + 1) x ps sp := by
  obtain ⟨f, fd, F, b, g⟩ := D
  exact ⟨f, fd, F.okX S len (hbody f), g, F.kp, b, _, F⟩
end
theorem pe_calX {X : Cx} {W : WX} {k : Nat} {x : Str} {ps : List Str} {sp : Sp} {e : Expr} {es : List Expr} {t : TA} {p pos : Pos} (C : CalX X.prog X.w X.K X.mg X.base k x ps sp) (tk : Takes X W) (hr : Room k X.A) (hg : Gl X x) (ha : PA X (e :: es) t)
    (hdb : (x == ("__debug__" : Str)) = false := by decide) (he : starEach (e :: es) X.env = (false, eval e X.env) :: starEach es X.env := by rfl) (hpl : (backTo pos (starEach es X.env)).any (·.1) = false := by rfl) :
    PE X (.Call (.Name x p) (e :: es) [] pos) (tCallS sp (WE W) t) := by
  obtain ⟨f, fd, F, g, kp, b, _⟩ := C
  exact pe_callS F hr hg g kp b (fun σ => passAt tk σ) ha hdb he hpl
/-! ### classes of refusals -/
/-- the class x at C, its __init__ (st) keeps the fields fs -/
structure Rf (K : PySem.W.Frag) (mg : Str → Option Value) (x q : Str) (C fI : Addr) (fd : FuncData) (st : Stmt) (fs : List Str) : Prop where
  g : mg x = some (.ref C)
  o : OexC K C
  f : XfC K C
  k : ExK K C
  te : PySem.W.exmOne K (.ref C) (.ref C) = some true
  fld : ∀ n ∈ fs, PySem.W.findIn K (.ref C) n = some none
  iC : PySem.W.findIn K (.ref C) "__init__" = some (some (.ref fI))
  tI : PySem.W.typeIn K (.ref fI) = some (.type "function")
  F : Fun K "__init__" q st fI fd
  b : Binds K fd ("self" :: fs) []
/-- __init__(self, f, g) -/
def spIni2 (C : Addr) (f g : Str) : Sp := fun vs H Q E => ∃ a x y, vs = [.ref a, x, y] ∧ H a = some (exo a C none) ∧
  ∀ (d : Addr) (H' : Hp), H d = none → H' a = some (exo a C (some d)) → H' d = some (exd d [(g, y), (f, x)]) → (∀ b, b ≠ a → b ≠ d → H' b = H b) → Q .non H'
def spIni1 (C : Addr) (f : Str) : Sp := fun vs H Q E => ∃ a x, vs = [.ref a, x] ∧ H a = some (exo a C none) ∧
  ∀ (d : Addr) (H' : Hp), H d = none → H' a = some (exo a C (some d)) → H' d = some (exd d [(f, x)]) → (∀ b, b ≠ a → b ≠ d → H' b = H b) → Q .non H'
/-- what refusing leaves: the fields at d, all else as it was -/
def Raised (H H' : Hp) (d : Addr) (fs : List (Str × V)) : Prop := H d = none ∧ H' d = some (.xd fs) ∧ ∀ b, b ≠ d → H' b = H b
theorem Raised.same {H H' : Hp} {d : Addr} {fs : List (Str × V)} (r : Raised H H' d fs) : Same H H' := fun b o e => by
  have n : b ≠ d := fun z => by rw [z, r.1] at e; cases e
  rw [r.2.2 b n]; exact e
theorem mk_two {C : Addr} {f g : Str} {x y : V} {H : Hp} {Q : XK} (hq : ∀ d H', Raised H H' d [(g, y), (f, x)] → Q (.ref C) (some d) H') :
    [x, y].length ≤ 1000 ∧ ∀ a, H a = none → spIni2 C f g (.ref a :: ([x, y] ++ [])) (upd H a (exo a C none))
      (fun v H2 => v = .non ∧ ∃ (d : Addr) (fs : List (Str × V)), H2 a = some (exo a C (some d)) ∧ H2 d = some (exd d fs) ∧ H d = none ∧ Q (.ref C) (some d) (upd (del H2 a) d (.xd fs))) (fun _ _ _ => False) := by
  refine ⟨by show 2 ≤ 1000; decide, fun a ha => ⟨a, x, y, rfl, upd_same, fun d H' hd h1 h2 h3 => ⟨rfl, d, _, h1, h2, ?_, hq d _ ⟨?_, upd_same, fun b hb => ?_⟩⟩⟩⟩
  all_goals
    have nd : d ≠ a := fun z => by rw [z, upd_same] at hd; cases hd
  · rw [upd_ne nd] at hd; exact hd
  · rw [upd_ne nd] at hd; exact hd
  · rw [upd_ne hb]
    by_cases z : b = a
    · rw [z, del_same, ha]
    · rw [del_ne z, h3 b z hb, upd_ne z]
theorem mk_one {C : Addr} {f : Str} {x : V} {H : Hp} {Q : XK} (hq : ∀ d H', Raised H H' d [(f, x)] → Q (.ref C) (some d) H') :
    [x].length ≤ 1000 ∧ ∀ a, H a = none → spIni1 C f (.ref a :: ([x] ++ [])) (upd H a (exo a C none))
      (fun v H2 => v = .non ∧ ∃ (d : Addr) (fs : List (Str × V)), H2 a = some (exo a C (some d)) ∧ H2 d = some (exd d fs) ∧ H d = none ∧ Q (.ref C) (some d) (upd (del H2 a) d (.xd fs))) (fun _ _ _ => False) := by
  refine ⟨by show 1 ≤ 1000; decide, fun a ha => ⟨a, x, rfl, upd_same, fun d H' hd h1 h2 h3 => ⟨rfl, d, _, h1, h2, ?_, hq d _ ⟨?_, upd_same, fun b hb => ?_⟩⟩⟩⟩
  all_goals
    have nd : d ≠ a := fun z => by rw [z, upd_same] at hd; cases hd
  · rw [upd_ne nd] at hd; exact hd
  · rw [upd_ne nd] at hd; exact hd
  · rw [upd_ne hb]
    by_cases z : b = a
    · rw [z, del_same, ha]
    · rw [del_ne z, h3 b z hb, upd_ne z]
theorem pass_no {X : Cx} : Passes (L2.CX X.prog X.w) X (fun _ _ _ => False) := fun _ _ _ _ _ _ _ c => by
  obtain ⟨_, _, _, _, _, _, _, _, _, _, _, _, z⟩ := c
  exact z.elim
/-- raise x(e, ..) -/
theorem ps_ref {X : Cx} {W : WX} {x q : Str} {C fI : Addr} {fd : FuncData} {st : Stmt} {fs : List Str} {sp : Sp} {k : Nat} {e : Expr} {es : List Expr} {ta : TA} {p pos pos' : Pos} (R : Rf X.K X.mg x q C fI fd st fs) (F : FnOk X.prog X.w X.K X.mg X.base (L2.CX X.prog X.w) k fI fd ("self" :: fs) sp) (hr : Room (k + 1) X.A)
    (hc : X.calm = true) (tk : Takes X W) (hg : Gl X x) (ha : PA X (e :: es) ta)
    (hdb : (x == ("__debug__" : Str)) = false := by decide) (he : starEach (e :: es) X.env = (false, eval e X.env) :: starEach es X.env := by rfl) (hpl : (backTo pos (starEach es X.env)).any (·.1) = false := by rfl) :
    PS X (.Raise (some (.Call (.Name x p) (e :: es) [] pos)) none pos') (fun _ σ H => tMkO C sp [] ta σ H fun cls d H' => W cls d σ H') :=
  ps_raise hc tk (pmk_oex R.o R.iC R.tI F hr R.b .nil pass_no hg R.g ha hdb he hpl)
end Lm
namespace Lm
open PySem PySem.Spec PyProof.Rows L2 LmR
/-! ### x not in a tuple of texts, x any flat data -/
def strIn (ss : List Str) : PyData → Bool
  | .str s => ss.any fun y => y == s
  | _ => false
def rNotInD (K : PySem.W.Frag) : R2 := fun x y H Q => ∃ (p : Addr) (ss : List Str) (d : PyData), y = .ref p ∧ SqT K H p (ss.map V.str) ∧ Fd K H x d ∧ Q (.bl (!strIn ss d)) H
theorem all_str : ∀ ss : List Str, (ss.map V.str).all flatV = true
  | [] => rfl
  | _ :: ss => by rw [List.map_cons, List.all_cons, all_str ss]; rfl
theorem inV_str (ss : List Str) (x : V) (d : PyData) (h : ∀ y : Str, eqV (.str y) x = strIn [y] d) : inV x (ss.map V.str) = strIn ss d := by
  unfold inV
  induction ss with
  | nil => cases d <;> rfl
  | cons s ss ih =>
    rw [List.map_cons, List.any_cons, ih, h s]
    cases d with
    | str z => simp [strIn]
    | _ => rfl
theorem op_notInD {X : Cx} {K : PySem.W.Frag} (hK : X.K = K) (hu : X.A.units + 1 < cLine) : OpR X (compareOp .NotIn) (rNotInD K) := by
  subst hK
  intro pins s σ H x y v u Q I rx ry h
  obtain ⟨p, ss, d, rfl, hq, ⟨fd, hd⟩, q⟩ := h
  by_cases ht : ∃ ds, d = .tuple ds
  · obtain ⟨ds, rfl⟩ := ht
    cases hd with
    | tup qa r =>
      rename_i a vs
      cases rx
      cases ry
      obtain ⟨its, rv, pl, hz⟩ := I.tuple hq
      obtain ⟨itz, rz, plz, hzz⟩ := I.tuple qa
      refine SeqAt.notIn_tupleAt (fun _ => false) pl (fun w hw => ?_) ⟨.bl _, H, I, rfl, ?_⟩
      · have hw' : w ∈ its := by simpa using hw
        have st : ∀ (ss : List Str) (its : List Value), Vals (ss.map V.str) its → ∀ w ∈ its, ∃ b t, w = .str b t := by
          intro ss
          induction ss with
          | nil => intro its r w hw; cases r; cases hw
          | cons z ss ih =>
            intro its r w hw
            cases r with
            | cons ra rb =>
              rcases List.mem_cons.mp hw with e | e
              · obtain ⟨t, et⟩ := ra
                exact ⟨z, t, e.trans et⟩
              · exact ih _ rb w e
        obtain ⟨b, t, rfl⟩ := st ss its rv w hw'
        exact SeqAt.EqAt.str_tuple b t plz (by first | exact hu | (show X.A.units + 1 < cLine; exact hu) | (have := hu; omega))
      · have e : (!(its.toArray.any fun _ => false)) = !strIn ss (.tuple ds) := by simp [strIn]
        rw [e]
        exact q
  · have fx : flatV x = true ∧ ∀ y : Str, eqV (.str y) x = strIn [y] d := by
      cases hd with
      | non => exact ⟨rfl, fun _ => rfl⟩
      | bl b => exact ⟨rfl, fun _ => rfl⟩
      | int i => exact ⟨rfl, fun _ => rfl⟩
      | str z => exact ⟨rfl, fun y => by simp [strIn, eqV]⟩
      | lst q r => simp [flat] at fd
      | tup q r => exact absurd ⟨_, rfl⟩ ht
    refine op_notIn_seq pins s σ H x _ v u Q I rx ry ⟨p, _, rfl, .inr hq, fx.1, all_str ss, ?_⟩
    rw [if_pos rfl, inV_str ss x d fx.2]
    exact q
/-! ### for i, x in enumerate(tuple) -/
theorem for_enumT {K : PySem.W.Frag} {a : Addr} {xs : List V} {g : TG} {tb : TS} {D : Ends} {σ : L2.St} {H : Hp} (Pv : Nat → L2.St → Hp → Prop) (h0 : Pv 0 σ H) (hq : ∀ i σ H, Pv i σ H → SqT K H a xs)
    (hstep : ∀ i x σ H T, xs[i]? = some x → Pv i σ H → H T = none → g (.ref T) σ (upd H T (.tup [.int (i : Nat), x])) fun σ2 H2 => tb { D with nx := Pv (i + 1), ct := Pv (i + 1), bk := D.nx } σ2 H2)
    (hend : ∀ σ H, Pv xs.length σ H → D.nx σ H) :
    ∃ W : Nat → Nat → L2.St → Hp → Prop, (∃ m, W 0 m σ H) ∧ ∀ i m σ H, W i m σ H →
      ((IteT K a).stop i H ∧ D.nx σ H) ∨ ((IteT K a).go i H ∧ ∃ N : L2.St → Hp → Prop, (∀ σ' H', N σ' H' → ∃ m', m' < m ∧ W (i + 1) m' σ' H') ∧ ∀ x H', (IteT K a).yld i H x H' → g x σ H' fun σ2 H2 => tb { D with nx := N, ct := N, bk := D.nx } σ2 H2) := by
  refine ⟨fun i m σ H => i ≤ xs.length ∧ m = xs.length - i ∧ Pv i σ H, ⟨_, Nat.zero_le _, rfl, h0⟩, fun i m σ H ⟨hi, hm, hp⟩ => ?_⟩
  have hs := hq i σ H hp
  rcases Nat.lt_or_ge i xs.length with hlt | hge
  · obtain ⟨x, hx⟩ : ∃ x, xs[i]? = some x := ⟨xs[i], List.getElem?_eq_getElem hlt⟩
    refine .inr ⟨⟨xs, x, hs, hx⟩, Pv (i + 1), fun σ' H' h' => ⟨xs.length - (i + 1), by omega, hlt, rfl, h'⟩, ?_⟩
    rintro y H' ⟨T, z, rfl, hT, rfl, hz⟩
    have e := hz xs hs
    rw [hx] at e
    cases e
    exact hstep i x σ H T hx hp hT
  · have e : i = xs.length := Nat.le_antisymm hi hge
    refine .inl ⟨⟨xs, hs, hge⟩, hend σ H (e ▸ hp)⟩
/-- the defs within a class -/
def clsBody : Stmt → List Stmt
  | .ClassDef _ _ _ b _ _ _ _ _ _ _ => b
  | _ => []
end Lm
namespace Lm
open PySem PySem.Spec PyProof.Rows L2 LmR
/-- isinstance(e, c), e the exception at a, of the class at C, its fields at dd -/
def rIsX (K : PySem.W.Frag) (C a dd : Addr) : List V → Hp → VK → Prop := fun xs H Q => ∃ (D : Addr) (b : Bool), xs = [.ref a, .ref D] ∧ PySem.W.kitOne K (.ref C) (.ref D) = some b ∧ (∃ fs, H dd = some (.xd fs)) ∧ Q (.bl b) H
theorem call_isX {X : Cx} {a C dd : Addr} {oe : Obj} (k : ExK X.K C) (hz : Zc (.ref C) (some dd) oe) (hf : ∃ vs, oe.data = .fields vs) (hp : (a, oe) ∈ X.pn) : CallR X (.builtin "isinstance") (rIsX X.K C a dd) := by
  intro pins s σ H xs us Q I r h
  obtain ⟨D, b, rfl, e, ⟨fs, ea⟩, q⟩ := h
  obtain ⟨u1, u2, rfl, r1, r2⟩ := vals2 r
  cases (show u1 = Value.ref a from r1)
  cases (show u2 = Value.ref D from r2)
  obtain ⟨ha, _⟩ := I.pin (a, oe) (List.mem_append_left _ hp)
  obtain ⟨vs, hd⟩ := hf
  have hx : ObjOk X.prog X.w H s.heap dd (.xd fs) := I.hok dd _ ea
  obtain ⟨mA, hns, hr⟩ := hx
  obtain ⟨od, ho, hl⟩ := lookIn_ns hns
  have J : PySem.W.InstAt s.heap a oe C (some od) := ⟨ha, hz.1, by unfold PySem.W.notCls; rw [hd] <;> rfl, by rw [hz.2]; exact ho⟩
  exact PySem.W.kia_one (PySem.W.kitx_exc k.cl k.ga k.gg k.ex k.ca k.gn k.tk k.ob) I.kIn J e (fun z => nomatch z) fun tk => ⟨.bl b, H, I.tok tk, rfl, q⟩
/-- the twelve classes, and of which of them the class at C is -/
structure Srt (K : PySem.W.Frag) (mg : Str → Option Value) (C : Addr) (c1 c2 c3 c4 c5 c6 c7 c8 c9 c10 c11 c12 : Addr) (b1 b2 b3 b4 b5 b6 b7 b8 b9 b10 b11 b12 : Bool) : Prop where
  g1 : mg "NoHead" = some (.ref c1)
  g2 : mg "NoProgram" = some (.ref c2)
  g3 : mg "NoText" = some (.ref c3)
  g4 : mg "NoStock" = some (.ref c4)
  g5 : mg "NoAnswer" = some (.ref c5)
  g6 : mg "NoInputs" = some (.ref c6)
  g7 : mg "Clash" = some (.ref c7)
  g8 : mg "NoRow" = some (.ref c8)
  g9 : mg "NoQuestion" = some (.ref c9)
  g10 : mg "NoDoer" = some (.ref c10)
  g11 : mg "NotKept" = some (.ref c11)
  g12 : mg "NoName" = some (.ref c12)
  k1 : PySem.W.kitOne K (.ref C) (.ref c1) = some b1
  k2 : PySem.W.kitOne K (.ref C) (.ref c2) = some b2
  k3 : PySem.W.kitOne K (.ref C) (.ref c3) = some b3
  k4 : PySem.W.kitOne K (.ref C) (.ref c4) = some b4
  k5 : PySem.W.kitOne K (.ref C) (.ref c5) = some b5
  k6 : PySem.W.kitOne K (.ref C) (.ref c6) = some b6
  k7 : PySem.W.kitOne K (.ref C) (.ref c7) = some b7
  k8 : PySem.W.kitOne K (.ref C) (.ref c8) = some b8
  k9 : PySem.W.kitOne K (.ref C) (.ref c9) = some b9
  k10 : PySem.W.kitOne K (.ref C) (.ref c10) = some b10
  k11 : PySem.W.kitOne K (.ref C) (.ref c11) = some b11
  k12 : PySem.W.kitOne K (.ref C) (.ref c12) = some b12
def Sorts (K : PySem.W.Frag) (mg : Str → Option Value) (C : Addr) (bs : List Bool) : Prop := ∃ c1 c2 c3 c4 c5 c6 c7 c8 c9 c10 c11 c12 b1 b2 b3 b4 b5 b6 b7 b8 b9 b10 b11 b12,
  Srt K mg C c1 c2 c3 c4 c5 c6 c7 c8 c9 c10 c11 c12 b1 b2 b3 b4 b5 b6 b7 b8 b9 b10 b11 b12 ∧ bs = [b1, b2, b3, b4, b5, b6, b7, b8, b9, b10, b11, b12]
def spSorts (C a : Addr) (cls : Value) (d : Option Addr) (bs : List Bool) : Sp := fun vs H Q _ => vs = [.ref a] ∧ cls = .ref C ∧ ∃ dd fs, d = some dd ∧ H dd = some (.xd fs) ∧ ∀ H' l, Same H H' → H' l = some (.lst (bs.map V.bl)) → Q (.ref l) H'
end Lm

set_option Elab.async false
set_option linter.all false
set_option maxRecDepth 100000
set_option maxHeartbeats 2000000
namespace Lm
open PySem PySem.Spec PyProof.Rows L2 LmR
/-! ### match e: case "text": .. case _: .. -/
abbrev TM := V → TS
structure PM (X : Cx) (cs : List MatchCase) (t : TM) : Prop where
  run : ∀ (pins : List (Addr × Obj)) (s : Shared) (σ : L2.St) (H : Hp) (D : Ends) (x : V) (v : Value) (first : Bool), Inv X pins σ H s → RelV x v → t x D σ H → wpAny (model X.prog X.w) X.A (matchCases cs X.env v first) (SP X pins D) X.xe s
section
variable {X : Cx} {e : Expr} {te : TE} {cs : List MatchCase} {t : TS} {u : TM} {body : List Stmt} {pos p : Pos}
def tMatch (te : TE) (u : TM) : TS := fun D σ H => te σ H fun x H1 => u x D σ H1
theorem ps_match (he : PE X e te) (hm : PM X cs u) : PS X (.Match e cs pos) (tMatch te u) := by
  refine ⟨fun pins s σ H D I h => ?_⟩
  exact wpAny_Match (thn (he.run pins s σ H _ I h) fun v s1 ⟨x, H1, I1, r1, q1⟩ => hm.run pins s1 σ H1 D x v true I1 r1 q1)
theorem pm_nil : PM X [] (fun _ => tNext) := ⟨fun _ _ σ H _ _ _ _ I _ h => wpAny_matchCases_nil ⟨σ, H, I, h⟩⟩
theorem pm_any (hb : PSs X body t) : PM X (⟨.MatchAs none none pos, none, body⟩ :: cs) (fun _ => t) :=
  ⟨fun pins s σ H D x v first I r h => wpAny_matchCases_cons (wpAny_matchPattern_Capture (wpAny_assignInOrder_none (hb.run pins s σ H D I h)))⟩
def tCaseS (z : Str) (t : TS) (u : TM) : TM := fun x D σ H => ∃ y, x = .str y ∧ (y = z → t D σ H) ∧ (y ≠ z → u x D σ H)
theorem pm_str {z : Str} {j : Nat} (hb : PSs X body t) (hr : PM X cs u) : PM X (⟨.MatchValue (.Constant (.str z) j p) pos, none, body⟩ :: cs) (tCaseS z t u) := by
  refine ⟨fun pins s σ H D x v first I r h => ?_⟩
  obtain ⟨y, rfl, h1, h2⟩ := h
  refine wpAny_matchCases_cons (wpAny_matchPattern_Value ?_)
  refine thn ((pe_str (X := X) (x := z)).run pins s σ H (fun c H' => c = .str z ∧ H' = H) I ⟨rfl, rfl⟩) fun c s1 ⟨w, H1, I1, r1, ew, eH⟩ => ?_
  subst ew
  subst eH
  refine thn (op_eq (X := X) pins s1 σ H1 (.str y) (.str z) v c (fun b H' => b = .bl (decide (V.str y = V.str z)) ∧ H' = H1) I1 r r1 ⟨rfl, rfl, rfl⟩) fun c2 s2 ⟨b, H2, I2, r2, eb, eH⟩ => ?_
  subst eb
  subst eH
  cases r2
  refine wpAny_truthy_bool ?_
  by_cases c : y = z
  · rw [decide_eq_true (congrArg V.str c)]
    exact wpAny_assignInOrder_none (hb.run pins s2 σ H2 D I2 (h1 c))
  · rw [decide_eq_false fun q => c (V.str.inj q)]
    exact hr.run pins s2 σ H2 D (.str y) v false I2 r (h2 c)
end
end Lm

set_option Elab.async false
set_option linter.all false
set_option maxRecDepth 100000
set_option maxHeartbeats 2000000
namespace Lm
open PySem PySem.Spec PyProof.Rows L2 LmR
theorem call_isiK {X : Cx} {K : PySem.W.Frag} (h : X.K = K) : CallR X (.builtin "isinstance") (rIsi K) := h ▸ call_isi
theorem walk_enumT {K : PySem.W.Frag} {a : Addr} {xs : List V} : Walk (IteT K a) xs.length (fun H => SqT K H a xs) (YPair (fun i => some (.int (i : Nat))) (fun i => xs[i]?)) := by
  refine ⟨fun i H hi q => ⟨xs, xs[i], q, by simp [hi]⟩, fun H q => ⟨xs, q, Nat.le_refl _⟩, fun i H x H' hi q y => ?_⟩
  obtain ⟨T, z, h1, h2, h3, h4⟩ := y
  exact ⟨T, _, z, h1, h2, h3, rfl, h4 xs q⟩
end Lm

set_option Elab.async false
set_option linter.all false
set_option maxRecDepth 100000
set_option maxHeartbeats 2000000
namespace Lm
open PySem PySem.Spec PyProof.Rows L2 LmR
/-! ### defs that are called while no repr is under way -/
structure FnG (P : Program) (w : World) (K : PySem.W.Frag) (mg : Str → Option Value) (base : Heap) (k : Nat) (f : Addr) (fd : FuncData) (ps : List Str) (sp : Sp) : Prop where
  len : ∀ vs H Q E, sp vs H Q E → vs.length = ps.length
  run : ∀ (A : Around) (outer : List Env) (s : Shared) (H : Hp) (args : Args) (us : List Value) (vs : List V) (Q : VK) (E : XK), A.guards = some [] → Room k A → Env0 P w K mg base A outer s H → BindsTo s fd args (ps.zip us) → Vals vs us → sp vs H Q E →
    codeAny (model P w) A (.call (.ref f) args) (CR CX0 outer P w H s Q E) s
section
variable {P : Program} {w : World} {K : PySem.W.Frag} {mg : Str → Option Value} {base : Heap}
theorem FnG.mono {j k : Nat} {f : Addr} {fd : FuncData} {ps : List Str} {sp : Sp} (F : FnG P w K mg base j f fd ps sp) (h : j ≤ k) : FnG P w K mg base k f fd ps sp :=
  ⟨F.len, fun A outer s H args us vs Q E hg hr => F.run A outer s H args us vs Q E hg (hr.mono h)⟩
theorem fnG_of {k : Nat} {x : Str} {st : Stmt} {f : Addr} {fd : FuncData} {N ps : List Str} {sp : Sp} (F : Fun K x x st f fd) (S : FnScope N ps (defScope st)) (len : ∀ vs H Q E, sp vs H Q E → vs.length = ps.length)
    (hbody : ∀ (cdv : Value) (A : Around) (outer : List Env) (s : Shared) (H : Hp) (vs : List V) (Q : VK) (E : XK), A.guards = some [] → Room k (A.deeper (envOfC x (defScope st) s.heap.objs.size f cdv)) → sp vs H Q E →
      ∃ t, PSs (cxOf CX0 P w K mg base N x (defScope st) f cdv A outer s H E).nox (defBody st) t ∧ t { nx := fun _ H' => Q .non H', rt := Q } (start N vs) H) : FnG P w K mg base (k + 1) f fd ps sp := by
  obtain ⟨oc, od, kV, doc, pm, an, cdv, ct, osl, rfl, lk, hcd⟩ := F.ex
  refine ⟨len, fun A outer s H args us vs Q E hg hr e0 hb r hsp => ?_⟩
  have kin : K.In s.heap := e0.mod.kin.keeps fun b o z => (e0.bs b o z).1
  have lim : s.heap.NoLimit := e0.mod.nolimit.keeps fun b o z => (e0.bs b o z).1
  have kinds : ∀ y ∈ ps.zip us, (defScope st).names.lookup y.1 = some .local ∨ ((defScope st).names.lookup y.1 = some .cell ∧ ((cellsFrom (s.heap.objs.size + 1) (defScope st).names []).lookup y.1).isSome = true) := fun y hy =>
    (S.par y.1 (List.of_mem_zip (show (y.1, y.2) ∈ ps.zip us from hy)).1).imp id fun z => ⟨z, PySem.W.cellsFrom_some _ _ _ (.inl z)⟩
  refine codeAny_call_function hr.depth (kin _ _ lk) rfl S.co S.gen rfl (PySem.W.codeRec_of kin hcd) (hb _ _ _ _ (wpAny_newFunctionEnv_cells S.kind kinds fun env he s1 y => ?_))
  subst he
  obtain ⟨t, ht, hq⟩ := hbody cdv A outer s H vs Q E hg (hr.deeper _) hsp
  have I : Inv (cxOf CX0 P w K mg base N x (defScope st) f cdv A outer s H E) [] (start N vs) H s1 := inv_start S hr.hd e0 (len _ _ _ _ hsp) r y
  refine ⟨lim.keeps y.toInCall.keep, codeAny_func (wpAny_mono (ht.nox.run [] s1 (start N vs) H _ I hq) (fun fl s' hs => ?_) fun e s' hs => hs)⟩
  cases fl with
  | ret u =>
    obtain ⟨v, σ', H', J, rv, q⟩ := hs
    exact ⟨v, H', J.os, J.bare, J.base, J.hok, rv, q⟩
  | next =>
    obtain ⟨σ', H', J, q⟩ := hs
    exact ⟨V.non, H', J.os, J.bare, J.base, J.hok, rfl, q⟩
  | brk => obtain ⟨_, _, _, q⟩ := hs; exact False.elim q
  | cont => obtain ⟨_, _, _, q⟩ := hs; exact False.elim q
/-- what stands under the name x keeps sp, called while no repr is under way -/
def CalG (P : Program) (w : World) (K : PySem.W.Frag) (mg : Str → Option Value) (base : Heap) (k : Nat) (x : Str) (ps : List Str) (sp : Sp) : Prop :=
  ∃ f fd, FnG P w K mg base k f fd ps sp ∧ mg x = some (.ref f) ∧ PySem.W.keepIn K (.ref f) = true ∧ Binds K fd ps []
theorem CalG.mono {j k : Nat} {x : Str} {ps : List Str} {sp : Sp} (c : CalG P w K mg base j x ps sp) (h : j ≤ k) : CalG P w K mg base k x ps sp := by
  obtain ⟨f, fd, F, g, kp, b⟩ := c
  exact ⟨f, fd, F.mono h, g, kp, b⟩
theorem calg_of {x : Str} {st : Stmt} {N ps : List Str} {k : Nat} {sp : Sp} (D : DefAt K mg x st ps) (S : FnScope N ps (defScope st)) (len : ∀ vs H Q E, sp vs H Q E → vs.length = ps.length)
    (hbody : ∀ (f : Addr) (cdv : Value) (A : Around) (outer : List Env) (s : Shared) (H : Hp) (vs : List V) (Q : VK) (E : XK), A.guards = some [] → Room k (A.deeper (envOfC x (defScope st) s.heap.objs.size f cdv)) → sp vs H Q E →
      ∃ t, PSs (cxOf CX0 P w K mg base N x (defScope st) f cdv A outer s H E).nox (defBody st) t ∧ t { nx := fun _ H' => Q .non H', rt := Q } (start N vs) H) : CalG P w K mg base (k + 1) x ps sp := by
  obtain ⟨f, fd, F, b, g⟩ := D
  exact ⟨f, fd, fnG_of F S len (hbody f), g, F.kp, b⟩
end
/-- f(e, ..) of such a def -/
theorem pe_calG {X : Cx} {k : Nat} {x : Str} {ps : List Str} {sp : Sp} {e : Expr} {es : List Expr} {t : TA} {p pos : Pos} (C : CalG X.prog X.w X.K X.mg X.base k x ps sp) (hgu : X.A.guards = some []) (hr : Room k X.A) (hg : Gl X x) (ha : PA X (e :: es) t)
    (hdb : (x == ("__debug__" : Str)) = false := by decide) (he : starEach (e :: es) X.env = (false, eval e X.env) :: starEach es X.env := by rfl) (hpl : (backTo pos (starEach es X.env)).any (·.1) = false := by rfl) :
    PE X (.Call (.Name x p) (e :: es) [] pos) (tCall sp [] (fun _ _ _ => False) t) := by
  obtain ⟨f, fd, F, g, kp, b⟩ := C
  refine ⟨fun pins s σ H Q I h => wpAny_Call_Name_kw (ld_glob I hg g ?_ hdb)⟩
  refine PySem.W.callWith_K (h₀ := X.base) I.ok.mod.kin kp (thn (ha.run pos pins s σ H _ I h) fun us s1 ⟨vs, H1, I1, r, q⟩ => ⟨I1.kIn, ?_⟩) he hpl
  have q1 : sp vs H1 Q (fun _ _ _ => False) := by
    have z : sp (vs ++ []) H1 Q (fun _ _ _ => False) := q
    rw [List.append_nil] at z
    exact z
  have bn := b s1 us I1.kIn (by rw [List.append_nil, ← r.length]; exact F.len _ _ _ _ q1)
  rw [List.append_nil] at bn
  refine wpAny_call (codeAny_mono (F.run X.A X.stack s1 H1 ⟨us, []⟩ us vs Q (fun _ _ _ => False) hgu hr I1.env0 bn r q1) fun z s' hq => ?_)
  cases z with
  | error e => exact hq.elim
  | ok fl =>
    cases fl with
    | ret u => exact I1.after hq
    | next => exact False.elim hq
    | brk => exact False.elim hq
    | cont => exact False.elim hq
/-- repr of data that stands in a tuple -/
def rRepr (X : Cx) : List V → Hp → VK → Prop := fun xs H Q => ∃ (a : Addr) (d : PyData), xs = [.ref a] ∧ Dp X.K H (.ref a) d ∧ d.showable = true ∧ d.hasDict = false ∧ d.depth ≤ 60 ∧ d.shown.length ≤ sizeLine ∧ Q (.str d.shown) H
theorem call_reprD {X : Cx} {k : Nat} (hr : Room k X.A) (hgu : X.A.guards = some []) : CallR X (.builtin "repr") (rRepr X) := by
  intro pins s σ H xs us Q I r h
  obtain ⟨a, d, rfl, hd, hs, hn, hz, hl, q⟩ := h
  obtain ⟨u, rfl, r1⟩ := vals1 r
  obtain ⟨as, hR⟩ := Dp.reads I d _ u hd r1
  cases r1
  have un := hr.un
  exact repr_of_reads' hR hs (PyData.noDict_hsm hn) hgu (by omega) (fun _ _ e => e) (fun h' v tk hk => ⟨.str d.shown, H, I.kept hk, ⟨_, rfl⟩, q⟩) hl
/-! ### the law's own call -/
section
variable {P : Program} {w : World} {K : PySem.W.Frag} {mg mb : Str → Option Value} {k : Nat} {fa a : Addr} {fd : FuncData} {x : Str} {sp : Sp} {s₁ : Shared} {vs : List Value} {ns : List Int}
/-- what is tracked when the law is called: its script, if that is none of the written things -/
def onlyAt (a : Addr) (o : Option HO) : Hp := fun b => if b = a then o else none
theorem onlyAt_some {a b : Addr} {o : Option HO} {u : HO} (h : onlyAt a o b = some u) : b = a ∧ o = some u := by
  unfold onlyAt at h
  split at h
  · rename_i e; exact ⟨e, h⟩
  · cases h
theorem call_lawG (KX : K.In s₁.heap) (hns : s₁.heap.Ns mainGlobals mg) (hb : s₁.heap.Ns builtinsNs mb) (hbb : ∀ x : Str, x ≠ "__name__" → mb x = bootBuiltins x) (hlim : s₁.heap.NoLimit) (hg : s₁.gens = #[])
    (ha : s₁.heap.get? a = some { cls := .type "list", data := .seq vs.toArray }) (hi : IntsAre vs ns) (hl : ns.length ≤ sizeLine) (hr : Room k callerA)
    (F : ∀ base : Heap, K.In base → base.Ns mainGlobals mg → FnG P w K mg base k fa fd [x] sp) (hbind : ∀ (s : Shared) (u : Value), BindsTo s fd ⟨[u], []⟩ [(x, u)])
    (hsp : ∀ H : Hp, SqL K H a (ns.map V.int) → sp [.ref a] H (fun v _ => v = .bl true) fun _ _ _ => False) :
    codeAny (model P w) callerA (.call (.ref fa) ⟨[.ref a], []⟩) (fun r s' => r = .ok (.ret (.bool true)) ∧ OldK s₁.heap s'.heap ∧ s'.os = s₁.os ∧ AllBare s'.gens) s₁ := by
  have lenV := hi.length
  have frz : ObjOk P w (onlyAt a (some (.frz { cls := .type "list", data := .seq vs.toArray } (.lst (ns.map V.int))))) s₁.heap a (.frz { cls := .type "list", data := .seq vs.toArray } (.lst (ns.map V.int))) :=
    ⟨ha, by rw [List.length_map]; exact hl, vs, _, vals_ints hi, ha⟩
  obtain ⟨o, hS, hok, hfr, hK⟩ : ∃ o : Option HO, SqL K (onlyAt a o) a (ns.map V.int) ∧ HOk P w (onlyAt a o) s₁.heap ∧ (∀ u, o = some u → u = .frz { cls := .type "list", data := .seq vs.toArray } (.lst (ns.map V.int))) ∧ (o ≠ none → K.lookup a = none) := by
    cases hk : K.lookup a with
    | none =>
      refine ⟨some (.frz { cls := .type "list", data := .seq vs.toArray } (.lst (ns.map V.int))), .inl (.inr ⟨_, if_pos rfl⟩), fun b u z => ?_, fun u z => (Option.some.inj z).symm, fun _ => rfl⟩
      obtain ⟨e1, e2⟩ := onlyAt_some z
      cases e2
      subst e1
      exact frz
    | some ob =>
      have e := KX a ob hk
      rw [ha] at e
      cases e
      exact ⟨none, .inr ⟨_, vs.toArray, _, hk, rfl, rfl, rfl, by rw [List.size_toArray, lenV]; exact hl, by simpa using vals_ints hi⟩, fun b u z => (by cases (onlyAt_some z).2), fun u z => (by cases z), fun z => absurd rfl z⟩
  have off : ∀ {b : Addr}, b ≠ a → onlyAt a o b = none := fun n => if_neg n
  generalize hH : onlyAt a o = H at hS hok
  have offH : ∀ {b : Addr} {u : HO}, H b = some u → b = a ∧ o = some u := fun z => by rw [← hH] at z; exact onlyAt_some z
  have dicts : ∀ {b : Addr} {ob : Obj} {es : Array DictEntry} {ep : Nat}, s₁.heap.get? b = some ob → ob.data = .dict es ep → H b = none := fun {b ob es ep} e d => by
    by_cases c : b = a
    · subst c
      rw [ha] at e
      cases e
      cases d
    · rw [← hH]; exact off c
  have nsB : ∀ {b : Addr} {m : Str → Option Value}, s₁.heap.Ns b m → (hidT s₁.heap H).Ns b m := fun {b m} z => by
    obtain ⟨ob, es, ep, e, d, r⟩ := z
    exact ⟨ob, es, ep, hidT_get e (dicts e d), d, r⟩
  have kB : K.In (hidT s₁.heap H) := fun b ob e => hidT_get (KX b ob e) (by
    cases q : H b with
    | none => rfl
    | some u =>
      obtain ⟨e1, e2⟩ := offH q
      subst e1
      rw [hK (by rw [e2]; simp)] at e
      cases e)
  obtain ⟨mc, l1, l2⟩ := hlim
  have e0 : Env0 P w K mg (hidT s₁.heap H) callerA [] s₁ H := ⟨rfl, ⟨kB, nsB hns, ⟨mb, nsB hb, hbb⟩, ⟨mc, nsB l1, l2⟩⟩, fun b ob e => of_hidT e, Nat.le_of_eq (hidT_size _ _), trivial, fun b hb => (by cases (show b ∈ ([] : List Addr) from hb)), hok, .of_eq hg⟩
  refine codeAny_mono ((F _ kB (nsB hns)).run callerA [] s₁ H ⟨[.ref a], []⟩ [.ref a] [.ref a] _ _ rfl hr e0 (hbind s₁ (.ref a)) (.cons rfl .nil) (hsp H hS)) fun res s' h => ?_
  cases res with
  | error e => exact h.elim
  | ok fl =>
    cases fl with
    | next => exact False.elim h
    | brk => exact False.elim h
    | cont => exact False.elim h
    | ret u =>
      obtain ⟨v, H', os, bare, un, hok', r', q⟩ := h
      have q' : v = .bl true := q
      subst q'
      have eu : u = Value.bool true := r'
      subst eu
      refine ⟨rfl, OldK.of_keep fun b ob e => ?_, os, bare⟩
      cases z : H b with
      | none => exact un.keep b ob e z (fun y => by cases (show b ∈ ([] : List Addr) from y)) (by simp)
      | some u =>
        obtain ⟨e1, e2⟩ := offH z
        have eu := hfr u e2
        subst eu
        obtain ⟨g1, _⟩ := hok b _ z
        obtain ⟨g2, _⟩ := hok' b _ (un.frzs b _ _ z)
        rw [e] at g1
        cases g1
        exact g2
end
theorem walk_ofG {l : PySem.W.OpenLaw} {n k : Nat} {q : Program} {loose : List Str} {XP : (Str → Option Value) → Heap → Prop} {YP : World → Heap → Prop} {d : DefRec} {K : Params → PySem.W.Frag} {sp : World → Sp} {x : Str} (hn : l.most = some n) (hn2 : n ≤ sizeLine) (hdf : d.params.defaults = []) (hr : Room k callerA)
    (hY : ∀ (w : World) (h : Heap), YP w h → (K w.params).In h)
    (F : ∀ (w : World) (mg : Str → Option Value) (fa : Addr) (h : Heap), (K w.params).In h → h.Ns mainGlobals mg → mg d.name = some (.ref fa) → ∃ fd : FuncData, (∀ (s : Shared) (u : Value), BindsTo s fd ⟨[u], []⟩ [(x, u)]) ∧ ∀ base : Heap, (K w.params).In base → base.Ns mainGlobals mg → FnG l.prog w (K w.params) mg base k fa fd [x] (sp w))
    (hsp : ∀ (w : World) (H : Hp) (a : Addr) (ns : List Int), ns.length ≤ n → SqL (K w.params) H a (ns.map V.int) → sp w [.ref a] H (fun v _ => v = .bl true) fun _ _ _ => False) :
    PySem.W.WalkO q loose XP YP l.row.toRowW d [] (fun f vs => PySem.call f vs) := by
  refine Att.attach_call hn hdf fun w s₀ s₁ mg mb fa o pm cd doc a vs ns G Y ho hd hcd hmg hobj hints hlen hg => ?_
  obtain ⟨fd, hb, hF⟩ := F w mg fa _ (hY w _ Y) G.T.g hmg
  exact call_lawG (hY w _ Y) G.T.g G.T.b G.T.builtins G.T.nolimit hg hobj hints (Nat.le_trans hlen hn2) hr hF hb fun H hS => hsp w H a ns hlen hS
end Lm

set_option Elab.async false
set_option linter.all false
set_option maxRecDepth 100000
set_option maxHeartbeats 2000000
namespace Lm
open PySem PySem.Spec PyProof.Rows L2 LmR
/-! ### defs with a parameter that is written by its name, or left out -/
def DefKw (K : PySem.W.Frag) (mg : Str → Option Value) (x : Str) (st : Stmt) (ps : List Str) (n : Nat) (ks : List Str) (dvs : List V) : Prop :=
  ∃ f fd, Fun K x x st f fd ∧ mg x = some (.ref f) ∧ KBn K fd ps n ks (fun us ws => us ++ ws) (fun us ws => us ++ ws) ∧ ∃ ds, Vals dvs ds ∧ Binds K fd ps ds
def CalKw (P : Program) (w : World) (K : PySem.W.Frag) (mg : Str → Option Value) (base : Heap) (k : Nat) (x : Str) (ps : List Str) (n : Nat) (ks : List Str) (dvs : List V) (sp : Sp) : Prop :=
  ∃ f fd, FnOk P w K mg base CX0 k f fd ps sp ∧ mg x = some (.ref f) ∧ PySem.W.keepIn K (.ref f) = true ∧ KBn K fd ps n ks (fun us ws => us ++ ws) (fun us ws => us ++ ws) ∧ (∃ ds, Vals dvs ds ∧ Binds K fd ps ds) ∧ ∃ st, Fun K x x st f fd
section
variable {P : Program} {w : World} {K : PySem.W.Frag} {mg : Str → Option Value} {base : Heap}
theorem CalKw.mono {j k : Nat} {x : Str} {ps : List Str} {n : Nat} {ks : List Str} {dvs : List V} {sp : Sp} (c : CalKw P w K mg base j x ps n ks dvs sp) (h : j ≤ k) : CalKw P w K mg base k x ps n ks dvs sp := by
  obtain ⟨f, fd, F, g⟩ := c
  exact ⟨f, fd, F.mono h, g⟩
theorem calkw_of {x : Str} {st : Stmt} {N ps : List Str} {k n : Nat} {ks : List Str} {dvs : List V} {sp : Sp} (D : DefKw K mg x st ps n ks dvs) (S : FnScope N ps (defScope st)) (len : ∀ vs H Q E, sp vs H Q E → vs.length = ps.length)
    (hbody : ∀ (f : Addr) (cdv : Value) (A : Around) (outer : List Env) (s : Shared) (H : Hp) (vs : List V) (Q : VK) (E : XK), Room k (A.deeper (envOfC x (defScope st) s.heap.objs.size f cdv)) → sp vs H Q E →
      ∃ t, PSs (cxOf CX0 P w K mg base N x (defScope st) f cdv A outer s H E).nox (defBody st) t ∧ t { nx := fun _ H' => Q .non H', rt := Q } (start N vs) H) : CalKw P w K mg base (k + 1) x ps n ks dvs sp := by
  obtain ⟨f, fd, F, g, b⟩ := D
  exact ⟨f, fd, F.ok S len (hbody f), g, F.kp, b.1, b.2, _, F⟩
end
/-- f(e, .., k = v) -/
theorem pe_calK {X : Cx} {k n : Nat} {x : Str} {ps ks : List Str} {dvs : List V} {sp : Sp} {e : Expr} {es : List Expr} {kws : List Keyword} {t tk : TA} {p pos : Pos} (C : CalKw X.prog X.w X.K X.mg X.base k x ps n ks dvs sp) (hr : Room k X.A) (hg : Gl X x) (ha : PA X (e :: es) t) (hkw : PK X kws tk)
    (hall : (backToKw pos (keywordEach kws X.env)).all (·.1.isSome) = true := by rfl) (hks : (backToKw pos (keywordEach kws X.env)).filterMap (·.1) = ks := by rfl) (hdb : (x == ("__debug__" : Str)) = false := by decide) (he : starEach (e :: es) X.env = (false, eval e X.env) :: starEach es X.env := by rfl)
    (hpl : ((backTo pos (starEach (e :: es) X.env)).any (·.1) || (backToKw pos (keywordEach kws X.env)).any (·.1.isNone)) = false := by rfl) :
    PE X (.Call (.Name x p) (e :: es) kws pos) (tCallN n ks.length sp (fun us ws => us ++ ws) (fun _ _ _ => False) t tk) := by
  obtain ⟨f, fd, F, g, kp, b, _⟩ := C
  exact pe_callN F hr hg g kp b pass0 ha hkw hall hks hdb he hpl
/-- f(e, ..), what is written by its name left out -/
theorem pe_calD {X : Cx} {k n : Nat} {x : Str} {ps ks : List Str} {dvs : List V} {sp : Sp} {e : Expr} {es : List Expr} {t : TA} {p pos : Pos} (C : CalKw X.prog X.w X.K X.mg X.base k x ps n ks dvs sp) (hr : Room k X.A) (hg : Gl X x) (ha : PA X (e :: es) t)
    (hdb : (x == ("__debug__" : Str)) = false := by decide) (he : starEach (e :: es) X.env = (false, eval e X.env) :: starEach es X.env := by rfl) (hpl : (backTo pos (starEach es X.env)).any (·.1) = false := by rfl) :
    PE X (.Call (.Name x p) (e :: es) [] pos) (tCall sp dvs (fun _ _ _ => False) t) := by
  obtain ⟨f, fd, F, g, kp, _, ⟨ds, hd, b⟩, _⟩ := C
  exact pe_call F hr hg g kp b hd pass0 ha hdb he hpl
/-- how a def of one parameter and one that may be left out binds -/
theorem defkw_mk {K : PySem.W.Frag} {h : Heap} {mg : Str → Option Value} {x y z : Str} {st : Stmt} {f D : Addr} {oc : Value} {od an : Option Addr} {osl : Array (Option Value)} {doc pm cdv ct u : Value} {v : V} (X : K.In h) (G : h.Ns mainGlobals mg)
    (a : PySem.W.nsIn K mainGlobals x = some (some (.ref f))) (l : K.lookup f = some ⟨oc, od, .func (PySem.W.fnOf x x (defArgs st) (defBody st) (defScope st) .none (.ref D) doc pm an cdv ct), osl⟩) (c : PySem.W.codeIn K cdv x = true) (k : PySem.W.keepIn K (.ref f) = true)
    (d : PySem.W.nsIn K D z = some (some u)) (r : RelV v u)
    (hb : ∀ (doc pm : Value) (an : Option Addr) (cdv ct u w : Value), bindArgs (PySem.W.fnOf x x (defArgs st) (defBody st) (defScope st) .none (.ref D) doc pm an cdv ct) ⟨[u], [(z, w)]⟩ = pure [(y, u), (z, w)])
    (hd : ∀ (doc pm : Value) (an : Option Addr) (cdv ct u w : Value), KwChain D [(z, w)] (bindArgs (PySem.W.fnOf x x (defArgs st) (defBody st) (defScope st) .none (.ref D) doc pm an cdv ct) ⟨[u], []⟩) [(y, u), (z, w)]) : DefKw K mg x st [y, z] 1 [z] [v] := by
  refine ⟨f, _, fun_mk l c k, PySem.W.mg_of X G a, ⟨fun s us ws _ l1 l2 => ?_, fun r1 r2 => r1.append r2⟩, [u], .cons r .nil, fun s us X' hl => ?_⟩
  · match us, ws, l1, l2 with
    | [u'], [w'], _, _ => exact .of_eq (hb _ _ _ _ _ u' w')
  · have l1 : us.length = 1 := by simpa using hl
    match us, l1 with
    | [u'], _ => exact BindsTo.of_looks fun M => KwChain.looks X' (fun q hq => by rw [List.mem_singleton.mp hq]; exact d) (hd _ _ _ _ _ u' u)
end Lm

set_option Elab.async false
set_option linter.all false
set_option maxRecDepth 100000
set_option maxHeartbeats 2000000
namespace Lm
open PySem PySem.Spec PyProof.Rows L2 LmR
/-! ### defs with a parameter that is always written by its name -/
def DefK0 (K : PySem.W.Frag) (mg : Str → Option Value) (x : Str) (st : Stmt) (ps : List Str) (n : Nat) (ks : List Str) : Prop :=
  ∃ f fd, Fun K x x st f fd ∧ mg x = some (.ref f) ∧ KBn K fd ps n ks (fun us ws => us ++ ws) (fun us ws => us ++ ws)
def CalK0 (P : Program) (w : World) (K : PySem.W.Frag) (mg : Str → Option Value) (base : Heap) (k : Nat) (x : Str) (ps : List Str) (n : Nat) (ks : List Str) (sp : Sp) : Prop :=
  ∃ f fd, FnOk P w K mg base CX0 k f fd ps sp ∧ mg x = some (.ref f) ∧ PySem.W.keepIn K (.ref f) = true ∧ KBn K fd ps n ks (fun us ws => us ++ ws) (fun us ws => us ++ ws) ∧ ∃ st, Fun K x x st f fd
section
variable {P : Program} {w : World} {K : PySem.W.Frag} {mg : Str → Option Value} {base : Heap}
theorem CalK0.mono {j k : Nat} {x : Str} {ps : List Str} {n : Nat} {ks : List Str} {sp : Sp} (c : CalK0 P w K mg base j x ps n ks sp) (h : j ≤ k) : CalK0 P w K mg base k x ps n ks sp := by
  obtain ⟨f, fd, F, g⟩ := c
  exact ⟨f, fd, F.mono h, g⟩
theorem calk0_of {x : Str} {st : Stmt} {N ps : List Str} {k n : Nat} {ks : List Str} {sp : Sp} (D : DefK0 K mg x st ps n ks) (S : FnScope N ps (defScope st)) (len : ∀ vs H Q E, sp vs H Q E → vs.length = ps.length)
    (hbody : ∀ (f : Addr) (cdv : Value) (A : Around) (outer : List Env) (s : Shared) (H : Hp) (vs : List V) (Q : VK) (E : XK), Room k (A.deeper (envOfC x (defScope st) s.heap.objs.size f cdv)) → sp vs H Q E →
      ∃ t, PSs (cxOf CX0 P w K mg base N x (defScope st) f cdv A outer s H E).nox (defBody st) t ∧ t { nx := fun _ H' => Q .non H', rt := Q } (start N vs) H) : CalK0 P w K mg base (k + 1) x ps n ks sp := by
  obtain ⟨f, fd, F, g, b⟩ := D
  exact ⟨f, fd, F.ok S len (hbody f), g, F.kp, b, _, F⟩
end
/-- f(e, .., k = v) -/
theorem pe_calK0 {X : Cx} {k n : Nat} {x : Str} {ps ks : List Str} {sp : Sp} {e : Expr} {es : List Expr} {kws : List Keyword} {t tk : TA} {p pos : Pos} (C : CalK0 X.prog X.w X.K X.mg X.base k x ps n ks sp) (hr : Room k X.A) (hg : Gl X x) (ha : PA X (e :: es) t) (hkw : PK X kws tk)
    (hall : (backToKw pos (keywordEach kws X.env)).all (·.1.isSome) = true := by rfl) (hks : (backToKw pos (keywordEach kws X.env)).filterMap (·.1) = ks := by rfl) (hdb : (x == ("__debug__" : Str)) = false := by decide) (he : starEach (e :: es) X.env = (false, eval e X.env) :: starEach es X.env := by rfl)
    (hpl : ((backTo pos (starEach (e :: es) X.env)).any (·.1) || (backToKw pos (keywordEach kws X.env)).any (·.1.isNone)) = false := by rfl) :
    PE X (.Call (.Name x p) (e :: es) kws pos) (tCallN n ks.length sp (fun us ws => us ++ ws) (fun _ _ _ => False) t tk) := by
  obtain ⟨f, fd, F, g, kp, b, _⟩ := C
  exact pe_callN F hr hg g kp b pass0 ha hkw hall hks hdb he hpl
/-- how a def of two parameters and one by its name binds -/
theorem defk0_mk3 {K : PySem.W.Frag} {h : Heap} {mg : Str → Option Value} {x y y' z : Str} {st : Stmt} {f : Addr} {oc kV : Value} {od an : Option Addr} {osl : Array (Option Value)} {doc pm cdv ct : Value} (X : K.In h) (G : h.Ns mainGlobals mg)
    (a : PySem.W.nsIn K mainGlobals x = some (some (.ref f))) (l : K.lookup f = some ⟨oc, od, .func (PySem.W.fnOf x x (defArgs st) (defBody st) (defScope st) .none kV doc pm an cdv ct), osl⟩) (c : PySem.W.codeIn K cdv x = true) (k : PySem.W.keepIn K (.ref f) = true)
    (hb : ∀ (doc pm : Value) (an : Option Addr) (cdv ct u u' w : Value), bindArgs (PySem.W.fnOf x x (defArgs st) (defBody st) (defScope st) .none kV doc pm an cdv ct) ⟨[u, u'], [(z, w)]⟩ = pure [(y, u), (y', u'), (z, w)]) : DefK0 K mg x st [y, y', z] 2 [z] := by
  refine ⟨f, _, fun_mk l c k, PySem.W.mg_of X G a, ⟨fun s us ws _ l1 l2 => ?_, fun r1 r2 => r1.append r2⟩⟩
  match us, ws, l1, l2 with
  | [u, u'], [w'], _, _ => exact .of_eq (hb _ _ _ _ _ u u' w')
end Lm

set_option Elab.async false
set_option linter.all false
set_option maxRecDepth 100000
set_option maxHeartbeats 2000000
namespace Lm
open PySem PySem.Spec PyProof.Rows L2 LmR
def topS (i : Nat) : Stmt := PySem.Challenge.pw_leastmaker_k39_wishes_put_in.main.body.getD i (.Pass ⟨0, 0, 0, 0⟩)
section
variable {P : Program} {w : World} {K : PySem.W.Frag} {mg : Str → Option Value} {base : Heap}
/-! ### cell, flow, draw -/
abbrev s_l_cell : Stmt := topS 18
theorem sc_l_cell : FnScope ["_law_script", "_law_k", "_law_number"] ["_law_script", "_law_k"] (defScope s_l_cell) := ⟨rfl, rfl, rfl, by decide +kernel, rfl, by decide +kernel, by decide +kernel⟩
def spCell (K : PySem.W.Frag) : Sp := fun vs H Q _ => ∃ (a : Addr) (ns : List Int) (k : Int), vs = [.ref a, .int k] ∧ SqL K H a (ns.map V.int) ∧ 0 ≤ k ∧ ∀ i, Q (.int i) H
theorem ok_l_cell (B : Bt mg) (D : DefAt K mg "_law_cell" s_l_cell ["_law_script", "_law_k"]) : Cal P w K mg base 1 "_law_cell" ["_law_script", "_law_k"] (spCell K) := by
  refine cal_of D sc_l_cell (fun vs H Q E h => ?_) (fun f cdv A outer s H vs Q E hr h => ?_)
  · obtain ⟨a, ns, k, rfl, _⟩ := h
    rfl
  obtain ⟨a, ns, k, rfl, hS, h0, q⟩ := h
  refine ⟨_, (pss_cons (ps_if (pt_cmpR op_lt (pv 1) (pe_callB call_len_seq (by rfl) B.len PySem.boot_len (pa_cons (pv 0) pa_nil)) (nomark _))
        (pss_one (ps_ret (pe_ix ix_list (pv 0) (pv 1) (fun _ _ => rfl))))
        pss_nil)
      (pss_cons (ps_set (i := 2) sc_l_cell.nd rfl (.inl rfl) (pe_op op_add (pe_op op_mul (pv 1) pe_int) pe_int))
      (pss_cons (ps_if (pt_cmpR op_gt (pe_callB call_len_seq (by rfl) B.len PySem.boot_len (pa_cons (pv 0) pa_nil)) pe_int (nomark _))
        (pss_one (ps_set (i := 2) sc_l_cell.nd rfl (.inl rfl) (pe_op op_add (pe_op op_mul (pe_op op_mod (pe_ix ix_list (pv 0) (pe_op op_mod (pe_op op_mul (pv 1) pe_int) (pe_callB call_len_seq (by rfl) B.len PySem.boot_len (pa_cons (pv 0) pa_nil))) (fun _ _ => rfl)) pe_int) pe_int) (pe_op op_mul (pv 1) pe_int))))
        pss_nil)
      (pss_one (ps_ret (pe_op op_mul (pe_op op_mod (pv 2) pe_int) pe_int)))))), ?_⟩
  have hl : (ns.map V.int).length = ns.length := List.length_map _
  refine ⟨_, rfl, _, rfl, a, _, rfl, .inl hS, _, _, rfl, rfl, _, rfl, ite2 (fun c => ?_) (fun c => ?_)⟩
  · have c' : k < (((ns.map V.int).length : Nat) : Int) := of_decide_eq_true c
    rw [hl] at c'
    have e : (ns.map V.int)[k.toNat]? = some (.int ns[k.toNat]) := by
      rw [List.getElem?_map, List.getElem?_eq_getElem (by omega)]
      rfl
    exact ⟨_, rfl, _, rfl, a, _, _, _, rfl, rfl, hS, at_of (j := k.toNat) (by omega) e, q _⟩
  · refine ⟨_, rfl, _, _, rfl, rfl, .inr ⟨by decide, by decide⟩, _, _, rfl, rfl, ?_⟩
    refine ⟨_, rfl, a, _, rfl, .inl hS, _, _, rfl, rfl, _, rfl, ite2 (fun c2 => ?_) (fun c2 => ?_)⟩
    · have c2' : (((ns.map V.int).length : Nat) : Int) > 0 := of_decide_eq_true c2
      rw [hl] at c2'
      have hp : (0 : Int) < (((ns.map V.int).length : Nat) : Int) := by rw [hl]; omega
      have b1 : 0 ≤ (k * 7) % (((ns.map V.int).length : Nat) : Int) := Int.emod_nonneg _ (by omega)
      have b2 : (k * 7) % (((ns.map V.int).length : Nat) : Int) < (((ns.map V.int).length : Nat) : Int) := Int.emod_lt_of_pos _ hp
      generalize hj : (k * 7) % (((ns.map V.int).length : Nat) : Int) = j at b1 b2
      rw [hl] at b2
      have e : (ns.map V.int)[j.toNat]? = some (.int ns[j.toNat]) := by
        rw [List.getElem?_map, List.getElem?_eq_getElem (by omega)]
        rfl
      have m1 : 0 ≤ ns[j.toNat] % 2147483629 := Int.emod_nonneg _ (by decide)
      have m2 : ns[j.toNat] % 2147483629 < 2147483629 := Int.emod_lt_of_pos _ (by decide)
      refine ⟨_, rfl, _, rfl, _, _, rfl, rfl, .inr ⟨by decide, by decide⟩, _, rfl, a, _, rfl, .inl hS, _, _, rfl, rfl, hp, a, _, _, V.int ns[j.toNat], rfl, rfl, hS, ?_, _, _, rfl, rfl, (by show (0 : Int) < 2147483629; decide), _, _, rfl, rfl, .inl ⟨by omega, by omega⟩, _, rfl, _, _, rfl, rfl, .inr ⟨by decide, by decide⟩, _, _, rfl, rfl, ?_⟩
      · rw [hj]
        exact at_of (j := j.toNat) (by omega) e
      · have n1 := Int.emod_nonneg (ns[j.toNat] % 2147483629 * 48271 + k * 7919) (show (2147483647 : Int) ≠ 0 by decide)
        have n2 := Int.emod_lt_of_pos (ns[j.toNat] % 2147483629 * 48271 + k * 7919) (show (0 : Int) < 2147483647 by decide)
        exact ⟨_, rfl, _, _, rfl, rfl, (by show (0 : Int) < 2147483647; decide), _, _, rfl, rfl, .inr ⟨by decide, by decide⟩, q _⟩
    · exact ⟨_, rfl, _, _, rfl, rfl, (by show (0 : Int) < 2147483647; decide), _, _, rfl, rfl, .inr ⟨by decide, by decide⟩, q _⟩
/-! the flow that is drawn from -/
def Flow (H : Hp) (f : Addr) : Prop := ∃ own cnt seed : Int, H f = some (.lst [.int own, .int cnt, .int seed]) ∧ 0 ≤ seed ∧ seed < 2 ^ 40
abbrev s_l_flow : Stmt := topS 19
theorem sc_l_flow : FnScope ["_law_script", "_law_k", "_law_cell_here", "_law_own"] ["_law_script", "_law_k"] (defScope s_l_flow) := ⟨rfl, rfl, rfl, by decide +kernel, rfl, by decide +kernel, by decide +kernel⟩
def spFlow (K : PySem.W.Frag) : Sp := fun vs H Q _ => ∃ (a : Addr) (ns : List Int) (k : Int), vs = [.ref a, .int k] ∧ SqL K H a (ns.map V.int) ∧ 0 ≤ k ∧ k ≤ 63 ∧ ∀ (p : Addr) (o : HO), H p = none → Flow (upd H p o) p → Q (.ref p) (upd H p o)
theorem ok_l_flow (C_l_cell : Cal P w K mg base 1 "_law_cell" ["_law_script", "_law_k"] (spCell K)) (D : DefAt K mg "_law_flow" s_l_flow ["_law_script", "_law_k"]) : Cal P w K mg base 2 "_law_flow" ["_law_script", "_law_k"] (spFlow K) := by
  refine cal_of D sc_l_flow (fun vs H Q E h => ?_) (fun f cdv A outer s H vs Q E hr h => ?_)
  · obtain ⟨a, ns, k, rfl, _⟩ := h
    rfl
  obtain ⟨a, ns, k, rfl, hS, h0, h1, q⟩ := h
  have hr' : Room 1 _ := hr
  refine ⟨_, (pss_cons (ps_set (i := 2) sc_l_flow.nd rfl (.inl rfl) (pe_cal C_l_cell hr' (by rfl) (pa_cons (pv 0) (pa_cons (pv 1) pa_nil))))
      (pss_cons (ps_set (i := 3) sc_l_flow.nd rfl (.inl rfl) pe_int)
      (pss_cons (ps_if (pt_cmpR op_ge (pv 2) (pe_op op_pow pe_int pe_int) (nomark _))
        (pss_one (ps_set (i := 3) sc_l_flow.nd rfl (.inl rfl) (pv 2)))
        pss_nil)
      (pss_one (ps_ret (pe_lst (pa_cons (pv 3) (pa_cons pe_int (pa_cons (pe_op op_add (pe_op op_mod (pv 2) pe_int) (pe_op op_mul pe_int (pv 1))) pa_nil))))))))), ?_⟩
  refine ⟨_, rfl, _, rfl, a, ns, k, rfl, hS, h0, fun i => ?_⟩
  have m1 : 0 ≤ i % 2147483629 := Int.emod_nonneg _ (by decide)
  have m2 : i % 2147483629 < 2147483629 := Int.emod_lt_of_pos _ (by decide)
  have pw : CPow 10 18 := ⟨by decide, by decide, by decide⟩
  refine ⟨_, rfl, _, _, rfl, rfl, pw, _, _, rfl, rfl, _, rfl, ite2 (fun c => ?_) (fun c => ?_)⟩
  · refine ⟨_, rfl, _, rfl, _, rfl, _, _, rfl, rfl, (by show (0 : Int) < 2147483629; decide), _, rfl, _, _, rfl, rfl, .inl ⟨by decide, by decide⟩, _, _, rfl, rfl, (by show 3 ≤ sizeLine; decide), fun p hp => q p _ hp ⟨_, _, _, upd_same, by omega, by omega⟩⟩
  · refine ⟨_, rfl, _, rfl, _, _, rfl, rfl, (by show (0 : Int) < 2147483629; decide), _, rfl, _, _, rfl, rfl, .inl ⟨by decide, by decide⟩, _, _, rfl, rfl, (by show 3 ≤ sizeLine; decide), fun p hp => q p _ hp ⟨_, _, _, upd_same, by omega, by omega⟩⟩
/-- the flow at f was drawn from, nothing else changed -/
structure Dr (f : Addr) (H H' : Hp) : Prop where
  off : ∀ b, b ≠ f → H' b = H b
  fl : Flow H' f
theorem Flow.lst {H : Hp} {f : Addr} (h : Flow H f) : ∃ xs, H f = some (.lst xs) := by
  obtain ⟨a, b, c, e, _⟩ := h
  exact ⟨_, e⟩
theorem Dr.ex {f : Addr} {H H' : Hp} (d : Dr f H H') : Ex [f] H H' := fun b o h n => by
  rw [d.off b (fun z => n (by rw [z]; simp))]
  exact h
theorem Dr.trans {f : Addr} {H H1 H2 : Hp} (a : Dr f H H1) (b : Dr f H1 H2) : Dr f H H2 := ⟨fun c n => (b.off c n).trans (a.off c n), b.fl⟩
theorem Dr.tp {f : Addr} {H H' : Hp} (d : Dr f H H') (h : Flow H f) : Tp K H H' := by
  obtain ⟨xs, e⟩ := h.lst
  refine d.ex.tp fun b hb ys q => ?_
  rw [List.mem_singleton.mp hb] at q
  rcases q with q | ⟨o, q⟩
  · rw [e] at q; cases q
  · rw [e] at q; cases q
abbrev s_l_draw : Stmt := topS 20
theorem sc_l_draw : FnScope ["_law_flow_here", "_law_wide", "_law_number", "_law_digit"] ["_law_flow_here", "_law_wide"] (defScope s_l_draw) := ⟨rfl, rfl, rfl, by decide +kernel, rfl, by decide +kernel, by decide +kernel⟩
def spDraw : Sp := fun vs H Q _ => ∃ (f : Addr) (m : Int), vs = [.ref f, .int m] ∧ Flow H f ∧ 0 < m ∧ m < 1073741824 ∧ ∀ (d : Int) (H' : Hp), 0 ≤ d → d < m → Dr f H H' → Q (.int d) H'
theorem dr_put {f : Addr} {H H0 : Hp} {xs : List V} (o : ∀ b, b ≠ f → H0 b = H b) (fl : Flow (upd H0 f (.lst xs)) f) : Dr f H (upd H0 f (.lst xs)) := ⟨fun b n => by rw [upd_ne n]; exact o b n, fl⟩
theorem ok_l_draw (D : DefAt K mg "_law_draw" s_l_draw ["_law_flow_here", "_law_wide"]) : Cal P w K mg base 1 "_law_draw" ["_law_flow_here", "_law_wide"] (spDraw) := by
  refine cal_of D sc_l_draw (fun vs H Q E h => ?_) (fun f cdv A outer s H vs Q E hr h => ?_)
  · obtain ⟨a, m, rfl, _⟩ := h
    rfl
  obtain ⟨a, m, rfl, ⟨own, cnt, seed, hf, s0, s1⟩, m0, m1, q⟩ := h
  refine ⟨_, (pss_cons (ps_if (pt_cmpR op_gt (pe_ix ix_list (pv 0) pe_int (fun _ _ => rfl)) pe_int (nomark _))
        (pss_cons (ps_set (i := 3) sc_l_draw.nd rfl (.inl rfl) (pe_op op_mod (pe_ix ix_list (pv 0) pe_int (fun _ _ => rfl)) (pv 1)))
      (pss_cons (ps_asg (pe_op op_fdiv (pe_ix ix_list (pv 0) pe_int (fun _ _ => rfl)) (pv 1)) (pg_sub (pv 0) pe_int set_list))
      (pss_one (ps_ret (pv 3)))))
        pss_nil)
      (pss_cons (ps_asg (pe_op op_add (pe_ix ix_list (pv 0) pe_int (fun _ _ => rfl)) pe_int) (pg_sub (pv 0) pe_int set_list))
      (pss_cons (ps_set (i := 2) sc_l_draw.nd rfl (.inl rfl) (pe_op op_mod (pe_op op_add (pe_op op_add (pe_op op_mul (pe_ix ix_list (pv 0) pe_int (fun _ _ => rfl)) (pe_op op_add pe_int (pe_op op_mul pe_int (pe_ix ix_list (pv 0) pe_int (fun _ _ => rfl))))) (pe_op op_mul pe_int (pe_ix ix_list (pv 0) pe_int (fun _ _ => rfl)))) pe_int) pe_int))
      (pss_cons (ps_set (i := 2) sc_l_draw.nd rfl (.inl rfl) (pe_op op_mod (pe_op op_mul (pv 2) (pv 2)) pe_int))
      (pss_one (ps_ret (pe_op op_mod (pe_op op_fdiv (pe_op op_mod (pe_op op_mul (pe_op op_add (pv 2) pe_int) (pe_op op_add (pv 2) pe_int)) pe_int) pe_int) (pv 1)))))))), ?_⟩
  have L : SqL K H a [.int own, .int cnt, .int seed] := SqL.of hf
  refine ⟨_, rfl, a, _, 0, .int own, rfl, rfl, L, rfl, _, _, rfl, rfl, _, rfl, ite2 (fun c => ?_) (fun c => ?_)⟩
  · have b1 : 0 ≤ own % m := Int.emod_nonneg _ (by omega)
    have b2 : own % m < m := Int.emod_lt_of_pos _ m0
    refine ⟨_, rfl, a, _, 0, .int own, rfl, rfl, L, rfl, _, rfl, _, _, rfl, rfl, m0, ?_⟩
    refine ⟨_, rfl, a, _, 0, .int own, rfl, rfl, L, rfl, _, rfl, _, _, rfl, rfl, ⟨m0, m1⟩, ?_⟩
    refine ⟨_, rfl, a, _, 0, 0, rfl, rfl, hf, rfl, ?_⟩
    exact ⟨_, rfl, q _ _ b1 b2 (dr_put (fun _ _ => rfl) ⟨_, _, _, upd_same, s0, s1⟩)⟩
  · refine ⟨_, rfl, a, _, 1, .int cnt, rfl, rfl, L, rfl, _, _, rfl, rfl, ?_⟩
    refine ⟨_, rfl, a, _, 1, 1, rfl, rfl, hf, rfl, ?_⟩
    have hf2 : (upd H a (.lst (List.set [.int own, .int cnt, .int seed] 1 (.int (cnt + 1))))) a = some (.lst [.int own, .int (cnt + 1), .int seed]) := upd_same
    generalize hH : upd H a (.lst (List.set [.int own, .int cnt, .int seed] 1 (.int (cnt + 1)))) = H2 at hf2
    have off : ∀ b, b ≠ a → H2 b = H b := fun b n => by
      rw [← hH, upd_ne n]
    have L2' : SqL K H2 a [.int own, .int (cnt + 1), .int seed] := SqL.of hf2
    refine ⟨_, rfl, a, _, 2, .int seed, rfl, rfl, L2', rfl, _, rfl, a, _, 1, .int (cnt + 1), rfl, rfl, L2', rfl, _, _, rfl, rfl, .inl ⟨by decide, by decide⟩, _, _, rfl, rfl, _, _, rfl, rfl, .inl ⟨by omega, by omega⟩, ?_⟩
    refine ⟨_, rfl, a, _, 1, .int (cnt + 1), rfl, rfl, L2', rfl, _, _, rfl, rfl, .inl ⟨by decide, by decide⟩, _, _, rfl, rfl, _, _, rfl, rfl, _, _, rfl, rfl, (by show (0 : Int) < 2147483629; decide), ?_⟩
    have n1 := Int.emod_nonneg (seed * (48271 + 2 * (cnt + 1)) + 7919 * (cnt + 1) + 1) (show (2147483629 : Int) ≠ 0 by decide)
    have n2 := Int.emod_lt_of_pos (seed * (48271 + 2 * (cnt + 1)) + 7919 * (cnt + 1) + 1) (show (0 : Int) < 2147483629 by decide)
    generalize (seed * (48271 + 2 * (cnt + 1)) + 7919 * (cnt + 1) + 1) % 2147483629 = n at n1 n2
    refine ⟨_, rfl, _, rfl, _, _, rfl, rfl, .inl ⟨by omega, by omega⟩, _, _, rfl, rfl, (by show (0 : Int) < 2147483587; decide), ?_⟩
    have k1 := Int.emod_nonneg (n * n) (show (2147483587 : Int) ≠ 0 by decide)
    have k2 := Int.emod_lt_of_pos (n * n) (show (0 : Int) < 2147483587 by decide)
    generalize n * n % 2147483587 = k at k1 k2
    refine ⟨_, rfl, _, _, rfl, rfl, _, rfl, _, _, rfl, rfl, _, _, rfl, rfl, .inl ⟨by omega, by omega⟩, _, _, rfl, rfl, (by show (0 : Int) < 2147483579; decide), _, _, rfl, rfl, ⟨by decide, by decide⟩, _, rfl, _, _, rfl, rfl, m0, ?_⟩
    exact q _ _ (Int.emod_nonneg _ (by omega)) (Int.emod_lt_of_pos _ m0) ⟨off, ⟨_, _, _, hf2, s0, s1⟩⟩
end
end Lm

set_option Elab.async false
set_option linter.all false
set_option maxRecDepth 100000
set_option maxHeartbeats 2000000
namespace Lm
open PySem PySem.Spec PyProof.Rows L2 LmR
/-! ### flat data: kinds, sizes -/
def tyn : PyData → String
  | .none => "NoneType"
  | .bool _ => "bool"
  | .int _ => "int"
  | .str _ => "str"
  | .list _ => "list"
  | .tuple _ => "tuple"
  | .dict _ => "dict"
theorem tyx_tup {K : PySem.W.Frag} {H : Hp} {a : Addr} {xs : List V} (q : SqT K H a xs) : TyX K H (.ref a) (.type "tuple") := by
  rcases q with (q | ⟨o, q⟩) | ⟨o, its, n, hk, hc, _⟩
  · exact .base (.tup q)
  · exact .fTuple q
  · exact .kTuple hk hc
theorem Fd.ty {K : PySem.W.Frag} {H : Hp} {v : V} {d : PyData} (h : Fd K H v d) : TyX K H v (.type (tyn d)) := by
  obtain ⟨f, h⟩ := h
  cases h with
  | non => exact .base .non
  | bl b => exact .base (.bl b)
  | int i => exact .base (.int i)
  | str x => exact .base (.str x)
  | lst q r => simp [flat] at f
  | tup q r => exact tyx_tup q
def isTup : PyData → Bool
  | .tuple _ => true
  | _ => false
def isBl : PyData → Bool
  | .bool _ => true
  | _ => false
def isStr : PyData → Bool
  | .str _ => true
  | _ => false
def isInt : PyData → Bool
  | .bool _ => true
  | .int _ => true
  | _ => false
theorem kit_tup {K : PySem.W.Frag} (d : PyData) (h : flat d = true) : PySem.W.kitOne K (.type (tyn d)) (.type "tuple") = some (isTup d) := by
  cases d <;> first | (simp [flat] at h; done) | exact kit_ty (a := "NoneType") (r := true) (by decide +kernel) | exact kit_ty (a := "NoneType") (r := false) (by decide +kernel) | exact kit_ty (a := "bool") (r := true) (by decide +kernel) | exact kit_ty (a := "bool") (r := false) (by decide +kernel) | exact kit_ty (a := "int") (r := true) (by decide +kernel) | exact kit_ty (a := "int") (r := false) (by decide +kernel) | exact kit_ty (a := "str") (r := true) (by decide +kernel) | exact kit_ty (a := "str") (r := false) (by decide +kernel) | exact kit_ty (a := "tuple") (r := true) (by decide +kernel) | exact kit_ty (a := "tuple") (r := false) (by decide +kernel)
theorem kit_bl {K : PySem.W.Frag} (d : PyData) (h : flat d = true) : PySem.W.kitOne K (.type (tyn d)) (.type "bool") = some (isBl d) := by
  cases d <;> first | (simp [flat] at h; done) | exact kit_ty (a := "NoneType") (r := true) (by decide +kernel) | exact kit_ty (a := "NoneType") (r := false) (by decide +kernel) | exact kit_ty (a := "bool") (r := true) (by decide +kernel) | exact kit_ty (a := "bool") (r := false) (by decide +kernel) | exact kit_ty (a := "int") (r := true) (by decide +kernel) | exact kit_ty (a := "int") (r := false) (by decide +kernel) | exact kit_ty (a := "str") (r := true) (by decide +kernel) | exact kit_ty (a := "str") (r := false) (by decide +kernel) | exact kit_ty (a := "tuple") (r := true) (by decide +kernel) | exact kit_ty (a := "tuple") (r := false) (by decide +kernel)
theorem kit_str {K : PySem.W.Frag} (d : PyData) (h : flat d = true) : PySem.W.kitOne K (.type (tyn d)) (.type "str") = some (isStr d) := by
  cases d <;> first | (simp [flat] at h; done) | exact kit_ty (a := "NoneType") (r := true) (by decide +kernel) | exact kit_ty (a := "NoneType") (r := false) (by decide +kernel) | exact kit_ty (a := "bool") (r := true) (by decide +kernel) | exact kit_ty (a := "bool") (r := false) (by decide +kernel) | exact kit_ty (a := "int") (r := true) (by decide +kernel) | exact kit_ty (a := "int") (r := false) (by decide +kernel) | exact kit_ty (a := "str") (r := true) (by decide +kernel) | exact kit_ty (a := "str") (r := false) (by decide +kernel) | exact kit_ty (a := "tuple") (r := true) (by decide +kernel) | exact kit_ty (a := "tuple") (r := false) (by decide +kernel)
theorem kit_int {K : PySem.W.Frag} (d : PyData) (h : flat d = true) : PySem.W.kitOne K (.type (tyn d)) (.type "int") = some (isInt d) := by
  cases d <;> first | (simp [flat] at h; done) | exact kit_ty (a := "NoneType") (r := true) (by decide +kernel) | exact kit_ty (a := "NoneType") (r := false) (by decide +kernel) | exact kit_ty (a := "bool") (r := true) (by decide +kernel) | exact kit_ty (a := "bool") (r := false) (by decide +kernel) | exact kit_ty (a := "int") (r := true) (by decide +kernel) | exact kit_ty (a := "int") (r := false) (by decide +kernel) | exact kit_ty (a := "str") (r := true) (by decide +kernel) | exact kit_ty (a := "str") (r := false) (by decide +kernel) | exact kit_ty (a := "tuple") (r := true) (by decide +kernel) | exact kit_ty (a := "tuple") (r := false) (by decide +kernel)
/-- how many things are in it -/
def dsz : PyData → Nat
  | .tuple xs => 1 + dszs xs
  | _ => 1
where dszs : List PyData → Nat
  | [] => 0
  | d :: ds => dsz d + dszs ds
theorem dsz_pos (d : PyData) : 1 ≤ dsz d := by cases d <;> simp [dsz]
theorem dszs_len : ∀ ds : List PyData, ds.length ≤ dsz.dszs ds
  | [] => Nat.le_refl _
  | d :: ds => by
    have h1 := dsz_pos d
    have h2 := dszs_len ds
    simp only [dsz.dszs, List.length_cons]
    omega
theorem dszs_app : ∀ ds es : List PyData, dsz.dszs (ds ++ es) = dsz.dszs ds + dsz.dszs es
  | [], es => by simp [dsz.dszs]
  | d :: ds, es => by
    have h := dszs_app ds es
    simp only [List.cons_append, dsz.dszs]
    omega
/-- a pair of two things alike -/
def Pr (K : PySem.W.Frag) (H : Hp) (t : Addr) (d : PyData) : Prop := ∃ x y, H t = some (.tup [x, y]) ∧ Fd K H x d ∧ Fd K H y d
theorem Pr.keep {K : PySem.W.Frag} {H H' : Hp} {t : Addr} {d : PyData} (h : Pr K H t d) (s : ∀ xs, H t = some (.tup xs) → H' t = some (.tup xs)) (t' : Tp K H H') : Pr K H' t d := by
  obtain ⟨x, y, e, a, b⟩ := h
  exact ⟨x, y, s _ e, a.keep t', b.keep t'⟩
theorem while_m {c : TT} {tb : TS} {D : Ends} {σ : L2.St} {H : Hp} (W : Nat → L2.St → Hp → Prop) (h0 : ∃ m, W m σ H)
    (hs : ∀ m σ H, W m σ H → c σ H fun b H1 => if b = true then ∃ N : L2.St → Hp → Prop, (∀ σ' H', N σ' H' → ∃ m', m' < m ∧ W m' σ' H') ∧ tb { D with nx := N, ct := N, bk := D.nx } σ H1 else D.nx σ H1) : tWhile c tb D σ H := ⟨W, h0, hs⟩
theorem dpall_get {K : PySem.W.Frag} {H : Hp} : ∀ {vs : List V} {ds : List PyData}, DpAll K H vs ds → ∀ (j : Nat) (v : V), vs[j]? = some v → ∃ d, ds[j]? = some d ∧ Dp K H v d
  | _, _, .nil, j, v, h => by simp at h
  | _, _, .cons a b, 0, v, h => by
    have e := Option.some.inj h
    subst e
    exact ⟨_, rfl, a⟩
  | _, _, .cons a b, j + 1, v, h => dpall_get b j v h
theorem dpall_len {K : PySem.W.Frag} {H : Hp} : ∀ {vs : List V} {ds : List PyData}, DpAll K H vs ds → vs.length = ds.length
  | _, _, .nil => rfl
  | _, _, .cons a b => by rw [List.length_cons, List.length_cons, dpall_len b]
theorem flats_get : ∀ {ds : List PyData}, flat.flats ds = true → ∀ (j : Nat) (d : PyData), ds[j]? = some d → flat d = true
  | [], _, j, d, h => by simp at h
  | e :: ds, f, 0, d, h => by
    rw [flat.flats, Bool.and_eq_true] at f
    have e := Option.some.inj h
    subst e
    exact f.1
  | e :: ds, f, j + 1, d, h => by
    rw [flat.flats, Bool.and_eq_true] at f
    exact flats_get f.2 j d h
section
variable {P : Program} {w : World} {K : PySem.W.Frag} {mg : Str → Option Value} {base : Heap}
end
end Lm

set_option Elab.async false
set_option linter.all false
set_option maxRecDepth 100000
set_option maxHeartbeats 2000000
namespace Lm
open PySem PySem.Spec PyProof.Rows L2 LmR
section
variable {P : Program} {w : World} {K : PySem.W.Frag} {mg : Str → Option Value} {base : Heap}
/-- the flow was drawn from, what else stands at ws may have changed, things were made -/
structure Gr (ws : List Addr) (f : Addr) (H H' : Hp) : Prop where
  ex : Ex (f :: ws) H H'
  fl : Flow H' f
theorem Dr.gr {f : Addr} {H H' : Hp} {ws : List Addr} (d : Dr f H H') : Gr ws f H H' := ⟨d.ex.mono fun b hb => by rw [List.mem_singleton.mp hb]; exact List.mem_cons_self, d.fl⟩
theorem Gr.trans {ws : List Addr} {f : Addr} {H H1 H2 : Hp} (a : Gr ws f H H1) (b : Gr ws f H1 H2) : Gr ws f H H2 := ⟨a.ex.trans b.ex, b.fl⟩
theorem Gr.mono {ws us : List Addr} {f : Addr} {H H' : Hp} (a : Gr ws f H H') (h : ∀ b ∈ ws, b ∈ us) : Gr us f H H' := ⟨a.ex.mono fun b hb => by
  rcases List.mem_cons.mp hb with z | z
  · rw [z]; exact List.mem_cons_self
  · exact List.mem_cons_of_mem _ (h b z), a.fl⟩
theorem Gr.new {ws : List Addr} {f : Addr} {H : Hp} {p : Addr} {o : HO} (fl : Flow H f) (h : H p = none) : Gr ws f H (upd H p o) := by
  refine ⟨Ex.new h, ?_⟩
  obtain ⟨a, b, c, e, r⟩ := fl
  exact ⟨a, b, c, by rw [upd_ne (ne_of_none e h)]; exact e, r⟩
theorem Gr.tp {f : Addr} {H H' : Hp} (a : Gr [] f H H') (h : Flow H f) : Tp K H H' := by
  obtain ⟨xs, e⟩ := h.lst
  refine a.ex.tp fun b hb ys q => ?_
  rw [List.mem_singleton.mp hb] at q
  rcases q with q | ⟨o, q⟩
  · rw [e] at q; cases q
  · rw [e] at q; cases q
def kVs (ks : List Bool) : List V := ks.map fun b => V.str (kS b)
def wKV (ka : Addr) (c i n : Int) : List (Key × V) := [(Sum.inr "kinds", .ref ka), (Sum.inr "cmp", .int c), (Sum.inr "if", .int i), (Sum.inr "any", .int n)]
def Wld (H : Hp) (wd ka : Addr) : Prop := ∃ c i n : Int, H wd = some (.dK (wKV ka c i n))
theorem wv_kinds (ka : Addr) (c i n : Int) : valV (wKV ka c i n) (Sum.inr "kinds") = some (.ref ka) := rfl
theorem wv_cmp (ka : Addr) (c i n : Int) : valV (wKV ka c i n) (Sum.inr "cmp") = some (.int c) := rfl
theorem wv_if (ka : Addr) (c i n : Int) : valV (wKV ka c i n) (Sum.inr "if") = some (.int i) := rfl
theorem wv_any (ka : Addr) (c i n : Int) : valV (wKV ka c i n) (Sum.inr "any") = some (.int n) := rfl
theorem wp_cmp (ka : Addr) (c i n z : Int) : putK (wKV ka c i n) (Sum.inr "cmp") (.int z) = wKV ka z i n := rfl
theorem wp_if (ka : Addr) (c i n z : Int) : putK (wKV ka c i n) (Sum.inr "if") (.int z) = wKV ka c z n := rfl
theorem wp_any (ka : Addr) (c i n z : Int) : putK (wKV ka c i n) (Sum.inr "any") (.int z) = wKV ka c i z := rfl
/-- a dict with the kinds -/
def Kin (H : Hp) (wd ka : Addr) : Prop := ∃ kvs, H wd = some (.dK kvs) ∧ valV kvs (Sum.inr "kinds") = some (.ref ka)
theorem Wld.kin {H : Hp} {wd ka : Addr} (h : Wld H wd ka) : Kin H wd ka := by
  obtain ⟨c, i, n, e⟩ := h
  exact ⟨_, e, rfl⟩
/-- its numbers are from -1000 to 1000 -/
def Nb : Pg → Prop
  | .inp _ => True
  | .num c => -1000 ≤ c ∧ c ≤ 1000
  | .tr _ => True
  | .plus c a => (-1000 ≤ c ∧ c ≤ 1000) ∧ Nb a
  | .bin _ a b => Nb a ∧ Nb b
  | .neg a => Nb a
  | .ite p a b => Nb p ∧ Nb a ∧ Nb b
def Wn (ks : List Bool) (p : Pg) : Prop := Wk ks p ∧ Nb p
end
end Lm

set_option Elab.async false
set_option linter.all false
set_option maxRecDepth 100000
set_option maxHeartbeats 2000000
namespace Lm
open PySem PySem.Spec PyProof.Rows L2 LmR
/-- a loop over enumerate(list) -/
theorem for_enum {K : PySem.W.Frag} {a : Addr} {xs : List V} {g : TG} {tb : TS} {D : Ends} {σ : L2.St} {H : Hp} (Pv : Nat → L2.St → Hp → Prop) (h0 : Pv 0 σ H) (hq : ∀ i σ H, Pv i σ H → SqL K H a xs)
    (hs : ∀ (i : Nat) (x : V) (T : Addr) (σ : L2.St) (H : Hp), xs[i]? = some x → Pv i σ H → H T = none → g (.ref T) σ (upd H T (.tup [.int (i : Nat), x])) fun σ2 H2 => tb { D with nx := Pv (i + 1), ct := Pv (i + 1), bk := D.nx } σ2 H2) (hd : ∀ σ H, Pv xs.length σ H → D.nx σ H) :
    ∃ W : Nat → Nat → L2.St → Hp → Prop, (∃ m, W 0 m σ H) ∧ ∀ i m σ H, W i m σ H →
      ((Ite K a).stop i H ∧ D.nx σ H) ∨ ((Ite K a).go i H ∧ ∃ N : L2.St → Hp → Prop, (∀ σ' H', N σ' H' → ∃ m', m' < m ∧ W (i + 1) m' σ' H') ∧ ∀ v H', (Ite K a).yld i H v H' → g v σ H' fun σ2 H2 => tb { D with nx := N, ct := N, bk := D.nx } σ2 H2) := by
  refine ⟨fun i m σ H => m = xs.length - i ∧ i ≤ xs.length ∧ Pv i σ H, ⟨xs.length, rfl, Nat.zero_le _, h0⟩, ?_⟩
  rintro i m σ H ⟨rfl, hi, p⟩
  have qx := hq i σ H p
  by_cases hlt : i < xs.length
  · have hx : xs[i]? = some xs[i] := List.getElem?_eq_getElem hlt
    refine .inr ⟨⟨xs, _, qx, hx⟩, Pv (i + 1), fun σ' H' p' => ⟨xs.length - (i + 1), by omega, rfl, hlt, p'⟩, fun v H' y => ?_⟩
    obtain ⟨T, x', rfl, hT, rfl, f1⟩ := y
    exact hs i x' T σ H (f1 xs qx) p hT
  · have e : i = xs.length := by omega
    subst e
    exact .inl ⟨⟨xs, qx, Nat.le_refl _⟩, hd σ H p⟩
/-! ### the words that a program may be made with -/
inductive Ch where
  | plus
  | bin (w : Bw)
  | neg
  | ite
def Ch.str : Ch → Str
  | .plus => "plus"
  | .bin w => w.str
  | .neg => "not"
  | .ite => "if"
def Ch.fits (k : Bool) : Ch → Prop
  | .plus => k = false
  | .bin w => w.own = k
  | .neg => k = true
  | .ite => True
def Ch.ps (k : Bool) : Ch → List Bool
  | .plus => [false]
  | .bin w => [w.arg, w.arg]
  | .neg => [true]
  | .ite => [true, k, k]
def Ch.front (num : Int) : Ch → List V
  | .plus => [.str "plus", .int num]
  | .bin w => [.str w.str]
  | .neg => [.str "not"]
  | .ite => [.str "if"]
def Ch.sort : Ch → Str
  | .bin .least => "cmp"
  | .bin .most => "cmp"
  | .bin .atmost => "cmp"
  | .ite => "if"
  | _ => "any"
theorem map1 {α β : Type} {f : α → β} {l : List α} {x : β} (h : l.map f = [x]) : ∃ a, l = [a] ∧ f a = x := by
  match l, h with
  | [a], h => exact ⟨a, rfl, by simpa using h⟩
  | [], h => simp at h
  | a :: b :: r, h => simp at h
theorem map2 {α β : Type} {f : α → β} {l : List α} {x y : β} (h : l.map f = [x, y]) : ∃ a b, l = [a, b] ∧ f a = x ∧ f b = y := by
  match l, h with
  | [a, b], h => exact ⟨a, b, rfl, by simpa using h⟩
  | [], h => simp at h
  | [a], h => simp at h
  | a :: b :: c :: r, h => simp at h
theorem map3 {α β : Type} {f : α → β} {l : List α} {x y z : β} (h : l.map f = [x, y, z]) : ∃ a b c, l = [a, b, c] ∧ f a = x ∧ f b = y ∧ f c = z := by
  match l, h with
  | [a, b, c], h => exact ⟨a, b, c, rfl, by simpa using h⟩
  | [], h => simp at h
  | [a], h => simp at h
  | [a, b], h => simp at h
  | a :: b :: c :: d :: r, h => simp at h
/-- what is made of parts of the kinds due -/
theorem Ch.make {K : PySem.W.Frag} {H : Hp} {ks : List Bool} {k : Bool} {num : Int} (c : Ch) (hf : c.fits k) {t : Addr} {vs : List V} {ps : List Pg} (ha : Ats K H vs ps) (hw : ∀ p ∈ ps, Wn ks p) (hn : -1000 ≤ num ∧ num ≤ 1000) (hk : ps.map (own ks) = c.ps k)
    (ht : H t = some (.tup (c.front num ++ vs))) :
    ∃ p, At K H (.ref t) p ∧ Wn ks p ∧ own ks p = k ∧ psz p = 1 + (ps.map psz).sum := by
  cases c with
  | plus =>
    obtain ⟨a, rfl, e⟩ := map1 hk
    obtain ⟨v, rfl, h⟩ := ha.one
    exact ⟨.plus num a, .tup (.inl (.inl ht)) (.cons (.str _) (.cons (.int _) (.cons h .nil))), ⟨⟨(hw a (by simp)).1, e⟩, hn, (hw a (by simp)).2⟩, hf.symm, by simp [psz]; omega⟩
  | bin w =>
    obtain ⟨a, b, rfl, e1, e2⟩ := map2 hk
    obtain ⟨u, v, rfl, h1, h2⟩ := ha.two
    exact ⟨.bin w a b, .tup (.inl (.inl ht)) (.cons (.str _) (.cons h1 (.cons h2 .nil))), ⟨⟨(hw a (by simp)).1, (hw b (by simp)).1, e1, e2⟩, (hw a (by simp)).2, (hw b (by simp)).2⟩, hf, by simp [psz]; omega⟩
  | neg =>
    obtain ⟨a, rfl, e⟩ := map1 hk
    obtain ⟨v, rfl, h⟩ := ha.one
    exact ⟨.neg a, .tup (.inl (.inl ht)) (.cons (.str _) (.cons h .nil)), ⟨⟨(hw a (by simp)).1, e⟩, (hw a (by simp)).2⟩, hf.symm, by simp [psz]; omega⟩
  | ite =>
    obtain ⟨p, a, b, rfl, e1, e2, e3⟩ := map3 hk
    obtain ⟨u, v, z, rfl, h1, h2, h3⟩ := ha.three
    exact ⟨.ite p a b, .tup (.inl (.inl ht)) (.cons (.str _) (.cons h1 (.cons h2 (.cons h3 .nil)))), ⟨⟨(hw p (by simp)).1, (hw a (by simp)).1, (hw b (by simp)).1, e1, by rw [e2, e3]⟩, (hw p (by simp)).2, (hw a (by simp)).2, (hw b (by simp)).2⟩, e2, by simp [psz]; omega⟩
theorem Gr.put {ws : List Addr} {f : Addr} {H H' : Hp} {p : Addr} {o : HO} (g : Gr ws f H H') (h : H p = none) (n : p ≠ f) : Gr ws f H (upd H' p o) := by
  refine ⟨fun b u hb nb => ?_, ?_⟩
  · rw [upd_ne (ne_of_none hb h)]
    exact g.ex b u hb nb
  · obtain ⟨x, y, z, e, r⟩ := g.fl
    exact ⟨x, y, z, by rw [upd_ne n.symm]; exact e, r⟩
section
variable {P : Program} {w : World} {K : PySem.W.Frag} {mg : Str → Option Value} {base : Heap}
end
end Lm

set_option Elab.async false
set_option linter.all false
set_option maxRecDepth 100000
set_option maxHeartbeats 2000000
namespace Lm
open PySem PySem.Spec PyProof.Rows L2 LmR
section
variable {P : Program} {w : World} {K : PySem.W.Frag} {mg : Str → Option Value} {base : Heap}
end
end Lm

set_option Elab.async false
set_option linter.all false
set_option maxRecDepth 100000
set_option maxHeartbeats 2000000
namespace Lm
open PySem PySem.Spec PyProof.Rows L2 LmR
theorem pe_gr {X : Cx} {x : Str} {a : Addr} {pos : Pos} (hg : Gl X x) (hm : X.mg x = some (.ref a)) (hd : (x == ("__debug__" : Str)) = false := by decide) : PE X (.Name x pos) (tC (.ref a)) := pe_glob (v := .ref a) hg hm rfl hd
/-! ### the table of forms -/
def nn : Pg → Nat
  | .inp _ => 1
  | .num _ => 1
  | .tr _ => 0
  | .plus _ _ => 1
  | .bin _ _ _ => 0
  | .neg _ => 0
  | .ite _ _ _ => 0
def due : Pg → List V
  | .inp _ => []
  | .num _ => []
  | .tr _ => []
  | .plus _ _ => [.str (kS false)]
  | .bin w _ _ => [.str (kS w.arg), .str (kS w.arg)]
  | .neg _ => [.str (kS true)]
  | .ite _ _ _ => [.str (kS true), .non, .non]
def ownV : Pg → V
  | .inp _ => .non
  | .num _ => .str (kS false)
  | .tr _ => .str (kS true)
  | .plus _ _ => .str (kS false)
  | .bin w _ _ => .str (kS w.own)
  | .neg _ => .str (kS true)
  | .ite _ _ _ => .non
/-- a tuple of the written part -/
def KTup (K : PySem.W.Frag) (a : Addr) (xs : List V) : Prop := ∃ (o : Obj) (its : Array Value) (n : Nat), K.lookup a = some o ∧ o.cls = .type "tuple" ∧ o.data = .seq its n ∧ its.size ≤ sizeLine ∧ Vals xs its.toList
theorem KTup.sq {K : PySem.W.Frag} {a : Addr} {xs : List V} (h : KTup K a xs) (H : Hp) : SqT K H a xs := .inr h
/-- FORMS stands at d -/
structure Forms (K : PySem.W.Frag) (w : World) (mg : Str → Option Value) (d : Addr) : Prop where
  g : mg "FORMS" = some (.ref d)
  k : ∃ es n, KDict K w d es n
  e : ∀ p : Pg, ∃ t u : Addr, PySem.W.nsIn K d (word p) = some (some (.ref t)) ∧ KTup K t [.int (nn p), .ref u, ownV p] ∧ KTup K u (due p)
theorem Forms.at {K : PySem.W.Frag} {w : World} {mg : Str → Option Value} {d : Addr} (F : Forms K w mg d) (p : Pg) : ∃ t u : Addr, KDct K w d (word p) (.ref t) ∧ KTup K t [.int (nn p), .ref u, ownV p] ∧ KTup K u (due p) := by
  obtain ⟨t, u, e, a, b⟩ := F.e p
  obtain ⟨es, n, D⟩ := F.k
  exact ⟨t, u, ⟨es, n, .ref t, D.at_, D.lit, e, rfl⟩, a, b⟩
theorem due_len (p : Pg) : (due p).length = (parts p).length := by cases p <;> rfl
theorem front_len (p : Pg) : (front p).length = 1 + nn p := by cases p <;> rfl
theorem at_word (p : Pg) (vs : List V) : atI (front p ++ vs) 0 = some (.str (word p)) := at_of (j := 0) rfl (by cases p <;> rfl)
theorem at_num (p : Pg) (vs : List V) (h : nn p ≠ 0) : ∃ i, atI (front p ++ vs) 1 = some (.int i) := by
  cases p <;> first | exact absurd rfl h | exact ⟨_, at_of (j := 1) rfl rfl⟩
theorem kTT {K : PySem.W.Frag} : PySem.W.kitOne K (.type "tuple") (.type "tuple") = some true := kit_ty (by decide +kernel)
theorem kSS {K : PySem.W.Frag} : PySem.W.kitOne K (.type "str") (.type "str") = some true := kit_ty (by decide +kernel)
section
variable {P : Program} {w : World} {K : PySem.W.Frag} {mg : Str → Option Value} {base : Heap}
abbrev s_is_whole : Stmt := topS 4
theorem sc_is_whole : FnScope ["thing"] ["thing"] (defScope s_is_whole) := ⟨rfl, rfl, rfl, by decide +kernel, rfl, by decide +kernel, by decide +kernel⟩
def spWhole (K : PySem.W.Frag) : Sp := fun vs H Q _ => ∃ (v : V) (d : PyData), vs = [v] ∧ Fd K H v d ∧ Q (.bl (isInt d && !isBl d)) H
theorem ok_is_whole (B : Bt mg) (D : DefAt K mg "is_whole" s_is_whole ["thing"]) : Cal P w K mg base 1 "is_whole" ["thing"] (spWhole K) := by
  refine cal_of D sc_is_whole (fun vs H Q E h => ?_) (fun f cdv A outer s H vs Q E hr h => ?_)
  · obtain ⟨v, d, rfl, _⟩ := h
    rfl
  obtain ⟨v, d, rfl, hv, q⟩ := h
  refine ⟨_, (pss_one (ps_ret (pe_and (pe_callB call_isi (by rfl) B.isinstance (by decide +kernel) (pa_cons (pv 0) (pa_cons (pe_bltn (v := .ty "int") (by rfl) B.int PyProof.Rows.boot_int rfl) pa_nil))) (pe_one (pe_not (pe_callB call_isi (by rfl) B.isinstance (by decide +kernel) (pa_cons (pv 0) (pa_cons (pe_bltn (v := .ty "bool") (by rfl) B.bool PyProof.Rows.boot_bool rfl) pa_nil)))))))), ?_⟩
  refine ⟨_, rfl, v, _, _, _, _, rfl, .ty _, hv.ty, kit_int d hv.1, _, rfl, ite2 (fun c => ?_) (fun c => ?_)⟩
  · rw [c] at q
    exact ⟨_, rfl, v, _, _, _, _, rfl, .ty _, hv.ty, kit_bl d hv.1, _, rfl, q⟩
  · rw [Bool.eq_false_iff.mpr c] at q
    exact q
abbrev s_many_numbers : Stmt := topS 6
theorem sc_many_numbers : FnScope ["word"] ["word"] (defScope s_many_numbers) := ⟨rfl, rfl, rfl, by decide +kernel, rfl, by decide +kernel, by decide +kernel⟩
def spMN : Sp := fun vs H Q _ => ∃ p : Pg, vs = [.str (word p)] ∧ Q (.int (nn p)) H
theorem ok_many_numbers {d : Addr} (F : Forms K w mg d) (D : DefAt K mg "many_numbers" s_many_numbers ["word"]) : Cal P w K mg base 1 "many_numbers" ["word"] (spMN) := by
  refine cal_of D sc_many_numbers (fun vs H Q E h => ?_) (fun f cdv A outer s H vs Q E hr h => ?_)
  · obtain ⟨p, rfl, _⟩ := h
    rfl
  obtain ⟨p, rfl, q⟩ := h
  have hFORMS := F.g
  refine ⟨_, (pss_one (ps_ret (pe_ix ix_tup (pe_ix ix_kdict (pe_gr (by rfl) hFORMS) (pv 0) (fun _ _ => rfl)) pe_int (fun _ _ => rfl)))), ?_⟩
  obtain ⟨t, u, e, a, b⟩ := F.at p
  exact ⟨_, rfl, d, word p, .ref t, rfl, rfl, e, t, _, 0, .int (nn p), rfl, rfl, a.sq _, rfl, q⟩
abbrev s_many_parts : Stmt := topS 7
theorem sc_many_parts : FnScope ["word"] ["word"] (defScope s_many_parts) := ⟨rfl, rfl, rfl, by decide +kernel, rfl, by decide +kernel, by decide +kernel⟩
def spMP : Sp := fun vs H Q _ => ∃ p : Pg, vs = [.str (word p)] ∧ Q (.int ((parts p).length : Nat)) H
theorem ok_many_parts {d : Addr} (B : Bt mg) (F : Forms K w mg d) (D : DefAt K mg "many_parts" s_many_parts ["word"]) : Cal P w K mg base 1 "many_parts" ["word"] (spMP) := by
  refine cal_of D sc_many_parts (fun vs H Q E h => ?_) (fun f cdv A outer s H vs Q E hr h => ?_)
  · obtain ⟨p, rfl, _⟩ := h
    rfl
  obtain ⟨p, rfl, q⟩ := h
  have hFORMS := F.g
  refine ⟨_, (pss_one (ps_ret (pe_callB call_len_seq (by rfl) B.len PySem.boot_len (pa_cons (pe_ix ix_tup (pe_ix ix_kdict (pe_gr (by rfl) hFORMS) (pv 0) (fun _ _ => rfl)) pe_int (fun _ _ => rfl)) pa_nil)))), ?_⟩
  obtain ⟨t, u, e, a, b⟩ := F.at p
  rw [← due_len] at q
  exact ⟨_, rfl, d, word p, .ref t, rfl, rfl, e, t, _, 1, .ref u, rfl, rfl, a.sq _, rfl, u, _, rfl, .inr (b.sq _), q⟩
abbrev s_has_form : Stmt := topS 5
theorem sc_has_form : FnScope ["thing", "word"] ["thing"] (defScope s_has_form) := ⟨rfl, rfl, rfl, by decide +kernel, rfl, by decide +kernel, by decide +kernel⟩
def spHF (K : PySem.W.Frag) : Sp := fun vs H Q _ => ∃ (v : V) (p : Pg), vs = [v] ∧ At K H v p ∧ Q (.bl true) H
theorem ok_has_form {d : Addr} (B : Bt mg) (F : Forms K w mg d) (C_is_whole : Cal P w K mg base 1 "is_whole" ["thing"] (spWhole K)) (C_many_numbers : Cal P w K mg base 1 "many_numbers" ["word"] (spMN)) (C_many_parts : Cal P w K mg base 1 "many_parts" ["word"] (spMP)) (D : DefAt K mg "has_form" s_has_form ["thing"]) : Cal P w K mg base 2 "has_form" ["thing"] (spHF K) := by
  refine cal_of D sc_has_form (fun vs H Q E h => ?_) (fun f cdv A outer s H vs Q E hr h => ?_)
  · obtain ⟨v, p, rfl, _⟩ := h
    rfl
  obtain ⟨v, p, rfl, hv, q⟩ := h
  have hFORMS := F.g
  obtain ⟨es, n, kd⟩ := F.k
  have hr' : Room 1 _ := hr
  refine ⟨_, (pss_cons (ps_if (PW.pt (pw_or (pt_not (pt_val (pe_callB call_isi (by rfl) B.isinstance (by decide +kernel) (pa_cons (pv 0) (pa_cons (pe_bltn (v := .ty "tuple") (by rfl) B.tuple PyProof.Rows.boot_tuple rfl) pa_nil))))) (pw_or (pt_cmpR op_eq (pe_callB call_len_seq (by rfl) B.len PySem.boot_len (pa_cons (pv 0) pa_nil)) pe_int (nomark _)) (pw_or1 (pt_not (pt_val (pe_callB call_isi (by rfl) B.isinstance (by decide +kernel) (pa_cons (pe_ix ix_tup (pv 0) pe_int (fun _ _ => rfl)) (pa_cons (pe_bltn (v := .ty "str") (by rfl) B.str PyProof.Rows.boot_str rfl) pa_nil)))))))))
        (pss_one (ps_ret pe_bl))
        pss_nil)
      (pss_cons (ps_set (i := 1) sc_has_form.nd rfl (.inl rfl) (pe_ix ix_tup (pv 0) pe_int (fun _ _ => rfl)))
      (pss_cons (ps_if (PW.pt (pw_or (pt_cmpR (op_notIn_kd kd) (pv 1) (pe_gr (by rfl) hFORMS) rfl) (pw_or1 (pt_cmpR op_ne (pe_callB call_len_seq (by rfl) B.len PySem.boot_len (pa_cons (pv 0) pa_nil)) (pe_op op_add (pe_op op_add pe_int (pe_cal C_many_numbers hr' (by rfl) (pa_cons (pv 1) pa_nil))) (pe_cal C_many_parts hr' (by rfl) (pa_cons (pv 1) pa_nil))) (nomark _)))))
        (pss_one (ps_ret pe_bl))
        pss_nil)
      (pss_one (ps_ret (pe_or (pe_cmpR op_eq (pe_cal C_many_numbers hr' (by rfl) (pa_cons (pv 1) pa_nil)) pe_int (nomark _)) (pe_one (pe_cal C_is_whole hr' (by rfl) (pa_cons (pe_ix ix_tup (pv 0) pe_int (fun _ _ => rfl)) pa_nil))))))))), ?_⟩
  obtain ⟨a, vs, rfl, ha, hvs⟩ := hv.open
  obtain ⟨t, u, e, _, _⟩ := F.e p
  have hl : (front p ++ vs).length = 1 + nn p + (parts p).length := by rw [List.length_append, front_len, hvs.len]
  refine ⟨_, rfl, _, _, _, _, _, rfl, .ty _, tyx_tup ha, kTT, _, rfl, ?_⟩
  refine ⟨_, rfl, a, _, rfl, .inr ha, rfl, _, rfl, ite2 (fun z => ?_) (fun _ => ?_)⟩
  · have z' : V.int (((front p ++ vs).length : Nat) : Int) = V.int 0 := of_decide_eq_true z
    have z2 := V.int.inj z'
    omega
  refine ⟨_, rfl, a, _, 0, _, rfl, rfl, ha, at_word p vs, _, _, _, _, _, rfl, .ty _, .base (.str _), kSS, _, rfl, ?_⟩
  refine ⟨_, rfl, a, _, 0, _, rfl, rfl, ha, at_word p vs, ?_⟩
  refine ⟨_, rfl, word p, _, rfl, rfl, e, _, rfl, ?_⟩
  refine ⟨_, rfl, a, _, rfl, .inr ha, _, rfl, p, rfl, _, _, rfl, rfl, _, rfl, p, rfl, _, _, rfl, rfl, rfl, _, rfl, iteNS ?_ ?_⟩
  · rw [hl]
    exact congrArg V.int (by omega)
  refine ⟨_, rfl, p, rfl, rfl, _, rfl, ite2 (fun _ => q) (fun z => ?_)⟩
  have hn : nn p ≠ 0 := fun y => z (decide_eq_true (by rw [y]; rfl))
  obtain ⟨i, ei⟩ := at_num p vs hn
  exact ⟨_, rfl, a, _, 1, _, rfl, rfl, ha, ei, .int i, .int i, rfl, ⟨rfl, .int i⟩, q⟩
theorem cut_from (n : Nat) (xs ys : List V) (h : xs.length = n) : cutV (xs ++ ys) (some (n : Int)) none = ys := by
  unfold cutV
  rw [show HT.sIx (xs ++ ys).length 0 (some (n : Int)) = min n (xs ++ ys).length from HT.sIx_nat _ 0 n, HT.sIx_none]
  have e : min n (xs ++ ys).length = n := by rw [List.length_append]; omega
  rw [e, ← h, List.drop_left, List.length_append, Nat.add_sub_cancel_left, List.take_length]
abbrev s_parts_of : Stmt := topS 9
theorem sc_parts_of : FnScope ["knot"] ["knot"] (defScope s_parts_of) := ⟨rfl, rfl, rfl, by decide +kernel, rfl, by decide +kernel, by decide +kernel⟩
def spPO (K : PySem.W.Frag) : Sp := fun vs H Q _ => ∃ (v : V) (p : Pg), vs = [v] ∧ At K H v p ∧ ∀ (t : Addr) (us : List V), H t = none → Ats K H us (parts p) → Q (.ref t) (upd H t (.tup us))
theorem ok_parts_of (C_many_numbers : Cal P w K mg base 1 "many_numbers" ["word"] (spMN)) (D : DefAt K mg "parts_of" s_parts_of ["knot"]) : Cal P w K mg base 2 "parts_of" ["knot"] (spPO K) := by
  refine cal_of D sc_parts_of (fun vs H Q E h => ?_) (fun f cdv A outer s H vs Q E hr h => ?_)
  · obtain ⟨v, p, rfl, _⟩ := h
    rfl
  obtain ⟨v, p, rfl, hv, q⟩ := h
  have hr' : Room 1 _ := hr
  refine ⟨_, (pss_one (ps_ret (pe_slice sl_tup (pv 0) (po_some (pe_op op_add pe_int (pe_cal C_many_numbers hr' (by rfl) (pa_cons (pe_ix ix_tup (pv 0) pe_int (fun _ _ => rfl)) pa_nil)))) po_none))), ?_⟩
  obtain ⟨a, vs, rfl, ha, hvs⟩ := hv.open
  have e1 : (1 : Int) + (nn p : Int) = ((1 + nn p : Nat) : Int) := by omega
  refine ⟨_, rfl, _, rfl, a, _, 0, _, rfl, rfl, ha, at_word p vs, p, rfl, _, _, rfl, rfl, _, rfl, a, _, rfl, ha, ?_, fun t ht => ?_⟩
  · rintro ⟨z, _⟩
    rw [e1, show HT.sIx (front p ++ vs).length 0 (some ((1 + nn p : Nat) : Int)) = min (1 + nn p) (front p ++ vs).length from HT.sIx_nat _ 0 _, List.length_append, front_len] at z
    omega
  · rw [e1, cut_from _ _ _ (front_len p)]
    exact q t vs ht hvs
abbrev s_taken : Stmt := topS 10
theorem sc_taken : FnScope ["pile", "many", "turn"] ["pile", "many"] (defScope s_taken) := ⟨rfl, rfl, rfl, by decide +kernel, rfl, by decide +kernel, by decide +kernel⟩
def spTaken : Sp := fun vs H Q _ => ∃ (l : Addr) (xs ys : List V), vs = [.ref l, .int (ys.length : Nat)] ∧ H l = some (.lst (xs ++ ys.reverse)) ∧ ys.length ≤ 1000 ∧ ∀ (t : Addr) (H' : Hp), Ex [l] H H' → H' l = some (.lst xs) → H' t = some (.tup ys) → Q (.ref t) H'
theorem ok_taken (B : Bt mg) (D : DefAt K mg "taken" s_taken ["pile", "many"]) : Cal P w K mg base 1 "taken" ["pile", "many"] (spTaken) := by
  refine cal_of D sc_taken (fun vs H Q E h => ?_) (fun f cdv A outer s H vs Q E hr h => ?_)
  · obtain ⟨l, xs, ys, rfl, _⟩ := h
    rfl
  obtain ⟨l, xs, ys, rfl, hL, hlen, q⟩ := h
  refine ⟨_, (pss_one (ps_ret (pe_callTy call_tuple_of (by rfl) B.tuple PyProof.Rows.boot_tuple (pa_cons (pe_lc (own := [("turn", 2)]) (g := gName 2) rfl sc_taken.nd (pi_range1 (by rfl) B.range (pa_cons (pv 1) pa_nil)) (blkOk_by (own := [("turn", 2)]) (N := ["pile", "many", "turn"]) (sc := defScope s_taken) (by decide +kernel)) (fun _ _ _ _ _ => (pg_name (i := 2) sc_taken.nd rfl (.inl rfl))) (fun _ _ _ _ _ => pts_nil) (fun _ _ _ _ _ => (pe_bm0K (K := K) rfl PySem.F.plainAttrs_list PySem.F.slot_list_pop PySem.F.type_list_pop mt_pop (pv 0)))) pa_nil)))), ?_⟩
  refine ⟨_, rfl, _, rfl, by omega, by omega, fun D hD => lc_range (lo := 0) (n := ((ys.length : Nat) : Int).toNat) (fun i H' => Ex [l] H H' ∧ H' l = some (.lst (xs ++ (ys.drop i).reverse)) ∧ H' D = some (.lst (ys.take i))) ?_ ?_ ?_⟩
  · have n1 : l ≠ D := ne_of_none hL hD
    exact ⟨Ex.new hD, by rw [upd_ne n1, List.drop_zero]; exact hL, upd_same⟩
  · rintro i H' hi ⟨ex, h1, h2⟩
    have n1 : l ≠ D := ne_of_none hL hD
    have hi' : i < ys.length := by omega
    have ed : ys.drop i = ys[i] :: ys.drop (i + 1) := List.drop_eq_getElem_cons hi'
    rw [ed, List.reverse_cons, ← List.append_assoc] at h1
    refine ⟨rfl, _, rfl, .inl ⟨rfl, _, SqL.of h1⟩, l, _, ys[i], rfl, rfl, h1, ?_, ?_⟩
    · rw [List.length_append, List.length_singleton, Nat.add_sub_cancel, List.getElem?_append_right (Nat.le_refl _), Nat.sub_self]
      rfl
    rw [List.dropLast_concat]
    refine ⟨ys.take i, by rw [upd_ne n1.symm]; exact h2, by rw [List.length_take]; exact smallL (by omega), ?_, ?_, ?_⟩
    · intro b o hb nb
      have nbl : b ≠ l := fun z => nb (by rw [z]; simp)
      rw [upd_ne (ne_of_none hb hD), upd_ne nbl]
      exact ex b o hb nb
    · rw [upd_ne n1, upd_same]
    · rw [upd_same, List.take_add_one, List.getElem?_eq_getElem hi']
      rfl
  · rintro H' ⟨ex, h1, h2⟩
    have n1 : l ≠ D := ne_of_none hL hD
    have et : ((ys.length : Nat) : Int).toNat = ys.length := Int.toNat_natCast _
    rw [et, List.drop_length, List.reverse_nil, List.append_nil] at h1
    rw [et, List.take_length] at h2
    refine ⟨D, _, rfl, .inl ⟨SqL.of h2, fun t ht => q t _ (ex.trans (Ex.new ht)) ?_ upd_same⟩⟩
    rw [upd_ne (ne_of_none h1 ht)]
    exact h1
end
end Lm

set_option Elab.async false
set_option linter.all false
set_option maxRecDepth 100000
set_option maxHeartbeats 2000000
namespace Lm
open PySem PySem.Spec PyProof.Rows L2 LmR
/-! ### forests -/
def knf (fs : List Pg) : List Pg := fs.flatMap kn
theorem knf_cons (q : Pg) (fs : List Pg) : knf (q :: fs) = q :: knf (parts q ++ fs) := by
  unfold knf
  rw [List.flatMap_cons, kn_eq, List.flatMap_append, List.cons_append]
theorem knf_one (p : Pg) : knf [p] = kn p := by simp [knf]
theorem knf_drop : ∀ (j : Nat) (fs : List Pg), ∃ gs, (knf fs).drop j = knf gs
  | 0, fs => ⟨fs, rfl⟩
  | j + 1, [] => ⟨[], by simp [knf]⟩
  | j + 1, q :: fs => by
    rw [knf_cons, List.drop_succ_cons]
    exact knf_drop j _
theorem knf_inj : ∀ (n : Nat) (fs gs : List Pg), (knf fs).length ≤ n → knf fs = knf gs → fs = gs
  | n, [], [], _, _ => rfl
  | n, [], q :: gs, _, h => by rw [knf_cons] at h; simp [knf] at h
  | n, q :: fs, [], _, h => by rw [knf_cons] at h; simp [knf] at h
  | 0, q :: fs, r :: gs, l, _ => by rw [knf_cons] at l; simp at l
  | n + 1, q :: fs, r :: gs, l, h => by
    rw [knf_cons, knf_cons] at h
    rw [knf_cons, List.length_cons] at l
    obtain ⟨rfl, h⟩ := List.cons.inj h
    have e := knf_inj n _ _ (by omega) h
    rw [List.append_cancel_left e]
/-- one knot more from the end -/
theorem knf_step {p : Pg} {j : Nat} {x : Pg} {fs : List Pg} (hx : (kn p)[j]? = some x) (hf : (kn p).drop (j + 1) = knf fs) : ∃ rest, fs = parts x ++ rest ∧ (kn p).drop j = knf (x :: rest) := by
  obtain ⟨gs, hg⟩ := knf_drop j [p]
  rw [knf_one] at hg
  obtain ⟨hj, ex⟩ := List.getElem?_eq_some_iff.mp hx
  have e : (kn p).drop j = x :: (kn p).drop (j + 1) := by rw [List.drop_eq_getElem_cons hj, ex]
  rw [e, hf] at hg
  cases gs with
  | nil => simp [knf] at hg
  | cons q rest =>
    rw [knf_cons] at hg
    obtain ⟨rfl, h⟩ := List.cons.inj hg
    refine ⟨rest, knf_inj _ _ _ (Nat.le_refl _) h, ?_⟩
    rw [e, hf, knf_cons, h]
/-! ### which word it is -/
theorem word_in {p : Pg} (h : V.str (word p) = V.str "in") : ∃ k, p = .inp k := by
  cases p with
  | inp k => exact ⟨k, rfl⟩
  | tr b => cases b <;> first | exact absurd h (show ¬ V.str ("num" : Str) = V.str "in" by decide +kernel) | exact absurd h (show ¬ V.str ("yes" : Str) = V.str "in" by decide +kernel) | exact absurd h (show ¬ V.str ("no" : Str) = V.str "in" by decide +kernel) | exact absurd h (show ¬ V.str ("plus" : Str) = V.str "in" by decide +kernel) | exact absurd h (show ¬ V.str ("least" : Str) = V.str "in" by decide +kernel) | exact absurd h (show ¬ V.str ("most" : Str) = V.str "in" by decide +kernel) | exact absurd h (show ¬ V.str ("atmost" : Str) = V.str "in" by decide +kernel) | exact absurd h (show ¬ V.str ("both" : Str) = V.str "in" by decide +kernel) | exact absurd h (show ¬ V.str ("either" : Str) = V.str "in" by decide +kernel) | exact absurd h (show ¬ V.str ("not" : Str) = V.str "in" by decide +kernel) | exact absurd h (show ¬ V.str ("if" : Str) = V.str "in" by decide +kernel)
  | bin w a b => cases w <;> first | exact absurd h (show ¬ V.str ("num" : Str) = V.str "in" by decide +kernel) | exact absurd h (show ¬ V.str ("yes" : Str) = V.str "in" by decide +kernel) | exact absurd h (show ¬ V.str ("no" : Str) = V.str "in" by decide +kernel) | exact absurd h (show ¬ V.str ("plus" : Str) = V.str "in" by decide +kernel) | exact absurd h (show ¬ V.str ("least" : Str) = V.str "in" by decide +kernel) | exact absurd h (show ¬ V.str ("most" : Str) = V.str "in" by decide +kernel) | exact absurd h (show ¬ V.str ("atmost" : Str) = V.str "in" by decide +kernel) | exact absurd h (show ¬ V.str ("both" : Str) = V.str "in" by decide +kernel) | exact absurd h (show ¬ V.str ("either" : Str) = V.str "in" by decide +kernel) | exact absurd h (show ¬ V.str ("not" : Str) = V.str "in" by decide +kernel) | exact absurd h (show ¬ V.str ("if" : Str) = V.str "in" by decide +kernel)
  | _ => first | exact absurd h (show ¬ V.str ("num" : Str) = V.str "in" by decide +kernel) | exact absurd h (show ¬ V.str ("yes" : Str) = V.str "in" by decide +kernel) | exact absurd h (show ¬ V.str ("no" : Str) = V.str "in" by decide +kernel) | exact absurd h (show ¬ V.str ("plus" : Str) = V.str "in" by decide +kernel) | exact absurd h (show ¬ V.str ("least" : Str) = V.str "in" by decide +kernel) | exact absurd h (show ¬ V.str ("most" : Str) = V.str "in" by decide +kernel) | exact absurd h (show ¬ V.str ("atmost" : Str) = V.str "in" by decide +kernel) | exact absurd h (show ¬ V.str ("both" : Str) = V.str "in" by decide +kernel) | exact absurd h (show ¬ V.str ("either" : Str) = V.str "in" by decide +kernel) | exact absurd h (show ¬ V.str ("not" : Str) = V.str "in" by decide +kernel) | exact absurd h (show ¬ V.str ("if" : Str) = V.str "in" by decide +kernel)
theorem word_if {p : Pg} (h : V.str (word p) = V.str "if") : ∃ q a b, p = .ite q a b := by
  cases p with
  | ite q a b => exact ⟨q, a, b, rfl⟩
  | tr b => cases b <;> first | exact absurd h (show ¬ V.str ("in" : Str) = V.str "if" by decide +kernel) | exact absurd h (show ¬ V.str ("num" : Str) = V.str "if" by decide +kernel) | exact absurd h (show ¬ V.str ("yes" : Str) = V.str "if" by decide +kernel) | exact absurd h (show ¬ V.str ("no" : Str) = V.str "if" by decide +kernel) | exact absurd h (show ¬ V.str ("plus" : Str) = V.str "if" by decide +kernel) | exact absurd h (show ¬ V.str ("least" : Str) = V.str "if" by decide +kernel) | exact absurd h (show ¬ V.str ("most" : Str) = V.str "if" by decide +kernel) | exact absurd h (show ¬ V.str ("atmost" : Str) = V.str "if" by decide +kernel) | exact absurd h (show ¬ V.str ("both" : Str) = V.str "if" by decide +kernel) | exact absurd h (show ¬ V.str ("either" : Str) = V.str "if" by decide +kernel) | exact absurd h (show ¬ V.str ("not" : Str) = V.str "if" by decide +kernel)
  | bin w a b => cases w <;> first | exact absurd h (show ¬ V.str ("in" : Str) = V.str "if" by decide +kernel) | exact absurd h (show ¬ V.str ("num" : Str) = V.str "if" by decide +kernel) | exact absurd h (show ¬ V.str ("yes" : Str) = V.str "if" by decide +kernel) | exact absurd h (show ¬ V.str ("no" : Str) = V.str "if" by decide +kernel) | exact absurd h (show ¬ V.str ("plus" : Str) = V.str "if" by decide +kernel) | exact absurd h (show ¬ V.str ("least" : Str) = V.str "if" by decide +kernel) | exact absurd h (show ¬ V.str ("most" : Str) = V.str "if" by decide +kernel) | exact absurd h (show ¬ V.str ("atmost" : Str) = V.str "if" by decide +kernel) | exact absurd h (show ¬ V.str ("both" : Str) = V.str "if" by decide +kernel) | exact absurd h (show ¬ V.str ("either" : Str) = V.str "if" by decide +kernel) | exact absurd h (show ¬ V.str ("not" : Str) = V.str "if" by decide +kernel)
  | _ => first | exact absurd h (show ¬ V.str ("in" : Str) = V.str "if" by decide +kernel) | exact absurd h (show ¬ V.str ("num" : Str) = V.str "if" by decide +kernel) | exact absurd h (show ¬ V.str ("yes" : Str) = V.str "if" by decide +kernel) | exact absurd h (show ¬ V.str ("no" : Str) = V.str "if" by decide +kernel) | exact absurd h (show ¬ V.str ("plus" : Str) = V.str "if" by decide +kernel) | exact absurd h (show ¬ V.str ("least" : Str) = V.str "if" by decide +kernel) | exact absurd h (show ¬ V.str ("most" : Str) = V.str "if" by decide +kernel) | exact absurd h (show ¬ V.str ("atmost" : Str) = V.str "if" by decide +kernel) | exact absurd h (show ¬ V.str ("both" : Str) = V.str "if" by decide +kernel) | exact absurd h (show ¬ V.str ("either" : Str) = V.str "if" by decide +kernel) | exact absurd h (show ¬ V.str ("not" : Str) = V.str "if" by decide +kernel)
theorem word_plus {p : Pg} (h : V.str (word p) = V.str "plus") : ∃ c a, p = .plus c a := by
  cases p with
  | plus c a => exact ⟨c, a, rfl⟩
  | tr b => cases b <;> first | exact absurd h (show ¬ V.str ("in" : Str) = V.str "plus" by decide +kernel) | exact absurd h (show ¬ V.str ("num" : Str) = V.str "plus" by decide +kernel) | exact absurd h (show ¬ V.str ("yes" : Str) = V.str "plus" by decide +kernel) | exact absurd h (show ¬ V.str ("no" : Str) = V.str "plus" by decide +kernel) | exact absurd h (show ¬ V.str ("least" : Str) = V.str "plus" by decide +kernel) | exact absurd h (show ¬ V.str ("most" : Str) = V.str "plus" by decide +kernel) | exact absurd h (show ¬ V.str ("atmost" : Str) = V.str "plus" by decide +kernel) | exact absurd h (show ¬ V.str ("both" : Str) = V.str "plus" by decide +kernel) | exact absurd h (show ¬ V.str ("either" : Str) = V.str "plus" by decide +kernel) | exact absurd h (show ¬ V.str ("not" : Str) = V.str "plus" by decide +kernel) | exact absurd h (show ¬ V.str ("if" : Str) = V.str "plus" by decide +kernel)
  | bin w a b => cases w <;> first | exact absurd h (show ¬ V.str ("in" : Str) = V.str "plus" by decide +kernel) | exact absurd h (show ¬ V.str ("num" : Str) = V.str "plus" by decide +kernel) | exact absurd h (show ¬ V.str ("yes" : Str) = V.str "plus" by decide +kernel) | exact absurd h (show ¬ V.str ("no" : Str) = V.str "plus" by decide +kernel) | exact absurd h (show ¬ V.str ("least" : Str) = V.str "plus" by decide +kernel) | exact absurd h (show ¬ V.str ("most" : Str) = V.str "plus" by decide +kernel) | exact absurd h (show ¬ V.str ("atmost" : Str) = V.str "plus" by decide +kernel) | exact absurd h (show ¬ V.str ("both" : Str) = V.str "plus" by decide +kernel) | exact absurd h (show ¬ V.str ("either" : Str) = V.str "plus" by decide +kernel) | exact absurd h (show ¬ V.str ("not" : Str) = V.str "plus" by decide +kernel) | exact absurd h (show ¬ V.str ("if" : Str) = V.str "plus" by decide +kernel)
  | _ => first | exact absurd h (show ¬ V.str ("in" : Str) = V.str "plus" by decide +kernel) | exact absurd h (show ¬ V.str ("num" : Str) = V.str "plus" by decide +kernel) | exact absurd h (show ¬ V.str ("yes" : Str) = V.str "plus" by decide +kernel) | exact absurd h (show ¬ V.str ("no" : Str) = V.str "plus" by decide +kernel) | exact absurd h (show ¬ V.str ("least" : Str) = V.str "plus" by decide +kernel) | exact absurd h (show ¬ V.str ("most" : Str) = V.str "plus" by decide +kernel) | exact absurd h (show ¬ V.str ("atmost" : Str) = V.str "plus" by decide +kernel) | exact absurd h (show ¬ V.str ("both" : Str) = V.str "plus" by decide +kernel) | exact absurd h (show ¬ V.str ("either" : Str) = V.str "plus" by decide +kernel) | exact absurd h (show ¬ V.str ("not" : Str) = V.str "plus" by decide +kernel) | exact absurd h (show ¬ V.str ("if" : Str) = V.str "plus" by decide +kernel)
theorem word_num {p : Pg} (h : V.str (word p) = V.str "num") : ∃ c, p = .num c := by
  cases p with
  | num c => exact ⟨c, rfl⟩
  | tr b => cases b <;> first | exact absurd h (show ¬ V.str ("in" : Str) = V.str "num" by decide +kernel) | exact absurd h (show ¬ V.str ("yes" : Str) = V.str "num" by decide +kernel) | exact absurd h (show ¬ V.str ("no" : Str) = V.str "num" by decide +kernel) | exact absurd h (show ¬ V.str ("plus" : Str) = V.str "num" by decide +kernel) | exact absurd h (show ¬ V.str ("least" : Str) = V.str "num" by decide +kernel) | exact absurd h (show ¬ V.str ("most" : Str) = V.str "num" by decide +kernel) | exact absurd h (show ¬ V.str ("atmost" : Str) = V.str "num" by decide +kernel) | exact absurd h (show ¬ V.str ("both" : Str) = V.str "num" by decide +kernel) | exact absurd h (show ¬ V.str ("either" : Str) = V.str "num" by decide +kernel) | exact absurd h (show ¬ V.str ("not" : Str) = V.str "num" by decide +kernel) | exact absurd h (show ¬ V.str ("if" : Str) = V.str "num" by decide +kernel)
  | bin w a b => cases w <;> first | exact absurd h (show ¬ V.str ("in" : Str) = V.str "num" by decide +kernel) | exact absurd h (show ¬ V.str ("yes" : Str) = V.str "num" by decide +kernel) | exact absurd h (show ¬ V.str ("no" : Str) = V.str "num" by decide +kernel) | exact absurd h (show ¬ V.str ("plus" : Str) = V.str "num" by decide +kernel) | exact absurd h (show ¬ V.str ("least" : Str) = V.str "num" by decide +kernel) | exact absurd h (show ¬ V.str ("most" : Str) = V.str "num" by decide +kernel) | exact absurd h (show ¬ V.str ("atmost" : Str) = V.str "num" by decide +kernel) | exact absurd h (show ¬ V.str ("both" : Str) = V.str "num" by decide +kernel) | exact absurd h (show ¬ V.str ("either" : Str) = V.str "num" by decide +kernel) | exact absurd h (show ¬ V.str ("not" : Str) = V.str "num" by decide +kernel) | exact absurd h (show ¬ V.str ("if" : Str) = V.str "num" by decide +kernel)
  | _ => first | exact absurd h (show ¬ V.str ("in" : Str) = V.str "num" by decide +kernel) | exact absurd h (show ¬ V.str ("yes" : Str) = V.str "num" by decide +kernel) | exact absurd h (show ¬ V.str ("no" : Str) = V.str "num" by decide +kernel) | exact absurd h (show ¬ V.str ("plus" : Str) = V.str "num" by decide +kernel) | exact absurd h (show ¬ V.str ("least" : Str) = V.str "num" by decide +kernel) | exact absurd h (show ¬ V.str ("most" : Str) = V.str "num" by decide +kernel) | exact absurd h (show ¬ V.str ("atmost" : Str) = V.str "num" by decide +kernel) | exact absurd h (show ¬ V.str ("both" : Str) = V.str "num" by decide +kernel) | exact absurd h (show ¬ V.str ("either" : Str) = V.str "num" by decide +kernel) | exact absurd h (show ¬ V.str ("not" : Str) = V.str "num" by decide +kernel) | exact absurd h (show ¬ V.str ("if" : Str) = V.str "num" by decide +kernel)
section
variable {P : Program} {w : World} {K : PySem.W.Frag} {mg : Str → Option Value} {base : Heap}
end
end Lm

set_option Elab.async false
set_option linter.all false
set_option maxRecDepth 100000
set_option maxHeartbeats 2000000
namespace Lm
open PySem PySem.Spec PyProof.Rows L2 LmR
def kD (b : Bool) : PyData := .str (kS b)
theorem sh0 : SeqAt.shaped (.tuple []) = true := by decide +kernel
theorem sh1 (a : Bool) : SeqAt.shaped (.tuple [kD a]) = true := by revert a; decide +kernel
theorem sh2 (a b : Bool) : SeqAt.shaped (.tuple [kD a, kD b]) = true := by revert a b; decide +kernel
theorem sh3 (a b c : Bool) : SeqAt.shaped (.tuple [kD a, kD b, kD c]) = true := by revert a b c; decide +kernel
theorem eqv_sh {d : PyData} (h : SeqAt.shaped d = true) : PyData.eqv d d = true := by
  unfold SeqAt.shaped at h
  rw [Bool.and_eq_true] at h
  exact SeqAt.eqv_refl d h.1
/-- the kinds of some programs -/
def kids (ks : List Bool) (ps : List Pg) : List V := ps.map fun p => V.str (kS (own ks p))
section
variable {P : Program} {w : World} {K : PySem.W.Frag} {mg : Str → Option Value} {base : Heap}
theorem knf_len : ∀ fs : List Pg, fs.length ≤ (knf fs).length
  | [] => Nat.le_refl _
  | q :: fs => by
    have := knf_len fs
    have h : knf (q :: fs) = kn q ++ knf fs := by simp [knf]
    rw [h, List.length_append, kn_len, List.length_cons]
    have := psz_pos q
    omega
abbrev s_knots : Stmt := topS 2
theorem sc_knots : FnScope ["program", "told", "waiting", "knot"] ["program"] (defScope s_knots) := ⟨rfl, rfl, rfl, by decide +kernel, rfl, by decide +kernel, by decide +kernel⟩
def spKnots (K : PySem.W.Frag) : Sp := fun vs H Q _ => ∃ (v : V) (p : Pg), vs = [v] ∧ At K H v p ∧ psz p ≤ 10000 ∧ ∀ (l : Addr) (us : List V) (H' : Hp), Same H H' → H l = none → H' l = some (.lst us) → Ats K H' us (kn p) → Q (.ref l) H'
theorem ok_knots (C_has_form : Cal P w K mg base 2 "has_form" ["thing"] (spHF K)) (C_parts_of : Cal P w K mg base 2 "parts_of" ["knot"] (spPO K)) (D : DefAt K mg "knots" s_knots ["program"]) : Cal P w K mg base 3 "knots" ["program"] (spKnots K) := by
  refine cal_of D sc_knots (fun vs H Q E h => ?_) (fun f cdv A outer s H vs Q E hr h => ?_)
  · obtain ⟨v, p, rfl, _⟩ := h
    rfl
  obtain ⟨v, p, rfl, hv, hsz, q⟩ := h
  have hr' : Room 2 _ := hr
  refine ⟨_, (pss_cons (ps_set (i := 1) sc_knots.nd rfl (.inl rfl) (pe_lst pa_nil))
      (pss_cons (ps_set (i := 2) sc_knots.nd rfl (.inl rfl) (pe_lst (pa_cons (pv 0) pa_nil)))
      (pss_cons (ps_while PassesOwn.never (pt_truth (pv 2) (by intro _; rfl))
        (pss_cons (ps_set (i := 3) sc_knots.nd rfl (.inl rfl) (pe_bm0 PySem.F.plainAttrs_list PySem.F.slot_list_pop PySem.F.type_list_pop mt_pop (pv 2)))
      (pss_cons (ps_expr (pe_bm PySem.F.plainAttrs_list PySem.F.slot_list_append PySem.F.type_list_append mt_append (pv 1) (pa_cons (pv 3) pa_nil)))
      (pss_one (ps_if (pt_val (pe_cal C_has_form hr' (by rfl) (pa_cons (pv 3) pa_nil)))
        (pss_one (ps_expr (pe_bm PySem.F.plainAttrs_list PySem.F.slot_list_extend PySem.F.type_list_extend mt_extendT (pv 2) (pa_cons (pe_revT (pe_cal C_parts_of hr' (by rfl) (pa_cons (pv 3) pa_nil))) pa_nil))))
        pss_nil)))))
      (pss_one (ps_ret (pv 1)))))), ?_⟩
  refine ⟨(by show 0 ≤ sizeLine; decide), fun lt hlt => ⟨_, rfl, (by show 1 ≤ sizeLine; decide), fun lw hlw => ?_⟩⟩
  have s1 : Same H (upd H lt (.lst [])) := same_new hlt
  have s2 : Same (upd H lt (.lst [])) (upd (upd H lt (.lst [])) lw (.lst [v])) := same_new hlw
  have lw0 : H lw = none := s1.free hlw
  have ntw : lt ≠ lw := fun z => by rw [← z, upd_same] at hlw; cases hlw
  refine ⟨fun m σ H' => ∃ (fs done : List Pg) (us ws : List V) (y3 : Option V), σ = [some v, some (.ref lt), some (.ref lw), y3] ∧ m = (knf fs).length ∧ Same H H' ∧ H' lt = some (.lst us) ∧ H' lw = some (.lst ws.reverse) ∧ Ats K H' ws fs ∧ Ats K H' us done ∧ done ++ knf fs = kn p, ?_, ?_⟩
  · refine ⟨_, [p], [], [], [v], none, rfl, rfl, s1.trans s2, s2 _ _ upd_same, upd_same, .cons (hv.keep (Tp.same (s1.trans s2))) .nil, .nil, by rw [knf_one]; rfl⟩
  · rintro m σ H' ⟨fs, done, us, ws, y3, rfl, rfl, sm, ht, hw, aw, au, ek⟩
    have lk : done.length + (knf fs).length = psz p := by rw [← kn_len, ← ek, List.length_append]
    refine ⟨_, rfl, _, .inl ⟨_, SqL.of hw, rfl⟩, ite2 (fun c => ?_) (fun c => ?_)⟩
    · cases ws with
      | nil => simp at c
      | cons x ws =>
        cases fs with
        | nil => cases aw
        | cons r fs =>
          obtain ⟨ax, aws⟩ : At K H' x r ∧ Ats K H' ws fs := by
            cases aw with
            | cons a b => exact ⟨a, b⟩
          rw [List.reverse_cons] at hw
          rw [knf_cons] at ek lk ⊢
          rw [List.length_cons] at lk ⊢
          refine ⟨fun σ' H2 => ∃ m', m' < (knf (parts r ++ fs)).length + 1 ∧ ∃ (fs done : List Pg) (us ws : List V) (y3 : Option V), σ' = [some v, some (.ref lt), some (.ref lw), y3] ∧ m' = (knf fs).length ∧ Same H H2 ∧ H2 lt = some (.lst us) ∧ H2 lw = some (.lst ws.reverse) ∧ Ats K H2 ws fs ∧ Ats K H2 us done ∧ done ++ knf fs = kn p, fun σ' H2 h => h, ?_⟩
          refine ⟨_, rfl, .inl ⟨rfl, _, SqL.of hw⟩, lw, _, x, rfl, rfl, hw, ?_, ?_⟩
          · rw [List.length_append, List.length_singleton, Nat.add_sub_cancel, List.getElem?_append_right (Nat.le_refl _), Nat.sub_self]
            rfl
          rw [List.dropLast_concat]
          have t2 : Tp K H' (upd H' lw (.lst ws.reverse)) := Tp.lst hw
          have hw2 : (upd H' lw (.lst ws.reverse)) lw = some (.lst ws.reverse) := upd_same
          have ht2 : (upd H' lw (.lst ws.reverse)) lt = some (.lst us) := by rw [upd_ne ntw]; exact ht
          have sm2 : Same H (upd H' lw (.lst ws.reverse)) := fun b o z => by
            rw [upd_ne (ne_of_none z lw0)]
            exact sm b o z
          generalize upd H' lw (.lst ws.reverse) = H2 at t2 hw2 ht2 sm2
          have ul : us.length = done.length := au.len
          refine ⟨_, rfl, .inl ⟨rfl, _, SqL.of ht2⟩, _, rfl, lt, _, _, rfl, rfl, ht2, smallL (by omega), ?_⟩
          have t3 : Tp K H2 (upd H2 lt (.lst (us ++ [x]))) := Tp.lst ht2
          have hw3 : (upd H2 lt (.lst (us ++ [x]))) lw = some (.lst ws.reverse) := by rw [upd_ne ntw.symm]; exact hw2
          have ht3 : (upd H2 lt (.lst (us ++ [x]))) lt = some (.lst (us ++ [x])) := upd_same
          have sm3 : Same H (upd H2 lt (.lst (us ++ [x]))) := fun b o z => by
            rw [upd_ne (ne_of_none z hlt)]
            exact sm2 b o z
          generalize upd H2 lt (.lst (us ++ [x])) = H3 at t3 hw3 ht3 sm3
          have t13 := t2.trans t3
          have ax3 := ax.keep t13
          refine ⟨_, rfl, x, r, rfl, ax3, _, rfl, ?_⟩
          refine ⟨_, rfl, .inl ⟨rfl, _, SqL.of hw3⟩, _, rfl, x, r, rfl, ax3, fun t vs ht' hvs => ?_⟩
          have s4 : Same H3 (upd H3 t (.tup vs)) := same_new ht'
          refine ⟨t, vs, rfl, .inl (.inl upd_same), fun t2' ht2' => ?_⟩
          have s5 : Same (upd H3 t (.tup vs)) (upd (upd H3 t (.tup vs)) t2' (.tup vs.reverse)) := same_new ht2'
          have s35 := s4.trans s5
          have hw5 := s35 _ _ hw3
          have ht5 := s35 _ _ ht3
          have vl := hvs.len
          have wl := aws.len
          have kl := knf_len (parts r ++ fs)
          rw [List.length_append] at kl
          refine ⟨lw, t2', _, _, rfl, rfl, hw5, .inl (.inl upd_same), by rw [List.length_reverse, List.length_reverse]; exact small (by omega), ?_⟩
          have t6 : Tp K H3 (upd (upd (upd H3 t (.tup vs)) t2' (.tup vs.reverse)) lw (.lst (ws.reverse ++ vs.reverse))) := (Tp.same s35).trans (Tp.lst hw5)
          refine ⟨(knf (parts r ++ fs)).length, Nat.lt_succ_self _, parts r ++ fs, done ++ [r], us ++ [x], vs ++ ws, some x, rfl, rfl, ?_, by rw [upd_ne ntw]; exact ht5, by rw [upd_same, List.reverse_append], (hvs.keep t6).app ((aws.keep t13).keep t6), ((au.keep t13).keep t6).app (.cons (ax3.keep t6) .nil), by rw [← ek, List.append_assoc]; rfl⟩
          intro b o z
          rw [upd_ne (ne_of_none z lw0)]
          exact s35 _ _ (sm3 b o z)
    · cases ws with
      | cons x ws => exact absurd (by simp) c
      | nil =>
        cases fs with
        | cons r fs => cases aw
        | nil =>
          have ed : done = kn p := by rw [← ek]; simp [knf]
          rw [ed] at au
          exact ⟨_, rfl, q lt us H' sm hlt ht au⟩
end
end Lm

set_option Elab.async false
set_option linter.all false
set_option maxRecDepth 100000
set_option maxHeartbeats 2000000
namespace Lm
open PySem PySem.Spec PyProof.Rows L2 LmR
section
variable {P : Program} {w : World} {K : PySem.W.Frag} {mg : Str → Option Value} {base : Heap}
end
end Lm

set_option Elab.async false
set_option linter.all false
set_option maxRecDepth 100000
set_option maxHeartbeats 2000000
namespace Lm
open PySem PySem.Spec PyProof.Rows L2 LmR
theorem in_nums (p : Pg) : inV (.str (word p)) [.str "in", .str "num", .str "plus"] = decide (nn p = 1) := by
  cases p with
  | tr b => cases b <;> rfl
  | bin w a b => cases w <;> rfl
  | _ => rfl
theorem in_words (p : Pg) : inV (.str (word p)) [.str "yes", .str "no", .str "not", .str "if", .str "least", .str "most", .str "atmost", .str "both", .str "either"] = decide (nn p = 0) := by
  cases p with
  | tr b => cases b <;> rfl
  | bin w a b => cases w <;> rfl
  | _ => rfl
theorem in_leaf (p : Pg) : inV (.str (word p)) [.str "in", .str "num"] = decide (nn p = 1 ∧ parts p = []) := by
  cases p with
  | tr b => cases b <;> rfl
  | bin w a b => cases w <;> rfl
  | plus c a => exact (show false = decide (1 = 1 ∧ [a] = []) by simp)
  | inp k => exact (show true = decide (1 = 1 ∧ ([] : List Pg) = []) by simp)
  | num k => exact (show true = decide (1 = 1 ∧ ([] : List Pg) = []) by simp)
  | neg a => rfl
  | ite p a b => rfl
def manyL : List (Key × V) := [(Sum.inr "in", .int 0), (Sum.inr "num", .int 0), (Sum.inr "yes", .int 0), (Sum.inr "no", .int 0), (Sum.inr "plus", .int 1), (Sum.inr "not", .int 1), (Sum.inr "if", .int 3)]
def manyKV : List (Key × V) := mergeK [] manyL
theorem many_get (p : Pg) : (valV manyKV (Sum.inr (word p))).getD (.int 2) = .int ((parts p).length : Nat) := by
  cases p with
  | tr b => cases b <;> rfl
  | bin w a b => cases w <;> rfl
  | _ => rfl
theorem kII {K : PySem.W.Frag} : PySem.W.kitOne K (.type "int") (.type "int") = some true := kit_ty (by decide +kernel)
theorem kIB {K : PySem.W.Frag} : PySem.W.kitOne K (.type "int") (.type "bool") = some false := kit_ty (by decide +kernel)
theorem fl_str {x : Str} : flatV (.str x) = true := rfl
section
variable {P : Program} {w : World} {K : PySem.W.Frag} {mg : Str → Option Value} {base : Heap}
end
end Lm

set_option Elab.async false
set_option linter.all false
set_option maxRecDepth 100000
set_option maxHeartbeats 2000000
namespace Lm
open PySem PySem.Spec PyProof.Rows L2 LmR
theorem dep_part (p q : Pg) (h : q ∈ parts p) : dep q + 1 ≤ dep p := by
  cases p with
  | inp k => simp [parts] at h
  | num k => simp [parts] at h
  | tr k => simp [parts] at h
  | plus c a => simp only [parts, List.mem_singleton] at h; subst h; simp only [dep]; omega
  | bin w a b =>
    simp only [parts, List.mem_cons, List.not_mem_nil, or_false] at h
    rcases h with rfl | rfl <;> (simp only [dep]; omega)
  | neg a => simp only [parts, List.mem_singleton] at h; subst h; simp only [dep]; omega
  | ite r a b =>
    simp only [parts, List.mem_cons, List.not_mem_nil, or_false] at h
    rcases h with rfl | rfl | rfl <;> (simp only [dep]; omega)
theorem psz_part (p q : Pg) (h : q ∈ parts p) : psz q + 1 ≤ psz p := by
  cases p with
  | inp k => simp [parts] at h
  | num k => simp [parts] at h
  | tr k => simp [parts] at h
  | plus c a => simp only [parts, List.mem_singleton] at h; subst h; simp only [psz]; omega
  | bin w a b =>
    simp only [parts, List.mem_cons, List.not_mem_nil, or_false] at h
    rcases h with rfl | rfl <;> (simp only [psz]; omega)
  | neg a => simp only [parts, List.mem_singleton] at h; subst h; simp only [psz]; omega
  | ite r a b =>
    simp only [parts, List.mem_cons, List.not_mem_nil, or_false] at h
    rcases h with rfl | rfl | rfl <;> (simp only [psz]; omega)
theorem dsz_enc : ∀ p : Pg, dsz (enc p) ≤ 4 * psz p
  | .inp _ => by simp [enc, dsz, dsz.dszs, psz]
  | .num _ => by simp [enc, dsz, dsz.dszs, psz]
  | .tr _ => by simp [enc, dsz, dsz.dszs, psz]
  | .plus c a => by have := dsz_enc a; simp [enc, dsz, dsz.dszs, psz]; omega
  | .bin w a b => by have := dsz_enc a; have := dsz_enc b; simp [enc, dsz, dsz.dszs, psz]; omega
  | .neg a => by have := dsz_enc a; simp [enc, dsz, dsz.dszs, psz]; omega
  | .ite p a b => by have := dsz_enc a; have := dsz_enc b; have := dsz_enc p; simp [enc, dsz, dsz.dszs, psz]; omega
theorem dszs_le (m : Nat) : ∀ ps : List Pg, (∀ p ∈ ps, psz p ≤ m) → dsz.dszs (ps.map enc) ≤ ps.length * (4 * m)
  | [], _ => by simp [dsz.dszs]
  | p :: ps, h => by
    have h1 := dszs_le m ps fun q hq => h q (List.mem_cons_of_mem _ hq)
    have h2 := dsz_enc p
    have h3 := h p List.mem_cons_self
    simp only [List.map_cons, dsz.dszs, List.length_cons, Nat.add_mul]
    omega
/-- the data of some programs in a tuple -/
theorem fd_knots {K : PySem.W.Frag} {H : Hp} {t : Addr} {us : List V} {ps : List Pg} (h : H t = some (.tup us)) (a : Ats K H us ps) : Fd K H (.ref t) (.tuple (ps.map enc)) := ⟨by simp [flat, flats_encs], .tup (.inl (.inl h)) a⟩
theorem kLL {K : PySem.W.Frag} : PySem.W.kitOne K (.type "list") (.type "list") = some true := kit_ty (by decide +kernel)
theorem pg_tupK {X : Cx} {K : PySem.W.Frag} {es : List Expr} {k : Nat} {t : TGs} {n : Nat} {pos : Pos} (hK : X.K = K) (hc : X.calm = true) (h : PGs X es t)
    (hn : (assignEach es X.env).length = n := by rfl) (hst : (assignEach es X.env).findIdx? (·.1) = none := by rfl) : PG X (.Tuple es k pos) (gTup K n t) := hK ▸ pg_tup hc h hn hst
section
variable {P : Program} {w : World} {K : PySem.W.Frag} {mg : Str → Option Value} {base : Heap}
end
end Lm

set_option Elab.async false
set_option linter.all false
set_option maxRecDepth 100000
set_option maxHeartbeats 2000000
namespace Lm
open PySem PySem.Spec PyProof.Rows L2 LmR
/-! ### put in -/
def psub (ss : List Pg) : Pg → Pg
  | .inp k => ss.getD k (.inp k)
  | .num c => .num c
  | .tr b => .tr b
  | .plus c a => .plus c (psub ss a)
  | .bin w a b => .bin w (psub ss a) (psub ss b)
  | .neg a => .neg (psub ss a)
  | .ite p a b => .ite (psub ss p) (psub ss a) (psub ss b)
theorem psub_front (ss : List Pg) (p : Pg) (h : ∀ k, p ≠ .inp k) : front (psub ss p) = front p ∧ parts (psub ss p) = (parts p).map (psub ss) := by
  cases p with
  | inp k => exact absurd rfl (h k)
  | _ => exact ⟨rfl, rfl⟩
/-- a program by its tuple -/
theorem At.make {K : PySem.W.Frag} {H : Hp} {a : Addr} {vs : List V} {p : Pg} (h : SqT K H a (front p ++ vs)) (b : Ats K H vs (parts p)) : At K H (.ref a) p := by
  cases p with
  | inp k => cases b; exact .tup h (.cons (.str _) (.cons (.int _) .nil))
  | num k => cases b; exact .tup h (.cons (.str _) (.cons (.int _) .nil))
  | tr k => cases b; exact .tup h (.cons (.str _) .nil)
  | plus c a => exact .tup h (.cons (.str _) (.cons (.int _) b))
  | bin w a c => exact .tup h (.cons (.str _) b)
  | neg a => exact .tup h (.cons (.str _) b)
  | ite p a c => exact .tup h (.cons (.str _) b)
theorem psub_psz (m : Nat) (ss : List Pg) (h1 : 1 ≤ m) (hm : ∀ s ∈ ss, psz s ≤ m) : ∀ p : Pg, psz (psub ss p) ≤ m * psz p
  | .inp k => by
    simp only [psub, psz, Nat.mul_one]
    rw [List.getD_eq_getElem?_getD]
    cases e : ss[k]? with
    | none => exact h1
    | some s => exact hm s (List.mem_of_getElem? e)
  | .num c => by simp only [psub, psz]; omega
  | .tr b => by simp only [psub, psz]; omega
  | .plus c a => by
    have := psub_psz m ss h1 hm a
    simp only [psub, psz, Nat.mul_add]; omega
  | .bin w a b => by
    have := psub_psz m ss h1 hm a
    have := psub_psz m ss h1 hm b
    simp only [psub, psz, Nat.mul_add]; omega
  | .neg a => by
    have := psub_psz m ss h1 hm a
    simp only [psub, psz, Nat.mul_add]; omega
  | .ite p a b => by
    have := psub_psz m ss h1 hm a
    have := psub_psz m ss h1 hm b
    have := psub_psz m ss h1 hm p
    simp only [psub, psz, Nat.mul_add]; omega
theorem psub_own (ks os : List Bool) (ss : List Pg) (hl : ss.length = ks.length) (ho : ss.map (own os) = ks) : ∀ p : Pg, Wk ks p → own os (psub ss p) = own ks p
  | .inp k, hw => by
    have hk : k < ks.length := hw
    have hs : k < ss.length := by omega
    show own os (ss.getD k _) = ks.getD k false
    rw [List.getD_eq_getElem?_getD, List.getElem?_eq_getElem hs, List.getD_eq_getElem?_getD, List.getElem?_eq_getElem hk]
    show own os ss[k] = ks[k]
    subst ho
    rw [List.getElem_map]
  | .num c, _ => rfl
  | .tr b, _ => rfl
  | .plus c a, _ => rfl
  | .bin w a b, _ => rfl
  | .neg a, _ => rfl
  | .ite p a b, hw => psub_own ks os ss hl ho a hw.2.1
theorem psub_wk (ks os : List Bool) (ss : List Pg) (hl : ss.length = ks.length) (ho : ss.map (own os) = ks) (hw : ∀ s ∈ ss, Wk os s) : ∀ p : Pg, Wk ks p → Wk os (psub ss p)
  | .inp k, h => by
    have hk : k < ks.length := h
    have hs : k < ss.length := by omega
    show Wk os (ss.getD k _)
    rw [List.getD_eq_getElem?_getD, List.getElem?_eq_getElem hs]
    exact hw _ (List.getElem_mem hs)
  | .num c, _ => True.intro
  | .tr b, _ => True.intro
  | .plus c a, h => ⟨psub_wk ks os ss hl ho hw a h.1, by rw [psub_own ks os ss hl ho a h.1]; exact h.2⟩
  | .bin w a b, h => ⟨psub_wk ks os ss hl ho hw a h.1, psub_wk ks os ss hl ho hw b h.2.1, by rw [psub_own ks os ss hl ho a h.1]; exact h.2.2.1, by rw [psub_own ks os ss hl ho b h.2.1]; exact h.2.2.2⟩
  | .neg a, h => ⟨psub_wk ks os ss hl ho hw a h.1, by rw [psub_own ks os ss hl ho a h.1]; exact h.2⟩
  | .ite p a b, h => ⟨psub_wk ks os ss hl ho hw p h.1, psub_wk ks os ss hl ho hw a h.2.1, psub_wk ks os ss hl ho hw b h.2.2.1, by rw [psub_own ks os ss hl ho p h.1]; exact h.2.2.2.1,
    by rw [psub_own ks os ss hl ho b h.2.2.1, psub_own ks os ss hl ho a h.2.1]; exact h.2.2.2.2⟩
/-- its inputs are among so many -/
def Low (n : Nat) : Pg → Prop
  | .inp k => k < n
  | .num _ => True
  | .tr _ => True
  | .plus _ a => Low n a
  | .bin _ a b => Low n a ∧ Low n b
  | .neg a => Low n a
  | .ite p a b => Low n p ∧ Low n a ∧ Low n b
theorem wk_low {ks : List Bool} : ∀ p : Pg, Wk ks p → Low ks.length p
  | .inp _, h => h
  | .num _, _ => True.intro
  | .tr _, _ => True.intro
  | .plus c a, h => wk_low a h.1
  | .bin w a b, h => ⟨wk_low a h.1, wk_low b h.2.1⟩
  | .neg a, h => wk_low a h.1
  | .ite p a b, h => ⟨wk_low p h.1, wk_low a h.2.1, wk_low b h.2.2.1⟩
theorem low_part {n : Nat} (p q : Pg) (hp : Low n p) (h : q ∈ parts p) : Low n q := by
  cases p with
  | inp k => simp [parts] at h
  | num k => simp [parts] at h
  | tr k => simp [parts] at h
  | plus c a => simp only [parts, List.mem_singleton] at h; subst h; exact hp
  | bin w a b =>
    simp only [parts, List.mem_cons, List.not_mem_nil, or_false] at h
    rcases h with rfl | rfl
    · exact hp.1
    · exact hp.2
  | neg a => simp only [parts, List.mem_singleton] at h; subst h; exact hp
  | ite r a b =>
    simp only [parts, List.mem_cons, List.not_mem_nil, or_false] at h
    rcases h with rfl | rfl | rfl
    · exact hp.1
    · exact hp.2.1
    · exact hp.2.2
theorem low_knf {n : Nat} : ∀ (m : Nat) (fs : List Pg), (knf fs).length ≤ m → (∀ q ∈ fs, Low n q) → ∀ q ∈ knf fs, Low n q
  | m, [], _, _, q, h => by simp [knf] at h
  | 0, r :: fs, l, _, _, _ => by rw [knf_cons] at l; simp at l
  | m + 1, r :: fs, l, hf, q, h => by
    rw [knf_cons] at l h
    rcases List.mem_cons.mp h with rfl | h
    · exact hf _ List.mem_cons_self
    · refine low_knf m _ (by rw [List.length_cons] at l; omega) (fun s hs => ?_) q h
      rcases List.mem_append.mp hs with z | z
      · exact low_part r s (hf r List.mem_cons_self) z
      · exact hf s (List.mem_cons_of_mem _ z)
theorem low_kn {n : Nat} (p : Pg) (h : Low n p) (q : Pg) (hq : q ∈ kn p) : Low n q := low_knf _ [p] (Nat.le_refl _) (fun s hs => by rw [List.mem_singleton.mp hs]; exact h) q (by rw [knf_one]; exact hq)
theorem psub_low {n m : Nat} (ss : List Pg) (hl : ss.length = n) (hs : ∀ s ∈ ss, Low m s) : ∀ p : Pg, Low n p → Low m (psub ss p)
  | .inp k, h => by
    have hk : k < n := h
    have hs' : k < ss.length := by omega
    show Low m (ss.getD k _)
    rw [List.getD_eq_getElem?_getD, List.getElem?_eq_getElem hs']
    exact hs _ (List.getElem_mem hs')
  | .num _, _ => True.intro
  | .tr _, _ => True.intro
  | .plus c a, h => psub_low ss hl hs a h
  | .bin w a b, h => ⟨psub_low ss hl hs a h.1, psub_low ss hl hs b h.2⟩
  | .neg a, h => psub_low ss hl hs a h
  | .ite p a b, h => ⟨psub_low ss hl hs p h.1, psub_low ss hl hs a h.2.1, psub_low ss hl hs b h.2.2⟩
/-- a loop over reversed(list) -/
theorem for_rev {K : PySem.W.Frag} {a : Addr} {xs : List V} {g : TG} {tb : TS} {D : Ends} {σ : L2.St} {H : Hp} (Pv : Nat → L2.St → Hp → Prop) (h0 : Pv 0 σ H) (hq : ∀ i σ H, Pv i σ H → SqL K H a xs)
    (hs : ∀ (i : Nat) (x : V) (σ : L2.St) (H : Hp), i < xs.length → xs[xs.length - 1 - i]? = some x → Pv i σ H → g x σ H fun σ2 H2 => tb { D with nx := Pv (i + 1), ct := Pv (i + 1), bk := D.nx } σ2 H2) (hd : ∀ σ H, Pv xs.length σ H → D.nx σ H) :
    ∃ W : Nat → Nat → L2.St → Hp → Prop, (∃ m, W 0 m σ H) ∧ ∀ i m σ H, W i m σ H →
      ((Itv K a xs.length).stop i H ∧ D.nx σ H) ∨ ((Itv K a xs.length).go i H ∧ ∃ N : L2.St → Hp → Prop, (∀ σ' H', N σ' H' → ∃ m', m' < m ∧ W (i + 1) m' σ' H') ∧ ∀ v H', (Itv K a xs.length).yld i H v H' → g v σ H' fun σ2 H2 => tb { D with nx := N, ct := N, bk := D.nx } σ2 H2) := by
  refine ⟨fun i m σ H => m = xs.length - i ∧ i ≤ xs.length ∧ Pv i σ H, ⟨xs.length, rfl, Nat.zero_le _, h0⟩, ?_⟩
  rintro i m σ H ⟨rfl, hi, p⟩
  have qx := hq i σ H p
  by_cases hlt : i < xs.length
  · have hx : xs[xs.length - 1 - i]? = some xs[xs.length - 1 - i] := List.getElem?_eq_getElem (by omega)
    refine .inr ⟨⟨hlt, xs, _, qx, hx⟩, Pv (i + 1), fun σ' H' p' => ⟨xs.length - (i + 1), by omega, rfl, hlt, p'⟩, fun v H' y => ?_⟩
    obtain ⟨rfl, f1⟩ := y
    exact hs i v σ H' hlt (f1 xs qx) p
  · have e : i = xs.length := by omega
    subst e
    exact .inl ⟨Nat.le_refl _, hd σ H p⟩
theorem cut_to (n : Nat) (xs ys : List V) (h : xs.length = n) : cutV (xs ++ ys) none (some (n : Int)) = xs := by
  unfold cutV
  rw [HT.sIx_none, show HT.sIx (xs ++ ys).length (xs ++ ys).length (some (n : Int)) = min n (xs ++ ys).length from HT.sIx_nat _ _ n]
  have e : min n (xs ++ ys).length = n := by rw [List.length_append]; omega
  rw [e, List.drop_zero, Nat.sub_zero, ← h, List.take_left]
section
variable {P : Program} {w : World} {K : PySem.W.Frag} {mg : Str → Option Value} {base : Heap}
abbrev s_front_of : Stmt := topS 8
theorem sc_front_of : FnScope ["knot"] ["knot"] (defScope s_front_of) := ⟨rfl, rfl, rfl, by decide +kernel, rfl, by decide +kernel, by decide +kernel⟩
def spFO (K : PySem.W.Frag) : Sp := fun vs H Q _ => ∃ (v : V) (p : Pg), vs = [v] ∧ At K H v p ∧ ∀ (t : Addr) (H' : Hp), Same H H' → SqT K H' t (front p) → Q (.ref t) H'
theorem ok_front_of (C_many_numbers : Cal P w K mg base 1 "many_numbers" ["word"] (spMN)) (D : DefAt K mg "front_of" s_front_of ["knot"]) : Cal P w K mg base 2 "front_of" ["knot"] (spFO K) := by
  refine cal_of D sc_front_of (fun vs H Q E h => ?_) (fun f cdv A outer s H vs Q E hr h => ?_)
  · obtain ⟨v, p, rfl, _⟩ := h
    rfl
  obtain ⟨v, p, rfl, hv, q⟩ := h
  have hr' : Room 1 _ := hr
  refine ⟨_, (pss_one (ps_ret (pe_slice sl_tupA (pv 0) po_none (po_some (pe_op op_add pe_int (pe_cal C_many_numbers hr' (by rfl) (pa_cons (pe_ix ix_tup (pv 0) pe_int (fun _ _ => rfl)) pa_nil))))))), ?_⟩
  obtain ⟨a, vs, rfl, ha, hvs⟩ := hv.open
  have e1 : (1 : Int) + (nn p : Int) = ((1 + nn p : Nat) : Int) := by omega
  refine ⟨_, rfl, _, rfl, a, _, 0, _, rfl, rfl, ha, at_word p vs, p, rfl, _, _, rfl, rfl, _, rfl, a, _, rfl, ha, fun z => ?_, fun z t ht => ?_⟩
  · obtain ⟨_, z⟩ := z
    rw [e1, show HT.sIx (front p ++ vs).length (front p ++ vs).length (some ((1 + nn p : Nat) : Int)) = min (1 + nn p) (front p ++ vs).length from HT.sIx_nat _ _ _, List.length_append, front_len] at z
    have hz : vs = [] := List.eq_nil_of_length_eq_zero (by omega)
    rw [hz, List.append_nil] at ha
    exact q a H (Same.refl _) ha
  · rw [e1, cut_to _ _ _ (front_len p)]
    exact q t _ (same_new ht) (.inl (.inl upd_same))
abbrev s_put : Stmt := topS 3
theorem sc_put : FnScope ["program", "some", "ready", "knot", "parts"] ["program", "some"] (defScope s_put) := ⟨rfl, rfl, rfl, by decide +kernel, rfl, by decide +kernel, by decide +kernel⟩
def spPut (K : PySem.W.Frag) : Sp := fun vs H Q _ => ∃ (v : V) (p : Pg) (t : Addr) (us : List V) (ss : List Pg), vs = [v, .ref t] ∧ At K H v p ∧ SqT K H t us ∧ Ats K H us ss ∧ Low ss.length p ∧ psz p ≤ 10000 ∧ ∀ (u : V) (H' : Hp), Same H H' → At K H' u (psub ss p) → Q u H'
theorem ok_put (B : Bt mg) (C_knots : Cal P w K mg base 3 "knots" ["program"] (spKnots K)) (C_taken : Cal P w K mg base 1 "taken" ["pile", "many"] (spTaken)) (C_many_parts : Cal P w K mg base 1 "many_parts" ["word"] (spMP)) (C_front_of : Cal P w K mg base 2 "front_of" ["knot"] (spFO K)) (D : DefAt K mg "put" s_put ["program", "some"]) : Cal P w K mg base 4 "put" ["program", "some"] (spPut K) := by
  refine cal_of D sc_put (fun vs H Q E h => ?_) (fun f cdv A outer s H vs Q E hr h => ?_)
  · obtain ⟨v, p, t, us, ss, rfl, _⟩ := h
    rfl
  obtain ⟨v, p, t, us, ss, rfl, hv, ht, hus, hlow, hsz, q⟩ := h
  have C_taken := C_taken.mono (k := 3) (by decide)
  have C_many_parts := C_many_parts.mono (k := 3) (by decide)
  have C_front_of := C_front_of.mono (k := 3) (by decide)
  have hr' : Room 3 _ := hr
  refine ⟨_, (pss_cons (ps_set (i := 2) sc_put.nd rfl (.inl rfl) (pe_lst pa_nil))
      (pss_cons (ps_for PassesOwn.never rfl (pi_reversed (by rfl) B.reversed (pa_cons (pe_cal C_knots hr' (by rfl) (pa_cons (pv 0) pa_nil)) pa_nil)) (pg_name (i := 3) sc_put.nd rfl (.inl rfl))
        (pss_cons (ps_set (i := 4) sc_put.nd rfl (.inl rfl) (pe_cal C_taken hr' (by rfl) (pa_cons (pv 2) (pa_cons (pe_cal C_many_parts hr' (by rfl) (pa_cons (pe_ix ix_tup (pv 3) pe_int (fun _ _ => rfl)) pa_nil)) pa_nil))))
      (pss_one (ps_if (pt_cmpR op_eq (pe_ix ix_tup (pv 3) pe_int (fun _ _ => rfl)) pe_str (nomark _))
        (pss_one (ps_expr (pe_bm PySem.F.plainAttrs_list PySem.F.slot_list_append PySem.F.type_list_append mt_append (pv 2) (pa_cons (pe_ix ix_tup (pv 1) (pe_ix ix_tup (pv 3) pe_int (fun _ _ => rfl)) (fun _ _ => rfl)) pa_nil))))
        (pss_one (ps_expr (pe_bm PySem.F.plainAttrs_list PySem.F.slot_list_append PySem.F.type_list_append mt_append (pv 2) (pa_cons (pe_op op_catA (pe_cal C_front_of hr' (by rfl) (pa_cons (pv 3) pa_nil)) (pv 4)) pa_nil))))))))
      (pss_one (ps_ret (pe_ix ix_list (pv 2) pe_int (fun _ _ => rfl)))))), ?_⟩
  refine ⟨(by show 0 ≤ sizeLine; decide), fun lr hlr => ?_⟩
  have s1 : Same H (upd H lr (.lst [])) := same_new hlr
  have r1 : (upd H lr (.lst [])) lr = some (.lst []) := upd_same
  generalize upd H lr (.lst []) = H1 at s1 r1
  refine ⟨_, rfl, v, p, rfl, hv.keep (Tp.same s1), hsz, fun le ks H2 s2 le0 hle hks => ?_⟩
  have s02 := s1.trans s2
  have nler : le ≠ lr := fun z => by rw [z, r1] at le0; cases le0
  have kl := kn_len p
  have ul : ks.length = (kn p).length := hks.len
  refine ⟨le, ks, rfl, SqL.of hle, for_rev (K := K) (a := le) (xs := ks) (fun i σ' H' => ∃ (fs : List Pg) (ws : List V) (y3 y4 : Option V), σ' = [some v, some (.ref t), some (.ref lr), y3, y4] ∧ Same H H' ∧ H' le = some (.lst ks) ∧ Ats K H' ks (kn p) ∧ (kn p).drop (ks.length - i) = knf fs ∧ H' lr = some (.lst ws.reverse) ∧ Ats K H' ws (fs.map (psub ss))) ?_ ?_ ?_ ?_⟩
  · exact ⟨[], [], none, none, rfl, s02, hle, hks, by rw [ul, Nat.sub_zero, List.drop_length]; rfl, s2 _ _ r1, .nil⟩
  · rintro i σ' H' ⟨fs, ws, y3, y4, rfl, sm, hle', _⟩
    exact SqL.of hle'
  · rintro i xv σ' H' hi hxv ⟨fs, ws, y3, y4, rfl, sm, hle', hks', hdrop, hlr', hws⟩
    have eI : ks.length - 1 - i = ks.length - (i + 1) := by omega
    rw [eI] at hxv
    obtain ⟨x, hx, hax⟩ := hks'.get _ _ hxv
    have e1 : ks.length - (i + 1) + 1 = ks.length - i := by omega
    obtain ⟨rest, rfl, hdr⟩ := knf_step hx (by rw [e1]; exact hdrop)
    have hlx : Low ss.length x := low_kn p hlow x (List.mem_of_getElem? hx)
    obtain ⟨a, vs, rfl, ha, hvs⟩ := hax.open
    have plen : (parts x).length ≤ 3 := by cases x <;> simp [parts]
    rw [List.map_append] at hws
    -- the parts' values and the rest's
    obtain ⟨w1, w2, rfl, hw1, hw2⟩ : ∃ w1 w2, ws = w1 ++ w2 ∧ Ats K H' w1 ((parts x).map (psub ss)) ∧ Ats K H' w2 (rest.map (psub ss)) := by
      have z : ∀ (as bs : List Pg) (ws : List V), Ats K H' ws (as ++ bs) → ∃ w1 w2, ws = w1 ++ w2 ∧ Ats K H' w1 as ∧ Ats K H' w2 bs := by
        intro as
        induction as with
        | nil => intro bs ws h; exact ⟨[], ws, rfl, .nil, h⟩
        | cons q as ih =>
          intro bs ws h
          cases ws with
          | nil => cases h
          | cons u ws =>
            cases h with
            | cons h1 h2 =>
              obtain ⟨w1, w2, rfl, g1, g2⟩ := ih bs ws h2
              exact ⟨u :: w1, w2, rfl, .cons h1 g1, g2⟩
      exact z _ _ _ hws
    have wl1 : w1.length = (parts x).length := by rw [hw1.len, List.length_map]
    rw [List.reverse_append] at hlr'
    refine ⟨_, rfl, _, rfl, a, _, 0, _, rfl, rfl, ha, at_word x vs, x, rfl, lr, w2.reverse, w1, by rw [wl1]; rfl, hlr', by omega, fun tt H5 ex5 hlr5 ht5 => ?_⟩
    have sm5 : Same H H5 := fun b o hb => ex5 b o (sm b o hb) (by simp [ne_of_none hb hlr])
    have tp5 : Tp K H' H5 := ex5.tp fun b hb ys z => by
      rw [List.mem_singleton.mp hb] at z
      rcases z with z | ⟨o, z⟩
      · rw [hlr'] at z; cases z
      · rw [hlr'] at z; cases z
    have hle5 := ex5 _ _ hle' (by simp [nler])
    have hks5 := hks'.keep tp5
    have ha5 := tp5 _ _ ha
    have hw15 := hw1.keep tp5
    have hw25 := hw2.keep tp5
    have rl : w2.length ≤ 10000 := by
      have z := knf_len rest
      have z2 : (kn p).length - (ks.length - (i + 1)) = (knf (x :: rest)).length := by rw [← hdr, List.length_drop]
      rw [knf_cons, List.length_cons] at z2
      have z3 : knf (parts x ++ rest) = knf (parts x) ++ knf rest := by simp [knf]
      rw [z3, List.length_append] at z2
      have z4 := hw2.len
      rw [List.length_map] at z4
      omega
    have fin : ∀ (y3 y4 : Option V) (u : V) (H6 : Hp), Same H5 H6 → At K H6 u (psub ss x) → ∃ (l : Addr) (xs : List V) (y : V), V.ref lr = .ref l ∧ [u] = [y] ∧ H6 l = some (.lst xs) ∧ xs.length < sizeLine ∧ ∃ (fs : List Pg) (ws : List V) (z3 z4 : Option V), [some v, some (.ref t), some (.ref lr), y3, y4] = [some v, some (.ref t), some (.ref lr), z3, z4] ∧ Same H (upd H6 l (.lst (xs ++ [y]))) ∧ (upd H6 l (.lst (xs ++ [y]))) le = some (.lst ks) ∧ Ats K (upd H6 l (.lst (xs ++ [y]))) ks (kn p) ∧ (kn p).drop (ks.length - (i + 1)) = knf fs ∧ (upd H6 l (.lst (xs ++ [y]))) lr = some (.lst ws.reverse) ∧ Ats K (upd H6 l (.lst (xs ++ [y]))) ws (fs.map (psub ss)) := fun y3 y4 u H6 s6 hu => by
      have hlr6 := s6 _ _ hlr5
      have t7 : Tp K H6 (upd H6 lr (.lst (w2.reverse ++ [u]))) := Tp.lst hlr6
      refine ⟨lr, _, u, rfl, rfl, hlr6, by rw [List.length_reverse]; exact smallL (by omega), x :: rest, u :: w2, y3, y4, rfl, fun b o hb => ?_, by rw [upd_ne nler]; exact s6 _ _ hle5, (hks5.keep (Tp.same s6)).keep t7, hdr, by rw [upd_same, List.reverse_cons], .cons (hu.keep t7) ((hw25.keep (Tp.same s6)).keep t7)⟩
      rw [upd_ne (ne_of_none hb hlr)]
      exact s6 _ _ (sm5 b o hb)
    refine ⟨_, rfl, a, _, 0, _, rfl, rfl, ha5, at_word x vs, rfl, _, rfl, ite2 (fun z => ?_) (fun z => ?_)⟩
    · have z' : V.str (word x) = V.str "in" := of_decide_eq_true z
      obtain ⟨k, rfl⟩ := word_in z'
      have hk : k < ss.length := hlx
      have hus5 : Ats K H5 us ss := hus.keep (Tp.same sm5)
      obtain ⟨uk, huk⟩ : ∃ u, us[k]? = some u := ⟨_, List.getElem?_eq_getElem (by rw [hus.len]; exact hk)⟩
      obtain ⟨s', hs', has⟩ := hus5.get k _ huk
      refine ⟨_, rfl, .inl ⟨rfl, _, SqL.of hlr5⟩, _, rfl, _, rfl, a, _, 1, .int k, rfl, rfl, ha5, at_of (j := 1) rfl rfl, t, us, _, uk, rfl, rfl, Tp.same sm5 _ _ ht, at_of (j := k) rfl huk, ?_⟩
      refine fin _ _ _ H5 (Same.refl _) ?_
      show At K H5 uk (ss.getD k (.inp k))
      rw [List.getD_eq_getElem?_getD, hs']
      exact has
    · have hni : ∀ k, x ≠ .inp k := fun k e => z (decide_eq_true (by rw [e]; rfl))
      obtain ⟨ef, ep⟩ := psub_front ss x hni
      refine ⟨_, rfl, .inl ⟨rfl, _, SqL.of hlr5⟩, _, rfl, .ref a, x, rfl, hax.keep tp5, fun ft H6 s6 hf => ?_⟩
      have fl := front_len x
      have fne : front x ≠ [] := fun e => by rw [e] at fl; simp at fl; omega
      have hw16 : Ats K H6 w1 (parts (psub ss x)) := by rw [ep]; exact hw15.keep (Tp.same s6)
      have htt : SqT K H6 tt w1 := .inl (.inl (s6 _ _ ht5))
      refine ⟨_, rfl, ft, tt, _, _, rfl, rfl, hf, htt, ?_, fun e => absurd e fne, fun _ e => ?_, fun _ e p2 hp2 => ?_⟩
      · have : nn x ≤ 1 := by cases x <;> simp [nn]
        exact small (by omega)
      · refine fin _ _ _ H6 s6 ?_
        subst e
        exact At.make (vs := []) (by rw [ef, List.append_nil]; exact hf) hw16
      · have s7 : Same H6 (upd H6 p2 (.tup (front x ++ w1))) := same_new hp2
        refine fin _ _ _ _ (s6.trans s7) ?_
        exact At.make (vs := w1) (by rw [ef]; exact .inl (.inl upd_same)) (hw16.keep (Tp.same s7))
  · rintro σ' H' ⟨fs, ws, y3, y4, rfl, sm, hle', hks', hdrop, hlr', hws⟩
    rw [Nat.sub_self, List.drop_zero, ← knf_one] at hdrop
    have ef := knf_inj _ _ _ (Nat.le_refl _) hdrop
    subst ef
    obtain ⟨u, rfl, hu⟩ := Ats.one hws
    exact ⟨_, rfl, lr, _, 0, u, rfl, rfl, SqL.of hlr', rfl, q u H' sm hu⟩
end
end Lm

set_option Elab.async false
set_option linter.all false
set_option maxRecDepth 100000
set_option maxHeartbeats 2000000
namespace Lm
open PySem PySem.Spec PyProof.Rows L2 LmR
/-! ### what a program tells -/
def iv : V → Int
  | .int i => i
  | _ => 0
def bv : V → Bool
  | .bl b => b
  | _ => false
def bval : Bw → V → V → V
  | .least, x, y => .int (if iv y < iv x then iv y else iv x)
  | .most, x, y => .int (if iv y > iv x then iv y else iv x)
  | .atmost, x, y => .bl (decide (iv x ≤ iv y))
  | .both, x, y => .bl (bv x && bv y)
  | .either, x, y => .bl (bv x || bv y)
def pval (us : List V) : Pg → V
  | .inp k => us.getD k .non
  | .num c => .int c
  | .tr b => .bl b
  | .plus c a => .int (iv (pval us a) + c)
  | .bin w a b => bval w (pval us a) (pval us b)
  | .neg a => .bl (!bv (pval us a))
  | .ite p a b => if bv (pval us p) = true then pval us a else pval us b
/-- a value of the kind -/
def Kv : Bool → V → Prop
  | false, v => ∃ i, v = .int i
  | true, v => ∃ b, v = .bl b
def Kvs (ks : List Bool) (us : List V) : Prop := us.length = ks.length ∧ ∀ (j : Nat) (k : Bool) (v : V), ks[j]? = some k → us[j]? = some v → Kv k v
theorem bval_kv (w : Bw) (x y : V) : Kv w.own (bval w x y) := by cases w <;> exact ⟨_, rfl⟩
theorem pval_kv {ks : List Bool} {us : List V} (h : Kvs ks us) : ∀ p : Pg, Wk ks p → Kv (own ks p) (pval us p)
  | .inp k, hw => by
    have hk : k < ks.length := hw
    have hu : k < us.length := by rw [h.1]; exact hk
    have e1 : us.getD k .non = us[k] := by rw [List.getD_eq_getElem?_getD, List.getElem?_eq_getElem hu]; rfl
    have e2 : ks.getD k false = ks[k] := by rw [List.getD_eq_getElem?_getD, List.getElem?_eq_getElem hk]; rfl
    show Kv (ks.getD k false) (us.getD k .non)
    rw [e1, e2]
    exact h.2 k _ _ (List.getElem?_eq_getElem hk) (List.getElem?_eq_getElem hu)
  | .num c, _ => ⟨_, rfl⟩
  | .tr b, _ => ⟨_, rfl⟩
  | .plus c a, _ => ⟨_, rfl⟩
  | .bin w a b, _ => bval_kv w _ _
  | .neg a, _ => ⟨_, rfl⟩
  | .ite p a b, hw => by
    have h1 := pval_kv h a hw.2.1
    have h2 := pval_kv h b hw.2.2.1
    rw [hw.2.2.2.2] at h2
    show Kv (own ks a) (if bv (pval us p) = true then pval us a else pval us b)
    split
    · exact h1
    · exact h2
theorem kv_int {v : V} (h : Kv false v) : v = .int (iv v) := by obtain ⟨i, rfl⟩ := h; rfl
theorem kv_bl {v : V} (h : Kv true v) : v = .bl (bv v) := by obtain ⟨i, rfl⟩ := h; rfl
theorem pval_int {ks : List Bool} {us : List V} (h : Kvs ks us) {p : Pg} (hw : Wk ks p) (ho : own ks p = false) : pval us p = .int (iv (pval us p)) := kv_int (ho ▸ pval_kv h p hw)
theorem pval_bl {ks : List Bool} {us : List V} (h : Kvs ks us) {p : Pg} (hw : Wk ks p) (ho : own ks p = true) : pval us p = .bl (bv (pval us p)) := kv_bl (ho ▸ pval_kv h p hw)
theorem pval_at {ks : List Bool} {us : List V} (h : Kvs ks us) {k : Nat} (hk : k < ks.length) : us[k]? = some (pval us (.inp k)) := by
  have hu : k < us.length := by rw [h.1]; exact hk
  show us[k]? = some (us.getD k .non)
  rw [List.getD_eq_getElem?_getD, List.getElem?_eq_getElem hu]
  rfl
section
variable {P : Program} {w : World} {K : PySem.W.Frag} {mg : Str → Option Value} {base : Heap}
abbrev s_knot_value : Stmt := topS 13
theorem sc_knot_value : FnScope ["knot", "told", "inputs"] ["knot", "told", "inputs"] (defScope s_knot_value) := ⟨rfl, rfl, rfl, by decide +kernel, rfl, by decide +kernel, by decide +kernel⟩
def spKnV (K : PySem.W.Frag) : Sp := fun vs H Q _ => ∃ (v : V) (p : Pg) (t ti : Addr) (ks : List Bool) (us : List V), vs = [v, .ref t, .ref ti] ∧ At K H v p ∧ SqT K H t ((parts p).map (pval us)) ∧ SqT K H ti us ∧ Wk ks p ∧ Kvs ks us ∧ Q (pval us p) H
theorem ok_knot_value (B : Bt mg) (D : DefAt K mg "knot_value" s_knot_value ["knot", "told", "inputs"]) : Cal P w K mg base 1 "knot_value" ["knot", "told", "inputs"] (spKnV K) := by
  refine cal_of D sc_knot_value (fun vs H Q E h => ?_) (fun f cdv A outer s H vs Q E hr h => ?_)
  · obtain ⟨v, p, t, ti, ks, us, rfl, _⟩ := h
    rfl
  obtain ⟨v, p, t, ti, ks, us, rfl, hv, ht, hti, hw, hkv, q⟩ := h
  refine ⟨_, (pss_one (ps_match (pe_ix ix_tup (pv 0) pe_int (fun _ _ => rfl))
        (pm_str (pss_one (ps_ret (pe_ix ix_tup (pv 2) (pe_ix ix_tup (pv 0) pe_int (fun _ _ => rfl)) (fun _ _ => rfl))))
        (pm_str (pss_one (ps_ret (pe_ix ix_tup (pv 0) pe_int (fun _ _ => rfl))))
        (pm_str (pss_one (ps_ret pe_bl))
        (pm_str (pss_one (ps_ret pe_bl))
        (pm_str (pss_one (ps_ret (pe_op op_add (pe_ix ix_tup (pv 1) pe_int (fun _ _ => rfl)) (pe_ix ix_tup (pv 0) pe_int (fun _ _ => rfl)))))
        (pm_str (pss_one (ps_ret (pe_callB (call_min2 rfl) (by rfl) B.min PyProof.Rows.boot_min (pa_cons (pe_ix ix_tup (pv 1) pe_int (fun _ _ => rfl)) (pa_cons (pe_ix ix_tup (pv 1) pe_int (fun _ _ => rfl)) pa_nil)))))
        (pm_str (pss_one (ps_ret (pe_callB (call_max2 rfl) (by rfl) B.max PyProof.Rows.boot_max (pa_cons (pe_ix ix_tup (pv 1) pe_int (fun _ _ => rfl)) (pa_cons (pe_ix ix_tup (pv 1) pe_int (fun _ _ => rfl)) pa_nil)))))
        (pm_str (pss_one (ps_ret (pe_cmpR op_le (pe_ix ix_tup (pv 1) pe_int (fun _ _ => rfl)) (pe_ix ix_tup (pv 1) pe_int (fun _ _ => rfl)) (nomark _))))
        (pm_str (pss_one (ps_ret (pe_not (pe_ix ix_tup (pv 1) pe_int (fun _ _ => rfl)))))
        (pm_str (pss_one (ps_ret (pe_and (pe_ix ix_tup (pv 1) pe_int (fun _ _ => rfl)) (pe_one (pe_ix ix_tup (pv 1) pe_int (fun _ _ => rfl))))))
        (pm_str (pss_one (ps_ret (pe_or (pe_ix ix_tup (pv 1) pe_int (fun _ _ => rfl)) (pe_one (pe_ix ix_tup (pv 1) pe_int (fun _ _ => rfl))))))
        (pm_any (pss_one (ps_ret (pe_ifExp (pt_val (pe_ix ix_tup (pv 1) pe_int (fun _ _ => rfl))) (pe_ix ix_tup (pv 1) pe_int (fun _ _ => rfl)) (pe_ix ix_tup (pv 1) pe_int (fun _ _ => rfl))))))))))))))))))), ?_⟩
  obtain ⟨a, vs, rfl, ha, hvs⟩ := hv.open
  refine ⟨_, rfl, a, _, 0, _, rfl, rfl, ha, at_word p vs, ?_⟩
  cases p with
  | inp k =>
    refine ⟨_, rfl, fun _ => ?_, fun z => absurd rfl z⟩
    exact ⟨_, rfl, _, rfl, a, _, 1, .int k, rfl, rfl, ha, at_of (j := 1) rfl rfl, ti, us, _, _, rfl, rfl, hti, at_of (j := k) rfl (pval_at hkv hw), q⟩
  | num c =>
    refine ⟨_, rfl, fun z => absurd (show ("num" : Str) = "in" from z) (by decide +kernel), fun _ => ⟨_, rfl, fun _ => ?_, fun z => absurd rfl z⟩⟩
    exact ⟨_, rfl, a, _, 1, .int c, rfl, rfl, ha, at_of (j := 1) rfl rfl, q⟩
  | tr b =>
    cases b with
    | true =>
      refine ⟨_, rfl, fun z => absurd (show ("yes" : Str) = "in" from z) (by decide +kernel), fun _ => ⟨_, rfl, fun z => absurd (show ("yes" : Str) = "num" from z) (by decide +kernel), fun _ => ⟨_, rfl, fun _ => ?_, fun z => absurd rfl z⟩⟩⟩
      exact q
    | false =>
      refine ⟨_, rfl, fun z => absurd (show ("no" : Str) = "in" from z) (by decide +kernel), fun _ => ⟨_, rfl, fun z => absurd (show ("no" : Str) = "num" from z) (by decide +kernel), fun _ => ⟨_, rfl, fun z => absurd (show ("no" : Str) = "yes" from z) (by decide +kernel), fun _ => ⟨_, rfl, fun _ => ?_, fun z => absurd rfl z⟩⟩⟩⟩
      exact q
  | plus c b =>
    have e1 := pval_int hkv hw.1 hw.2
    refine ⟨_, rfl, fun z => absurd (show ("plus" : Str) = "in" from z) (by decide +kernel), fun _ => ⟨_, rfl, fun z => absurd (show ("plus" : Str) = "num" from z) (by decide +kernel), fun _ => ⟨_, rfl, fun z => absurd (show ("plus" : Str) = "yes" from z) (by decide +kernel), fun _ => ⟨_, rfl, fun z => absurd (show ("plus" : Str) = "no" from z) (by decide +kernel), fun _ => ⟨_, rfl, fun _ => ?_, fun z => absurd rfl z⟩⟩⟩⟩⟩
    refine ⟨_, rfl, t, _, 0, _, rfl, rfl, ht, rfl, _, rfl, a, _, 1, .int c, rfl, rfl, ha, at_of (j := 1) rfl rfl, _, _, e1, rfl, q⟩
  | bin bw b c =>
    have go : ∀ n : Nat, True := fun _ => True.intro
    cases bw with
    | least =>
      have e1 := pval_int hkv hw.1 hw.2.2.1
      have e2 := pval_int hkv hw.2.1 hw.2.2.2
      refine ⟨_, rfl, fun z => absurd (show ("least" : Str) = "in" from z) (by decide +kernel), fun _ => ⟨_, rfl, fun z => absurd (show ("least" : Str) = "num" from z) (by decide +kernel), fun _ => ⟨_, rfl, fun z => absurd (show ("least" : Str) = "yes" from z) (by decide +kernel), fun _ => ⟨_, rfl, fun z => absurd (show ("least" : Str) = "no" from z) (by decide +kernel), fun _ => ⟨_, rfl, fun z => absurd (show ("least" : Str) = "plus" from z) (by decide +kernel), fun _ => ⟨_, rfl, fun _ => ?_, fun z => absurd rfl z⟩⟩⟩⟩⟩⟩
      refine ⟨_, rfl, t, _, 0, _, rfl, rfl, ht, rfl, _, rfl, t, _, 1, _, rfl, rfl, ht, rfl, iv (pval us b), iv (pval us c), ?_, q⟩
      rw [← e1, ← e2]
    | most =>
      have e1 := pval_int hkv hw.1 hw.2.2.1
      have e2 := pval_int hkv hw.2.1 hw.2.2.2
      refine ⟨_, rfl, fun z => absurd (show ("most" : Str) = "in" from z) (by decide +kernel), fun _ => ⟨_, rfl, fun z => absurd (show ("most" : Str) = "num" from z) (by decide +kernel), fun _ => ⟨_, rfl, fun z => absurd (show ("most" : Str) = "yes" from z) (by decide +kernel), fun _ => ⟨_, rfl, fun z => absurd (show ("most" : Str) = "no" from z) (by decide +kernel), fun _ => ⟨_, rfl, fun z => absurd (show ("most" : Str) = "plus" from z) (by decide +kernel), fun _ => ⟨_, rfl, fun z => absurd (show ("most" : Str) = "least" from z) (by decide +kernel), fun _ => ⟨_, rfl, fun _ => ?_, fun z => absurd rfl z⟩⟩⟩⟩⟩⟩⟩
      refine ⟨_, rfl, t, _, 0, _, rfl, rfl, ht, rfl, _, rfl, t, _, 1, _, rfl, rfl, ht, rfl, iv (pval us b), iv (pval us c), ?_, q⟩
      rw [← e1, ← e2]
    | atmost =>
      have e1 := pval_int hkv hw.1 hw.2.2.1
      have e2 := pval_int hkv hw.2.1 hw.2.2.2
      refine ⟨_, rfl, fun z => absurd (show ("atmost" : Str) = "in" from z) (by decide +kernel), fun _ => ⟨_, rfl, fun z => absurd (show ("atmost" : Str) = "num" from z) (by decide +kernel), fun _ => ⟨_, rfl, fun z => absurd (show ("atmost" : Str) = "yes" from z) (by decide +kernel), fun _ => ⟨_, rfl, fun z => absurd (show ("atmost" : Str) = "no" from z) (by decide +kernel), fun _ => ⟨_, rfl, fun z => absurd (show ("atmost" : Str) = "plus" from z) (by decide +kernel), fun _ => ⟨_, rfl, fun z => absurd (show ("atmost" : Str) = "least" from z) (by decide +kernel), fun _ => ⟨_, rfl, fun z => absurd (show ("atmost" : Str) = "most" from z) (by decide +kernel), fun _ => ⟨_, rfl, fun _ => ?_, fun z => absurd rfl z⟩⟩⟩⟩⟩⟩⟩⟩
      refine ⟨_, rfl, t, _, 0, _, rfl, rfl, ht, rfl, _, rfl, t, _, 1, _, rfl, rfl, ht, rfl, _, _, e1, e2, q⟩
    | both =>
      have e1 := pval_bl hkv hw.1 hw.2.2.1
      have e2 := pval_bl hkv hw.2.1 hw.2.2.2
      refine ⟨_, rfl, fun z => absurd (show ("both" : Str) = "in" from z) (by decide +kernel), fun _ => ⟨_, rfl, fun z => absurd (show ("both" : Str) = "num" from z) (by decide +kernel), fun _ => ⟨_, rfl, fun z => absurd (show ("both" : Str) = "yes" from z) (by decide +kernel), fun _ => ⟨_, rfl, fun z => absurd (show ("both" : Str) = "no" from z) (by decide +kernel), fun _ => ⟨_, rfl, fun z => absurd (show ("both" : Str) = "plus" from z) (by decide +kernel), fun _ => ⟨_, rfl, fun z => absurd (show ("both" : Str) = "least" from z) (by decide +kernel), fun _ => ⟨_, rfl, fun z => absurd (show ("both" : Str) = "most" from z) (by decide +kernel), fun _ => ⟨_, rfl, fun z => absurd (show ("both" : Str) = "atmost" from z) (by decide +kernel), fun _ => ⟨_, rfl, fun z => absurd (show ("both" : Str) = "not" from z) (by decide +kernel), fun _ => ⟨_, rfl, fun _ => ?_, fun z => absurd rfl z⟩⟩⟩⟩⟩⟩⟩⟩⟩⟩
      have q' : Q (.bl (bv (pval us b) && bv (pval us c))) H := q
      refine ⟨_, rfl, t, _, 0, _, rfl, rfl, ht, rfl, _, e1, ite2 (fun z => ?_) (fun z => ?_)⟩
      · rw [z, Bool.true_and, ← e2] at q'
        exact ⟨_, rfl, t, _, 1, _, rfl, rfl, ht, rfl, q'⟩
      · rw [Bool.eq_false_iff.mpr z] at q'
        exact q'
    | either =>
      have e1 := pval_bl hkv hw.1 hw.2.2.1
      have e2 := pval_bl hkv hw.2.1 hw.2.2.2
      refine ⟨_, rfl, fun z => absurd (show ("either" : Str) = "in" from z) (by decide +kernel), fun _ => ⟨_, rfl, fun z => absurd (show ("either" : Str) = "num" from z) (by decide +kernel), fun _ => ⟨_, rfl, fun z => absurd (show ("either" : Str) = "yes" from z) (by decide +kernel), fun _ => ⟨_, rfl, fun z => absurd (show ("either" : Str) = "no" from z) (by decide +kernel), fun _ => ⟨_, rfl, fun z => absurd (show ("either" : Str) = "plus" from z) (by decide +kernel), fun _ => ⟨_, rfl, fun z => absurd (show ("either" : Str) = "least" from z) (by decide +kernel), fun _ => ⟨_, rfl, fun z => absurd (show ("either" : Str) = "most" from z) (by decide +kernel), fun _ => ⟨_, rfl, fun z => absurd (show ("either" : Str) = "atmost" from z) (by decide +kernel), fun _ => ⟨_, rfl, fun z => absurd (show ("either" : Str) = "not" from z) (by decide +kernel), fun _ => ⟨_, rfl, fun z => absurd (show ("either" : Str) = "both" from z) (by decide +kernel), fun _ => ⟨_, rfl, fun _ => ?_, fun z => absurd rfl z⟩⟩⟩⟩⟩⟩⟩⟩⟩⟩⟩
      have q' : Q (.bl (bv (pval us b) || bv (pval us c))) H := q
      refine ⟨_, rfl, t, _, 0, _, rfl, rfl, ht, rfl, _, e1, ite2 (fun z => ?_) (fun z => ?_)⟩
      · rw [z] at q'
        exact q'
      · rw [Bool.eq_false_iff.mpr z, Bool.false_or, ← e2] at q'
        exact ⟨_, rfl, t, _, 1, _, rfl, rfl, ht, rfl, q'⟩
  | neg b =>
    have e1 := pval_bl hkv hw.1 hw.2
    refine ⟨_, rfl, fun z => absurd (show ("not" : Str) = "in" from z) (by decide +kernel), fun _ => ⟨_, rfl, fun z => absurd (show ("not" : Str) = "num" from z) (by decide +kernel), fun _ => ⟨_, rfl, fun z => absurd (show ("not" : Str) = "yes" from z) (by decide +kernel), fun _ => ⟨_, rfl, fun z => absurd (show ("not" : Str) = "no" from z) (by decide +kernel), fun _ => ⟨_, rfl, fun z => absurd (show ("not" : Str) = "plus" from z) (by decide +kernel), fun _ => ⟨_, rfl, fun z => absurd (show ("not" : Str) = "least" from z) (by decide +kernel), fun _ => ⟨_, rfl, fun z => absurd (show ("not" : Str) = "most" from z) (by decide +kernel), fun _ => ⟨_, rfl, fun z => absurd (show ("not" : Str) = "atmost" from z) (by decide +kernel), fun _ => ⟨_, rfl, fun _ => ?_, fun z => absurd rfl z⟩⟩⟩⟩⟩⟩⟩⟩⟩
    exact ⟨_, rfl, t, _, 0, _, rfl, rfl, ht, rfl, _, e1, q⟩
  | ite r b c =>
    have e1 := pval_bl hkv hw.1 hw.2.2.2.1
    refine ⟨_, rfl, fun z => absurd (show ("if" : Str) = "in" from z) (by decide +kernel), fun _ => ⟨_, rfl, fun z => absurd (show ("if" : Str) = "num" from z) (by decide +kernel), fun _ => ⟨_, rfl, fun z => absurd (show ("if" : Str) = "yes" from z) (by decide +kernel), fun _ => ⟨_, rfl, fun z => absurd (show ("if" : Str) = "no" from z) (by decide +kernel), fun _ => ⟨_, rfl, fun z => absurd (show ("if" : Str) = "plus" from z) (by decide +kernel), fun _ => ⟨_, rfl, fun z => absurd (show ("if" : Str) = "least" from z) (by decide +kernel), fun _ => ⟨_, rfl, fun z => absurd (show ("if" : Str) = "most" from z) (by decide +kernel), fun _ => ⟨_, rfl, fun z => absurd (show ("if" : Str) = "atmost" from z) (by decide +kernel), fun _ => ⟨_, rfl, fun z => absurd (show ("if" : Str) = "not" from z) (by decide +kernel), fun _ => ⟨_, rfl, fun z => absurd (show ("if" : Str) = "both" from z) (by decide +kernel), fun _ => ⟨_, rfl, fun z => absurd (show ("if" : Str) = "either" from z) (by decide +kernel), fun _ => ?_⟩⟩⟩⟩⟩⟩⟩⟩⟩⟩⟩
    have q' : Q (if bv (pval us r) = true then pval us b else pval us c) H := q
    refine ⟨_, rfl, t, _, 0, _, rfl, rfl, ht, rfl, _, e1, ite2 (fun z => ?_) (fun z => ?_)⟩
    · rw [if_pos z] at q'
      exact ⟨_, rfl, t, _, 1, _, rfl, rfl, ht, rfl, q'⟩
    · rw [if_neg z] at q'
      exact ⟨_, rfl, t, _, 2, _, rfl, rfl, ht, rfl, q'⟩
abbrev s_value : Stmt := topS 12
theorem sc_value : FnScope ["program", "inputs", "ready", "knot", "parts"] ["program", "inputs"] (defScope s_value) := ⟨rfl, rfl, rfl, by decide +kernel, rfl, by decide +kernel, by decide +kernel⟩
def spVal (K : PySem.W.Frag) : Sp := fun vs H Q _ => ∃ (v : V) (p : Pg) (t : Addr) (us : List V) (ks : List Bool), vs = [v, .ref t] ∧ At K H v p ∧ SqT K H t us ∧ Kvs ks us ∧ Wk ks p ∧ psz p ≤ 10000 ∧ ∀ (H' : Hp), Same H H' → Q (pval us p) H'
theorem ok_value (B : Bt mg) (C_knots : Cal P w K mg base 3 "knots" ["program"] (spKnots K)) (C_taken : Cal P w K mg base 1 "taken" ["pile", "many"] (spTaken)) (C_many_parts : Cal P w K mg base 1 "many_parts" ["word"] (spMP)) (C_knot_value : Cal P w K mg base 1 "knot_value" ["knot", "told", "inputs"] (spKnV K)) (D : DefAt K mg "value" s_value ["program", "inputs"]) : Cal P w K mg base 4 "value" ["program", "inputs"] (spVal K) := by
  refine cal_of D sc_value (fun vs H Q E h => ?_) (fun f cdv A outer s H vs Q E hr h => ?_)
  · obtain ⟨v, p, t, us, ks, rfl, _⟩ := h
    rfl
  obtain ⟨v, p, t, us, ks, rfl, hv, ht, hkv, hw, hsz, q⟩ := h
  have C_taken := C_taken.mono (k := 3) (by decide)
  have C_many_parts := C_many_parts.mono (k := 3) (by decide)
  have C_knot_value := C_knot_value.mono (k := 3) (by decide)
  have hr' : Room 3 _ := hr
  refine ⟨_, (pss_cons (ps_set (i := 2) sc_value.nd rfl (.inl rfl) (pe_lst pa_nil))
      (pss_cons (ps_for PassesOwn.never rfl (pi_reversed (by rfl) B.reversed (pa_cons (pe_cal C_knots hr' (by rfl) (pa_cons (pv 0) pa_nil)) pa_nil)) (pg_name (i := 3) sc_value.nd rfl (.inl rfl))
        (pss_cons (ps_set (i := 4) sc_value.nd rfl (.inl rfl) (pe_cal C_taken hr' (by rfl) (pa_cons (pv 2) (pa_cons (pe_cal C_many_parts hr' (by rfl) (pa_cons (pe_ix ix_tup (pv 3) pe_int (fun _ _ => rfl)) pa_nil)) pa_nil))))
      (pss_one (ps_expr (pe_bm PySem.F.plainAttrs_list PySem.F.slot_list_append PySem.F.type_list_append mt_append (pv 2) (pa_cons (pe_cal C_knot_value hr' (by rfl) (pa_cons (pv 3) (pa_cons (pv 4) (pa_cons (pv 1) pa_nil)))) pa_nil))))))
      (pss_one (ps_ret (pe_ix ix_list (pv 2) pe_int (fun _ _ => rfl)))))), ?_⟩
  refine ⟨(by show 0 ≤ sizeLine; decide), fun lr hlr => ?_⟩
  have s1 : Same H (upd H lr (.lst [])) := same_new hlr
  have r1 : (upd H lr (.lst [])) lr = some (.lst []) := upd_same
  generalize upd H lr (.lst []) = H1 at s1 r1
  refine ⟨_, rfl, v, p, rfl, hv.keep (Tp.same s1), hsz, fun le es H2 s2 le0 hle hes => ?_⟩
  have s02 := s1.trans s2
  have nler : le ≠ lr := fun z => by rw [z, r1] at le0; cases le0
  have kl := kn_len p
  have ul : es.length = (kn p).length := hes.len
  refine ⟨le, es, rfl, SqL.of hle, for_rev (K := K) (a := le) (xs := es) (fun i σ' H' => ∃ (fs : List Pg) (y3 y4 : Option V), σ' = [some v, some (.ref t), some (.ref lr), y3, y4] ∧ Same H H' ∧ H' le = some (.lst es) ∧ Ats K H' es (kn p) ∧ (kn p).drop (es.length - i) = knf fs ∧ H' lr = some (.lst (fs.map (pval us)).reverse)) ?_ ?_ ?_ ?_⟩
  · exact ⟨[], none, none, rfl, s02, hle, hes, by rw [ul, Nat.sub_zero, List.drop_length]; rfl, s2 _ _ r1⟩
  · rintro i σ' H' ⟨fs, y3, y4, rfl, sm, hle', _⟩
    exact SqL.of hle'
  · rintro i xv σ' H' hi hxv ⟨fs, y3, y4, rfl, sm, hle', hes', hdrop, hlr'⟩
    have eI : es.length - 1 - i = es.length - (i + 1) := by omega
    rw [eI] at hxv
    obtain ⟨x, hx, hax⟩ := hes'.get _ _ hxv
    have e1 : es.length - (i + 1) + 1 = es.length - i := by omega
    obtain ⟨rest, rfl, hdr⟩ := knf_step hx (by rw [e1]; exact hdrop)
    have hwx : Wk ks x := kn_wk ks p x hw (List.mem_of_getElem? hx)
    obtain ⟨a, vs, rfl, ha, hvs⟩ := hax.open
    have plen : (parts x).length ≤ 3 := by cases x <;> simp [parts]
    rw [List.map_append, List.reverse_append] at hlr'
    have wl1 : ((parts x).map (pval us)).length = (parts x).length := List.length_map _
    refine ⟨_, rfl, _, rfl, a, _, 0, _, rfl, rfl, ha, at_word x vs, x, rfl, lr, (rest.map (pval us)).reverse, (parts x).map (pval us), by rw [wl1]; rfl, hlr', by omega, fun tt H5 ex5 hlr5 ht5 => ?_⟩
    have sm5 : Same H H5 := fun b o hb => ex5 b o (sm b o hb) (by simp [ne_of_none hb hlr])
    have tp5 : Tp K H' H5 := ex5.tp fun b hb ys z => by
      rw [List.mem_singleton.mp hb] at z
      rcases z with z | ⟨o, z⟩
      · rw [hlr'] at z; cases z
      · rw [hlr'] at z; cases z
    have hle5 := ex5 _ _ hle' (by simp [nler])
    have hes5 := hes'.keep tp5
    have rl : (rest.map (pval us)).length ≤ 10000 := by
      have z := knf_len rest
      have z2 : (kn p).length - (es.length - (i + 1)) = (knf (x :: rest)).length := by rw [← hdr, List.length_drop]
      rw [knf_cons, List.length_cons] at z2
      have z3 : knf (parts x ++ rest) = knf (parts x) ++ knf rest := by simp [knf]
      rw [z3, List.length_append] at z2
      rw [List.length_map]
      omega
    refine ⟨_, rfl, .inl ⟨rfl, _, SqL.of hlr5⟩, _, rfl, _, rfl, _, rfl, .ref a, x, tt, t, ks, us, rfl, hax.keep tp5, .inl (.inl ht5), Tp.same sm5 _ _ ht, hwx, hkv, ?_⟩
    have t7 : Tp K H5 (upd H5 lr (.lst ((rest.map (pval us)).reverse ++ [pval us x]))) := Tp.lst hlr5
    refine ⟨lr, _, _, rfl, rfl, hlr5, by rw [List.length_reverse]; exact smallL (by omega), x :: rest, _, _, rfl, fun b o hb => ?_, by rw [upd_ne nler]; exact hle5, hes5.keep t7, hdr, by rw [upd_same, List.map_cons, List.reverse_cons]⟩
    rw [upd_ne (ne_of_none hb hlr)]
    exact sm5 b o hb
  · rintro σ' H' ⟨fs, y3, y4, rfl, sm, hle', hes', hdrop, hlr'⟩
    rw [Nat.sub_self, List.drop_zero, ← knf_one] at hdrop
    have ef := knf_inj _ _ _ (Nat.le_refl _) hdrop
    subst ef
    exact ⟨_, rfl, lr, _, 0, _, rfl, rfl, SqL.of hlr', rfl, q H' sm⟩
end
end Lm

set_option Elab.async false
set_option linter.all false
set_option maxRecDepth 100000
set_option maxHeartbeats 2000000
set_option pp.maxSteps 600
set_option pp.deepTerms.threshold 6
namespace Lm
open PySem PySem.Spec PyProof.Rows L2 LmR
theorem fl_ne {f : Addr} {H : Hp} (g : Flow H f) {D : Addr} (h : H D = none) : D ≠ f := fun z => by
  obtain ⟨xs, e⟩ := g.lst
  rw [z, e] at h
  cases h
theorem gr_same' {f : Addr} {H H' : Hp} (fl : Flow H f) (s : Same H H') : Gr [] f H H' := ⟨Ex.of_same s, by
  obtain ⟨x, y, z, e, r⟩ := fl
  exact ⟨x, y, z, s _ _ e, r⟩⟩
theorem Gr.lst {f : Addr} {H H' : Hp} (g : Gr [] f H H') {p : Addr} {o : HO} (h : H p = some o) (n : p ≠ f) : H' p = some o := g.ex p o h (by simp [n])
theorem Dr.g {f : Addr} {H H' : Hp} (d : Dr f H H') : Gr [] f H H' := d.gr
section
variable {P : Program} {w : World} {K : PySem.W.Frag} {mg : Str → Option Value} {base : Heap}
abbrev s_l_kinds : Stmt := topS 21
theorem sc_l_kinds : FnScope ["_law_flow_here", "_law_top", "_law_size", "_law_k"] ["_law_flow_here", "_law_top"] (defScope s_l_kinds) := ⟨rfl, rfl, rfl, by decide +kernel, rfl, by decide +kernel, by decide +kernel⟩
def spKinds2 (K : PySem.W.Frag) : Sp := fun vs H Q _ => ∃ (f : Addr) (top : Int), vs = [.ref f, .int top] ∧ Flow H f ∧ 0 ≤ top ∧ top ≤ 100 ∧ ∀ (a : Addr) (ks : List Bool) (H' : Hp), Gr [] f H H' → (ks.length : Int) ≤ top → H' a = some (.tup (kVs ks)) → Q (.ref a) H'
theorem ok_l_kinds2 (B : Bt mg) (C_l_draw : Cal P w K mg base 1 "_law_draw" ["_law_flow_here", "_law_wide"] (spDraw)) (D : DefAt K mg "_law_kinds" s_l_kinds ["_law_flow_here", "_law_top"]) : Cal P w K mg base 2 "_law_kinds" ["_law_flow_here", "_law_top"] (spKinds2 K) := by
  refine cal_of D sc_l_kinds (fun vs H Q E h => ?_) (fun f cdv A outer s H vs Q E hr h => ?_)
  · obtain ⟨a, top, rfl, _⟩ := h
    rfl
  obtain ⟨f, top, rfl, fl, t0, t1, q⟩ := h
  have hr' : Room 1 _ := hr
  refine ⟨_, (pss_cons (ps_set (i := 2) sc_l_kinds.nd rfl (.inl rfl) (pe_callB (call_max2 rfl) (by rfl) B.max PyProof.Rows.boot_max (pa_cons (pe_cal C_l_draw hr' (by rfl) (pa_cons (pv 0) (pa_cons (pe_op op_add (pv 1) pe_int) pa_nil))) (pa_cons (pe_cal C_l_draw hr' (by rfl) (pa_cons (pv 0) (pa_cons (pe_op op_add (pv 1) pe_int) pa_nil))) pa_nil))))
      (pss_one (ps_ret (pe_callTy call_tuple_of (by rfl) B.tuple PyProof.Rows.boot_tuple (pa_cons (pe_lc (own := [("_law_k", 3)]) (g := gName 3) rfl sc_l_kinds.nd (pi_range1 (by rfl) B.range (pa_cons (pv 2) pa_nil)) (blkOk_by (own := [("_law_k", 3)]) (N := ["_law_flow_here", "_law_top", "_law_size", "_law_k"]) (sc := defScope s_l_kinds) (by decide +kernel)) (fun _ _ _ _ _ => (pg_name (i := 3) sc_l_kinds.nd rfl (.inl rfl))) (fun _ _ _ _ _ => pts_nil) (fun _ _ _ _ _ => (pe_ix (ix_listK (K := K) rfl) (pe_lst (pa_cons pe_str (pa_cons pe_str (pa_cons pe_str (pa_cons pe_str pa_nil))))) (pe_cal C_l_draw hr' (by rfl) (pa_cons (pv 0) (pa_cons pe_int pa_nil))) (fun _ _ => rfl)))) pa_nil))))), ?_⟩
  refine ⟨_, rfl, _, rfl, _, _, rfl, rfl, f, _, rfl, fl, by omega, by omega, fun n1 H1 n10 n11 dr1 => ⟨_, rfl, _, rfl, _, _, rfl, rfl, f, _, rfl, dr1.fl, by omega, by omega, fun n2 H2 n20 n21 dr2 => ⟨_, _, rfl, ?_⟩⟩⟩
  obtain ⟨n, en, n0, n3⟩ : ∃ n : Int, (if n2 > n1 then n2 else n1) = n ∧ 0 ≤ n ∧ n ≤ top := by
    refine ⟨_, rfl, ?_, ?_⟩ <;> split <;> omega
  rw [en]
  have g2 := dr1.g.trans dr2.g
  refine ⟨_, rfl, n, rfl, by omega, by omega, fun D hD => lc_range (lo := 0) (n := n.toNat) (fun i H' => Gr [] f H2 H' ∧ ∃ ks : List Bool, ks.length = i ∧ H' D = some (.lst (kVs ks))) ?_ ?_ ?_⟩
  · exact ⟨Gr.new dr2.fl hD, [], rfl, upd_same⟩
  · rintro i H' hi ⟨g, ks, hl, hA⟩
    refine ⟨rfl, (by show 4 ≤ sizeLine; decide), fun p hp => ?_⟩
    have gp : Gr [] f H2 (upd H' p (.lst [.str "num", .str "num", .str "num", .str "truth"])) := g.trans (Gr.new g.fl hp)
    have hp1 : (upd H' p (.lst [.str "num", .str "num", .str "num", .str "truth"])) p = some (.lst [.str "num", .str "num", .str "num", .str "truth"]) := upd_same
    have npD : D ≠ p := ne_of_none hA hp
    have hA1 : (upd H' p (.lst [.str "num", .str "num", .str "num", .str "truth"])) D = some (.lst (kVs ks)) := by rw [upd_ne npD]; exact hA
    have npf := fl_ne g.fl hp
    have nDf := fl_ne dr2.fl hD
    generalize upd H' p (.lst [.str "num", .str "num", .str "num", .str "truth"]) = H3 at gp hp1 hA1
    refine ⟨_, rfl, f, 4, rfl, gp.fl, by decide, by decide, fun j H4 j0 j1 dr4 => ?_⟩
    have hp4 := (dr4.off p npf).trans hp1
    have hA4 := (dr4.off D nDf).trans hA1
    have g4 := gp.trans dr4.g
    have kl : (kVs ks).length = ks.length := List.length_map _
    have fin : ∀ b : Bool, ∃ acc, H4 D = some (.lst acc) ∧ acc.length < sizeLine ∧ (Gr [] f H2 (upd H4 D (.lst (acc ++ [V.str (kS b)]))) ∧ ∃ ks : List Bool, ks.length = i + 1 ∧ (upd H4 D (.lst (acc ++ [V.str (kS b)]))) D = some (.lst (kVs ks))) := fun b =>
      ⟨_, hA4, by rw [kl]; exact smallL (by omega), g4.put hD nDf, ks ++ [b], by rw [List.length_append, hl]; rfl, by rw [upd_same]; unfold kVs; rw [List.map_append]; rfl⟩
    rcases (show j = 0 ∨ j = 1 ∨ j = 2 ∨ j = 3 by omega) with z | z | z | z <;> subst z
    · exact ⟨p, _, 0, .str "num", rfl, rfl, SqL.of hp4, rfl, fin false⟩
    · exact ⟨p, _, 1, .str "num", rfl, rfl, SqL.of hp4, rfl, fin false⟩
    · exact ⟨p, _, 2, .str "num", rfl, rfl, SqL.of hp4, rfl, fin false⟩
    · exact ⟨p, _, 3, .str "truth", rfl, rfl, SqL.of hp4, rfl, fin true⟩
  · rintro H' ⟨g, ks, hl, hA⟩
    exact ⟨D, _, rfl, .inl ⟨SqL.of hA, fun t ht => q t ks _ ((g2.trans g).trans (Gr.new g.fl ht)) (by omega) upd_same⟩⟩
abbrev s_l_little : Stmt := topS 22
theorem sc_l_little : FnScope ["_law_flow_here"] ["_law_flow_here"] (defScope s_l_little) := ⟨rfl, rfl, rfl, by decide +kernel, rfl, by decide +kernel, by decide +kernel⟩
def spLittle : Sp := fun vs H Q _ => ∃ f : Addr, vs = [.ref f] ∧ Flow H f ∧ ∀ (i : Int) (H' : Hp), Gr [] f H H' → -1000 ≤ i → i ≤ 1000 → Q (.int i) H'
theorem ok_l_little (C_l_draw : Cal P w K mg base 1 "_law_draw" ["_law_flow_here", "_law_wide"] (spDraw)) (D : DefAt K mg "_law_little" s_l_little ["_law_flow_here"]) : Cal P w K mg base 2 "_law_little" ["_law_flow_here"] (spLittle) := by
  refine cal_of D sc_l_little (fun vs H Q E h => ?_) (fun f cdv A outer s H vs Q E hr h => ?_)
  · obtain ⟨a, rfl, _⟩ := h
    rfl
  obtain ⟨f, rfl, fl, q⟩ := h
  have hr' : Room 1 _ := hr
  refine ⟨_, (pss_one (ps_ret (pe_ix ix_list (pe_lst (pa_cons pe_int (pa_cons pe_int (pa_cons (pe_op op_sub pe_int pe_int) (pa_cons pe_int (pa_cons (pe_op op_sub pe_int pe_int) (pa_cons pe_int (pa_cons pe_int (pa_cons pe_int pa_nil))))))))) (pe_cal C_l_draw hr' (by rfl) (pa_cons (pv 0) (pa_cons pe_int pa_nil))) (fun _ _ => rfl)))), ?_⟩
  refine ⟨_, _, rfl, rfl, _, _, rfl, rfl, (by show 8 ≤ sizeLine; decide), fun p hp => ?_⟩
  have gp : Gr [] f H (upd H p (.lst [.int 0, .int 1, .int (0 - 1), .int 2, .int (0 - 2), .int 0, .int 1, .int 3])) := Gr.new fl hp
  have hp1 : (upd H p (.lst [.int 0, .int 1, .int (0 - 1), .int 2, .int (0 - 2), .int 0, .int 1, .int 3])) p = some (.lst [.int 0, .int 1, .int (0 - 1), .int 2, .int (0 - 2), .int 0, .int 1, .int 3]) := upd_same
  have npf := fl_ne fl hp
  generalize upd H p (.lst [.int 0, .int 1, .int (0 - 1), .int 2, .int (0 - 2), .int 0, .int 1, .int 3]) = H3 at gp hp1
  refine ⟨_, rfl, f, 8, rfl, gp.fl, by decide, by decide, fun j H4 j0 j1 dr4 => ?_⟩
  have hp4 := (dr4.off p npf).trans hp1
  have g4 := gp.trans dr4.g
  rcases (show j = 0 ∨ j = 1 ∨ j = 2 ∨ j = 3 ∨ j = 4 ∨ j = 5 ∨ j = 6 ∨ j = 7 by omega) with z | z | z | z | z | z | z | z <;> subst z
  all_goals exact ⟨p, _, _, _, rfl, rfl, SqL.of hp4, rfl, q _ _ g4 (by decide) (by decide)⟩
abbrev s_l_leaf : Stmt := topS 23
theorem sc_l_leaf : FnScope ["_law_flow_here", "_law_kinds_here", "_law_kind", "_law_some", "_law_k", "_law_one"] ["_law_flow_here", "_law_kinds_here", "_law_kind"] (defScope s_l_leaf) := ⟨rfl, rfl, rfl, by decide +kernel, rfl, by decide +kernel, by decide +kernel⟩
def spLeaf2 (K : PySem.W.Frag) : Sp := fun vs H Q _ => ∃ (f ka : Addr) (ks : List Bool) (k : Bool), vs = [.ref f, .ref ka, .str (kS k)] ∧ Flow H f ∧ SqT K H ka (kVs ks) ∧ ks.length ≤ 100 ∧
  ∀ (v : V) (p : Pg) (H' : Hp), Gr [] f H H' → At K H' v p → Wn ks p → own ks p = k → psz p = 1 → Q v H'
theorem kS_inj {a b : Bool} (h : V.str (kS a) = V.str (kS b)) : a = b := by
  cases a <;> cases b <;> first | rfl | exact absurd h (by decide +kernel)
theorem ok_l_leaf2 (B : Bt mg) (C_l_draw : Cal P w K mg base 1 "_law_draw" ["_law_flow_here", "_law_wide"] (spDraw)) (C_l_little : Cal P w K mg base 2 "_law_little" ["_law_flow_here"] (spLittle)) (D : DefAt K mg "_law_leaf" s_l_leaf ["_law_flow_here", "_law_kinds_here", "_law_kind"]) : Cal P w K mg base 3 "_law_leaf" ["_law_flow_here", "_law_kinds_here", "_law_kind"] (spLeaf2 K) := by
  refine cal_of D sc_l_leaf (fun vs H Q E h => ?_) (fun f cdv A outer s H vs Q E hr h => ?_)
  · obtain ⟨f, ka, ks, k, rfl, _⟩ := h
    rfl
  obtain ⟨f, ka, ks, k, rfl, fl, hk, hk3, q⟩ := h
  have C_l_draw := C_l_draw.mono (k := 2) (by decide)
  have hr' : Room 2 _ := hr
  refine ⟨_, (pss_cons (ps_setLc (i := 3) (own := [("_law_k", 4), ("_law_one", 5)]) (g := gTup K 2 (gCons (gName 4) (gCons (gName 5) gNil))) rfl sc_l_leaf.nd rfl rfl (sw_true rfl rfl rfl (by decide +kernel)) (pi_enumT (by rfl) B.enumerate (pa_cons (pv 1) pa_nil)) (blkOk_by (own := [("_law_k", 4), ("_law_one", 5)]) (N := ["_law_flow_here", "_law_kinds_here", "_law_kind", "_law_some", "_law_k", "_law_one"]) (sc := defScope s_l_leaf) (by decide +kernel)) (fun _ _ _ _ _ => (pg_tupK (K := K) rfl rfl (pgs_cons (pg_name (i := 4) sc_l_leaf.nd rfl (.inl rfl)) (pgs_cons (pg_name (i := 5) sc_l_leaf.nd rfl (.inl rfl)) pgs_nil)))) (fun _ _ _ _ _ => (pts_one (pt_cmpR op_eq (pv 5) (pv 2) (nomark _)))) (fun _ _ _ _ _ => (pe_tup (pa_cons pe_str (pa_cons (pv 4) pa_nil)))))
      (C8.pss_cut (ps_if (PW.pt (pw_and (pt_cmpR op_gt (pe_callB call_len_seq (by rfl) B.len PySem.boot_len (pa_cons (pv 3) pa_nil)) pe_int (nomark _)) (pw_and1 (pt_cmpR op_gt (pe_cal C_l_draw hr' (by rfl) (pa_cons (pv 0) (pa_cons pe_int pa_nil))) pe_int (nomark _)))))
        (pss_one (ps_ret (pe_ix ix_list (pv 3) (pe_cal C_l_draw hr' (by rfl) (pa_cons (pv 0) (pa_cons (pe_callB call_len_seq (by rfl) B.len PySem.boot_len (pa_cons (pv 3) pa_nil)) pa_nil))) (fun _ _ => rfl))))
        pss_nil)
      (pss_cons (ps_if (pt_cmpR op_eq (pv 2) pe_str (nomark _))
        (pss_one (ps_ret (pe_tup (pa_cons pe_str (pa_cons (pe_cal C_l_little hr' (by rfl) (pa_cons (pv 0) pa_nil)) pa_nil)))))
        pss_nil)
      (pss_one (ps_ret (pe_ix ix_list (pe_lst (pa_cons (pe_tup (pa_cons pe_str pa_nil)) (pa_cons (pe_tup (pa_cons pe_str pa_nil)) pa_nil))) (pe_cal C_l_draw hr' (by rfl) (pa_cons (pv 0) (pa_cons pe_int pa_nil))) (fun _ _ => rfl))))))), ?_⟩
  refine ⟨_, rfl, ka, _, rfl, hk, fun D hD => lc_it (walk_enumT (K := K) (a := ka) (xs := kVs ks)) (fun i H' => Same H H' ∧ ∃ acc, H' D = some (.lst acc) ∧ acc.length ≤ i ∧ ∀ v ∈ acc, ∃ j, ks[j]? = some k ∧ At K H' v (.inp j)) ?_ ?_ ?_ ?_⟩
  · exact ⟨same_new hD, [], upd_same, Nat.le_refl _, fun v hv => nomatch hv⟩
  · rintro i H' _ ⟨sm, _⟩
    exact Tp.same sm _ _ hk
  · rintro i x H' H2 hi ⟨sm, acc, hA, hl, hP⟩ ⟨T, p, y, rfl, hT, rfl, hp, hy⟩
    have hp' := Option.some.inj hp
    subst hp'
    have sm2 := same_new (o := .tup [.int (i : Nat), y]) hT
    have eT : (upd H' T (.tup [.int (i : Nat), y])) T = some (.tup [.int (i : Nat), y]) := upd_same
    generalize upd H' T (.tup [.int (i : Nat), y]) = H2 at sm2 eT
    have hi' : i < ks.length := by
      unfold kVs at hi
      rw [List.length_map] at hi
      exact hi
    have ek : (kVs ks)[i]? = some (.str (kS ks[i])) := by
      unfold kVs
      rw [List.getElem?_map, List.getElem?_eq_getElem hi']
      rfl
    have hy : (kVs ks)[i]? = some y := hy
    rw [ek] at hy
    cases hy
    have hA2 := sm2 _ _ hA
    refine ⟨T, _, rfl, .inl (.inl eT), rfl, _, _, rfl, _, _, rfl, rfl, rfl, _, rfl, _, rfl, rfl, _, rfl, ite2 (fun c => ?_) (fun c => ?_)⟩
    · have c2 : ks[i] = k := kS_inj (of_decide_eq_true c)
      refine ⟨_, rfl, (by show 2 ≤ sizeLine; decide), fun p hp => ⟨acc, ?_, smallL (by omega), ?_⟩⟩
      · rw [upd_ne (ne_of_none hA2 hp)]
        exact hA2
      · have sp : Same H2 (upd H2 p (.tup [.str "in", .int (i : Nat)])) := same_new hp
        have hD' := sp _ _ hA2
        have ep : (upd H2 p (.tup [.str "in", .int (i : Nat)])) p = some (.tup [.str "in", .int (i : Nat)]) := upd_same
        generalize upd H2 p (.tup [.str "in", .int (i : Nat)]) = H3 at sp hD' ep
        have tp : Tp K H3 (upd H3 D (.lst (acc ++ [.ref p]))) := Tp.lst hD'
        refine ⟨fun b o z => ?_, acc ++ [.ref p], upd_same, by rw [List.length_append, List.length_singleton]; omega, fun v hv => ?_⟩
        · rw [upd_ne (ne_of_none z hD)]
          exact sp _ _ (sm2 _ _ (sm _ _ z))
        · rcases List.mem_append.mp hv with z | z
          · obtain ⟨j, e1, e2⟩ := hP v z
            exact ⟨j, e1, e2.keep (((Tp.same sm2).trans (Tp.same sp)).trans tp)⟩
          · rw [List.mem_singleton.mp z]
            exact ⟨i, by rw [List.getElem?_eq_getElem hi', c2], .tup (tp _ _ (.inl (.inl ep))) (.cons (.str _) (.cons (.int _) .nil))⟩
    · refine ⟨fun b o z => sm2 _ _ (sm _ _ z), acc, hA2, by omega, fun v hv => ?_⟩
      obtain ⟨j, e1, e2⟩ := hP v hv
      exact ⟨j, e1, e2.keep (Tp.same sm2)⟩
  rintro H1 ⟨sm, acc, hA, hl, hP⟩
  have kl : (kVs ks).length = ks.length := List.length_map _
  have g1 : Gr [] f H H1 := gr_same' fl sm
  have nDf := fl_ne fl hD
  refine ⟨fun σ' H2 => σ' = [some (.ref f), some (.ref ka), some (.str (kS k)), some (.ref D), none, none] ∧ Gr [] f H H2, ?_, ?_⟩
  · have no : ∀ H2, Gr [] f H H2 → ((fun σ' H2 => σ' = [some (.ref f), some (.ref ka), some (.str (kS k)), some (.ref D), none, none] ∧ Gr [] f H H2) : L2.St → Hp → Prop) [some (.ref f), some (.ref ka), some (.str (kS k)), some (.ref D), none, none] H2 := fun H2 g => ⟨rfl, g⟩
    refine ⟨_, rfl, D, acc, rfl, .inl (SqL.of hA), _, _, rfl, rfl, _, rfl, ite2 (fun c => ?_) (fun c => iteF (no _ g1))⟩
    have c' : ((acc.length : Nat) : Int) > 0 := of_decide_eq_true c
    refine ⟨_, rfl, f, 4, rfl, g1.fl, by decide, by decide, fun d H2 d0 d1 r2 => ⟨_, _, rfl, rfl, _, rfl, ite2 (fun c2 => ?_) (fun c2 => no _ (g1.trans r2.g))⟩⟩
    have g2 := g1.trans r2.g
    have hA2 := (r2.off D nDf).trans hA
    refine ⟨_, rfl, _, rfl, _, rfl, D, acc, rfl, .inl (SqL.of hA2), f, _, rfl, g2.fl, c', by omega, fun j H4 j0 j1 r4 => ?_⟩
    have hA4 := (r4.off D nDf).trans hA2
    have hj : j.toNat < acc.length := by omega
    obtain ⟨i, e1, e2⟩ := hP acc[j.toNat] (List.getElem_mem hj)
    refine ⟨D, acc, j, acc[j.toNat], rfl, rfl, SqL.of hA4, at_of (j := j.toNat) (by omega) (List.getElem?_eq_getElem hj), q _ (.inp i) _ (g2.trans r4.g) ((e2.keep (r2.tp g1.fl)).keep (r4.tp g2.fl)) ?_ ?_ rfl⟩
    · exact ⟨(List.getElem?_eq_some_iff.mp e1).1, True.intro⟩
    · show ks.getD i false = k
      rw [List.getD_eq_getElem?_getD, e1]
      rfl
  rintro _ H2 ⟨rfl, g2⟩
  refine ⟨_, rfl, rfl, _, rfl, ite2 (fun c => ?_) (fun c => ?_)⟩
  · have ek : k = false := kS_inj (a := k) (b := false) (of_decide_eq_true c)
    subst ek
    refine ⟨_, rfl, f, rfl, g2.fl, fun num H3 g3 n0 n1 => ⟨(by show 2 ≤ sizeLine; decide), fun p hp => ?_⟩⟩
    have g := g2.trans g3
    exact q _ (.num num) _ (g.trans (Gr.new g.fl hp)) (.tup (.inl (.inl upd_same)) (.cons (.str _) (.cons (.int _) .nil))) ⟨True.intro, n0, n1⟩ rfl rfl
  · have ek : k = true := by
      cases k
      · exact absurd (decide_eq_true rfl) c
      · rfl
    subst ek
    refine ⟨(by show 1 ≤ sizeLine; decide), fun p hp => ⟨(by show 1 ≤ sizeLine; decide), fun p2 hp2 => ⟨(by show 2 ≤ sizeLine; decide), fun l hl => ?_⟩⟩⟩
    have s1 := same_new (o := .tup [V.str "yes"]) hp
    have e1 : (upd H2 p (.tup [V.str "yes"])) p = some (.tup [V.str "yes"]) := upd_same
    generalize upd H2 p (.tup [V.str "yes"]) = H3 at s1 e1 hp2 hl
    have s2 := same_new (o := .tup [V.str "no"]) hp2
    have e2 : (upd H3 p2 (.tup [V.str "no"])) p2 = some (.tup [V.str "no"]) := upd_same
    generalize upd H3 p2 (.tup [V.str "no"]) = H4 at s2 e2 hl
    have s3 := same_new (o := .lst [V.ref p, V.ref p2]) hl
    have e3 : (upd H4 l (.lst [V.ref p, V.ref p2])) l = some (.lst [V.ref p, V.ref p2]) := upd_same
    have g4 := g2.trans (gr_same' g2.fl (s1.trans s2))
    have nlf := fl_ne g4.fl hl
    generalize upd H4 l (.lst [V.ref p, V.ref p2]) = H5 at s3 e3
    have g5 := g4.trans (gr_same' g4.fl s3)
    refine ⟨_, rfl, f, 2, rfl, g5.fl, by decide, by decide, fun b H6 b0 b1 r6 => ?_⟩
    have h6 := (r6.off l nlf).trans e3
    have tp6 : Tp K H5 H6 := r6.tp g5.fl
    rcases (show b = 0 ∨ b = 1 by omega) with z | z <;> subst z
    · exact ⟨l, _, 0, .ref p, rfl, rfl, SqL.of h6, rfl, q _ (.tr true) _ (g5.trans r6.g) (.tup (tp6 _ _ (.inl (.inl (s3 _ _ (s2 _ _ e1))))) (.cons (.str _) .nil)) ⟨True.intro, True.intro⟩ rfl rfl⟩
    · exact ⟨l, _, 1, .ref p2, rfl, rfl, SqL.of h6, rfl, q _ (.tr false) _ (g5.trans r6.g) (.tup (tp6 _ _ (.inl (.inl (s3 _ _ e2)))) (.cons (.str _) .nil)) ⟨True.intro, True.intro⟩ rfl rfl⟩
end
end Lm

set_option Elab.async false
set_option linter.all false
set_option maxRecDepth 100000
set_option maxHeartbeats 2000000
set_option pp.maxSteps 600
set_option pp.deepTerms.threshold 6
namespace Lm
open PySem PySem.Spec PyProof.Rows L2 LmR
section
variable {P : Program} {w : World} {K : PySem.W.Frag} {mg : Str → Option Value} {base : Heap}
abbrev s_l_plan : Stmt := topS 24
theorem sc_l_plan : FnScope ["_law_flow_here", "_law_kinds_here", "_law_kind", "_law_room", "_law_form", "_law_half", "_law_parts", "_law_word", "_law_one", "_law_inner_here", "_law_third", "_law_test", "_law_rest"] ["_law_flow_here", "_law_kinds_here", "_law_kind", "_law_room"] (defScope s_l_plan) := ⟨rfl, rfl, rfl, by decide +kernel, rfl, by decide +kernel, by decide +kernel⟩
def spPlan (K : PySem.W.Frag) (n : Nat) : Sp := fun vs H Q _ => ∃ (f ka : Addr) (ks : List Bool) (k : Bool) (room : Int), vs = [.ref f, .ref ka, .str (kS k), .int room] ∧ Flow H f ∧ SqT K H ka (kVs ks) ∧ ks.length ≤ 100 ∧ 1 ≤ room ∧ room ≤ n ∧ room ≤ 1000 ∧
  ∀ (v : V) (p : Pg) (H' : Hp), Gr [] f H H' → At K H' v p → Wn ks p → own ks p = k → (psz p : Int) ≤ room → Q v H'
theorem ok_l_plan1 {n : Nat} (B : Bt mg) (C_l_draw : Cal P w K mg base 1 "_law_draw" ["_law_flow_here", "_law_wide"] (spDraw)) (C_l_little : Cal P w K mg base 2 "_law_little" ["_law_flow_here"] (spLittle)) (C_l_leaf : Cal P w K mg base 3 "_law_leaf" ["_law_flow_here", "_law_kinds_here", "_law_kind"] (spLeaf2 K)) (C_l_plan : Cal P w K mg base (n + 3) "_law_plan" ["_law_flow_here", "_law_kinds_here", "_law_kind", "_law_room"] (spPlan K n)) (D : DefAt K mg "_law_plan" s_l_plan ["_law_flow_here", "_law_kinds_here", "_law_kind", "_law_room"]) : Cal P w K mg base (n + 3 + 1) "_law_plan" ["_law_flow_here", "_law_kinds_here", "_law_kind", "_law_room"] (spPlan K (n + 1)) := by
  refine cal_of D sc_l_plan (fun vs H Q E h => ?_) (fun f cdv A outer s H vs Q E hr h => ?_)
  · obtain ⟨f, ka, ks, k, room, rfl, _⟩ := h
    rfl
  obtain ⟨f, ka, ks, k, room, rfl, fl, hk, hk3, r1, r2, r3, q⟩ := h
  have C_l_draw := C_l_draw.mono (k := n + 3) (by omega)
  have C_l_little := C_l_little.mono (k := n + 3) (by omega)
  have C_l_leaf := C_l_leaf.mono (k := n + 3) (by omega)
  have hr' : Room (n + 3) _ := hr
  refine ⟨_, (pss_cons (ps_set (i := 4) sc_l_plan.nd rfl (.inl rfl) (pe_cal C_l_draw hr' (by rfl) (pa_cons (pv 0) (pa_cons pe_int pa_nil))))
      (pss_cons (ps_if (PW.pt (pw_or (pt_cmpR op_lt (pv 3) pe_int (nomark _)) (pw_or1 (pt_cmpR op_eq (pv 4) pe_int (nomark _)))))
        (pss_one (ps_ret (pe_cal C_l_leaf hr' (by rfl) (pa_cons (pv 0) (pa_cons (pv 1) (pa_cons (pv 2) pa_nil))))))
        pss_nil)
      (pss_cons (ps_if (PW.pt (pw_or (pt_cmpR op_lt (pv 3) pe_int (nomark _)) (pw_or1 (pt_cmpR op_eq (pv 4) pe_int (nomark _)))))
        (pss_cons (ps_set (i := 9) sc_l_plan.nd rfl (.inl rfl) (pe_cal C_l_plan hr' (by rfl) (pa_cons (pv 0) (pa_cons (pv 1) (pa_cons (pv 2) (pa_cons (pe_op op_sub (pv 3) pe_int) pa_nil))))))
      (pss_one (ps_ret (pe_ifExp (pt_cmpR op_eq (pv 2) pe_str (nomark _)) (pe_tup (pa_cons pe_str (pa_cons (pe_cal C_l_little hr' (by rfl) (pa_cons (pv 0) pa_nil)) (pa_cons (pv 9) pa_nil)))) (pe_tup (pa_cons pe_str (pa_cons (pv 9) pa_nil)))))))
        pss_nil)
      (pss_cons (ps_set (i := 5) sc_l_plan.nd rfl (.inl rfl) (pe_op op_add pe_int (pe_cal C_l_draw hr' (by rfl) (pa_cons (pv 0) (pa_cons (pe_op op_sub (pv 3) pe_int) pa_nil)))))
      (C8.pss_cut (ps_if (PW.pt (pw_and (pt_cmpR op_eq (pv 4) pe_int (nomark _)) (pw_and1 (pt_cmpR op_gt (pv 3) pe_int (nomark _)))))
        (pss_cons (ps_set (i := 10) sc_l_plan.nd rfl (.inl rfl) (pe_op op_add pe_int (pe_cal C_l_draw hr' (by rfl) (pa_cons (pv 0) (pa_cons (pe_op op_sub (pv 3) pe_int) pa_nil)))))
      (pss_cons (ps_par (i := 11) (j := 12) rfl sc_l_plan.nd rfl rfl (by decide) rfl rfl (pa_cons (pe_cal C_l_plan hr' (by rfl) (pa_cons (pv 0) (pa_cons (pv 1) (pa_cons pe_str (pa_cons (pv 10) pa_nil))))) (pa_cons (pe_op op_add pe_int (pe_cal C_l_draw hr' (by rfl) (pa_cons (pv 0) (pa_cons (pe_op op_sub (pe_op op_sub (pv 3) pe_int) (pv 10)) pa_nil)))) pa_nil)) rfl)
      (pss_cons (ps_set (i := 8) sc_l_plan.nd rfl (.inl rfl) (pe_cal C_l_plan hr' (by rfl) (pa_cons (pv 0) (pa_cons (pv 1) (pa_cons (pv 2) (pa_cons (pv 12) pa_nil))))))
      (pss_one (ps_ret (pe_tup (pa_cons pe_str (pa_cons (pv 11) (pa_cons (pv 8) (pa_cons (pe_cal C_l_plan hr' (by rfl) (pa_cons (pv 0) (pa_cons (pv 1) (pa_cons (pv 2) (pa_cons (pe_op op_sub (pe_op op_sub (pe_op op_sub (pv 3) pe_int) (pv 10)) (pv 12)) pa_nil))))) pa_nil))))))))))
        pss_nil)
      (C8.pss_cut (ps_set (i := 6) sc_l_plan.nd rfl (.inl rfl) (pe_ifExp (PW.pt (pw_or (pt_cmpR op_eq (pv 2) pe_str (nomark _)) (pw_or1 (pt_cmpR op_gt (pv 4) pe_int (nomark _))))) pe_str pe_str))
      (C8.pss_cut (ps_set (i := 7) sc_l_plan.nd rfl (.inl rfl) (pe_ix ix_list (pe_ix ix_list (pe_lst (pa_cons (pe_lst (pa_cons pe_str (pa_cons pe_str pa_nil))) (pa_cons (pe_lst (pa_cons pe_str (pa_cons pe_str pa_nil))) pa_nil))) (pe_callTy call_int1 (by rfl) B.int PyProof.Rows.boot_int (pa_cons (pe_cmpR op_eq (pv 2) pe_str (nomark _)) pa_nil)) (fun _ _ => rfl)) (pe_cal C_l_draw hr' (by rfl) (pa_cons (pv 0) (pa_cons pe_int pa_nil))) (fun _ _ => rfl)))
      (C8.pss_cut (ps_if (PW.pt (pw_and (pt_cmpR op_eq (pv 2) pe_str (nomark _)) (pw_and1 (pt_cmpR op_eq (pv 6) pe_str (nomark _)))))
        (pss_one (ps_set (i := 7) sc_l_plan.nd rfl (.inl rfl) pe_str))
        pss_nil)
      (pss_cons (ps_set (i := 8) sc_l_plan.nd rfl (.inl rfl) (pe_cal C_l_plan hr' (by rfl) (pa_cons (pv 0) (pa_cons (pv 1) (pa_cons (pv 6) (pa_cons (pv 5) pa_nil))))))
      (pss_one (ps_ret (pe_tup (pa_cons (pv 7) (pa_cons (pv 8) (pa_cons (pe_cal C_l_plan hr' (by rfl) (pa_cons (pv 0) (pa_cons (pv 1) (pa_cons (pv 6) (pa_cons (pe_op op_sub (pe_op op_sub (pv 3) pe_int) (pv 5)) pa_nil))))) pa_nil))))))))))))))), ?_⟩
  have pl : ∀ {k' : Bool} {room' : Int} {H1 : Hp} {Q' : VK}, Gr [] f H H1 → 1 ≤ room' → room' < room → (∀ (v : V) (p : Pg) (H2 : Hp), Gr [] f H H2 → Tp K H1 H2 → At K H2 v p → Wn ks p → own ks p = k' → (psz p : Int) ≤ room' → Q' v H2) → spPlan K n [.ref f, .ref ka, .str (kS k'), .int room'] H1 Q' (fun _ _ _ => False) := fun {k'} {room'} {H1} {Q'} g a b q' =>
    ⟨f, ka, ks, k', room', rfl, g.fl, g.tp fl _ _ hk, hk3, a, by omega, by omega, fun v p H2 g2 h1 h2 h3 h4 => q' v p H2 (g.trans g2) (g2.tp g.fl) h1 h2 h3 h4⟩
  refine ⟨_, rfl, f, 7, rfl, fl, by decide, by decide, fun d H1 d0 d1 dr1 => ?_⟩
  have g1 := dr1.g
  have lf : spLeaf2 K [.ref f, .ref ka, .str (kS k)] H1 Q (fun _ _ _ => False) := ⟨f, ka, ks, k, rfl, g1.fl, g1.tp fl _ _ hk, hk3, fun v p H' g a wn ow sz => q v p H' (g1.trans g) a wn ow (by omega)⟩
  refine ⟨_, rfl, _, _, rfl, rfl, _, rfl, ite2 (fun c => iteT ⟨_, rfl, _, rfl, _, rfl, lf⟩) (fun c => ⟨_, rfl, rfl, _, rfl, ite2 (fun _ => ⟨_, rfl, _, rfl, _, rfl, lf⟩) (fun _ => ?_)⟩)⟩
  have two : 2 ≤ room := by
    by_cases z : room < 2
    · exact absurd (decide_eq_true z) c
    · omega
  clear lf
  have inner : (tSeq
            (tAsg
              (tCall (spPlan K n) [] (fun x x_1 x_2 => False)
                (tCons (tVar 0)
                  (tCons (tVar 1)
                    (tCons (tVar 2) (tCons (tOp (rI0 fun i j => V.int (i - j)) (tVar 3) (tC (V.int 1))) tNil)))))
              (gName 9))
            (tRet (tIf (tTest (tOp rEq (tVar 2) (tC (.str "num")))) (tTup (tCons (tC (.str "plus")) (tCons (tCall spLittle [] (fun x x_1 x_2 => False) (tCons (tVar 0) tNil)) (tCons (tVar 9) tNil)))) (tTup (tCons (tC (.str "not")) (tCons (tVar 9) tNil))))))
        { nx := fun _ H' => Q V.non H', rt := Q } [some (.ref f), some (.ref ka), some (.str (kS k)), some (.int room), some (.int d), none, none, none, none, none, none, none, none] H1 := by
    refine ⟨_, rfl, _, rfl, _, rfl, _, rfl, _, _, rfl, rfl, pl g1 (by omega) (by omega) fun v p H2 g2 tp2 a wn ow sz => ?_⟩
    refine ⟨_, rfl, rfl, _, rfl, ite2 (fun c => ?_) (fun c => ?_)⟩
    · have ek : k = false := kS_inj (a := k) (b := false) (of_decide_eq_true c)
      subst ek
      refine ⟨_, rfl, f, rfl, g2.fl, fun i H3 g3 i0 i1 => ⟨_, rfl, (by show 3 ≤ sizeLine; decide), fun t ht => ?_⟩⟩
      have g := g2.trans g3
      have s4 := same_new (o := .tup [V.str "plus", V.int i, v]) ht
      exact q _ (.plus i p) _ (g.trans (Gr.new g.fl ht)) (.tup (.inl (.inl upd_same)) (.cons (.str _) (.cons (.int _) (.cons ((a.keep (g3.tp g2.fl)).keep (Tp.same s4)) .nil)))) ⟨⟨wn.1, ow⟩, ⟨i0, i1⟩, wn.2⟩ rfl (by show ((psz p + 1 : Nat) : Int) ≤ room; omega)
    · have ek : k = true := by
        cases k
        · exact absurd (decide_eq_true rfl) c
        · rfl
      subst ek
      refine ⟨_, rfl, (by show 2 ≤ sizeLine; decide), fun t ht => ?_⟩
      have s4 := same_new (o := .tup [V.str "not", v]) ht
      exact q _ (.neg p) _ (g2.trans (Gr.new g2.fl ht)) (.tup (.inl (.inl upd_same)) (.cons (.str _) (.cons (a.keep (Tp.same s4)) .nil))) ⟨⟨wn.1, ow⟩, wn.2⟩ rfl (by show ((psz p + 1 : Nat) : Int) ≤ room; omega)
  refine ⟨_, rfl, _, _, rfl, rfl, _, rfl, ite2 (fun c => iteT inner) (fun c2 => ⟨_, rfl, rfl, _, rfl, ite2 (fun _ => inner) (fun _ => ?_)⟩)⟩
  have three : 3 ≤ room := by
    by_cases z : room < 3
    · exact absurd (decide_eq_true z) c2
    · omega
  clear inner
  refine ⟨_, rfl, _, rfl, _, _, rfl, rfl, f, _, rfl, g1.fl, by omega, by omega, fun hf H2 hf0 hf1 dr2 => ⟨_, _, rfl, rfl, ?_⟩⟩
  have g2 := g1.trans dr2.g
  refine ⟨fun σ' H3 => σ' = [some (.ref f), some (.ref ka), some (.str (kS k)), some (.int room), some (.int d), some (.int (1 + hf)), none, none, none, none, none, none, none] ∧ H2 = H3, ?_, ?_⟩
  · refine ⟨_, rfl, rfl, _, rfl, ite2 (fun _ => ⟨_, rfl, _, _, rfl, rfl, _, rfl, ite2 (fun c3 => ?_) (fun _ => ⟨rfl, rfl⟩)⟩) (fun _ => ⟨rfl, rfl⟩)⟩
    have four : 3 < room := of_decide_eq_true c3
    refine ⟨_, rfl, _, rfl, _, _, rfl, rfl, f, _, rfl, g2.fl, by omega, by omega, fun th H3 th0 th1 dr3 => ⟨_, _, rfl, rfl, ?_⟩⟩
    have g3 := g2.trans dr3.g
    refine ⟨_, rfl, _, rfl, _, rfl, pl (k' := true) (room' := 1 + th) g3 (by omega) (by omega) fun v1 p1 H4 g4 _ a1 wn1 ow1 sz1 => ?_⟩
    refine ⟨_, rfl, _, rfl, _, _, rfl, rfl, _, rfl, _, _, rfl, rfl, f, room - 2 - (1 + th), rfl, g4.fl, by omega, by omega, fun rs H5 rs0 rs1 dr5 => ⟨_, _, rfl, rfl, _, _, rfl, ?_⟩⟩
    have g5 := g4.trans dr5.g
    refine ⟨_, rfl, _, rfl, _, rfl, _, rfl, pl (k' := k) (room' := 1 + rs) g5 (by omega) (by omega) fun v2 p2 H6 g6 tp6 a2 wn2 ow2 sz2 => ?_⟩
    refine ⟨_, rfl, _, rfl, _, rfl, _, rfl, _, rfl, _, rfl, _, _, rfl, rfl, _, rfl, _, _, rfl, rfl, _, rfl, _, _, rfl, rfl, pl (k' := k) (room' := room - 1 - (1 + th) - (1 + rs)) g6 (by omega) (by omega) fun v3 p3 H7 g7 tp7 a3 wn3 ow3 sz3 => ⟨(by show 4 ≤ sizeLine; decide), fun t ht => ?_⟩⟩
    have tp5 : Tp K H4 H5 := dr5.tp g4.fl
    have s8 := same_new (o := .tup [V.str "if", v1, v2, v3]) ht
    refine q _ (.ite p1 p2 p3) _ (g7.trans (Gr.new g7.fl ht)) (.tup (.inl (.inl upd_same)) (.cons (.str _) (.cons ((((a1.keep tp5).keep tp6).keep tp7).keep (Tp.same s8)) (.cons ((a2.keep tp7).keep (Tp.same s8)) (.cons (a3.keep (Tp.same s8)) .nil))))) ⟨⟨wn1.1, wn2.1, wn3.1, ow1, by rw [ow2, ow3]⟩, wn1.2, wn2.2, wn3.2⟩ ow2 ?_
    show ((psz p1 + psz p2 + psz p3 + 1 : Nat) : Int) ≤ room
    omega
  rintro _ _ ⟨rfl, rfl⟩
  refine ⟨fun σ' H3 => (∃ kp : Bool, σ' = [some (.ref f), some (.ref ka), some (.str (kS k)), some (.int room), some (.int d), some (.int (1 + hf)), some (.str (kS kp)), none, none, none, none, none, none] ∧ (k = false → kp = false)) ∧ H2 = H3, ?_, ?_⟩
  · refine ⟨_, rfl, rfl, _, rfl, ite2 (fun c => iteT ⟨⟨false, rfl, fun _ => rfl⟩, rfl⟩) (fun c => ⟨_, rfl, _, _, rfl, rfl, _, rfl, ite2 (fun _ => ⟨⟨false, rfl, fun _ => rfl⟩, rfl⟩) (fun _ => ⟨⟨true, rfl, fun z => ?_⟩, rfl⟩)⟩)⟩
    subst z
    exact absurd (decide_eq_true rfl) c
  rintro _ _ ⟨⟨kp, rfl, hkp⟩, rfl⟩
  refine ⟨fun σ' H3 => (∃ w0 : Bw, σ' = [some (.ref f), some (.ref ka), some (.str (kS k)), some (.int room), some (.int d), some (.int (1 + hf)), some (.str (kS kp)), some (.str w0.str), none, none, none, none, none] ∧ w0.own = k ∧ w0.arg = k) ∧ Gr [] f H H3, ?_, ?_⟩
  · refine ⟨(by show 2 ≤ sizeLine; decide), fun l1 hl1 => ⟨(by show 2 ≤ sizeLine; decide), fun l2 hl2 => ⟨(by show 2 ≤ sizeLine; decide), fun l3 hl3 => ?_⟩⟩⟩
    have s1 := same_new (o := .lst [V.str "least", V.str "most"]) hl1
    have e1 : (upd H2 l1 (.lst [V.str "least", V.str "most"])) l1 = some (.lst [V.str "least", V.str "most"]) := upd_same
    generalize upd H2 l1 (.lst [V.str "least", V.str "most"]) = H3 at s1 e1 hl2 hl3
    have s2 := same_new (o := .lst [V.str "both", V.str "either"]) hl2
    have e2 : (upd H3 l2 (.lst [V.str "both", V.str "either"])) l2 = some (.lst [V.str "both", V.str "either"]) := upd_same
    generalize upd H3 l2 (.lst [V.str "both", V.str "either"]) = H4 at s2 e2 hl3
    have s3 := same_new (o := .lst [V.ref l1, V.ref l2]) hl3
    have e3 : (upd H4 l3 (.lst [V.ref l1, V.ref l2])) l3 = some (.lst [V.ref l1, V.ref l2]) := upd_same
    generalize upd H4 l3 (.lst [V.ref l1, V.ref l2]) = H5 at s3 e3
    have g5 := g2.trans (gr_same' g2.fl (s1.trans (s2.trans s3)))
    have n1 := fl_ne g2.fl hl1
    have n2 : l2 ≠ f := fl_ne (gr_same' g2.fl s1).fl hl2
    refine ⟨_, rfl, rfl, .inr ⟨_, rfl, ?_⟩⟩
    cases k with
    | false =>
      refine ⟨l3, _, 0, .ref l1, rfl, rfl, SqL.of e3, rfl, _, rfl, f, 2, rfl, g5.fl, by decide, by decide, fun j H6 j0 j1 r6 => ?_⟩
      have e6 := (r6.off l1 n1).trans (s3 _ _ (s2 _ _ e1))
      rcases (show j = 0 ∨ j = 1 by omega) with z | z <;> subst z
      · exact ⟨l1, _, 0, _, rfl, rfl, SqL.of e6, rfl, ⟨.least, rfl, rfl, rfl⟩, g5.trans r6.g⟩
      · exact ⟨l1, _, 1, _, rfl, rfl, SqL.of e6, rfl, ⟨.most, rfl, rfl, rfl⟩, g5.trans r6.g⟩
    | true =>
      refine ⟨l3, _, 1, .ref l2, rfl, rfl, SqL.of e3, rfl, _, rfl, f, 2, rfl, g5.fl, by decide, by decide, fun j H6 j0 j1 r6 => ?_⟩
      have e6 := (r6.off l2 n2).trans (s3 _ _ e2)
      rcases (show j = 0 ∨ j = 1 by omega) with z | z <;> subst z
      · exact ⟨l2, _, 0, _, rfl, rfl, SqL.of e6, rfl, ⟨.both, rfl, rfl, rfl⟩, g5.trans r6.g⟩
      · exact ⟨l2, _, 1, _, rfl, rfl, SqL.of e6, rfl, ⟨.either, rfl, rfl, rfl⟩, g5.trans r6.g⟩
  rintro _ H3 ⟨⟨w0, rfl, o0, a0⟩, g3⟩
  refine ⟨fun σ' H4 => (∃ w1 : Bw, σ' = [some (.ref f), some (.ref ka), some (.str (kS k)), some (.int room), some (.int d), some (.int (1 + hf)), some (.str (kS kp)), some (.str w1.str), none, none, none, none, none] ∧ w1.own = k ∧ w1.arg = kp) ∧ H3 = H4, ?_, ?_⟩
  · refine ⟨_, rfl, rfl, _, rfl, ite2 (fun c => ⟨_, rfl, rfl, _, rfl, ite2 (fun c3 => ?_) (fun c3 => ?_)⟩) (fun c => ?_)⟩
    · have ek : k = true := kS_inj (a := k) (b := true) (of_decide_eq_true c)
      have ep : kp = false := kS_inj (a := kp) (b := false) (of_decide_eq_true c3)
      subst ek ep
      exact ⟨⟨.atmost, rfl, rfl, rfl⟩, rfl⟩
    · have ek : k = true := kS_inj (a := k) (b := true) (of_decide_eq_true c)
      have ep : kp = true := by
        cases kp
        · exact absurd (decide_eq_true rfl) c3
        · rfl
      subst ek ep
      exact ⟨⟨w0, rfl, o0, a0⟩, rfl⟩
    · have ek : k = false := by
        cases k
        · rfl
        · exact absurd (decide_eq_true rfl) c
      have ep := hkp ek
      subst ek ep
      exact ⟨⟨w0, rfl, o0, a0⟩, rfl⟩
  rintro _ _ ⟨⟨w1, rfl, o1, b1⟩, rfl⟩
  refine ⟨_, rfl, _, rfl, _, rfl, _, rfl, pl (k' := kp) (room' := 1 + hf) g3 (by omega) (by omega) fun v1 p1 H4 g4 tp4 a1 wn1 ow1 sz1 => ?_⟩
  refine ⟨_, rfl, _, rfl, _, rfl, _, rfl, _, rfl, _, rfl, _, _, rfl, rfl, _, rfl, _, _, rfl, rfl, pl (k' := kp) (room' := room - 1 - (1 + hf)) g4 (by omega) (by omega) fun v2 p2 H5 g5 tp5 a2 wn2 ow2 sz2 => ⟨(by show 3 ≤ sizeLine; decide), fun t ht => ?_⟩⟩
  have s6 := same_new (o := .tup [V.str w1.str, v1, v2]) ht
  refine q _ (.bin w1 p1 p2) _ (g5.trans (Gr.new g5.fl ht)) (.tup (.inl (.inl upd_same)) (.cons (.str _) (.cons ((a1.keep tp5).keep (Tp.same s6)) (.cons (a2.keep (Tp.same s6)) .nil)))) ⟨⟨wn1.1, wn2.1, by rw [ow1, b1], by rw [ow2, b1]⟩, wn1.2, wn2.2⟩ o1 ?_
  show ((psz p1 + psz p2 + 1 : Nat) : Int) ≤ room
  omega
theorem ok_l_plan (B : Bt mg) (C_l_draw : Cal P w K mg base 1 "_law_draw" ["_law_flow_here", "_law_wide"] (spDraw)) (C_l_little : Cal P w K mg base 2 "_law_little" ["_law_flow_here"] (spLittle)) (C_l_leaf : Cal P w K mg base 3 "_law_leaf" ["_law_flow_here", "_law_kinds_here", "_law_kind"] (spLeaf2 K)) (D : DefAt K mg "_law_plan" s_l_plan ["_law_flow_here", "_law_kinds_here", "_law_kind", "_law_room"]) : ∀ n : Nat, Cal P w K mg base (n + 3) "_law_plan" ["_law_flow_here", "_law_kinds_here", "_law_kind", "_law_room"] (spPlan K n)
  | 0 => cal_no D fun vs H Q E h => by
    obtain ⟨f, ka, ks, k, room, _, _, _, _, h1, h2, _⟩ := h
    omega
  | n + 1 => ok_l_plan1 B C_l_draw C_l_little C_l_leaf (ok_l_plan B C_l_draw C_l_little C_l_leaf D n) D
end
end Lm

set_option Elab.async false
set_option linter.all false
set_option maxRecDepth 100000
set_option maxHeartbeats 2000000
set_option pp.maxSteps 600
set_option pp.deepTerms.threshold 6
namespace Lm
open PySem PySem.Spec PyProof.Rows L2 LmR
def innD : List (Key × V) := [(Sum.inr "in", .int 0), (Sum.inr "num", .int 0), (Sum.inr "yes", .int 0), (Sum.inr "no", .int 0), (Sum.inr "plus", .int 1), (Sum.inr "not", .int 1), (Sum.inr "if", .int 3)]
theorem inn_size (p : Pg) : (valV innD (Sum.inr (word p))).getD (.int 2) = .int ((parts p).length : Nat) := by
  cases p with
  | inp k => rfl
  | num c => rfl
  | tr b => cases b <;> rfl
  | plus c a => rfl
  | bin w a b => cases w <;> rfl
  | neg a => rfl
  | ite p a b => rfl
section
variable {P : Program} {w : World} {K : PySem.W.Frag} {mg : Str → Option Value} {base : Heap}
abbrev s_l_inner : Stmt := topS 25
theorem sc_l_inner : FnScope ["_law_knot", "_law_size"] ["_law_knot"] (defScope s_l_inner) := ⟨rfl, rfl, rfl, by decide +kernel, rfl, by decide +kernel, by decide +kernel⟩
def spInner (K : PySem.W.Frag) : Sp := fun vs H Q _ => ∃ (v : V) (p : Pg), vs = [v] ∧ At K H v p ∧ ∀ (l : Addr) (us : List V) (H' : Hp), Same H H' → H l = none → H' l = some (.lst us) → Ats K H' us (parts p) → Q (.ref l) H'
theorem ok_l_inner (B : Bt mg) (D : DefAt K mg "_law_inner" s_l_inner ["_law_knot"]) : Cal P w K mg base 1 "_law_inner" ["_law_knot"] (spInner K) := by
  refine cal_of D sc_l_inner (fun vs H Q E h => ?_) (fun f cdv A outer s H vs Q E hr h => ?_)
  · obtain ⟨v, p, rfl, _⟩ := h
    rfl
  obtain ⟨v, p, rfl, hv, q⟩ := h
  refine ⟨_, (pss_cons (ps_set (i := 1) sc_l_inner.nd rfl (.inl rfl) (pe_dget2 (hu_of hr) (pe_disp (pps_cons pe_str pe_int (pps_cons pe_str pe_int (pps_cons pe_str pe_int (pps_cons pe_str pe_int (pps_cons pe_str pe_int (pps_cons pe_str pe_int (pps_cons pe_str pe_int pps_nil))))))) (by rfl) (by rfl) (fun z => by cases z) (by decide)) (pe_ix ix_tup (pv 0) pe_int (fun _ _ => rfl)) pe_int (by constructor <;> rfl)))
      (pss_one (ps_ret (pe_callTy call_list_of (by rfl) B.list PyProof.Rows.boot_list (pa_cons (pe_slice sl_tup (pv 0) (po_some (pe_op op_sub (pe_callB call_len_seq (by rfl) B.len PySem.boot_len (pa_cons (pv 0) pa_nil)) (pv 1))) po_none) pa_nil))))), ?_⟩
  obtain ⟨a, vs, rfl, ha, hvs⟩ := hv.open
  refine fun wd hwd => ⟨upd_same, innD, rfl, (by show 7 ≤ 15; decide), _, rfl, ?_⟩
  have s1 : Same H (upd (upd H wd (.dK [])) wd (.dK (mergeK [] innD))) := fun b o z => by
    rw [upd_ne (ne_of_none z hwd), upd_ne (ne_of_none z hwd)]
    exact z
  have e1 : (upd (upd H wd (.dK [])) wd (.dK (mergeK [] innD))) wd = some (.dK innD) := upd_same
  generalize upd (upd H wd (.dK [])) wd (.dK (mergeK [] innD)) = H1 at s1 e1
  have ha1 := Tp.same s1 _ _ ha
  refine ⟨.inl ⟨_, .inl e1⟩, _, rfl, a, _, 0, _, rfl, rfl, ha1, at_word p vs, _, DGet.k (k := Sum.inr (word p)) e1, ?_⟩
  rw [inn_size]
  have hl : (front p ++ vs).length = 1 + nn p + (parts p).length := by rw [List.length_append, front_len, hvs.len]
  have e2 : (((front p ++ vs).length : Nat) : Int) - ((parts p).length : Nat) = ((1 + nn p : Nat) : Int) := by rw [hl]; omega
  refine ⟨_, rfl, _, rfl, a, _, rfl, .inr ha1, _, rfl, _, _, rfl, rfl, _, rfl, a, _, rfl, ha1, ?_, fun t ht => ?_⟩
  · rintro ⟨z, _⟩
    rw [e2, show HT.sIx (front p ++ vs).length 0 (some ((1 + nn p : Nat) : Int)) = min (1 + nn p) (front p ++ vs).length from HT.sIx_nat _ 0 _, List.length_append, front_len] at z
    omega
  · rw [e2, cut_from _ _ _ (front_len p)]
    have s2 := same_new (o := .tup vs) ht
    have e3 : (upd H1 t (.tup vs)) t = some (.tup vs) := upd_same
    generalize upd H1 t (.tup vs) = H2 at s2 e3
    refine ⟨t, _, rfl, .inr (.inl (.inl e3)), fun l hl2 => ?_⟩
    have s3 := same_new (o := .lst vs) hl2
    have s03 := s1.trans (s2.trans s3)
    refine q l vs _ s03 ?_ upd_same (hvs.keep (Tp.same s03))
    exact (s1.trans s2).free hl2
end
theorem ite_t {c : Prop} [Decidable c] {a b : Prop} (h : c) (q : a) : if c then a else b := by rw [if_pos h]; exact q
theorem ite_f {c : Prop} [Decidable c] {a b : Prop} (h : ¬ c) (q : b) : if c then a else b := by rw [if_neg h]; exact q
theorem it_t {W T : Str} {a b : Prop} (h : decide (V.str W = V.str T) = true) (q : a) : if decide (V.str W = V.str T) = true then a else b := ite_t h q
theorem it_f {W T : Str} {a b : Prop} (h : decide (V.str W = V.str T) = false) (q : b) : if decide (V.str W = V.str T) = true then a else b := ite_f (by rw [h]; decide) q
section
variable {P : Program} {w : World} {K : PySem.W.Frag} {mg : Str → Option Value} {base : Heap}
abbrev s_l_worth : Stmt := topS 26
theorem sc_l_worth : FnScope ["_law_plan_here", "_law_inputs", "_law_word", "_law_some", "_law_one"] ["_law_plan_here", "_law_inputs"] (defScope s_l_worth) := ⟨rfl, rfl, rfl, by decide +kernel, rfl, by decide +kernel, by decide +kernel⟩
def spWorth (K : PySem.W.Frag) (n : Nat) : Sp := fun vs H Q _ => ∃ (v : V) (p : Pg) (ti : Addr) (us : List V) (ks : List Bool), vs = [v, .ref ti] ∧ At K H v p ∧ SqT K H ti us ∧ Kvs ks us ∧ Wk ks p ∧ dep p ≤ n ∧ ∀ (H' : Hp), Same H H' → Q (pval us p) H'
def wnS : List Str := ["in", "num", "yes", "no", "plus", "least", "most", "atmost", "not", "both", "either", "if"]
def wnm (i : Fin 12) : Str := wnS.getD i.1 ""
def wcd : Pg → Fin 12
  | .inp _ => 0
  | .num _ => 1
  | .tr b => if b then 2 else 3
  | .plus _ _ => 4
  | .bin .least _ _ => 5
  | .bin .most _ _ => 6
  | .bin .atmost _ _ => 7
  | .neg _ => 8
  | .bin .both _ _ => 9
  | .bin .either _ _ => 10
  | .ite _ _ _ => 11
theorem word_wnm (p : Pg) : word p = wnm (wcd p) := by
  cases p with
  | tr b => cases b <;> rfl
  | bin w a b => cases w <;> rfl
  | _ => rfl
theorem wnm_inj : ∀ i j : Fin 12, wnm i = wnm j → i = j := by decide +kernel
theorem word_wcd {p : Pg} (i : Fin 12) (h : V.str (word p) = V.str (wnm i)) : wcd p = i := wnm_inj _ _ ((word_wnm p).symm.trans (V.str.inj h))
theorem word_tr {p : Pg} {b : Bool} (h : V.str (word p) = V.str (trS b)) : p = .tr b := by
  have e : wcd p = (if b then 2 else 3) := by
    cases b
    · exact word_wcd 3 h
    · exact word_wcd 2 h
  cases p with
  | tr c => cases b <;> cases c <;> first | rfl | exact absurd e (by decide)
  | bin w _ _ => cases w <;> cases b <;> simp [wcd] at e
  | _ => cases b <;> simp [wcd] at e
def isBin : Pg → Bool
  | .plus _ _ => true
  | .bin _ _ _ => true
  | .neg _ => true
  | _ => false
theorem wk_part (ks : List Bool) (p q : Pg) (hw : Wk ks p) (h : q ∈ parts p) : Wk ks q := by
  cases p with
  | inp k => simp [parts] at h
  | num k => simp [parts] at h
  | tr k => simp [parts] at h
  | plus c a => simp only [parts, List.mem_singleton] at h; subst h; exact hw.1
  | bin w a b =>
    simp only [parts, List.mem_cons, List.not_mem_nil, or_false] at h
    rcases h with rfl | rfl
    · exact hw.1
    · exact hw.2.1
  | neg a => simp only [parts, List.mem_singleton] at h; subst h; exact hw.1
  | ite r a b =>
    simp only [parts, List.mem_cons, List.not_mem_nil, or_false] at h
    rcases h with rfl | rfl | rfl
    · exact hw.1
    · exact hw.2.1
    · exact hw.2.2.1
theorem sort_two {ns : List Int} {x y : Int} (h : ns.Perm [x, y]) (g : ns.Pairwise (· ≤ ·)) : ns = [if y < x then y else x, if y > x then y else x] := by
  have hl := h.length_eq
  match ns, hl with
  | [a, b], _ =>
    have l : a ≤ b := by simpa using g
    have mx : x = a ∨ x = b := by simpa using h.mem_iff.mpr (List.mem_cons_self ..)
    have xy : (a = x ∧ b = y) ∨ (a = y ∧ b = x) := by
      rcases mx with e | e
      · subst e
        exact .inl ⟨rfl, by simpa using (List.perm_cons x).mp h⟩
      · subst e
        exact .inr ⟨by simpa using (List.perm_cons x).mp ((List.Perm.swap a x []).trans h), rfl⟩
    have e1 : a = if y < x then y else x := by split <;> omega
    have e2 : b = if y > x then y else x := by split <;> omega
    rw [← e1, ← e2]
theorem ok_l_worth1 {n : Nat} (B : Bt mg) (C_l_inner : Cal P w K mg base 1 "_law_inner" ["_law_knot"] (spInner K)) (C_l_worth : Cal P w K mg base (n + 1) "_law_worth" ["_law_plan_here", "_law_inputs"] (spWorth K n)) (D : DefAt K mg "_law_worth" s_l_worth ["_law_plan_here", "_law_inputs"]) : Cal P w K mg base (n + 1 + 1) "_law_worth" ["_law_plan_here", "_law_inputs"] (spWorth K (n + 1)) := by
  refine cal_of D sc_l_worth (fun vs H Q E h => ?_) (fun f cdv A outer s H vs Q E hr h => ?_)
  · obtain ⟨v, p, ti, us, ks, rfl, _⟩ := h
    rfl
  obtain ⟨v, p, ti, us, ks, rfl, hv, hti, hkv, hw, hdep, q⟩ := h
  have C_l_inner := C_l_inner.mono (k := n + 1) (by omega)
  have hr' : Room (n + 1) _ := hr
  refine ⟨_, (pss_cons (ps_set (i := 2) sc_l_worth.nd rfl (.inl rfl) (pe_ix ix_tup (pv 0) pe_int (fun _ _ => rfl)))
      (pss_cons (ps_if (pt_cmpR op_eq (pv 2) pe_str (nomark _))
        (pss_one (ps_ret (pe_ix ix_tup (pv 1) (pe_ix ix_tup (pv 0) pe_int (fun _ _ => rfl)) (fun _ _ => rfl))))
        pss_nil)
      (pss_cons (ps_if (pt_cmpR op_eq (pv 2) pe_str (nomark _))
        (pss_one (ps_ret (pe_ix ix_tup (pv 0) pe_int (fun _ _ => rfl))))
        pss_nil)
      (pss_cons (ps_if (PW.pt (pw_or (pt_cmpR op_eq (pv 2) pe_str (nomark _)) (pw_or1 (pt_cmpR op_eq (pv 2) pe_str (nomark _)))))
        (pss_one (ps_ret (pe_cmpR op_eq (pv 2) pe_str (nomark _))))
        pss_nil)
      (C8.pss_cut (ps_if (pt_cmpR op_eq (pv 2) pe_str (nomark _))
        (pss_one (ps_ret (pe_cal C_l_worth hr' (by rfl) (pa_cons (pe_ix ix_tup (pv 0) (pe_op op_add pe_int (pe_callTy call_int1 (by rfl) B.int PyProof.Rows.boot_int (pa_cons (pe_not (pe_cal C_l_worth hr' (by rfl) (pa_cons (pe_ix ix_tup (pv 0) pe_int (fun _ _ => rfl)) (pa_cons (pv 1) pa_nil)))) pa_nil))) (fun _ _ => rfl)) (pa_cons (pv 1) pa_nil)))))
        pss_nil)
      (C8.pss_cut (ps_setLc (i := 3) (own := [("_law_one", 4)]) (g := gName 4) rfl sc_l_worth.nd rfl rfl (sw_true rfl rfl rfl (by decide +kernel)) (pi_list (pe_cal C_l_inner hr' (by rfl) (pa_cons (pv 0) pa_nil))) (blkOk_by (own := [("_law_one", 4)]) (N := ["_law_plan_here", "_law_inputs", "_law_word", "_law_some", "_law_one"]) (sc := defScope s_l_worth) (by decide +kernel)) (fun _ _ _ _ _ => (pg_name (i := 4) sc_l_worth.nd rfl (.inl rfl))) (fun _ _ _ _ _ => pts_nil) (fun _ _ _ _ _ => (pe_cal C_l_worth hr' (by rfl) (pa_cons (pv 4) (pa_cons (pv 1) pa_nil)))))
      (pss_cons (ps_if (pt_cmpR op_eq (pv 2) pe_str (nomark _))
        (pss_one (ps_ret (pe_op op_add (pe_ix ix_tup (pv 0) pe_int (fun _ _ => rfl)) (pe_ix ix_list (pv 3) pe_int (fun _ _ => rfl)))))
        pss_nil)
      (pss_cons (ps_if (PW.pt (pw_or (pt_cmpR op_eq (pv 2) pe_str (nomark _)) (pw_or1 (pt_cmpR op_eq (pv 2) pe_str (nomark _)))))
        (pss_one (ps_ret (pe_ix ix_list (pe_callB cr_sorted (by rfl) B.sorted (by decide +kernel) (pa_cons (pv 3) pa_nil)) (pe_callTy call_int1 (by rfl) B.int PyProof.Rows.boot_int (pa_cons (pe_cmpR op_eq (pv 2) pe_str (nomark _)) pa_nil)) (fun _ _ => rfl))))
        pss_nil)
      (pss_cons (ps_if (pt_cmpR op_eq (pv 2) pe_str (nomark _))
        (pss_one (ps_ret (pe_cmpR op_le (pe_ix ix_list (pv 3) pe_int (fun _ _ => rfl)) (pe_ix ix_list (pv 3) pe_int (fun _ _ => rfl)) (nomark _))))
        pss_nil)
      (pss_cons (ps_if (pt_cmpR op_eq (pv 2) pe_str (nomark _))
        (pss_one (ps_ret (pe_not (pe_ix ix_list (pv 3) pe_int (fun _ _ => rfl)))))
        pss_nil)
      (pss_one (ps_ret (pe_ifExp (pt_cmpR op_eq (pv 2) pe_str (nomark _)) (pe_and (pe_ix ix_list (pv 3) pe_int (fun _ _ => rfl)) (pe_one (pe_ix ix_list (pv 3) pe_int (fun _ _ => rfl)))) (pe_or (pe_ix ix_list (pv 3) pe_int (fun _ _ => rfl)) (pe_one (pe_ix ix_list (pv 3) pe_int (fun _ _ => rfl))))))))))))))))), ?_⟩
  obtain ⟨a, vs, rfl, ha, hvs⟩ := hv.open
  refine ⟨_, rfl, a, _, 0, _, rfl, rfl, ha, at_word p vs, ?_⟩
  refine ⟨_, rfl, rfl, _, rfl, ite2 (fun z => ?_) (fun z => ?_)⟩
  · have z' : V.str (word p) = V.str "in" := of_decide_eq_true z
    obtain ⟨k, rfl⟩ := word_in z'
    exact ⟨_, rfl, _, rfl, a, _, 1, .int k, rfl, rfl, ha, at_of (j := 1) rfl rfl, ti, us, _, _, rfl, rfl, hti, at_of (j := k) rfl (pval_at hkv hw), q _ (Same.refl _)⟩
  have n1 : ∀ k, p ≠ .inp k := fun k e => z (decide_eq_true (by rw [e]; rfl))
  refine ⟨_, rfl, rfl, _, rfl, ite2 (fun z => ?_) (fun z => ?_)⟩
  · have z' : V.str (word p) = V.str "num" := of_decide_eq_true z
    obtain ⟨c, rfl⟩ := word_num z'
    exact ⟨_, rfl, a, _, 1, .int c, rfl, rfl, ha, at_of (j := 1) rfl rfl, q _ (Same.refl _)⟩
  have n2 : ∀ k, p ≠ .num k := fun k e => z (decide_eq_true (by rw [e]; rfl))
  clear z
  have q0 := q _ (Same.refl _)
  -- yes, no
  refine ⟨_, rfl, rfl, _, rfl, ite2 (fun z => iteT ?_) (fun z => ⟨_, rfl, rfl, _, rfl, ite2 (fun z2 => ?_) (fun z2 => ?_)⟩)⟩
  · have z' : V.str (word p) = V.str "yes" := of_decide_eq_true z
    obtain rfl : p = .tr true := word_tr z'
    exact ⟨_, rfl, rfl, q0⟩
  · have z' : V.str (word p) = V.str "no" := of_decide_eq_true z2
    obtain rfl : p = .tr false := word_tr z'
    exact ⟨_, rfl, rfl, q0⟩
  have n3 : ∀ b, p ≠ .tr b := fun b e => by
    subst e
    cases b
    · exact z2 (decide_eq_true rfl)
    · exact z (decide_eq_true rfl)
  clear z z2 q0
  refine ⟨fun σ' H' => σ' = [some (.ref a), some (.ref ti), some (.str (word p)), none, none] ∧ H = H' ∧ isBin p = true, ?_, ?_⟩
  · refine ⟨_, rfl, rfl, _, rfl, ite2 (fun z => ?_) (fun z => ⟨rfl, rfl, ?_⟩)⟩
    · have z' : V.str (word p) = V.str "if" := of_decide_eq_true z
      obtain ⟨r, b, c, rfl⟩ := word_if z'
      obtain ⟨v1, v2, v3, rfl, a1, a2, a3⟩ := hvs.three
      have e1 := pval_bl hkv hw.1 hw.2.2.2.1
      have d1 := dep_part (.ite r b c) r (by simp [parts])
      have d2 := dep_part (.ite r b c) b (by simp [parts])
      have d3 := dep_part (.ite r b c) c (by simp [parts])
      refine ⟨_, rfl, _, rfl, a, _, 1, v1, rfl, rfl, ha, at_of (j := 1) rfl rfl, _, rfl, v1, r, ti, us, ks, rfl, a1, hti, hkv, hw.1, by omega, fun H1 s1 => ?_⟩
      have q1 : ∀ H', Same H H' → Q (if bv (pval us r) = true then pval us b else pval us c) H' := q
      have ha1 := Tp.same (K := K) s1 _ _ ha
      rw [e1]
      refine ⟨_, rfl, .inr ⟨_, rfl, _, _, rfl, rfl, ?_⟩⟩
      cases eb : bv (pval us r) with
      | true =>
        rw [eb] at q1
        exact ⟨a, _, 2, v2, rfl, rfl, ha1, at_of (j := 2) rfl rfl, _, rfl, v2, b, ti, us, ks, rfl, a2.keep (Tp.same s1), Tp.same s1 _ _ hti, hkv, hw.2.1, by omega, fun H2 s2 => q1 H2 (s1.trans s2)⟩
      | false =>
        rw [eb] at q1
        exact ⟨a, _, 3, v3, rfl, rfl, ha1, at_of (j := 3) rfl rfl, _, rfl, v3, c, ti, us, ks, rfl, a3.keep (Tp.same s1), Tp.same s1 _ _ hti, hkv, hw.2.2.1, by omega, fun H2 s2 => q1 H2 (s1.trans s2)⟩
    · cases p with
      | tr b => exact absurd rfl (n3 _)
      | inp _ => exact absurd rfl (n1 _)
      | num _ => exact absurd rfl (n2 _)
      | ite r b c => exact absurd (decide_eq_true rfl) z
      | _ => rfl
  rintro _ _ ⟨rfl, rfl, hp⟩
  refine ⟨fun σ' H' => ∃ (L : Addr) (y : Option V), σ' = [some (.ref a), some (.ref ti), some (.str (word p)), some (.ref L), y] ∧ Same H H' ∧ SqL K H' L ((parts p).map (pval us)), ?_, ?_⟩
  · refine ⟨_, rfl, .ref a, p, rfl, hv, fun t ps H2 s2 t0 ht hps => ?_⟩
    refine ⟨t, rfl, ⟨_, SqL.of ht⟩, fun D hD => lc_list (K := K) (a := t) (xs := ps) (fun i H' => Same H2 H' ∧ H' D = some (.lst (((parts p).take i).map (pval us)))) ?_ ?_ ?_ ?_⟩
    · exact ⟨same_new hD, upd_same⟩
    · rintro i H' _ ⟨sm, _⟩
      exact SqL.of (sm _ _ ht)
    · rintro i x H' hx ⟨sm, hD'⟩
      have s0 := s2.trans sm
      obtain ⟨r, hr1, har⟩ := (hps.keep (Tp.same sm)).get i x hx
      have hmem := List.mem_of_getElem? hr1
      have d1 := dep_part p r hmem
      refine ⟨rfl, _, rfl, _, rfl, x, r, ti, us, ks, rfl, har, Tp.same s0 _ _ hti, hkv, wk_part ks p r hw hmem, by omega, fun H4 s4 => ?_⟩
      have hD4 := s4 _ _ hD'
      refine ⟨_, hD4, ?_, fun b o z => ?_, ?_⟩
      · rw [List.length_map, List.length_take]
        have : (parts p).length ≤ 3 := by cases p <;> simp [parts]
        exact smallL (by omega)
      · rw [upd_ne (ne_of_none z hD)]
        exact s4 _ _ (sm b o z)
      · rw [upd_same, List.take_add_one, hr1, List.map_append]
        rfl
    · rintro H' ⟨sm, hD'⟩
      rw [hps.len, List.take_length] at hD'
      exact ⟨D, _, rfl, s2.trans sm, SqL.of hD'⟩
  rintro _ H2 ⟨L, y, rfl, s2, hL⟩
  have ha2 := Tp.same (K := K) s2 _ _ ha
  have q2 := q _ s2
  cases p with
  | inp k => cases hp
  | num k => cases hp
  | tr b => cases hp
  | ite r b c => cases hp
  | plus c b =>
    have e1 := pval_int hkv hw.1 hw.2
    refine ⟨_, rfl, rfl, _, rfl, it_t (W := "plus") (by decide +kernel) ?_⟩
    refine ⟨_, rfl, a, _, 1, .int c, rfl, rfl, ha2, at_of (j := 1) rfl rfl, _, rfl, L, _, 0, _, rfl, rfl, hL, rfl, _, _, rfl, e1, ?_⟩
    show Q (.int (c + iv (pval us b))) H2
    rw [Int.add_comm]
    exact q2
  | neg b =>
    have e1 := pval_bl hkv hw.1 hw.2
    refine ⟨_, rfl, rfl, _, rfl, it_f (W := "not") (by decide +kernel) ?_⟩
    refine ⟨_, rfl, rfl, _, rfl, it_f (W := "not") (by decide +kernel) ⟨_, rfl, rfl, _, rfl, it_f (W := "not") (by decide +kernel) ?_⟩⟩
    refine ⟨_, rfl, rfl, _, rfl, it_f (W := "not") (by decide +kernel) ?_⟩
    refine ⟨_, rfl, rfl, _, rfl, it_t (W := "not") (by decide +kernel) ?_⟩
    exact ⟨_, rfl, L, _, 0, _, rfl, rfl, hL, rfl, _, e1, q2⟩
  | bin bw b c =>
    refine ⟨_, rfl, rfl, _, rfl, it_f (W := bw.str) (by cases bw <;> decide +kernel) ?_⟩
    cases bw with
    | least =>
      have e1 := pval_int hkv hw.1 hw.2.2.1
      have e2 := pval_int hkv hw.2.1 hw.2.2.2
      refine ⟨_, rfl, rfl, _, rfl, it_t (W := "least") (by decide +kernel) (iteT ?_)⟩
      have hL' : SqL K H2 L ([iv (pval us b), iv (pval us c)].map V.int) := by
        have z : (parts (.bin .least b c)).map (pval us) = [iv (pval us b), iv (pval us c)].map V.int := by
          show [pval us b, pval us c] = [V.int (iv (pval us b)), V.int (iv (pval us c))]
          rw [← e1, ← e2]
        rw [← z]; exact hL
      refine ⟨_, rfl, L, _, rfl, hL', by show 2 < 64; decide, fun ns' pp hp1 hp2 hpn => ?_⟩
      rw [sort_two hp1 hp2]
      refine ⟨_, rfl, rfl, .inr ⟨_, rfl, pp, _, 0, _, rfl, rfl, SqL.of upd_same, rfl, ?_⟩⟩
      exact q _ (s2.trans (same_new hpn))
    | most =>
      have e1 := pval_int hkv hw.1 hw.2.2.1
      have e2 := pval_int hkv hw.2.1 hw.2.2.2
      refine ⟨_, rfl, rfl, _, rfl, it_f (W := "most") (by decide +kernel) ⟨_, rfl, rfl, _, rfl, it_t (W := "most") (by decide +kernel) ?_⟩⟩
      have hL' : SqL K H2 L ([iv (pval us b), iv (pval us c)].map V.int) := by
        have z : (parts (.bin .most b c)).map (pval us) = [iv (pval us b), iv (pval us c)].map V.int := by
          show [pval us b, pval us c] = [V.int (iv (pval us b)), V.int (iv (pval us c))]
          rw [← e1, ← e2]
        rw [← z]; exact hL
      refine ⟨_, rfl, L, _, rfl, hL', by show 2 < 64; decide, fun ns' pp hp1 hp2 hpn => ?_⟩
      rw [sort_two hp1 hp2]
      refine ⟨_, rfl, rfl, .inr ⟨_, rfl, pp, _, 1, _, rfl, rfl, SqL.of upd_same, rfl, ?_⟩⟩
      exact q _ (s2.trans (same_new hpn))
    | atmost =>
      have e1 := pval_int hkv hw.1 hw.2.2.1
      have e2 := pval_int hkv hw.2.1 hw.2.2.2
      refine ⟨_, rfl, rfl, _, rfl, it_f (W := "atmost") (by decide +kernel) ⟨_, rfl, rfl, _, rfl, it_f (W := "atmost") (by decide +kernel) ?_⟩⟩
      refine ⟨_, rfl, rfl, _, rfl, it_t (W := "atmost") (by decide +kernel) ?_⟩
      exact ⟨_, rfl, L, _, 0, _, rfl, rfl, hL, rfl, _, rfl, L, _, 1, _, rfl, rfl, hL, rfl, _, _, e1, e2, q2⟩
    | both =>
      have e1 := pval_bl hkv hw.1 hw.2.2.1
      have e2 := pval_bl hkv hw.2.1 hw.2.2.2
      refine ⟨_, rfl, rfl, _, rfl, it_f (W := "both") (by decide +kernel) ⟨_, rfl, rfl, _, rfl, it_f (W := "both") (by decide +kernel) ?_⟩⟩
      refine ⟨_, rfl, rfl, _, rfl, it_f (W := "both") (by decide +kernel) ?_⟩
      refine ⟨_, rfl, rfl, _, rfl, it_f (W := "both") (by decide +kernel) ?_⟩
      have q3 : Q (.bl (bv (pval us b) && bv (pval us c))) H2 := q2
      refine ⟨_, rfl, rfl, _, rfl, it_t (W := "both") (by decide +kernel) ?_⟩
      refine ⟨_, rfl, L, _, 0, _, rfl, rfl, hL, rfl, _, e1, ite2 (fun z => ?_) (fun z => ?_)⟩
      · rw [z, Bool.true_and, ← e2] at q3
        exact ⟨_, rfl, L, _, 1, _, rfl, rfl, hL, rfl, q3⟩
      · rw [Bool.eq_false_iff.mpr z] at q3
        exact q3
    | either =>
      have e1 := pval_bl hkv hw.1 hw.2.2.1
      have e2 := pval_bl hkv hw.2.1 hw.2.2.2
      refine ⟨_, rfl, rfl, _, rfl, it_f (W := "either") (by decide +kernel) ⟨_, rfl, rfl, _, rfl, it_f (W := "either") (by decide +kernel) ?_⟩⟩
      refine ⟨_, rfl, rfl, _, rfl, it_f (W := "either") (by decide +kernel) ?_⟩
      refine ⟨_, rfl, rfl, _, rfl, it_f (W := "either") (by decide +kernel) ?_⟩
      have q3 : Q (.bl (bv (pval us b) || bv (pval us c))) H2 := q2
      refine ⟨_, rfl, rfl, _, rfl, it_f (W := "either") (by decide +kernel) ?_⟩
      refine ⟨_, rfl, L, _, 0, _, rfl, rfl, hL, rfl, _, e1, ite2 (fun z => ?_) (fun z => ?_)⟩
      · rw [z] at q3
        exact q3
      · rw [Bool.eq_false_iff.mpr z, Bool.false_or, ← e2] at q3
        exact ⟨_, rfl, L, _, 1, _, rfl, rfl, hL, rfl, q3⟩
theorem ok_l_worth (B : Bt mg) (C_l_inner : Cal P w K mg base 1 "_law_inner" ["_law_knot"] (spInner K)) (D : DefAt K mg "_law_worth" s_l_worth ["_law_plan_here", "_law_inputs"]) : ∀ n : Nat, Cal P w K mg base (n + 1) "_law_worth" ["_law_plan_here", "_law_inputs"] (spWorth K n)
  | 0 => cal_no D fun vs H Q E h => by
    obtain ⟨v, p, _, _, _, _, _, _, _, _, h1, _⟩ := h
    have := dep_pos p
    omega
  | n + 1 => ok_l_worth1 B C_l_inner (ok_l_worth B C_l_inner D n) D
end
end Lm

set_option Elab.async false
set_option linter.all false
set_option maxRecDepth 100000
set_option maxHeartbeats 2000000
set_option pp.maxSteps 600
set_option pp.deepTerms.threshold 6
namespace Lm
open PySem PySem.Spec PyProof.Rows L2 LmR
theorem cutV_allW {xs : List V} {lo hi : Option Int} (h : HT.sIx xs.length 0 lo = 0 ∧ HT.sIx xs.length xs.length hi = xs.length) : cutV xs lo hi = xs := by
  unfold cutV
  rw [h.1, h.2, List.drop_zero, Nat.sub_zero, List.take_length]
theorem slA_anyW {K : PySem.W.Frag} {a : Addr} {xs : List V} {lo hi : Option Int} {H : Hp} {Q : VK} (ha : SqT K H a xs) (q : ∀ p H', Same H H' → SqT K H' p (cutV xs lo hi) → Q (.ref p) H') : rSlA K (.ref a) lo hi H Q :=
  ⟨a, xs, rfl, ha, fun h => q a H (Same.refl _) (by rw [cutV_allW h]; exact ha), fun _ p hp => q p _ (same_new hp) (.inl (.inl upd_same))⟩
theorem catA_anyW {K : PySem.W.Frag} {a b : Addr} {xs ys : List V} {H : Hp} {Q : VK} (ha : SqT K H a xs) (hb : SqT K H b ys) (hz : xs.length + ys.length ≤ sizeLine) (q : ∀ p H', Same H H' → SqT K H' p (xs ++ ys) → Q (.ref p) H') : rCatA K (.ref a) (.ref b) H Q :=
  ⟨a, b, xs, ys, rfl, rfl, ha, hb, hz, fun e => q b H (fun _ _ z => z) (by rw [e]; exact hb), fun _ e => q a H (fun _ _ z => z) (by rw [e, List.append_nil]; exact ha), fun _ _ p hp => q p _ (same_new hp) (.inl (.inl upd_same))⟩
section
variable {P : Program} {w : World} {K : PySem.W.Frag} {mg : Str → Option Value} {base : Heap}
abbrev s_l_put : Stmt := topS 27
theorem sc_l_put : FnScope ["_law_plan_here", "_law_some", "_law_parts", "_law_one"] ["_law_plan_here", "_law_some"] (defScope s_l_put) := ⟨rfl, rfl, rfl, by decide +kernel, rfl, by decide +kernel, by decide +kernel⟩
def spLPut (K : PySem.W.Frag) (n : Nat) : Sp := fun vs H Q _ => ∃ (v : V) (p : Pg) (l : Addr) (xs : List V) (ss : List Pg) (ks : List Bool), vs = [v, .ref l] ∧ At K H v p ∧ H l = some (.lst xs) ∧ Ats K H xs ss ∧ ss.length = ks.length ∧ Wk ks p ∧ dep p ≤ n ∧ ∀ (u : V) (H' : Hp), Same H H' → At K H' u (psub ss p) → Q u H'
theorem ok_l_put1 {n : Nat} (B : Bt mg) (C_l_inner : Cal P w K mg base 1 "_law_inner" ["_law_knot"] (spInner K)) (C_l_put : Cal P w K mg base (n + 1) "_law_put" ["_law_plan_here", "_law_some"] (spLPut K n)) (D : DefAt K mg "_law_put" s_l_put ["_law_plan_here", "_law_some"]) : Cal P w K mg base (n + 1 + 1) "_law_put" ["_law_plan_here", "_law_some"] (spLPut K (n + 1)) := by
  refine cal_of D sc_l_put (fun vs H Q E h => ?_) (fun f cdv A outer s H vs Q E hr h => ?_)
  · obtain ⟨v, p, l, xs, ss, ks, rfl, _⟩ := h
    rfl
  obtain ⟨v, p, l, xs, ss, ks, rfl, hv, hl, hxs, sl, hw, hdep, q⟩ := h
  have C_l_inner := C_l_inner.mono (k := n + 1) (by omega)
  have hr' : Room (n + 1) _ := hr
  refine ⟨_, (pss_cons (ps_if (pt_cmpR op_eq (pe_ix ix_tup (pv 0) pe_int (fun _ _ => rfl)) pe_str (nomark _))
        (pss_one (ps_ret (pe_ix ix_list (pv 1) (pe_ix ix_tup (pv 0) pe_int (fun _ _ => rfl)) (fun _ _ => rfl))))
        pss_nil)
      (pss_cons (ps_setLc (i := 2) (own := [("_law_one", 3)]) (g := gName 3) rfl sc_l_put.nd rfl rfl (sw_true rfl rfl rfl (by decide +kernel)) (pi_list (pe_cal C_l_inner hr' (by rfl) (pa_cons (pv 0) pa_nil))) (blkOk_by (own := [("_law_one", 3)]) (N := ["_law_plan_here", "_law_some", "_law_parts", "_law_one"]) (sc := defScope s_l_put) (by decide +kernel)) (fun _ _ _ _ _ => (pg_name (i := 3) sc_l_put.nd rfl (.inl rfl))) (fun _ _ _ _ _ => pts_nil) (fun _ _ _ _ _ => (pe_cal C_l_put hr' (by rfl) (pa_cons (pv 3) (pa_cons (pv 1) pa_nil)))))
      (pss_one (ps_ret (pe_op op_catA (pe_slice sl_tupA (pv 0) po_none (po_some (pe_op op_sub (pe_callB call_len_seq (by rfl) B.len PySem.boot_len (pa_cons (pv 0) pa_nil)) (pe_callB call_len_seq (by rfl) B.len PySem.boot_len (pa_cons (pv 2) pa_nil))))) (pe_callTy call_tuple_of (by rfl) B.tuple PyProof.Rows.boot_tuple (pa_cons (pv 2) pa_nil))))))), ?_⟩
  obtain ⟨a, vs, rfl, ha, hvs⟩ := hv.open
  refine ⟨_, rfl, a, _, 0, _, rfl, rfl, ha, at_word p vs, ?_⟩
  refine ⟨rfl, _, rfl, ite2 (fun z => ?_) (fun z => ?_)⟩
  · have z' : V.str (word p) = V.str "in" := of_decide_eq_true z
    obtain ⟨k, rfl⟩ := word_in z'
    have hk : k < ss.length := by rw [sl]; exact hw
    have hk2 : k < xs.length := by rw [hxs.len]; exact hk
    obtain ⟨s', e1, e2⟩ := hxs.get k xs[k] (List.getElem?_eq_getElem hk2)
    refine ⟨_, rfl, _, rfl, a, _, 1, .int k, rfl, rfl, ha, at_of (j := 1) rfl rfl, l, xs, _, xs[k], rfl, rfl, SqL.of hl, at_of (j := k) rfl (List.getElem?_eq_getElem hk2), q _ _ (Same.refl _) ?_⟩
    show At K H xs[k] (ss.getD k (.inp k))
    rw [List.getD_eq_getElem?_getD, e1]
    exact e2
  have n1 : ∀ k, p ≠ .inp k := fun k e => z (decide_eq_true (by rw [e]; rfl))
  refine ⟨_, rfl, .ref a, p, rfl, hv, fun t ps H2 s2 t0 ht hps => ?_⟩
  have xl : ∀ {H' : Hp}, Same H H' → Ats K H' xs ss := fun s => hxs.keep (Tp.same s)
  refine ⟨t, rfl, ⟨_, SqL.of ht⟩, fun D hD => lc_list (K := K) (a := t) (xs := ps) (fun i H' => Same H2 H' ∧ ∃ ws, H' D = some (.lst ws) ∧ Ats K H' ws (((parts p).take i).map (psub ss))) ?_ ?_ ?_ ?_⟩
  · exact ⟨same_new hD, [], upd_same, .nil⟩
  · rintro i H' _ ⟨sm, _⟩
    exact SqL.of (sm _ _ ht)
  · rintro i x H' hx ⟨sm, ws, hD', hws⟩
    have s0 := s2.trans sm
    obtain ⟨r, hr1, har⟩ := (hps.keep (Tp.same sm)).get i x hx
    have hmem := List.mem_of_getElem? hr1
    have d1 := dep_part p r hmem
    refine ⟨rfl, _, rfl, _, rfl, x, r, l, xs, ss, ks, rfl, har, s0 _ _ hl, xl s0, sl, wk_part ks p r hw hmem, by omega, fun u H4 s4 hu => ?_⟩
    have hD4 := s4 _ _ hD'
    have wl := hws.len
    have pl3 : (parts p).length ≤ 3 := by cases p <;> simp [parts]
    refine ⟨_, hD4, ?_, fun b o z => ?_, ws ++ [u], upd_same, ?_⟩
    · rw [wl, List.length_map, List.length_take]
      exact smallL (by omega)
    · rw [upd_ne (ne_of_none z hD)]
      exact s4 _ _ (sm b o z)
    · have tl : Tp K H4 (upd H4 D (.lst (ws ++ [u]))) := Tp.lst hD4
      rw [List.take_add_one, hr1, List.map_append]
      exact ((hws.keep (Tp.same s4)).keep tl).app (Ats.cons (hu.keep tl) Ats.nil)
  rintro H3 ⟨s3, ws, hD3, hws⟩
  rw [hps.len, List.take_length] at hws
  have wl := hws.len
  rw [List.length_map] at wl
  have s03 := s2.trans s3
  have ha3 := Tp.same (K := K) s03 _ _ ha
  have hl3 : (front p ++ vs).length = 1 + nn p + (parts p).length := by rw [List.length_append, front_len, hvs.len]
  have pl3 : (parts p).length ≤ 3 := by cases p <;> simp [parts]
  have e2 : (((front p ++ vs).length : Nat) : Int) - ((ws.length : Nat) : Int) = ((1 + nn p : Nat) : Int) := by rw [hl3, wl]; omega
  refine ⟨_, rfl, _, rfl, a, _, rfl, .inr ha3, _, rfl, D, _, rfl, .inl (SqL.of hD3), _, _, rfl, rfl, _, rfl, ?_⟩
  rw [e2]
  refine slA_anyW ha3 fun t1 H4 s4 ht1 => ?_
  rw [cut_to _ _ _ (front_len p)] at ht1
  refine ⟨_, rfl, D, _, rfl, .inl ⟨SqL.of (s4 _ _ hD3), fun t2 ht2 => ?_⟩⟩
  have s5 := same_new (o := .tup ws) ht2
  have e5 : (upd H4 t2 (.tup ws)) t2 = some (.tup ws) := upd_same
  generalize upd H4 t2 (.tup ws) = H5 at s5 e5
  refine catA_anyW (Tp.same s5 _ _ ht1) (.inl (.inl e5)) (by rw [front_len, wl]; have : nn p ≤ 1 := (by cases p <;> simp [nn]); exact small (by omega)) fun t3 H6 s6 ht3 => ?_
  obtain ⟨pf, pp⟩ := psub_front ss p n1
  refine q _ _ (s03.trans (s4.trans (s5.trans s6))) (At.make (vs := ws) (by rw [pf]; exact ht3) ?_)
  rw [pp]
  exact hws.keep (Tp.same (s4.trans (s5.trans s6)))
theorem ok_l_put (B : Bt mg) (C_l_inner : Cal P w K mg base 1 "_law_inner" ["_law_knot"] (spInner K)) (D : DefAt K mg "_law_put" s_l_put ["_law_plan_here", "_law_some"]) : ∀ n : Nat, Cal P w K mg base (n + 1) "_law_put" ["_law_plan_here", "_law_some"] (spLPut K n)
  | 0 => cal_no D fun vs H Q E h => by
    obtain ⟨v, p, _, _, _, _, _, _, _, _, _, _, h1, _⟩ := h
    have := dep_pos p
    omega
  | n + 1 => ok_l_put1 B C_l_inner (ok_l_put B C_l_inner D n) D
abbrev s_l_some_inputs : Stmt := topS 28
theorem sc_l_some_inputs : FnScope ["_law_flow_here", "_law_kinds_here", "_law_found", "_law_kind", "_law_number"] ["_law_flow_here", "_law_kinds_here"] (defScope s_l_some_inputs) := ⟨rfl, rfl, rfl, by decide +kernel, rfl, by decide +kernel, by decide +kernel⟩
def spSomeIn (K : PySem.W.Frag) : Sp := fun vs H Q _ => ∃ (f ka : Addr) (ks : List Bool), vs = [.ref f, .ref ka] ∧ Flow H f ∧ SqT K H ka (kVs ks) ∧ ks.length ≤ 100 ∧ ∀ (t : Addr) (us : List V) (H' : Hp), Gr [] f H H' → H' t = some (.tup us) → Kvs ks us → Q (.ref t) H'
theorem ok_l_some_inputs (B : Bt mg) (C_l_draw : Cal P w K mg base 1 "_law_draw" ["_law_flow_here", "_law_wide"] (spDraw)) (D : DefAt K mg "_law_some_inputs" s_l_some_inputs ["_law_flow_here", "_law_kinds_here"]) : Cal P w K mg base 2 "_law_some_inputs" ["_law_flow_here", "_law_kinds_here"] (spSomeIn K) := by
  refine cal_of D sc_l_some_inputs (fun vs H Q E h => ?_) (fun f' cdv A outer s H vs Q E hr h => ?_)
  · obtain ⟨f, ka, ks, rfl, _⟩ := h
    rfl
  obtain ⟨f, ka, ks, rfl, fl, hk, hkl, q⟩ := h
  have hr' : Room 1 _ := hr
  refine ⟨_, (pss_cons (ps_set (i := 2) sc_l_some_inputs.nd rfl (.inl rfl) (pe_lst pa_nil))
      (pss_cons (ps_for PassesOwn.never rfl (pi_tup (pv 1)) (pg_name (i := 3) sc_l_some_inputs.nd rfl (.inl rfl))
        (pss_cons (ps_set (i := 4) sc_l_some_inputs.nd rfl (.inl rfl) (pe_ix ix_list (pe_lst (pa_cons (pe_op op_sub (pe_cal C_l_draw hr' (by rfl) (pa_cons (pv 0) (pa_cons pe_int pa_nil))) pe_int) (pa_cons (pe_op op_sub (pe_cal C_l_draw hr' (by rfl) (pa_cons (pv 0) (pa_cons pe_int pa_nil))) pe_int) pa_nil))) (pe_cal C_l_draw hr' (by rfl) (pa_cons (pv 0) (pa_cons pe_int pa_nil))) (fun _ _ => rfl)))
      (pss_one (ps_expr (pe_bm PySem.F.plainAttrs_list PySem.F.slot_list_append PySem.F.type_list_append mt_append (pv 2) (pa_cons (pe_ifExp (pt_cmpR op_eq (pv 3) pe_str (nomark _)) (pv 4) (pe_cmpR op_eq (pe_cal C_l_draw hr' (by rfl) (pa_cons (pv 0) (pa_cons pe_int pa_nil))) pe_int (nomark _))) pa_nil))))))
      (pss_one (ps_ret (pe_callTy call_tuple_of (by rfl) B.tuple PyProof.Rows.boot_tuple (pa_cons (pv 2) pa_nil)))))), ?_⟩
  refine ⟨(by show 0 ≤ sizeLine; decide), fun L hL => ?_⟩
  have s1 := same_new (o := .lst []) hL
  have e1 : (upd H L (.lst [])) L = some (.lst []) := upd_same
  have nLf := fl_ne fl hL
  generalize upd H L (.lst []) = H1 at s1 e1
  have g1 : Gr [] f H H1 := gr_same' fl s1
  have kl : (kVs ks).length = ks.length := List.length_map _
  have e0 : ∀ (j : Nat) (k : Bool) (v : V), ks[j]? = some k → ([] : List V)[j]? = some v → Kv k v := fun j k v _ h => by simp at h
  refine ⟨_, rfl, ka, rfl, ⟨_, Tp.same s1 _ _ hk⟩, for_tup (K := K) (a := ka) (xs := kVs ks) (fun i σ' H' => (∃ y3 y4 : Option V, σ' = [some (.ref f), some (.ref ka), some (.ref L), y3, y4]) ∧ Gr [] f H H' ∧ ∃ us : List V, H' L = some (.lst us) ∧ us.length = i ∧ ∀ j k v, ks[j]? = some k → us[j]? = some v → Kv k v) ⟨⟨_, _, rfl⟩, g1, [], e1, rfl, e0⟩ ?_ ?_ ?_⟩
  · rintro i σ' H' _ ⟨_, g, _⟩
    exact g.tp fl _ _ hk
  · rintro i v σ' H' hv ⟨⟨y3, y4, rfl⟩, g, us, eL, ul, hus⟩
    have il : i < ks.length := by rw [← kl]; exact (List.getElem?_eq_some_iff.mp hv).1
    have ev : v = .str (kS ks[i]) := by
      unfold kVs at hv
      rw [List.getElem?_map, List.getElem?_eq_getElem il] at hv
      exact (Option.some.inj hv).symm
    subst ev
    refine ⟨_, rfl, f, 7, rfl, g.fl, by decide, by decide, fun d1 H2 d10 d11 r2 => ⟨_, _, rfl, rfl, _, rfl, f, 2000001, rfl, r2.fl, by decide, by decide, fun d2 H3 d20 d21 r3 => ⟨_, _, rfl, rfl, (by show 2 ≤ sizeLine; decide), fun l2 hl2 => ?_⟩⟩⟩
    have g3 := g.trans (r2.g.trans r3.g)
    have eL3 := (r3.off L nLf).trans ((r2.off L nLf).trans eL)
    have n2f := fl_ne g3.fl hl2
    have s4 := same_new (o := .lst [V.int (d1 - 3), V.int (d2 - 1000000)]) hl2
    have e4 : (upd H3 l2 (.lst [V.int (d1 - 3), V.int (d2 - 1000000)])) l2 = some (.lst [V.int (d1 - 3), V.int (d2 - 1000000)]) := upd_same
    generalize upd H3 l2 (.lst [V.int (d1 - 3), V.int (d2 - 1000000)]) = H4 at s4 e4
    have g4 := g3.trans (gr_same' g3.fl s4)
    refine ⟨_, rfl, f, 2, rfl, g4.fl, by decide, by decide, fun d3 H5 d30 d31 r5 => ?_⟩
    have g5 := g4.trans r5.g
    have e5 := (r5.off l2 n2f).trans e4
    have eL5 := (r5.off L nLf).trans (s4 _ _ eL3)
    obtain ⟨nn', en⟩ : ∃ z : Int, atI [V.int (d1 - 3), V.int (d2 - 1000000)] d3 = some (.int z) := by
      rcases (show d3 = 0 ∨ d3 = 1 by omega) with z | z <;> subst z
      · exact ⟨_, rfl⟩
      · exact ⟨_, rfl⟩
    have step : ∀ (u : V) (H6 : Hp), Gr [] f H H6 → H6 L = some (.lst us) → Kv ks[i] u → rAppend (.ref L) [u] H6 (fun _ H7 => (∃ y3 y4 : Option V, [some (.ref f), some (.ref ka), some (.ref L), some (.str (kS ks[i])), some (.int nn')] = [some (.ref f), some (.ref ka), some (.ref L), y3, y4]) ∧ Gr [] f H H7 ∧ ∃ us : List V, H7 L = some (.lst us) ∧ us.length = i + 1 ∧ ∀ j k v, ks[j]? = some k → us[j]? = some v → Kv k v) := fun u H6 g6 e6 hu => by
      refine ⟨L, us, u, rfl, rfl, e6, smallL (by omega), ⟨_, _, rfl⟩, g6.put hL nLf, us ++ [u], upd_same, by rw [List.length_append, ul]; rfl, fun j k v h1 h2 => ?_⟩
      by_cases z : j < us.length
      · rw [List.getElem?_append_left z] at h2
        exact hus j k v h1 h2
      · have : j = us.length := by
          have := (List.getElem?_eq_some_iff.mp h2).1
          rw [List.length_append] at this
          have : j < us.length + 1 := this
          omega
        subst this
        rw [List.getElem?_append_right (by omega), Nat.sub_self] at h2
        have h1' : ks[i]? = some k := by rw [← ul]; exact h1
        rw [List.getElem?_eq_getElem il] at h1'
        cases h1'
        cases h2
        exact hu
    refine ⟨l2, _, d3, _, rfl, rfl, SqL.of e5, en, _, rfl, .inl ⟨rfl, _, SqL.of eL5⟩, _, rfl, rfl, _, rfl, ite2 (fun c => ?_) (fun c => ?_)⟩
    · have ek : ks[i] = false := kS_inj (a := ks[i]) (b := false) (of_decide_eq_true c)
      exact ⟨_, rfl, step _ _ g5 eL5 (by rw [ek]; exact ⟨_, rfl⟩)⟩
    · have ek : ks[i] = true := by
        cases e : ks[i]
        · rw [e] at c; exact absurd (decide_eq_true rfl) c
        · rfl
      refine ⟨_, rfl, f, 2, rfl, g5.fl, by decide, by decide, fun d4 H6 d40 d41 r6 => ⟨rfl, step _ _ (g5.trans r6.g) ((r6.off L nLf).trans eL5) (by rw [ek]; exact ⟨_, rfl⟩)⟩⟩
  · rintro σ' H' ⟨⟨y3, y4, rfl⟩, g, us, eL, ul, hus⟩
    exact ⟨_, rfl, L, _, rfl, .inl ⟨SqL.of eL, fun t ht => q t us _ (g.trans (Gr.new g.fl ht)) upd_same ⟨by omega, hus⟩⟩⟩
abbrev s_plain_inputs : Stmt := topS 16
theorem sc_plain_inputs : FnScope ["many", "k"] ["many"] (defScope s_plain_inputs) := ⟨rfl, rfl, rfl, by decide +kernel, rfl, by decide +kernel, by decide +kernel⟩
def inps (m : Nat) : List Pg := (List.range m).map Pg.inp
def spPlain (K : PySem.W.Frag) : Sp := fun vs H Q _ => ∃ m : Nat, vs = [.int m] ∧ m ≤ 100 ∧ ∀ (t : Addr) (us : List V) (H' : Hp), Same H H' → H' t = some (.tup us) → Ats K H' us (inps m) → Q (.ref t) H'
theorem ok_plain_inputs (B : Bt mg) (D : DefAt K mg "plain_inputs" s_plain_inputs ["many"]) : Cal P w K mg base 1 "plain_inputs" ["many"] (spPlain K) := by
  refine cal_of D sc_plain_inputs (fun vs H Q E h => ?_) (fun f' cdv A outer s H vs Q E hr h => ?_)
  · obtain ⟨m, rfl, _⟩ := h
    rfl
  obtain ⟨m, rfl, hm, q⟩ := h
  refine ⟨_, (pss_one (ps_ret (pe_callTy call_tuple_of (by rfl) B.tuple PyProof.Rows.boot_tuple (pa_cons (pe_lc (own := [("k", 1)]) (g := gName 1) rfl sc_plain_inputs.nd (pi_range1 (by rfl) B.range (pa_cons (pv 0) pa_nil)) (blkOk_by (own := [("k", 1)]) (N := ["many", "k"]) (sc := defScope s_plain_inputs) (by decide +kernel)) (fun _ _ _ _ _ => (pg_name (i := 1) sc_plain_inputs.nd rfl (.inl rfl))) (fun _ _ _ _ _ => pts_nil) (fun _ _ _ _ _ => (pe_tup (pa_cons pe_str (pa_cons (pv 1) pa_nil))))) pa_nil)))), ?_⟩
  refine ⟨_, rfl, (m : Int), rfl, by omega, by omega, fun D hD => lc_range (lo := 0) (n := (m : Int).toNat) (fun j H' => Same H H' ∧ ∃ ws, H' D = some (.lst ws) ∧ Ats K H' ws (inps j)) ?_ ?_ ?_⟩
  · exact ⟨same_new hD, [], upd_same, .nil⟩
  · rintro j H' hj ⟨sm, ws, eD, hws⟩
    have wl : ws.length = j := by rw [hws.len]; unfold inps; rw [List.length_map, List.length_range]
    refine ⟨rfl, _, rfl, (by show 2 ≤ sizeLine; decide), fun p hp => ⟨ws, ?_, smallL (by omega), ?_⟩⟩
    · rw [upd_ne (ne_of_none eD hp)]; exact eD
    · have sp := same_new (o := .tup [V.str "in", V.int (0 + (j : Int))]) hp
      have eD' := sp _ _ eD
      have ep : (upd H' p (.tup [V.str "in", V.int (0 + (j : Int))])) p = some (.tup [V.str "in", V.int (j : Int)]) := by rw [upd_same, Int.zero_add]
      generalize upd H' p (.tup [V.str "in", V.int (0 + (j : Int))]) = H3 at sp eD' ep
      have tl : Tp K H3 (upd H3 D (.lst (ws ++ [V.ref p]))) := Tp.lst eD'
      refine ⟨fun b o z => ?_, ws ++ [.ref p], upd_same, ?_⟩
      · rw [upd_ne (ne_of_none z hD)]
        exact sp _ _ (sm _ _ z)
      · unfold inps
        rw [List.range_succ, List.map_append]
        exact ((hws.keep (Tp.same sp)).keep tl).app (Ats.cons (p := .inp j) (.tup (tl _ _ (.inl (.inl ep))) (.cons (.str _) (.cons (.int _) .nil))) Ats.nil)
  · rintro H1 ⟨s1, ws, eD, hws⟩
    have em : (m : Int).toNat = m := by omega
    rw [em] at hws
    exact ⟨D, _, rfl, .inl ⟨SqL.of eD, fun t ht => q t ws _ (s1.trans (same_new ht)) upd_same (hws.keep (Tp.new ht))⟩⟩
abbrev s_met_by : Stmt := topS 15
theorem sc_met_by : FnScope ["wish", "program", "many"] ["wish", "program", "many"] (defScope s_met_by) := ⟨rfl, rfl, rfl, by decide +kernel, rfl, by decide +kernel, by decide +kernel⟩
def spMet (K : PySem.W.Frag) : Sp := fun vs H Q _ => ∃ (v v2 : V) (p p2 : Pg) (m : Nat), vs = [v, v2, .int m] ∧ At K H v p ∧ At K H v2 p2 ∧ Low (m + 1) p ∧ psz p ≤ 10000 ∧ m ≤ 100 ∧ ∀ (u : V) (H' : Hp), Same H H' → At K H' u (psub (inps m ++ [p2]) p) → Q u H'
theorem ok_met_by (B : Bt mg) (C_put : Cal P w K mg base 4 "put" ["program", "some"] (spPut K)) (C_plain_inputs : Cal P w K mg base 1 "plain_inputs" ["many"] (spPlain K)) (D : DefK0 K mg "met_by" s_met_by ["wish", "program", "many"] 2 ["many"]) : CalK0 P w K mg base 5 "met_by" ["wish", "program", "many"] 2 ["many"] (spMet K) := by
  refine calk0_of D sc_met_by (fun vs H Q E h => ?_) (fun f' cdv A outer s H vs Q E hr h => ?_)
  · obtain ⟨v, v2, p, p2, m, rfl, _⟩ := h
    rfl
  obtain ⟨v, v2, p, p2, m, rfl, hv, hv2, hlow, hz, hm, q⟩ := h
  have C_plain_inputs := C_plain_inputs.mono (k := 4) (by decide)
  have hr' : Room 4 _ := hr
  refine ⟨_, (pss_one (ps_ret (pe_cal C_put hr' (by rfl) (pa_cons (pv 0) (pa_cons (pe_tup (StX.pa_star (pe_cal C_plain_inputs hr' (by rfl) (pa_cons (pv 2) pa_nil)) (pa_cons (pv 1) pa_nil))) pa_nil))))), ?_⟩
  refine ⟨_, rfl, _, rfl, m, rfl, hm, fun t us H1 s1 ht hus => ?_⟩
  have ul : us.length = m := by rw [hus.len]; unfold inps; rw [List.length_map, List.length_range]
  have il : (inps m).length = m := by unfold inps; rw [List.length_map, List.length_range]
  refine ⟨t, us, rfl, .inl (.inl (.inl ht)), _, rfl, by rw [List.length_append, ul]; exact small (by show m + 1 ≤ _; omega), fun pp hpp => ?_⟩
  have s2 := same_new (o := .tup (us ++ [v2])) hpp
  have e2 : (upd H1 pp (.tup (us ++ [v2]))) pp = some (.tup (us ++ [v2])) := upd_same
  generalize upd H1 pp (.tup (us ++ [v2])) = H2 at s2 e2
  have s02 := s1.trans s2
  exact ⟨v, p, pp, us ++ [v2], inps m ++ [p2], rfl, hv.keep (Tp.same s02), .inl (.inl e2), (hus.keep (Tp.same s2)).app (Ats.cons (hv2.keep (Tp.same s02)) Ats.nil), by rw [List.length_append, il]; exact hlow, hz, fun u H' s' hu => q u H' (s02.trans s') hu⟩
end
end Lm

set_option Elab.async false
set_option linter.all false
set_option maxRecDepth 100000
set_option maxHeartbeats 2000000
namespace Lm
open PySem PySem.Spec PyProof.Rows L2 LmR
/-- its numbers are short -/
def Sm6 : Pg → Prop
  | .inp k => (k : Int).natAbs < 1000000
  | .num c => c.natAbs < 1000000
  | .tr _ => True
  | .plus c a => c.natAbs < 1000000 ∧ Sm6 a
  | .bin _ a b => Sm6 a ∧ Sm6 b
  | .neg a => Sm6 a
  | .ite p a b => Sm6 p ∧ Sm6 a ∧ Sm6 b
theorem sm_wn {ks : List Bool} (hk : ks.length ≤ 1000) : ∀ p : Pg, Wn ks p → Sm6 p
  | .inp k, h => by have : k < ks.length := h.1; show (k : Int).natAbs < 1000000; omega
  | .num c, h => by have : -1000 ≤ c ∧ c ≤ 1000 := h.2; show c.natAbs < 1000000; omega
  | .tr _, _ => True.intro
  | .plus c a, h => ⟨by have : -1000 ≤ c ∧ c ≤ 1000 := h.2.1; omega, sm_wn hk a ⟨h.1.1, h.2.2⟩⟩
  | .bin _ a b, h => ⟨sm_wn hk a ⟨h.1.1, h.2.1⟩, sm_wn hk b ⟨h.1.2.1, h.2.2⟩⟩
  | .neg a, h => sm_wn hk a ⟨h.1.1, h.2⟩
  | .ite p a b, h => ⟨sm_wn hk p ⟨h.1.1, h.2.1⟩, sm_wn hk a ⟨h.1.2.1, h.2.2.1⟩, sm_wn hk b ⟨h.1.2.2.1, h.2.2.2⟩⟩
theorem sm_psub (ss : List Pg) (h : ∀ s ∈ ss, Sm6 s) : ∀ p : Pg, Sm6 p → Sm6 (psub ss p)
  | .inp k, b => by
    show Sm6 (ss.getD k _)
    rw [List.getD_eq_getElem?_getD]
    cases e : ss[k]? with
    | none => exact b
    | some s => exact h s (List.mem_of_getElem? e)
  | .num _, b => b
  | .tr _, b => b
  | .plus c a, b => ⟨b.1, sm_psub ss h a b.2⟩
  | .bin _ a c, b => ⟨sm_psub ss h a b.1, sm_psub ss h c b.2⟩
  | .neg a, b => sm_psub ss h a b
  | .ite p a c, b => ⟨sm_psub ss h p b.1, sm_psub ss h a b.2.1, sm_psub ss h c b.2.2⟩
theorem depth_enc : ∀ p : Pg, (enc p).depth ≤ dep p
  | .inp k => by show max 0 (max 0 0) + 1 ≤ 1; decide
  | .num c => by show max 0 (max 0 0) + 1 ≤ 1; decide
  | .tr b => by show max 0 0 + 1 ≤ 1; decide
  | .plus c a => by
    have := depth_enc a
    show max 0 (max 0 (max (enc a).depth 0)) + 1 ≤ dep a + 1
    omega
  | .bin w a b => by
    have := depth_enc a; have := depth_enc b
    show max 0 (max (enc a).depth (max (enc b).depth 0)) + 1 ≤ max (dep a) (dep b) + 1
    omega
  | .neg a => by
    have := depth_enc a
    show max 0 (max (enc a).depth 0) + 1 ≤ dep a + 1
    omega
  | .ite p a b => by
    have := depth_enc a; have := depth_enc b; have := depth_enc p
    show max 0 (max (enc p).depth (max (enc a).depth (max (enc b).depth 0))) + 1 ≤ max (dep p) (max (dep a) (dep b)) + 1
    omega
theorem psub_dep (m : Nat) (ss : List Pg) (h1 : 1 ≤ m) (hm : ∀ s ∈ ss, dep s ≤ m) : ∀ p : Pg, dep (psub ss p) ≤ m + dep p - 1
  | .inp k => by
    simp only [psub, dep]
    rw [List.getD_eq_getElem?_getD]
    cases e : ss[k]? with
    | none => show 1 ≤ m + 1 - 1; omega
    | some s => have := hm s (List.mem_of_getElem? e); show dep s ≤ m + 1 - 1; omega
  | .num c => by simp only [psub, dep]; omega
  | .tr b => by simp only [psub, dep]; omega
  | .plus c a => by
    have := psub_dep m ss h1 hm a; have := dep_pos a
    simp only [psub, dep]; omega
  | .bin w a b => by
    have := psub_dep m ss h1 hm a; have := psub_dep m ss h1 hm b; have := dep_pos a; have := dep_pos b
    simp only [psub, dep]; omega
  | .neg a => by
    have := psub_dep m ss h1 hm a; have := dep_pos a
    simp only [psub, dep]; omega
  | .ite p a b => by
    have := psub_dep m ss h1 hm a; have := psub_dep m ss h1 hm b; have := psub_dep m ss h1 hm p; have := dep_pos a; have := dep_pos b; have := dep_pos p
    simp only [psub, dep]; omega
theorem word_len (p : Pg) : (word p).length ≤ 6 := by
  cases p with
  | tr b => show (trS b).length ≤ 6; cases b <;> decide +kernel
  | bin bw a b => show bw.str.length ≤ 6; cases bw <;> decide +kernel
  | inp k => show ("in" : Str).length ≤ 6; decide +kernel
  | num k => show ("num" : Str).length ≤ 6; decide +kernel
  | plus k a => show ("plus" : Str).length ≤ 6; decide +kernel
  | neg a => show ("not" : Str).length ≤ 6; decide +kernel
  | ite a b c => show ("if" : Str).length ≤ 6; decide +kernel
theorem six_log {c : Int} (h : c.natAbs < 1000000) : c.natAbs.log2 < 20 := by
  by_cases z : c.natAbs = 0
  · rw [z]; decide
  · exact (Nat.log2_lt z).mpr (by omega)
theorem rep_int {c : Int} (h : c.natAbs < 1000000) : (PyData.int c).showable = true ∧ (PyData.int c).leavesShort 13 = true ∧ (PyData.int c).weight ≤ 20 := by
  have l := six_log h
  refine ⟨decide_eq_true (by omega), decide_eq_true (PyData.shown_int_le (by omega)), ?_⟩
  show (if c == 0 then 0 else c.natAbs.log2 + 1) ≤ 20
  split <;> omega
theorem rep_word (p : Pg) : (PyData.str (word p)).leavesShort 13 = true ∧ (PyData.str (word p)).weight ≤ 6 := by
  refine ⟨?_, word_len p⟩
  cases p with
  | tr b => show (PyData.str (trS b)).leavesShort 13 = true; cases b <;> decide +kernel
  | bin bw a b => show (PyData.str bw.str).leavesShort 13 = true; cases bw <;> decide +kernel
  | inp k => show (PyData.str "in").leavesShort 13 = true; decide +kernel
  | num k => show (PyData.str "num").leavesShort 13 = true; decide +kernel
  | plus k a => show (PyData.str "plus").leavesShort 13 = true; decide +kernel
  | neg a => show (PyData.str "not").leavesShort 13 = true; decide +kernel
  | ite a b c => show (PyData.str "if").leavesShort 13 = true; decide +kernel
/-- of a program's data: it can be shown, has no dicts, isn't too long -/
def RepOk (p : Pg) : Prop := (enc p).showable = true ∧ (enc p).hasDict = false ∧ (enc p).leavesShort 13 = true ∧ (enc p).weight ≤ 31 * psz p
theorem rep_ok : ∀ p : Pg, Sm6 p → RepOk p
  | .inp k, h => by
    obtain ⟨a, b, c⟩ := rep_int (show (k : Int).natAbs < 1000000 from h)
    obtain ⟨d, e⟩ := rep_word (.inp k)
    refine ⟨?_, rfl, ?_, ?_⟩
    · show (true && ((PyData.int (k : Int)).showable && true)) = true; rw [a]; rfl
    · show ((PyData.str "in").leavesShort 13 && ((PyData.int (k : Int)).leavesShort 13 && true)) = true; rw [b]; exact (by rw [show (PyData.str "in").leavesShort 13 = true from d]; rfl)
    · show (PyData.str "in").weight + 1 + ((PyData.int (k : Int)).weight + 1 + 0) ≤ 31 * 1
      have : (PyData.str "in").weight ≤ 6 := e
      omega
  | .num k, h => by
    obtain ⟨a, b, c⟩ := rep_int (show k.natAbs < 1000000 from h)
    obtain ⟨d, e⟩ := rep_word (.num k)
    refine ⟨?_, rfl, ?_, ?_⟩
    · show (true && ((PyData.int k).showable && true)) = true; rw [a]; rfl
    · show ((PyData.str "num").leavesShort 13 && ((PyData.int k).leavesShort 13 && true)) = true; rw [b]; exact (by rw [show (PyData.str "num").leavesShort 13 = true from d]; rfl)
    · show (PyData.str "num").weight + 1 + ((PyData.int k).weight + 1 + 0) ≤ 31 * 1
      have : (PyData.str "num").weight ≤ 6 := e
      omega
  | .tr b, h => by
    obtain ⟨d, e⟩ := rep_word (.tr b)
    refine ⟨rfl, rfl, ?_, ?_⟩
    · show ((PyData.str (trS b)).leavesShort 13 && true) = true; rw [show (PyData.str (trS b)).leavesShort 13 = true from d]; rfl
    · show (PyData.str (trS b)).weight + 1 + 0 ≤ 31 * 1
      have : (PyData.str (trS b)).weight ≤ 6 := e
      omega
  | .plus k x, h => by
    obtain ⟨a, b, c⟩ := rep_int (show k.natAbs < 1000000 from h.1)
    obtain ⟨d, e⟩ := rep_word (.plus k x)
    obtain ⟨x1, x2, x3, x4⟩ := rep_ok x h.2
    refine ⟨?_, ?_, ?_, ?_⟩
    · show (true && ((PyData.int k).showable && ((enc x).showable && true))) = true; rw [a, x1]; rfl
    · show (false || (false || ((enc x).hasDict || false))) = false; rw [x2]; rfl
    · show ((PyData.str "plus").leavesShort 13 && ((PyData.int k).leavesShort 13 && ((enc x).leavesShort 13 && true))) = true; rw [b, x3, show (PyData.str "plus").leavesShort 13 = true from d]; rfl
    · show (PyData.str "plus").weight + 1 + ((PyData.int k).weight + 1 + ((enc x).weight + 1 + 0)) ≤ 31 * (psz x + 1)
      have : (PyData.str "plus").weight ≤ 6 := e
      omega
  | .bin bw x y, h => by
    obtain ⟨d, e⟩ := rep_word (.bin bw x y)
    obtain ⟨x1, x2, x3, x4⟩ := rep_ok x h.1
    obtain ⟨y1, y2, y3, y4⟩ := rep_ok y h.2
    refine ⟨?_, ?_, ?_, ?_⟩
    · show (true && ((enc x).showable && ((enc y).showable && true))) = true; rw [x1, y1]; rfl
    · show (false || ((enc x).hasDict || ((enc y).hasDict || false))) = false; rw [x2, y2]; rfl
    · show ((PyData.str bw.str).leavesShort 13 && ((enc x).leavesShort 13 && ((enc y).leavesShort 13 && true))) = true; rw [x3, y3, show (PyData.str bw.str).leavesShort 13 = true from d]; rfl
    · show (PyData.str bw.str).weight + 1 + ((enc x).weight + 1 + ((enc y).weight + 1 + 0)) ≤ 31 * (psz x + psz y + 1)
      have : (PyData.str bw.str).weight ≤ 6 := e
      omega
  | .neg x, h => by
    obtain ⟨d, e⟩ := rep_word (.neg x)
    obtain ⟨x1, x2, x3, x4⟩ := rep_ok x h
    refine ⟨?_, ?_, ?_, ?_⟩
    · show (true && ((enc x).showable && true)) = true; rw [x1]; rfl
    · show (false || ((enc x).hasDict || false)) = false; rw [x2]; rfl
    · show ((PyData.str "not").leavesShort 13 && ((enc x).leavesShort 13 && true)) = true; rw [x3, show (PyData.str "not").leavesShort 13 = true from d]; rfl
    · show (PyData.str "not").weight + 1 + ((enc x).weight + 1 + 0) ≤ 31 * (psz x + 1)
      have : (PyData.str "not").weight ≤ 6 := e
      omega
  | .ite p x y, h => by
    obtain ⟨d, e⟩ := rep_word (.ite p x y)
    obtain ⟨p1, p2, p3, p4⟩ := rep_ok p h.1
    obtain ⟨x1, x2, x3, x4⟩ := rep_ok x h.2.1
    obtain ⟨y1, y2, y3, y4⟩ := rep_ok y h.2.2
    refine ⟨?_, ?_, ?_, ?_⟩
    · show (true && ((enc p).showable && ((enc x).showable && ((enc y).showable && true)))) = true; rw [p1, x1, y1]; rfl
    · show (false || ((enc p).hasDict || ((enc x).hasDict || ((enc y).hasDict || false)))) = false; rw [p2, x2, y2]; rfl
    · show ((PyData.str "if").leavesShort 13 && ((enc p).leavesShort 13 && ((enc x).leavesShort 13 && ((enc y).leavesShort 13 && true)))) = true; rw [p3, x3, y3, show (PyData.str "if").leavesShort 13 = true from d]; rfl
    · show (PyData.str "if").weight + 1 + ((enc p).weight + 1 + ((enc x).weight + 1 + ((enc y).weight + 1 + 0))) ≤ 31 * (psz p + psz x + psz y + 1)
      have : (PyData.str "if").weight ≤ 6 := e
      omega
theorem rep_len {p : Pg} (h : Sm6 p) (hz : psz p ≤ 10000) : (enc p).shown.length ≤ sizeLine := by
  obtain ⟨_, _, c, d⟩ := rep_ok p h
  exact PyData.shown_fits (by decide) (by decide) c (by have e : (2 : Nat) ^ 20 = 1048576 := (by decide); omega)
section
variable {X : Cx}
/-- repr of a tuple's data, of a number or a truth -/
theorem call_repr3 {k : Nat} (hr : Room k X.A) (hgu : X.A.guards = some []) : CallR X (.builtin "repr") (fun xs H Q => rRepr X xs H Q ∨ (∃ i, xs = [.int i] ∧ i.natAbs.log2 < 1920 ∧ Q (.str (toString i)) H) ∨ ∃ b, xs = [.bl b] ∧ Q (.str (if b then "True" else "False")) H) := by
  intro pins s σ H xs us Q I r h
  rcases h with h | h | ⟨b, rfl, q⟩
  · exact call_reprD hr hgu pins s σ H xs us Q I r h
  · exact SkE.call_repr_int pins s σ H xs us Q I r h
  · obtain ⟨u, rfl, t⟩ := vals1 r
    cases t
    exact PySem.P.repr_of_bool ⟨.str _, H, I.tok _, ⟨_, rfl⟩, q⟩
theorem At.repr {H : Hp} {v : V} {p : Pg} {Q : VK} (h : At X.K H v p) (h6 : Sm6 p) (hz : psz p ≤ 10000) (hd : dep p ≤ 60) (q : Q (.str (enc p).shown) H) : rRepr X [v] H Q := by
  obtain ⟨a, vs, rfl, _, _⟩ := h.open
  obtain ⟨a1, a2, _, _⟩ := rep_ok p h6
  exact ⟨a, enc p, rfl, h, a1, a2, Nat.le_trans (depth_enc p) hd, rep_len h6 hz, q⟩
end
end Lm

set_option Elab.async false
set_option linter.all false
set_option maxRecDepth 100000
set_option maxHeartbeats 4000000
set_option pp.maxSteps 600
set_option pp.deepTerms.threshold 6
namespace Lm
open PySem PySem.Spec PyProof.Rows L2 LmR
theorem pval_psub (us : List V) (ss : List Pg) : ∀ p : Pg, Low ss.length p → pval us (psub ss p) = pval (ss.map (pval us)) p
  | .inp k, h => by
    have hk : k < ss.length := h
    show pval us (ss.getD k (.inp k)) = (ss.map (pval us)).getD k .non
    rw [List.getD_eq_getElem?_getD, List.getD_eq_getElem?_getD, List.getElem?_map, List.getElem?_eq_getElem hk]
    rfl
  | .num _, _ => rfl
  | .tr _, _ => rfl
  | .plus c a, h => by show V.int (iv (pval us (psub ss a)) + c) = V.int (iv (pval _ a) + c); rw [pval_psub us ss a h]
  | .bin w a b, h => by show bval w (pval us (psub ss a)) (pval us (psub ss b)) = bval w (pval _ a) (pval _ b); rw [pval_psub us ss a h.1, pval_psub us ss b h.2]
  | .neg a, h => by show V.bl (!bv (pval us (psub ss a))) = V.bl (!bv (pval _ a)); rw [pval_psub us ss a h]
  | .ite p a b, h => by
    show (if bv (pval us (psub ss p)) = true then pval us (psub ss a) else pval us (psub ss b)) = (if bv (pval _ p) = true then pval _ a else pval _ b)
    rw [pval_psub us ss p h.1, pval_psub us ss a h.2.1, pval_psub us ss b h.2.2]

theorem ex_seqW {K : PySem.W.Frag} {H H' : Hp} {f a : Addr} {xs : List V} (hf : H f = none) (ex : Ex [f] H H') (h : SqL K H a xs) : SqL K H' a xs := by
  rcases h with (h | ⟨o, h⟩) | h
  · exact .inl (.inl (ex _ _ h (by simp [ne_of_none h hf])))
  · exact .inl (.inr ⟨o, ex _ _ h (by simp [ne_of_none h hf])⟩)
  · exact .inr h
theorem inps_pval (us : List V) : (inps us.length).map (pval us) = us := by
  unfold inps
  rw [List.map_map]
  apply List.ext_getElem
  · rw [List.length_map, List.length_range]
  · intro i h1 h2
    rw [List.getElem_map, List.getElem_range]
    show us.getD i .non = us[i]
    rw [List.getD_eq_getElem?_getD, List.getElem?_eq_getElem h2]
    rfl
theorem inps_own (ks : List Bool) : (inps ks.length).map (own ks) = ks := by
  unfold inps
  rw [List.map_map]
  apply List.ext_getElem
  · rw [List.length_map, List.length_range]
  · intro i h1 h2
    rw [List.getElem_map, List.getElem_range]
    show ks.getD i false = ks[i]
    rw [List.getD_eq_getElem?_getD, List.getElem?_eq_getElem h2]
    rfl
theorem inps_mem {n : Nat} {s : Pg} (h : s ∈ inps n) : ∃ k, k < n ∧ s = .inp k := by
  unfold inps at h
  obtain ⟨k, hk, rfl⟩ := List.mem_map.mp h
  exact ⟨k, List.mem_range.mp hk, rfl⟩
theorem kvs_snoc {ks : List Bool} {us : List V} {k : Bool} {v : V} (h : Kvs ks us) (hv : Kv k v) : Kvs (ks ++ [k]) (us ++ [v]) := by
  refine ⟨by rw [List.length_append, List.length_append, h.1]; rfl, fun j c u h1 h2 => ?_⟩
  by_cases z : j < ks.length
  · rw [List.getElem?_append_left z] at h1
    rw [List.getElem?_append_left (by rw [h.1]; exact z)] at h2
    exact h.2 j c u h1 h2
  · have zl := (List.getElem?_eq_some_iff.mp h1).1
    rw [List.length_append] at zl
    have : j = ks.length := by have : j < ks.length + 1 := zl; omega
    subst this
    rw [List.getElem?_append_right (Nat.le_refl _), Nat.sub_self] at h1
    rw [← h.1, List.getElem?_append_right (Nat.le_refl _), Nat.sub_self] at h2
    cases h1
    cases h2
    exact hv
/-- one thing that is asked: kinds, a wish, a program, inputs -/
def Askd (K : PySem.W.Frag) (H : Hp) (y : V) : Prop := ∃ (t ka ti : Addr) (vw vp : V) (ks : List Bool) (k : Bool) (pw pp : Pg) (us : List V), y = .ref t ∧ SqT K H t [.ref ka, vw, vp, .ref ti] ∧ SqT K H ka (kVs ks) ∧ ks.length ≤ 3 ∧
  (At K H vw pw ∧ Wn (ks ++ [k]) pw ∧ own (ks ++ [k]) pw = true ∧ psz pw ≤ 14) ∧ (At K H vp pp ∧ Wn ks pp ∧ own ks pp = k ∧ psz pp ≤ 8) ∧ SqT K H ti us ∧ Kvs ks us
theorem Askd.keep {K : PySem.W.Frag} {H H' : Hp} {y : V} (h : Askd K H y) (tp : Tp K H H') : Askd K H' y := by
  obtain ⟨t, ka, ti, vw, vp, ks, k, pw, pp, us, rfl, h1, h2, h3, ⟨h4, h5, h6, h7⟩, ⟨h8, h9, h10, h11⟩, h12, h13⟩ := h
  exact ⟨t, ka, ti, vw, vp, ks, k, pw, pp, us, rfl, tp _ _ h1, tp _ _ h2, h3, ⟨h4.keep tp, h5, h6, h7⟩, ⟨h8.keep tp, h9, h10, h11⟩, tp _ _ h12, h13⟩
section
variable {P : Program} {w : World} {K : PySem.W.Frag} {mg : Str → Option Value} {base : Heap}
abbrev s_law : Stmt := topS 29
theorem sc_law : FnScope ["_law_script", "_law_asked", "_law_k", "_law_kinds_here", "_law_wish", "_law_plan_here", "_law_inputs", "_law_flow_here", "_law_kind", "_law_due", "_law_found"] ["_law_script"] (defScope s_law) := ⟨rfl, rfl, rfl, by decide +kernel, rfl, by decide +kernel, by decide +kernel⟩
def spLaw (K : PySem.W.Frag) : Sp := fun vs H Q _ => ∃ (a : Addr) (ns : List Int), vs = [.ref a] ∧ SqL K H a (ns.map V.int) ∧ ns.length ≤ 63 ∧ ∀ H', Q (.bl true) H'
theorem ok_law (B : Bt mg) (C_l_flow : Cal P w K mg base 2 "_law_flow" ["_law_script", "_law_k"] (spFlow K)) (C_l_draw : Cal P w K mg base 1 "_law_draw" ["_law_flow_here", "_law_wide"] (spDraw)) (C_l_kinds : Cal P w K mg base 2 "_law_kinds" ["_law_flow_here", "_law_top"] (spKinds2 K)) (C_l_plan : Cal P w K mg base 17 "_law_plan" ["_law_flow_here", "_law_kinds_here", "_law_kind", "_law_room"] (spPlan K 14)) (C_l_worth : Cal P w K mg base 15 "_law_worth" ["_law_plan_here", "_law_inputs"] (spWorth K 14)) (C_l_put : Cal P w K mg base 15 "_law_put" ["_law_plan_here", "_law_some"] (spLPut K 14)) (C_l_some_inputs : Cal P w K mg base 2 "_law_some_inputs" ["_law_flow_here", "_law_kinds_here"] (spSomeIn K))
    (C_value : Cal P w K mg base 4 "value" ["program", "inputs"] (spVal K)) (C_met_by : CalK0 P w K mg base 5 "met_by" ["wish", "program", "many"] 2 ["many"] (spMet K)) {f : Addr} {fd : FuncData} (F : Fun K "law" "law" s_law f fd) : FnG P w K mg base 21 f fd ["_law_script"] (spLaw K) := by
  refine fnG_of F sc_law (fun vs H Q E h => ?_) (fun cdv A outer s H vs Q E hgu hr h => ?_)
  · obtain ⟨a, ns, rfl, _⟩ := h
    rfl
  obtain ⟨a, ns, rfl, hS, h63, q⟩ := h
  have hr' : Room 20 _ := hr
  have hr'' := hr'
  have C_l_flow := C_l_flow.mono (k := 20) (by decide)
  have C_l_draw := C_l_draw.mono (k := 20) (by decide)
  have C_l_kinds := C_l_kinds.mono (k := 20) (by decide)
  have C_l_plan := C_l_plan.mono (k := 20) (by decide)
  have C_l_worth := C_l_worth.mono (k := 20) (by decide)
  have C_l_put := C_l_put.mono (k := 20) (by decide)
  have C_l_some_inputs := C_l_some_inputs.mono (k := 20) (by decide)
  have C_value := C_value.mono (k := 20) (by decide)
  have C_met_by := C_met_by.mono (k := 20) (by decide)
  refine ⟨_, (pss_cons (ps_set (i := 1) sc_law.nd rfl (.inl rfl) (pe_lst pa_nil))
      (pss_cons (ps_for PassesOwn.never rfl (pi_range1 (by rfl) B.range (pa_cons (pe_callB (call_max2 rfl) (by rfl) B.max PyProof.Rows.boot_max (pa_cons pe_int (pa_cons (pe_callB (call_min2 rfl) (by rfl) B.min PyProof.Rows.boot_min (pa_cons pe_int (pa_cons (pe_callB call_len_seq (by rfl) B.len PySem.boot_len (pa_cons (pv 0) pa_nil)) pa_nil))) pa_nil))) pa_nil)) (pg_name (i := 2) sc_law.nd rfl (.inl rfl))
        (pss_cons (ps_set (i := 7) sc_law.nd rfl (.inl rfl) (pe_cal C_l_flow hr' (by rfl) (pa_cons (pv 0) (pa_cons (pv 2) pa_nil))))
      (pss_cons (ps_set (i := 3) sc_law.nd rfl (.inl rfl) (pe_cal C_l_kinds hr' (by rfl) (pa_cons (pv 7) (pa_cons pe_int pa_nil))))
      (pss_cons (ps_set (i := 8) sc_law.nd rfl (.inl rfl) (pe_ix ix_list (pe_lst (pa_cons pe_str (pa_cons pe_str (pa_cons pe_str pa_nil)))) (pe_cal C_l_draw hr' (by rfl) (pa_cons (pv 7) (pa_cons pe_int pa_nil))) (fun _ _ => rfl)))
      (pss_cons (ps_set (i := 4) sc_law.nd rfl (.inl rfl) (pe_cal C_l_plan hr' (by rfl) (pa_cons (pv 7) (pa_cons (pe_op op_catA (pv 3) (pe_tup (pa_cons (pv 8) pa_nil))) (pa_cons pe_str (pa_cons (pe_op op_add pe_int (pe_cal C_l_draw hr' (by rfl) (pa_cons (pv 7) (pa_cons pe_int pa_nil)))) pa_nil))))))
      (pss_cons (ps_set (i := 5) sc_law.nd rfl (.inl rfl) (pe_cal C_l_plan hr' (by rfl) (pa_cons (pv 7) (pa_cons (pv 3) (pa_cons (pv 8) (pa_cons (pe_op op_add pe_int (pe_cal C_l_draw hr' (by rfl) (pa_cons (pv 7) (pa_cons pe_int pa_nil)))) pa_nil))))))
      (pss_one (ps_expr (pe_bm PySem.F.plainAttrs_list PySem.F.slot_list_append PySem.F.type_list_append mt_append (pv 1) (pa_cons (pe_tup (pa_cons (pv 3) (pa_cons (pv 4) (pa_cons (pv 5) (pa_cons (pe_cal C_l_some_inputs hr' (by rfl) (pa_cons (pv 7) (pa_cons (pv 3) pa_nil))) pa_nil))))) pa_nil))))))))))
      (pss_cons (ps_for PassesOwn.never rfl (pi_list (pe_op op_cat (pv 1) (pe_slice sl_list (pv 1) po_none (po_some pe_int)))) (pg_tup rfl (pgs_cons (pg_name (i := 3) sc_law.nd rfl (.inl rfl)) (pgs_cons (pg_name (i := 4) sc_law.nd rfl (.inl rfl)) (pgs_cons (pg_name (i := 5) sc_law.nd rfl (.inl rfl)) (pgs_cons (pg_name (i := 6) sc_law.nd rfl (.inl rfl)) pgs_nil)))))
        (pss_cons (ps_set (i := 9) sc_law.nd rfl (.inl rfl) (pe_cal C_l_put hr' (by rfl) (pa_cons (pv 4) (pa_cons (pe_op op_cat (pe_lc (own := [("_law_k", 2)]) (g := gName 2) rfl sc_law.nd (pi_range1 (by rfl) B.range (pa_cons (pe_callB call_len_seq (by rfl) B.len PySem.boot_len (pa_cons (pv 3) pa_nil)) pa_nil)) (blkOk_by (own := [("_law_k", 2)]) (N := ["_law_script", "_law_asked", "_law_k", "_law_kinds_here", "_law_wish", "_law_plan_here", "_law_inputs", "_law_flow_here", "_law_kind", "_law_due", "_law_found"]) (sc := defScope s_law) (by decide +kernel)) (fun _ _ _ _ _ => (pg_name (i := 2) sc_law.nd rfl (.inl rfl))) (fun _ _ _ _ _ => pts_nil) (fun _ _ _ _ _ => (pe_tup (pa_cons pe_str (pa_cons (pv 2) pa_nil))))) (pe_lst (pa_cons (pv 5) pa_nil))) pa_nil))))
      (pss_cons (ps_set (i := 10) sc_law.nd rfl (.inl rfl) (pe_calK0 C_met_by hr' (by rfl) (pa_cons (pv 4) (pa_cons (pv 5) pa_nil)) (pk_cons (pe_callB call_len_seq (by rfl) B.len PySem.boot_len (pa_cons (pv 3) pa_nil)) pk_nil)))
      (pss_cons (ps_if (pt_cmpR op_ne (pe_callB (call_repr3 hr' hgu) (by rfl) B.repr (by decide +kernel) (pa_cons (pv 10) pa_nil)) (pe_callB (call_repr3 hr' hgu) (by rfl) B.repr (by decide +kernel) (pa_cons (pv 9) pa_nil)) (nomark _))
        (pss_one (ps_ret pe_bl))
        pss_nil)
      (pss_one (ps_if (pt_cmpR op_ne (pe_callB (call_repr3 hr' hgu) (by rfl) B.repr (by decide +kernel) (pa_cons (pe_cal C_value hr' (by rfl) (pa_cons (pv 10) (pa_cons (pv 6) pa_nil))) pa_nil)) (pe_callB (call_repr3 hr' hgu) (by rfl) B.repr (by decide +kernel) (pa_cons (pe_cal C_l_worth hr' (by rfl) (pa_cons (pv 4) (pa_cons (pe_op op_catA (pv 6) (pe_tup (pa_cons (pe_cal C_l_worth hr' (by rfl) (pa_cons (pv 5) (pa_cons (pv 6) pa_nil))) pa_nil))) pa_nil))) pa_nil)) (nomark _))
        (pss_one (ps_ret pe_bl))
        pss_nil))))))
      (pss_one (ps_ret pe_bl))))), ?_⟩
  refine ⟨(by show 0 ≤ sizeLine; decide), fun L hL => ?_⟩
  have sL := same_new (o := .lst []) hL
  have eL : (upd H L (.lst [])) L = some (.lst []) := upd_same
  generalize upd H L (.lst []) = H0 at sL eL
  refine ⟨_, rfl, a, _, rfl, .inl (sL.seq hS), 6, _, rfl, 1, _, rfl, ?_⟩
  obtain ⟨m, em, m0, m63⟩ : ∃ m : Int, (if (if (((ns.map V.int).length : Nat) : Int) < 6 then (((ns.map V.int).length : Nat) : Int) else 6) > 1 then (if (((ns.map V.int).length : Nat) : Int) < 6 then (((ns.map V.int).length : Nat) : Int) else 6) else 1) = m ∧ 0 ≤ m ∧ m ≤ 63 := by
    refine ⟨_, rfl, ?_, ?_⟩
    · split <;> split <;> omega
    · split <;> split <;> omega
  show ∃ n : Int, [V.int (if (if (((ns.map V.int).length : Nat) : Int) < 6 then (((ns.map V.int).length : Nat) : Int) else 6) > 1 then (if (((ns.map V.int).length : Nat) : Int) < 6 then (((ns.map V.int).length : Nat) : Int) else 6) else 1)] = [V.int n] ∧ _
  rw [em]
  refine ⟨m, rfl, by omega, by omega, for_range (lo := 0) (n := m.toNat) (fun i σ' H' => (∃ y2 y3 y4 y5 y6 y7 y8 y9 y10 : Option V, σ' = [some (.ref a), some (.ref L), y2, y3, y4, y5, y6, y7, y8, y9, y10]) ∧ Ex [L] H H' ∧ ∃ ys : List V, H' L = some (.lst ys) ∧ ys.length = i ∧ ∀ y ∈ ys, Askd K H' y) ⟨⟨_, _, _, _, _, _, _, _, _, rfl⟩, Ex.of_same sL, [], eL, rfl, fun y h => nomatch h⟩ ?_ ?_⟩
  · rintro i σ' H' hi ⟨⟨y2, y3, y4, y5, y6, y7, y8, y9, y10, rfl⟩, hE, ys, eL', ly, hys⟩
    have hS' := ex_seqW hL hE hS
    refine ⟨_, rfl, _, rfl, a, ns, _, rfl, hS', by omega, by omega, fun f o hf fl => ?_⟩
    have s1 : Same H' (upd H' f o) := same_new hf
    generalize upd H' f o = H2 at s1 fl
    have nLf : L ≠ f := ne_of_none eL' hf
    refine ⟨_, rfl, f, 3, rfl, fl, by decide, by decide, fun ka ks H3 g3 kl hka => ?_⟩
    have kl3 : ks.length ≤ 3 := by omega
    refine ⟨(by show 3 ≤ sizeLine; decide), fun l2 hl2 => ?_⟩
    have n2f := fl_ne g3.fl hl2
    have s4 := same_new (o := .lst [V.str "num", V.str "num", V.str "truth"]) hl2
    have e4 : (upd H3 l2 (.lst [V.str "num", V.str "num", V.str "truth"])) l2 = some (.lst [V.str "num", V.str "num", V.str "truth"]) := upd_same
    generalize upd H3 l2 (.lst [V.str "num", V.str "num", V.str "truth"]) = H4 at s4 e4
    have g4 := g3.trans (gr_same' g3.fl s4)
    refine ⟨_, rfl, f, 3, rfl, g4.fl, by decide, by decide, fun d H5 d0 d1 r5 => ?_⟩
    have g5 := g4.trans r5.g
    have tp35 : Tp K H3 H5 := (Tp.same s4).trans (r5.tp g4.fl)
    obtain ⟨k, ev⟩ : ∃ k : Bool, atI [V.str "num", V.str "num", V.str "truth"] d = some (.str (kS k)) := by
      rcases (show d = 0 ∨ d = 1 ∨ d = 2 by omega) with z | z | z <;> subst z
      · exact ⟨false, rfl⟩
      · exact ⟨false, rfl⟩
      · exact ⟨true, rfl⟩
    have hka5 : SqT K H5 ka (kVs ks) := tp35 _ _ (.inl (.inl hka))
    refine ⟨l2, _, d, _, rfl, rfl, SqL.of ((r5.off l2 n2f).trans e4), ev, ?_⟩
    -- the wish
    refine ⟨_, rfl, _, rfl, _, rfl, (by show 1 ≤ sizeLine; decide), fun t6 ht6 => ?_⟩
    have s6 := same_new (o := .tup [V.str (kS k)]) ht6
    have e6 : (upd H5 t6 (.tup [V.str (kS k)])) t6 = some (.tup [V.str (kS k)]) := upd_same
    generalize upd H5 t6 (.tup [V.str (kS k)]) = H6 at s6 e6
    have kvl : (kVs ks).length = ks.length := List.length_map _
    refine catA_anyW (Tp.same s6 _ _ hka5) (.inl (.inl e6)) (by rw [kvl]; exact small (by show ks.length + 1 ≤ _; omega)) fun kb H7 s7 hkb => ?_
    have ekb : kVs ks ++ [V.str (kS k)] = kVs (ks ++ [k]) := by unfold kVs; rw [List.map_append]; rfl
    rw [ekb] at hkb
    have g7 := g5.trans (gr_same' g5.fl (s6.trans s7))
    have kl4 : (ks ++ [k]).length ≤ 4 := by rw [List.length_append]; show ks.length + 1 ≤ 4; omega
    refine ⟨_, rfl, f, 14, rfl, g7.fl, by decide, by decide, fun d8 H8 d80 d81 r8 => ⟨_, _, rfl, rfl, ?_⟩⟩
    have g8 := g7.trans r8.g
    refine ⟨f, kb, ks ++ [k], true, 1 + d8, rfl, g8.fl, r8.tp g7.fl _ _ hkb, by omega, by omega, by omega, by omega, fun vw pw H9 g9 aw wnw oww szw => ?_⟩
    have g89 := g8.trans g9
    have tp59 : Tp K H5 H9 := ((Tp.same (s6.trans s7)).trans (r8.tp g7.fl)).trans (g9.tp g8.fl)
    -- the program
    refine ⟨_, rfl, _, rfl, _, rfl, _, rfl, f, 8, rfl, g89.fl, by decide, by decide, fun d10 H10 d100 d101 r10 => ⟨_, _, rfl, rfl, ?_⟩⟩
    have g10 := g89.trans r10.g
    have tp510 : Tp K H5 H10 := tp59.trans (r10.tp g89.fl)
    refine ⟨f, ka, ks, k, 1 + d10, rfl, g10.fl, tp510 _ _ hka5, by omega, by omega, by omega, by omega, fun vp pp H11 g11 ap wnp owp szp => ?_⟩
    have g1011 := g10.trans g11
    have tp911 : Tp K H9 H11 := (r10.tp g89.fl).trans (g11.tp g10.fl)
    have tp511 : Tp K H5 H11 := tp59.trans tp911
    -- asked
    have lL : ∀ {H5 : Hp}, Gr [] f H2 H5 → H5 L = some (.lst ys) := fun g => g.lst (s1 _ _ eL') nLf
    refine ⟨_, rfl, .inl ⟨rfl, _, SqL.of (lL g1011)⟩, _, rfl, _, rfl, _, rfl, _, rfl, _, rfl, f, ka, ks, rfl, g1011.fl, tp511 _ _ hka5, by omega, fun ti us H12 g12 hti hus => ⟨(by show 4 ≤ sizeLine; decide), fun t ht => ?_⟩⟩
    have g112 := g1011.trans g12
    have tp1112 : Tp K H11 H12 := g12.tp g1011.fl
    have s13 := same_new (o := .tup [V.ref ka, vw, vp, V.ref ti]) ht
    have e13 : (upd H12 t (.tup [V.ref ka, vw, vp, V.ref ti])) t = some (.tup [V.ref ka, vw, vp, V.ref ti]) := upd_same
    generalize upd H12 t (.tup [V.ref ka, vw, vp, V.ref ti]) = H13 at s13 e13
    have g13 := g112.trans (gr_same' g112.fl s13)
    refine ⟨L, ys, _, rfl, rfl, lL g13, smallL (by omega), ?_⟩
    have tL : Tp K H13 (upd H13 L (.lst (ys ++ [V.ref t]))) := Tp.lst (lL g13)
    refine ⟨⟨_, _, _, _, _, _, _, _, _, rfl⟩, fun b o z nb => ?_, ys ++ [V.ref t], upd_same, by rw [List.length_append, ly]; rfl, fun y hy => ?_⟩
    · have nb' : b ≠ L := by simpa using nb
      have z' := hE b o z nb
      rw [upd_ne nb']
      exact g13.lst (s1 _ _ z') (ne_of_none z' hf)
    · rcases List.mem_append.mp hy with z | z
      · exact (hys y z).keep (((Tp.same s1).trans (g13.tp fl)).trans tL)
      · rw [List.mem_singleton.mp z]
        have ts : Tp K H12 H13 := Tp.same s13
        have hA : Askd K H13 (.ref t) := ⟨t, ka, ti, vw, vp, ks, k, pw, pp, us, rfl, .inl (.inl e13), ts _ _ (tp1112 _ _ (tp511 _ _ hka5)), kl3, ⟨((aw.keep tp911).keep tp1112).keep ts, wnw, oww, by omega⟩, ⟨(ap.keep tp1112).keep ts, wnp, owp, by omega⟩, ts _ _ (.inl (.inl hti)), hus⟩
        exact hA.keep tL
  · rintro σ' H1 ⟨⟨y2, y3, y4, y5, y6, y7, y8, y9, y10, rfl⟩, hE, ys, eL', ly, hys⟩
    have ml : ys.length ≤ 63 := by omega
    refine ⟨_, rfl, _, rfl, _, rfl, L, ys, rfl, SqL.of eL', fun l1 hl1 => ?_⟩
    have s1 := same_new (o := .lst (cutV ys none (some 2))) hl1
    have e1 : (upd H1 l1 (.lst (cutV ys none (some 2)))) l1 = some (.lst (cutV ys none (some 2))) := upd_same
    generalize upd H1 l1 (.lst (cutV ys none (some 2))) = H2 at s1 e1
    have cl : (cutV ys none (some 2)).length ≤ 63 := by
      unfold cutV
      rw [List.length_take, List.length_drop]
      omega
    have cm : ∀ y ∈ cutV ys none (some 2), y ∈ ys := fun y h => by
      unfold cutV at h
      exact List.mem_of_mem_drop (List.mem_of_mem_take h)
    refine ⟨L, l1, ys, _, rfl, rfl, s1 _ _ eL', e1, small (by omega), fun l2 hl2 => ?_⟩
    have s2 := same_new (o := .lst (ys ++ cutV ys none (some 2))) hl2
    have e2 : (upd H2 l2 (.lst (ys ++ cutV ys none (some 2)))) l2 = some (.lst (ys ++ cutV ys none (some 2))) := upd_same
    generalize upd H2 l2 (.lst (ys ++ cutV ys none (some 2))) = H3 at s2 e2
    have hall : ∀ y ∈ ys ++ cutV ys none (some 2), Askd K H3 y := fun y h => by
      have z : y ∈ ys := (List.mem_append.mp h).elim id (cm y)
      exact (hys y z).keep ((Tp.same s1).trans (Tp.same s2))
    generalize ys ++ cutV ys none (some 2) = zs at e2 hall
    refine ⟨l2, rfl, ⟨_, SqL.of e2⟩, for_list (K := K) (a := l2) (xs := zs) (fun j σ' H' => (∃ y2 y3 y4 y5 y6 y7 y8 y9 y10 : Option V, σ' = [some (.ref a), some (.ref L), y2, y3, y4, y5, y6, y7, y8, y9, y10]) ∧ Same H3 H') ⟨⟨_, _, _, _, _, _, _, _, _, rfl⟩, Same.refl _⟩ ?_ ?_ ?_⟩
    · rintro j σ' H' _ ⟨_, s'⟩
      exact SqL.of (s' _ _ e2)
    · rintro j y σ' H' hy ⟨⟨y2, y3, y4, y5, y6, y7, y8, y9, y10, rfl⟩, s'⟩
      obtain ⟨t, ka, ti, vw, vp, ks, k, pw, pp, us, rfl, h1, h2, h3, ⟨h4, h5, h6, h7⟩, ⟨h8, h9, h10, h11⟩, h12, h13⟩ := (hall y (List.mem_of_getElem? hy)).keep (Tp.same s')
      refine ⟨t, _, rfl, h1, rfl, _, _, rfl, _, _, rfl, _, _, rfl, _, _, rfl, rfl, ?_⟩
      have kvl : (kVs ks).length = ks.length := List.length_map _
      have il : (inps ks.length).length = ks.length := by unfold inps; rw [List.length_map, List.length_range]
      refine ⟨_, rfl, _, rfl, ka, _, rfl, .inr h2, (((kVs ks).length : Nat) : Int), rfl, by omega, by omega, fun D hD => lc_range (lo := 0) (n := (((kVs ks).length : Nat) : Int).toNat) (fun j H'' => Same H' H'' ∧ ∃ ws, H'' D = some (.lst ws) ∧ Ats K H'' ws (inps j)) ?_ ?_ ?_⟩
      · exact ⟨same_new hD, [], upd_same, .nil⟩
      · rintro j H'' hj ⟨sm, ws, eD, hws⟩
        have wl : ws.length = j := by rw [hws.len]; unfold inps; rw [List.length_map, List.length_range]
        refine ⟨rfl, _, rfl, (by show 2 ≤ sizeLine; decide), fun p hp => ⟨ws, ?_, smallL (by omega), ?_⟩⟩
        · rw [upd_ne (ne_of_none eD hp)]; exact eD
        · have sp := same_new (o := .tup [V.str "in", V.int (0 + (j : Int))]) hp
          have eD' := sp _ _ eD
          have ep : (upd H'' p (.tup [V.str "in", V.int (0 + (j : Int))])) p = some (.tup [V.str "in", V.int (j : Int)]) := by rw [upd_same, Int.zero_add]
          generalize upd H'' p (.tup [V.str "in", V.int (0 + (j : Int))]) = H3 at sp eD' ep
          have tl : Tp K H3 (upd H3 D (.lst (ws ++ [V.ref p]))) := Tp.lst eD'
          refine ⟨fun b o z => ?_, ws ++ [.ref p], upd_same, ?_⟩
          · rw [upd_ne (ne_of_none z hD)]
            exact sp _ _ (sm _ _ z)
          · unfold inps
            rw [List.range_succ, List.map_append]
            exact ((hws.keep (Tp.same sp)).keep tl).app (Ats.cons (p := .inp j) (.tup (tl _ _ (.inl (.inl ep))) (.cons (.str _) (.cons (.int _) .nil))) Ats.nil)
      rintro H4 ⟨s4, ws, eD, hws⟩
      have em2 : (((kVs ks).length : Nat) : Int).toNat = ks.length := by rw [kvl]; omega
      rw [em2] at hws
      have wl : ws.length = ks.length := by rw [hws.len, il]
      refine ⟨_, rfl, (by show 1 ≤ sizeLine; decide), fun l5 hl5 => ?_⟩
      have s5 := same_new (o := .lst [vp]) hl5
      have e5 : (upd H4 l5 (.lst [vp])) l5 = some (.lst [vp]) := upd_same
      generalize upd H4 l5 (.lst [vp]) = H5 at s5 e5
      refine ⟨D, l5, ws, _, rfl, rfl, s5 _ _ eD, e5, small (by show ws.length + 1 ≤ _; omega), fun l6 hl6 => ?_⟩
      have s6 := same_new (o := .lst (ws ++ [vp])) hl6
      have e6 : (upd H5 l6 (.lst (ws ++ [vp]))) l6 = some (.lst (ws ++ [vp])) := upd_same
      generalize upd H5 l6 (.lst (ws ++ [vp])) = H6 at s6 e6
      have s46 := s5.trans s6
      have s06 := s4.trans s46
      have dw := dep_le pw
      have dp := dep_le pp
      obtain ⟨ss, ess⟩ : ∃ ss, inps ks.length ++ [pp] = ss := ⟨_, rfl⟩
      have ssl : ss.length = (ks ++ [k]).length := by rw [← ess, List.length_append, il, List.length_append]; rfl
      have hss : Ats K H6 (ws ++ [vp]) ss := by rw [← ess]; exact (hws.keep (Tp.same s46)).app (Ats.cons (h8.keep (Tp.same s06)) Ats.nil)
      have sown : ss.map (own ks) = ks ++ [k] := by rw [← ess, List.map_append, inps_own]; show ks ++ [own ks pp] = _; rw [h10]
      have swk : ∀ s ∈ ss, Wk ks s := fun s hs => by
        rw [← ess] at hs
        rcases List.mem_append.mp hs with z | z
        · obtain ⟨c, hc, rfl⟩ := inps_mem z
          exact hc
        · rw [List.mem_singleton.mp z]; exact h9.1
      have ssm : ∀ s ∈ ss, Sm6 s := fun s hs => by
        rw [← ess] at hs
        rcases List.mem_append.mp hs with z | z
        · obtain ⟨c, hc, rfl⟩ := inps_mem z
          show (c : Int).natAbs < 1000000
          omega
        · rw [List.mem_singleton.mp z]; exact sm_wn (by omega) pp h9
      have ssz : ∀ s ∈ ss, psz s ≤ 8 := fun s hs => by
        rw [← ess] at hs
        rcases List.mem_append.mp hs with z | z
        · obtain ⟨c, hc, rfl⟩ := inps_mem z
          show 1 ≤ 8; decide
        · rw [List.mem_singleton.mp z]; exact h11
      have sdp : ∀ s ∈ ss, dep s ≤ 8 := fun s hs => Nat.le_trans (dep_le s) (ssz s hs)
      have kl4 : (ks ++ [k]).length ≤ 4 := by rw [List.length_append]; show ks.length + 1 ≤ 4; omega
      have fsm : Sm6 (psub ss pw) := sm_psub ss ssm pw (sm_wn (by omega) pw h5)
      have fsz : psz (psub ss pw) ≤ 10000 := Nat.le_trans (psub_psz 8 ss (by decide) ssz pw) (by omega)
      have fdp : dep (psub ss pw) ≤ 60 := Nat.le_trans (psub_dep 8 ss (by decide) sdp pw) (by omega)
      have fwk : Wk ks (psub ss pw) := psub_wk (ks ++ [k]) ks ss ssl sown swk pw h5.1
      have fow : own ks (psub ss pw) = true := by rw [psub_own (ks ++ [k]) ks ss ssl sown pw h5.1]; exact h6
      have low : Low ss.length pw := by rw [ssl]; exact wk_low pw h5.1
      refine ⟨vw, pw, l6, ws ++ [vp], ss, ks ++ [k], rfl, h4.keep (Tp.same s06), e6, hss, ssl, h5.1, by omega, fun u1 H7 s7 hu1 => ?_⟩
      have s07 := s06.trans s7
      -- what is told
      have eml : ss = inps (kVs ks).length ++ [pp] := by rw [kvl, ess]
      refine ⟨_, rfl, _, rfl, _, rfl, ka, _, rfl, .inr (Tp.same s07 _ _ h2), rfl, rfl, vw, vp, pw, pp, (kVs ks).length, rfl, h4.keep (Tp.same s07), h8.keep (Tp.same s07), ?_, by omega, by omega, fun u2 H8 s8 hu2 => ?_⟩
      · have z : ss.length = (kVs ks).length + 1 := by rw [ssl, List.length_append, kvl]; rfl
        rw [← z]; exact low
      rw [← eml] at hu2
      have s08 := s07.trans s8
      refine ⟨_, rfl, .inl (At.repr hu2 fsm fsz fdp ⟨_, rfl, .inl (At.repr (hu1.keep (Tp.same s8)) fsm fsz fdp ⟨rfl, _, rfl, ?_⟩)⟩)⟩
      refine ite_f (by simp) ?_
      have eb := pval_bl h13 fwk fow
      refine ⟨_, rfl, _, rfl, u2, psub ss pw, ti, us, ks, rfl, hu2, Tp.same s08 _ _ h12, h13, fwk, fsz, fun H9 s9 => ?_⟩
      have s09 := s08.trans s9
      refine .inr (.inr ⟨bv (pval us (psub ss pw)), by rw [← eb], ?_⟩)
      refine ⟨_, rfl, _, rfl, _, rfl, _, rfl, vp, pp, ti, us, ks, rfl, h8.keep (Tp.same s09), Tp.same s09 _ _ h12, h13, h9.1, by omega, fun H10 s10 => ⟨(by show 1 ≤ sizeLine; decide), fun t10 ht10 => ?_⟩⟩
      have s11 := same_new (o := .tup [pval us pp]) ht10
      have e11 : (upd H10 t10 (.tup [pval us pp])) t10 = some (.tup [pval us pp]) := upd_same
      generalize upd H10 t10 (.tup [pval us pp]) = H11 at s11 e11
      have s011 := s09.trans (s10.trans s11)
      have ul := h13.1
      refine catA_anyW (Tp.same s011 _ _ h12) (.inl (.inl e11)) (by rw [ul]; exact small (by show ks.length + 1 ≤ _; omega)) fun kb H12 s12 hkb => ?_
      have s012 := s011.trans s12
      have hkv2 : Kvs (ks ++ [k]) (us ++ [pval us pp]) := kvs_snoc h13 (h10 ▸ pval_kv h13 pp h9.1)
      have ev2 : pval us (psub ss pw) = pval (us ++ [pval us pp]) pw := by
        rw [pval_psub us ss pw low, ← ess, List.map_append, ← ul, inps_pval]
        rfl
      refine ⟨vw, pw, kb, us ++ [pval us pp], ks ++ [k], rfl, h4.keep (Tp.same s012), hkb, hkv2, h5.1, by omega, fun H13 s13 => ?_⟩
      refine .inr (.inr ⟨bv (pval us (psub ss pw)), by rw [← ev2, ← eb], rfl, _, rfl, ite_f (by simp) ?_⟩)
      exact ⟨⟨_, _, _, _, _, _, _, _, _, rfl⟩, s'.trans (s012.trans s13)⟩
    · rintro σ' H' _
      exact q _
end
end Lm

set_option Elab.async false
set_option linter.all false
set_option maxRecDepth 100000
set_option maxHeartbeats 2000000
namespace Lm
open PySem PySem.Spec PyProof.Rows L2 LmR
theorem defAt_mk {K : PySem.W.Frag} {h : Heap} {mg : Str → Option Value} {x : Str} {st : Stmt} {ps : List Str} {f : Addr} {oc : Value} {od an : Option Addr} {osl : Array (Option Value)} {kV doc pm cdv ct : Value} (X : K.In h) (G : h.Ns mainGlobals mg)
    (a : PySem.W.nsIn K mainGlobals x = some (some (.ref f))) (l : K.lookup f = some ⟨oc, od, .func (PySem.W.fnOf x x (defArgs st) (defBody st) (defScope st) .none kV doc pm an cdv ct), osl⟩) (c : PySem.W.codeIn K cdv x = true) (k : PySem.W.keepIn K (.ref f) = true)
    (hb : ∀ (kV doc pm : Value) (an : Option Addr) (cdv ct : Value) (us : List Value), us.length = ps.length → bindArgs (PySem.W.fnOf x x (defArgs st) (defBody st) (defScope st) .none kV doc pm an cdv ct) ⟨us, []⟩ = pure (ps.zip us)) : DefAt K mg x st ps :=
  ⟨f, _, fun_mk l c k, (fun_mk l c k).binds hb, PySem.W.mg_of X G a⟩
theorem all_mk {l : PySem.W.OpenLaw} {w : World} {K : PySem.W.Frag} {h : Heap} {mg : Str → Option Value} {fa : Addr} (X : K.In h) (G : h.Ns mainGlobals mg) (hfa : mg "law" = some (.ref fa))
    {f0 : Addr} {od0 an0 : Option Addr} {sl0 : Array (Option Value)} {oc0 kV0 dc0 pm0 cd0 ct0 : Value} {f1 : Addr} {od1 an1 : Option Addr} {sl1 : Array (Option Value)} {oc1 kV1 dc1 pm1 cd1 ct1 : Value} {f2 : Addr} {od2 an2 : Option Addr} {sl2 : Array (Option Value)} {oc2 kV2 dc2 pm2 cd2 ct2 : Value} {f3 : Addr} {od3 an3 : Option Addr} {sl3 : Array (Option Value)} {oc3 kV3 dc3 pm3 cd3 ct3 : Value} {f4 : Addr} {od4 an4 : Option Addr} {sl4 : Array (Option Value)} {oc4 kV4 dc4 pm4 cd4 ct4 : Value} {f5 : Addr} {od5 an5 : Option Addr} {sl5 : Array (Option Value)} {oc5 kV5 dc5 pm5 cd5 ct5 : Value} {f6 : Addr} {od6 an6 : Option Addr} {sl6 : Array (Option Value)} {oc6 kV6 dc6 pm6 cd6 ct6 : Value} {f7 : Addr} {od7 an7 : Option Addr} {sl7 : Array (Option Value)} {oc7 kV7 dc7 pm7 cd7 ct7 : Value} {f8 : Addr} {od8 an8 : Option Addr} {sl8 : Array (Option Value)} {oc8 kV8 dc8 pm8 cd8 ct8 : Value} {f9 : Addr} {od9 an9 : Option Addr} {sl9 : Array (Option Value)} {oc9 kV9 dc9 pm9 cd9 ct9 : Value} {f10 : Addr} {od10 an10 : Option Addr} {sl10 : Array (Option Value)} {oc10 kV10 dc10 pm10 cd10 ct10 : Value} {f11 : Addr} {od11 an11 : Option Addr} {sl11 : Array (Option Value)} {oc11 kV11 dc11 pm11 cd11 ct11 : Value} {f12 : Addr} {od12 an12 : Option Addr} {sl12 : Array (Option Value)} {oc12 kV12 dc12 pm12 cd12 ct12 : Value} {f13 : Addr} {od13 an13 : Option Addr} {sl13 : Array (Option Value)} {oc13 kV13 dc13 pm13 cd13 ct13 : Value} {f14 : Addr} {od14 an14 : Option Addr} {sl14 : Array (Option Value)} {oc14 kV14 dc14 pm14 cd14 ct14 : Value} {f15 : Addr} {od15 an15 : Option Addr} {sl15 : Array (Option Value)} {oc15 kV15 dc15 pm15 cd15 ct15 : Value} {f16 : Addr} {od16 an16 : Option Addr} {sl16 : Array (Option Value)} {oc16 kV16 dc16 pm16 cd16 ct16 : Value} {f17 : Addr} {od17 an17 : Option Addr} {sl17 : Array (Option Value)} {oc17 kV17 dc17 pm17 cd17 ct17 : Value} {f18 : Addr} {od18 an18 : Option Addr} {sl18 : Array (Option Value)} {oc18 kV18 dc18 pm18 cd18 ct18 : Value} {f19 : Addr} {od19 an19 : Option Addr} {sl19 : Array (Option Value)} {oc19 kV19 dc19 pm19 cd19 ct19 : Value} {f20 : Addr} {od20 an20 : Option Addr} {sl20 : Array (Option Value)} {oc20 kV20 dc20 pm20 cd20 ct20 : Value} {f21 : Addr} {od21 an21 : Option Addr} {sl21 : Array (Option Value)} {oc21 kV21 dc21 pm21 cd21 ct21 : Value} {f22 : Addr} {od22 an22 : Option Addr} {sl22 : Array (Option Value)} {oc22 kV22 dc22 pm22 cd22 ct22 : Value} {f23 : Addr} {od23 an23 : Option Addr} {sl23 : Array (Option Value)} {oc23 kV23 dc23 pm23 cd23 ct23 : Value} {f24 : Addr} {od24 an24 : Option Addr} {sl24 : Array (Option Value)} {oc24 kV24 dc24 pm24 cd24 ct24 : Value} {dF : Addr} {esF : Array DictEntry} {nF : Nat} {t0 u0 : Addr} {dt0 du0 : Option Addr} {st0 su0 : Array (Option Value)} {nt0 nu0 : Nat} {q0_0 : Tok} {t1 u1 : Addr} {dt1 du1 : Option Addr} {st1 su1 : Array (Option Value)} {nt1 nu1 : Nat} {q0_1 q1_1 : Tok} {t2 u2 : Addr} {dt2 du2 : Option Addr} {st2 su2 : Array (Option Value)} {nt2 nu2 : Nat} {q0_2 q1_2 : Tok} {t3 u3 : Addr} {dt3 du3 : Option Addr} {st3 su3 : Array (Option Value)} {nt3 nu3 : Nat} {q0_3 q1_3 : Tok} {t4 u4 : Addr} {dt4 du4 : Option Addr} {st4 su4 : Array (Option Value)} {nt4 nu4 : Nat} {q0_4 q1_4 q2_4 : Tok} {t5 u5 : Addr} {dt5 du5 : Option Addr} {st5 su5 : Array (Option Value)} {nt5 nu5 : Nat} {q0_5 q1_5 q2_5 q3_5 : Tok} {t6 u6 : Addr} {dt6 du6 : Option Addr} {st6 su6 : Array (Option Value)} {nt6 nu6 : Nat} {q0_6 q1_6 q2_6 q3_6 : Tok} {t7 u7 : Addr} {dt7 du7 : Option Addr} {st7 su7 : Array (Option Value)} {nt7 nu7 : Nat} {q0_7 q1_7 q2_7 q3_7 : Tok} {t8 u8 : Addr} {dt8 du8 : Option Addr} {st8 su8 : Array (Option Value)} {nt8 nu8 : Nat} {q0_8 q1_8 q2_8 : Tok} {t9 u9 : Addr} {dt9 du9 : Option Addr} {st9 su9 : Array (Option Value)} {nt9 nu9 : Nat} {q0_9 q1_9 q2_9 q3_9 : Tok} {t10 u10 : Addr} {dt10 du10 : Option Addr} {st10 su10 : Array (Option Value)} {nt10 nu10 : Nat} {q0_10 q1_10 q2_10 q3_10 : Tok} {t11 u11 : Addr} {dt11 du11 : Option Addr} {st11 su11 : Array (Option Value)} {nt11 nu11 : Nat} {q0_11 q2_11 : Tok}
    (a0 : PySem.W.nsIn K mainGlobals "knots" = some (some (.ref f0))) (l0 : K.lookup f0 = some ⟨oc0, od0, .func (PySem.W.fnOf "knots" "knots" (defArgs s_knots) (defBody s_knots) (defScope s_knots) .none kV0 dc0 pm0 an0 cd0 ct0), sl0⟩) (c0 : PySem.W.codeIn K cd0 "knots" = true) (k0 : PySem.W.keepIn K (.ref f0) = true)
    (a1 : PySem.W.nsIn K mainGlobals "put" = some (some (.ref f1))) (l1 : K.lookup f1 = some ⟨oc1, od1, .func (PySem.W.fnOf "put" "put" (defArgs s_put) (defBody s_put) (defScope s_put) .none kV1 dc1 pm1 an1 cd1 ct1), sl1⟩) (c1 : PySem.W.codeIn K cd1 "put" = true) (k1 : PySem.W.keepIn K (.ref f1) = true)
    (a2 : PySem.W.nsIn K mainGlobals "is_whole" = some (some (.ref f2))) (l2 : K.lookup f2 = some ⟨oc2, od2, .func (PySem.W.fnOf "is_whole" "is_whole" (defArgs s_is_whole) (defBody s_is_whole) (defScope s_is_whole) .none kV2 dc2 pm2 an2 cd2 ct2), sl2⟩) (c2 : PySem.W.codeIn K cd2 "is_whole" = true) (k2 : PySem.W.keepIn K (.ref f2) = true)
    (a3 : PySem.W.nsIn K mainGlobals "has_form" = some (some (.ref f3))) (l3 : K.lookup f3 = some ⟨oc3, od3, .func (PySem.W.fnOf "has_form" "has_form" (defArgs s_has_form) (defBody s_has_form) (defScope s_has_form) .none kV3 dc3 pm3 an3 cd3 ct3), sl3⟩) (c3 : PySem.W.codeIn K cd3 "has_form" = true) (k3 : PySem.W.keepIn K (.ref f3) = true)
    (a4 : PySem.W.nsIn K mainGlobals "many_numbers" = some (some (.ref f4))) (l4 : K.lookup f4 = some ⟨oc4, od4, .func (PySem.W.fnOf "many_numbers" "many_numbers" (defArgs s_many_numbers) (defBody s_many_numbers) (defScope s_many_numbers) .none kV4 dc4 pm4 an4 cd4 ct4), sl4⟩) (c4 : PySem.W.codeIn K cd4 "many_numbers" = true) (k4 : PySem.W.keepIn K (.ref f4) = true)
    (a5 : PySem.W.nsIn K mainGlobals "many_parts" = some (some (.ref f5))) (l5 : K.lookup f5 = some ⟨oc5, od5, .func (PySem.W.fnOf "many_parts" "many_parts" (defArgs s_many_parts) (defBody s_many_parts) (defScope s_many_parts) .none kV5 dc5 pm5 an5 cd5 ct5), sl5⟩) (c5 : PySem.W.codeIn K cd5 "many_parts" = true) (k5 : PySem.W.keepIn K (.ref f5) = true)
    (a6 : PySem.W.nsIn K mainGlobals "front_of" = some (some (.ref f6))) (l6 : K.lookup f6 = some ⟨oc6, od6, .func (PySem.W.fnOf "front_of" "front_of" (defArgs s_front_of) (defBody s_front_of) (defScope s_front_of) .none kV6 dc6 pm6 an6 cd6 ct6), sl6⟩) (c6 : PySem.W.codeIn K cd6 "front_of" = true) (k6 : PySem.W.keepIn K (.ref f6) = true)
    (a7 : PySem.W.nsIn K mainGlobals "parts_of" = some (some (.ref f7))) (l7 : K.lookup f7 = some ⟨oc7, od7, .func (PySem.W.fnOf "parts_of" "parts_of" (defArgs s_parts_of) (defBody s_parts_of) (defScope s_parts_of) .none kV7 dc7 pm7 an7 cd7 ct7), sl7⟩) (c7 : PySem.W.codeIn K cd7 "parts_of" = true) (k7 : PySem.W.keepIn K (.ref f7) = true)
    (a8 : PySem.W.nsIn K mainGlobals "taken" = some (some (.ref f8))) (l8 : K.lookup f8 = some ⟨oc8, od8, .func (PySem.W.fnOf "taken" "taken" (defArgs s_taken) (defBody s_taken) (defScope s_taken) .none kV8 dc8 pm8 an8 cd8 ct8), sl8⟩) (c8 : PySem.W.codeIn K cd8 "taken" = true) (k8 : PySem.W.keepIn K (.ref f8) = true)
    (a9 : PySem.W.nsIn K mainGlobals "value" = some (some (.ref f9))) (l9 : K.lookup f9 = some ⟨oc9, od9, .func (PySem.W.fnOf "value" "value" (defArgs s_value) (defBody s_value) (defScope s_value) .none kV9 dc9 pm9 an9 cd9 ct9), sl9⟩) (c9 : PySem.W.codeIn K cd9 "value" = true) (k9 : PySem.W.keepIn K (.ref f9) = true)
    (a10 : PySem.W.nsIn K mainGlobals "knot_value" = some (some (.ref f10))) (l10 : K.lookup f10 = some ⟨oc10, od10, .func (PySem.W.fnOf "knot_value" "knot_value" (defArgs s_knot_value) (defBody s_knot_value) (defScope s_knot_value) .none kV10 dc10 pm10 an10 cd10 ct10), sl10⟩) (c10 : PySem.W.codeIn K cd10 "knot_value" = true) (k10 : PySem.W.keepIn K (.ref f10) = true)
    (a11 : PySem.W.nsIn K mainGlobals "met_by" = some (some (.ref f11))) (l11 : K.lookup f11 = some ⟨oc11, od11, .func (PySem.W.fnOf "met_by" "met_by" (defArgs s_met_by) (defBody s_met_by) (defScope s_met_by) .none kV11 dc11 pm11 an11 cd11 ct11), sl11⟩) (c11 : PySem.W.codeIn K cd11 "met_by" = true) (k11 : PySem.W.keepIn K (.ref f11) = true)
    (a12 : PySem.W.nsIn K mainGlobals "plain_inputs" = some (some (.ref f12))) (l12 : K.lookup f12 = some ⟨oc12, od12, .func (PySem.W.fnOf "plain_inputs" "plain_inputs" (defArgs s_plain_inputs) (defBody s_plain_inputs) (defScope s_plain_inputs) .none kV12 dc12 pm12 an12 cd12 ct12), sl12⟩) (c12 : PySem.W.codeIn K cd12 "plain_inputs" = true) (k12 : PySem.W.keepIn K (.ref f12) = true)
    (a13 : PySem.W.nsIn K mainGlobals "_law_cell" = some (some (.ref f13))) (l13 : K.lookup f13 = some ⟨oc13, od13, .func (PySem.W.fnOf "_law_cell" "_law_cell" (defArgs s_l_cell) (defBody s_l_cell) (defScope s_l_cell) .none kV13 dc13 pm13 an13 cd13 ct13), sl13⟩) (c13 : PySem.W.codeIn K cd13 "_law_cell" = true) (k13 : PySem.W.keepIn K (.ref f13) = true)
    (a14 : PySem.W.nsIn K mainGlobals "_law_flow" = some (some (.ref f14))) (l14 : K.lookup f14 = some ⟨oc14, od14, .func (PySem.W.fnOf "_law_flow" "_law_flow" (defArgs s_l_flow) (defBody s_l_flow) (defScope s_l_flow) .none kV14 dc14 pm14 an14 cd14 ct14), sl14⟩) (c14 : PySem.W.codeIn K cd14 "_law_flow" = true) (k14 : PySem.W.keepIn K (.ref f14) = true)
    (a15 : PySem.W.nsIn K mainGlobals "_law_draw" = some (some (.ref f15))) (l15 : K.lookup f15 = some ⟨oc15, od15, .func (PySem.W.fnOf "_law_draw" "_law_draw" (defArgs s_l_draw) (defBody s_l_draw) (defScope s_l_draw) .none kV15 dc15 pm15 an15 cd15 ct15), sl15⟩) (c15 : PySem.W.codeIn K cd15 "_law_draw" = true) (k15 : PySem.W.keepIn K (.ref f15) = true)
    (a16 : PySem.W.nsIn K mainGlobals "_law_kinds" = some (some (.ref f16))) (l16 : K.lookup f16 = some ⟨oc16, od16, .func (PySem.W.fnOf "_law_kinds" "_law_kinds" (defArgs s_l_kinds) (defBody s_l_kinds) (defScope s_l_kinds) .none kV16 dc16 pm16 an16 cd16 ct16), sl16⟩) (c16 : PySem.W.codeIn K cd16 "_law_kinds" = true) (k16 : PySem.W.keepIn K (.ref f16) = true)
    (a17 : PySem.W.nsIn K mainGlobals "_law_little" = some (some (.ref f17))) (l17 : K.lookup f17 = some ⟨oc17, od17, .func (PySem.W.fnOf "_law_little" "_law_little" (defArgs s_l_little) (defBody s_l_little) (defScope s_l_little) .none kV17 dc17 pm17 an17 cd17 ct17), sl17⟩) (c17 : PySem.W.codeIn K cd17 "_law_little" = true) (k17 : PySem.W.keepIn K (.ref f17) = true)
    (a18 : PySem.W.nsIn K mainGlobals "_law_leaf" = some (some (.ref f18))) (l18 : K.lookup f18 = some ⟨oc18, od18, .func (PySem.W.fnOf "_law_leaf" "_law_leaf" (defArgs s_l_leaf) (defBody s_l_leaf) (defScope s_l_leaf) .none kV18 dc18 pm18 an18 cd18 ct18), sl18⟩) (c18 : PySem.W.codeIn K cd18 "_law_leaf" = true) (k18 : PySem.W.keepIn K (.ref f18) = true)
    (a19 : PySem.W.nsIn K mainGlobals "_law_plan" = some (some (.ref f19))) (l19 : K.lookup f19 = some ⟨oc19, od19, .func (PySem.W.fnOf "_law_plan" "_law_plan" (defArgs s_l_plan) (defBody s_l_plan) (defScope s_l_plan) .none kV19 dc19 pm19 an19 cd19 ct19), sl19⟩) (c19 : PySem.W.codeIn K cd19 "_law_plan" = true) (k19 : PySem.W.keepIn K (.ref f19) = true)
    (a20 : PySem.W.nsIn K mainGlobals "_law_inner" = some (some (.ref f20))) (l20 : K.lookup f20 = some ⟨oc20, od20, .func (PySem.W.fnOf "_law_inner" "_law_inner" (defArgs s_l_inner) (defBody s_l_inner) (defScope s_l_inner) .none kV20 dc20 pm20 an20 cd20 ct20), sl20⟩) (c20 : PySem.W.codeIn K cd20 "_law_inner" = true) (k20 : PySem.W.keepIn K (.ref f20) = true)
    (a21 : PySem.W.nsIn K mainGlobals "_law_worth" = some (some (.ref f21))) (l21 : K.lookup f21 = some ⟨oc21, od21, .func (PySem.W.fnOf "_law_worth" "_law_worth" (defArgs s_l_worth) (defBody s_l_worth) (defScope s_l_worth) .none kV21 dc21 pm21 an21 cd21 ct21), sl21⟩) (c21 : PySem.W.codeIn K cd21 "_law_worth" = true) (k21 : PySem.W.keepIn K (.ref f21) = true)
    (a22 : PySem.W.nsIn K mainGlobals "_law_put" = some (some (.ref f22))) (l22 : K.lookup f22 = some ⟨oc22, od22, .func (PySem.W.fnOf "_law_put" "_law_put" (defArgs s_l_put) (defBody s_l_put) (defScope s_l_put) .none kV22 dc22 pm22 an22 cd22 ct22), sl22⟩) (c22 : PySem.W.codeIn K cd22 "_law_put" = true) (k22 : PySem.W.keepIn K (.ref f22) = true)
    (a23 : PySem.W.nsIn K mainGlobals "_law_some_inputs" = some (some (.ref f23))) (l23 : K.lookup f23 = some ⟨oc23, od23, .func (PySem.W.fnOf "_law_some_inputs" "_law_some_inputs" (defArgs s_l_some_inputs) (defBody s_l_some_inputs) (defScope s_l_some_inputs) .none kV23 dc23 pm23 an23 cd23 ct23), sl23⟩) (c23 : PySem.W.codeIn K cd23 "_law_some_inputs" = true) (k23 : PySem.W.keepIn K (.ref f23) = true)
    (a24 : PySem.W.nsIn K mainGlobals "law" = some (some (.ref f24))) (l24 : K.lookup f24 = some ⟨oc24, od24, .func (PySem.W.fnOf "law" "law" (defArgs s_law) (defBody s_law) (defScope s_law) .none kV24 dc24 pm24 an24 cd24 ct24), sl24⟩) (c24 : PySem.W.codeIn K cd24 "law" = true) (k24 : PySem.W.keepIn K (.ref f24) = true)
    (z0 : PySem.W.nsIn K mainGlobals "len" = some none)
    (z1 : PySem.W.nsIn K mainGlobals "isinstance" = some none)
    (z2 : PySem.W.nsIn K mainGlobals "tuple" = some none)
    (z3 : PySem.W.nsIn K mainGlobals "list" = some none)
    (z4 : PySem.W.nsIn K mainGlobals "str" = some none)
    (z5 : PySem.W.nsIn K mainGlobals "int" = some none)
    (z6 : PySem.W.nsIn K mainGlobals "bool" = some none)
    (z7 : PySem.W.nsIn K mainGlobals "range" = some none)
    (z8 : PySem.W.nsIn K mainGlobals "zip" = some none)
    (z9 : PySem.W.nsIn K mainGlobals "enumerate" = some none)
    (z10 : PySem.W.nsIn K mainGlobals "reversed" = some none)
    (z11 : PySem.W.nsIn K mainGlobals "max" = some none)
    (z12 : PySem.W.nsIn K mainGlobals "all" = some none)
    (z13 : PySem.W.nsIn K mainGlobals "min" = some none)
    (z14 : PySem.W.nsIn K mainGlobals "sum" = some none)
    (z15 : PySem.W.nsIn K mainGlobals "any" = some none)
    (z16 : PySem.W.nsIn K mainGlobals "sorted" = some none)
    (z17 : PySem.W.nsIn K mainGlobals "set" = some none)
    (z18 : PySem.W.nsIn K mainGlobals "repr" = some none)
    (z19 : PySem.W.nsIn K mainGlobals "abs" = some none)
    (aF : PySem.W.nsIn K mainGlobals "FORMS" = some (some (.ref dF))) (lF : K.lookup dF = some ⟨.type "dict", none, .dict esF nF, #[]⟩) (kF : PySem.W.KeysLit w.params esF.toList) (wF : (dF == sysModules) = false)
    (e0 : PySem.W.nsIn K dF "in" = some (some (.ref t0))) (m0 : K.lookup t0 = some ⟨.type "tuple", dt0, .seq #[.int 1 q0_0, .ref u0, .none] nt0, st0⟩) (v0 : K.lookup u0 = some ⟨.type "tuple", du0, .seq #[] nu0, su0⟩)
    (e1 : PySem.W.nsIn K dF "num" = some (some (.ref t1))) (m1 : K.lookup t1 = some ⟨.type "tuple", dt1, .seq #[.int 1 q0_1, .ref u1, .str "num" q1_1] nt1, st1⟩) (v1 : K.lookup u1 = some ⟨.type "tuple", du1, .seq #[] nu1, su1⟩)
    (e2 : PySem.W.nsIn K dF "yes" = some (some (.ref t2))) (m2 : K.lookup t2 = some ⟨.type "tuple", dt2, .seq #[.int 0 q0_2, .ref u2, .str "truth" q1_2] nt2, st2⟩) (v2 : K.lookup u2 = some ⟨.type "tuple", du2, .seq #[] nu2, su2⟩)
    (e3 : PySem.W.nsIn K dF "no" = some (some (.ref t3))) (m3 : K.lookup t3 = some ⟨.type "tuple", dt3, .seq #[.int 0 q0_3, .ref u3, .str "truth" q1_3] nt3, st3⟩) (v3 : K.lookup u3 = some ⟨.type "tuple", du3, .seq #[] nu3, su3⟩)
    (e4 : PySem.W.nsIn K dF "plus" = some (some (.ref t4))) (m4 : K.lookup t4 = some ⟨.type "tuple", dt4, .seq #[.int 1 q0_4, .ref u4, .str "num" q1_4] nt4, st4⟩) (v4 : K.lookup u4 = some ⟨.type "tuple", du4, .seq #[.str "num" q2_4] nu4, su4⟩)
    (e5 : PySem.W.nsIn K dF "least" = some (some (.ref t5))) (m5 : K.lookup t5 = some ⟨.type "tuple", dt5, .seq #[.int 0 q0_5, .ref u5, .str "num" q1_5] nt5, st5⟩) (v5 : K.lookup u5 = some ⟨.type "tuple", du5, .seq #[.str "num" q2_5, .str "num" q3_5] nu5, su5⟩)
    (e6 : PySem.W.nsIn K dF "most" = some (some (.ref t6))) (m6 : K.lookup t6 = some ⟨.type "tuple", dt6, .seq #[.int 0 q0_6, .ref u6, .str "num" q1_6] nt6, st6⟩) (v6 : K.lookup u6 = some ⟨.type "tuple", du6, .seq #[.str "num" q2_6, .str "num" q3_6] nu6, su6⟩)
    (e7 : PySem.W.nsIn K dF "atmost" = some (some (.ref t7))) (m7 : K.lookup t7 = some ⟨.type "tuple", dt7, .seq #[.int 0 q0_7, .ref u7, .str "truth" q1_7] nt7, st7⟩) (v7 : K.lookup u7 = some ⟨.type "tuple", du7, .seq #[.str "num" q2_7, .str "num" q3_7] nu7, su7⟩)
    (e8 : PySem.W.nsIn K dF "not" = some (some (.ref t8))) (m8 : K.lookup t8 = some ⟨.type "tuple", dt8, .seq #[.int 0 q0_8, .ref u8, .str "truth" q1_8] nt8, st8⟩) (v8 : K.lookup u8 = some ⟨.type "tuple", du8, .seq #[.str "truth" q2_8] nu8, su8⟩)
    (e9 : PySem.W.nsIn K dF "both" = some (some (.ref t9))) (m9 : K.lookup t9 = some ⟨.type "tuple", dt9, .seq #[.int 0 q0_9, .ref u9, .str "truth" q1_9] nt9, st9⟩) (v9 : K.lookup u9 = some ⟨.type "tuple", du9, .seq #[.str "truth" q2_9, .str "truth" q3_9] nu9, su9⟩)
    (e10 : PySem.W.nsIn K dF "either" = some (some (.ref t10))) (m10 : K.lookup t10 = some ⟨.type "tuple", dt10, .seq #[.int 0 q0_10, .ref u10, .str "truth" q1_10] nt10, st10⟩) (v10 : K.lookup u10 = some ⟨.type "tuple", du10, .seq #[.str "truth" q2_10, .str "truth" q3_10] nu10, su10⟩)
    (e11 : PySem.W.nsIn K dF "if" = some (some (.ref t11))) (m11 : K.lookup t11 = some ⟨.type "tuple", dt11, .seq #[.int 0 q0_11, .ref u11, .none] nt11, st11⟩) (v11 : K.lookup u11 = some ⟨.type "tuple", du11, .seq #[.str "truth" q2_11, .none, .none] nu11, su11⟩)
    : ∃ fd : FuncData, (∀ (s : Shared) (v : Value), BindsTo s fd ⟨[v], []⟩ [("_law_script", v)]) ∧ ∀ base : Heap, K.In base → base.Ns mainGlobals mg → FnG l.prog w K mg base 21 fa fd ["_law_script"] (spLaw K) := by
  have e := hfa.symm.trans (PySem.W.mg_of X G a24)
  cases e
  have D_knots : DefAt K mg "knots" s_knots ["program"] := defAt_mk X G a0 l0 c0 k0 fun _ _ _ _ _ _ us hl => match us, hl with | [_], _ => rfl
  have D_put : DefAt K mg "put" s_put ["program", "some"] := defAt_mk X G a1 l1 c1 k1 fun _ _ _ _ _ _ us hl => match us, hl with | [_, _], _ => rfl
  have D_is_whole : DefAt K mg "is_whole" s_is_whole ["thing"] := defAt_mk X G a2 l2 c2 k2 fun _ _ _ _ _ _ us hl => match us, hl with | [_], _ => rfl
  have D_has_form : DefAt K mg "has_form" s_has_form ["thing"] := defAt_mk X G a3 l3 c3 k3 fun _ _ _ _ _ _ us hl => match us, hl with | [_], _ => rfl
  have D_many_numbers : DefAt K mg "many_numbers" s_many_numbers ["word"] := defAt_mk X G a4 l4 c4 k4 fun _ _ _ _ _ _ us hl => match us, hl with | [_], _ => rfl
  have D_many_parts : DefAt K mg "many_parts" s_many_parts ["word"] := defAt_mk X G a5 l5 c5 k5 fun _ _ _ _ _ _ us hl => match us, hl with | [_], _ => rfl
  have D_front_of : DefAt K mg "front_of" s_front_of ["knot"] := defAt_mk X G a6 l6 c6 k6 fun _ _ _ _ _ _ us hl => match us, hl with | [_], _ => rfl
  have D_parts_of : DefAt K mg "parts_of" s_parts_of ["knot"] := defAt_mk X G a7 l7 c7 k7 fun _ _ _ _ _ _ us hl => match us, hl with | [_], _ => rfl
  have D_taken : DefAt K mg "taken" s_taken ["pile", "many"] := defAt_mk X G a8 l8 c8 k8 fun _ _ _ _ _ _ us hl => match us, hl with | [_, _], _ => rfl
  have D_value : DefAt K mg "value" s_value ["program", "inputs"] := defAt_mk X G a9 l9 c9 k9 fun _ _ _ _ _ _ us hl => match us, hl with | [_, _], _ => rfl
  have D_knot_value : DefAt K mg "knot_value" s_knot_value ["knot", "told", "inputs"] := defAt_mk X G a10 l10 c10 k10 fun _ _ _ _ _ _ us hl => match us, hl with | [_, _, _], _ => rfl
  have D_met_by : DefK0 K mg "met_by" s_met_by ["wish", "program", "many"] 2 ["many"] := defk0_mk3 X G a11 l11 c11 k11 (fun _ _ _ _ _ _ _ _  => rfl)
  have D_plain_inputs : DefAt K mg "plain_inputs" s_plain_inputs ["many"] := defAt_mk X G a12 l12 c12 k12 fun _ _ _ _ _ _ us hl => match us, hl with | [_], _ => rfl
  have D_l_cell : DefAt K mg "_law_cell" s_l_cell ["_law_script", "_law_k"] := defAt_mk X G a13 l13 c13 k13 fun _ _ _ _ _ _ us hl => match us, hl with | [_, _], _ => rfl
  have D_l_flow : DefAt K mg "_law_flow" s_l_flow ["_law_script", "_law_k"] := defAt_mk X G a14 l14 c14 k14 fun _ _ _ _ _ _ us hl => match us, hl with | [_, _], _ => rfl
  have D_l_draw : DefAt K mg "_law_draw" s_l_draw ["_law_flow_here", "_law_wide"] := defAt_mk X G a15 l15 c15 k15 fun _ _ _ _ _ _ us hl => match us, hl with | [_, _], _ => rfl
  have D_l_kinds : DefAt K mg "_law_kinds" s_l_kinds ["_law_flow_here", "_law_top"] := defAt_mk X G a16 l16 c16 k16 fun _ _ _ _ _ _ us hl => match us, hl with | [_, _], _ => rfl
  have D_l_little : DefAt K mg "_law_little" s_l_little ["_law_flow_here"] := defAt_mk X G a17 l17 c17 k17 fun _ _ _ _ _ _ us hl => match us, hl with | [_], _ => rfl
  have D_l_leaf : DefAt K mg "_law_leaf" s_l_leaf ["_law_flow_here", "_law_kinds_here", "_law_kind"] := defAt_mk X G a18 l18 c18 k18 fun _ _ _ _ _ _ us hl => match us, hl with | [_, _, _], _ => rfl
  have D_l_plan : DefAt K mg "_law_plan" s_l_plan ["_law_flow_here", "_law_kinds_here", "_law_kind", "_law_room"] := defAt_mk X G a19 l19 c19 k19 fun _ _ _ _ _ _ us hl => match us, hl with | [_, _, _, _], _ => rfl
  have D_l_inner : DefAt K mg "_law_inner" s_l_inner ["_law_knot"] := defAt_mk X G a20 l20 c20 k20 fun _ _ _ _ _ _ us hl => match us, hl with | [_], _ => rfl
  have D_l_worth : DefAt K mg "_law_worth" s_l_worth ["_law_plan_here", "_law_inputs"] := defAt_mk X G a21 l21 c21 k21 fun _ _ _ _ _ _ us hl => match us, hl with | [_, _], _ => rfl
  have D_l_put : DefAt K mg "_law_put" s_l_put ["_law_plan_here", "_law_some"] := defAt_mk X G a22 l22 c22 k22 fun _ _ _ _ _ _ us hl => match us, hl with | [_, _], _ => rfl
  have D_l_some_inputs : DefAt K mg "_law_some_inputs" s_l_some_inputs ["_law_flow_here", "_law_kinds_here"] := defAt_mk X G a23 l23 c23 k23 fun _ _ _ _ _ _ us hl => match us, hl with | [_, _], _ => rfl
  have D_law : DefAt K mg "law" s_law ["_law_script"] := defAt_mk X G a24 l24 c24 k24 fun _ _ _ _ _ _ us hl => match us, hl with | [_], _ => rfl
  have B : Bt mg := ⟨PySem.W.mg_none_of X G z0, PySem.W.mg_none_of X G z1, PySem.W.mg_none_of X G z2, PySem.W.mg_none_of X G z3, PySem.W.mg_none_of X G z4, PySem.W.mg_none_of X G z5, PySem.W.mg_none_of X G z6, PySem.W.mg_none_of X G z7, PySem.W.mg_none_of X G z8, PySem.W.mg_none_of X G z9, PySem.W.mg_none_of X G z10, PySem.W.mg_none_of X G z11, PySem.W.mg_none_of X G z12, PySem.W.mg_none_of X G z13, PySem.W.mg_none_of X G z14, PySem.W.mg_none_of X G z15, PySem.W.mg_none_of X G z16, PySem.W.mg_none_of X G z17, PySem.W.mg_none_of X G z18, PySem.W.mg_none_of X G z19⟩
  have F : Forms K w mg dF := by
    refine ⟨PySem.W.mg_of X G aF, ⟨esF, nF, lF, kF, wF⟩, fun p => ?_⟩
    cases p with
    | inp k => exact ⟨t0, u0, e0, ⟨_, _, _, m0, rfl, rfl, (by show 3 ≤ sizeLine; decide), (.cons ⟨_, rfl⟩ (.cons rfl (.cons rfl .nil)))⟩, ⟨_, _, _, v0, rfl, rfl, (by show 0 ≤ sizeLine; decide), .nil⟩⟩
    | num c => exact ⟨t1, u1, e1, ⟨_, _, _, m1, rfl, rfl, (by show 3 ≤ sizeLine; decide), (.cons ⟨_, rfl⟩ (.cons rfl (.cons ⟨_, rfl⟩ .nil)))⟩, ⟨_, _, _, v1, rfl, rfl, (by show 0 ≤ sizeLine; decide), .nil⟩⟩
    | tr b =>
      cases b with
      | true => exact ⟨t2, u2, e2, ⟨_, _, _, m2, rfl, rfl, (by show 3 ≤ sizeLine; decide), (.cons ⟨_, rfl⟩ (.cons rfl (.cons ⟨_, rfl⟩ .nil)))⟩, ⟨_, _, _, v2, rfl, rfl, (by show 0 ≤ sizeLine; decide), .nil⟩⟩
      | false => exact ⟨t3, u3, e3, ⟨_, _, _, m3, rfl, rfl, (by show 3 ≤ sizeLine; decide), (.cons ⟨_, rfl⟩ (.cons rfl (.cons ⟨_, rfl⟩ .nil)))⟩, ⟨_, _, _, v3, rfl, rfl, (by show 0 ≤ sizeLine; decide), .nil⟩⟩
    | plus c a => exact ⟨t4, u4, e4, ⟨_, _, _, m4, rfl, rfl, (by show 3 ≤ sizeLine; decide), (.cons ⟨_, rfl⟩ (.cons rfl (.cons ⟨_, rfl⟩ .nil)))⟩, ⟨_, _, _, v4, rfl, rfl, (by show 1 ≤ sizeLine; decide), (.cons ⟨_, rfl⟩ .nil)⟩⟩
    | bin w a b =>
      cases w with
      | least => exact ⟨t5, u5, e5, ⟨_, _, _, m5, rfl, rfl, (by show 3 ≤ sizeLine; decide), (.cons ⟨_, rfl⟩ (.cons rfl (.cons ⟨_, rfl⟩ .nil)))⟩, ⟨_, _, _, v5, rfl, rfl, (by show 2 ≤ sizeLine; decide), (.cons ⟨_, rfl⟩ (.cons ⟨_, rfl⟩ .nil))⟩⟩
      | most => exact ⟨t6, u6, e6, ⟨_, _, _, m6, rfl, rfl, (by show 3 ≤ sizeLine; decide), (.cons ⟨_, rfl⟩ (.cons rfl (.cons ⟨_, rfl⟩ .nil)))⟩, ⟨_, _, _, v6, rfl, rfl, (by show 2 ≤ sizeLine; decide), (.cons ⟨_, rfl⟩ (.cons ⟨_, rfl⟩ .nil))⟩⟩
      | atmost => exact ⟨t7, u7, e7, ⟨_, _, _, m7, rfl, rfl, (by show 3 ≤ sizeLine; decide), (.cons ⟨_, rfl⟩ (.cons rfl (.cons ⟨_, rfl⟩ .nil)))⟩, ⟨_, _, _, v7, rfl, rfl, (by show 2 ≤ sizeLine; decide), (.cons ⟨_, rfl⟩ (.cons ⟨_, rfl⟩ .nil))⟩⟩
      | both => exact ⟨t9, u9, e9, ⟨_, _, _, m9, rfl, rfl, (by show 3 ≤ sizeLine; decide), (.cons ⟨_, rfl⟩ (.cons rfl (.cons ⟨_, rfl⟩ .nil)))⟩, ⟨_, _, _, v9, rfl, rfl, (by show 2 ≤ sizeLine; decide), (.cons ⟨_, rfl⟩ (.cons ⟨_, rfl⟩ .nil))⟩⟩
      | either => exact ⟨t10, u10, e10, ⟨_, _, _, m10, rfl, rfl, (by show 3 ≤ sizeLine; decide), (.cons ⟨_, rfl⟩ (.cons rfl (.cons ⟨_, rfl⟩ .nil)))⟩, ⟨_, _, _, v10, rfl, rfl, (by show 2 ≤ sizeLine; decide), (.cons ⟨_, rfl⟩ (.cons ⟨_, rfl⟩ .nil))⟩⟩
    | neg a => exact ⟨t8, u8, e8, ⟨_, _, _, m8, rfl, rfl, (by show 3 ≤ sizeLine; decide), (.cons ⟨_, rfl⟩ (.cons rfl (.cons ⟨_, rfl⟩ .nil)))⟩, ⟨_, _, _, v8, rfl, rfl, (by show 1 ≤ sizeLine; decide), (.cons ⟨_, rfl⟩ .nil)⟩⟩
    | ite p a b => exact ⟨t11, u11, e11, ⟨_, _, _, m11, rfl, rfl, (by show 3 ≤ sizeLine; decide), (.cons ⟨_, rfl⟩ (.cons rfl (.cons rfl .nil)))⟩, ⟨_, _, _, v11, rfl, rfl, (by show 3 ≤ sizeLine; decide), (.cons ⟨_, rfl⟩ (.cons rfl (.cons rfl .nil)))⟩⟩
  refine ⟨PySem.W.fnOf "law" "law" (defArgs s_law) (defBody s_law) (defScope s_law) .none kV24 dc24 pm24 an24 cd24 ct24, fun s v => .of_eq rfl, fun base _ _ => ?_⟩
  have C_cell := ok_l_cell (P := l.prog) (w := w) (base := base) B D_l_cell
  have C_flow := ok_l_flow C_cell D_l_flow
  have C_draw := ok_l_draw (P := l.prog) (w := w) (base := base) D_l_draw
  have C_kinds := ok_l_kinds2 (K := K) B C_draw D_l_kinds
  have C_little := ok_l_little C_draw D_l_little
  have C_leaf := ok_l_leaf2 (K := K) B C_draw C_little D_l_leaf
  have C_plan := ok_l_plan B C_draw C_little C_leaf D_l_plan 14
  have C_inner := ok_l_inner (P := l.prog) (w := w) (base := base) (K := K) B D_l_inner
  have C_worth := ok_l_worth B C_inner D_l_worth 14
  have C_lput := ok_l_put B C_inner D_l_put 14
  have C_si := ok_l_some_inputs (K := K) B C_draw D_l_some_inputs
  have C_whole := ok_is_whole (P := l.prog) (w := w) (base := base) B D_is_whole
  have C_mn := ok_many_numbers (P := l.prog) (base := base) F D_many_numbers
  have C_mp := ok_many_parts (P := l.prog) (base := base) B F D_many_parts
  have C_hf := ok_has_form B F C_whole C_mn C_mp D_has_form
  have C_po := ok_parts_of (K := K) C_mn D_parts_of
  have C_fo := ok_front_of (K := K) C_mn D_front_of
  have C_tk := ok_taken (P := l.prog) (w := w) (base := base) B D_taken
  have C_kn := ok_knots C_hf C_po D_knots
  have C_put := ok_put B C_kn C_tk C_mp C_fo D_put
  have C_kv := ok_knot_value (P := l.prog) (w := w) (base := base) (K := K) B D_knot_value
  have C_val := ok_value B C_kn C_tk C_mp C_kv D_value
  have C_pl := ok_plain_inputs (P := l.prog) (w := w) (base := base) (K := K) B D_plain_inputs
  have C_met := ok_met_by B C_put C_pl D_met_by
  exact ok_law B C_flow C_draw C_kinds C_plan C_worth C_lput C_si C_val C_met (fun_mk l24 c24 k24)

end Lm
open PySem PySem.W PyProof.Rows
set_option maxRecDepth 100000 in
set_option maxHeartbeats 0 in
theorem PySem.Challenge.cw_leastmaker_k39_wishes_put_in_holds : PySem.Challenge.rw_leastmaker_k39_wishes_put_in.Holds := by
  w_on; o_law; k_head; (case hw => w_witness2)
  k_fill
  refine Lm.walk_ofG (l := PySem.Challenge.rw_leastmaker_k39_wishes_put_in) (n := 63) (k := 21) (x := "_law_script") (sp := fun w => Lm.spLaw _) rfl (by decide) rfl ⟨rfl, by decide, by decide⟩ (fun w h Y => PySem.W.kIn_of Y) ?F (fun _ _ a ns hl hS => ⟨a, ns, rfl, hS, hl, fun _ => rfl⟩)
  case F =>
    intro w mg fa h KX G hmg
    refine' Lm.all_mk KX G hmg ?a0 ?l0 ?c0 ?k0 ?a1 ?l1 ?c1 ?k1 ?a2 ?l2 ?c2 ?k2 ?a3 ?l3 ?c3 ?k3 ?a4 ?l4 ?c4 ?k4 ?a5 ?l5 ?c5 ?k5 ?a6 ?l6 ?c6 ?k6 ?a7 ?l7 ?c7 ?k7 ?a8 ?l8 ?c8 ?k8 ?a9 ?l9 ?c9 ?k9 ?a10 ?l10 ?c10 ?k10 ?a11 ?l11 ?c11 ?k11 ?a12 ?l12 ?c12 ?k12 ?a13 ?l13 ?c13 ?k13 ?a14 ?l14 ?c14 ?k14 ?a15 ?l15 ?c15 ?k15 ?a16 ?l16 ?c16 ?k16 ?a17 ?l17 ?c17 ?k17 ?a18 ?l18 ?c18 ?k18 ?a19 ?l19 ?c19 ?k19 ?a20 ?l20 ?c20 ?k20 ?a21 ?l21 ?c21 ?k21 ?a22 ?l22 ?c22 ?k22 ?a23 ?l23 ?c23 ?k23 ?a24 ?l24 ?c24 ?k24 ?z0 ?z1 ?z2 ?z3 ?z4 ?z5 ?z6 ?z7 ?z8 ?z9 ?z10 ?z11 ?z12 ?z13 ?z14 ?z15 ?z16 ?z17 ?z18 ?z19 ?aF ?lF ?kF ?wF ?e0 ?m0 ?v0 ?e1 ?m1 ?v1 ?e2 ?m2 ?v2 ?e3 ?m3 ?v3 ?e4 ?m4 ?v4 ?e5 ?m5 ?v5 ?e6 ?m6 ?v6 ?e7 ?m7 ?v7 ?e8 ?m8 ?v8 ?e9 ?m9 ?v9 ?e10 ?m10 ?v10 ?e11 ?m11 ?v11
    (case a0 => k_is)
    (case l0 => k_is)
    (case c0 => k_is)
    (case k0 => k_is)
    (case a1 => k_is)
    (case l1 => k_is)
    (case c1 => k_is)
    (case k1 => k_is)
    (case a2 => k_is)
    (case l2 => k_is)
    (case c2 => k_is)
    (case k2 => k_is)
    (case a3 => k_is)
    (case l3 => k_is)
    (case c3 => k_is)
    (case k3 => k_is)
    (case a4 => k_is)
    (case l4 => k_is)
    (case c4 => k_is)
    (case k4 => k_is)
    (case a5 => k_is)
    (case l5 => k_is)
    (case c5 => k_is)
    (case k5 => k_is)
    (case a6 => k_is)
    (case l6 => k_is)
    (case c6 => k_is)
    (case k6 => k_is)
    (case a7 => k_is)
    (case l7 => k_is)
    (case c7 => k_is)
    (case k7 => k_is)
    (case a8 => k_is)
    (case l8 => k_is)
    (case c8 => k_is)
    (case k8 => k_is)
    (case a9 => k_is)
    (case l9 => k_is)
    (case c9 => k_is)
    (case k9 => k_is)
    (case a10 => k_is)
    (case l10 => k_is)
    (case c10 => k_is)
    (case k10 => k_is)
    (case a11 => k_is)
    (case l11 => k_is)
    (case c11 => k_is)
    (case k11 => k_is)
    (case a12 => k_is)
    (case l12 => k_is)
    (case c12 => k_is)
    (case k12 => k_is)
    (case a13 => k_is)
    (case l13 => k_is)
    (case c13 => k_is)
    (case k13 => k_is)
    (case a14 => k_is)
    (case l14 => k_is)
    (case c14 => k_is)
    (case k14 => k_is)
    (case a15 => k_is)
    (case l15 => k_is)
    (case c15 => k_is)
    (case k15 => k_is)
    (case a16 => k_is)
    (case l16 => k_is)
    (case c16 => k_is)
    (case k16 => k_is)
    (case a17 => k_is)
    (case l17 => k_is)
    (case c17 => k_is)
    (case k17 => k_is)
    (case a18 => k_is)
    (case l18 => k_is)
    (case c18 => k_is)
    (case k18 => k_is)
    (case a19 => k_is)
    (case l19 => k_is)
    (case c19 => k_is)
    (case k19 => k_is)
    (case a20 => k_is)
    (case l20 => k_is)
    (case c20 => k_is)
    (case k20 => k_is)
    (case a21 => k_is)
    (case l21 => k_is)
    (case c21 => k_is)
    (case k21 => k_is)
    (case a22 => k_is)
    (case l22 => k_is)
    (case c22 => k_is)
    (case k22 => k_is)
    (case a23 => k_is)
    (case l23 => k_is)
    (case c23 => k_is)
    (case k23 => k_is)
    (case a24 => k_is)
    (case l24 => k_is)
    (case c24 => k_is)
    (case k24 => k_is)
    (case z0 => k_is)
    (case z1 => k_is)
    (case z2 => k_is)
    (case z3 => k_is)
    (case z4 => k_is)
    (case z5 => k_is)
    (case z6 => k_is)
    (case z7 => k_is)
    (case z8 => k_is)
    (case z9 => k_is)
    (case z10 => k_is)
    (case z11 => k_is)
    (case z12 => k_is)
    (case z13 => k_is)
    (case z14 => k_is)
    (case z15 => k_is)
    (case z16 => k_is)
    (case z17 => k_is)
    (case z18 => k_is)
    (case z19 => k_is)
    (case aF => k_is)
    (case lF => k_is)
    (case kF => k_keys)
    (case wF => first | rfl | decide | k_is)
    (case e0 => k_is)
    (case m0 => k_is)
    (case v0 => k_is)
    (case e1 => k_is)
    (case m1 => k_is)
    (case v1 => k_is)
    (case e2 => k_is)
    (case m2 => k_is)
    (case v2 => k_is)
    (case e3 => k_is)
    (case m3 => k_is)
    (case v3 => k_is)
    (case e4 => k_is)
    (case m4 => k_is)
    (case v4 => k_is)
    (case e5 => k_is)
    (case m5 => k_is)
    (case v5 => k_is)
    (case e6 => k_is)
    (case m6 => k_is)
    (case v6 => k_is)
    (case e7 => k_is)
    (case m7 => k_is)
    (case v7 => k_is)
    (case e8 => k_is)
    (case m8 => k_is)
    (case v8 => k_is)
    (case e9 => k_is)
    (case m9 => k_is)
    (case v9 => k_is)
    (case e10 => k_is)
    (case m10 => k_is)
    (case v10 => k_is)
    (case e11 => k_is)
    (case m11 => k_is)
    (case v11 => k_is)

