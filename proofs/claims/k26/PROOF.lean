import PyProof.Rows.All
import Wide.All
import OpenK.AllK
import Wide.FinOn
import HandS.ForMost
import HandS.IsInst
import HandS.TupAny
import HandS.Flow
import HandS.Style
import HandS.RevRange
import HandS.Conv
import HandS.More
import HandS.Zip
import KE.KDictZip
import KE.KDictList
import KE.KRevSl
import HandS.ForExc
import HandS.ExcInit
import HandS.ExcField
import HandS.HotCalls
import HandS.SetFor
import KE.KExcIs
import KE.GoesEnum
import KE.GoesMore
import HandS.Star
import HandS.ExcOwn
import HandS.WordsExc
import HandS.Walk
import HandS.Codes
import HandS.Defaults
import HandS.List
import KE.DataEq
import HandS.Ends
import PyProof.ReprRoads
import PyProof.ReprLen
import OpenK.KOps
import HandS.MakeKw
import HandS.FStr
import PySem.Challenge.RW_leastmaker_k26_whole_no_numbers_or_some
set_option Elab.async false
set_option linter.all false
set_option maxRecDepth 100000
set_option maxHeartbeats 2000000
namespace LmR
open PySem PySem.Spec PyProof.Rows L2
/-! ### t[::-1] of a tuple -/
section
variable {prog : Program} {w : World} {A : Around} {E : Value → Shared → Prop} {s : Shared}
theorem pick_rev (xs : Array Value) : ((List.range xs.size).filterMap fun (m : Nat) => xs[(((xs.size : Int) - 1) + (m : Int) * (-1)).toNat]?).toArray = xs.toList.reverse.toArray := by
  congr 1
  have e : ∀ n, n ≤ xs.size → ((List.range n).filterMap fun (m : Nat) => xs[(((xs.size : Int) - 1) + (m : Int) * (-1)).toNat]?) = (xs.toList.reverse).take n := by
    intro n
    induction n with
    | zero => intro _; rfl
    | succ n ih =>
      intro h
      rw [List.range_succ, List.filterMap_append, ih (by omega), List.take_add_one]
      congr 1
      have e1 : (((xs.size : Int) - 1) + (n : Int) * (-1)).toNat = xs.size - 1 - n := by omega
      have e2 : xs.toList.reverse[n]? = xs[xs.size - 1 - n]? := by
        rw [List.getElem?_reverse (by rw [Array.length_toList]; omega), Array.length_toList, Array.getElem?_toList]
      rw [e2]
      have hlt : xs.size - 1 - n < xs.size := by omega
      simp only [List.filterMap_cons, List.filterMap_nil]
      rw [e1, Array.getElem?_eq_getElem hlt]
      rfl
  rw [e xs.size (Nat.le_refl _)]
  exact List.take_of_length_le (by rw [List.length_reverse, Array.length_toList]; exact Nat.le_refl _)
theorem rev_applied {sl : Addr} {vl vu vs : Value} {n : Nat} {Q : Int × Int × Nat → Shared → Prop} (hs : s.heap.IsSliceOf sl vl vu vs) (pl : IsPart vl none) (pu : IsPart vu none) (ps : IsPart vs (some (-1)))
    (h : Q ((n : Int) - 1, -1, n) s) : wpAny (model prog w) A (Builtin.Slice.sliceApplied (.ref sl) (pure (n : Int))) Q E s := by
  obtain ⟨os, hos, hcs, hds⟩ := id hs
  unfold Builtin.Slice.sliceApplied Builtin.Slice.sliceFields
  refine wpAny_bind (wpAny_bind (wpAny_field hos hds (x := vl) rfl (wpAny_bind (wpAny_field hos hds (x := vu) rfl (wpAny_bind (wpAny_field hos hds (x := vs) rfl (wpAny_pure ?_)))))))
  refine wpAny_bind (HT.slicePart_ ps ?_)
  show wpAny _ _ (if ((-1 : Int) == 0) = true then _ else _) _ _ s
  rw [if_neg (by decide)]
  refine wpAny_bind (HT.slicePart_ pl (wpAny_bind (HT.slicePart_ pu (wpAny_bind (wpAny_pure ?_)))))
  have e : Builtin.Slice.sliceAdjust none none (-1) (n : Int) = ((n : Int) - 1, -1) := by
    simp [Builtin.Slice.sliceAdjust]
  have e2 : Builtin.Slice.slicePlaces ((n : Int) - 1) (-1) (-1) = n := by
    unfold Builtin.Slice.slicePlaces
    simp
    omega
  show wpAny _ _ (match Builtin.Slice.sliceAdjust none none (-1) (n : Int) with | (lo, hi) => pure (lo, (-1 : Int), Builtin.Slice.slicePlaces lo hi (-1))) _ _ s
  rw [e]
  show wpAny _ _ (pure ((n : Int) - 1, (-1 : Int), Builtin.Slice.slicePlaces ((n : Int) - 1) (-1) (-1))) _ _ s
  rw [e2]
  exact wpAny_pure h
theorem getItem_tuple_rev {t sl : Addr} {items : Array Value} {vl vu vs : Value} {Q : Value → Shared → Prop} (ht : IsTup s.heap t items) (hs : s.heap.IsSliceOf sl vl vu vs) (pl : IsPart vl none) (pu : IsPart vu none) (ps : IsPart vs (some (-1)))
    (h : Q (.ref s.heap.objs.size) { s with heap := s.heap.push { cls := .type "tuple", data := .seq items.toList.reverse.toArray } })
    (hsz : items.size ≤ sizeLine) : wpAny (model prog w) A (getItem (.ref t) (.ref sl)) Q E s := by
  have htake : sizeOk (.seq items.toList.reverse.toArray) := by
    show (items.toList.reverse).toArray.size ≤ sizeLine
    rw [List.size_toArray, List.length_reverse, Array.length_toList]
    omega
  obtain ⟨os, hos, hcs, hds⟩ := id hs
  have hTs : s.TypeIs (.ref sl) "slice" := ⟨os, hos, hcs⟩
  unfold getItem
  try with_reducible refine wpAny_holding ?_
  first | refine wpAny_bind (wpAny_pure ?_) | skip
  refine wpAny_bind (wpAny_sequenceKey ht.typeIs (by decide) ?_)
  refine wpAny_bind (wpAny_callSpecial?_slot (name := Str.ofString "__getitem__") ht.typeIs PyProof.Rows.slot_tuple_getitem
    (wpAny_call_entry PyProof.Rows.slot_tuple_getitem ht.typeIs PyProof.Rows.entry_tuple_getitem ?_ (PyProof.Rows.args_tuple_getitem _ _)))
  show wpAny _ _ (Builtin.Tuple.tupleItemsOf (.ref t) >>= _) _ _ s
  refine wpAny_bind (PyProof.Rows.tupleItemsOf_ ht ?_)
  refine wpAny_bind (wpAny_typeOf hTs ?_)
  rw [if_pos (by decide)]
  refine wpAny_bind (rev_applied hs pl pu ps ?_)
  have hno : ¬ (((items.size : Int) - 1 == 0 && (-1 : Int) == 1 && items.size == items.size) = true) := by
    intro q
    rw [Bool.and_eq_true, Bool.and_eq_true] at q
    exact absurd q.1.2 (by decide)
  show wpAny _ _ (if ((items.size : Int) - 1 == 0 && (-1 : Int) == 1 && items.size == items.size) = true then _ else _) _ _ s
  rw [if_neg hno, pick_rev]
  first
    | exact wpAny_bind (m := Builtin.Tuple.tupleExact _) (wpAny_newObj_type (wpAny_pure ⟨_, rfl, wpAny_pure h⟩) htake)
    | exact wpAny_bind (m := Builtin.Tuple.tupleExact _) (wpAny_newObj_type (wpAny_bind (wpAny_pure (wpAny_pure ⟨_, rfl, wpAny_pure h⟩))) htake)
    | exact wpAny_bind (wpAny_bind (m := Builtin.Tuple.tupleExact _) (wpAny_newObj_type (wpAny_pure (wpAny_pure ⟨_, rfl, wpAny_pure h⟩)) htake))
    | exact wpAny_bind (wpAny_bind (m := Builtin.Tuple.tupleExact _) (wpAny_newObj_type (wpAny_pure ⟨_, rfl, wpAny_pure h⟩) htake))
end
def tRevT (K : PySem.W.Frag) (te : TE) : TE := fun σ H Q => te σ H fun x H1 => ∃ a xs, x = .ref a ∧ SqT K H1 a xs ∧ ∀ p, H1 p = none → Q (.ref p) (upd H1 p (.tup xs.reverse))
section
variable {X : Cx}
theorem pe_revT {e : Expr} {te : TE} {k : Nat} {p1 p2 p3 pos : Pos} (he : PE X e te) : PE X (.Subscript e (.Slice none none (some (.UnaryOp .USub (.Constant (.int 1) k p1) p2)) p3) pos) (tRevT X.K te) := by
  refine ⟨fun pins s σ H Q I h => ?_⟩
  refine Subscript_ (thn (he.run pins s σ H _ I h) fun v s1 ⟨x, H1, I1, r1, q1⟩ => ?_)
  obtain ⟨a, xs, ex, hx, q⟩ := q1
  subst ex
  cases r1
  have hst : PO X (some (.UnaryOp .USub (.Constant (.int 1) k p1) p2)) (tPart (tUn (rU fun i => .int (-i)) (tC (.int 1)))) := po_some (pe_un un_neg pe_int)
  refine wpAny_Slice (thn (po_none.run pins s1 σ H1 (fun o H2 => o = none ∧ H2 = H1) I1 ⟨rfl, rfl⟩) fun vl s2 ⟨l, H2, I2, pl, el, e2⟩ => ?_)
  subst el e2
  refine thn (po_none.run pins s2 σ H2 (fun o H3 => o = none ∧ H3 = H2) I2 ⟨rfl, rfl⟩) fun vu s3 ⟨u, H3, I3, pu, eu, e3⟩ => ?_
  subst eu e3
  refine thn (hst.run pins s3 σ H3 (fun o H4 => o = some (-1) ∧ H4 = H3) I3 ⟨1, rfl, -1, rfl, rfl, rfl⟩) fun vs s4 ⟨o, H4, I4, ps, eo, e4⟩ => ?_
  subst eo e4
  have I5 : Inv X pins σ H4 { s4 with heap := s4.heap.push { cls := .type "slice", data := .fields #[vl, vu, vs] } } := I4.kept (t' := s4.toks) fun b ob q => Heap.get?_push_of_some _ q
  obtain ⟨its, r, ht, hz⟩ := I5.tuple hx
  have hlen := r.length
  show wpAny (model X.prog X.w) X.A (subscriptTail e (.Slice none none (some (.UnaryOp .USub (.Constant (.int 1) k p1) p2)) p3) (.ref a) (.ref s4.heap.objs.size)) (EP X pins σ Q) X.xe { s4 with heap := s4.heap.push { cls := .type "slice", data := .fields #[vl, vu, vs] } }
  refine tail_any (ops := [.ref a, .ref s4.heap.objs.size]) ht.typeIs (PyProof.Rows.slot_tuple_getitem.lookup) ?_ (by with_unfolding_all rfl)
  refine getItem_tuple_rev ht (Heap.IsSliceOf.new _ vl vu vs) pl pu ps ?_ (by rw [List.size_toArray]; omega)
  refine ⟨.ref _, _, I5.laid (t' := s4.toks) (o := .tup xs.reverse) (fun b ob q => Heap.get?_push_of_some _ q) (Nat.le_refl _) ?_, rfl, q _ (I5.hok.fresh (Nat.le_refl _))⟩
  exact ⟨by rw [List.length_reverse]; exact hz, its.reverse, r.reverse, ⟨_, Heap.get?_push_size _ rfl, rfl, _, rfl⟩⟩
end
/-! ### l.extend(t), t a tuple -/
theorem extend_tuple (l : Addr) (items : Array Value) (n : Nat) (b : Addr) (items2 : Array Value) (n2 : Nat) (dd : Option Addr) (sl : Array (Option Value)) (hs0 : ¬(!items.isEmpty && Builtin.List.listTooLong (items.size + items2.size)) = true) (hs1 : items.size ≤ sizeLine) (hs2 : items.size + items2.size ≤ sizeLine + 1 := by seq_fits) :
    Meets (Builtin.«list.extend» ⟨[.ref l, .ref b], []⟩) (fun _ R s => s.heap.get? l = some { cls := .type "list", dict := none, data := .seq items n, slots := #[] } ∧ s.heap.get? b = some { cls := .type "tuple", dict := dd, data := .seq items2 n2, slots := sl } ∧ R (.ok (.ret Value.none)) { s with heap := s.heap.update l (Obj.mapSeq fun x => x ++ items2), toks := s.toks }) :=
  .of_wp fun prog w A R s h => by
    obtain ⟨hp, g, d, tk, os⟩ := s; obtain ⟨hl, hb, h⟩ := h; have f1 := AutoSeq1.idx_int; have f2 := AutoSeq1.sub_tuple_tuple; have f3 := AutoSeq1.sub_list_list; have f4 := AutoSeq1.sub_tuple_list; have f5 := AutoSeq1.sub_list_tuple;
    have hz' : (items ++ items2).size ≤ sizeLine + 1 := by rw [Array.size_append]; exact hs2
    wp_walk using (wpAny_updateSeq hl rfl (hz := hs1) (_hz' := hz')), wpAny_loadPart' hl, wpAny_loadPart' hb; exact ⟨_, rfl, h⟩
def rExtT (K : PySem.W.Frag) : V → List V → Hp → VK → Prop := fun x vs H Q => ∃ l b xs zs, x = .ref l ∧ vs = [.ref b] ∧ H l = some (.lst xs) ∧ SqT K H b zs ∧ xs.length + zs.length ≤ sizeLine ∧ Q .non (upd H l (.lst (xs ++ zs)))
theorem mt_extendT {X : Cx} : MtM X "list.extend" (rExtT X.K) := by
  intro pins s σ H x vs v us Q I rx rv h
  obtain ⟨l, b, xs, zs, rfl, rfl, hH, hB, hz, q⟩ := h
  cases rx
  obtain ⟨u, rfl, ru⟩ := rv.one
  cases ru
  obtain ⟨z, its, n, r, hl, e⟩ := I.lstM hH
  obtain ⟨its2, r2, ⟨⟨cls, dd, dt, sl⟩, ho, hc, n2, hd⟩, _⟩ := I.tuple hB
  simp only at hc hd
  subst hc hd
  have hl2 := r2.length
  have hsz : its.toArray.size + its2.toArray.size ≤ sizeLine := by rw [List.size_toArray, List.size_toArray]; omega
  have hlong : ¬ (!its.toArray.isEmpty && Builtin.List.listTooLong (its.toArray.size + its2.toArray.size)) = true := by
    rw [notLongL hsz, Bool.and_false]
    exact Bool.false_ne_true
  refine call_meets F.slot_list_extend ⟨_, e, rfl⟩ F.entry_list_extend (F.args_list_extend_2 _ _)
    (extend_tuple l its.toArray n b its2.toArray n2 dd sl hlong (by rw [List.size_toArray]; omega) (by omega)) ⟨e, ho, ?_⟩
  refine ⟨.non, _, I.lset (its' := its ++ its2) hH e (by simp) (r.append r2) ?_, rfl, q⟩
  rw [List.length_append]
  omega
end LmR

set_option Elab.async false
set_option linter.all false
set_option maxRecDepth 100000
set_option maxHeartbeats 2000000
namespace LmR
open PySem PySem.Spec PyProof.Rows L2 RZ
theorem zip_no_len : typeLookup (.type "zip") "__len__" = pure none := by rw [typeLookup_type, builtinLookup_eq_fast]; kernel_rfl
theorem zip_no_hint : typeLookup (.type "zip") "__length_hint__" = pure none := by rw [typeLookup_type, builtinLookup_eq_fast]; kernel_rfl
section
variable {prog : Program} {w : World} {A : Around} {E : Value → Shared → Prop} {s : Shared}
theorem zipT_item_held {z TI TO T i1 i2 l1 l2 : Addr} {f : Bool} {oT : Obj} {k1 k2 : Nat} {xs ys : Array Value} {x y : Value} {Q : Value → Shared → Prop} (D : ZipApart z TI TO i1 i2 l1 l2)
    (hz : IsZipHeld s.heap z TI TO T f) (hT : s.heap.get? T = some oT) (hTI : IsPair s.heap TI (.ref i1) (.ref i2))
    (h1 : s.heap.IsTupleIter i1 l1 k1) (h2 : s.heap.IsTupleIter i2 l2 k2) (hl1 : s.heap.IsTuple l1 xs) (hl2 : s.heap.IsTuple l2 ys) (hx : xs[k1]? = some x) (hy : ys[k2]? = some y)
    (hQ : ∀ h', IsZipHeld h' z TI TO T true → h'.IsTupleIter i1 l1 (k1 + 1) → h'.IsTupleIter i2 l2 (k2 + 1) → IsPair h' s.heap.objs.size x y → h'.objs.size = s.heap.objs.size + 1 →
      (∀ c o, c ≠ z → c ≠ i1 → c ≠ i2 → s.heap.get? c = some o → h'.get? c = some o) → Q (.ref s.heap.objs.size) { s with heap := h' }) :
    wpAny (model prog w) A (Builtin.«zip.__next__» ⟨[.ref z], []⟩) (fun fin s' => ∃ v, fin = .done (.ret v) ∧ Q v s') E s := by
  show wpAny _ _ (field (.ref z) 2 >>= _) _ _ _
  refine wpAny_bind (wpAny_field hz rfl (x := .bool false) rfl ?_)
  show wpAny _ _ (field (.ref z) 3 >>= _) _ _ _
  refine wpAny_bind (wpAny_field hz rfl (x := .ref TI) rfl ?_)
  refine wpAny_bind (wpAny_seqItems hTI rfl ?_)
  show wpAny _ _ (Builtin.SmallTypes.ownedTupleIsFree (.ref z) >>= _) _ _ _
  refine wpAny_bind (wpAny_tupleHeld_zip hz hT fun h₁ hz₁ hs₁ => ?_)
  simp only [Bool.false_eq_true, if_false]
  refine wpAny_bind ?_
  rw [← Array.forIn_toList]
  simp only [List.forIn_cons, List.forIn_nil]
  refine wpAny_bind (wpAny_bind (wpAny_holding ?_))
  show wpAny _ _ (Builtin.SmallTypes.nextOf (.ref i1) >>= _) _ _ _
  refine wpAny_bind (nextOf_tuple_item (s := { s with heap := h₁ }) (h1.extBut hs₁.extBut D.i1z) (hl1.extBut hs₁.extBut D.l1z) hx fun h₂ h1₂ hs₂ => wpAny_pure ?_)
  refine wpAny_pure ?_
  refine wpAny_bind (wpAny_bind (wpAny_holding ?_))
  show wpAny _ _ (Builtin.SmallTypes.nextOf (.ref i2) >>= _) _ _ _
  refine wpAny_bind (nextOf_tuple_item (s := { s with heap := h₂ }) ((h2.extBut hs₁.extBut D.i2z).extBut hs₂.extBut D.i12.symm) ((hl2.extBut hs₁.extBut D.l2z).extBut hs₂.extBut D.l2i1) hy fun h₃ h2₃ hs₃ => wpAny_pure ?_)
  refine wpAny_pure (wpAny_pure ?_)
  show wpAny _ _ (newTuple [x, y] >>= _) _ _ _
  refine wpAny_bind (wpAny_newTuple ?_)
  have hsz : h₃.objs.size = s.heap.objs.size := by rw [hs₃.1, hs₂.1, hs₁.1]
  have hz₃ : IsZipHeld h₃ z TI TO T true := hs₃.extBut _ _ D.i2z.symm (hs₂.extBut _ _ D.i1z.symm hz₁)
  have hk : ∀ c o, c ≠ z → c ≠ i1 → c ≠ i2 → s.heap.get? c = some o → h₃.get? c = some o := fun c o c1 c2 c3 e => hs₃.extBut _ _ c3 (hs₂.extBut _ _ c2 (hs₁.extBut _ _ c1 e))
  have h1₃ : h₃.IsTupleIter i1 l1 (k1 + 1) := h1₂.extBut hs₃.extBut D.i12
  refine wpAny_pure ⟨_, rfl, ?_⟩
  show Q (.ref h₃.objs.size) _
  have hp : IsPair (h₃.push { cls := .type "tuple", data := .seq #[x, y] }) h₃.objs.size x y := Heap.get?_push_size _ rfl
  have hz4 : (h₃.push { cls := .type "tuple", data := .seq #[x, y] }).objs.size = h₃.objs.size + 1 := Heap.size_push ..
  rw [hsz] at hp hz4 ⊢
  exact hQ _ (Heap.get?_push_of_some _ hz₃) (h1₃.at fun o e => Heap.get?_push_of_some _ e) (h2₃.at fun o e => Heap.get?_push_of_some _ e) hp hz4 fun c o c1 c2 c3 e => Heap.get?_push_of_some _ (hk c o c1 c2 c3 e)
theorem zipT_end_held {z TI TO T i1 i2 l1 l2 : Addr} {f : Bool} {oT : Obj} {k1 k2 : Nat} {xs ys : Array Value} {Q : Fin → Shared → Prop} (hh : A.handled = none) (D : ZipApart z TI TO i1 i2 l1 l2)
    (hz : IsZipHeld s.heap z TI TO T f) (hT : s.heap.get? T = some oT) (hTI : IsPair s.heap TI (.ref i1) (.ref i2))
    (h1 : s.heap.IsTupleIter i1 l1 k1) (h2 : s.heap.IsTupleIter i2 l2 k2) (hl1 : s.heap.IsTuple l1 xs) (hl2 : s.heap.IsTuple l2 ys) (hx : xs[k1]? = none)
    (hE : ∀ h' e, (∀ c o, c ≠ z → c ≠ i1 → c ≠ i2 → s.heap.get? c = some o → h'.get? c = some o) → (∃ o, h'.get? e = some o ∧ o.cls = .type "StopIteration") → E (.ref e) { s with heap := h' }) :
    wpAny (model prog w) A (Builtin.«zip.__next__» ⟨[.ref z], []⟩) Q E s := by
  show wpAny _ _ (field (.ref z) 2 >>= _) _ _ _
  refine wpAny_bind (wpAny_field hz rfl (x := .bool false) rfl ?_)
  show wpAny _ _ (field (.ref z) 3 >>= _) _ _ _
  refine wpAny_bind (wpAny_field hz rfl (x := .ref TI) rfl ?_)
  refine wpAny_bind (wpAny_seqItems hTI rfl ?_)
  show wpAny _ _ (Builtin.SmallTypes.ownedTupleIsFree (.ref z) >>= _) _ _ _
  refine wpAny_bind (wpAny_tupleHeld_zip hz hT fun h₁ hz₁ hs₁ => ?_)
  simp only [Bool.false_eq_true, if_false]
  refine wpAny_bind ?_
  rw [← Array.forIn_toList]
  simp only [List.forIn_cons, List.forIn_nil]
  refine wpAny_bind (wpAny_bind (wpAny_holding ?_))
  show wpAny _ _ (Builtin.SmallTypes.nextOf (.ref i1) >>= _) _ _ _
  refine wpAny_bind (nextOf_tuple_end (s := { s with heap := h₁ }) hh (h1.extBut hs₁.extBut D.i1z) (hl1.extBut hs₁.extBut D.l1z) hx fun h₂ e hs₂ he => ?_)
  exact hE h₂ e (fun c o c1 c2 _ x => hs₂ _ _ c2 (hs₁.extBut _ _ c1 x)) he
/-- a zip of two tuples between two turns of list(..) -/
structure ZSt (h : Heap) (z TI TO i1 i2 l1 l2 S lo : Addr) (xs ys : Array Value) (i : Nat) : Prop where
  zip : (i = 0 ∧ IsZip h z TI TO .none ∧ ∃ a b, IsPair h TO a b) ∨ ∃ T f oT, IsZipHeld h z TI TO T f ∧ h.get? T = some oT ∧ lo ≤ T
  ti : IsPair h TI (.ref i1) (.ref i2)
  h1 : h.IsTupleIter i1 l1 i
  h2 : h.IsTupleIter i2 l2 i
  l1' : h.IsTuple l1 xs
  l2' : h.IsTuple l2 ys
/-- the addresses that are there ahead of the pairs -/
structure ZLo (z TI TO i1 i2 l1 l2 S lo : Addr) : Prop where
  z' : z < lo
  TI' : TI < lo
  TO' : TO < lo
  i1' : i1 < lo
  i2' : i2 < lo
  l1' : l1 < lo
  l2' : l2 < lo
  S' : S < lo
  Sz : S ≠ z
  STI : S ≠ TI
  STO : S ≠ TO
  Si1 : S ≠ i1
  Si2 : S ≠ i2
  Sl1 : S ≠ l1
  Sl2 : S ≠ l2
variable {z TI TO i1 i2 l1 l2 S lo : Addr} {xs ys : Array Value}
theorem ZSt.upd {h h' : Heap} {i : Nat} (L : ZLo z TI TO i1 i2 l1 l2 S lo) (st : ZSt h z TI TO i1 i2 l1 l2 S lo xs ys i) (k : ∀ b o, b ≠ S → h.get? b = some o → h'.get? b = some o) : ZSt h' z TI TO i1 i2 l1 l2 S lo xs ys i where
  zip := by
    rcases st.zip with ⟨e, hz, a, b, ht⟩ | ⟨T, f, oT, hz, hT, hl⟩
    · exact .inl ⟨e, k _ _ L.Sz.symm hz, a, b, k _ _ L.STO.symm ht⟩
    · exact .inr ⟨T, f, oT, k _ _ L.Sz.symm hz, k _ _ (fun e => by have := L.S'; rw [e] at hl; exact absurd hl (Nat.not_le.mpr this)) hT, hl⟩
  ti := k _ _ L.STI.symm st.ti
  h1 := st.h1.at fun o e => k _ _ L.Si1.symm e
  h2 := st.h2.at fun o e => k _ _ L.Si2.symm e
  l1' := by
    obtain ⟨o, ho, r⟩ := st.l1'
    exact ⟨o, k _ _ L.Sl1.symm ho, r⟩
  l2' := by
    obtain ⟨o, ho, r⟩ := st.l2'
    exact ⟨o, k _ _ L.Sl2.symm ho, r⟩
theorem tup_keep {h h' : Heap} {l : Addr} {its : Array Value} (t : h.IsTuple l its) (k : ∀ o, h.get? l = some o → h'.get? l = some o) : h'.IsTuple l its := by
  obtain ⟨o, ho, r⟩ := t
  exact ⟨o, k o ho, r⟩
theorem zst_item {i : Nat} {x y : Value} {Q : Option Value → Shared → Prop} (D : ZipApart z TI TO i1 i2 l1 l2) (L : ZLo z TI TO i1 i2 l1 l2 S lo) (hlo : lo ≤ s.heap.objs.size) (st : ZSt s.heap z TI TO i1 i2 l1 l2 S lo xs ys i) (hx : xs[i]? = some x) (hy : ys[i]? = some y)
    (hQ : ∀ h', ZSt h' z TI TO i1 i2 l1 l2 S lo xs ys (i + 1) → IsPair h' s.heap.objs.size x y → h'.objs.size = s.heap.objs.size + 1 →
      (∀ c o, c ≠ z → c ≠ TO → c ≠ i1 → c ≠ i2 → s.heap.get? c = some o → h'.get? c = some o) → Q (some (.ref s.heap.objs.size)) { s with heap := h' }) :
    wpAny (model prog w) A (pyNext (.ref z)) Q E s := by
  rcases st.zip with ⟨e, hz, a, b, ht⟩ | ⟨T, f, oT, hz, hT, hl⟩
  · refine pyNext_zipT_item D hz st.ti ht st.h1 st.h2 st.l1' st.l2' hx hy fun h' z' to' a1 a2 pr sz k => hQ h' ⟨.inr ⟨s.heap.objs.size, false, _, z', pr, hlo⟩, ?_, a1, a2, ?_, ?_⟩ pr sz k
    · exact k _ _ D.TIz D.TITO D.TIi1 D.TIi2 st.ti
    · exact tup_keep st.l1' fun o q => k _ _ D.l1z D.l1TO D.l1i1 D.l1i2 q
    · exact tup_keep st.l2' fun o q => k _ _ D.l2z D.l2TO D.l2i1 D.l2i2 q
  · have hTy : s.TypeIs (.ref z) "zip" := ⟨_, hz, rfl⟩
    unfold pyNext
    refine wpAny_bind (wpAny_attempt (wpAny_callSpecial?_slot (name := Str.ofString "__next__") hTy F.slot_zip_next
      (wpAny_call_entry F.slot_zip_next hTy F.entry_zip_next
        (zipT_item_held D hz hT st.ti st.h1 st.h2 st.l1' st.l2' hx hy fun h' z' a1 a2 pr sz k => wpAny_pure (hQ h' ⟨.inr ⟨T, true, oT, z', ?_, hl⟩, ?_, a1, a2, ?_, ?_⟩ pr sz fun c o c1 _ c3 c4 q => k c o c1 c3 c4 q)) (F.args_zip_next_1 _))))
    · exact k _ _ (fun e => by rw [e] at hl; exact absurd hl (Nat.not_le.mpr L.z')) (fun e => by rw [e] at hl; exact absurd hl (Nat.not_le.mpr L.i1')) (fun e => by rw [e] at hl; exact absurd hl (Nat.not_le.mpr L.i2')) hT
    · exact k _ _ D.TIz D.TIi1 D.TIi2 st.ti
    · exact tup_keep st.l1' fun o q => k _ _ D.l1z D.l1i1 D.l1i2 q
    · exact tup_keep st.l2' fun o q => k _ _ D.l2z D.l2i1 D.l2i2 q
theorem zst_done {i : Nat} {Q : Option Value → Shared → Prop} (hh : A.handled = none) (D : ZipApart z TI TO i1 i2 l1 l2) (st : ZSt s.heap z TI TO i1 i2 l1 l2 S lo xs ys i) (hx : xs[i]? = none)
    (hQ : ∀ h', (∀ c o, c ≠ z → c ≠ TO → c ≠ i1 → c ≠ i2 → s.heap.get? c = some o → h'.get? c = some o) → Q none { s with heap := h' }) : wpAny (model prog w) A (pyNext (.ref z)) Q E s := by
  rcases st.zip with ⟨e, hz, a, b, ht⟩ | ⟨T, f, oT, hz, hT, hl⟩
  · exact pyNext_zipT_end hh D hz st.ti ht st.h1 st.h2 st.l1' st.l2' (.inl hx) hQ
  · have hTy : s.TypeIs (.ref z) "zip" := ⟨_, hz, rfl⟩
    unfold pyNext
    refine wpAny_bind (wpAny_attempt (wpAny_callSpecial?_slot (name := Str.ofString "__next__") hTy F.slot_zip_next
      (wpAny_call_entry F.slot_zip_next hTy F.entry_zip_next (zipT_end_held hh D hz hT st.ti st.h1 st.h2 st.l1' st.l2' hx fun h' e hk he => ?_) (F.args_zip_next_1 _))))
    obtain ⟨o, ho, hc⟩ := he
    refine wpAny_bind (wpAny_isInstance (T := "StopIteration") (b := true) ⟨o, ho, hc⟩ isSubtype_stop ?_)
    exact wpAny_pure (hQ _ fun c o c1 _ c3 c4 q => hk c o c1 c3 c4 q)
/-- the pairs made so far -/
structure ZG (xs ys : Array Value) (lo : Addr) (h : Heap) (as : List Addr) : Prop where
  rise : as.Pairwise (· < ·)
  above : ∀ a ∈ as, lo ≤ a
  pairs : ∀ (j : Nat) (a : Addr), as[j]? = some a → ∃ x y, xs[j]? = some x ∧ ys[j]? = some y ∧ IsPair h a x y
theorem ZG.there {h : Heap} {as : List Addr} (g : ZG xs ys lo h as) {a : Addr} (ha : a ∈ as) : a < h.objs.size := by
  obtain ⟨j, hj⟩ := List.mem_iff_getElem?.mp ha
  obtain ⟨_, _, _, _, e⟩ := g.pairs j a hj
  exact Heap.lt_size e
theorem zl_loop {R : Result → Shared → Prop} (hh : A.handled = none) (D : ZipApart z TI TO i1 i2 l1 l2) (L : ZLo z TI TO i1 i2 l1 l2 S lo) (hl : xs.size = ys.size) (hn : xs.size ≤ sizeLine) (res : Value) {h₁ : Heap}
    (hR : ∀ h' tk acc c as, (∀ b o, b ≠ S → b ≠ z → b ≠ TO → b ≠ i1 → b ≠ i2 → h₁.get? b = some o → h'.get? b = some o) → h'.get? S = some { cls := .type "list", dict := none, data := .seq acc c, slots := #[] } → as.length = xs.size → ZG xs ys lo h' as →
      acc.toList = as.map Value.ref → R (.ok (.ret res)) { s with heap := h', toks := tk }) :
    ∀ (k i : Nat) (h : Heap) (tk c : Nat) (acc : Array Value) (as : List Addr), xs.size - i = k → i ≤ xs.size → ZSt h z TI TO i1 i2 l1 l2 S lo xs ys i → (∀ b o, b ≠ S → b ≠ z → b ≠ TO → b ≠ i1 → b ≠ i2 → h₁.get? b = some o → h.get? b = some o) →
      h.get? S = some { cls := .type "list", dict := none, data := .seq acc c, slots := #[] } → acc.toList = as.map Value.ref → as.length = i → ZG xs ys lo h as → lo ≤ h.objs.size →
      codeAny (model prog w) A (.builtin "list.extend.loop" ⟨[.ref S, .ref z, res], []⟩) R { s with heap := h, toks := tk } := by
  intro k
  induction k with
  | zero =>
    intro i h tk c acc as hk hi st hkeep hS hacc hal hG hlo
    have hin : i = xs.size := by omega
    refine codeAny_builtin PySem.F.entry_extend_loop ?_
    rw [Around.under_plainId PySem.F.plain_extend_loop _]
    show wpAny _ A.in1 (pyNext (.ref z) >>= _) _ _ _
    refine wpAny_bind (zst_done (s := { s with heap := h, toks := tk }) (A := A.in1) hh D st (Array.getElem?_eq_none (by omega)) fun h' he => ?_)
    refine wpAny_pure (hR h' tk acc c as (fun b o h1 h2 h3 h4 h5 e => he b o h2 h3 h4 h5 (hkeep b o h1 h2 h3 h4 h5 e)) (he S _ L.Sz L.STO L.Si1 L.Si2 hS) (by omega) ⟨hG.rise, hG.above, fun j a hj => ?_⟩ hacc)
    obtain ⟨x, y, e1, e2, e3⟩ := hG.pairs j a hj
    have ha := hG.above a (List.mem_of_getElem? hj)
    exact ⟨x, y, e1, e2, he a _ (Nat.ne_of_gt (Nat.lt_of_lt_of_le L.z' ha)) (Nat.ne_of_gt (Nat.lt_of_lt_of_le L.TO' ha)) (Nat.ne_of_gt (Nat.lt_of_lt_of_le L.i1' ha)) (Nat.ne_of_gt (Nat.lt_of_lt_of_le L.i2' ha)) e3⟩
  | succ k ih =>
    intro i h tk c acc as hk hi st hkeep hS hacc hal hG hlo
    have hlt : i < xs.size := by omega
    have hx : xs[i]? = some xs[i] := Array.getElem?_eq_getElem hlt
    have hlt2 : i < ys.size := by omega
    have hy : ys[i]? = some ys[i] := Array.getElem?_eq_getElem hlt2
    have hsz : acc.size = i := by rw [← Array.length_toList, hacc, List.length_map, hal]
    refine codeAny_builtin PySem.F.entry_extend_loop ?_
    rw [Around.under_plainId PySem.F.plain_extend_loop _]
    show wpAny _ A.in1 (pyNext (.ref z) >>= _) _ _ _
    refine wpAny_bind (zst_item (s := { s with heap := h, toks := tk }) (A := A.in1) D L hlo st hx hy fun h' st' ht hz hkp => ?_)
    dsimp only at ht hz hkp ⊢
    have hS' := hkp S _ L.Sz L.STO L.Si1 L.Si2 hS
    have up : ∀ b o, b ≠ S → h'.get? b = some o → (h'.update S (Obj.mapSeq (·.push (Value.ref h.objs.size)))).get? b = some o := fun b o hb e => (Heap.get?_update_other _ _ (Ne.symm hb)).trans e
    have hSl : S < h.objs.size := Heap.lt_size hS
    show wpAny _ A.in1 (updateSeq S (·.push (Value.ref h.objs.size)) >>= _) _ _ _
    refine wpAny_bind ?_
    refine wpAny_updateSeq hS' rfl (wpAny_pure ⟨plainId_quiet PySem.F.plain_extend_loop _, ih (i + 1) _ tk _ (acc.push (Value.ref h.objs.size)) (as ++ [h.objs.size]) (by omega) hlt (st'.upd L up)
      (fun b o h1 h2 h3 h4 h5 e => up b o h1 (hkp b o h2 h3 h4 h5 (hkeep b o h1 h2 h3 h4 h5 e))) (Heap.get?_update_self _ hS' rfl) (by rw [Array.toList_push, hacc, List.map_append]; rfl) (by rw [List.length_append, hal]; rfl) ⟨?_, ?_, ?_⟩ ?_⟩) (by rw [hsz]; omega) (by show (acc.push (Value.ref h.objs.size)).size ≤ sizeLine + 1; rw [Array.size_push, hsz]; omega)
    · refine List.pairwise_append.mpr ⟨hG.rise, List.pairwise_singleton _ _, fun a ha b hb => ?_⟩
      rw [List.mem_singleton.mp hb]
      exact hG.there ha
    · intro a ha
      rcases List.mem_append.mp ha with ha | ha
      · exact hG.above a ha
      · rw [List.mem_singleton.mp ha]; exact hlo
    · intro j b hj
      rcases Nat.lt_trichotomy j as.length with h1 | h1 | h1
      · rw [List.getElem?_append_left h1] at hj
        obtain ⟨x', y', e1, e2, e3⟩ := hG.pairs j b hj
        have hb := hG.above b (List.mem_of_getElem? hj)
        exact ⟨x', y', e1, e2, up b _ (Nat.ne_of_gt (Nat.lt_of_lt_of_le L.S' hb)) (hkp b _ (Nat.ne_of_gt (Nat.lt_of_lt_of_le L.z' hb)) (Nat.ne_of_gt (Nat.lt_of_lt_of_le L.TO' hb)) (Nat.ne_of_gt (Nat.lt_of_lt_of_le L.i1' hb)) (Nat.ne_of_gt (Nat.lt_of_lt_of_le L.i2' hb)) e3)⟩
      · subst h1
        have hb : h.objs.size = b := by simpa using hj
        subst hb
        exact ⟨xs[i], ys[i], by rw [hal]; exact hx, by rw [hal]; exact hy, up _ _ (Nat.ne_of_gt hSl) ht⟩
      · have hnone : (as ++ [h.objs.size])[j]? = none := List.getElem?_eq_none (by rw [List.length_append, List.length_singleton]; omega)
        rw [hnone] at hj; cases hj
    · have e : (h'.update S (Obj.mapSeq (·.push (Value.ref h.objs.size)))).get? h.objs.size = _ := up _ _ (Nat.ne_of_gt hSl) ht
      exact Nat.le_trans hlo (Nat.le_of_lt (Heap.lt_size e))
end
end LmR

set_option Elab.async false
set_option linter.all false
set_option maxRecDepth 100000
set_option maxHeartbeats 2000000
namespace LmR
open PySem PySem.Spec PyProof.Rows L2 RZ
section
variable {prog : Program} {w : World} {A : Around} {E : Value → Shared → Prop} {s : Shared}
variable {z TI TO i1 i2 l1 l2 S lo : Addr} {xs ys : Array Value}
theorem zl_extend {R : Result → Shared → Prop} (hh : A.handled = none) (D : ZipApart z TI TO i1 i2 l1 l2) (L : ZLo z TI TO i1 i2 l1 l2 S lo) (hl : xs.size = ys.size) (hn : xs.size ≤ sizeLine) (res : Value) (c₀ : Nat) (hlo : lo ≤ s.heap.objs.size)
    (st : ZSt s.heap z TI TO i1 i2 l1 l2 S lo xs ys 0) (hz : IsZip s.heap z TI TO .none) (hS : s.heap.get? S = some { cls := .type "list", data := .seq #[] c₀ })
    (hR : ∀ h' tk acc c as, (∀ b o, b ≠ S → b ≠ z → b ≠ TO → b ≠ i1 → b ≠ i2 → s.heap.get? b = some o → h'.get? b = some o) → h'.get? S = some { cls := .type "list", dict := none, data := .seq acc c, slots := #[] } → as.length = xs.size → ZG xs ys lo h' as →
      acc.toList = as.map Value.ref → R (.ok (.ret res)) { s with heap := h', toks := tk }) :
    wpAny (model prog w) A.in1 (Builtin.List.listExtendWith (.ref S) (.ref z) res)
      (fun fin s' => match fin with | .done f => R (.ok f) s' | .again c' => c'.quiet = true ∧ codeAny (model prog w) A c' R s') (fun e s' => R (.error e) s') s := by
  have hT : s.TypeIs (.ref z) "zip" := ⟨_, hz, rfl⟩
  unfold Builtin.List.listExtendWith
  refine wpAny_bind (wpAny_typeOf hT ?_)
  have h1 : Builtin.List.listSameRef (.ref S) (.ref z) = false := by simp [Builtin.List.listSameRef, L.Sz]
  have h2 : (Value.type "zip" == Value.type "list") = false := by decide
  have h3 : (Value.type "zip" == Value.type "tuple") = false := by decide
  simp only [h1, h2, h3, Bool.or_false, Bool.false_eq_true, if_false]
  refine wpAny_bind (wpAny_pyIter_zip hz ?_)
  refine wpAny_bind (wpAny_holding ?_)
  unfold Builtin.List.listLengthHint
  refine wpAny_bind (wpAny_specialOf hT zip_no_len ?_)
  show wpAny _ A.in1 (specialOf (Value.ref z) (Str.ofString "__length_hint__") >>= _) _ _ _
  refine wpAny_bind (wpAny_specialOf hT zip_no_hint ?_)
  refine wpAny_pure ?_
  show wpAny _ A.in1 (rule "list.extend.makes-room" >>= fun _ => Builtin.List.listTouch (.ref S) >>= fun _ =>
    again (.builtin "list.extend.loop" ⟨[.ref S, .ref z, res], []⟩)) _ _ _
  refine wpAny_bind (wpAny_rule ?_)
  refine wpAny_bind ?_
  show wpAny _ A.in1 (updateSeq S (·.push .none) >>= fun _ => updateSeq S (·.pop)) _ _ _
  refine wpAny_bind (wpAny_updateSeq hS rfl ?_)
  have hS₂ := Heap.get?_update_self (Obj.mapSeq (·.push Value.none)) hS rfl
  refine wpAny_updateSeq (hz := by seq_fits) hS₂ rfl ?_
  have hS₃ := Heap.get?_update_self (Obj.mapSeq (·.pop)) hS₂ rfl
  have oth : ∀ b o, b ≠ S → s.heap.get? b = some o → ((s.heap.update S (Obj.mapSeq (·.push Value.none))).update S (Obj.mapSeq (·.pop))).get? b = some o :=
    fun b o hb e => (Heap.get?_update_other _ _ (Ne.symm hb)).trans ((Heap.get?_update_other _ _ (Ne.symm hb)).trans e)
  refine wpAny_pure ⟨plainId_quiet PySem.F.plain_extend_loop _, zl_loop (s := s) (h₁ := s.heap) hh D L hl hn res hR xs.size 0 _ s.toks _ #[] [] (Nat.sub_zero _) (Nat.zero_le _) (st.upd L oth) (fun b o h1 _ _ _ _ e => oth b o h1 e) hS₃ rfl rfl ⟨List.Pairwise.nil, (fun _ ha => nomatch ha), (fun j a hj => by simp at hj)⟩ ?_⟩
  have zz := oth z _ L.Sz.symm hz
  have e1 : ((s.heap.update S (Obj.mapSeq (·.push Value.none))).update S (Obj.mapSeq (·.pop))).objs.size = s.heap.objs.size := by
    first
      | (rw [Heap.size_update, Heap.size_update])
      | (simp [Heap.update])
  rw [e1]
  exact hlo
theorem zl_init {R : Result → Shared → Prop} (hh : A.handled = none) (D : ZipApart z TI TO i1 i2 l1 l2) (L : ZLo z TI TO i1 i2 l1 l2 S lo) (hl : xs.size = ys.size) (hn : xs.size ≤ sizeLine) (hlo : lo ≤ s.heap.objs.size)
    (st : ZSt s.heap z TI TO i1 i2 l1 l2 S lo xs ys 0) (hz : IsZip s.heap z TI TO .none) (hS : s.heap.get? S = some { cls := .type "list", data := .seq #[] })
    (hR : ∀ h' tk acc c as, (∀ b o, b ≠ S → b ≠ z → b ≠ TO → b ≠ i1 → b ≠ i2 → s.heap.get? b = some o → h'.get? b = some o) → h'.get? S = some { cls := .type "list", dict := none, data := .seq acc c, slots := #[] } → as.length = xs.size → ZG xs ys lo h' as →
      acc.toList = as.map Value.ref → R (.ok (.ret .none)) { s with heap := h', toks := tk }) :
    wpAny (model prog w) A.in1 (Builtin.«list.__init__» ⟨[.ref S, .ref z], []⟩)
      (fun fin s' => match fin with | .done f => R (.ok f) s' | .again c' => c'.quiet = true ∧ codeAny (model prog w) A c' R s') (fun e s' => R (.error e) s') s := by
  show wpAny _ _ (do let old ← Builtin.List.listItems (.ref S); Builtin.List.listUpdate (.ref S) (fun _ => #[]); letGo old.toList.reverse; Builtin.List.listExtendWith (.ref S) (.ref z) .none) _ _ s
  refine wpAny_bind ?_
  unfold Builtin.List.listItems
  refine wpAny_bind (wpAny_seqItems hS rfl (wpAny_pure ?_))
  show wpAny _ _ (updateSeq S (fun _ => #[]) >>= fun _ => letGo (#[] : Array Value).toList.reverse >>= fun _ => Builtin.List.listExtendWith (.ref S) (.ref z) .none) _ _ s
  refine wpAny_bind (wpAny_updateSeq hS rfl ?_)
  have hS₂ := Heap.get?_update_self (Obj.mapSeq (fun _ => (#[] : Array Value))) hS rfl
  have oth : ∀ b o, b ≠ S → s.heap.get? b = some o → (s.heap.update S (Obj.mapSeq (fun _ => (#[] : Array Value)))).get? b = some o :=
    fun b o hb e => (Heap.get?_update_other _ _ (Ne.symm hb)).trans e
  refine wpAny_bind (wpAny_letGo ?_)
  have e1 : (s.heap.update S (Obj.mapSeq (fun _ => (#[] : Array Value)))).objs.size = s.heap.objs.size := by
    first
      | (rw [Heap.size_update])
      | (simp [Heap.update])
  refine zl_extend hh D L hl hn .none _ (by show lo ≤ (s.heap.update S _).objs.size; rw [e1]; exact hlo) (st.upd L oth) (oth z _ L.Sz.symm hz) hS₂ (fun h' tk acc c as hk hS' hl' hG hacc => ?_)
  exact hR h' tk acc c as (fun b o h1 h2 h3 h4 h5 e => hk b o h1 h2 h3 h4 h5 (oth b o h1 e)) hS' hl' hG hacc
theorem zl_call {Q : Value → Shared → Prop} (hh : A.handled = none) (D : ZipApart z TI TO i1 i2 l1 l2) (hl : xs.size = ys.size) (hn : xs.size ≤ sizeLine)
    (hz : IsZip s.heap z TI TO .none) (hTI : IsPair s.heap TI (.ref i1) (.ref i2)) (hTO : ∃ a b, IsPair s.heap TO a b) (h1 : s.heap.IsTupleIter i1 l1 0) (h2 : s.heap.IsTupleIter i2 l2 0) (hl1 : s.heap.IsTuple l1 xs) (hl2 : s.heap.IsTuple l2 ys)
    (hQ : ∀ h' tk acc c as, (∀ b o, b ≠ z → b ≠ TO → b ≠ i1 → b ≠ i2 → s.heap.get? b = some o → h'.get? b = some o) → h'.get? s.heap.objs.size = some { cls := .type "list", dict := none, data := .seq acc c, slots := #[] } → as.length = xs.size → ZG xs ys (s.heap.objs.size + 1) h' as →
      acc.toList = as.map Value.ref → Q (.ref s.heap.objs.size) { s with heap := h', toks := tk }) :
    wpAny (model prog w) A (call (.type "list") [.ref z]) Q E s := by
  refine callType_codes (Q₁ := fun obj s₁ => obj = .ref s.heap.objs.size ∧ s₁ = { s with heap := s.heap.push { cls := .type "list", data := .seq #[] } }) PySem.F.called_list (PySem.F.typeCall_list_1 _) PySem.F.entry_list_init
    (code_list_new _ ⟨rfl, rfl⟩) fun obj s₁ h₁ => ?_
  obtain ⟨rfl, rfl⟩ := h₁
  have hS : (s.heap.push { cls := .type "list", data := .seq #[] }).get? s.heap.objs.size = some { cls := .type "list", data := .seq #[] } := Heap.get?_push_size _ rfl
  have kp : ∀ b o, s.heap.get? b = some o → (s.heap.push { cls := .type "list", data := .seq #[] }).get? b = some o := fun b o e => Heap.get?_push_of_some _ e
  have lz := Heap.lt_size hz
  have lTI := Heap.lt_size hTI
  obtain ⟨ta, tb, hTO'⟩ := hTO
  have lTO := Heap.lt_size hTO'
  have li1 : i1 < s.heap.objs.size := let ⟨_, e, _⟩ := h1; Heap.lt_size e
  have li2 : i2 < s.heap.objs.size := let ⟨_, e, _⟩ := h2; Heap.lt_size e
  have ll1 : l1 < s.heap.objs.size := let ⟨_, e, _⟩ := hl1; Heap.lt_size e
  have ll2 : l2 < s.heap.objs.size := let ⟨_, e, _⟩ := hl2; Heap.lt_size e
  have L : ZLo z TI TO i1 i2 l1 l2 s.heap.objs.size (s.heap.objs.size + 1) := ⟨Nat.lt_succ_of_lt lz, Nat.lt_succ_of_lt lTI, Nat.lt_succ_of_lt lTO, Nat.lt_succ_of_lt li1, Nat.lt_succ_of_lt li2, Nat.lt_succ_of_lt ll1, Nat.lt_succ_of_lt ll2, Nat.lt_succ_self _,
    Nat.ne_of_gt lz, Nat.ne_of_gt lTI, Nat.ne_of_gt lTO, Nat.ne_of_gt li1, Nat.ne_of_gt li2, Nat.ne_of_gt ll1, Nat.ne_of_gt ll2⟩
  have st : ZSt (s.heap.push { cls := .type "list", data := .seq #[] }) z TI TO i1 i2 l1 l2 s.heap.objs.size (s.heap.objs.size + 1) xs ys 0 :=
    ⟨.inl ⟨rfl, kp _ _ hz, ta, tb, kp _ _ hTO'⟩, kp _ _ hTI, h1.at fun o e => kp _ _ e, h2.at fun o e => kp _ _ e, tup_keep hl1 fun o e => kp _ _ e, tup_keep hl2 fun o e => kp _ _ e⟩
  refine ⟨⟨_, hS, rfl⟩, PySem.F.args_list_init_2 _ _, zl_init (A := A.in1) hh D L hl hn (by show s.heap.objs.size + 1 ≤ (s.heap.push _).objs.size; rw [Heap.size_push]; exact Nat.le_refl _) st (kp _ _ hz) hS (fun h' tk acc c as hk hS' hl' hG hacc => ?_)⟩
  exact ⟨rfl, hQ h' tk acc c as (fun b o c1 c2 c3 c4 e => hk b o (Nat.ne_of_lt (Heap.lt_size e)) c1 c2 c3 c4 (kp b o e)) hS' hl' hG hacc⟩
end
/-! ### the rule -/
/-- pairs tracked at their addresses -/
def putZ : Hp → List Addr → List (V × V) → Hp
  | H, a :: as, p :: ps => putZ (upd H a (.tup [p.1, p.2])) as ps
  | H, _, _ => H
theorem putZ_off {b : Addr} : ∀ (as : List Addr) (ps : List (V × V)) (H : Hp), b ∉ as → putZ H as ps b = H b
  | [], _, _, _ => rfl
  | _ :: _, [], _, _ => rfl
  | a :: as, p :: ps, H, h => by
    show putZ (upd H a (.tup [p.1, p.2])) as ps b = H b
    rw [putZ_off as ps _ (fun z => h (List.mem_cons_of_mem _ z)), upd_ne (fun z => h (by rw [z]; exact List.mem_cons_self))]
theorem putZ_at : ∀ (as : List Addr) (ps : List (V × V)) (H : Hp) (j : Nat) (a : Addr) (p : V × V), as.Nodup → as[j]? = some a → ps[j]? = some p → putZ H as ps a = some (.tup [p.1, p.2])
  | [], _, _, j, _, _, _, h, _ => by simp at h
  | _ :: _, [], _, j, _, _, _, _, h => by simp at h
  | a :: as, p :: ps, H, 0, b, q, nd, h1, h2 => by
    have e1 : a = b := Option.some.inj h1
    have e2 : p = q := Option.some.inj h2
    subst e1 e2
    show putZ (upd H a (.tup [p.1, p.2])) as ps a = some (.tup [p.1, p.2])
    rw [putZ_off as ps _ (List.nodup_cons.mp nd).1, upd_same]
  | a :: as, p :: ps, H, j + 1, b, q, nd, h1, h2 => putZ_at as ps _ j b q (List.nodup_cons.mp nd).2 h1 h2
/-- list(zip(t, u)) of two tuples of one length -/
def tListZip (K : PySem.W.Frag) (ta : TA) : TE := fun σ H Q => ta σ H fun vs H1 => ∃ (a b : Addr) (xs ys : List V), vs = [.ref a, .ref b] ∧ SqT K H1 a xs ∧ SqT K H1 b ys ∧ xs.length = ys.length ∧
  ∀ (H' : Hp) (p : Addr) (ts : List Addr), Same H1 H' → H1 p = none → (∀ t ∈ ts, H1 t = none) → H' p = some (.lst (ts.map V.ref)) → ts.length = xs.length →
    (∀ (j : Nat) (t : Addr), ts[j]? = some t → ∃ x y, xs[j]? = some x ∧ ys[j]? = some y ∧ H' t = some (.tup [x, y])) → Q (.ref p) H'
section
variable {X : Cx}
theorem pe_listZip {e e2 : Expr} {ta : TA} {p p2 pos pos2 : Pos} (hc : X.calm = true) (hgl : Gl X "list") (hml : X.mg "list" = none) (hgz : Gl X "zip") (hmz : X.mg "zip" = none) (ha : PA X [e, e2] ta)
    (hs : starEach [e, e2] X.env = (false, eval e X.env) :: starEach [e2] X.env := by rfl) (hpl : (backTo pos2 (starEach [e2] X.env)).any (·.1) = false := by rfl)
    (hs2 : starEach [.Call (.Name "zip" p2) [e, e2] [] pos2] X.env = (false, eval (.Call (.Name "zip" p2) [e, e2] [] pos2) X.env) :: starEach [] X.env := by rfl) :
    PE X (.Call (.Name "list" p) [.Call (.Name "zip" p2) [e, e2] [] pos2] [] pos) (tListZip X.K ta) := by
  refine ⟨fun pins s σ H Q I h => ?_⟩
  refine wpAny_Call_Name_kw (ld_blt I hgl hml PyProof.Rows.boot_list ?_)
  refine PyProof.Rows.callWith_type1 ?_ hs2 rfl
  rw [hs2]
  show wpAny _ _ (spliced ((false, eval (.Call (.Name "zip" p2) [e, e2] [] pos2) X.env) :: backTo pos (starEach [] X.env))) _ _ s
  refine Calls.spliced_cons ?_
  refine Call_ (ld_blt I hgz hmz PyProof.Rows.boot_zip (PyProof.Rows.callWith_type1 (thn (ha.run pos2 pins s σ H _ I h) fun us s1 ⟨vs, H1, I1, r1, q1⟩ => ?_) hs hpl))
  obtain ⟨a, b, xs, ys, ex, hqx, hqy, hxy, q⟩ := q1
  subst ex
  cases r1 with
  | cons r rr =>
    cases rr with
    | cons r' rr =>
      cases rr
      cases r
      cases r'
      obtain ⟨its, rv, p1, hz1⟩ := I1.tuple hqx
      obtain ⟨its2, rv2, p2', _⟩ := I1.tuple hqy
      obtain ⟨o1, ho1, _⟩ := id p1
      obtain ⟨o2, ho2, _⟩ := id p2'
      have e1 := rv.length
      have e2 := rv2.length
      refine call_zipT (show s1.heap.IsTuple a its.toArray from p1) (show s1.heap.IsTuple b its2.toArray from p2') fun h' hz hTI hTO h1 h2 hsz hk => ?_
      refine Calls.spliced_nil ?_
      have D := PySem.W.ktu_apart s1.heap.objs.size a b (Heap.lt_size ho1) (Heap.lt_size ho2)
      refine zl_call (s := { s1 with heap := h' }) (xs := its.toArray) (ys := its2.toArray) (I1.ok.hd hc) D (by rw [List.size_toArray, List.size_toArray]; omega) (by rw [List.size_toArray]; omega) hz hTI ⟨_, _, hTO⟩ h1 h2 (tup_keep p1 fun o q => hk _ _ q) (tup_keep p2' fun o q => hk _ _ q) fun h2' tk acc c as hkk hS hl hG hacc => ?_
      have lo : ∀ b o, s1.heap.get? b = some o → h2'.get? b = some o := fun b o q => by
        have lb := Heap.lt_size q
        exact hkk b o (fun z => by rw [z] at lb; exact absurd lb (Nat.not_lt.mpr (Nat.le_add_right _ _))) (fun z => by rw [z] at lb; exact absurd lb (Nat.not_lt.mpr (Nat.le_add_right _ _))) (fun z => by rw [z] at lb; exact absurd lb (Nat.lt_irrefl _)) (fun z => by rw [z] at lb; exact absurd lb (Nat.not_lt.mpr (Nat.le_add_right _ _))) (hk b o q)
      have hsz' : h'.objs.size = s1.heap.objs.size + 5 := hsz
      have hal : as.length = xs.length := by
        rw [hl, List.size_toArray]
        omega
      have nd : as.Nodup := List.Pairwise.imp (fun {a b} (h : a < b) => Nat.ne_of_lt h) hG.rise
      have big : ∀ t ∈ as, h'.objs.size < t := fun t ht => hG.above t ht
      have hSn : h'.objs.size ∉ as := fun z => Nat.lt_irrefl _ (big _ z)
      have new : ∀ t ∈ as, H1 t = none := fun t ht => I1.hok.fresh (by have := big t ht; rw [hsz'] at this; exact Nat.le_of_lt (Nat.lt_of_le_of_lt (Nat.le_add_right _ _) this))
      have newS : H1 h'.objs.size = none := I1.hok.fresh (by rw [hsz']; exact Nat.le_add_right _ _)
      have lk : ∀ b o, s1.heap.get? b = some o → b ∉ as ∧ b ≠ h'.objs.size := fun b o q => by
        have lb := Heap.lt_size q
        refine ⟨fun z => ?_, fun z => ?_⟩
        · have := big b z
          rw [hsz'] at this
          exact absurd lb (Nat.not_lt.mpr (Nat.le_trans (Nat.le_add_right _ 5) (Nat.le_of_lt this)))
        · rw [z, hsz'] at lb
          exact absurd lb (Nat.not_lt.mpr (Nat.le_add_right _ _))
      have off : ∀ b, b ∉ as → b ≠ h'.objs.size → putZ (upd H1 h'.objs.size (.lst (as.map V.ref))) as (xs.zip ys) b = H1 b := fun b h1 h2 => by rw [putZ_off as _ _ h1, upd_ne h2]
      have kp : ∀ b u, H1 b = some u → putZ (upd H1 h'.objs.size (.lst (as.map V.ref))) as (xs.zip ys) b = some u := fun b u e => by
        rw [off b (fun z => by rw [new b z] at e; cases e) (fun z => by rw [z, newS] at e; cases e)]
        exact e
      have eS : putZ (upd H1 h'.objs.size (.lst (as.map V.ref))) as (xs.zip ys) h'.objs.size = some (.lst (as.map V.ref)) := by rw [putZ_off as _ _ hSn, upd_same]
      have prs : ∀ (j : Nat) (t : Addr), as[j]? = some t → ∃ x y u1 u2, xs[j]? = some x ∧ ys[j]? = some y ∧ RelV x u1 ∧ RelV y u2 ∧ IsPair h2' t u1 u2 ∧ putZ (upd H1 h'.objs.size (.lst (as.map V.ref))) as (xs.zip ys) t = some (.tup [x, y]) := fun j t ht => by
        obtain ⟨u1, u2, f1, f2, f3⟩ := hG.pairs j t ht
        have hj : j < xs.length := by
          have := (List.getElem?_eq_some_iff.mp ht).1
          omega
        have hj2 : j < ys.length := by omega
        have g1 : xs[j]? = some xs[j] := List.getElem?_eq_getElem hj
        have g2 : ys[j]? = some ys[j] := List.getElem?_eq_getElem hj2
        obtain ⟨w1, k1, r1⟩ := rv.get g1
        obtain ⟨w2, k2, r2⟩ := rv2.get g2
        have m1 : u1 = w1 := by
          rw [List.getElem?_toArray, k1] at f1
          exact (Option.some.inj f1).symm
        have m2 : u2 = w2 := by
          rw [List.getElem?_toArray, k2] at f2
          exact (Option.some.inj f2).symm
        subst m1 m2
        refine ⟨xs[j], ys[j], u1, u2, g1, g2, r1, r2, f3, ?_⟩
        exact putZ_at as (xs.zip ys) _ j t (xs[j], ys[j]) nd ht (by rw [List.getElem?_zip_eq_some]; exact ⟨g1, g2⟩)
      refine ⟨.ref _, putZ (upd H1 h'.objs.size (.lst (as.map V.ref))) as (xs.zip ys), ?_, rfl, q _ _ as kp newS new eS hal fun j t ht => ?_⟩
      · have Ik : Inv X pins σ H1 { s1 with heap := h2', toks := tk } := I1.kept (t' := tk) lo
        refine I1.call' (ch := []) rfl ⟨fun b o q _ _ _ => lo b o q, fun b o q _ _ _ => ⟨o.slots, lo b o q⟩, fun b o q n _ => ?_, fun b o q _ => ⟨o, lo b o q⟩, fun b zs q => kp b _ q, fun b o u q => kp b _ q, fun b ps q => ⟨#[], by rw [kp b _ q]; simp⟩⟩ (fun b u q => ?_) I1.bare fun b z => by simp at z
        · obtain ⟨z1, z2⟩ := lk b o q
          rw [off b z1 z2]
          exact n
        · by_cases hb : b ∈ as
          · obtain ⟨j, hj⟩ := List.mem_iff_getElem?.mp hb
            obtain ⟨x, y, u1, u2, _, _, r1, r2, f3, e⟩ := prs j b hj
            rw [e] at q
            cases q
            exact ⟨by show 2 ≤ sizeLine; decide, [u1, u2], .cons r1 (.cons r2 .nil), ⟨_, f3, rfl, _, rfl⟩⟩
          · by_cases hb2 : b = h'.objs.size
            · rw [hb2] at q ⊢
              rw [eS] at q
              cases q
              refine ⟨by rw [List.length_map]; omega, acc.toList, c, by rw [hacc]; exact (let rec go : ∀ as : List Addr, Vals (as.map V.ref) (as.map Value.ref) | [] => .nil | _ :: as => .cons rfl (go as); go as), ?_⟩
              rw [Array.toArray_toList]
              exact hS
            · rw [off b hb hb2] at q
              exact (I1.hok b u q).stay (fun d v _ y => lo d v y) (fun d y => kp d _ y) fun d xs y => kp d _ y
      · obtain ⟨x, y, _, _, g1, g2, _, _, _, e⟩ := prs j t ht
        exact ⟨x, y, g1, g2, e⟩
end
end LmR

set_option Elab.async false
set_option linter.all false
set_option maxRecDepth 100000
set_option maxHeartbeats 2000000
namespace Lm
open PySem PySem.Spec PyProof.Rows L2 LmR
/-! ### defs of the text, callable -/
/-- the def st stands in the text under the name x -/
def DefAt (K : PySem.W.Frag) (mg : Str → Option Value) (x : Str) (st : Stmt) (ps : List Str) : Prop := ∃ f fd, Fun K x x st f fd ∧ Binds K fd ps [] ∧ mg x = some (.ref f)
/-- what stands under the name x keeps sp, by at most level k -/
def Cal (P : Program) (w : World) (K : PySem.W.Frag) (mg : Str → Option Value) (base : Heap) (k : Nat) (x : Str) (ps : List Str) (sp : Sp) : Prop :=
  ∃ f fd, FnOk P w K mg base CX0 k f fd ps sp ∧ mg x = some (.ref f) ∧ PySem.W.keepIn K (.ref f) = true ∧ Binds K fd ps [] ∧ ∃ st, Fun K x x st f fd
section
variable {P : Program} {w : World} {K : PySem.W.Frag} {mg : Str → Option Value} {base : Heap}
theorem Cal.mono {j k : Nat} {x : Str} {ps : List Str} {sp : Sp} (c : Cal P w K mg base j x ps sp) (h : j ≤ k) : Cal P w K mg base k x ps sp := by
  obtain ⟨f, fd, F, g, kp, b⟩ := c
  exact ⟨f, fd, F.mono h, g, kp, b⟩
theorem Cal.weak {k : Nat} {x : Str} {ps : List Str} {sp sp' : Sp} (c : Cal P w K mg base k x ps sp) (h : ∀ vs H Q E, sp' vs H Q E → sp vs H Q E) : Cal P w K mg base k x ps sp' := by
  obtain ⟨f, fd, F, g, kp, b⟩ := c
  exact ⟨f, fd, ⟨fun vs H Q E z => F.len vs H Q E (h vs H Q E z), fun A outer s H args us vs Q E r e b v z => F.run A outer s H args us vs Q E r e b v (h vs H Q E z)⟩, g, kp, b⟩
theorem cal_of {x : Str} {st : Stmt} {N ps : List Str} {k : Nat} {sp : Sp} (D : DefAt K mg x st ps) (S : FnScope N ps (defScope st)) (len : ∀ vs H Q E, sp vs H Q E → vs.length = ps.length)
    (hbody : ∀ (f : Addr) (cdv : Value) (A : Around) (outer : List Env) (s : Shared) (H : Hp) (vs : List V) (Q : VK) (E : XK), Room k (A.deeper (envOfC x (defScope st) s.heap.objs.size f cdv)) → sp vs H Q E →
      ∃ t, PSs (cxOf CX0 P w K mg base N x (defScope st) f cdv A outer s H E).nox (defBody st) t ∧ t { nx := fun _ H' => Q .non H', rt := Q } (start N vs) H) : Cal P w K mg base (k + 1) x ps sp := by
  obtain ⟨f, fd, F, b, g⟩ := D
  exact ⟨f, fd, F.ok S len (hbody f), g, F.kp, b, _, F⟩
/-- nothing is asked: no call is allowed -/
theorem cal_no {x : Str} {st : Stmt} {ps : List Str} {sp : Sp} (D : DefAt K mg x st ps) (no : ∀ vs H Q E, ¬ sp vs H Q E) {k : Nat} : Cal P w K mg base k x ps sp := by
  obtain ⟨f, fd, F, b, g⟩ := D
  exact ⟨f, fd, ⟨fun vs H Q E h => absurd h (no vs H Q E), fun A outer s H args us vs Q E _ _ _ _ h => absurd h (no vs H Q E)⟩, g, F.kp, b, _, F⟩
end
/-- f(e, ..) -/
theorem pe_cal {X : Cx} {k : Nat} {x : Str} {ps : List Str} {sp : Sp} {e : Expr} {es : List Expr} {t : TA} {p pos : Pos} (C : Cal X.prog X.w X.K X.mg X.base k x ps sp) (hr : Room k X.A) (hg : Gl X x) (ha : PA X (e :: es) t)
    (hdb : (x == ("__debug__" : Str)) = false := by decide) (he : starEach (e :: es) X.env = (false, eval e X.env) :: starEach es X.env := by rfl) (hpl : (backTo pos (starEach es X.env)).any (·.1) = false := by rfl) :
    PE X (.Call (.Name x p) (e :: es) [] pos) (tCall sp [] (fun _ _ _ => False) t) := by
  obtain ⟨f, fd, F, g, kp, b, _⟩ := C
  exact pe_call F hr hg g kp b .nil pass0 ha hdb he hpl
/-- the built-ins that the text names and no one has rebound -/
structure Bt (mg : Str → Option Value) : Prop where
  len : mg "len" = none
  isinstance : mg "isinstance" = none
  tuple : mg "tuple" = none
  list : mg "list" = none
  str : mg "str" = none
  int : mg "int" = none
  bool : mg "bool" = none
  range : mg "range" = none
  zip : mg "zip" = none
  enumerate : mg "enumerate" = none
  reversed : mg "reversed" = none
  max : mg "max" = none
  all : mg "all" = none
  min : mg "min" = none
  sum : mg "sum" = none
  any : mg "any" = none
  sorted : mg "sorted" = none
  set : mg "set" = none
  repr : mg "repr" = none
  abs : mg "abs" = none
/-! ### heaps -/
/-- all that was tracked is as it was, but what stands at ws -/
def Ex (ws : List Addr) (H H' : Hp) : Prop := ∀ b o, H b = some o → b ∉ ws → H' b = some o
theorem Ex.refl (ws : List Addr) (H : Hp) : Ex ws H H := fun _ _ h _ => h
theorem Ex.trans {ws : List Addr} {H H1 H2 : Hp} (a : Ex ws H H1) (b : Ex ws H1 H2) : Ex ws H H2 := fun c o h n => b c o (a c o h n) n
theorem Ex.mono {ws us : List Addr} {H H' : Hp} (a : Ex ws H H') (h : ∀ b ∈ ws, b ∈ us) : Ex us H H' := fun c o e n => a c o e fun m => n (h c m)
theorem Ex.of_same {ws : List Addr} {H H' : Hp} (a : Same H H') : Ex ws H H' := fun c o e _ => a c o e
theorem Ex.same {H H' : Hp} (a : Ex [] H H') : Same H H' := fun c o e => a c o e (by simp)
theorem Ex.new {ws : List Addr} {H : Hp} {p : Addr} {o : HO} (h : H p = none) : Ex ws H (upd H p o) := fun b u q _ => by rw [upd_ne (ne_of_none q h)]; exact q
theorem Ex.at {ws : List Addr} {H : Hp} {p : Addr} {o : HO} (h : p ∈ ws) : Ex ws H (upd H p o) := fun b u q n => by rw [upd_ne (fun z => n (by rw [z]; exact h))]; exact q
theorem same_new {H : Hp} {p : Addr} {o : HO} (h : H p = none) : Same H (upd H p o) := fun b u q => by rw [upd_ne (ne_of_none q h)]; exact q
theorem Ex.free {ws : List Addr} {H H' : Hp} (a : Ex ws H H') {p : Addr} (h : H' p = none) (n : p ∉ ws) : H p = none := by
  cases q : H p with
  | none => rfl
  | some o =>
    rw [a p o q n] at h
    cases h
theorem Ex.ne {ws : List Addr} {H H' : Hp} (a : Ex ws H H') {p q : Addr} {o : HO} (h : H q = some o) (hq : q ∉ ws) (hp : H' p = none) : q ≠ p := fun z => by
  rw [← z, a q o h hq] at hp
  cases hp
theorem small {n : Nat} (h : n ≤ 100000) : n ≤ sizeLine := Nat.le_trans h (by decide)
theorem smallL {n : Nat} (h : n ≤ 100000) : n < sizeLine := Nat.lt_of_le_of_lt h (by decide)
/-! ### data: None, truths, ints, texts, tuples of these -/
/-- without lists and dicts -/
def flat : PyData → Bool
  | .none => true
  | .bool _ => true
  | .int _ => true
  | .str _ => true
  | .list _ => false
  | .tuple xs => flats xs
  | .dict _ => false
where flats : List PyData → Bool
  | [] => true
  | d :: ds => flat d && flats ds
/-- the tuples that were there are there -/
def Tp (K : PySem.W.Frag) (H H' : Hp) : Prop := ∀ a xs, SqT K H a xs → SqT K H' a xs
theorem Ex.tp {K : PySem.W.Frag} {ws : List Addr} {H H' : Hp} (a : Ex ws H H') (h : ∀ b ∈ ws, ∀ xs, ¬ Rd H b (.tup xs)) : Tp K H H' := fun b xs q => by
  rcases q with (q | ⟨o, q⟩) | q
  · exact .inl (.inl (a b _ q fun m => h b m xs (.inl q)))
  · exact .inl (.inr ⟨o, a b _ q fun m => h b m xs (.inr ⟨o, q⟩)⟩)
  · exact .inr q
theorem Tp.refl (K : PySem.W.Frag) (H : Hp) : Tp K H H := fun _ _ h => h
theorem Tp.trans {K : PySem.W.Frag} {H H1 H2 : Hp} (a : Tp K H H1) (b : Tp K H1 H2) : Tp K H H2 := fun c xs h => b c xs (a c xs h)
theorem Tp.same {K : PySem.W.Frag} {H H' : Hp} (a : Same H H') : Tp K H H' := fun b xs q => by
  rcases q with (q | ⟨o, q⟩) | q
  · exact .inl (.inl (a b _ q))
  · exact .inl (.inr ⟨o, a b _ q⟩)
  · exact .inr q
/-- a list (or dict) that is written -/
theorem Tp.put {K : PySem.W.Frag} {H : Hp} {p : Addr} {o o' : HO} (h : H p = some o) (n1 : ∀ xs, o ≠ .tup xs) (n2 : ∀ u v, o ≠ .frz u v) : Tp K H (upd H p o') := fun b xs q => by
  rcases q with (q | ⟨u, q⟩) | q
  · have nb : b ≠ p := fun z => by
      rw [z, h] at q
      exact n1 xs (Option.some.inj q)
    exact .inl (.inl (by rw [upd_ne nb]; exact q))
  · have nb : b ≠ p := fun z => by
      rw [z, h] at q
      exact n2 _ _ (Option.some.inj q)
    exact .inl (.inr ⟨u, by rw [upd_ne nb]; exact q⟩)
  · exact .inr q
theorem Tp.lst {K : PySem.W.Frag} {H : Hp} {p : Addr} {xs : List V} {o' : HO} (h : H p = some (.lst xs)) : Tp K H (upd H p o') := Tp.put h (fun _ z => nomatch z) (fun _ _ z => nomatch z)
theorem Tp.dct {K : PySem.W.Frag} {H : Hp} {p : Addr} {xs : List (Key × V)} {o' : HO} (h : H p = some (.dK xs)) : Tp K H (upd H p o') := Tp.put h (fun _ z => nomatch z) (fun _ _ z => nomatch z)
theorem Tp.new {K : PySem.W.Frag} {H : Hp} {p : Addr} {o : HO} (h : H p = none) : Tp K H (upd H p o) := Tp.same (same_new h)
mutual
theorem dp_keep {K : PySem.W.Frag} {H H' : Hp} (t : Tp K H H') : ∀ (d : PyData) (v : V), flat d = true → Dp K H v d → Dp K H' v d
  | .none, _, _, h => by cases h; exact .non
  | .bool b, _, _, h => by cases h; exact .bl b
  | .int i, _, _, h => by cases h; exact .int i
  | .str x, _, _, h => by cases h; exact .str x
  | .list ds, _, f, _ => by simp [flat] at f
  | .tuple ds, _, f, h => by
    cases h with
    | tup q r => exact .tup (t _ _ q) (dps_keep t ds _ f r)
  | .dict ds, _, f, _ => by simp [flat] at f
theorem dps_keep {K : PySem.W.Frag} {H H' : Hp} (t : Tp K H H') : ∀ (ds : List PyData) (vs : List V), flat.flats ds = true → DpAll K H vs ds → DpAll K H' vs ds
  | [], _, _, h => by cases h; exact .nil
  | d :: ds, _, f, h => by
    rw [flat.flats, Bool.and_eq_true] at f
    cases h with
    | cons a b => exact .cons (dp_keep t d _ f.1 a) (dps_keep t ds _ f.2 b)
end
/-- flat data at v -/
def Fd (K : PySem.W.Frag) (H : Hp) (v : V) (d : PyData) : Prop := flat d = true ∧ Dp K H v d
theorem Fd.keep {K : PySem.W.Frag} {H H' : Hp} {v : V} {d : PyData} (h : Fd K H v d) (t : Tp K H H') : Fd K H' v d := ⟨h.1, dp_keep t d v h.1 h.2⟩
/-! ### rules within a comprehension: the written part by its name -/
section
variable {X : Cx} {K : PySem.W.Frag}
theorem ix_tupK (h : X.K = K) : IxR X (rIxT K) := h ▸ ix_tup
theorem ix_listK (h : X.K = K) : IxR X (rIxL K) := h ▸ ix_list
def rLenK (K : PySem.W.Frag) : List V → Hp → VK → Prop := fun xs H Q => ∃ p ys, xs = [.ref p] ∧ (SqL K H p ys ∨ SqT K H p ys) ∧ Q (.int ys.length) H
theorem call_len_seqK (h : X.K = K) : CallR X (.builtin "len") (rLenK K) := h ▸ call_len_seq
theorem pe_bm0K {T : String} {name : Str} {id : String} {r : V → List V → Hp → VK → Prop} {o : Expr} {to : TE} {apos cpos : Pos} (h : X.K = K) (pa : PlainAttrs T) (slot : Slot T name id) (hty : typeOf (.builtin id) = pure (.type "method_descriptor")) (hm : MtR X id r) (ho : PE X o to)
    (hbase : attributeBase o name X.env (eval o X.env) = eval o X.env := by rfl) (hline : (apos.endLine == cpos.line) = true := by rfl) : PE X (.Call (.Attribute o name apos) [] [] cpos) (tBM0 K T r to) := h ▸ pe_bm0 pa slot hty hm ho hbase hline
end
end Lm

set_option Elab.async false
set_option linter.all false
set_option maxRecDepth 100000
set_option maxHeartbeats 2000000
namespace Lm
open PySem PySem.Spec PyProof.Rows L2 LmR
/-! ### programs -/
inductive Bw where
  | least
  | most
  | atmost
  | both
  | either
def Bw.str : Bw → Str
  | .least => "least"
  | .most => "most"
  | .atmost => "atmost"
  | .both => "both"
  | .either => "either"
/-- the kind due to its parts; its own (true: truth) -/
def Bw.arg : Bw → Bool
  | .least => false
  | .most => false
  | .atmost => false
  | .both => true
  | .either => true
def Bw.own : Bw → Bool
  | .least => false
  | .most => false
  | .atmost => true
  | .both => true
  | .either => true
inductive Pg where
  | inp (k : Nat)
  | num (c : Int)
  | tr (b : Bool)
  | plus (c : Int) (a : Pg)
  | bin (w : Bw) (a b : Pg)
  | neg (a : Pg)
  | ite (p a b : Pg)
def trS : Bool → Str
  | true => "yes"
  | false => "no"
def kS : Bool → Str
  | true => "truth"
  | false => "num"
def word : Pg → Str
  | .inp _ => "in"
  | .num _ => "num"
  | .tr b => trS b
  | .plus _ _ => "plus"
  | .bin w _ _ => w.str
  | .neg _ => "not"
  | .ite _ _ _ => "if"
def enc : Pg → PyData
  | .inp k => .tuple [.str "in", .int k]
  | .num c => .tuple [.str "num", .int c]
  | .tr b => .tuple [.str (trS b)]
  | .plus c a => .tuple [.str "plus", .int c, enc a]
  | .bin w a b => .tuple [.str w.str, enc a, enc b]
  | .neg a => .tuple [.str "not", enc a]
  | .ite p a b => .tuple [.str "if", enc p, enc a, enc b]
theorem flat_enc : ∀ p : Pg, flat (enc p) = true
  | .inp _ => rfl
  | .num _ => rfl
  | .tr _ => rfl
  | .plus c a => by simp [enc, flat, flat.flats, flat_enc a]
  | .bin w a b => by simp [enc, flat, flat.flats, flat_enc a, flat_enc b]
  | .neg a => by simp [enc, flat, flat.flats, flat_enc a]
  | .ite p a b => by simp [enc, flat, flat.flats, flat_enc a, flat_enc b, flat_enc p]
/-- its kind by itself -/
def own (ks : List Bool) : Pg → Bool
  | .inp k => ks.getD k false
  | .num _ => false
  | .tr _ => true
  | .plus _ _ => false
  | .bin w _ _ => w.own
  | .neg _ => true
  | .ite _ a _ => own ks a
/-- it is let by -/
def Wk (ks : List Bool) : Pg → Prop
  | .inp k => k < ks.length
  | .num _ => True
  | .tr _ => True
  | .plus _ a => Wk ks a ∧ own ks a = false
  | .bin w a b => Wk ks a ∧ Wk ks b ∧ own ks a = w.arg ∧ own ks b = w.arg
  | .neg a => Wk ks a ∧ own ks a = true
  | .ite p a b => Wk ks p ∧ Wk ks a ∧ Wk ks b ∧ own ks p = true ∧ own ks b = own ks a
def parts : Pg → List Pg
  | .inp _ => []
  | .num _ => []
  | .tr _ => []
  | .plus _ a => [a]
  | .bin _ a b => [a, b]
  | .neg a => [a]
  | .ite p a b => [p, a, b]
def psz : Pg → Nat
  | .inp _ => 1
  | .num _ => 1
  | .tr _ => 1
  | .plus _ a => psz a + 1
  | .bin _ a b => psz a + psz b + 1
  | .neg a => psz a + 1
  | .ite p a b => psz p + psz a + psz b + 1
def dep : Pg → Nat
  | .inp _ => 1
  | .num _ => 1
  | .tr _ => 1
  | .plus _ a => dep a + 1
  | .bin _ a b => max (dep a) (dep b) + 1
  | .neg a => dep a + 1
  | .ite p a b => max (dep p) (max (dep a) (dep b)) + 1
def kn : Pg → List Pg
  | .inp k => [.inp k]
  | .num c => [.num c]
  | .tr b => [.tr b]
  | .plus c a => .plus c a :: kn a
  | .bin w a b => .bin w a b :: (kn a ++ kn b)
  | .neg a => .neg a :: kn a
  | .ite p a b => .ite p a b :: (kn p ++ (kn a ++ kn b))
theorem kn_len : ∀ p : Pg, (kn p).length = psz p
  | .inp _ => rfl
  | .num _ => rfl
  | .tr _ => rfl
  | .plus c a => by simp [kn, psz, kn_len a]
  | .bin w a b => by simp [kn, psz, kn_len a, kn_len b]
  | .neg a => by simp [kn, psz, kn_len a]
  | .ite p a b => by simp [kn, psz, kn_len a, kn_len b, kn_len p]; omega
theorem psz_pos (p : Pg) : 1 ≤ psz p := by cases p <;> simp [psz]
theorem dep_pos (p : Pg) : 1 ≤ dep p := by cases p <;> simp [dep]
theorem dep_le : ∀ p : Pg, dep p ≤ psz p
  | .inp _ => Nat.le_refl _
  | .num _ => Nat.le_refl _
  | .tr _ => Nat.le_refl _
  | .plus c a => by have := dep_le a; simp only [dep, psz]; omega
  | .bin w a b => by have := dep_le a; have := dep_le b; simp only [dep, psz]; omega
  | .neg a => by have := dep_le a; simp only [dep, psz]; omega
  | .ite p a b => by have := dep_le a; have := dep_le b; have := dep_le p; simp only [dep, psz]; omega
theorem kn_eq (p : Pg) : kn p = p :: (parts p).flatMap kn := by cases p <;> simp [kn, parts]
theorem psz_eq (p : Pg) : psz p = 1 + ((parts p).map psz).sum := by cases p <;> simp [psz, parts] <;> omega
/-- the things behind its word, as they stand in the tuple -/
def front : Pg → List V
  | .inp k => [.str "in", .int k]
  | .num c => [.str "num", .int c]
  | .tr b => [.str (trS b)]
  | .plus c _ => [.str "plus", .int c]
  | .bin w _ _ => [.str w.str]
  | .neg _ => [.str "not"]
  | .ite _ _ _ => [.str "if"]
/-- the program p stands at v -/
def At (K : PySem.W.Frag) (H : Hp) (v : V) (p : Pg) : Prop := Dp K H v (enc p)
def Ats (K : PySem.W.Frag) (H : Hp) (vs : List V) (ps : List Pg) : Prop := DpAll K H vs (ps.map enc)
theorem At.fd {K : PySem.W.Frag} {H : Hp} {v : V} {p : Pg} (h : At K H v p) : Fd K H v (enc p) := ⟨flat_enc p, h⟩
theorem At.keep {K : PySem.W.Frag} {H H' : Hp} {v : V} {p : Pg} (h : At K H v p) (t : Tp K H H') : At K H' v p := dp_keep t _ _ (flat_enc p) h
theorem flats_encs : ∀ ps : List Pg, flat.flats (ps.map enc) = true
  | [] => rfl
  | p :: ps => by simp [flat.flats, flat_enc p, flats_encs ps]
theorem Ats.keep {K : PySem.W.Frag} {H H' : Hp} {vs : List V} {ps : List Pg} (h : Ats K H vs ps) (t : Tp K H H') : Ats K H' vs ps := dps_keep t _ _ (flats_encs ps) h
theorem Ats.nil {K : PySem.W.Frag} {H : Hp} : Ats K H [] [] := DpAll.nil
theorem Ats.cons {K : PySem.W.Frag} {H : Hp} {v : V} {vs : List V} {p : Pg} {ps : List Pg} (h : At K H v p) (t : Ats K H vs ps) : Ats K H (v :: vs) (p :: ps) := DpAll.cons h t
theorem Ats.app {K : PySem.W.Frag} {H : Hp} : ∀ {vs us : List V} {ps qs : List Pg}, Ats K H vs ps → Ats K H us qs → Ats K H (vs ++ us) (ps ++ qs)
  | [], _, [], _, _, b => b
  | v :: vs, _, p :: ps, _, a, b => by
    cases a with
    | cons h t => exact Ats.cons h (Ats.app (vs := vs) (ps := ps) t b)
  | [], _, p :: ps, _, a, _ => by cases a
  | v :: vs, _, [], _, a, _ => by cases a
theorem Ats.len {K : PySem.W.Frag} {H : Hp} : ∀ {vs : List V} {ps : List Pg}, Ats K H vs ps → vs.length = ps.length
  | [], [], _ => rfl
  | v :: vs, p :: ps, a => by
    cases a with
    | cons h t => rw [List.length_cons, List.length_cons, Ats.len (vs := vs) (ps := ps) t]
  | [], p :: ps, a => by cases a
  | v :: vs, [], a => by cases a
theorem Ats.get {K : PySem.W.Frag} {H : Hp} : ∀ {vs : List V} {ps : List Pg}, Ats K H vs ps → ∀ (j : Nat) (v : V), vs[j]? = some v → ∃ p, ps[j]? = some p ∧ At K H v p
  | [], [], _, j, v, h => by simp at h
  | u :: vs, p :: ps, a, 0, v, h => by
    cases a with
    | cons x t =>
      have e := Option.some.inj h
      subst e
      exact ⟨p, rfl, x⟩
  | u :: vs, p :: ps, a, j + 1, v, h => by
    cases a with
    | cons x t => exact Ats.get (vs := vs) (ps := ps) t j v h
  | [], p :: ps, a, _, _, _ => by cases a
  | v :: vs, [], a, _, _, _ => by cases a
/-- the tuple that it is -/
theorem At.open {K : PySem.W.Frag} {H : Hp} {v : V} {p : Pg} (h : At K H v p) : ∃ (a : Addr) (vs : List V), v = .ref a ∧ SqT K H a (front p ++ vs) ∧ Ats K H vs (parts p) := by
  cases p with
  | inp k =>
    cases h with
    | tup q r =>
      cases r with
      | cons r1 r =>
        cases r with
        | cons r2 r =>
          cases r
          cases r1
          cases r2
          exact ⟨_, [], rfl, q, .nil⟩
  | num c =>
    cases h with
    | tup q r =>
      cases r with
      | cons r1 r =>
        cases r with
        | cons r2 r =>
          cases r
          cases r1
          cases r2
          exact ⟨_, [], rfl, q, .nil⟩
  | tr b =>
    cases h with
    | tup q r =>
      cases r with
      | cons r1 r =>
        cases r
        cases r1
        exact ⟨_, [], rfl, q, .nil⟩
  | plus c a =>
    cases h with
    | tup q r =>
      cases r with
      | cons r1 r =>
        cases r with
        | cons r2 r =>
          cases r1
          cases r2
          exact ⟨_, _, rfl, q, r⟩
  | bin w a b =>
    cases h with
    | tup q r =>
      cases r with
      | cons r1 r =>
        cases r1
        exact ⟨_, _, rfl, q, r⟩
  | neg a =>
    cases h with
    | tup q r =>
      cases r with
      | cons r1 r =>
        cases r1
        exact ⟨_, _, rfl, q, r⟩
  | ite p a b =>
    cases h with
    | tup q r =>
      cases r with
      | cons r1 r =>
        cases r1
        exact ⟨_, _, rfl, q, r⟩
theorem Ats.one {K : PySem.W.Frag} {H : Hp} {vs : List V} {p : Pg} (h : Ats K H vs [p]) : ∃ v, vs = [v] ∧ At K H v p := by
  cases h with
  | cons a r =>
    cases r
    exact ⟨_, rfl, a⟩
theorem Ats.two {K : PySem.W.Frag} {H : Hp} {vs : List V} {p q : Pg} (h : Ats K H vs [p, q]) : ∃ u v, vs = [u, v] ∧ At K H u p ∧ At K H v q := by
  cases h with
  | cons a r =>
    cases r with
    | cons b r =>
      cases r
      exact ⟨_, _, rfl, a, b⟩
theorem Ats.three {K : PySem.W.Frag} {H : Hp} {vs : List V} {p q r : Pg} (h : Ats K H vs [p, q, r]) : ∃ u v w, vs = [u, v, w] ∧ At K H u p ∧ At K H v q ∧ At K H w r := by
  cases h with
  | cons a t =>
    cases t with
    | cons b t =>
      cases t with
      | cons c t =>
        cases t
        exact ⟨_, _, _, rfl, a, b, c⟩
/-! ### sums of sizes -/
theorem kn_le : ∀ (p q : Pg), q ∈ kn p → psz q ≤ psz p
  | .inp _, q, h => by simp [kn] at h; rw [h]; exact Nat.le_refl _
  | .num _, q, h => by simp [kn] at h; rw [h]; exact Nat.le_refl _
  | .tr _, q, h => by simp [kn] at h; rw [h]; exact Nat.le_refl _
  | .plus c a, q, h => by
    simp only [kn, List.mem_cons] at h
    rcases h with h | h
    · rw [h]; exact Nat.le_refl _
    · have := kn_le a q h; simp only [psz]; omega
  | .bin w a b, q, h => by
    simp only [kn, List.mem_cons, List.mem_append] at h
    rcases h with h | h | h
    · rw [h]; exact Nat.le_refl _
    · have := kn_le a q h; simp only [psz]; omega
    · have := kn_le b q h; simp only [psz]; omega
  | .neg a, q, h => by
    simp only [kn, List.mem_cons] at h
    rcases h with h | h
    · rw [h]; exact Nat.le_refl _
    · have := kn_le a q h; simp only [psz]; omega
  | .ite p a b, q, h => by
    simp only [kn, List.mem_cons, List.mem_append] at h
    rcases h with h | h | h | h
    · rw [h]; exact Nat.le_refl _
    · have := kn_le p q h; simp only [psz]; omega
    · have := kn_le a q h; simp only [psz]; omega
    · have := kn_le b q h; simp only [psz]; omega
theorem kn_wk (ks : List Bool) : ∀ (p q : Pg), Wk ks p → q ∈ kn p → Wk ks q
  | .inp _, q, w, h => by simp [kn] at h; rw [h]; exact w
  | .num _, q, w, h => by simp [kn] at h; rw [h]; exact w
  | .tr _, q, w, h => by simp [kn] at h; rw [h]; exact w
  | .plus c a, q, w, h => by
    simp only [kn, List.mem_cons] at h
    rcases h with h | h
    · rw [h]; exact w
    · exact kn_wk ks a q w.1 h
  | .bin _ a b, q, w, h => by
    simp only [kn, List.mem_cons, List.mem_append] at h
    rcases h with h | h | h
    · rw [h]; exact w
    · exact kn_wk ks a q w.1 h
    · exact kn_wk ks b q w.2.1 h
  | .neg a, q, w, h => by
    simp only [kn, List.mem_cons] at h
    rcases h with h | h
    · rw [h]; exact w
    · exact kn_wk ks a q w.1 h
  | .ite p a b, q, w, h => by
    simp only [kn, List.mem_cons, List.mem_append] at h
    rcases h with h | h | h | h
    · rw [h]; exact w
    · exact kn_wk ks p q w.1 h
    · exact kn_wk ks a q w.2.1 h
    · exact kn_wk ks b q w.2.2.1 h
end Lm

set_option Elab.async false
set_option linter.all false
set_option maxRecDepth 100000
set_option maxHeartbeats 2000000
namespace Lm
open PySem PySem.Spec PyProof.Rows L2 LmR
/-! ### a def called within an except suite, handed the exception -/
structure FnP (P : Program) (w : World) (K : PySem.W.Frag) (mg : Str → Option Value) (base : Heap) (p : Addr × Obj) (k : Nat) (f : Addr) (fd : FuncData) (ps : List Str) (sp : Sp) : Prop where
  len : ∀ vs H Q E, sp vs H Q E → vs.length = ps.length
  run : ∀ (A : Around) (outer : List Env) (s : Shared) (H : Hp) (args : Args) (us : List Value) (vs : List V) (Q : VK) (E : XK), L2H.RoomH k A → L2H.PinOk outer H s p → Env0 P w K mg base A outer s H → BindsTo s fd args (ps.zip us) → Vals vs us → sp vs H Q E →
    codeAny (model P w) A (.call (.ref f) args) (CR CX0 outer P w H s Q E) s
theorem fn_ofP {P : Program} {w : World} {K : PySem.W.Frag} {mg : Str → Option Value} {base : Heap} {k : Nat} {x : Str} {st : Stmt} {f : Addr} {fd : FuncData} {N ps : List Str} {sp : Sp} {p : Addr × Obj} (F : Fun K x x st f fd) (S : FnScope N ps (defScope st))
    (len : ∀ vs H Q E, sp vs H Q E → vs.length = ps.length)
    (hbody : ∀ (cdv : Value) (A : Around) (outer : List Env) (s : Shared) (H : Hp) (vs : List V) (Q : VK) (E : XK), L2H.RoomH k (A.deeper (envOfC x (defScope st) s.heap.objs.size f cdv)) → sp vs H Q E →
      ∃ t, PSs (L2H.cxH CX0 P w K mg base N x (defScope st) f cdv A outer s H E p) (defBody st) t ∧ t { nx := fun _ H' => Q .non H', rt := Q } (L2.start N vs) H) : FnP P w K mg base p (k + 1) f fd ps sp := by
  obtain ⟨oc, od, kV, doc, pm, an, cdv, ct, osl, rfl, lk, hcd⟩ := F.ex
  refine ⟨len, fun A outer s H args us vs Q E hr hpin e0 hb r hsp => ?_⟩
  have hl := len _ _ _ _ hsp
  have KX : K.In s.heap := e0.mod.kin.keeps fun b o e => (e0.bs b o e).1
  have lim : s.heap.NoLimit := e0.mod.nolimit.keeps fun b o e => (e0.bs b o e).1
  have hkind : ∀ y ∈ ps.zip us, (defScope st).names.lookup y.1 = some .local ∨ ((defScope st).names.lookup y.1 = some .cell ∧ ((cellsFrom (s.heap.objs.size + 1) (defScope st).names []).lookup y.1).isSome = true) := fun ⟨n, v⟩ hy => by
    rcases S.par n (List.of_mem_zip hy).1 with q | q
    · exact .inl q
    · exact .inr ⟨q, PySem.W.cellsFrom_some _ _ _ (.inl q)⟩
  refine codeAny_call_function hr.depth (KX _ _ lk) rfl S.co S.gen rfl (PySem.W.codeRec_of KX hcd) (hb _ _ _ _ ?_)
  refine wpAny_newFunctionEnv_cells S.kind hkind fun env he s1 y => ?_
  subst he
  refine ⟨lim.keeps y.toInCall.keep, codeAny_func ?_⟩
  obtain ⟨t, ht, hq⟩ := hbody cdv A outer s H vs Q E (hr.deeper _) hsp
  have I : Inv (L2H.cxH CX0 P w K mg base N x (defScope st) f cdv A outer s H E p) [] (L2.start N vs) H s1 := L2H.inv_startH S hpin e0 hl r y
  refine wpAny_mono (ht.run [] s1 (L2.start N vs) H _ I hq) (fun fl s' hs => ?_) fun e s' hs => hs
  have fin : ∀ {σ' : L2.St} {H' : Hp} {v : V} {u : Value}, Inv (L2H.cxH CX0 P w K mg base N x (defScope st) f cdv A outer s H E p) [] σ' H' s' → RelV v u → Q v H' → CE outer P w H s Q u s' :=
    fun {σ' H' v u} J rv q => ⟨v, H', J.os, J.bare, J.base, J.hok, rv, q⟩
  cases fl with
  | ret u =>
    obtain ⟨v, σ', H', J, rv, q⟩ := hs
    exact fin J rv q
  | next =>
    obtain ⟨σ', H', J, q⟩ := hs
    exact fin (v := V.non) (u := Value.none) J rfl q
  | brk =>
    obtain ⟨_, _, _, q⟩ := hs
    exact False.elim q
  | cont =>
    obtain ⟨_, _, _, q⟩ := hs
    exact False.elim q
theorem pe_callP {X : Cx} {k : Nat} {f : Addr} {fd : FuncData} {ps : List Str} {sp : Sp} {x : Str} {q pos : Pos} {e : Expr} {es : List Expr} {t : TA} {p : Addr × Obj} (F : FnP X.prog X.w X.K X.mg X.base p k f fd ps sp) (hr : L2H.RoomH k X.A) (hp : p ∈ X.pn) (hg : Gl X x) (hm : X.mg x = some (.ref f)) (hk : PySem.W.keepIn X.K (.ref f) = true) (hb : Binds X.K fd ps [])
    (ha : PA X (e :: es) t) (hdb : (x == ("__debug__" : Str)) = false := by decide) (he : starEach (e :: es) X.env = (false, eval e X.env) :: starEach es X.env := by rfl) (hpl : (backTo pos (starEach es X.env)).any (·.1) = false := by rfl) :
    PE X (.Call (.Name x q) (e :: es) [] pos) (tCall sp [] (fun _ _ _ => False) t) := by
  refine ⟨fun pins s σ H Q I h => ?_⟩
  refine wpAny_Call_Name_kw (ld_glob I hg hm ?_ hdb)
  refine PySem.W.callWith_K (h₀ := X.base) I.ok.mod.kin hk (thn (ha.run pos pins s σ H _ I h) fun us s1 ⟨vs, H1, I1, r, q⟩ => ⟨I1.kIn, ?_⟩) he hpl
  have q : sp vs H1 Q (fun _ _ _ => False) := by
    have z : sp (vs ++ []) H1 Q (fun _ _ _ => False) := q
    rw [List.append_nil] at z
    exact z
  have hl : us.length = ps.length := by rw [← r.length]; exact F.len _ _ _ _ q
  have b := hb s1 us I1.kIn (by rw [List.append_nil]; exact hl)
  rw [List.append_nil] at b
  have P1 := I1.pin p (List.mem_append_left _ hp)
  have hpin : L2H.PinOk X.stack H1 s1 p := ⟨P1.1, P1.2.1, fun hm => (List.mem_cons.mp (I1.stkSub p.1 hm)).elim P1.2.2.1 P1.2.2.2.1, P1.2.2.2.2⟩
  refine wpAny_call (codeAny_mono (F.run X.A X.stack s1 H1 ⟨us, []⟩ us vs Q (fun _ _ _ => False) hr hpin I1.env0 b r q) fun r s' hq => ?_)
  cases r with
  | error e => exact hq.elim
  | ok fl =>
    cases fl with
    | ret u => exact I1.after hq
    | next => exact False.elim hq
    | brk => exact False.elim hq
    | cont => exact False.elim hq
/-! ### isinstance of an exception that is pinned -/
structure ExK (K : PySem.W.Frag) (C : Addr) : Prop where
  cl : (PySem.W.clsIn K C).isSome = true
  ga : PySem.W.findIn K (.ref C) "__getattribute__" = some (some (.builtin "BaseException.__getattribute__"))
  gg : PySem.W.findIn K (.ref C) "__getattr__" = some none
  ex : PySem.W.subIn K (.ref C) (.type "BaseException") = some true
  ca : PySem.W.findIn K (.ref C) "__class__" = some (some (.builtin "object.__class__"))
  gn : PySem.W.specialIn K (.builtin "object.__class__") "__get__" = some (some (.builtin "getset_descriptor.__get__"))
  tk : PySem.W.takesIn K (.builtin "object.__class__") = some true
  ob : PySem.W.mroIn K C (.type "object") = some true
/-- isinstance(e, c), e the exception at a of the class at C -/
def rIsP (K : PySem.W.Frag) (C a : Addr) : List V → Hp → VK → Prop := fun xs H Q => ∃ (D : Addr) (b : Bool), xs = [.ref a, .ref D] ∧ PySem.W.kitOne K (.ref C) (.ref D) = some b ∧ Q (.bl b) H
theorem call_isP {X : Cx} {a C : Addr} {oe : Obj} {dct : Option Addr} (k : ExK X.K C) (hz : Zc (.ref C) dct oe) (hf : ∃ vs, oe.data = .fields vs) (hp : (a, oe) ∈ X.pn) (hd : ∀ pins σ H s, Inv X pins σ H s → ∃ od : Option Obj, PySem.W.InstAt s.heap a oe C od) : CallR X (.builtin "isinstance") (rIsP X.K C a) := by
  intro pins s σ H xs us Q I r h
  obtain ⟨D, b, rfl, e, q⟩ := h
  obtain ⟨u1, u2, rfl, r1, r2⟩ := vals2 r
  cases (show u1 = Value.ref a from r1)
  cases (show u2 = Value.ref D from r2)
  obtain ⟨od, J⟩ := hd pins σ H s I
  exact PySem.W.kia_one (PySem.W.kitx_exc k.cl k.ga k.gg k.ex k.ca k.gn k.tk k.ob) I.kIn J e (fun z => nomatch z) fun tk => ⟨.bl b, H, I.tok tk, rfl, q⟩
/-! ### xs.count(True) of truths -/
theorem mt_countB {X : Cx} : MtR X "list.count" (fun x xs H Q => ∃ (p : Addr) (bs : List Bool), x = .ref p ∧ xs = [.bl true] ∧ SqL X.K H p (bs.map V.bl) ∧ Q (.int (bs.count true : Nat)) H) := by
  intro pins s σ H x xs v us Q I rx rxs h
  obtain ⟨p, bs, rfl, rfl, hs, q⟩ := h
  cases rx
  obtain ⟨u, rfl, ru⟩ := rxs.one
  cases (show u = Value.bool true from ru)
  obtain ⟨its, rv, ⟨⟨cls, dd, data, sl⟩, n, ho, hc, hdn, hd⟩, hlen⟩ := I.list hs
  simp only at hc hd
  subst hc hd
  have key : ∀ (bs : List Bool) (its : List Value), Vals (bs.map V.bl) its → its = bs.map Value.bool := by
    intro bs
    induction bs with
    | nil => intro its r; cases r; rfl
    | cons b bs ih =>
      intro its r
      cases r with
      | cons a r =>
        rename_i u us'
        rw [List.map_cons, ih us' r]
        congr 1
  have ei := key bs its rv
  subst ei
  let g : Value → Bool := fun y => y == .bool true
  refine call_meets PySem.F.slot_list_count ⟨_, ho, rfl⟩ PySem.F.entry_list_count (PySem.F.args_list_count_2 _ _)
    (SeqAt.list_countAt p (bs.map Value.bool).toArray n dd sl (.bool true) g) ⟨ho, fun y hy => ?_, ?_⟩
  · have hy' : y ∈ bs.map Value.bool := by simpa using hy
    obtain ⟨b, _, rfl⟩ := List.mem_map.mp hy'
    have eg : g (.bool b) = eqV (.bl b) (.bl true) := by cases b <;> rfl
    rw [eg]
    exact eqAt_V (y := .bl b) (x := .bl true) rfl rfl rfl rfl
  · have ec : ((bs.map Value.bool).toArray.toList.countP g) = bs.count true := by
      show (bs.map Value.bool).countP g = _
      rw [List.countP_map]
      unfold List.count
      congr 1
      funext b
      cases b <;> rfl
    refine ⟨.int (bs.count true : Nat), H, I.tok _, ⟨s.toks, ?_⟩, q⟩
    show Value.int (((bs.map Value.bool).toArray.toList.countP g : Nat) : Int) s.toks = Value.int ((bs.count true : Nat) : Int) s.toks
    rw [ec]
end Lm

set_option Elab.async false
set_option linter.all false
set_option maxRecDepth 100000
set_option maxHeartbeats 2000000
namespace Lm
open PySem PySem.Spec PyProof.Rows L2 LmR
abbrev oEnum (a : Addr) : Obj := { cls := .type "enumerate", data := .fields #[.none, .bool false, .ref a, rawInt 0, .none, .none] }
/-- enumerate(v): two new cells -/
theorem enum_new1 {v : Value} {o : Obj} {G : Heap → Prop} (B : Begins v o G) :
    Meets (Builtin.«enumerate.__new__» ⟨[.type "enumerate", v], []⟩) (fun _ R s => G s.heap ∧ R (.ok (.ret (.ref (s.heap.push o).objs.size))) { s with heap := (s.heap.push o).push (oEnum s.heap.objs.size) }) :=
  .of_wp fun prog w A R s hh => by
    obtain ⟨hp, g, d, tk, os⟩ := s
    obtain ⟨hG, hR⟩ := hh
    have hsub := sub_enumerate
    have go : ∀ {A' : Around} {E : Value → Shared → Prop} {Q : Value → Shared → Prop}, Q (.ref hp.objs.size) ⟨hp.push o, g, d, tk, os⟩ → wpAny (model prog w) A' (pyIter v) Q E ⟨hp, g, d, tk, os⟩ :=
      fun q => B.iter prog w _ _ _ _ hG q
    wp_walk using go
    refine wpAny_stack_any fun st => wpAny_pure ?_
    split
    · rename_i c _ _ _ _ _
      cases (c == Value.type "enumerate") <;> (wp_walk using go; exact ⟨_, rfl, hR⟩)
    · wp_walk using go
      exact ⟨_, rfl, hR⟩
theorem enum_call1 {prog : Program} {w : World} {A : Around} {E : Value → Shared → Prop} {s : Shared} {v : Value} {o : Obj} {G : Heap → Prop} {Q : Value → Shared → Prop} (B : Begins v o G) (hG : G s.heap)
    (hQ : ∀ h2, IsEnum h2 (s.heap.objs.size + 1) s.heap.objs.size 0 .none → h2.get? s.heap.objs.size = some o → (∀ b ob, s.heap.get? b = some ob → h2.get? b = some ob) → Q (.ref (s.heap.objs.size + 1)) { s with heap := h2 }) :
    wpAny (model prog w) A (call (.type "enumerate") [v]) Q E s := by
  refine callType_new F.called_enumerate (by decide) (F.typeCall_enumerate_1 _) (F.newCall_enumerate_1 _) (fun obj => F.args_object_init_2 obj _) F.entry_enumerate_new (enum_new1 B) ⟨hG, ?_⟩
  have z : (s.heap.push o).objs.size = s.heap.objs.size + 1 := Heap.size_push ..
  show _ ∧ _
  rw [z]
  have he : IsEnum ((s.heap.push o).push (oEnum s.heap.objs.size)) (s.heap.objs.size + 1) s.heap.objs.size 0 .none := by
    have y := Heap.get?_push_size (s.heap.push o) (o := oEnum s.heap.objs.size) rfl
    rw [z] at y
    exact y
  exact ⟨⟨_, he, rfl⟩, hQ _ he (Heap.get?_push_of_some _ (Heap.get?_push_size _ B.free)) fun b ob x => Heap.get?_push_of_some _ (Heap.get?_push_of_some _ x)⟩
theorem enum_over {prog : Program} {w : World} {A : Around} {E : Value → Shared → Prop} {s : Shared} {e it a : Addr} {i : Nat} {items : Array Value} {c : Int} {old : Value} {Q : Option Value → Shared → Prop} (hd : A.handled = none)
    (he : IsEnum s.heap e it c old) (hit : s.heap.IsTupleIter it a i) (ht : s.heap.IsTuple a items) (hx : items[i]? = none) (hQ : ∀ h2, Heap.ExtBut it s.heap h2 → Q none { s with heap := h2 }) : wpAny (model prog w) A (pyNext (.ref e)) Q E s := by
  have D : Draws prog w A.in1 it [it, a] i (fun _ _ => True) (fun j h => j = i ∧ h.IsTupleIter it a i ∧ h.IsTuple a items) :=
    { live := fun _ _ st => by obtain ⟨_, ⟨o, ho, _⟩, _⟩ := st; exact ⟨o, ho⟩
      frame := fun _ _ _ st hk => ⟨st.1, st.2.1.at fun o q => hk it (by simp) o q, st.2.2.at fun o q => hk a (by simp) o q⟩
      item := fun j s Q E hj st _ => absurd st.1 (Nat.ne_of_lt hj)
      done := fun s Q E st hE => wpAny_nextOf_tuple_end (by first | exact hd | (show A.in1.handled = none; exact hd)) st.2.1 st.2.2 hx hE }
  exact wpAny_pyNext_enum_endD D he ⟨rfl, hit, ht⟩ hQ
/-- the tuple at a: each item, its number ahead of it, in a new pair -/
def IteT (K : PySem.W.Frag) (a : Addr) : It :=
  ⟨fun i H => ∃ (xs : List V) (x : V), SqT K H a xs ∧ xs[i]? = some x,
    fun i H v H' => ∃ T x, v = .ref T ∧ H T = none ∧ H' = upd H T (.tup [.int (i : Nat), x]) ∧ ∀ xs, SqT K H a xs → xs[i]? = some x,
    fun i H => ∃ xs : List V, SqT K H a xs ∧ xs.length ≤ i⟩
theorem turn_enumT {P : Program} {w : World} {K : PySem.W.Frag} {elts : List Expr} {kk : Nat} {tpos : Pos} (a e it : Addr) :
    Turn P w K (.Tuple elts kk tpos) (IteT K a) [e, it] e (fun i h => (∃ old, IsEnum h e it ((i : Nat) : Int) old) ∧ h.IsTupleIter it a i ∧ e ≠ it ∧ a ≠ e ∧ a ≠ it) where
  mem := by simp
  obj := fun i h st b hb => by
    obtain ⟨⟨old, he⟩, ⟨o, ho, hc, hd⟩, _⟩ := st
    have e' : b = e ∨ b = it := by simpa using hb
    rcases e' with z | z
    · rw [z]; exact ⟨_, he, fun v q => nomatch q⟩
    · rw [z]; exact ⟨o, ho, fun v q => by rw [hd] at q; cases q⟩
  keep := fun i h h' st k => by
    obtain ⟨⟨old, he⟩, hi, r⟩ := st
    exact ⟨⟨old, k e (by simp) _ he⟩, hi.at fun o q => k it (by simp) o q, r⟩
  item := by
    intro X hP hw hK hc i pins s σ H E I hf st hg
    subst hP hw hK
    obtain ⟨⟨old, he⟩, hit, hne, hae, hai⟩ := st
    obtain ⟨xs, x, hq, hx⟩ := hg
    obtain ⟨its, rv, p, hz⟩ := I.tuple hq
    obtain ⟨u, hu, ru⟩ := rv.get hx
    have ht : s.heap.IsTuple a its.toArray := p
    have hel : e < s.heap.objs.size := Heap.lt_size he
    have hil : it < s.heap.objs.size := by obtain ⟨_, q, _⟩ := hit; exact Heap.lt_size q
    have D := Draws.tuple (prog := X.prog) (w := X.w) (A := X.A.in1) (I.ok.hd hc) it a hai its.toArray
    have hlt : i < its.toArray.size := by
      have z : i < its.length := (List.getElem?_eq_some_iff.mp hu).1
      simpa using z
    refine wpAny_pyNext_enum_itemD D he ⟨hit, ht⟩ hlt hne (by simp [hne, Ne.symm hae]) fun y h' tk hy ho hst hT hsz hk => ?_
    have ey : y = u := by
      have z : its[i]? = some y := by simpa using hy
      rw [hu] at z
      exact (Option.some.inj z).symm
    subst ey
    refine ⟨_, rfl, wpAny_letOwnedTupleGo_enum (s := { s with heap := h', toks := tk + 1 }) ho fun h'' he' sb => ?_⟩
    have hT2 : h''.get? s.heap.objs.size = some { cls := .type "tuple", data := .seq #[.int i tk, y] } := (sb.2 _ (Nat.ne_of_gt hel)).trans hT
    have new : ObjOk X.prog X.w (upd H s.heap.objs.size (.tup [.int (i : Nat), x])) h'' s.heap.objs.size (.tup [.int (i : Nat), x]) :=
      ⟨by show 2 ≤ sizeLine; decide, [.int i tk, y], .cons ⟨_, rfl⟩ (.cons ru .nil), ⟨_, hT2, rfl, _, rfl⟩⟩
    have I1 : Inv X pins σ (upd H s.heap.objs.size (.tup [.int (i : Nat), x])) { s with heap := h'', toks := tk + 1 } :=
      I.turnedNew (ch := [e, it]) (fun b ob hb q => (sb.2 b (fun z => hb (by simp [z]))).trans (hk b ob (fun z => hb (by simp [z])) (fun z => hb (by simp [z])) q)) hf (Nat.le_refl _) new
    have fr : H s.heap.objs.size = none := I.hok.fresh (Nat.le_refl _)
    refine ⟨.ref s.heap.objs.size, _, I1, rfl, ⟨_, x, rfl, fr, rfl, fun ys hy => by rw [I.tuple_inj hy hq]; exact hx⟩, ⟨⟨y, ?_⟩, hst.1.at fun o q => (sb.2 it (Ne.symm hne)).trans q, hne, hae, hai⟩, fun b hb => ?_⟩
    · have e1 : ((i + 1 : Nat) : Int) = (i : Int) + 1 := by omega
      rw [e1]; exact he'
    · have e' : b = e ∨ b = it := by simpa using hb
      have hb' : b < s.heap.objs.size := by rcases e' with z | z <;> rw [z] <;> assumption
      rw [upd_ne (Nat.ne_of_lt hb')]
      exact (hf b hb).1
  done := by
    intro X hP hw hK hc i pins s σ H E I hf st hg
    subst hP hw hK
    obtain ⟨⟨old, he⟩, hit, hne, hae, hai⟩ := st
    obtain ⟨xs, hq, hx⟩ := hg
    obtain ⟨its, rv, p, hz⟩ := I.tuple hq
    have ht : s.heap.IsTuple a its.toArray := p
    obtain ⟨f0, f1, f2, f3, f4, f5⟩ := hf it (by simp)
    have hl := rv.length
    have hT : s.TypeIs (.ref e) "enumerate" := ⟨_, he, rfl⟩
    refine enum_over (I.ok.hd hc) he hit ht (by simp; omega) fun h' eb => ⟨rfl, I.turned (t' := s.toks) (fun b o hb q => eb b o hb q) f0 f1 f3 f4 f5⟩
  self := fun A i s Q E st h => by
    obtain ⟨⟨_, he⟩, _⟩ := st
    exact wpAny_pyIter_enum he h
def iEnumT (K : PySem.W.Frag) (ta : TA) : TI := fun σ H R => ta σ H fun vs H1 => ∃ a xs, vs = [.ref a] ∧ SqT K H1 a xs ∧ R (IteT K a) H1
theorem pi_enumT {X : Cx} {e : Expr} {ta : TA} {p pos tpos : Pos} {elts : List Expr} {kk : Nat} (hg : Gl X "enumerate") (hm : X.mg "enumerate" = none) (ha : PA X [e] ta) (hs : starEach [e] X.env = [(false, eval e X.env)] := by rfl) :
    PI X (.Tuple elts kk tpos) (.Call (.Name "enumerate" p) [e] [] pos) (iEnumT X.K ta) := by
  refine ⟨fun pins s σ H R I h => ?_⟩
  refine Call_ (ld_blt I hg hm boot_enumerate (PyProof.Rows.callWith_type1 (thn (ha.run pos pins s σ H _ I h) fun us s1 ⟨vs, H1, I1, r1, q1⟩ => ?_) hs rfl))
  obtain ⟨a, xs, ex, hq, q⟩ := q1
  subst ex
  cases r1 with
  | cons r rr =>
    cases rr
    cases r
    obtain ⟨its, rv, pt, hz⟩ := I1.tuple hq
    have ht : s1.heap.IsTuple a its.toArray := pt
    have hal : a < s1.heap.objs.size := by obtain ⟨_, q, _⟩ := ht; exact Heap.lt_size q
    refine enum_call1 (begins_tuple a its.toArray) ht fun h2 he hit hk => wpAny_pyIter_enum he ?_
    have I2 : Inv X pins σ H1 { s1 with heap := h2 } := I1.kept (t' := s1.toks) hk
    refine ⟨s1.heap.objs.size + 1, [s1.heap.objs.size + 1, s1.heap.objs.size], _, _, H1, rfl, I2, turn_enumT a (s1.heap.objs.size + 1) s1.heap.objs.size, ⟨⟨.none, he⟩, ⟨_, hit, rfl, rfl⟩, Nat.succ_ne_self _, Nat.ne_of_lt (Nat.lt_succ_of_lt hal), Nat.ne_of_lt hal⟩, fun b hb => ?_, q⟩
    have e' : b = s1.heap.objs.size + 1 ∨ b = s1.heap.objs.size := by simpa using hb
    have hle : s1.heap.objs.size ≤ b := by rcases e' with z | z <;> rw [z] <;> first | exact Nat.le_succ _ | exact Nat.le_refl _
    exact I1.fpOk hle (I1.hok.fresh hle)
end Lm

set_option Elab.async false
set_option linter.all false
set_option maxRecDepth 100000
set_option maxHeartbeats 2000000
namespace Lm
open PySem PySem.Spec PyProof.Rows L2 LmR
/-! ### defs that may refuse -/
def CalX (P : Program) (w : World) (K : PySem.W.Frag) (mg : Str → Option Value) (base : Heap) (k : Nat) (x : Str) (ps : List Str) (sp : Sp) : Prop :=
  ∃ f fd, FnOk P w K mg base (L2.CX P w) k f fd ps sp ∧ mg x = some (.ref f) ∧ PySem.W.keepIn K (.ref f) = true ∧ Binds K fd ps [] ∧ ∃ st, Fun K x x st f fd
section
variable {P : Program} {w : World} {K : PySem.W.Frag} {mg : Str → Option Value} {base : Heap}
theorem calx_of {x : Str} {st : Stmt} {N ps : List Str} {k : Nat} {sp : Sp} (D : DefAt K mg x st ps) (S : FnScope N ps (defScope st)) (len : ∀ vs H Q E, sp vs H Q E → vs.length = ps.length)
    (hbody : ∀ (f : Addr) (cdv : Value) (A : Around) (outer : List Env) (s : Shared) (H : Hp) (vs : List V) (Q : VK) (E : XK), Room k (A.deeper (envOfC x (defScope st) s.heap.objs.size f cdv)) → sp vs H Q E →
      ∃ t, PSs (cxOf (L2.CX P w) P w K mg base N x (defScope st) f cdv A outer s H E) (defBody st) t ∧ t { nx := fun _ H' => Q .non H', rt := Q } (start N vs) H) : CalX P w K mg base (k + 1) x ps sp := by
  obtain ⟨f, fd, F, b, g⟩ := D
  exact ⟨f, fd, F.okX S len (hbody f), g, F.kp, b, _, F⟩
end
theorem pe_calX {X : Cx} {W : WX} {k : Nat} {x : Str} {ps : List Str} {sp : Sp} {e : Expr} {es : List Expr} {t : TA} {p pos : Pos} (C : CalX X.prog X.w X.K X.mg X.base k x ps sp) (tk : Takes X W) (hr : Room k X.A) (hg : Gl X x) (ha : PA X (e :: es) t)
    (hdb : (x == ("__debug__" : Str)) = false := by decide) (he : starEach (e :: es) X.env = (false, eval e X.env) :: starEach es X.env := by rfl) (hpl : (backTo pos (starEach es X.env)).any (·.1) = false := by rfl) :
    PE X (.Call (.Name x p) (e :: es) [] pos) (tCallS sp (WE W) t) := by
  obtain ⟨f, fd, F, g, kp, b, _⟩ := C
  exact pe_callS F hr hg g kp b (fun σ => passAt tk σ) ha hdb he hpl
/-! ### classes of refusals -/
/-- the class x at C, its __init__ (st) keeps the fields fs -/
structure Rf (K : PySem.W.Frag) (mg : Str → Option Value) (x q : Str) (C fI : Addr) (fd : FuncData) (st : Stmt) (fs : List Str) : Prop where
  g : mg x = some (.ref C)
  o : OexC K C
  f : XfC K C
  k : ExK K C
  te : PySem.W.exmOne K (.ref C) (.ref C) = some true
  fld : ∀ n ∈ fs, PySem.W.findIn K (.ref C) n = some none
  iC : PySem.W.findIn K (.ref C) "__init__" = some (some (.ref fI))
  tI : PySem.W.typeIn K (.ref fI) = some (.type "function")
  F : Fun K "__init__" q st fI fd
  b : Binds K fd ("self" :: fs) []
/-- __init__(self, f, g) -/
def spIni2 (C : Addr) (f g : Str) : Sp := fun vs H Q E => ∃ a x y, vs = [.ref a, x, y] ∧ H a = some (exo a C none) ∧
  ∀ (d : Addr) (H' : Hp), H d = none → H' a = some (exo a C (some d)) → H' d = some (exd d [(g, y), (f, x)]) → (∀ b, b ≠ a → b ≠ d → H' b = H b) → Q .non H'
def spIni1 (C : Addr) (f : Str) : Sp := fun vs H Q E => ∃ a x, vs = [.ref a, x] ∧ H a = some (exo a C none) ∧
  ∀ (d : Addr) (H' : Hp), H d = none → H' a = some (exo a C (some d)) → H' d = some (exd d [(f, x)]) → (∀ b, b ≠ a → b ≠ d → H' b = H b) → Q .non H'
/-- what refusing leaves: the fields at d, all else as it was -/
def Raised (H H' : Hp) (d : Addr) (fs : List (Str × V)) : Prop := H d = none ∧ H' d = some (.xd fs) ∧ ∀ b, b ≠ d → H' b = H b
theorem Raised.same {H H' : Hp} {d : Addr} {fs : List (Str × V)} (r : Raised H H' d fs) : Same H H' := fun b o e => by
  have n : b ≠ d := fun z => by rw [z, r.1] at e; cases e
  rw [r.2.2 b n]; exact e
theorem mk_two {C : Addr} {f g : Str} {x y : V} {H : Hp} {Q : XK} (hq : ∀ d H', Raised H H' d [(g, y), (f, x)] → Q (.ref C) (some d) H') :
    [x, y].length ≤ 1000 ∧ ∀ a, H a = none → spIni2 C f g (.ref a :: ([x, y] ++ [])) (upd H a (exo a C none))
      (fun v H2 => v = .non ∧ ∃ (d : Addr) (fs : List (Str × V)), H2 a = some (exo a C (some d)) ∧ H2 d = some (exd d fs) ∧ H d = none ∧ Q (.ref C) (some d) (upd (del H2 a) d (.xd fs))) (fun _ _ _ => False) := by
  refine ⟨by show 2 ≤ 1000; decide, fun a ha => ⟨a, x, y, rfl, upd_same, fun d H' hd h1 h2 h3 => ⟨rfl, d, _, h1, h2, ?_, hq d _ ⟨?_, upd_same, fun b hb => ?_⟩⟩⟩⟩
  all_goals
    have nd : d ≠ a := fun z => by rw [z, upd_same] at hd; cases hd
  · rw [upd_ne nd] at hd; exact hd
  · rw [upd_ne nd] at hd; exact hd
  · rw [upd_ne hb]
    by_cases z : b = a
    · rw [z, del_same, ha]
    · rw [del_ne z, h3 b z hb, upd_ne z]
theorem mk_one {C : Addr} {f : Str} {x : V} {H : Hp} {Q : XK} (hq : ∀ d H', Raised H H' d [(f, x)] → Q (.ref C) (some d) H') :
    [x].length ≤ 1000 ∧ ∀ a, H a = none → spIni1 C f (.ref a :: ([x] ++ [])) (upd H a (exo a C none))
      (fun v H2 => v = .non ∧ ∃ (d : Addr) (fs : List (Str × V)), H2 a = some (exo a C (some d)) ∧ H2 d = some (exd d fs) ∧ H d = none ∧ Q (.ref C) (some d) (upd (del H2 a) d (.xd fs))) (fun _ _ _ => False) := by
  refine ⟨by show 1 ≤ 1000; decide, fun a ha => ⟨a, x, rfl, upd_same, fun d H' hd h1 h2 h3 => ⟨rfl, d, _, h1, h2, ?_, hq d _ ⟨?_, upd_same, fun b hb => ?_⟩⟩⟩⟩
  all_goals
    have nd : d ≠ a := fun z => by rw [z, upd_same] at hd; cases hd
  · rw [upd_ne nd] at hd; exact hd
  · rw [upd_ne nd] at hd; exact hd
  · rw [upd_ne hb]
    by_cases z : b = a
    · rw [z, del_same, ha]
    · rw [del_ne z, h3 b z hb, upd_ne z]
theorem pass_no {X : Cx} : Passes (L2.CX X.prog X.w) X (fun _ _ _ => False) := fun _ _ _ _ _ _ _ c => by
  obtain ⟨_, _, _, _, _, _, _, _, _, _, _, _, z⟩ := c
  exact z.elim
/-- raise x(e, ..) -/
theorem ps_ref {X : Cx} {W : WX} {x q : Str} {C fI : Addr} {fd : FuncData} {st : Stmt} {fs : List Str} {sp : Sp} {k : Nat} {e : Expr} {es : List Expr} {ta : TA} {p pos pos' : Pos} (R : Rf X.K X.mg x q C fI fd st fs) (F : FnOk X.prog X.w X.K X.mg X.base (L2.CX X.prog X.w) k fI fd ("self" :: fs) sp) (hr : Room (k + 1) X.A)
    (hc : X.calm = true) (tk : Takes X W) (hg : Gl X x) (ha : PA X (e :: es) ta)
    (hdb : (x == ("__debug__" : Str)) = false := by decide) (he : starEach (e :: es) X.env = (false, eval e X.env) :: starEach es X.env := by rfl) (hpl : (backTo pos (starEach es X.env)).any (·.1) = false := by rfl) :
    PS X (.Raise (some (.Call (.Name x p) (e :: es) [] pos)) none pos') (fun _ σ H => tMkO C sp [] ta σ H fun cls d H' => W cls d σ H') :=
  ps_raise hc tk (pmk_oex R.o R.iC R.tI F hr R.b .nil pass_no hg R.g ha hdb he hpl)
end Lm
namespace Lm
open PySem PySem.Spec PyProof.Rows L2 LmR
/-! ### x not in a tuple of texts, x any flat data -/
def strIn (ss : List Str) : PyData → Bool
  | .str s => ss.any fun y => y == s
  | _ => false
def rNotInD (K : PySem.W.Frag) : R2 := fun x y H Q => ∃ (p : Addr) (ss : List Str) (d : PyData), y = .ref p ∧ SqT K H p (ss.map V.str) ∧ Fd K H x d ∧ Q (.bl (!strIn ss d)) H
theorem all_str : ∀ ss : List Str, (ss.map V.str).all flatV = true
  | [] => rfl
  | _ :: ss => by rw [List.map_cons, List.all_cons, all_str ss]; rfl
theorem inV_str (ss : List Str) (x : V) (d : PyData) (h : ∀ y : Str, eqV (.str y) x = strIn [y] d) : inV x (ss.map V.str) = strIn ss d := by
  unfold inV
  induction ss with
  | nil => cases d <;> rfl
  | cons s ss ih =>
    rw [List.map_cons, List.any_cons, ih, h s]
    cases d with
    | str z => simp [strIn]
    | _ => rfl
theorem op_notInD {X : Cx} {K : PySem.W.Frag} (hK : X.K = K) (hu : X.A.units + 1 < cLine) : OpR X (compareOp .NotIn) (rNotInD K) := by
  subst hK
  intro pins s σ H x y v u Q I rx ry h
  obtain ⟨p, ss, d, rfl, hq, ⟨fd, hd⟩, q⟩ := h
  by_cases ht : ∃ ds, d = .tuple ds
  · obtain ⟨ds, rfl⟩ := ht
    cases hd with
    | tup qa r =>
      rename_i a vs
      cases rx
      cases ry
      obtain ⟨its, rv, pl, hz⟩ := I.tuple hq
      obtain ⟨itz, rz, plz, hzz⟩ := I.tuple qa
      refine SeqAt.notIn_tupleAt (fun _ => false) pl (fun w hw => ?_) ⟨.bl _, H, I, rfl, ?_⟩
      · have hw' : w ∈ its := by simpa using hw
        have st : ∀ (ss : List Str) (its : List Value), Vals (ss.map V.str) its → ∀ w ∈ its, ∃ b t, w = .str b t := by
          intro ss
          induction ss with
          | nil => intro its r w hw; cases r; cases hw
          | cons z ss ih =>
            intro its r w hw
            cases r with
            | cons ra rb =>
              rcases List.mem_cons.mp hw with e | e
              · obtain ⟨t, et⟩ := ra
                exact ⟨z, t, e.trans et⟩
              · exact ih _ rb w e
        obtain ⟨b, t, rfl⟩ := st ss its rv w hw'
        exact SeqAt.EqAt.str_tuple b t plz (by first | exact hu | (show X.A.units + 1 < cLine; exact hu) | (have := hu; omega))
      · have e : (!(its.toArray.any fun _ => false)) = !strIn ss (.tuple ds) := by simp [strIn]
        rw [e]
        exact q
  · have fx : flatV x = true ∧ ∀ y : Str, eqV (.str y) x = strIn [y] d := by
      cases hd with
      | non => exact ⟨rfl, fun _ => rfl⟩
      | bl b => exact ⟨rfl, fun _ => rfl⟩
      | int i => exact ⟨rfl, fun _ => rfl⟩
      | str z => exact ⟨rfl, fun y => by simp [strIn, eqV]⟩
      | lst q r => simp [flat] at fd
      | tup q r => exact absurd ⟨_, rfl⟩ ht
    refine op_notIn_seq pins s σ H x _ v u Q I rx ry ⟨p, _, rfl, .inr hq, fx.1, all_str ss, ?_⟩
    rw [if_pos rfl, inV_str ss x d fx.2]
    exact q
/-! ### for i, x in enumerate(tuple) -/
theorem for_enumT {K : PySem.W.Frag} {a : Addr} {xs : List V} {g : TG} {tb : TS} {D : Ends} {σ : L2.St} {H : Hp} (Pv : Nat → L2.St → Hp → Prop) (h0 : Pv 0 σ H) (hq : ∀ i σ H, Pv i σ H → SqT K H a xs)
    (hstep : ∀ i x σ H T, xs[i]? = some x → Pv i σ H → H T = none → g (.ref T) σ (upd H T (.tup [.int (i : Nat), x])) fun σ2 H2 => tb { D with nx := Pv (i + 1), ct := Pv (i + 1), bk := D.nx } σ2 H2)
    (hend : ∀ σ H, Pv xs.length σ H → D.nx σ H) :
    ∃ W : Nat → Nat → L2.St → Hp → Prop, (∃ m, W 0 m σ H) ∧ ∀ i m σ H, W i m σ H →
      ((IteT K a).stop i H ∧ D.nx σ H) ∨ ((IteT K a).go i H ∧ ∃ N : L2.St → Hp → Prop, (∀ σ' H', N σ' H' → ∃ m', m' < m ∧ W (i + 1) m' σ' H') ∧ ∀ x H', (IteT K a).yld i H x H' → g x σ H' fun σ2 H2 => tb { D with nx := N, ct := N, bk := D.nx } σ2 H2) := by
  refine ⟨fun i m σ H => i ≤ xs.length ∧ m = xs.length - i ∧ Pv i σ H, ⟨_, Nat.zero_le _, rfl, h0⟩, fun i m σ H ⟨hi, hm, hp⟩ => ?_⟩
  have hs := hq i σ H hp
  rcases Nat.lt_or_ge i xs.length with hlt | hge
  · obtain ⟨x, hx⟩ : ∃ x, xs[i]? = some x := ⟨xs[i], List.getElem?_eq_getElem hlt⟩
    refine .inr ⟨⟨xs, x, hs, hx⟩, Pv (i + 1), fun σ' H' h' => ⟨xs.length - (i + 1), by omega, hlt, rfl, h'⟩, ?_⟩
    rintro y H' ⟨T, z, rfl, hT, rfl, hz⟩
    have e := hz xs hs
    rw [hx] at e
    cases e
    exact hstep i x σ H T hx hp hT
  · have e : i = xs.length := Nat.le_antisymm hi hge
    refine .inl ⟨⟨xs, hs, hge⟩, hend σ H (e ▸ hp)⟩
/-- the defs within a class -/
def clsBody : Stmt → List Stmt
  | .ClassDef _ _ _ b _ _ _ _ _ _ _ => b
  | _ => []
end Lm
namespace Lm
open PySem PySem.Spec PyProof.Rows L2 LmR
/-- isinstance(e, c), e the exception at a, of the class at C, its fields at dd -/
def rIsX (K : PySem.W.Frag) (C a dd : Addr) : List V → Hp → VK → Prop := fun xs H Q => ∃ (D : Addr) (b : Bool), xs = [.ref a, .ref D] ∧ PySem.W.kitOne K (.ref C) (.ref D) = some b ∧ (∃ fs, H dd = some (.xd fs)) ∧ Q (.bl b) H
theorem call_isX {X : Cx} {a C dd : Addr} {oe : Obj} (k : ExK X.K C) (hz : Zc (.ref C) (some dd) oe) (hf : ∃ vs, oe.data = .fields vs) (hp : (a, oe) ∈ X.pn) : CallR X (.builtin "isinstance") (rIsX X.K C a dd) := by
  intro pins s σ H xs us Q I r h
  obtain ⟨D, b, rfl, e, ⟨fs, ea⟩, q⟩ := h
  obtain ⟨u1, u2, rfl, r1, r2⟩ := vals2 r
  cases (show u1 = Value.ref a from r1)
  cases (show u2 = Value.ref D from r2)
  obtain ⟨ha, _⟩ := I.pin (a, oe) (List.mem_append_left _ hp)
  obtain ⟨vs, hd⟩ := hf
  have hx : ObjOk X.prog X.w H s.heap dd (.xd fs) := I.hok dd _ ea
  obtain ⟨mA, hns, hr⟩ := hx
  obtain ⟨od, ho, hl⟩ := lookIn_ns hns
  have J : PySem.W.InstAt s.heap a oe C (some od) := ⟨ha, hz.1, by unfold PySem.W.notCls; rw [hd] <;> rfl, by rw [hz.2]; exact ho⟩
  exact PySem.W.kia_one (PySem.W.kitx_exc k.cl k.ga k.gg k.ex k.ca k.gn k.tk k.ob) I.kIn J e (fun z => nomatch z) fun tk => ⟨.bl b, H, I.tok tk, rfl, q⟩
/-- the twelve classes, and of which of them the class at C is -/
structure Srt (K : PySem.W.Frag) (mg : Str → Option Value) (C : Addr) (c1 c2 c3 c4 c5 c6 c7 c8 c9 c10 c11 c12 : Addr) (b1 b2 b3 b4 b5 b6 b7 b8 b9 b10 b11 b12 : Bool) : Prop where
  g1 : mg "NoHead" = some (.ref c1)
  g2 : mg "NoProgram" = some (.ref c2)
  g3 : mg "NoText" = some (.ref c3)
  g4 : mg "NoStock" = some (.ref c4)
  g5 : mg "NoAnswer" = some (.ref c5)
  g6 : mg "NoInputs" = some (.ref c6)
  g7 : mg "Clash" = some (.ref c7)
  g8 : mg "NoRow" = some (.ref c8)
  g9 : mg "NoQuestion" = some (.ref c9)
  g10 : mg "NoDoer" = some (.ref c10)
  g11 : mg "NotKept" = some (.ref c11)
  g12 : mg "NoName" = some (.ref c12)
  k1 : PySem.W.kitOne K (.ref C) (.ref c1) = some b1
  k2 : PySem.W.kitOne K (.ref C) (.ref c2) = some b2
  k3 : PySem.W.kitOne K (.ref C) (.ref c3) = some b3
  k4 : PySem.W.kitOne K (.ref C) (.ref c4) = some b4
  k5 : PySem.W.kitOne K (.ref C) (.ref c5) = some b5
  k6 : PySem.W.kitOne K (.ref C) (.ref c6) = some b6
  k7 : PySem.W.kitOne K (.ref C) (.ref c7) = some b7
  k8 : PySem.W.kitOne K (.ref C) (.ref c8) = some b8
  k9 : PySem.W.kitOne K (.ref C) (.ref c9) = some b9
  k10 : PySem.W.kitOne K (.ref C) (.ref c10) = some b10
  k11 : PySem.W.kitOne K (.ref C) (.ref c11) = some b11
  k12 : PySem.W.kitOne K (.ref C) (.ref c12) = some b12
def Sorts (K : PySem.W.Frag) (mg : Str → Option Value) (C : Addr) (bs : List Bool) : Prop := ∃ c1 c2 c3 c4 c5 c6 c7 c8 c9 c10 c11 c12 b1 b2 b3 b4 b5 b6 b7 b8 b9 b10 b11 b12,
  Srt K mg C c1 c2 c3 c4 c5 c6 c7 c8 c9 c10 c11 c12 b1 b2 b3 b4 b5 b6 b7 b8 b9 b10 b11 b12 ∧ bs = [b1, b2, b3, b4, b5, b6, b7, b8, b9, b10, b11, b12]
def spSorts (C a : Addr) (cls : Value) (d : Option Addr) (bs : List Bool) : Sp := fun vs H Q _ => vs = [.ref a] ∧ cls = .ref C ∧ ∃ dd fs, d = some dd ∧ H dd = some (.xd fs) ∧ ∀ H' l, Same H H' → H' l = some (.lst (bs.map V.bl)) → Q (.ref l) H'
end Lm

set_option Elab.async false
set_option linter.all false
set_option maxRecDepth 100000
set_option maxHeartbeats 2000000
namespace Lm
open PySem PySem.Spec PyProof.Rows L2 LmR
theorem call_isiK {X : Cx} {K : PySem.W.Frag} (h : X.K = K) : CallR X (.builtin "isinstance") (rIsi K) := h ▸ call_isi
theorem walk_enumT {K : PySem.W.Frag} {a : Addr} {xs : List V} : Walk (IteT K a) xs.length (fun H => SqT K H a xs) (YPair (fun i => some (.int (i : Nat))) (fun i => xs[i]?)) := by
  refine ⟨fun i H hi q => ⟨xs, xs[i], q, by simp [hi]⟩, fun H q => ⟨xs, q, Nat.le_refl _⟩, fun i H x H' hi q y => ?_⟩
  obtain ⟨T, z, h1, h2, h3, h4⟩ := y
  exact ⟨T, _, z, h1, h2, h3, rfl, h4 xs q⟩
end Lm

set_option Elab.async false
set_option linter.all false
set_option maxRecDepth 100000
set_option maxHeartbeats 2000000
namespace Lm
open PySem PySem.Spec PyProof.Rows L2 LmR
/-! ### closed bounds: places 0 .. m, a row (a, b, c) says that x of a is at most x of b and c -/
abbrev Mat := Nat → Nat → Option Int
abbrev Edge := Nat × Nat × Int
inductive Wlk (R : List Edge) : Nat → Nat → Int → Prop where
  | nil (a : Nat) : Wlk R a a 0
  | cons {a b c : Nat} {w t : Int} (h : (a, c, w) ∈ R) (r : Wlk R c b t) : Wlk R a b (w + t)
theorem Wlk.mono {R R' : List Edge} {a b : Nat} {t : Int} (h : Wlk R a b t) (s : ∀ e ∈ R, e ∈ R') : Wlk R' a b t := by
  induction h with
  | nil a => exact .nil a
  | cons h _ ih => exact .cons (s _ h) ih
theorem Wlk.app {R : List Edge} {a b c : Nat} {s t : Int} (h : Wlk R a b s) (r : Wlk R b c t) : Wlk R a c (s + t) := by
  induction h with
  | nil a => rw [Int.zero_add]; exact r
  | cons h _ ih => rw [Int.add_assoc]; exact .cons h (ih r)
theorem Wlk.one {R : List Edge} {a b : Nat} {w : Int} (h : (a, b, w) ∈ R) : Wlk R a b w := by
  have z := Wlk.cons h (.nil b)
  rw [Int.add_zero] at z
  exact z
def leO (o : Option Int) (z : Int) : Prop := ∃ d, o = some d ∧ d ≤ z
theorem leO.le {o : Option Int} {x y : Int} (h : leO o x) (l : x ≤ y) : leO o y := by
  obtain ⟨d, e, q⟩ := h
  exact ⟨d, e, by omega⟩
def lesserF (old : Option Int) (way : Int) (more : Option Int) : Option Int := match more with
  | none => old
  | some m => match old with
    | none => some (way + m)
    | some o => if o ≤ way + m then some o else some (way + m)
def leB (o : Option Int) (c : Int) : Bool := match o with
  | some t => decide (t ≤ c)
  | none => false
def ltB (o : Option Int) (c : Int) : Bool := match o with
  | some t => decide (t + c < 0)
  | none => false
theorem leB_tt {o : Option Int} {c : Int} (h : leB o c = true) : leO o c := by
  cases o with
  | none => cases h
  | some t => exact ⟨t, rfl, of_decide_eq_true h⟩
def knownF (D : Mat) (i j : Nat) (c : Int) : Option Bool :=
  if leB (D i j) c = true then some true else if ltB (D j i) c = true then some false else none
def stepF (D : Mat) (i j : Nat) (c : Int) : Mat := fun a b => match D a i with
  | none => D a b
  | some w => lesserF (D a b) (w + c) (D j b)
def tightF (D : Mat) (i j : Nat) (c : Int) : Option Mat := match knownF D i j c with
  | some true => some D
  | some false => none
  | none => some (stepF D i j c)
def openF : Mat := fun a b => if a = b then some 0 else none
def closedF : List Edge → Mat → Option Mat
  | [], D => some D
  | (i, j, c) :: R, D => match tightF D i j c with
    | none => none
    | some D' => closedF R D'
structure Clo (R : List Edge) (m : Nat) (D : Mat) : Prop where
  ed : ∀ e ∈ R, e.1 ≤ m ∧ e.2.1 ≤ m
  w : ∀ a b d, D a b = some d → Wlk R a b d
  z : ∀ a, a ≤ m → D a a = some 0
  t : ∀ a b c x y, a ≤ m → b ≤ m → c ≤ m → D a c = some x → D c b = some y → leO (D a b) (x + y)
  e : ∀ e ∈ R, leO (D e.1 e.2.1) e.2.2
theorem clo_open (m : Nat) : Clo [] m openF := by
  refine ⟨fun e h => absurd h (by simp), fun a b d h => ?_, fun a _ => if_pos rfl, fun a b c x y _ _ _ h1 h2 => ?_, fun e h => absurd h (by simp)⟩
  · unfold openF at h
    split at h
    · rename_i e; cases h; rw [e]; exact .nil _
    · cases h
  · unfold openF at h1 h2 ⊢
    split at h1
    · rename_i e1
      split at h2
      · rename_i e2; cases h1; cases h2; exact ⟨0, if_pos (e1.trans e2), by decide⟩
      · cases h2
    · cases h1
theorem Clo.walk {R : List Edge} {m : Nat} {D : Mat} (C : Clo R m D) {a b : Nat} {t : Int} (h : Wlk R a b t) (hb : b ≤ m) (ha : a ≤ m) : leO (D a b) t := by
  induction h with
  | nil a => exact ⟨0, C.z a ha, Int.le_refl _⟩
  | cons h _ ih =>
    have hc := C.ed _ h
    obtain ⟨y, ey, ly⟩ := ih hb hc.2
    obtain ⟨x, ex, lx⟩ := C.e _ h
    exact (C.t _ _ _ _ _ hc.1 hb hc.2 ex ey).le (by simp only at lx; omega)
theorem Clo.noneg {R : List Edge} {m : Nat} {D : Mat} (C : Clo R m D) {a : Nat} {t : Int} (h : Wlk R a a t) (ha : a ≤ m) : 0 ≤ t := by
  obtain ⟨d, e, l⟩ := C.walk h ha ha
  rw [C.z a ha] at e
  cases e
  exact l
theorem lesser_le {o : Option Int} {w : Int} {m : Option Int} {d : Int} (h : o = some d) : leO (lesserF o w m) d := by
  subst h
  cases m with
  | none => exact ⟨d, rfl, Int.le_refl _⟩
  | some m =>
    show leO (if d ≤ w + m then some d else some (w + m)) d
    split
    · exact ⟨d, rfl, Int.le_refl _⟩
    · exact ⟨_, rfl, by omega⟩
theorem lesser_via {o : Option Int} {w : Int} {m : Option Int} {y : Int} (h : m = some y) : leO (lesserF o w m) (w + y) := by
  subst h
  cases o with
  | none => exact ⟨_, rfl, Int.le_refl _⟩
  | some d =>
    show leO (if d ≤ w + y then some d else some (w + y)) (w + y)
    split
    · exact ⟨d, rfl, by assumption⟩
    · exact ⟨_, rfl, Int.le_refl _⟩
theorem lesser_eq {o : Option Int} {w : Int} {m : Option Int} {d : Int} (h : lesserF o w m = some d) : o = some d ∨ ∃ y, m = some y ∧ d = w + y := by
  cases m with
  | none => exact .inl h
  | some y =>
    cases o with
    | none => cases h; exact .inr ⟨y, rfl, rfl⟩
    | some x =>
      have h' : (if x ≤ w + y then some x else some (w + y)) = some d := h
      split at h'
      · exact .inl h'
      · cases h'; exact .inr ⟨y, rfl, rfl⟩
theorem step_le {D : Mat} {i j : Nat} {c : Int} {a b : Nat} {d : Int} (h : D a b = some d) : leO (stepF D i j c a b) d := by
  unfold stepF
  cases D a i with
  | none => exact ⟨d, h, Int.le_refl _⟩
  | some w => exact lesser_le h
theorem step_via {D : Mat} {i j : Nat} {c : Int} {a b : Nat} {x y : Int} (h1 : D a i = some x) (h2 : D j b = some y) : leO (stepF D i j c a b) (x + c + y) := by
  unfold stepF
  rw [h1]
  exact lesser_via h2
theorem step_eq {D : Mat} {i j : Nat} {c : Int} {a b : Nat} {d : Int} (h : stepF D i j c a b = some d) : D a b = some d ∨ ∃ x y, D a i = some x ∧ D j b = some y ∧ d = x + c + y := by
  unfold stepF at h
  cases e : D a i with
  | none => rw [e] at h; exact .inl h
  | some w =>
    rw [e] at h
    rcases lesser_eq h with z | ⟨y, z, q⟩
    · exact .inl z
    · exact .inr ⟨w, y, rfl, z, q⟩
theorem known_no {D : Mat} {i j : Nat} {c : Int} (h : knownF D i j c = none) : ∀ b, D j i = some b → 0 ≤ b + c := by
  intro b hb
  unfold knownF at h
  by_cases h1 : leB (D i j) c = true
  · rw [if_pos h1] at h; cases h
  · rw [if_neg h1] at h
    by_cases h2 : ltB (D j i) c = true
    · rw [if_pos h2] at h; cases h
    · rw [hb] at h2
      have h3 : ¬ decide (b + c < 0) = true := h2
      simp only [decide_eq_true_eq] at h3
      omega
theorem known_tt {D : Mat} {i j : Nat} {c : Int} (h : knownF D i j c = some true) : leO (D i j) c := by
  unfold knownF at h
  by_cases h1 : leB (D i j) c = true
  · exact leB_tt h1
  · rw [if_neg h1] at h
    by_cases h2 : ltB (D j i) c = true
    · rw [if_pos h2] at h; cases h
    · rw [if_neg h2] at h; cases h
theorem known_ff {D : Mat} {i j : Nat} {c : Int} (h : knownF D i j c = some false) : ∃ b, D j i = some b ∧ b + c < 0 := by
  unfold knownF at h
  by_cases h1 : leB (D i j) c = true
  · rw [if_pos h1] at h; cases h
  · rw [if_neg h1] at h
    by_cases h2 : ltB (D j i) c = true
    · cases e : D j i with
      | none => rw [e] at h2; cases h2
      | some t => rw [e] at h2; exact ⟨t, rfl, of_decide_eq_true h2⟩
    · rw [if_neg h2] at h; cases h
theorem Clo.tight {R : List Edge} {m : Nat} {D : Mat} (C : Clo R m D) {i j : Nat} {c : Int} (hi : i ≤ m) (hj : j ≤ m) {D' : Mat} (h : tightF D i j c = some D') : Clo (R ++ [(i, j, c)]) m D' := by
  have sub : ∀ e ∈ R, e ∈ R ++ [(i, j, c)] := fun e he => List.mem_append_left _ he
  have ed : ∀ e ∈ R ++ [(i, j, c)], e.1 ≤ m ∧ e.2.1 ≤ m := fun e he => by
    rcases List.mem_append.mp he with z | z
    · exact C.ed e z
    · rw [List.mem_singleton.mp z]; exact ⟨hi, hj⟩
  unfold tightF at h
  split at h
  · rename_i hk
    cases h
    refine ⟨ed, fun a b d q => (C.w a b d q).mono sub, C.z, C.t, fun e he => ?_⟩
    rcases List.mem_append.mp he with z | z
    · exact C.e e z
    · rw [List.mem_singleton.mp z]; exact known_tt hk
  · cases h
  · rename_i hk
    cases h
    have nn := known_no hk
    refine ⟨ed, fun a b d q => ?_, fun a ha => ?_, fun a b k x y ha hb hk' hx hy => ?_, fun e he => ?_⟩
    · rcases step_eq q with z | ⟨x, y, hx, hy, rfl⟩
      · exact (C.w a b d z).mono sub
      · have h1 := (C.w _ _ _ hx).mono sub
        have h2 := (C.w _ _ _ hy).mono sub
        have h3 := (h1.app (Wlk.one (List.mem_append_right R (List.mem_singleton.mpr rfl)))).app h2
        exact h3
    · obtain ⟨d, e, l⟩ := step_le (i := i) (j := j) (c := c) (C.z a ha)
      rcases step_eq e with z | ⟨x, y, hx, hy, rfl⟩
      · rw [C.z a ha] at z; cases z; exact e
      · obtain ⟨b, hb, lb⟩ := C.t j i a _ _ hj hi ha hy hx
        have := nn b hb
        have z : x + c + y = 0 := by omega
        rw [z] at e
        exact e
    · rcases step_eq hx with zx | ⟨x1, y1, hx1, hy1, rfl⟩
      · rcases step_eq hy with zy | ⟨x2, y2, hx2, hy2, rfl⟩
        · obtain ⟨d, e, l⟩ := C.t a b k _ _ ha hb hk' zx zy
          exact (step_le e).le l
        · obtain ⟨d, e, l⟩ := C.t a i k _ _ ha hi hk' zx hx2
          exact (step_via e hy2).le (by omega)
      · rcases step_eq hy with zy | ⟨x2, y2, hx2, hy2, rfl⟩
        · obtain ⟨d, e, l⟩ := C.t j b k _ _ hj hb hk' hy1 zy
          exact (step_via hx1 e).le (by omega)
        · obtain ⟨d, e, l⟩ := C.t j i k _ _ hj hi hk' hy1 hx2
          have := nn d e
          exact (step_via hx1 hy2).le (by omega)
    · rcases List.mem_append.mp he with z | z
      · obtain ⟨d, q, l⟩ := C.e e z
        exact (step_le q).le l
      · rw [List.mem_singleton.mp z]
        exact (step_via (C.z i hi) (C.z j hj)).le (by simp)
theorem Clo.untight {R : List Edge} {m : Nat} {D : Mat} (C : Clo R m D) {i j : Nat} {c : Int} (h : tightF D i j c = none) : ∃ t, t < 0 ∧ Wlk (R ++ [(i, j, c)]) i i t := by
  unfold tightF at h
  split at h
  · cases h
  · rename_i hk
    obtain ⟨b, hb, l⟩ := known_ff hk
    refine ⟨c + b, by omega, .cons (List.mem_append_right R (List.mem_singleton.mpr rfl)) ((C.w _ _ _ hb).mono fun e he => List.mem_append_left _ he)⟩
  · cases h
theorem closed_ok {m : Nat} : ∀ (R R0 : List Edge) (D : Mat), Clo R0 m D → (∀ e ∈ R, e.1 ≤ m ∧ e.2.1 ≤ m) → (∀ D', closedF R D = some D' → Clo (R0 ++ R) m D') ∧ (closedF R D = none → ∃ a t, a ≤ m ∧ t < 0 ∧ Wlk (R0 ++ R) a a t)
  | [], R0, D, C, _ => ⟨fun D' h => (by cases h; rw [List.append_nil]; exact C), fun h => (by cases h)⟩
  | (i, j, c) :: R, R0, D, C, hR => by
    have h1 := hR (i, j, c) List.mem_cons_self
    have h2 : ∀ e ∈ R, e.1 ≤ m ∧ e.2.1 ≤ m := fun e he => hR e (List.mem_cons_of_mem _ he)
    have ea : R0 ++ (i, j, c) :: R = (R0 ++ [(i, j, c)]) ++ R := by simp
    cases e : tightF D i j c with
    | none =>
      have ec : closedF ((i, j, c) :: R) D = none := by unfold closedF; rw [e]
      refine ⟨fun D' h => (by rw [ec] at h; cases h), fun _ => ?_⟩
      obtain ⟨t, l, wk⟩ := C.untight e
      exact ⟨i, t, h1.1, l, by rw [ea]; exact wk.mono fun e he => List.mem_append_left _ he⟩
    | some D2 =>
      have ec : closedF ((i, j, c) :: R) D = closedF R D2 := by conv => lhs; unfold closedF; rw [e]
      rw [ec, ea]
      exact closed_ok R (R0 ++ [(i, j, c)]) D2 (C.tight h1.1 h1.2 e) h2
theorem closed_some {m : Nat} {R : List Edge} (hR : ∀ e ∈ R, e.1 ≤ m ∧ e.2.1 ≤ m) {D : Mat} (h : closedF R openF = some D) : Clo R m D := (closed_ok R [] openF (clo_open m) hR).1 D h
theorem closed_none {m : Nat} {R : List Edge} (hR : ∀ e ∈ R, e.1 ≤ m ∧ e.2.1 ≤ m) (h : closedF R openF = none) : ∃ a t, a ≤ m ∧ t < 0 ∧ Wlk R a a t := (closed_ok R [] openF (clo_open m) hR).2 h
theorem closed_snoc : ∀ (R : List Edge) (D : Mat) (e : Edge), closedF (R ++ [e]) D = match closedF R D with | none => none | some D' => tightF D' e.1 e.2.1 e.2.2
  | [], D, (i, j, c) => by
    show (match tightF D i j c with | none => none | some D' => some D') = tightF D i j c
    cases tightF D i j c <;> rfl
  | (i, j, c) :: R, D, e => by
    show (match tightF D i j c with | none => none | some D' => closedF (R ++ [e]) D') = match (match tightF D i j c with | none => none | some D' => closedF R D') with | none => none | some D' => tightF D' e.1 e.2.1 e.2.2
    cases tightF D i j c with
    | none => rfl
    | some D' => exact closed_snoc R D' e
/-- numbers keep the rows -/
def KeepsF (x : Nat → Int) (R : List Edge) : Prop := ∀ e ∈ R, x e.1 ≤ x e.2.1 + e.2.2
theorem Wlk.keeps {R : List Edge} {x : Nat → Int} (h : KeepsF x R) {a b : Nat} {t : Int} (w : Wlk R a b t) : x a ≤ x b + t := by
  induction w with
  | nil a => omega
  | cons e _ ih => have := h _ e; simp only at this; omega
/-- low a: the least that stands in the row of a -/
def IsLow (D : Mat) (m a : Nat) (l : Int) : Prop := (∀ b, b ≤ m → ∀ d, D a b = some d → l ≤ d) ∧ ∃ b, b ≤ m ∧ D a b = some l
theorem point_keeps {R : List Edge} {m : Nat} {D : Mat} (C : Clo R m D) {low : Nat → Int} (hl : ∀ a, a ≤ m → IsLow D m a (low a)) (z : Int) : KeepsF (fun a => low a - z) R := fun e he => by
  obtain ⟨h1, h2⟩ := C.ed e he
  obtain ⟨x, ex, lx⟩ := C.e e he
  obtain ⟨k, hk, ek⟩ := (hl _ h2).2
  obtain ⟨d, ed, ld⟩ := C.t _ _ _ _ _ h1 hk h2 ex ek
  have := (hl _ h1).1 k hk d ed
  show low e.1 - z ≤ low e.2.1 - z + e.2.2
  omega
/-! ### sums lowered along rows, turn by turn -/
abbrev Sums := Nat → Option Int
def stE (p : Sums × Bool) (e : Edge) : Sums × Bool := match p.1 e.2.1 with
  | none => p
  | some y => match p.1 e.1 with
    | none => (fun k => if k = e.1 then some (y + e.2.2) else p.1 k, true)
    | some x => if y + e.2.2 < x then (fun k => if k = e.1 then some (y + e.2.2) else p.1 k, true) else p
def turnF (R : List Edge) (S : Sums) : Sums × Bool := R.foldl stE (S, false)
def itF (R : List Edge) (S : Sums) : Nat → Sums × Bool
  | 0 => (S, false)
  | n + 1 => turnF R (itF R S n).1
def s0F (b : Nat) : Sums := fun k => if k = b then some 0 else none
theorem turn_still : ∀ (R : List Edge) (p : Sums × Bool), (R.foldl stE p).2 = false → p.2 = false ∧ R.foldl stE p = p ∧ ∀ e ∈ R, ∀ y, p.1 e.2.1 = some y → leO (p.1 e.1) (y + e.2.2)
  | [], p, h => ⟨h, rfl, fun e he => absurd he (by simp)⟩
  | e :: R, p, h => by
    obtain ⟨h1, h2, h3⟩ := turn_still R (stE p e) h
    have hp : stE p e = p ∧ ∀ y, p.1 e.2.1 = some y → leO (p.1 e.1) (y + e.2.2) := by
      unfold stE at h1 ⊢
      cases ej : p.1 e.2.1 with
      | none => exact ⟨rfl, fun y hy => by cases hy⟩
      | some y =>
        rw [ej] at h1
        cases ei : p.1 e.1 with
        | none => rw [ei] at h1; cases h1
        | some x =>
          rw [ei] at h1
          simp only at h1 ⊢
          split at h1
          · cases h1
          · rename_i hlt
            rw [if_neg hlt]
            exact ⟨rfl, fun y' hy' => ⟨x, rfl, by cases hy'; omega⟩⟩
    rw [hp.1] at h1 h2 h3
    refine ⟨h1, ?_, fun e' he' => ?_⟩
    · show R.foldl stE (stE p e) = p
      rw [hp.1]; exact h2
    · rcases List.mem_cons.mp he' with rfl | z
      · exact hp.2
      · exact h3 e' z
/-- what stands in the sums are walks to b -/
def WS (R : List Edge) (b : Nat) (S : Sums) : Prop := (∀ a d, S a = some d → Wlk R a b d) ∧ leO (S b) 0
theorem WS.s0 (R : List Edge) (b : Nat) : WS R b (s0F b) := by
  refine ⟨fun a d h => ?_, 0, if_pos rfl, Int.le_refl _⟩
  unfold s0F at h
  split at h
  · rename_i e; cases h; rw [e]; exact .nil _
  · cases h
theorem WS.st {R : List Edge} {b : Nat} {p : Sums × Bool} {e : Edge} (h : WS R b p.1) (he : e ∈ R) : WS R b (stE p e).1 := by
  unfold stE
  cases ej : p.1 e.2.1 with
  | none => exact h
  | some y =>
    have wn : Wlk R e.1 b (y + e.2.2) := by
      have z := Wlk.cons (show (e.1, e.2.1, e.2.2) ∈ R from he) (h.1 _ _ ej)
      rw [Int.add_comm] at z
      exact z
    have put : ∀ (hb : e.1 = b → y + e.2.2 ≤ 0), WS R b (fun k => if k = e.1 then some (y + e.2.2) else p.1 k) := fun hb => by
      refine ⟨fun a d q => ?_, ?_⟩
      · simp only at q
        split at q
        · rename_i ea; cases q; rw [ea]; exact wn
        · exact h.1 a d q
      · simp only
        split
        · rename_i eb; exact ⟨_, rfl, hb eb.symm⟩
        · exact h.2
    cases ei : p.1 e.1 with
    | none =>
      refine put fun eb => ?_
      rw [eb] at ei
      obtain ⟨d, z, _⟩ := h.2
      rw [ei] at z; cases z
    | some x =>
      simp only
      split
      · rename_i lt
        refine put fun eb => ?_
        rw [eb] at ei
        obtain ⟨d, z, l⟩ := h.2
        rw [ei] at z; cases z
        omega
      · exact h
theorem WS.fold {R : List Edge} {b : Nat} : ∀ (l : List Edge) (p : Sums × Bool), (∀ e ∈ l, e ∈ R) → WS R b p.1 → WS R b (l.foldl stE p).1
  | [], _, _, h => h
  | e :: l, p, s, h => WS.fold l (stE p e) (fun e' he' => s e' (List.mem_cons_of_mem _ he')) (h.st (s e List.mem_cons_self))
theorem WS.it {R : List Edge} {b : Nat} : ∀ n, WS R b (itF R (s0F b) n).1
  | 0 => WS.s0 R b
  | n + 1 => WS.fold R ((itF R (s0F b) n).1, false) (fun _ h => h) (WS.it n)
theorem still_walk {R : List Edge} {S : Sums} (hf : ∀ e ∈ R, ∀ y, S e.2.1 = some y → leO (S e.1) (y + e.2.2)) {a b : Nat} {t y : Int} (w : Wlk R a b t) (hb : S b = some y) : leO (S a) (y + t) := by
  induction w with
  | nil a => exact ⟨y, hb, by omega⟩
  | cons h _ ih =>
    obtain ⟨d, e, l⟩ := ih hb
    exact (hf _ h d e).le (by simp only; omega)
/-- no turn fell: then the sums stand still -/
theorem it_still {R : List Edge} {S : Sums} {n : Nat} (h : (itF R S (n + 1)).2 = false) : ∀ e ∈ R, ∀ y, (itF R S (n + 1)).1 e.2.1 = some y → leO ((itF R S (n + 1)).1 e.1) (y + e.2.2) := by
  obtain ⟨_, h2, h3⟩ := turn_still R ((itF R S n).1, false) h
  have e : (itF R S (n + 1)).1 = (itF R S n).1 := congrArg (·.1) h2
  rw [e]
  exact h3
theorem down_eq {R : List Edge} {m : Nat} {D : Mat} (C : Clo R m D) {a b n : Nat} (ha : a ≤ m) (hb : b ≤ m) (h : (itF R (s0F b) (n + 1)).2 = false) : (itF R (s0F b) (n + 1)).1 a = D a b := by
  have st := it_still h
  have ws := WS.it (R := R) (b := b) (n + 1)
  obtain ⟨y, ey, ly⟩ := ws.2
  cases e : D a b with
  | none =>
    cases e2 : (itF R (s0F b) (n + 1)).1 a with
    | none => rfl
    | some x =>
      obtain ⟨d, z, _⟩ := C.walk (ws.1 a x e2) hb ha
      rw [e] at z; cases z
  | some d =>
    obtain ⟨x, ex, lx⟩ := still_walk st (C.w a b d e) ey
    obtain ⟨d', z, l'⟩ := C.walk (ws.1 a x ex) hb ha
    rw [e] at z; cases z
    rw [ex]
    have : x = d := by omega
    rw [this]
theorem still_noneg {R : List Edge} {m n : Nat} (h : ∀ b, b ≤ m → (itF R (s0F b) (n + 1)).2 = false) {a : Nat} (ha : a ≤ m) {t : Int} (w : Wlk R a a t) : 0 ≤ t := by
  have st := it_still (h a ha)
  obtain ⟨y, ey, ly⟩ := (WS.it (R := R) (b := a) (n + 1)).2
  obtain ⟨x, ex, lx⟩ := still_walk st w ey
  rw [ey] at ex; cases ex
  omega
theorem still_closed {R : List Edge} {m n : Nat} (hR : ∀ e ∈ R, e.1 ≤ m ∧ e.2.1 ≤ m) (h : ∀ b, b ≤ m → (itF R (s0F b) (n + 1)).2 = false) : ∃ D, closedF R openF = some D ∧ Clo R m D := by
  cases e : closedF R openF with
  | none =>
    obtain ⟨a, t, ha, l, w⟩ := closed_none hR e
    have := still_noneg h ha w
    omega
  | some D => exact ⟨D, rfl, closed_some hR e⟩
end Lm

set_option Elab.async false
set_option linter.all false
set_option maxRecDepth 100000
set_option maxHeartbeats 2000000
namespace Lm
open PySem PySem.Spec PyProof.Rows L2 LmR
/-! ### own classes: their methods, their making -/
structure ClsAt (K : PySem.W.Frag) (mg : Str → Option Value) (x : Str) (C : Addr) (fs : List Str) : Prop where
  g : mg x = some (.ref C)
  c : Cls K C
  n : ∀ f ∈ fs, NoAttr K C f
def DefM (K : PySem.W.Frag) (C : Addr) (m q : Str) (st : Stmt) (ps : List Str) : Prop := ∃ f fd, Fun K m q st f fd ∧ Meth K C m f ∧ Binds K fd ps []
def CalM (P : Program) (w : World) (K : PySem.W.Frag) (mg : Str → Option Value) (base : Heap) (k : Nat) (C : Addr) (m : Str) (ps : List Str) (sp : Sp) : Prop :=
  ∃ f fd, FnOk P w K mg base CX0 k f fd ps sp ∧ Meth K C m f ∧ Binds K fd ps []
section
variable {P : Program} {w : World} {K : PySem.W.Frag} {mg : Str → Option Value} {base : Heap}
theorem CalM.mono {j k : Nat} {C : Addr} {m : Str} {ps : List Str} {sp : Sp} (c : CalM P w K mg base j C m ps sp) (h : j ≤ k) : CalM P w K mg base k C m ps sp := by
  obtain ⟨f, fd, F, g⟩ := c
  exact ⟨f, fd, F.mono h, g⟩
theorem calm_of {C : Addr} {m q : Str} {st : Stmt} {N ps : List Str} {k : Nat} {sp : Sp} (D : DefM K C m q st ps) (S : FnScope N ps (defScope st)) (len : ∀ vs H Q E, sp vs H Q E → vs.length = ps.length)
    (hbody : ∀ (f : Addr) (cdv : Value) (A : Around) (outer : List Env) (s : Shared) (H : Hp) (vs : List V) (Q : VK) (E : XK), Room k (A.deeper (envOfC q (defScope st) s.heap.objs.size f cdv)) → sp vs H Q E →
      ∃ t, PSs (cxOf CX0 P w K mg base N q (defScope st) f cdv A outer s H E).nox (defBody st) t ∧ t { nx := fun _ H' => Q .non H', rt := Q } (start N vs) H) : CalM P w K mg base (k + 1) C m ps sp := by
  obtain ⟨f, fd, F, g, b⟩ := D
  exact ⟨f, fd, F.ok S len (hbody f), g, b⟩
end
section
variable {X : Cx}
theorem pe_calM {k : Nat} {C : Addr} {m : Str} {ps : List Str} {sp : Sp} {o e : Expr} {es : List Expr} {to : TE} {t : TA} {apos pos : Pos} {pl : Sem Bool} (C' : CalM X.prog X.w X.K X.mg X.base k C m ps sp) (c : Cls X.K C) (hr : Room k X.A) (ho : PE X o to) (ha : PA X (e :: es) t)
    (ht : eval (.Call (.Attribute o m apos) (e :: es) [] pos) X.env = (do
      let ov ← eval o X.env
      standAt apos.atName
      let (f, first) ← holding [ov] (getMethod ov m pl)
      callWith pos f first (backTo pos (starEach (e :: es) X.env)) (backToKw pos (keywordEach [] X.env))) := by rfl)
    (he : starEach (e :: es) X.env = (false, eval e X.env) :: starEach es X.env := by rfl) (hpl : (backTo pos (starEach es X.env)).any (·.1) = false := by rfl) :
    PE X (.Call (.Attribute o m apos) (e :: es) [] pos) (tMeth C m sp [] (fun _ _ _ => False) to t) := by
  obtain ⟨f, fd, F, g, b⟩ := C'
  exact pe_meth ho c g F hr b .nil pass0 ha he hpl ht
theorem pe_calM0 {k : Nat} {C : Addr} {m : Str} {ps : List Str} {sp : Sp} {o : Expr} {to : TE} {apos pos : Pos} {pl : Sem Bool} (C' : CalM X.prog X.w X.K X.mg X.base k C m ps sp) (c : Cls X.K C) (hr : Room k X.A) (ho : PE X o to)
    (ht : eval (.Call (.Attribute o m apos) [] [] pos) X.env = (do
      let ov ← eval o X.env
      standAt apos.atName
      let (f, first) ← holding [ov] (getMethod ov m pl)
      callWith pos f first (backTo pos (starEach [] X.env)) (backToKw pos (keywordEach [] X.env))) := by rfl) :
    PE X (.Call (.Attribute o m apos) [] [] pos) (tMeth C m sp [] (fun _ _ _ => False) to tNil) := by
  obtain ⟨f, fd, F, g, b⟩ := C'
  exact pe_meth0 ho c g F hr b .nil pass0 ht
end
/-! ### C(e, ..), __init__ with a default behind -/
/-- n values (self among them) are written, ds fill up -/
def DefI (K : PySem.W.Frag) (mg : Str → Option Value) (C : Addr) (x q : Str) (st : Stmt) (ps : List Str) (dvs : List V) (n : Nat) : Prop :=
  ∃ f fd, FunD K "__init__" q (defArgs st) (defBody st) (defScope st) dvs [] f fd ∧ Mk K C f ∧ mg x = some (.ref C) ∧ ∃ ds, Vals (dvs.drop n) ds ∧ Binds K fd ps ds
def CalI (P : Program) (w : World) (K : PySem.W.Frag) (mg : Str → Option Value) (base : Heap) (k : Nat) (C : Addr) (x : Str) (ps : List Str) (dvs : List V) (n : Nat) (sp : Sp) : Prop :=
  ∃ f fd, FnOk P w K mg base CX0 k f fd ps sp ∧ Mk K C f ∧ mg x = some (.ref C) ∧ (∃ ds, Vals (dvs.drop n) ds ∧ Binds K fd ps ds) ∧ ∃ q pa bo sc, FunD K "__init__" q pa bo sc dvs [] f fd
section
variable {P : Program} {w : World} {K : PySem.W.Frag} {mg : Str → Option Value} {base : Heap}
theorem CalI.mono {j k n : Nat} {C : Addr} {x : Str} {ps : List Str} {dvs : List V} {sp : Sp} (c : CalI P w K mg base j C x ps dvs n sp) (h : j ≤ k) : CalI P w K mg base k C x ps dvs n sp := by
  obtain ⟨f, fd, F, g⟩ := c
  exact ⟨f, fd, F.mono h, g⟩
theorem cali_of {C : Addr} {x q : Str} {st : Stmt} {N ps : List Str} {k n : Nat} {dvs : List V} {sp : Sp} (D : DefI K mg C x q st ps dvs n) (S : FnScope N ps (defScope st)) (len : ∀ vs H Q E, sp vs H Q E → vs.length = ps.length)
    (hbody : ∀ (f : Addr) (cdv : Value) (A : Around) (outer : List Env) (s : Shared) (H : Hp) (vs : List V) (Q : VK) (E : XK), Room k (A.deeper (envOfC q (defScope st) s.heap.objs.size f cdv)) → sp vs H Q E →
      ∃ t, PSs (cxOf CX0 P w K mg base N q (defScope st) f cdv A outer s H E).nox (defBody st) t ∧ t { nx := fun _ H' => Q .non H', rt := Q } (start N vs) H) : CalI P w K mg base (k + 1) C x ps dvs n sp := by
  obtain ⟨f, fd, F, g1, g2, g3⟩ := D
  refine ⟨f, fd, F.ok S len (fun cdv A outer s H vs Q E hr hsp => ?_), g1, g2, g3, _, _, _, _, F⟩
  obtain ⟨t, h, q⟩ := hbody f cdv A outer s H vs Q E hr hsp
  exact ⟨t, h.nox, q⟩
end
theorem pe_calI {X : Cx} {k n : Nat} {C : Addr} {x : Str} {ps : List Str} {dvs : List V} {sp : Sp} {e : Expr} {es : List Expr} {t : TA} {p pos : Pos} (C' : CalI X.prog X.w X.K X.mg X.base k C x ps dvs n sp) (hr : Room (k + 1) X.A) (hg : Gl X x) (ha : PA X (e :: es) t)
    (hdb : (x == ("__debug__" : Str)) = false := by decide) (he : starEach (e :: es) X.env = (false, eval e X.env) :: starEach es X.env := by rfl) (hpl : (backTo pos (starEach es X.env)).any (·.1) = false := by rfl) :
    PE X (.Call (.Name x p) (e :: es) [] pos) (tMake C sp (dvs.drop n) (fun _ _ _ => False) t) := by
  obtain ⟨f, fd, F, M, g, ⟨ds, hd, b⟩, _⟩ := C'
  exact pe_make M F hr hg g b hd pass0 ha hdb he hpl
def rTupK (K : PySem.W.Frag) : List V → Hp → VK → Prop := fun xs H Q => ∃ p ys, xs = [.ref p] ∧ ((SqL K H p ys ∧ ∀ l, H l = none → Q (.ref l) (upd H l (.tup ys))) ∨ (SqT K H p ys ∧ Q (.ref p) H))
theorem call_tuple_ofK {X : Cx} {K : PySem.W.Frag} (h : X.K = K) : CallR X (.type "tuple") (rTupK K) := h ▸ call_tuple_of
theorem pi_listK {X : Cx} {K : PySem.W.Frag} {tg l : Expr} {tl : TE} (h : X.K = K) (hl : PE X l tl) : PI X tg l (iList K tl) := h ▸ pi_list hl
theorem pi_tupK {X : Cx} {K : PySem.W.Frag} {tg l : Expr} {tl : TE} (h : X.K = K) (hl : PE X l tl) : PI X tg l (iTup K tl) := h ▸ pi_tup hl
theorem walk_zipT {K : PySem.W.Frag} {a b : Addr} {xs ys : List V} {n : Nat} (hn : n = min xs.length ys.length) : Walk (RZ.ItzT K a b) n (fun H => SqT K H a xs ∧ SqT K H b ys) (YPair (fun i => xs[i]?) (fun i => ys[i]?)) := by
  subst hn
  refine ⟨fun i _ hi q => ?_, fun _ q => ⟨xs, ys, q.1, q.2, by omega⟩, fun i H v H' _ q y => ?_⟩
  · have h1 : i < xs.length := by omega
    have h2 : i < ys.length := by omega
    exact ⟨xs, ys, xs[i], ys[i], q.1, q.2, by simp [h1], by simp [h2]⟩
  · obtain ⟨T, x, z, h1, h2, h3, h4, h5⟩ := y
    exact ⟨T, x, z, h1, h2, h3, h4 xs q.1, h5 ys q.2⟩
theorem pg_tupK {X : Cx} {K : PySem.W.Frag} {es : List Expr} {k : Nat} {t : TGs} {n : Nat} {pos : Pos} (hK : X.K = K) (hc : X.calm = true) (h : PGs X es t)
    (hn : (assignEach es X.env).length = n := by rfl) (hst : (assignEach es X.env).findIdx? (·.1) = none := by rfl) : PG X (.Tuple es k pos) (gTup K n t) := hK ▸ pg_tup hc h hn hst
theorem cr_minQ {X : Cx} {K : PySem.W.Frag} (h : X.K = K) (hc : X.calm = true) : CallR X (.builtin "min") (rMin K) := h ▸ cr_min hc
/-! ### for x in e, e a list or a tuple -/
section
variable {X : Cx} {tg : Expr}
def iLT (K : PySem.W.Frag) (tl : TE) : TI := fun σ H R => tl σ H fun x H1 => ∃ a, x = .ref a ∧ (((∃ xs, SqL K H1 a xs) ∧ R (Itl K a) H1) ∨ ((∃ xs, SqT K H1 a xs) ∧ R (Itt K a) H1))
theorem pi_lt {l : Expr} {tl : TE} (hl : PE X l tl) : PI X tg l (iLT X.K tl) := by
  refine ⟨fun pins s σ H R I h => ?_⟩
  refine thn (hl.run pins s σ H _ I h) fun v s1 ⟨x, H1, I1, r1, q1⟩ => ?_
  obtain ⟨a, e, q⟩ := q1
  subst e
  cases r1
  rcases q with ⟨⟨xs, hq⟩, q⟩ | ⟨⟨xs, hq⟩, q⟩
  · obtain ⟨its, rv, p, hz⟩ := I1.list hq
    refine wpAny_pyIter_list p.isList ?_
    refine ⟨s1.heap.objs.size, [s1.heap.objs.size], _, _, H1, rfl, I1.kept (t' := s1.toks) fun b o e => Heap.get?_push_of_some _ e, turn_list a _, ⟨_, Heap.get?_push_size _ rfl, rfl, rfl⟩, fun b hb => ?_, q⟩
    have e : b = s1.heap.objs.size := by simpa using hb
    subst e
    exact I1.fpOk (Nat.le_refl _) (I1.hok.fresh (Nat.le_refl _))
  · obtain ⟨its, rv, p, hz⟩ := I1.tuple hq
    refine wpAny_pyIter_tuple (show s1.heap.IsTuple a its.toArray from p) ?_
    refine ⟨s1.heap.objs.size, [s1.heap.objs.size], _, _, H1, rfl, I1.kept (t' := s1.toks) fun b o e => Heap.get?_push_of_some _ e, turn_tuple a _, ⟨_, Heap.get?_push_size _ rfl, rfl, rfl⟩, fun b hb => ?_, q⟩
    have e : b = s1.heap.objs.size := by simpa using hb
    subst e
    exact I1.fpOk (Nat.le_refl _) (I1.hok.fresh (Nat.le_refl _))
end
end Lm

set_option Elab.async false
set_option linter.all false
set_option maxRecDepth 100000
namespace Lm
open PySem PySem.Spec PyProof.Rows L2 LmR
/-! ### a == b, a != b of data without dicts, of any texts -/
def rEqP (K : PySem.W.Frag) : R2 := fun x y H Q => ∃ d e, Dp K H x d ∧ Dp K H y e ∧ d.plain = true ∧ e.plain = true ∧ d.depth ≤ 64 ∧ Q (.bl (PyData.eqv d e)) H
def rNeP (K : PySem.W.Frag) : R2 := fun x y H Q => ∃ d e, Dp K H x d ∧ Dp K H y e ∧ d.plain = true ∧ e.plain = true ∧ d.depth ≤ 64 ∧ Q (.bl (!PyData.eqv d e)) H
theorem op_eqP {X : Cx} (hu : X.A.units + 64 < cLine) : OpR X (compareOp .Eq) (rEqP X.K) := by
  intro pins s σ H x y v u Q I rx ry h
  obtain ⟨d, e, hd, he, sd, se, dd, q⟩ := h
  obtain ⟨as, r1⟩ := Dp.reads I d x v hd rx
  obtain ⟨bs, r2⟩ := Dp.reads I e y u he ry
  exact SeqAt.eq_plain r1 r2 sd se (by omega) ⟨.bl _, H, I, rfl, q⟩
theorem op_neP {X : Cx} (hu : X.A.units + 64 < cLine) : OpR X (compareOp .NotEq) (rNeP X.K) := by
  intro pins s σ H x y v u Q I rx ry h
  obtain ⟨d, e, hd, he, sd, se, dd, q⟩ := h
  obtain ⟨as, r1⟩ := Dp.reads I d x v hd rx
  obtain ⟨bs, r2⟩ := Dp.reads I e y u he ry
  exact SeqAt.ne_plain r1 r2 sd se (by omega) ⟨.bl _, H, I, rfl, q⟩
mutual
theorem plain_flat : ∀ d : PyData, flat d = true → d.plain = true
  | .none, _ => rfl
  | .bool _, _ => rfl
  | .int _, _ => rfl
  | .str _, _ => rfl
  | .list _, h => by simp [flat] at h
  | .tuple xs, h => plains_flat xs h
  | .dict _, h => by simp [flat] at h
theorem plains_flat : ∀ ds : List PyData, flat.flats ds = true → PyData.plainAll ds = true
  | [], _ => rfl
  | d :: ds, h => by
    rw [flat.flats, Bool.and_eq_true] at h
    show (d.plain && PyData.plainAll ds) = true
    rw [plain_flat d h.1, plains_flat ds h.2]; rfl
end
end Lm

set_option Elab.async false
set_option linter.all false
set_option maxRecDepth 100000
set_option maxHeartbeats 2000000
namespace Lm
open PySem PySem.Spec PyProof.Rows L2 LmR
/-! ### defs that are called while no repr is under way -/
structure FnG (P : Program) (w : World) (K : PySem.W.Frag) (mg : Str → Option Value) (base : Heap) (k : Nat) (f : Addr) (fd : FuncData) (ps : List Str) (sp : Sp) : Prop where
  len : ∀ vs H Q E, sp vs H Q E → vs.length = ps.length
  run : ∀ (A : Around) (outer : List Env) (s : Shared) (H : Hp) (args : Args) (us : List Value) (vs : List V) (Q : VK) (E : XK), A.guards = some [] → Room k A → Env0 P w K mg base A outer s H → BindsTo s fd args (ps.zip us) → Vals vs us → sp vs H Q E →
    codeAny (model P w) A (.call (.ref f) args) (CR CX0 outer P w H s Q E) s
section
variable {P : Program} {w : World} {K : PySem.W.Frag} {mg : Str → Option Value} {base : Heap}
theorem FnG.mono {j k : Nat} {f : Addr} {fd : FuncData} {ps : List Str} {sp : Sp} (F : FnG P w K mg base j f fd ps sp) (h : j ≤ k) : FnG P w K mg base k f fd ps sp :=
  ⟨F.len, fun A outer s H args us vs Q E hg hr => F.run A outer s H args us vs Q E hg (hr.mono h)⟩
theorem fnG_of {k : Nat} {x : Str} {st : Stmt} {f : Addr} {fd : FuncData} {N ps : List Str} {sp : Sp} (F : Fun K x x st f fd) (S : FnScope N ps (defScope st)) (len : ∀ vs H Q E, sp vs H Q E → vs.length = ps.length)
    (hbody : ∀ (cdv : Value) (A : Around) (outer : List Env) (s : Shared) (H : Hp) (vs : List V) (Q : VK) (E : XK), A.guards = some [] → Room k (A.deeper (envOfC x (defScope st) s.heap.objs.size f cdv)) → sp vs H Q E →
      ∃ t, PSs (cxOf CX0 P w K mg base N x (defScope st) f cdv A outer s H E).nox (defBody st) t ∧ t { nx := fun _ H' => Q .non H', rt := Q } (start N vs) H) : FnG P w K mg base (k + 1) f fd ps sp := by
  obtain ⟨oc, od, kV, doc, pm, an, cdv, ct, osl, rfl, lk, hcd⟩ := F.ex
  refine ⟨len, fun A outer s H args us vs Q E hg hr e0 hb r hsp => ?_⟩
  have kin : K.In s.heap := e0.mod.kin.keeps fun b o z => (e0.bs b o z).1
  have lim : s.heap.NoLimit := e0.mod.nolimit.keeps fun b o z => (e0.bs b o z).1
  have kinds : ∀ y ∈ ps.zip us, (defScope st).names.lookup y.1 = some .local ∨ ((defScope st).names.lookup y.1 = some .cell ∧ ((cellsFrom (s.heap.objs.size + 1) (defScope st).names []).lookup y.1).isSome = true) := fun y hy =>
    (S.par y.1 (List.of_mem_zip (show (y.1, y.2) ∈ ps.zip us from hy)).1).imp id fun z => ⟨z, PySem.W.cellsFrom_some _ _ _ (.inl z)⟩
  refine codeAny_call_function hr.depth (kin _ _ lk) rfl S.co S.gen rfl (PySem.W.codeRec_of kin hcd) (hb _ _ _ _ (wpAny_newFunctionEnv_cells S.kind kinds fun env he s1 y => ?_))
  subst he
  obtain ⟨t, ht, hq⟩ := hbody cdv A outer s H vs Q E hg (hr.deeper _) hsp
  have I : Inv (cxOf CX0 P w K mg base N x (defScope st) f cdv A outer s H E) [] (start N vs) H s1 := inv_start S hr.hd e0 (len _ _ _ _ hsp) r y
  refine ⟨lim.keeps y.toInCall.keep, codeAny_func (wpAny_mono (ht.nox.run [] s1 (start N vs) H _ I hq) (fun fl s' hs => ?_) fun e s' hs => hs)⟩
  cases fl with
  | ret u =>
    obtain ⟨v, σ', H', J, rv, q⟩ := hs
    exact ⟨v, H', J.os, J.bare, J.base, J.hok, rv, q⟩
  | next =>
    obtain ⟨σ', H', J, q⟩ := hs
    exact ⟨V.non, H', J.os, J.bare, J.base, J.hok, rfl, q⟩
  | brk => obtain ⟨_, _, _, q⟩ := hs; exact False.elim q
  | cont => obtain ⟨_, _, _, q⟩ := hs; exact False.elim q
/-- what stands under the name x keeps sp, called while no repr is under way -/
def CalG (P : Program) (w : World) (K : PySem.W.Frag) (mg : Str → Option Value) (base : Heap) (k : Nat) (x : Str) (ps : List Str) (sp : Sp) : Prop :=
  ∃ f fd, FnG P w K mg base k f fd ps sp ∧ mg x = some (.ref f) ∧ PySem.W.keepIn K (.ref f) = true ∧ Binds K fd ps []
theorem CalG.mono {j k : Nat} {x : Str} {ps : List Str} {sp : Sp} (c : CalG P w K mg base j x ps sp) (h : j ≤ k) : CalG P w K mg base k x ps sp := by
  obtain ⟨f, fd, F, g, kp, b⟩ := c
  exact ⟨f, fd, F.mono h, g, kp, b⟩
theorem calg_of {x : Str} {st : Stmt} {N ps : List Str} {k : Nat} {sp : Sp} (D : DefAt K mg x st ps) (S : FnScope N ps (defScope st)) (len : ∀ vs H Q E, sp vs H Q E → vs.length = ps.length)
    (hbody : ∀ (f : Addr) (cdv : Value) (A : Around) (outer : List Env) (s : Shared) (H : Hp) (vs : List V) (Q : VK) (E : XK), A.guards = some [] → Room k (A.deeper (envOfC x (defScope st) s.heap.objs.size f cdv)) → sp vs H Q E →
      ∃ t, PSs (cxOf CX0 P w K mg base N x (defScope st) f cdv A outer s H E).nox (defBody st) t ∧ t { nx := fun _ H' => Q .non H', rt := Q } (start N vs) H) : CalG P w K mg base (k + 1) x ps sp := by
  obtain ⟨f, fd, F, b, g⟩ := D
  exact ⟨f, fd, fnG_of F S len (hbody f), g, F.kp, b⟩
end
/-- f(e, ..) of such a def -/
theorem pe_calG {X : Cx} {k : Nat} {x : Str} {ps : List Str} {sp : Sp} {e : Expr} {es : List Expr} {t : TA} {p pos : Pos} (C : CalG X.prog X.w X.K X.mg X.base k x ps sp) (hgu : X.A.guards = some []) (hr : Room k X.A) (hg : Gl X x) (ha : PA X (e :: es) t)
    (hdb : (x == ("__debug__" : Str)) = false := by decide) (he : starEach (e :: es) X.env = (false, eval e X.env) :: starEach es X.env := by rfl) (hpl : (backTo pos (starEach es X.env)).any (·.1) = false := by rfl) :
    PE X (.Call (.Name x p) (e :: es) [] pos) (tCall sp [] (fun _ _ _ => False) t) := by
  obtain ⟨f, fd, F, g, kp, b⟩ := C
  refine ⟨fun pins s σ H Q I h => wpAny_Call_Name_kw (ld_glob I hg g ?_ hdb)⟩
  refine PySem.W.callWith_K (h₀ := X.base) I.ok.mod.kin kp (thn (ha.run pos pins s σ H _ I h) fun us s1 ⟨vs, H1, I1, r, q⟩ => ⟨I1.kIn, ?_⟩) he hpl
  have q1 : sp vs H1 Q (fun _ _ _ => False) := by
    have z : sp (vs ++ []) H1 Q (fun _ _ _ => False) := q
    rw [List.append_nil] at z
    exact z
  have bn := b s1 us I1.kIn (by rw [List.append_nil, ← r.length]; exact F.len _ _ _ _ q1)
  rw [List.append_nil] at bn
  refine wpAny_call (codeAny_mono (F.run X.A X.stack s1 H1 ⟨us, []⟩ us vs Q (fun _ _ _ => False) hgu hr I1.env0 bn r q1) fun z s' hq => ?_)
  cases z with
  | error e => exact hq.elim
  | ok fl =>
    cases fl with
    | ret u => exact I1.after hq
    | next => exact False.elim hq
    | brk => exact False.elim hq
    | cont => exact False.elim hq
/-- repr of data that stands in a tuple -/
def rRepr (X : Cx) : List V → Hp → VK → Prop := fun xs H Q => ∃ (a : Addr) (d : PyData), xs = [.ref a] ∧ Dp X.K H (.ref a) d ∧ d.showable = true ∧ d.hasDict = false ∧ d.depth ≤ 60 ∧ d.shown.length ≤ sizeLine ∧ Q (.str d.shown) H
theorem call_reprD {X : Cx} {k : Nat} (hr : Room k X.A) (hgu : X.A.guards = some []) : CallR X (.builtin "repr") (rRepr X) := by
  intro pins s σ H xs us Q I r h
  obtain ⟨a, d, rfl, hd, hs, hn, hz, hl, q⟩ := h
  obtain ⟨u, rfl, r1⟩ := vals1 r
  obtain ⟨as, hR⟩ := Dp.reads I d _ u hd r1
  cases r1
  have un := hr.un
  exact repr_of_reads' hR hs (PyData.noDict_hsm hn) hgu (by omega) (fun _ _ e => e) (fun h' v tk hk => ⟨.str d.shown, H, I.kept hk, ⟨_, rfl⟩, q⟩) hl
/-! ### the law's own call -/
section
variable {P : Program} {w : World} {K : PySem.W.Frag} {mg mb : Str → Option Value} {k : Nat} {fa a : Addr} {fd : FuncData} {x : Str} {sp : Sp} {s₁ : Shared} {vs : List Value} {ns : List Int}
/-- what is tracked when the law is called: its script, if that is none of the written things -/
def onlyAt (a : Addr) (o : Option HO) : Hp := fun b => if b = a then o else none
theorem onlyAt_some {a b : Addr} {o : Option HO} {u : HO} (h : onlyAt a o b = some u) : b = a ∧ o = some u := by
  unfold onlyAt at h
  split at h
  · rename_i e; exact ⟨e, h⟩
  · cases h
theorem call_lawG (KX : K.In s₁.heap) (hns : s₁.heap.Ns mainGlobals mg) (hb : s₁.heap.Ns builtinsNs mb) (hbb : ∀ x : Str, x ≠ "__name__" → mb x = bootBuiltins x) (hlim : s₁.heap.NoLimit) (hg : s₁.gens = #[])
    (ha : s₁.heap.get? a = some { cls := .type "list", data := .seq vs.toArray }) (hi : IntsAre vs ns) (hl : ns.length ≤ sizeLine) (hr : Room k callerA)
    (F : ∀ base : Heap, K.In base → base.Ns mainGlobals mg → FnG P w K mg base k fa fd [x] sp) (hbind : ∀ (s : Shared) (u : Value), BindsTo s fd ⟨[u], []⟩ [(x, u)])
    (hsp : ∀ H : Hp, SqL K H a (ns.map V.int) → sp [.ref a] H (fun v _ => v = .bl true) fun _ _ _ => False) :
    codeAny (model P w) callerA (.call (.ref fa) ⟨[.ref a], []⟩) (fun r s' => r = .ok (.ret (.bool true)) ∧ OldK s₁.heap s'.heap ∧ s'.os = s₁.os ∧ AllBare s'.gens) s₁ := by
  have lenV := hi.length
  have frz : ObjOk P w (onlyAt a (some (.frz { cls := .type "list", data := .seq vs.toArray } (.lst (ns.map V.int))))) s₁.heap a (.frz { cls := .type "list", data := .seq vs.toArray } (.lst (ns.map V.int))) :=
    ⟨ha, by rw [List.length_map]; exact hl, vs, _, vals_ints hi, ha⟩
  obtain ⟨o, hS, hok, hfr, hK⟩ : ∃ o : Option HO, SqL K (onlyAt a o) a (ns.map V.int) ∧ HOk P w (onlyAt a o) s₁.heap ∧ (∀ u, o = some u → u = .frz { cls := .type "list", data := .seq vs.toArray } (.lst (ns.map V.int))) ∧ (o ≠ none → K.lookup a = none) := by
    cases hk : K.lookup a with
    | none =>
      refine ⟨some (.frz { cls := .type "list", data := .seq vs.toArray } (.lst (ns.map V.int))), .inl (.inr ⟨_, if_pos rfl⟩), fun b u z => ?_, fun u z => (Option.some.inj z).symm, fun _ => rfl⟩
      obtain ⟨e1, e2⟩ := onlyAt_some z
      cases e2
      subst e1
      exact frz
    | some ob =>
      have e := KX a ob hk
      rw [ha] at e
      cases e
      exact ⟨none, .inr ⟨_, vs.toArray, _, hk, rfl, rfl, rfl, by rw [List.size_toArray, lenV]; exact hl, by simpa using vals_ints hi⟩, fun b u z => (by cases (onlyAt_some z).2), fun u z => (by cases z), fun z => absurd rfl z⟩
  have off : ∀ {b : Addr}, b ≠ a → onlyAt a o b = none := fun n => if_neg n
  generalize hH : onlyAt a o = H at hS hok
  have offH : ∀ {b : Addr} {u : HO}, H b = some u → b = a ∧ o = some u := fun z => by rw [← hH] at z; exact onlyAt_some z
  have dicts : ∀ {b : Addr} {ob : Obj} {es : Array DictEntry} {ep : Nat}, s₁.heap.get? b = some ob → ob.data = .dict es ep → H b = none := fun {b ob es ep} e d => by
    by_cases c : b = a
    · subst c
      rw [ha] at e
      cases e
      cases d
    · rw [← hH]; exact off c
  have nsB : ∀ {b : Addr} {m : Str → Option Value}, s₁.heap.Ns b m → (hidT s₁.heap H).Ns b m := fun {b m} z => by
    obtain ⟨ob, es, ep, e, d, r⟩ := z
    exact ⟨ob, es, ep, hidT_get e (dicts e d), d, r⟩
  have kB : K.In (hidT s₁.heap H) := fun b ob e => hidT_get (KX b ob e) (by
    cases q : H b with
    | none => rfl
    | some u =>
      obtain ⟨e1, e2⟩ := offH q
      subst e1
      rw [hK (by rw [e2]; simp)] at e
      cases e)
  obtain ⟨mc, l1, l2⟩ := hlim
  have e0 : Env0 P w K mg (hidT s₁.heap H) callerA [] s₁ H := ⟨rfl, ⟨kB, nsB hns, ⟨mb, nsB hb, hbb⟩, ⟨mc, nsB l1, l2⟩⟩, fun b ob e => of_hidT e, Nat.le_of_eq (hidT_size _ _), trivial, fun b hb => (by cases (show b ∈ ([] : List Addr) from hb)), hok, .of_eq hg⟩
  refine codeAny_mono ((F _ kB (nsB hns)).run callerA [] s₁ H ⟨[.ref a], []⟩ [.ref a] [.ref a] _ _ rfl hr e0 (hbind s₁ (.ref a)) (.cons rfl .nil) (hsp H hS)) fun res s' h => ?_
  cases res with
  | error e => exact h.elim
  | ok fl =>
    cases fl with
    | next => exact False.elim h
    | brk => exact False.elim h
    | cont => exact False.elim h
    | ret u =>
      obtain ⟨v, H', os, bare, un, hok', r', q⟩ := h
      have q' : v = .bl true := q
      subst q'
      have eu : u = Value.bool true := r'
      subst eu
      refine ⟨rfl, OldK.of_keep fun b ob e => ?_, os, bare⟩
      cases z : H b with
      | none => exact un.keep b ob e z (fun y => by cases (show b ∈ ([] : List Addr) from y)) (by simp)
      | some u =>
        obtain ⟨e1, e2⟩ := offH z
        have eu := hfr u e2
        subst eu
        obtain ⟨g1, _⟩ := hok b _ z
        obtain ⟨g2, _⟩ := hok' b _ (un.frzs b _ _ z)
        rw [e] at g1
        cases g1
        exact g2
end
theorem walk_ofG {l : PySem.W.OpenLaw} {n k : Nat} {q : Program} {loose : List Str} {XP : (Str → Option Value) → Heap → Prop} {YP : World → Heap → Prop} {d : DefRec} {K : Params → PySem.W.Frag} {sp : World → Sp} {x : Str} (hn : l.most = some n) (hn2 : n ≤ sizeLine) (hdf : d.params.defaults = []) (hr : Room k callerA)
    (hY : ∀ (w : World) (h : Heap), YP w h → (K w.params).In h)
    (F : ∀ (w : World) (mg : Str → Option Value) (fa : Addr) (h : Heap), (K w.params).In h → h.Ns mainGlobals mg → mg d.name = some (.ref fa) → ∃ fd : FuncData, (∀ (s : Shared) (u : Value), BindsTo s fd ⟨[u], []⟩ [(x, u)]) ∧ ∀ base : Heap, (K w.params).In base → base.Ns mainGlobals mg → FnG l.prog w (K w.params) mg base k fa fd [x] (sp w))
    (hsp : ∀ (w : World) (H : Hp) (a : Addr) (ns : List Int), ns.length ≤ n → SqL (K w.params) H a (ns.map V.int) → sp w [.ref a] H (fun v _ => v = .bl true) fun _ _ _ => False) :
    PySem.W.WalkO q loose XP YP l.row.toRowW d [] (fun f vs => PySem.call f vs) := by
  refine Att.attach_call hn hdf fun w s₀ s₁ mg mb fa o pm cd doc a vs ns G Y ho hd hcd hmg hobj hints hlen hg => ?_
  obtain ⟨fd, hb, hF⟩ := F w mg fa _ (hY w _ Y) G.T.g hmg
  exact call_lawG (hY w _ Y) G.T.g G.T.b G.T.builtins G.T.nolimit hg hobj hints (Nat.le_trans hlen hn2) hr hF hb fun H hS => hsp w H a ns hlen hS
end Lm

set_option Elab.async false
set_option linter.all false
set_option maxRecDepth 100000
set_option maxHeartbeats 2000000
namespace Lm
open PySem PySem.Spec PyProof.Rows L2 LmR
/-! ### len(o), repr(o) by the class's own methods -/
def rLenO (C : Addr) (sp : Sp) : List V → Hp → VK → Prop := fun xs H Q => ∃ a dx fs, xs = [.ref a] ∧ H a = some (.ins C dx fs) ∧ sp [.ref a] H (fun v H' => ∃ n : Int, v = .int n ∧ 0 ≤ n ∧ n < 2 ^ 63 ∧ Q (.int n) H') (fun _ _ _ => False)
def rReprO (C : Addr) (sp : Sp) : List V → Hp → VK → Prop := fun xs H Q => ∃ a dx fs, xs = [.ref a] ∧ H a = some (.ins C dx fs) ∧ sp [.ref a] H (fun v H' => ∃ z : Str, v = .str z ∧ Q (.str z) H') (fun _ _ _ => False)
section
variable {X : Cx} {k : Nat} {C : Addr} {ps : List Str} {sp : Sp}
theorem call_lenO (M : CalM X.prog X.w X.K X.mg X.base k C "__len__" ps sp) (hr : Room (k + 1) X.A) : CallR X (.builtin "len") (rLenO C sp) := by
  intro pins s σ H xs us Q I r h
  obtain ⟨a, dx, fs, rfl, ha, hsp⟩ := h
  obtain ⟨u, rfl, ru⟩ := vals1 r
  cases ru
  obtain ⟨mA, J, _⟩ := ins_get I.hok ha
  obtain ⟨od, J, _⟩ := J.look
  obtain ⟨m, hF⟩ := I.fr
  obtain ⟨f, fd, F, g, b⟩ := M
  refine PySem.W.len_K hF I.ok.mod.kin J g.at_ g.fn ?_
  have hl := F.len _ _ _ _ hsp
  refine wpAny_call (codeAny_mono (F.run X.A.in1 X.stack s H ⟨[.ref a], []⟩ [.ref a] [.ref a] _ (fun _ _ _ => False) hr.in1 (Env0.in1 I.env0) (by
    have := b s [.ref a] I.kIn (by simpa using hl)
    simpa using this) (.cons rfl .nil) hsp) fun r s' hq => ?_)
  cases r with
  | error e => exact (pass0 pins σ H s e s' I hq : X.xe e s')
  | ok fl =>
    cases fl with
    | ret w =>
      obtain ⟨z, H', I', rz, n, ez, n0, n1, q⟩ := I.after hq
      subst ez
      obtain ⟨t, rfl⟩ := rz
      exact ⟨⟨n0, n1⟩, .int n, H', I'.tok _, ⟨_, rfl⟩, q⟩
    | next => exact False.elim hq
    | brk => exact False.elim hq
    | cont => exact False.elim hq
theorem call_reprO (M : CalM X.prog X.w X.K X.mg X.base k C "__repr__" ps sp) (hr : Room (k + 1) X.A) : CallR X (.builtin "repr") (rReprO C sp) := by
  intro pins s σ H xs us Q I r h
  obtain ⟨a, dx, fs, rfl, ha, hsp⟩ := h
  obtain ⟨u, rfl, ru⟩ := vals1 r
  cases ru
  obtain ⟨mA, J, _⟩ := ins_get I.hok ha
  obtain ⟨od, J, _⟩ := J.look
  obtain ⟨m, hF⟩ := I.fr
  obtain ⟨f, fd, F, g, b⟩ := M
  refine PySem.W.repr_K hr.in1.units0 hF I.ok.mod.kin J g.at_ g.fn ?_
  have hl := F.len _ _ _ _ hsp
  refine wpAny_call (codeAny_mono (F.run X.A.in1 X.stack s H ⟨[.ref a], []⟩ [.ref a] [.ref a] _ (fun _ _ _ => False) hr.in1 (Env0.in1 I.env0) (by
    have := b s [.ref a] I.kIn (by simpa using hl)
    simpa using this) (.cons rfl .nil) hsp) fun r s' hq => ?_)
  cases r with
  | error e => exact (pass0 pins σ H s e s' I hq : X.xe e s')
  | ok fl =>
    cases fl with
    | ret w =>
      obtain ⟨z, H', I', rz, y, ez, q⟩ := I.after hq
      subst ez
      obtain ⟨t, rfl⟩ := rz
      exact ⟨.str y, H', I', ⟨_, rfl⟩, q⟩
    | next => exact False.elim hq
    | brk => exact False.elim hq
    | cont => exact False.elim hq
end
/-! ### C(e, .., k = v) -/
def DefIK (K : PySem.W.Frag) (mg : Str → Option Value) (C : Addr) (x q : Str) (st : Stmt) (ps : List Str) (dvs : List V) (n : Nat) (ks : List Str) : Prop :=
  ∃ f fd, FunD K "__init__" q (defArgs st) (defBody st) (defScope st) dvs [] f fd ∧ Mk K C f ∧ mg x = some (.ref C) ∧ KBn K fd ps (n + 1) ks (fun us ws => us ++ ws) (fun vs zs => vs ++ zs)
def CalIK (P : Program) (w : World) (K : PySem.W.Frag) (mg : Str → Option Value) (base : Heap) (k : Nat) (C : Addr) (x : Str) (ps : List Str) (n : Nat) (ks : List Str) (sp : Sp) : Prop :=
  ∃ f fd, FnOk P w K mg base CX0 k f fd ps sp ∧ Mk K C f ∧ mg x = some (.ref C) ∧ KBn K fd ps (n + 1) ks (fun us ws => us ++ ws) (fun vs zs => vs ++ zs)
theorem CalI.kw {P : Program} {w : World} {K : PySem.W.Frag} {mg : Str → Option Value} {base : Heap} {k n n' : Nat} {C : Addr} {x q : Str} {st : Stmt} {ps ks : List Str} {dvs : List V} {sp : Sp} (c : CalI P w K mg base k C x ps dvs n sp) (D : DefIK K mg C x q st ps dvs n' ks) : CalIK P w K mg base k C x ps n' ks sp := by
  obtain ⟨f, fd, F, M, g, _, q', pa, bo, sc, F'⟩ := c
  obtain ⟨f2, fd2, F2, M2, g2, b⟩ := D
  have e : f = f2 := by
    have z := M.init.symm.trans M2.init
    injection z with z
    injection z with z
    injection z
  subst e
  have e : fd = fd2 := by
    obtain ⟨_, _, _, _, _, _, _, _, _, _, _, l1, _⟩ := F'.ex
    obtain ⟨_, _, _, _, _, _, _, _, _, _, _, l2, _⟩ := F2.ex
    rw [l1] at l2
    have e := Option.some.inj l2
    injection e with _ _ e _
    injection e
  subst e
  exact ⟨f, fd, F, M, g, b⟩
theorem pe_calIK {X : Cx} {k n : Nat} {C : Addr} {x : Str} {ps ks : List Str} {sp : Sp} {e : Expr} {es : List Expr} {kws : List Keyword} {t tk : TA} {p pos : Pos} (C' : CalIK X.prog X.w X.K X.mg X.base k C x ps n ks sp) (hr : Room (k + 1) X.A) (hg : Gl X x) (ha : PA X (e :: es) t) (hkw : PK X kws tk)
    (hall : (backToKw pos (keywordEach kws X.env)).all (·.1.isSome) = true := by rfl) (hks : (backToKw pos (keywordEach kws X.env)).filterMap (·.1) = ks := by rfl) (hdb : (x == ("__debug__" : Str)) = false := by decide)
    (he : starEach (e :: es) X.env = (false, eval e X.env) :: starEach es X.env := by rfl) (hpl : ((backTo pos (starEach (e :: es) X.env)).any (·.1) || (backToKw pos (keywordEach kws X.env)).any (·.1.isNone)) = false := by rfl) :
    PE X (.Call (.Name x p) (e :: es) kws pos) (tMakeN C n ks.length sp (fun vs zs => vs ++ zs) (fun _ _ _ => False) t tk) := by
  obtain ⟨f, fd, F, M, g, b⟩ := C'
  refine ⟨fun pins s σ H Q I h => ?_⟩
  refine wpAny_Call_Name_kw (ld_glob I hg g ?_ hdb)
  refine PySem.W.callWith_KW (h₀ := X.base) I.ok.mod.kin M.kp hall (thn (ha.run pos pins s σ H _ I h) fun us s1 ⟨vs, H1, I1, r, q⟩ => ?_) hpl he
  refine thn (hkw.run pos pins s1 σ H1 _ I1 q) fun ws s2 ⟨zs, H2, I2, rz, l1, l2, q2⟩ => ⟨I2.kIn, ?_⟩
  rw [hks]
  exact run_makeN M F hr b pass0 I2 r rz l1 l2 q2
end Lm

set_option Elab.async false
set_option linter.all false
namespace Lm
/-- a number between lower and upper ones, near t -/
theorem pick_near (los his : List Int) (t : Int) (h : ∀ l ∈ los, ∀ u ∈ his, l ≤ u) : ∃ u, (∀ l ∈ los, l ≤ u) ∧ (∀ x ∈ his, u ≤ x) ∧ (u = t ∨ (u ∈ los ∧ t ≤ u) ∨ (u ∈ his ∧ u ≤ t)) := by
  obtain ⟨M, hM, tM, eM⟩ : ∃ M, (∀ l ∈ los, l ≤ M) ∧ t ≤ M ∧ (M = t ∨ M ∈ los) := by
    clear h
    induction los with
    | nil => exact ⟨t, (fun l hl => nomatch hl), Int.le_refl _, .inl rfl⟩
    | cons a los ih =>
      obtain ⟨M, h1, h2, h3⟩ := ih
      by_cases c : a ≤ M
      · exact ⟨M, fun l hl => (List.mem_cons.mp hl).elim (fun z => by omega) (h1 l), h2, h3.imp id (List.mem_cons_of_mem _)⟩
      · exact ⟨a, fun l hl => (List.mem_cons.mp hl).elim (fun z => by omega) fun z => by have := h1 l z; omega, by omega, .inr (List.mem_cons_self ..)⟩
  obtain ⟨u, h1, h2, h3⟩ : ∃ u, (∀ x ∈ his, u ≤ x) ∧ u ≤ M ∧ (u = M ∨ u ∈ his) := by
    clear h
    induction his with
    | nil => exact ⟨M, (fun l hl => nomatch hl), Int.le_refl _, .inl rfl⟩
    | cons a his ih =>
      obtain ⟨u, h1, h2, h3⟩ := ih
      by_cases c : u ≤ a
      · exact ⟨u, fun l hl => (List.mem_cons.mp hl).elim (fun z => by omega) (h1 l), h2, h3.imp id (List.mem_cons_of_mem _)⟩
      · exact ⟨a, fun l hl => (List.mem_cons.mp hl).elim (fun z => by omega) fun z => by have := h1 l z; omega, by omega, .inr (List.mem_cons_self ..)⟩
  have lu : ∀ l ∈ los, l ≤ u := fun l hl => h3.elim (fun z => by rw [z]; exact hM l hl) (fun z => h l hl u z)
  refine ⟨u, lu, h1, ?_⟩
  rcases h3 with z | z
  · rw [z]; exact eM.imp id fun m => .inl ⟨m, tM⟩
  · rcases eM with e | e
    · exact .inr (.inr ⟨z, by omega⟩)
    · have := lu M e
      have : u = M := by omega
      rw [this]; exact .inr (.inl ⟨e, tM⟩)
/-- among three places: one row, or two -/
theorem short_walk {R : List Edge} {D : Mat} (C : Clo R 2 D) {a b : Nat} {t : Int} (w : Wlk R a b t) (hb : b ≤ 2) (ne : a ≠ b) :
    (∃ v, (a, b, v) ∈ R ∧ v ≤ t) ∨ ∃ k p q, (a, k, p) ∈ R ∧ (k, b, q) ∈ R ∧ p + q ≤ t ∧ k ≠ a ∧ k ≠ b := by
  induction w with
  | nil a => exact absurd rfl ne
  | @cons a b c w t h r ih =>
    have hac := C.ed _ h
    by_cases cb : c = b
    · subst cb
      have := C.noneg r hb
      exact .inl ⟨w, h, by omega⟩
    rcases ih hb cb with ⟨v, hv, lv⟩ | ⟨k, p, q, h1, h2, l, n1, n2⟩
    · by_cases ca : c = a
      · subst ca
        have := C.noneg (.one h) hac.1
        exact .inl ⟨v, hv, by omega⟩
      · exact .inr ⟨c, w, v, h, hv, by omega, ca, cb⟩
    · by_cases ca : c = a
      · subst ca
        have := C.noneg (.one h) hac.1
        exact .inr ⟨k, p, q, h1, h2, by omega, n1, n2⟩
      · have hk := C.ed _ h1
        have : k = a := by
          have := hac.1; have := hac.2; have := hk.2
          simp only at *
          omega
        subst this
        have := C.noneg ((Wlk.one h).app (.one h1)) hac.1
        exact .inl ⟨q, h2, by omega⟩
theorem leO_some {o : Option Int} {d z : Int} (h : leO o z) (e : o = some d) : d ≤ z := by
  obtain ⟨d', e', l⟩ := h
  rw [e] at e'
  cases e'
  exact l
/-- what a place is from another: a row's worth, or two rows' -/
theorem two_rows {R : List Edge} {D : Mat} (C : Clo R 2 D) (hw : ∀ e ∈ R, -2 ≤ e.2.2 ∧ e.2.2 ≤ 2) {a b k : Nat} (ha : a ≤ 2) (hb : b ≤ 2) (hk : k ≤ 2) (ab : a ≠ b) (ka : k ≠ a) (kb : k ≠ b) {d : Int} (h : D a b = some d) :
    (-2 ≤ d ∧ d ≤ 2) ∨ ∃ p q, D a k = some p ∧ D k b = some q ∧ d = p + q ∧ -2 ≤ p ∧ p ≤ 2 ∧ -2 ≤ q ∧ q ≤ 2 := by
  rcases short_walk C (C.w a b d h) hb ab with ⟨v, hv, lv⟩ | ⟨k', p, q, h1, h2, l, n1, n2⟩
  · have z := leO_some (C.e _ hv) h
    have := hw _ hv
    simp only at *
    exact .inl (by omega)
  · have e1 := C.ed _ h1
    have : k' = k := by
      simp only at *
      omega
    subst this
    obtain ⟨p', ep, lp⟩ := C.e _ h1
    obtain ⟨q', eq, lq⟩ := C.e _ h2
    have z := leO_some (C.t a b k' p' q' ha hb hk ep eq) h
    have w1 := hw _ h1
    have w2 := hw _ h2
    simp only at *
    have : p' = p := by omega
    have : q' = q := by omega
    subst p' q'
    exact .inr ⟨p, q, ep, eq, by omega, by omega, by omega, by omega, by omega⟩
theorem far4 {R : List Edge} {D : Mat} (C : Clo R 2 D) (hw : ∀ e ∈ R, -2 ≤ e.2.2 ∧ e.2.2 ≤ 2) {a b k : Nat} (ha : a ≤ 2) (hb : b ≤ 2) (hk : k ≤ 2) (ab : a ≠ b) (ka : k ≠ a) (kb : k ≠ b) {d : Int} (h : D a b = some d) : -4 ≤ d ∧ d ≤ 4 := by
  rcases two_rows C hw ha hb hk ab ka kb h with z | ⟨p, q, _, _, z⟩ <;> omega
/-- numbers of three places that keep what is known of each two keep the rows -/
theorem keeps_three {R : List Edge} {D : Mat} (C : Clo R 2 D) {i j k : Nat} (hi : i ≤ 2) (hj : j ≤ 2) (hk : k ≤ 2) (ij : i ≠ j) (ki : k ≠ i) (kj : k ≠ j) {v u : Int}
    (h1 : ∀ d, D i j = some d → v ≤ d) (h2 : ∀ d, D j i = some d → 0 ≤ v + d) (h3 : ∀ d, D k j = some d → u ≤ d) (h4 : ∀ d, D k i = some d → u ≤ v + d) (h5 : ∀ d, D j k = some d → -d ≤ u) (h6 : ∀ d, D i k = some d → v - d ≤ u) :
    KeepsF (fun a => if a = i then v else if a = j then 0 else u) R := by
  intro e he
  obtain ⟨a, b, c⟩ := e
  obtain ⟨ha, hb⟩ := C.ed _ he
  obtain ⟨d, ed, ld⟩ := C.e _ he
  simp only at *
  have hz : a = b → d = 0 := fun z => by
    subst z
    rw [C.z a ha] at ed
    cases ed; rfl
  have cs : ∀ a, a ≤ 2 → a = i ∨ a = j ∨ a = k := fun a ha => by omega
  rcases cs a ha with rfl | rfl | rfl <;> rcases cs b hb with rfl | rfl | rfl <;> simp only [if_pos, if_neg ij, if_neg ij.symm, if_neg ki, if_neg kj, ↓reduceIte]
  · have := hz rfl; omega
  · have := h1 _ ed; omega
  · have := h6 _ ed; omega
  · have := h2 _ ed; omega
  · have := hz rfl; omega
  · have := h5 _ ed; omega
  · have := h4 _ ed; omega
  · have := h3 _ ed; omega
  · have := hz rfl; omega
theorem mem_toL {o : Option Int} {d : Int} : d ∈ o.toList ↔ o = some d := by
  cases o <;> simp [eq_comm]
/-- numbers as far apart as the rows let them, near one another -/
theorem box_pt {R : List Edge} {D : Mat} (C : Clo R 2 D) (hw : ∀ e ∈ R, -2 ≤ e.2.2 ∧ e.2.2 ≤ 2) {i j : Nat} (hi : i ≤ 2) (hj : j ≤ 2) (ij : i ≠ j) :
    ∃ x : Nat → Int, KeepsF x R ∧ (∀ a b, a ≤ 2 → b ≤ 2 → x a - x b ≤ 7) ∧ (∀ d, D i j = some d → x i - x j = d) ∧ (D i j = none → 5 ≤ x i - x j) := by
  obtain ⟨k, hk, ki, kj⟩ : ∃ k, k ≤ 2 ∧ k ≠ i ∧ k ≠ j := by
    rcases (show i = 0 ∨ i = 1 ∨ i = 2 by omega) with rfl | rfl | rfl <;> rcases (show j = 0 ∨ j = 1 ∨ j = 2 by omega) with rfl | rfl | rfl
    all_goals first | exact absurd rfl ij | exact ⟨0, by omega, by omega, by omega⟩ | exact ⟨1, by omega, by omega, by omega⟩ | exact ⟨2, by omega, by omega, by omega⟩
  have T : ∀ a b c x y z, a ≤ 2 → b ≤ 2 → c ≤ 2 → D a c = some x → D c b = some y → D a b = some z → z ≤ x + y := fun a b c x y z ha hb hc h1 h2 h3 => leO_some (C.t a b c x y ha hb hc h1 h2) h3
  have ji := ij.symm
  have ik := ki.symm
  have jk := kj.symm
  have fki := fun d h => far4 C hw hk hi hj ki jk ji (d := d) h
  have fkj := fun d h => far4 C hw hk hj hi kj ik ij (d := d) h
  have fik := fun d h => far4 C hw hi hk hj ik ji jk (d := d) h
  have fjk := fun d h => far4 C hw hj hk hi jk ij ik (d := d) h
  have fji := fun d h => far4 C hw hj hi hk ji kj ki (d := d) h
  have fin : ∀ v u : Int, KeepsF (fun a => if a = i then v else if a = j then 0 else u) R → -7 ≤ v → v ≤ 7 → -7 ≤ u → u ≤ 7 → -7 ≤ u - v → u - v ≤ 7 → (∀ d, D i j = some d → v = d) → (D i j = none → 5 ≤ v) → ∃ x : Nat → Int, KeepsF x R ∧ (∀ a b, a ≤ 2 → b ≤ 2 → x a - x b ≤ 7) ∧ (∀ d, D i j = some d → x i - x j = d) ∧ (D i j = none → 5 ≤ x i - x j) := by
    intro v u hK l1 l2 l3 l4 l5 l6 l7 l8
    refine ⟨_, hK, fun a b ha hb => ?_, fun d hd => ?_, fun hn => ?_⟩
    · show (if a = i then v else if a = j then 0 else u) - (if b = i then v else if b = j then 0 else u) ≤ 7
      split <;> split <;> (try split) <;> (try split) <;> omega
    · show (if i = i then v else _) - (if j = i then v else if j = j then 0 else u) = d
      rw [if_pos rfl, if_neg ji, if_pos rfl, l7 d hd]; omega
    · show 5 ≤ (if i = i then v else _) - (if j = i then v else if j = j then 0 else u)
      rw [if_pos rfl, if_neg ji, if_pos rfl]
      have := l8 hn; omega
  have go : ∀ (v t : Int), (∀ d, D i j = some d → v ≤ d) → (∀ d, D j i = some d → 0 ≤ v + d) → (∀ x y, D j k = some x → D k i = some y → 0 ≤ v + x + y) → (∀ x y, D i k = some x → D k j = some y → v ≤ x + y) →
      ∃ u, KeepsF (fun a => if a = i then v else if a = j then 0 else u) R ∧ (u = t ∨ (t ≤ u ∧ ((∃ d, D j k = some d ∧ u = -d) ∨ ∃ d, D i k = some d ∧ u = v - d)) ∨ (u ≤ t ∧ ((∃ d, D k j = some d ∧ u = d) ∨ ∃ d, D k i = some d ∧ u = v + d))) := by
    intro v t g1 g2 g3 g4
    obtain ⟨u, h1, h2, h3⟩ := pick_near ((D j k).toList.map (fun d => -d) ++ (D i k).toList.map (fun d => v - d)) ((D k j).toList ++ (D k i).toList.map (fun d => v + d)) t (by
      intro l hl u hu
      simp only [List.mem_append, List.mem_map, mem_toL] at hl hu
      rcases hl with ⟨x, hx, rfl⟩ | ⟨x, hx, rfl⟩ <;> rcases hu with hy | ⟨y, hy, rfl⟩
      · have := T j j k x u 0 hj hj hk hx hy (C.z j hj); omega
      · have := g3 x y hx hy; omega
      · have := g4 x u hx hy; omega
      · have := T i i k x y 0 hi hi hk hx hy (C.z i hi); omega)
    refine ⟨u, keeps_three C hi hj hk ij ki kj g1 g2 (fun d hd => h2 _ ?_) (fun d hd => h2 _ ?_) (fun d hd => h1 _ ?_) (fun d hd => h1 _ ?_), ?_⟩
    · simp [mem_toL, hd]
    · simp [mem_toL, hd]
    · simp [mem_toL, hd]
    · simp [mem_toL, hd]
    · simp only [List.mem_append, List.mem_map, mem_toL] at h3
      rcases h3 with z | ⟨z, l⟩ | ⟨z, l⟩
      · exact .inl z
      · refine .inr (.inl ⟨l, ?_⟩)
        rcases z with ⟨x, a, b⟩ | ⟨x, a, b⟩
        · exact .inl ⟨x, a, b.symm⟩
        · exact .inr ⟨x, a, b.symm⟩
      · refine .inr (.inr ⟨l, ?_⟩)
        rcases z with z | ⟨x, a, b⟩
        · exact .inl ⟨u, z, rfl⟩
        · exact .inr ⟨x, a, b.symm⟩
  cases e : D i j with
  | some d =>
    rw [e] at fin
    have r2 : ∀ z, D j i = some z → 0 ≤ d + z := fun z hz => T i i j d z 0 hi hi hj e hz (C.z i hi)
    rcases two_rows C hw hi hj hk ij ki kj e with ⟨d1, d2⟩ | ⟨p, q, hp, hq, rfl, p1, p2, q1, q2⟩
    · obtain ⟨u, hK, hu⟩ := go d 0 (fun z hz => by rw [e] at hz; cases hz; omega) r2 (fun x y hx hy => by
        obtain ⟨z, hz, lz⟩ := C.t j i k x y hj hi hk hx hy
        have := r2 z hz; omega) (fun x y hx hy => T i j k x y d hi hj hk hx hy e)
      refine fin d u hK (by omega) (by omega) ?_ ?_ ?_ ?_ (fun z hz => by cases hz; rfl) (fun hz => nomatch hz)
      all_goals
        rcases hu with rfl | ⟨l, ⟨x, hx, rfl⟩ | ⟨x, hx, rfl⟩⟩ | ⟨l, ⟨x, hx, rfl⟩ | ⟨x, hx, rfl⟩⟩
        · omega
        · have := fjk _ hx; omega
        · have := fik _ hx; omega
        · have := fkj _ hx; omega
        · have := fki _ hx; omega
    · refine fin (p + q) q (keeps_three C hi hj hk ij ki kj (fun z hz => by rw [e] at hz; cases hz; omega) r2 (fun z hz => by rw [hq] at hz; cases hz; omega) (fun z hz => ?_) (fun z hz => ?_) (fun z hz => by rw [hp] at hz; cases hz; omega)) (by omega) (by omega) (by omega) (by omega) (by omega) (by omega) (fun z hz => by cases hz; rfl) (fun hz => nomatch hz)
      · have := T i i k p z 0 hi hi hk hp hz (C.z i hi); omega
      · have := T j j k z q 0 hj hj hk hz hq (C.z j hj); omega
  | none =>
    rw [e] at fin
    have no : ∀ x y, D i k = some x → D k j = some y → False := fun x y hx hy => by
      obtain ⟨z, hz, _⟩ := C.t i j k x y hi hj hk hx hy
      rw [e] at hz; cases hz
    obtain ⟨u, hK, hu⟩ := go 5 2 (fun z hz => by rw [e] at hz; cases hz) (fun z hz => by have := fji _ hz; omega) (fun x y hx hy => by
        obtain ⟨z, hz, lz⟩ := C.t j i k x y hj hi hk hx hy
        have := fji _ hz; omega) (fun x y hx hy => (no x y hx hy).elim)
    have dik : ∀ d, D i k = some d → -2 ≤ d ∧ d ≤ 2 := fun d hd => by
      rcases two_rows C hw hi hk hj ik ji jk hd with z | ⟨p, q, hp, hq, _⟩
      · exact z
      · rw [e] at hp; cases hp
    have dkj : ∀ d, D k j = some d → -2 ≤ d ∧ d ≤ 2 := fun d hd => by
      rcases two_rows C hw hk hj hi kj ik ij hd with z | ⟨p, q, hp, hq, _⟩
      · exact z
      · rw [e] at hq; cases hq
    refine fin 5 u hK (by omega) (by omega) ?_ ?_ ?_ ?_ (fun z hz => nomatch hz) (fun hz => by omega)
    all_goals
      rcases hu with rfl | ⟨l, ⟨x, hx, rfl⟩ | ⟨x, hx, rfl⟩⟩ | ⟨l, ⟨x, hx, rfl⟩ | ⟨x, hx, rfl⟩⟩
      · omega
      · have := fjk _ hx; omega
      · have := dik _ hx; omega
      · have := dkj _ hx; omega
      · have := fki _ hx; omega
end Lm

set_option Elab.async false
set_option linter.all false
set_option maxRecDepth 100000
set_option maxHeartbeats 2000000
namespace Lm
open PySem PySem.Spec PyProof.Rows L2 LmR
/-! ### a == b of two objects of a class with an own __eq__ -/
def rEqO (C : Addr) (sp : Sp) : R2 := fun x y H Q => ∃ a b dx fs dy gs, x = .ref a ∧ y = .ref b ∧ H a = some (.ins C dx fs) ∧ H b = some (.ins C dy gs) ∧ sp [.ref a, .ref b] H (fun v H' => ∃ c, v = .bl c ∧ Q (.bl c) H') (fun _ _ _ => False)
section
variable {X : Cx} {k : Nat} {C : Addr} {ps : List Str} {sp : Sp}
theorem op_eqO (M : CalM X.prog X.w X.K X.mg X.base k C "__eq__" ps sp) (hr : Room (k + 1) X.A) : OpR X (compareOp .Eq) (rEqO C sp) := by
  intro pins s σ H x y v u Q I rx ry h
  obtain ⟨a, b, dx, fs, dy, gs, rfl, rfl, ha, hb, hsp⟩ := h
  cases rx
  cases ry
  obtain ⟨mA, J, _⟩ := ins_get I.hok ha
  obtain ⟨od, J, _⟩ := J.look
  obtain ⟨mB, JB, _⟩ := ins_get I.hok hb
  obtain ⟨odB, JB, _⟩ := JB.look
  obtain ⟨m, hF⟩ := I.fr
  obtain ⟨f, fd, F, g, bd⟩ := M
  have hl := F.len _ _ _ _ hsp
  have un := hr.un
  refine PySem.W.cmp_K (op := .Eq) (by omega) hF I.ok.mod.kin J JB.type (by unfold PySem.W.notFirst; simp) g.at_ g.fn ?_
  refine wpAny_call (codeAny_mono (F.run X.A X.stack s H ⟨[.ref a, .ref b], []⟩ [.ref a, .ref b] [.ref a, .ref b] _ (fun _ _ _ => False) (hr.mono (by omega)) I.env0 (by
    have := bd s [.ref a, .ref b] I.kIn (by simpa using hl)
    simpa using this) (.cons rfl (.cons rfl .nil)) hsp) fun r s' hq => ?_)
  cases r with
  | error e => exact (pass0 pins σ H s e s' I hq : X.xe e s')
  | ok fl =>
    cases fl with
    | ret w =>
      obtain ⟨z, H', I', rz, c, ez, q⟩ := I.after hq
      subst ez
      cases rz
      exact ⟨.bl c, H', I', rfl, q⟩
    | next => exact False.elim hq
    | brk => exact False.elim hq
    | cont => exact False.elim hq
end
end Lm

set_option Elab.async false
set_option linter.all false
set_option maxRecDepth 100000
set_option maxHeartbeats 2000000
set_option pp.maxSteps 600
set_option pp.deepTerms.threshold 6
namespace Lm
open PySem PySem.Spec PyProof.Rows L2 LmR RZ
def topS (i : Nat) : Stmt := PySem.Challenge.pw_leastmaker_k26_whole_no_numbers_or_some.main.body.getD i (.Pass ⟨0, 0, 0, 0⟩)
/-! ### closed bounds as data -/
def oV : Option Int → V
  | none => .non
  | some i => .int i
def oPD : Option Int → PyData
  | none => .none
  | some i => .int i
def rowV (D : Mat) (m a : Nat) : List V := (List.range (m + 1)).map fun b => oV (D a b)
def rowPD (D : Mat) (m a : Nat) : PyData := .tuple ((List.range (m + 1)).map fun b => oPD (D a b))
def cloPD (D : Mat) (m : Nat) : PyData := .tuple ((List.range (m + 1)).map fun a => rowPD D m a)
theorem oPD_flat (o : Option Int) : flat (oPD o) = true := by cases o <;> rfl
theorem flats_map {α : Type} (f : α → PyData) (h : ∀ x, flat (f x) = true) : ∀ l : List α, flat.flats (l.map f) = true
  | [] => rfl
  | x :: l => by rw [List.map_cons, flat.flats, h x, flats_map f h l]; rfl
theorem rowPD_flat (D : Mat) (m a : Nat) : flat (rowPD D m a) = true := flats_map _ (fun _ => oPD_flat _) _
theorem cloPD_flat (D : Mat) (m : Nat) : flat (cloPD D m) = true := flats_map _ (fun a => rowPD_flat D m a) _
theorem oV_dp {K : PySem.W.Frag} {H : Hp} (o : Option Int) : Dp K H (oV o) (oPD o) := by
  cases o
  · exact .non
  · exact .int _
theorem dp_oPD {K : PySem.W.Frag} {H : Hp} {v : V} {o : Option Int} (h : Dp K H v (oPD o)) : v = oV o := by
  cases o <;> cases h <;> rfl
theorem dps_oPD {K : PySem.W.Frag} {H : Hp} {α : Type} (f : α → Option Int) : ∀ {l : List α} {vs : List V}, DpAll K H vs (l.map fun x => oPD (f x)) → vs = l.map fun x => oV (f x)
  | [], _, h => by cases h; rfl
  | x :: l, _, h => by
    cases h with
    | cons a r => rw [dp_oPD a, dps_oPD f r]; rfl
theorem oVs_dp {K : PySem.W.Frag} {H : Hp} {α : Type} (f : α → Option Int) : ∀ l : List α, DpAll K H (l.map fun x => oV (f x)) (l.map fun x => oPD (f x))
  | [] => .nil
  | x :: l => .cons (oV_dp _) (oVs_dp f l)
theorem dpall_getM {K : PySem.W.Frag} {H : Hp} {α : Type} (f : α → PyData) : ∀ {l : List α} {vs : List V}, DpAll K H vs (l.map f) → vs.length = l.length ∧ ∀ (k : Nat) (x : α), l[k]? = some x → ∃ v, vs[k]? = some v ∧ Dp K H v (f x)
  | [], _, h => by cases h; exact ⟨rfl, fun k x z => by simp at z⟩
  | x :: l, _, h => by
    cases h with
    | cons a r =>
      obtain ⟨h1, h2⟩ := dpall_getM f r
      refine ⟨by rw [List.length_cons, h1]; rfl, fun k y z => ?_⟩
      cases k with
      | zero => cases z; exact ⟨_, rfl, a⟩
      | succ k => exact h2 k y z
theorem row_open {K : PySem.W.Frag} {H : Hp} {v : V} {D : Mat} {m a : Nat} (h : Dp K H v (rowPD D m a)) : ∃ r, v = .ref r ∧ SqT K H r (rowV D m a) := by
  unfold rowPD at h
  cases h with
  | tup q r =>
    have e := dps_oPD (fun b => D a b) r
    subst e
    exact ⟨_, rfl, q⟩
theorem row_mk {K : PySem.W.Frag} {H : Hp} {r : Addr} {D : Mat} {m a : Nat} (h : SqT K H r (rowV D m a)) : Dp K H (.ref r) (rowPD D m a) := .tup h (oVs_dp _ _)
/-- closed bounds that stand at v -/
theorem clo_open_at {K : PySem.W.Frag} {H : Hp} {v : V} {D : Mat} {m : Nat} (h : Fd K H v (cloPD D m)) : ∃ t rs, v = .ref t ∧ SqT K H t rs ∧ rs.length = m + 1 ∧ ∀ a, a ≤ m → ∃ r, rs[a]? = some (.ref r) ∧ SqT K H r (rowV D m a) := by
  obtain ⟨_, h⟩ := h
  unfold cloPD at h
  cases h with
  | tup q r =>
    obtain ⟨hl, hg⟩ := dpall_getM _ r
    rw [List.length_range] at hl
    refine ⟨_, _, rfl, q, hl, fun a ha => ?_⟩
    obtain ⟨v, hv, hd⟩ := hg a a (List.getElem?_range (by omega))
    obtain ⟨r, rfl, hr⟩ := row_open hd
    exact ⟨r, hv, hr⟩
theorem rowV_at (D : Mat) (m a : Nat) {b : Nat} (hb : b ≤ m) : (rowV D m a)[b]? = some (oV (D a b)) := by
  unfold rowV
  rw [List.getElem?_map, List.getElem?_range (by omega)]
  rfl
theorem rowV_len (D : Mat) (m a : Nat) : (rowV D m a).length = m + 1 := by unfold rowV; rw [List.length_map, List.length_range]
/-- a number's place -/
def pl (m : Nat) (i : Int) : Nat := if i = -1 then m else i.toNat
theorem pl_le {m : Nat} {i : Int} (h1 : -1 ≤ i) (h2 : i < m) : pl m i ≤ m := by unfold pl; split <;> omega
theorem at_pl {xs : List V} {m : Nat} {i : Int} {v : V} (hl : xs.length = m + 1) (h1 : -1 ≤ i) (h2 : i < m) (h : xs[pl m i]? = some v) : atI xs i = some v := by
  unfold atI ixN
  unfold pl at h
  by_cases e : i = -1
  · rw [if_pos e] at h
    rw [if_neg (by omega), if_pos (by omega)]
    have z : (i + (xs.length : Int)).toNat = m := by omega
    show xs[(i + (xs.length : Int)).toNat]? = some v
    rw [z]; exact h
  · rw [if_neg e] at h
    rw [if_pos (by omega), if_pos (by omega)]
    exact h
theorem scal_o (o : Option Int) : ∀ i : Int, oV o = .int i → o = some i := by cases o <;> intro i h <;> cases h; rfl
def oB : Option Bool → V
  | none => .non
  | some b => .bl b
theorem nonO (o : Option Int) : decide (oV o = V.non) = o.isNone := by
  cases o with
  | none => rfl
  | some i => exact decide_eq_false (fun z => by cases z)
theorem dpall_app' {K : PySem.W.Frag} {H : Hp} : ∀ {xs ys : List V} {ds es : List PyData}, DpAll K H xs ds → DpAll K H ys es → DpAll K H (xs ++ ys) (ds ++ es)
  | [], _, _, _, .nil, b => b
  | _ :: _, _, _, _, .cons a r, b => .cons a (dpall_app' r b)
section
variable {P : Program} {w : World} {K : PySem.W.Frag} {mg : Str → Option Value} {base : Heap}
abbrev s_open_bounds : Stmt := topS 2
theorem sc_open_bounds : FnScope ["many", "i", "j"] ["many"] (defScope s_open_bounds) := ⟨rfl, rfl, rfl, by decide +kernel, rfl, by decide +kernel, by decide +kernel⟩
def spOpen (K : PySem.W.Frag) : Sp := fun vs H Q _ => ∃ m : Nat, vs = [.int m] ∧ m ≤ 100 ∧ ∀ (v : V) (H' : Hp), Same H H' → Fd K H' v (cloPD openF m) → Q v H'
theorem ok_open_bounds (B : Bt mg) (D : DefAt K mg "open_bounds" s_open_bounds ["many"]) : Cal P w K mg base 1 "open_bounds" ["many"] (spOpen K) := by
  refine cal_of D sc_open_bounds (fun vs H Q E h => ?_) (fun f cdv A outer s H vs Q E hr h => ?_)
  · obtain ⟨m, rfl, _⟩ := h
    rfl
  obtain ⟨m, rfl, hm, q⟩ := h
  refine ⟨_, (pss_one (ps_ret (pe_callTy call_tuple_of (by rfl) B.tuple PyProof.Rows.boot_tuple (pa_cons (pe_lc (own := [("i", 1)]) (g := gName 1) rfl sc_open_bounds.nd (pi_range1 (by rfl) B.range (pa_cons (pe_op op_add (pv 0) pe_int) pa_nil)) (blkOk_by (own := [("i", 1)]) (N := ["many", "i", "j"]) (sc := defScope s_open_bounds) (by decide +kernel)) (fun _ _ _ _ _ => (pg_name (i := 1) sc_open_bounds.nd rfl (.inr rfl))) (fun _ _ _ _ _ => pts_nil) (fun _ _ _ _ _ => (pe_callTy (call_tuple_ofK (K := K) rfl) (by rfl) B.tuple PyProof.Rows.boot_tuple (pa_cons (pe_lc (own := [("j", 2)]) (g := gName 2) rfl sc_open_bounds.nd (pi_range1 (by rfl) B.range (pa_cons (pe_op op_add (pv 0) pe_int) pa_nil)) (blkOk_by (own := [("j", 2)]) (N := ["many", "i", "j"]) (by rfl)) (fun _ _ _ _ _ => (pg_name (i := 2) sc_open_bounds.nd rfl (.inl rfl))) (fun _ _ _ _ _ => pts_nil) (fun _ _ _ _ _ => (pe_ifExp (pt_cmpR op_eq (pv 1) (pv 2) (nomark _)) pe_int pe_non))) pa_nil)))) pa_nil)))), ?_⟩
  have n1 : ((m : Int) + 1).toNat = m + 1 := by omega
  refine ⟨_, rfl, _, _, rfl, rfl, (m : Int) + 1, rfl, by omega, by omega, fun D hD => lc_range (lo := 0) (n := ((m : Int) + 1).toNat) (fun i H' => Same H H' ∧ ∃ us, H' D = some (.lst us) ∧ us.length = i ∧ DpAll K H' us ((List.range i).map fun a => rowPD openF m a)) ?_ ?_ ?_⟩
  · exact ⟨same_new hD, [], upd_same, rfl, .nil⟩
  · rintro i H' hi ⟨s', us, hD', ul, hus⟩
    refine ⟨rfl, _, rfl, _, _, rfl, rfl, (m : Int) + 1, rfl, by omega, by omega, fun D2 hD2 => lc_range (lo := 0) (n := ((m : Int) + 1).toNat) (fun j H2 => Same H' H2 ∧ H2 D2 = some (.lst ((List.range j).map fun b => oV (openF i b)))) ?_ ?_ ?_⟩
    · exact ⟨same_new hD2, by rw [upd_same]; rfl⟩
    · rintro j H2 hj ⟨s2, hD2'⟩
      have fin : ∀ o : Option Int, openF i j = o → ∃ acc, H2 D2 = some (.lst acc) ∧ acc.length < sizeLine ∧ (Same H' (upd H2 D2 (.lst (acc ++ [oV o]))) ∧ (upd H2 D2 (.lst (acc ++ [oV o]))) D2 = some (.lst ((List.range (j + 1)).map fun b => oV (openF i b)))) := fun o ho => by
        refine ⟨_, hD2', by rw [List.length_map, List.length_range]; exact smallL (by omega), fun b u z => ?_, ?_⟩
        · rw [upd_ne (ne_of_none z hD2)]
          exact s2 _ _ z
        · rw [upd_same, List.range_succ, List.map_append, ← ho]
          rfl
      refine ⟨rfl, _, rfl, _, rfl, rfl, _, rfl, ite2 (fun c => ?_) (fun c => ?_)⟩
      · have e : i = j := by
          have z := V.int.inj (of_decide_eq_true c)
          omega
        exact fin (some 0) (if_pos e)
      · exact fin none (if_neg fun e => c (decide_eq_true (by rw [e])))
    · rintro H3 ⟨s3, hD3⟩
      rw [n1] at hD3
      refine ⟨D2, _, rfl, .inl ⟨SqL.of hD3, fun t ht => ?_⟩⟩
      have s4 : Same H' (upd H3 t (.tup ((List.range (m + 1)).map fun b => oV (openF i b)))) := s3.trans (same_new ht)
      have e4 : (upd H3 t (.tup ((List.range (m + 1)).map fun b => oV (openF i b)))) t = some (.tup (rowV openF m i)) := upd_same
      generalize upd H3 t (.tup ((List.range (m + 1)).map fun b => oV (openF i b))) = H4 at s4 e4
      have hD4 := s4 _ _ hD'
      have t5 : Tp K H4 (upd H4 D (.lst (us ++ [.ref t]))) := Tp.lst hD4
      refine ⟨us, hD4, smallL (by omega), fun b u z => ?_, us ++ [.ref t], upd_same, by rw [List.length_append, ul]; rfl, ?_⟩
      · rw [upd_ne (ne_of_none z hD)]
        exact s4 _ _ (s' _ _ z)
      · rw [List.range_succ, List.map_append]
        exact dpall_app' (dps_keep ((Tp.same s4).trans t5) _ _ (flats_map _ (fun a => rowPD_flat openF m a) _) hus) (.cons (row_mk (t5 _ _ (.inl (.inl e4)))) .nil)
  · rintro H1 ⟨s1, us, hD1, ul, hus⟩
    rw [n1] at hus
    refine ⟨D, us, rfl, .inl ⟨SqL.of hD1, fun t ht => q _ _ (s1.trans (same_new ht)) ⟨cloPD_flat _ _, .tup (.inl (.inl upd_same)) (dps_keep (Tp.new ht) _ _ (flats_map _ (fun a => rowPD_flat openF m a) _) hus)⟩⟩⟩
abbrev s_known : Stmt := topS 4
theorem sc_known : FnScope ["closed", "i", "j", "c", "there", "back"] ["closed", "i", "j", "c"] (defScope s_known) := ⟨rfl, rfl, rfl, by decide +kernel, rfl, by decide +kernel, by decide +kernel⟩
def spKnown (K : PySem.W.Frag) : Sp := fun vs H Q _ => ∃ (v : V) (D : Mat) (m : Nat) (i j c : Int), vs = [v, .int i, .int j, .int c] ∧ Fd K H v (cloPD D m) ∧ -1 ≤ i ∧ i < m ∧ -1 ≤ j ∧ j < m ∧ Q (oB (knownF D (pl m i) (pl m j) c)) H
theorem ok_known (B : Bt mg) (D : DefAt K mg "known" s_known ["closed", "i", "j", "c"]) : Cal P w K mg base 1 "known" ["closed", "i", "j", "c"] (spKnown K) := by
  refine cal_of D sc_known (fun vs H Q E h => ?_) (fun f cdv A outer s H vs Q E hr h => ?_)
  · obtain ⟨v, D, m, i, j, c, rfl, _⟩ := h
    rfl
  obtain ⟨v, D, m, i, j, c, rfl, hv, i1, i2, j1, j2, q⟩ := h
  refine ⟨_, (pss_cons (ps_par (i := 4) (j := 5) rfl sc_known.nd rfl rfl (by decide) rfl rfl (pa_cons (pe_ix ix_tup (pe_ix ix_tup (pv 0) (pv 1) (fun _ _ => rfl)) (pv 2) (fun _ _ => rfl)) (pa_cons (pe_ix ix_tup (pe_ix ix_tup (pv 0) (pv 2) (fun _ _ => rfl)) (pv 1) (fun _ _ => rfl)) pa_nil)) rfl)
      (pss_cons (ps_if (PW.pt (pw_and (pt_cmpR op_notN (pv 4) pe_non (nomark _)) (pw_and1 (pt_cmpR op_le (pv 4) (pv 3) (nomark _)))))
        (pss_one (ps_ret pe_bl))
        pss_nil)
      (pss_cons (ps_if (PW.pt (pw_and (pt_cmpR op_notN (pv 5) pe_non (nomark _)) (pw_and1 (pt_cmpR op_lt (pe_op op_add (pv 5) (pv 3)) pe_int (nomark _)))))
        (pss_one (ps_ret pe_bl))
        pss_nil)
      (pss_one (ps_ret pe_non))))), ?_⟩
  obtain ⟨t, rs, rfl, ht, hl, hrow⟩ := clo_open_at hv
  obtain ⟨r1, e1, h1⟩ := hrow (pl m i) (pl_le i1 i2)
  obtain ⟨r2, e2, h2⟩ := hrow (pl m j) (pl_le j1 j2)
  refine ⟨_, rfl, _, rfl, t, rs, i, _, rfl, rfl, ht, at_pl hl i1 i2 e1, _, rfl, r1, _, j, _, rfl, rfl, h1, at_pl (rowV_len D m _) j1 j2 (rowV_at D m _ (pl_le j1 j2)), ?_⟩
  refine ⟨_, rfl, _, rfl, t, rs, j, _, rfl, rfl, ht, at_pl hl j1 j2 e2, _, rfl, r2, _, i, _, rfl, rfl, h2, at_pl (rowV_len D m _) i1 i2 (rowV_at D m _ (pl_le i1 i2)), ?_⟩
  refine ⟨_, _, rfl, ?_⟩
  unfold knownF at q
  generalize D (pl m i) (pl m j) = o1 at q
  generalize D (pl m j) (pl m i) = o2 at q
  have c1 : ∀ t, o1 = some t → (t ≤ c → Q (.bl true) H) := fun t e l => by
    rw [e] at q
    rw [if_pos (show leB (some t) c = true from decide_eq_true l)] at q
    exact q
  have c2 : ¬ leB o1 c = true → Q (oB (if ltB o2 c = true then some false else none)) H := fun n => by
    rw [if_neg n] at q
    exact q
  have c3 : ∀ t, o2 = some t → ¬ leB o1 c = true → (t + c < 0 → Q (.bl false) H) ∧ (¬ t + c < 0 → Q .non H) := fun t e n => by
    have q' := c2 n
    rw [e] at q'
    refine ⟨fun l => ?_, fun l => ?_⟩
    · rw [if_pos (show ltB (some t) c = true from decide_eq_true l)] at q'
      exact q'
    · rw [if_neg (show ¬ ltB (some t) c = true from fun z => l (of_decide_eq_true z))] at q'
      exact q'
  have c4 : o2 = none → ¬ leB o1 c = true → Q .non H := fun e n => by
    have q' := c2 n
    rw [e] at q'
    exact q'
  cases o1 with
  | none =>
    refine ⟨_, rfl, rfl, _, rfl, iteF ?_⟩
    have n : ¬ leB none c = true := Bool.false_ne_true
    cases o2 with
    | none => exact ⟨_, rfl, rfl, _, rfl, iteF (c4 rfl n)⟩
    | some b =>
      refine ⟨_, rfl, rfl, _, rfl, iteT ⟨_, rfl, _, rfl, _, _, rfl, rfl, _, _, rfl, rfl, _, rfl, ite2 (fun z => ?_) (fun z => ?_)⟩⟩
      · exact (c3 b rfl n).1 (of_decide_eq_true z)
      · exact (c3 b rfl n).2 fun l => z (decide_eq_true l)
  | some t =>
    refine ⟨_, rfl, rfl, _, rfl, iteT ⟨_, rfl, _, rfl, _, _, rfl, rfl, _, rfl, ite2 (fun z => ?_) (fun z => ?_)⟩⟩
    · exact c1 t rfl (of_decide_eq_true z)
    have n : ¬ leB (some t) c = true := fun y => z y
    cases o2 with
    | none => exact ⟨_, rfl, rfl, _, rfl, iteF (c4 rfl n)⟩
    | some b =>
      refine ⟨_, rfl, rfl, _, rfl, iteT ⟨_, rfl, _, rfl, _, _, rfl, rfl, _, _, rfl, rfl, _, rfl, ite2 (fun z => ?_) (fun z => ?_)⟩⟩
      · exact (c3 b rfl n).1 (of_decide_eq_true z)
      · exact (c3 b rfl n).2 fun l => z (decide_eq_true l)
abbrev s_lesser : Stmt := topS 6
theorem sc_lesser : FnScope ["old", "way", "more"] ["old", "way", "more"] (defScope s_lesser) := ⟨rfl, rfl, rfl, by decide +kernel, rfl, by decide +kernel, by decide +kernel⟩
def spLess : Sp := fun vs H Q _ => ∃ (o p : Option Int) (w : Int), vs = [oV o, .int w, oV p] ∧ Q (oV (lesserF o w p)) H
theorem ok_lesser (D : DefAt K mg "lesser" s_lesser ["old", "way", "more"]) : Cal P w K mg base 1 "lesser" ["old", "way", "more"] (spLess) := by
  refine cal_of D sc_lesser (fun vs H Q E h => ?_) (fun f cdv A outer s H vs Q E hr h => ?_)
  · obtain ⟨o, p, w, rfl, _⟩ := h
    rfl
  obtain ⟨o, p, w, rfl, q⟩ := h
  refine ⟨_, (pss_cons (ps_if (PW.pt (pw_or (pt_cmpR op_isN (pv 2) pe_non (nomark _)) (pw_or1 (PW.pt (pw_and (pt_cmpR op_notN (pv 0) pe_non (nomark _)) (pw_and1 (pt_cmpR op_le (pv 0) (pe_op op_add (pv 1) (pv 2)) (nomark _))))))))
        (pss_one (ps_ret (pv 0)))
        pss_nil)
      (pss_one (ps_ret (pe_op op_add (pv 1) (pv 2))))), ?_⟩
  cases p with
  | none => exact ⟨_, rfl, rfl, _, rfl, iteT ⟨_, rfl, q⟩⟩
  | some y =>
    cases o with
    | none => exact ⟨_, rfl, rfl, _, rfl, iteF ⟨_, rfl, rfl, _, rfl, iteF ⟨_, rfl, _, rfl, _, _, rfl, rfl, q⟩⟩⟩
    | some x =>
      have q' : Q (oV (if x ≤ w + y then some x else some (w + y))) H := q
      refine ⟨_, rfl, rfl, _, rfl, iteF ⟨_, rfl, rfl, _, rfl, iteT ⟨_, rfl, _, rfl, _, rfl, _, _, rfl, rfl, _, _, rfl, rfl, _, rfl, ite2 (fun z => ?_) (fun z => ?_)⟩⟩⟩
      · rw [if_pos (of_decide_eq_true z)] at q'
        exact ⟨_, rfl, q'⟩
      · rw [if_neg fun l => z (decide_eq_true l)] at q'
        exact ⟨_, rfl, _, rfl, _, _, rfl, rfl, q'⟩
abbrev s_row_through : Stmt := topS 5
theorem sc_row_through : FnScope ["row", "way", "onward", "old", "more"] ["row", "way", "onward"] (defScope s_row_through) := ⟨rfl, rfl, rfl, by decide +kernel, rfl, by decide +kernel, by decide +kernel⟩
def spThrough (K : PySem.W.Frag) : Sp := fun vs H Q _ => ∃ (r1 r2 : Addr) (f g : Nat → Option Int) (m : Nat) (w : Int), vs = [.ref r1, .int w, .ref r2] ∧ m ≤ 100 ∧ SqT K H r1 ((List.range (m + 1)).map fun b => oV (f b)) ∧ SqT K H r2 ((List.range (m + 1)).map fun b => oV (g b)) ∧
  ∀ (t : Addr) (H' : Hp), Same H H' → H' t = some (.tup ((List.range (m + 1)).map fun b => oV (lesserF (f b) w (g b)))) → Q (.ref t) H'
theorem range_atV {n k : Nat} {f : Nat → V} {x : V} (h : ((List.range n).map f)[k]? = some x) : k < n ∧ x = f k := by
  have l := (List.getElem?_eq_some_iff.mp h).1
  rw [List.length_map, List.length_range] at l
  rw [List.getElem?_map, List.getElem?_range l] at h
  exact ⟨l, (Option.some.inj h).symm⟩
theorem ok_row_through (B : Bt mg) (C_lesser : Cal P w K mg base 1 "lesser" ["old", "way", "more"] (spLess)) (D : DefAt K mg "row_through" s_row_through ["row", "way", "onward"]) : Cal P w K mg base 2 "row_through" ["row", "way", "onward"] (spThrough K) := by
  refine cal_of D sc_row_through (fun vs H Q E h => ?_) (fun f cdv A outer s H vs Q E hr h => ?_)
  · obtain ⟨r1, r2, f, g, m, w, rfl, _⟩ := h
    rfl
  obtain ⟨r1, r2, f, g, m, w, rfl, hm, h1, h2, q⟩ := h
  have hr' : Room 1 _ := hr
  refine ⟨_, (pss_one (ps_ret (pe_callTy call_tuple_of (by rfl) B.tuple PyProof.Rows.boot_tuple (pa_cons (pe_lc (own := [("old", 3), ("more", 4)]) (g := gTup K 2 (gCons (gName 3) (gCons (gName 4) gNil))) rfl sc_row_through.nd (pi_zipA (by rfl) B.zip (pa_cons (pv 0) (pa_cons (pv 2) pa_nil))) (blkOk_by (own := [("old", 3), ("more", 4)]) (N := ["row", "way", "onward", "old", "more"]) (sc := defScope s_row_through) (by decide +kernel)) (fun _ _ _ _ _ => (pg_tupK (K := K) rfl rfl (pgs_cons (pg_name (i := 3) sc_row_through.nd rfl (.inl rfl)) (pgs_cons (pg_name (i := 4) sc_row_through.nd rfl (.inl rfl)) pgs_nil)))) (fun _ _ _ _ _ => pts_nil) (fun _ _ _ _ _ => (pe_cal C_lesser hr' (by rfl) (pa_cons (pv 3) (pa_cons (pv 1) (pa_cons (pv 4) pa_nil)))))) pa_nil)))), ?_⟩
  refine ⟨_, rfl, _, rfl, r1, r2, _, _, rfl, .inr ⟨h1, h2, fun D hD => lc_it (walk_zipT (K := K) (a := r1) (b := r2) (xs := (List.range (m + 1)).map fun b => oV (f b)) (ys := (List.range (m + 1)).map fun b => oV (g b)) (n := m + 1) (by simp)) (fun j H' => Same H H' ∧ H' D = some (.lst ((List.range j).map fun b => oV (lesserF (f b) w (g b))))) ?_ ?_ ?_ ?_⟩⟩
  · exact ⟨same_new hD, upd_same⟩
  · rintro j H' _ ⟨s', _⟩
    exact ⟨Tp.same s' _ _ h1, Tp.same s' _ _ h2⟩
  · rintro j x H1 H2 hj ⟨s', hD'⟩ ⟨T, p, y, rfl, hT, rfl, hp, hy⟩
    have sm2 : Same H1 (upd H1 T (.tup [p, y])) := same_new hT
    refine ⟨T, _, rfl, .inl (.inl upd_same), rfl, _, _, rfl, _, _, rfl, rfl, ?_⟩
    obtain ⟨_, rfl⟩ := range_atV hp
    obtain ⟨_, rfl⟩ := range_atV hy
    refine ⟨rfl, _, rfl, _, rfl, _, rfl, f j, g j, w, rfl, _, sm2 _ _ hD', by rw [List.length_map, List.length_range]; exact smallL (by omega), fun b o z => ?_, ?_⟩
    · rw [upd_ne (ne_of_none z hD)]
      exact sm2 _ _ (s' _ _ z)
    · rw [upd_same, List.range_succ, List.map_append]
      rfl
  · rintro H1 ⟨s1, hD1⟩
    refine ⟨D, _, rfl, .inl ⟨SqL.of hD1, fun t ht => q t _ (s1.trans (same_new ht)) upd_same⟩⟩
abbrev s_tightened : Stmt := topS 3
theorem sc_tightened : FnScope ["closed", "i", "j", "c", "answer", "tight", "row"] ["closed", "i", "j", "c"] (defScope s_tightened) := ⟨rfl, rfl, rfl, by decide +kernel, rfl, by decide +kernel, by decide +kernel⟩
def oClo (m : Nat) : Option Mat → PyData
  | none => .none
  | some D => cloPD D m
theorem oClo_flat (m : Nat) (o : Option Mat) : flat (oClo m o) = true := by
  cases o
  · rfl
  · exact cloPD_flat _ _
def spTight (K : PySem.W.Frag) : Sp := fun vs H Q _ => ∃ (v : V) (D : Mat) (m : Nat) (i j c : Int), vs = [v, .int i, .int j, .int c] ∧ m ≤ 100 ∧ Fd K H v (cloPD D m) ∧ -1 ≤ i ∧ i < m ∧ -1 ≤ j ∧ j < m ∧ ∀ (u : V) (H' : Hp), Same H H' → Fd K H' u (oClo m (tightF D (pl m i) (pl m j) c)) → Q u H'
theorem ok_tightened (B : Bt mg) (C_known : Cal P w K mg base 1 "known" ["closed", "i", "j", "c"] (spKnown K)) (C_row_through : Cal P w K mg base 2 "row_through" ["row", "way", "onward"] (spThrough K)) (D : DefAt K mg "tightened" s_tightened ["closed", "i", "j", "c"]) : Cal P w K mg base 3 "tightened" ["closed", "i", "j", "c"] (spTight K) := by
  refine cal_of D sc_tightened (fun vs H Q E h => ?_) (fun f cdv A outer s H vs Q E hr h => ?_)
  · obtain ⟨v, D, m, i, j, c, rfl, _⟩ := h
    rfl
  obtain ⟨v, D, m, i, j, c, rfl, hm, hv, i1, i2, j1, j2, q⟩ := h
  have hr' : Room 2 _ := hr
  have C_known := C_known.mono (k := 2) (by decide)
  refine ⟨_, (pss_cons (ps_set (i := 4) sc_tightened.nd rfl (.inl rfl) (pe_cal C_known hr' (by rfl) (pa_cons (pv 0) (pa_cons (pv 1) (pa_cons (pv 2) (pa_cons (pv 3) pa_nil))))))
      (pss_cons (ps_if (pt_cmpR op_notN (pv 4) pe_non (nomark _))
        (pss_one (ps_ret (pe_ifExp (pt_val (pv 4)) (pv 0) pe_non)))
        pss_nil)
      (pss_cons (ps_set (i := 5) sc_tightened.nd rfl (.inl rfl) (pe_lst pa_nil))
      (pss_cons (ps_for PassesOwn.never rfl (pi_tup (pv 0)) (pg_name (i := 6) sc_tightened.nd rfl (.inl rfl))
        (pss_one (ps_if (pt_cmpR op_isN (pe_ix ix_tup (pv 6) (pv 1) (fun _ _ => rfl)) pe_non (nomark _))
        (pss_one (ps_expr (pe_bm PySem.F.plainAttrs_list PySem.F.slot_list_append PySem.F.type_list_append mt_append (pv 5) (pa_cons (pv 6) pa_nil))))
        (pss_one (ps_expr (pe_bm PySem.F.plainAttrs_list PySem.F.slot_list_append PySem.F.type_list_append mt_append (pv 5) (pa_cons (pe_cal C_row_through hr' (by rfl) (pa_cons (pv 6) (pa_cons (pe_op op_add (pe_ix ix_tup (pv 6) (pv 1) (fun _ _ => rfl)) (pv 3)) (pa_cons (pe_ix ix_tup (pv 0) (pv 2) (fun _ _ => rfl)) pa_nil)))) pa_nil)))))))
      (pss_one (ps_ret (pe_callTy call_tuple_of (by rfl) B.tuple PyProof.Rows.boot_tuple (pa_cons (pv 5) pa_nil)))))))), ?_⟩
  obtain ⟨t, rs, rfl, ht, hl, hrow⟩ := clo_open_at hv
  refine ⟨_, rfl, _, rfl, _, rfl, _, rfl, .ref t, D, m, i, j, c, rfl, hv, i1, i2, j1, j2, ?_⟩
  unfold tightF at q
  have hpi := pl_le i1 i2
  have hpj := pl_le j1 j2
  cases hk : knownF D (pl m i) (pl m j) c with
  | some b =>
    rw [hk] at q
    refine ⟨_, rfl, rfl, _, rfl, iteT ⟨_, rfl, b, rfl, ?_⟩⟩
    cases b with
    | true => exact iteT ⟨_, rfl, q _ _ (Same.refl _) hv⟩
    | false => exact iteF (q _ _ (Same.refl _) ⟨rfl, .non⟩)
  | none =>
    rw [hk] at q
    refine ⟨_, rfl, rfl, _, rfl, iteF ⟨(by show 0 ≤ sizeLine; decide), fun L hL => ?_⟩⟩
    have s1 := same_new (o := .lst []) hL
    have e1 : (upd H L (.lst [])) L = some (.lst []) := upd_same
    generalize upd H L (.lst []) = H1 at s1 e1
    refine ⟨_, rfl, t, rfl, ⟨_, Tp.same s1 _ _ ht⟩, for_tup (K := K) (a := t) (xs := rs) (fun a σ' H' => (∃ y6 : Option V, σ' = [some (.ref t), some (.int i), some (.int j), some (.int c), some (oB none), some (.ref L), y6]) ∧ Same H H' ∧ ∃ us, H' L = some (.lst us) ∧ us.length = a ∧ DpAll K H' us ((List.range a).map fun a => rowPD (stepF D (pl m i) (pl m j) c) m a)) ?_ ?_ ?_ ?_⟩
    · exact ⟨⟨_, rfl⟩, s1, [], e1, rfl, .nil⟩
    · rintro a σ' H' _ ⟨_, s', _⟩
      exact Tp.same s' _ _ ht
    · rintro a x σ' H' hx ⟨⟨y6, rfl⟩, s', us, hL', ul, hus⟩
      have al : a < m + 1 := by rw [← hl]; exact (List.getElem?_eq_some_iff.mp hx).1
      obtain ⟨r, er, hr1⟩ := hrow a (by omega)
      rw [hx] at er
      cases er
      have hr2 := Tp.same s' _ _ hr1
      have hat : atI (rowV D m a) i = some (oV (D a (pl m i))) := at_pl (rowV_len D m a) i1 i2 (rowV_at D m a hpi)
      have fin : ∀ (H2 : Hp) (r' : Addr), Same H' H2 → SqT K H2 r' (rowV (stepF D (pl m i) (pl m j) c) m a) → Same H (upd H2 L (.lst (us ++ [.ref r']))) ∧ ∃ us2, (upd H2 L (.lst (us ++ [.ref r']))) L = some (.lst us2) ∧ us2.length = a + 1 ∧ DpAll K (upd H2 L (.lst (us ++ [.ref r']))) us2 ((List.range (a + 1)).map fun a => rowPD (stepF D (pl m i) (pl m j) c) m a) := fun H2 r' s2 hq => by
        have hL2 := s2 _ _ hL'
        have t2 : Tp K H2 (upd H2 L (.lst (us ++ [.ref r']))) := Tp.lst hL2
        refine ⟨fun b o z => ?_, us ++ [.ref r'], upd_same, by rw [List.length_append, ul]; rfl, ?_⟩
        · rw [upd_ne (ne_of_none z hL)]
          exact s2 _ _ (s' _ _ z)
        · rw [List.range_succ, List.map_append]
          exact dpall_app' (dps_keep ((Tp.same s2).trans t2) _ _ (flats_map _ (fun a => rowPD_flat _ m a) _) hus) (.cons (row_mk (t2 _ _ hq)) .nil)
      cases e : D a (pl m i) with
      | none =>
        rw [e] at hat
        refine ⟨_, rfl, _, rfl, r, _, i, _, rfl, rfl, hr2, hat, rfl, _, rfl, iteT ?_⟩
        have ev : rowV (stepF D (pl m i) (pl m j) c) m a = rowV D m a := by
          unfold rowV
          congr 1
          funext b
          unfold stepF
          rw [e]
        refine ⟨_, rfl, .inl ⟨rfl, _, SqL.of hL'⟩, _, rfl, L, us, _, rfl, rfl, hL', smallL (by omega), ?_⟩
        exact ⟨⟨_, rfl⟩, fin H' r (Same.refl _) (by rw [ev]; exact hr2)⟩
      | some w =>
        rw [e] at hat
        obtain ⟨rj, ej, hrj⟩ := hrow (pl m j) hpj
        have ev : rowV (stepF D (pl m i) (pl m j) c) m a = (List.range (m + 1)).map fun b => oV (lesserF (D a b) (w + c) (D (pl m j) b)) := by
          unfold rowV
          congr 1
          funext b
          unfold stepF
          rw [e]
        refine ⟨_, rfl, _, rfl, r, _, i, _, rfl, rfl, hr2, hat, rfl, _, rfl, iteF ?_⟩
        refine ⟨_, rfl, .inl ⟨rfl, _, SqL.of hL'⟩, _, rfl, _, rfl, _, rfl, r, _, i, _, rfl, rfl, hr2, hat, _, rfl, _, _, rfl, rfl, _, rfl, _, rfl, t, rs, j, _, rfl, rfl, Tp.same s' _ _ ht, at_pl hl j1 j2 ej, ?_⟩
        refine ⟨r, rj, D a, D (pl m j), m, w + c, rfl, hm, hr2, Tp.same s' _ _ hrj, fun t2 H2 s2 ht2 => ?_⟩
        refine ⟨L, us, _, rfl, rfl, s2 _ _ hL', smallL (by omega), ?_⟩
        exact ⟨⟨_, rfl⟩, fin H2 t2 s2 (by rw [ev]; exact .inl (.inl ht2))⟩
    · rintro σ' H' ⟨⟨y6, rfl⟩, s', us, hL', ul, hus⟩
      rw [hl] at hus
      refine ⟨_, rfl, L, us, rfl, .inl ⟨SqL.of hL', fun t2 ht2 => q _ _ (s'.trans (same_new ht2)) ⟨cloPD_flat _ _, .tup (.inl (.inl upd_same)) (dps_keep (Tp.new ht2) _ _ (flats_map _ (fun a => rowPD_flat _ m a) _) hus)⟩⟩⟩
abbrev s_closed_by : Stmt := topS 9
theorem sc_closed_by : FnScope ["many", "rows", "closed", "i", "j", "c"] ["many", "rows"] (defScope s_closed_by) := ⟨rfl, rfl, rfl, by decide +kernel, rfl, by decide +kernel, by decide +kernel⟩
abbrev Row := Int × Int × Int
def rowD (r : Row) : PyData := .tuple [.int r.1, .int r.2.1, .int r.2.2]
theorem rowD_flat (r : Row) : flat (rowD r) = true := rfl
def RowOk (m : Nat) (r : Row) : Prop := -1 ≤ r.1 ∧ r.1 < m ∧ -1 ≤ r.2.1 ∧ r.2.1 < m
def edgeR (m : Nat) (r : Row) : Edge := (pl m r.1, pl m r.2.1, r.2.2)
def edges (m : Nat) (rs : List Row) : List Edge := rs.map (edgeR m)
theorem edges_ok {m : Nat} {rs : List Row} (h : ∀ r ∈ rs, RowOk m r) : ∀ e ∈ edges m rs, e.1 ≤ m ∧ e.2.1 ≤ m := fun e he => by
  obtain ⟨r, hr, rfl⟩ := List.mem_map.mp he
  obtain ⟨a, b, c, d⟩ := h r hr
  exact ⟨pl_le a b, pl_le c d⟩
theorem edges_drop (m : Nat) (rs : List Row) (a : Nat) (h : a < rs.length) : (edges m rs).drop a = edgeR m rs[a] :: (edges m rs).drop (a + 1) := by
  unfold edges
  rw [← List.map_drop, ← List.map_drop, List.drop_eq_getElem_cons h]
  rfl
theorem row_read {K : PySem.W.Frag} {H : Hp} {v : V} {r : Row} (h : Dp K H v (rowD r)) : ∃ t, v = .ref t ∧ SqT K H t [.int r.1, .int r.2.1, .int r.2.2] := by
  cases h with
  | tup q s =>
    cases s with
    | cons a s => cases s with
      | cons b s => cases s with
        | cons c s => cases s; cases a; cases b; cases c; exact ⟨_, rfl, q⟩
theorem row_dp {K : PySem.W.Frag} {H : Hp} {t : Addr} {r : Row} (h : SqT K H t [.int r.1, .int r.2.1, .int r.2.2]) : Dp K H (.ref t) (rowD r) := .tup h (.cons (.int _) (.cons (.int _) (.cons (.int _) .nil)))
def spClosed (K : PySem.W.Frag) : Sp := fun vs H Q _ => ∃ (m : Nat) (v : V) (rs : List Row), vs = [.int m, v] ∧ m ≤ 100 ∧ Fd K H v (.tuple (rs.map rowD)) ∧ (∀ r ∈ rs, RowOk m r) ∧ ∀ (u : V) (H' : Hp), Same H H' → Fd K H' u (oClo m (closedF (edges m rs) openF)) → Q u H'
theorem ok_closed_by (B : Bt mg) (C_open_bounds : Cal P w K mg base 1 "open_bounds" ["many"] (spOpen K)) (C_tightened : Cal P w K mg base 3 "tightened" ["closed", "i", "j", "c"] (spTight K)) (D : DefAt K mg "closed_by" s_closed_by ["many", "rows"]) : Cal P w K mg base 4 "closed_by" ["many", "rows"] (spClosed K) := by
  refine cal_of D sc_closed_by (fun vs H Q E h => ?_) (fun f cdv A outer s H vs Q E hr h => ?_)
  · obtain ⟨m, v, rs, rfl, _⟩ := h
    rfl
  obtain ⟨m, v, rs, rfl, hm, hv, hrs, q⟩ := h
  have hr' : Room 3 _ := hr
  have C_open_bounds := C_open_bounds.mono (k := 3) (by decide)
  refine ⟨_, (pss_cons (ps_set (i := 2) sc_closed_by.nd rfl (.inl rfl) (pe_cal C_open_bounds hr' (by rfl) (pa_cons (pv 0) pa_nil)))
      (pss_cons (ps_for PassesOwn.never rfl (pi_tup (pv 1)) (pg_tup rfl (pgs_cons (pg_name (i := 3) sc_closed_by.nd rfl (.inl rfl)) (pgs_cons (pg_name (i := 4) sc_closed_by.nd rfl (.inl rfl)) (pgs_cons (pg_name (i := 5) sc_closed_by.nd rfl (.inl rfl)) pgs_nil))))
        (pss_cons (ps_set (i := 2) sc_closed_by.nd rfl (.inl rfl) (pe_cal C_tightened hr' (by rfl) (pa_cons (pv 2) (pa_cons (pv 3) (pa_cons (pv 4) (pa_cons (pv 5) pa_nil))))))
      (pss_one (ps_if (pt_cmpR op_isN (pv 2) pe_non (nomark _))
        (pss_one (ps_ret pe_non))
        pss_nil))))
      (pss_one (ps_ret (pv 2))))), ?_⟩
  obtain ⟨_, hv2⟩ := id hv
  obtain ⟨t, xs, rfl, ht, hxs⟩ : ∃ t xs, v = .ref t ∧ SqT K H t xs ∧ DpAll K H xs (rs.map rowD) := by
    cases hv2 with
    | tup q r => exact ⟨_, _, rfl, q, r⟩
  obtain ⟨xl, xg⟩ := dpall_getM _ hxs
  refine ⟨_, rfl, m, rfl, hm, fun v0 H1 s1 h0 => ?_⟩
  refine ⟨_, rfl, t, rfl, ⟨_, Tp.same s1 _ _ ht⟩, for_tup (K := K) (a := t) (xs := xs) (fun a σ' H' => ∃ (vc : V) (D : Mat) (y3 y4 y5 : Option V), σ' = [some (.int m), some (.ref t), some vc, y3, y4, y5] ∧ Same H H' ∧ Fd K H' vc (cloPD D m) ∧ closedF (edges m rs) openF = closedF ((edges m rs).drop a) D) ?_ ?_ ?_ ?_⟩
  · exact ⟨v0, openF, none, none, none, rfl, s1, h0, rfl⟩
  · rintro a σ' H' _ ⟨_, _, _, _, _, _, s', _⟩
    exact Tp.same s' _ _ ht
  · rintro a x σ' H' hx ⟨vc, D, y3, y4, y5, rfl, s', hc, ec⟩
    have al : a < rs.length := by rw [← xl]; exact (List.getElem?_eq_some_iff.mp hx).1
    obtain ⟨x', hx', dx⟩ := xg a rs[a] (List.getElem?_eq_getElem al)
    rw [hx] at hx'
    cases hx'
    obtain ⟨tr, rfl, htr⟩ := row_read dx
    have hok := hrs rs[a] (List.getElem_mem al)
    have ed := edges_drop m rs a al
    rw [ed] at ec
    generalize rs[a] = r at htr hok ed ec dx
    obtain ⟨ri, rj, rc⟩ := r
    obtain ⟨o1, o2, o3, o4⟩ := hok
    refine ⟨tr, _, rfl, Tp.same s' _ _ htr, rfl, _, _, rfl, _, _, rfl, _, _, rfl, rfl, ?_⟩
    refine ⟨_, rfl, _, rfl, _, rfl, _, rfl, vc, D, m, ri, rj, rc, rfl, hm, hc, o1, o2, o3, o4, fun u H2 s2 hu => ?_⟩
    have ec2 : closedF (edges m rs) openF = (match tightF D (pl m ri) (pl m rj) rc with | none => none | some D' => closedF ((edges m rs).drop (a + 1)) D') := ec
    cases et : tightF D (pl m ri) (pl m rj) rc with
    | none =>
      rw [et] at hu ec2
      obtain ⟨_, hu⟩ := hu
      cases hu
      refine ⟨_, rfl, rfl, _, rfl, iteT ?_⟩
      refine q _ _ (s'.trans s2) ?_
      rw [ec2]
      exact ⟨rfl, .non⟩
    | some D2 =>
      rw [et] at hu ec2
      have nu : u ≠ .non := fun z => by
        obtain ⟨_, h2⟩ := hu
        rw [z] at h2
        cases h2
      refine ⟨_, rfl, rfl, _, rfl, ?_⟩
      rw [decide_eq_false nu]
      exact iteF ⟨u, D2, _, _, _, rfl, s'.trans s2, hu, ec2⟩
  · rintro σ' H' ⟨vc, D, y3, y4, y5, rfl, s', hc, ec⟩
    have e : (edges m rs).drop xs.length = [] := List.drop_eq_nil_of_le (by unfold edges; simp [xl])
    rw [e] at ec
    refine ⟨_, rfl, q _ _ s' ?_⟩
    rw [ec]
    exact hc
end
end Lm

set_option Elab.async false
set_option linter.all false
set_option maxRecDepth 100000
set_option maxHeartbeats 2000000
set_option pp.maxSteps 600
set_option pp.deepTerms.threshold 6
namespace Lm
open PySem PySem.Spec PyProof.Rows L2 LmR RZ
/-! ### Bounds -/
def bfl (m : Nat) (vg vc : V) : List (Str × V) := putF "closed" vc (putF "given" vg (putF "many" (.int m) []))
theorem n_gc : ¬ (("given" : Str) = "closed") := by decide +kernel
theorem n_mc : ¬ (("many" : Str) = "closed") := by decide +kernel
theorem n_mg : ¬ (("many" : Str) = "given") := by decide +kernel
theorem bfl_closed (m : Nat) (vg vc : V) : (bfl m vg vc).lookup ("closed" : Str) = some vc := by unfold bfl; rw [lookup_putF, if_pos rfl]
theorem bfl_given (m : Nat) (vg vc : V) : (bfl m vg vc).lookup ("given" : Str) = some vg := by unfold bfl; rw [lookup_putF, if_neg n_gc, lookup_putF, if_pos rfl]
theorem bfl_many (m : Nat) (vg vc : V) : (bfl m vg vc).lookup ("many" : Str) = some (.int m) := by unfold bfl; rw [lookup_putF, if_neg n_mc, lookup_putF, if_neg n_mg, lookup_putF, if_pos rfl]
theorem bfl_no (m : Nat) (vg vc : V) {x : Str} (h1 : ¬ x = "closed") (h2 : ¬ x = "given") (h3 : ¬ x = "many") : (bfl m vg vc).lookup x = none := by
  unfold bfl
  rw [lookup_putF, if_neg h1, lookup_putF, if_neg h2, lookup_putF, if_neg h3]
  rfl
/-- Bounds over m numbers, of the rows rs, stand at x -/
structure BdAt (K : PySem.W.Frag) (C : Addr) (H : Hp) (x : Addr) (m : Nat) (rs : List Row) : Prop where
  ob : ∃ dx vg vc, H x = some (.ins C dx (bfl m vg vc)) ∧ Fd K H vg (.tuple (rs.map rowD)) ∧ Fd K H vc (oClo m (closedF (edges m rs) openF))
  ok : ∀ r ∈ rs, RowOk m r
  hm : m ≤ 100
  hl : rs.length ≤ 100
theorem BdAt.keep {K : PySem.W.Frag} {C : Addr} {H H' : Hp} {x : Addr} {m : Nat} {rs : List Row} (h : BdAt K C H x m rs) (e : ∀ o, H x = some o → H' x = some o) (t : Tp K H H') : BdAt K C H' x m rs := by
  obtain ⟨dx, vg, vc, h1, h2, h3⟩ := h.ob
  exact ⟨⟨dx, vg, vc, e _ h1, h2.keep t, h3.keep t⟩, h.ok, h.hm, h.hl⟩
theorem BdAt.same {K : PySem.W.Frag} {C : Addr} {H H' : Hp} {x : Addr} {m : Nat} {rs : List Row} (h : BdAt K C H x m rs) (s : Same H H') : BdAt K C H' x m rs := h.keep (fun o z => s _ _ z) (Tp.same s)
theorem Tp.ins {K : PySem.W.Frag} {H : Hp} {p : Addr} {C dx : Addr} {fs : List (Str × V)} {o' : HO} (h : H p = some (.ins C dx fs)) : Tp K H (upd H p o') := Tp.put h (fun _ z => nomatch z) (fun _ _ z => nomatch z)
theorem rows_flat (rs : List Row) : flat (.tuple (rs.map rowD)) = true := flats_map _ rowD_flat rs
theorem sql_ins {K : PySem.W.Frag} {H : Hp} {p a : Addr} {C dx : Addr} {fs : List (Str × V)} {o' : HO} {xs : List V} (h : H p = some (.ins C dx fs)) (q : SqL K H a xs) : SqL K (upd H p o') a xs := by
  rcases q with (q | ⟨u, q⟩) | q
  · have n : a ≠ p := fun z => by rw [z, h] at q; cases q
    exact .inl (.inl (by rw [upd_ne n]; exact q))
  · have n : a ≠ p := fun z => by rw [z, h] at q; cases q
    exact .inl (.inr ⟨u, by rw [upd_ne n]; exact q⟩)
  · exact .inr q
theorem putF_len (f : Str) (v : V) : ∀ fs : List (Str × V), (putF f v fs).length ≤ fs.length + 1
  | [] => Nat.le_refl _
  | (g, x) :: r => by
    unfold putF
    split
    · simp
    · have := putF_len f v r
      simp
      omega
/-- the point that is told -/
def PtF (D : Mat) (m : Nat) (ns : List Int) : Prop := ns.length = m ∧ ∃ low : Nat → Int, (∀ a, a ≤ m → IsLow D m a (low a)) ∧ ∀ a, a < m → ns[a]? = some (low a - low m)
theorem low_one {D : Mat} {m a : Nat} {x y : Int} (h : IsLow D m a x) (g : IsLow D m a y) : x = y := by
  obtain ⟨b, hb, eb⟩ := h.2
  obtain ⟨c, hc, ec⟩ := g.2
  have h1 := h.1 c hc y ec
  have h2 := g.1 b hb x eb
  omega
theorem pt_one {D : Mat} {m : Nat} {ns ms : List Int} (h : PtF D m ns) (g : PtF D m ms) : ns = ms := by
  obtain ⟨l1, f, hf, e1⟩ := h
  obtain ⟨l2, g, hg, e2⟩ := g
  refine List.ext_getElem? fun a => ?_
  by_cases ha : a < m
  · rw [e1 a ha, e2 a ha, low_one (hf a (by omega)) (hg a (by omega)), low_one (hf m (Nat.le_refl _)) (hg m (Nat.le_refl _))]
  · rw [List.getElem?_eq_none (by omega), List.getElem?_eq_none (by omega)]
theorem clo_non {K : PySem.W.Frag} {H : Hp} {v : V} {m : Nat} {o : Option Mat} (h : Fd K H v (oClo m o)) : decide (v = .non) = o.isNone := by
  obtain ⟨_, h⟩ := h
  cases o with
  | none => cases h; rfl
  | some D => cases h; exact decide_eq_false (fun z => by cases z)
section
variable {P : Program} {w : World} {K : PySem.W.Frag} {mg : Str → Option Value} {base : Heap} {c_Bounds : Addr}
abbrev s_Bounds___init__ : Stmt := inClass (topS 8) 0
theorem sc_Bounds___init__ : FnScope ["self", "many", "rows", "i", "j", "c"] ["self", "many", "rows"] (defScope s_Bounds___init__) := ⟨rfl, rfl, rfl, by decide +kernel, rfl, by decide +kernel, by decide +kernel⟩
def BF : List Str := ["many", "given", "closed"]
def spInit (K : PySem.W.Frag) (C : Addr) : Sp := fun vs H Q _ => ∃ (x dx a : Addr) (m : Nat) (xs : List V) (rs : List Row), vs = [.ref x, .int m, .ref a] ∧ H x = some (.ins C dx []) ∧ (SqL K H a xs ∨ SqT K H a xs) ∧ DpAll K H xs (rs.map rowD) ∧ (∀ r ∈ rs, RowOk m r) ∧ m ≤ 100 ∧ rs.length ≤ 100 ∧
  ∀ H', (∀ b o, H b = some o → b ≠ x → H' b = some o) → BdAt K C H' x m rs → Q .non H'
theorem ok_Bounds_init {dvs : List V} {n : Nat} (B : Bt mg) (T_Bounds : ClsAt K mg "Bounds" c_Bounds BF) (C_closed_by : Cal P w K mg base 4 "closed_by" ["many", "rows"] (spClosed K)) (D : DefI K mg c_Bounds "Bounds" "Bounds.__init__" s_Bounds___init__ ["self", "many", "rows"] dvs n) : CalI P w K mg base 5 c_Bounds "Bounds" ["self", "many", "rows"] dvs n (spInit K c_Bounds) := by
  refine cali_of D sc_Bounds___init__ (fun vs H Q E h => ?_) (fun f cdv A outer s H vs Q E hr h => ?_)
  · obtain ⟨x, dx, a, m, xs, rs, rfl, _⟩ := h
    rfl
  obtain ⟨x, dx, a, m, xs, rs, rfl, hx, hxs, hd, hrs, hm, hl, q⟩ := h
  have hr' : Room 4 _ := hr
  refine ⟨_, (pss_cons (ps_fld (pv 0) (pv 1) rfl)
      (pss_cons (ps_fld (pv 0) (pe_callTy call_tuple_of (by rfl) B.tuple PyProof.Rows.boot_tuple (pa_cons (pe_lc (own := [("i", 3), ("j", 4), ("c", 5)]) (g := gTup K 3 (gCons (gName 3) (gCons (gName 4) (gCons (gName 5) gNil)))) rfl sc_Bounds___init__.nd (pi_lt (pv 2)) (blkOk_by (own := [("i", 3), ("j", 4), ("c", 5)]) (N := ["self", "many", "rows", "i", "j", "c"]) (sc := defScope s_Bounds___init__) (by decide +kernel)) (fun _ _ _ _ _ => (pg_tupK (K := K) rfl rfl (pgs_cons (pg_name (i := 3) sc_Bounds___init__.nd rfl (.inl rfl)) (pgs_cons (pg_name (i := 4) sc_Bounds___init__.nd rfl (.inl rfl)) (pgs_cons (pg_name (i := 5) sc_Bounds___init__.nd rfl (.inl rfl)) pgs_nil))))) (fun _ _ _ _ _ => pts_nil) (fun _ _ _ _ _ => (pe_tup (pa_cons (pv 3) (pa_cons (pv 4) (pa_cons (pv 5) pa_nil)))))) pa_nil)) rfl)
      (pss_one (ps_fld (pv 0) (pe_cal C_closed_by hr' (by rfl) (pa_cons (pv 1) (pa_cons (pe_fld (pv 0) rfl) pa_nil))) rfl)))), ?_⟩
  have nM := T_Bounds.n "many" (by simp [BF])
  have nG := T_Bounds.n "given" (by simp [BF])
  have nC := T_Bounds.n "closed" (by simp [BF])
  refine ⟨_, rfl, _, rfl, x, c_Bounds, dx, [], rfl, hx, T_Bounds.c, nM, (by show 0 < 1000; decide), ?_⟩
  have x1 : (upd H x (.ins c_Bounds dx (putF "many" (.int m) []))) x = some (.ins c_Bounds dx (putF "many" (.int m) [])) := upd_same
  have k1 : ∀ b o, H b = some o → b ≠ x → (upd H x (.ins c_Bounds dx (putF "many" (.int m) []))) b = some o := fun b o z n => by rw [upd_ne n]; exact z
  have t1 : Tp K H (upd H x (.ins c_Bounds dx (putF "many" (.int m) []))) := Tp.ins hx
  have hxs1 : SqL K (upd H x (.ins c_Bounds dx (putF "many" (.int m) []))) a xs ∨ SqT K (upd H x (.ins c_Bounds dx (putF "many" (.int m) []))) a xs := hxs.imp (fun z => sql_ins hx z) (fun z => t1 _ _ z)
  have hd1 := dps_keep t1 _ _ (rows_flat rs) hd
  generalize upd H x (.ins c_Bounds dx (putF "many" (.int m) [])) = H1 at x1 k1 t1 hxs1 hd1
  obtain ⟨xl, xg⟩ := dpall_getM _ hd1
  have step : ∀ (j : Nat) (y : V) (H' : Hp) (D : Addr), xs[j]? = some y → Same H1 H' → ∃ t r, y = .ref t ∧ rs[j]? = some r ∧ SqT K H' t [.int r.1, .int r.2.1, .int r.2.2] := fun j y H' D hy s' => by
    have jl : j < rs.length := by rw [← xl]; exact (List.getElem?_eq_some_iff.mp hy).1
    obtain ⟨v, hv, dv⟩ := xg j rs[j] (List.getElem?_eq_getElem jl)
    rw [hy] at hv
    cases hv
    obtain ⟨t, rfl, ht⟩ := row_read dv
    exact ⟨t, rs[j], rfl, List.getElem?_eq_getElem jl, Tp.same s' _ _ ht⟩
  have rest : ∀ (H2 : Hp) (t : Addr) (us : List V), Same H1 H2 → H2 t = some (.tup us) → DpAll K H2 us (rs.map rowD) → sFld K (tVar 0) (fun _ _ R => R (.ref t) H2) "given" { nx := fun σ' H' => sFld K (tVar 0) (tCall (spClosed K) [] (fun _ _ _ => False) (tCons (tVar 1) (tCons (tFld K (tVar 0) "given") tNil))) "closed" { nx := fun _ H' => Q .non H', rt := Q } σ' H', rt := Q } [some (.ref x), some (.int m), some (.ref a), none, none, none] H2 := fun H2 t us s2 ht hus => by
    refine ⟨_, rfl, x, c_Bounds, dx, _, rfl, s2 _ _ x1, T_Bounds.c, nG, (by have := putF_len "many" (.int m) []; simp only [List.length_nil] at this; omega), ?_⟩
    have hx2 := s2 _ _ x1
    have fd2 : Fd K H2 (.ref t) (.tuple (rs.map rowD)) := ⟨rows_flat rs, .tup (.inl (.inl ht)) hus⟩
    have t3 : Tp K H2 (upd H2 x (.ins c_Bounds dx (putF "given" (.ref t) (putF "many" (.int m) [])))) := Tp.ins hx2
    have x3 : (upd H2 x (.ins c_Bounds dx (putF "given" (.ref t) (putF "many" (.int m) [])))) x = some (.ins c_Bounds dx (putF "given" (.ref t) (putF "many" (.int m) []))) := upd_same
    have k3 : ∀ b o, H b = some o → b ≠ x → (upd H2 x (.ins c_Bounds dx (putF "given" (.ref t) (putF "many" (.int m) [])))) b = some o := fun b o z n => by rw [upd_ne n]; exact s2 _ _ (k1 b o z n)
    have fd3 := fd2.keep t3
    generalize upd H2 x (.ins c_Bounds dx (putF "given" (.ref t) (putF "many" (.int m) []))) = H3 at x3 k3 fd3
    refine ⟨_, rfl, _, rfl, x, c_Bounds, dx, _, _, rfl, x3, T_Bounds.c, nG, (by rw [lookup_putF, if_pos rfl]), m, .ref t, rs, rfl, hm, fd3, hrs, fun u H4 s4 hu => ?_⟩
    have hx4 := s4 _ _ x3
    refine ⟨_, rfl, x, c_Bounds, dx, _, rfl, hx4, T_Bounds.c, nC, (by have h1 := putF_len "many" (.int m) []; have h2 := putF_len "given" (.ref t) (putF "many" (.int m) []); simp only [List.length_nil] at h1; omega), ?_⟩
    have t5 : Tp K H4 (upd H4 x (.ins c_Bounds dx (putF "closed" u (putF "given" (.ref t) (putF "many" (.int m) []))))) := Tp.ins hx4
    refine q _ (fun b o z n => ?_) ⟨⟨dx, .ref t, u, upd_same, (fd3.keep (Tp.same s4)).keep t5, hu.keep t5⟩, hrs, hm, hl⟩
    rw [upd_ne n]
    exact s4 _ _ (k3 b o z n)
  rcases hxs1 with hs | hs
  · refine ⟨_, rfl, a, rfl, .inl ⟨⟨_, hs⟩, fun D hD => lc_list (K := K) (a := a) (xs := xs) (fun j H' => Same H1 H' ∧ ∃ us, H' D = some (.lst us) ∧ DpAll K H' us ((rs.take j).map rowD)) ?_ ?_ ?_ ?_⟩⟩
    · exact ⟨same_new hD, [], upd_same, .nil⟩
    · rintro j H' _ ⟨s', _⟩
      exact s'.seq hs
    · rintro j y H' hy ⟨s', us, hD', hus⟩
      obtain ⟨t, r, rfl, hr1, ht⟩ := step j y H' D hy s'
      have ul : us.length ≤ 100 := by
        have := (dpall_getM _ hus).1
        rw [List.length_take] at this
        omega
      refine ⟨t, _, rfl, ht, rfl, _, _, rfl, _, _, rfl, _, _, rfl, rfl, rfl, _, rfl, _, rfl, _, rfl, (by show 3 ≤ sizeLine; decide), fun t2 ht2 => ?_⟩
      have s2 := same_new (o := .tup [.int r.1, .int r.2.1, .int r.2.2]) ht2
      have e2 : (upd H' t2 (.tup [.int r.1, .int r.2.1, .int r.2.2])) t2 = some (.tup [.int r.1, .int r.2.1, .int r.2.2]) := upd_same
      generalize upd H' t2 (.tup [.int r.1, .int r.2.1, .int r.2.2]) = H2 at s2 e2
      have hD2 := s2 _ _ hD'
      have t3 : Tp K H2 (upd H2 D (.lst (us ++ [.ref t2]))) := Tp.lst hD2
      refine ⟨us, hD2, smallL (by omega), fun b o z => ?_, us ++ [.ref t2], upd_same, ?_⟩
      · rw [upd_ne (ne_of_none z hD)]
        exact s2 _ _ (s' _ _ z)
      · rw [List.take_add_one, hr1, List.map_append]
        exact dpall_app' (dps_keep ((Tp.same s2).trans t3) _ _ (rows_flat _) hus) (.cons (row_dp (t3 _ _ (.inl (.inl e2)))) .nil)
    · rintro H2 ⟨s2, us, hD2, hus⟩
      rw [xl, List.take_length] at hus
      refine ⟨D, us, rfl, .inl ⟨SqL.of hD2, fun t ht => ?_⟩⟩
      exact rest _ t us (s2.trans (same_new ht)) upd_same (dps_keep (Tp.new ht) _ _ (rows_flat rs) hus)
  · refine ⟨_, rfl, a, rfl, .inr ⟨⟨_, hs⟩, fun D hD => lc_tup (K := K) (a := a) (xs := xs) (fun j H' => Same H1 H' ∧ ∃ us, H' D = some (.lst us) ∧ DpAll K H' us ((rs.take j).map rowD)) ?_ ?_ ?_ ?_⟩⟩
    · exact ⟨same_new hD, [], upd_same, .nil⟩
    · rintro j H' _ ⟨s', _⟩
      exact Tp.same s' _ _ hs
    · rintro j y H' hy ⟨s', us, hD', hus⟩
      obtain ⟨t, r, rfl, hr1, ht⟩ := step j y H' D hy s'
      have ul : us.length ≤ 100 := by
        have := (dpall_getM _ hus).1
        rw [List.length_take] at this
        omega
      refine ⟨t, _, rfl, ht, rfl, _, _, rfl, _, _, rfl, _, _, rfl, rfl, rfl, _, rfl, _, rfl, _, rfl, (by show 3 ≤ sizeLine; decide), fun t2 ht2 => ?_⟩
      have s2 := same_new (o := .tup [.int r.1, .int r.2.1, .int r.2.2]) ht2
      have e2 : (upd H' t2 (.tup [.int r.1, .int r.2.1, .int r.2.2])) t2 = some (.tup [.int r.1, .int r.2.1, .int r.2.2]) := upd_same
      generalize upd H' t2 (.tup [.int r.1, .int r.2.1, .int r.2.2]) = H2 at s2 e2
      have hD2 := s2 _ _ hD'
      have t3 : Tp K H2 (upd H2 D (.lst (us ++ [.ref t2]))) := Tp.lst hD2
      refine ⟨us, hD2, smallL (by omega), fun b o z => ?_, us ++ [.ref t2], upd_same, ?_⟩
      · rw [upd_ne (ne_of_none z hD)]
        exact s2 _ _ (s' _ _ z)
      · rw [List.take_add_one, hr1, List.map_append]
        exact dpall_app' (dps_keep ((Tp.same s2).trans t3) _ _ (rows_flat _) hus) (.cons (row_dp (t3 _ _ (.inl (.inl e2)))) .nil)
    · rintro H2 ⟨s2, us, hD2, hus⟩
      rw [xl, List.take_length] at hus
      refine ⟨D, us, rfl, .inl ⟨SqL.of hD2, fun t ht => ?_⟩⟩
      exact rest _ t us (s2.trans (same_new ht)) upd_same (dps_keep (Tp.new ht) _ _ (rows_flat rs) hus)
abbrev s_Bounds_is_empty : Stmt := inClass (topS 8) 3
theorem sc_Bounds_is_empty : FnScope ["self"] ["self"] (defScope s_Bounds_is_empty) := ⟨rfl, rfl, rfl, by decide +kernel, rfl, by decide +kernel, by decide +kernel⟩
def spEmpty (K : PySem.W.Frag) (C : Addr) : Sp := fun vs H Q _ => ∃ (x : Addr) (m : Nat) (rs : List Row), vs = [.ref x] ∧ BdAt K C H x m rs ∧ Q (.bl (closedF (edges m rs) openF).isNone) H
theorem ok_Bounds_is_empty (T_Bounds : ClsAt K mg "Bounds" c_Bounds BF) (D : DefM K c_Bounds "is_empty" "Bounds.is_empty" s_Bounds_is_empty ["self"]) : CalM P w K mg base 1 c_Bounds "is_empty" ["self"] (spEmpty K c_Bounds) := by
  refine calm_of D sc_Bounds_is_empty (fun vs H Q E h => ?_) (fun f cdv A outer s H vs Q E hr h => ?_)
  · obtain ⟨x, m, rs, rfl, _⟩ := h
    rfl
  obtain ⟨x, m, rs, rfl, hb, q⟩ := h
  have nC := T_Bounds.n "closed" (by simp [BF])
  refine ⟨_, (pss_one (ps_ret (pe_cmpR op_isN (pe_fld (pv 0) rfl) pe_non (nomark _)))), ?_⟩
  obtain ⟨dx, vg, vc, hx, hg, hc⟩ := hb.ob
  refine ⟨_, rfl, x, c_Bounds, dx, _, _, rfl, hx, T_Bounds.c, nC, bfl_closed _ _ _, rfl, ?_⟩
  rw [clo_non hc]
  exact q
abbrev s_Bounds_least : Stmt := inClass (topS 8) 7
theorem sc_Bounds_least : FnScope ["self", "i", "j"] ["self", "i", "j"] (defScope s_Bounds_least) := ⟨rfl, rfl, rfl, by decide +kernel, rfl, by decide +kernel, by decide +kernel⟩
def spLeast (K : PySem.W.Frag) (C : Addr) : Sp := fun vs H Q _ => ∃ (x : Addr) (m : Nat) (rs : List Row) (i j : Int) (D : Mat), vs = [.ref x, .int i, .int j] ∧ BdAt K C H x m rs ∧ closedF (edges m rs) openF = some D ∧ -1 ≤ i ∧ i < m ∧ -1 ≤ j ∧ j < m ∧ Q (oV (D (pl m i) (pl m j))) H
theorem ok_Bounds_least (T_Bounds : ClsAt K mg "Bounds" c_Bounds BF) (D : DefM K c_Bounds "least" "Bounds.least" s_Bounds_least ["self", "i", "j"]) : CalM P w K mg base 1 c_Bounds "least" ["self", "i", "j"] (spLeast K c_Bounds) := by
  refine calm_of D sc_Bounds_least (fun vs H Q E h => ?_) (fun f cdv A outer s H vs Q E hr h => ?_)
  · obtain ⟨x, m, rs, i, j, D, rfl, _⟩ := h
    rfl
  obtain ⟨x, m, rs, i, j, D, rfl, hb, hD, i1, i2, j1, j2, q⟩ := h
  have nC := T_Bounds.n "closed" (by simp [BF])
  refine ⟨_, (pss_one (ps_ret (pe_ix ix_tup (pe_ix ix_tup (pe_fld (pv 0) rfl) (pv 1) (fun _ _ => rfl)) (pv 2) (fun _ _ => rfl)))), ?_⟩
  obtain ⟨dx, vg, vc, hx, hg, hc⟩ := hb.ob
  rw [hD] at hc
  obtain ⟨t, rs', rfl, ht, hl, hrow⟩ := clo_open_at hc
  obtain ⟨r1, e1, h1⟩ := hrow (pl m i) (pl_le i1 i2)
  refine ⟨_, rfl, x, c_Bounds, dx, _, _, rfl, hx, T_Bounds.c, nC, bfl_closed _ _ _, _, rfl, t, rs', i, _, rfl, rfl, ht, at_pl hl i1 i2 e1, _, rfl, r1, _, j, _, rfl, rfl, h1, at_pl (rowV_len D m _) j1 j2 (rowV_at D m _ (pl_le j1 j2)), q⟩
end
end Lm

set_option Elab.async false
set_option linter.all false
set_option maxRecDepth 100000
set_option maxHeartbeats 2000000
set_option pp.maxSteps 600
set_option pp.deepTerms.threshold 6
namespace Lm
open PySem PySem.Spec PyProof.Rows L2 LmR
section
variable {P : Program} {w : World} {K : PySem.W.Frag} {mg : Str → Option Value} {base : Heap}
/-! ### cell, flow, draw -/
abbrev s_l_cell : Stmt := topS 11
theorem sc_l_cell : FnScope ["_law_script", "_law_k", "_law_number"] ["_law_script", "_law_k"] (defScope s_l_cell) := ⟨rfl, rfl, rfl, by decide +kernel, rfl, by decide +kernel, by decide +kernel⟩
def spCell (K : PySem.W.Frag) : Sp := fun vs H Q _ => ∃ (a : Addr) (ns : List Int) (k : Int), vs = [.ref a, .int k] ∧ SqL K H a (ns.map V.int) ∧ 0 ≤ k ∧ ∀ i, Q (.int i) H
theorem ok_l_cell (B : Bt mg) (D : DefAt K mg "_law_cell" s_l_cell ["_law_script", "_law_k"]) : Cal P w K mg base 1 "_law_cell" ["_law_script", "_law_k"] (spCell K) := by
  refine cal_of D sc_l_cell (fun vs H Q E h => ?_) (fun f cdv A outer s H vs Q E hr h => ?_)
  · obtain ⟨a, ns, k, rfl, _⟩ := h
    rfl
  obtain ⟨a, ns, k, rfl, hS, h0, q⟩ := h
  refine ⟨_, (pss_cons (ps_if (pt_cmpR op_lt (pv 1) (pe_callB call_len_seq (by rfl) B.len PySem.boot_len (pa_cons (pv 0) pa_nil)) (nomark _))
        (pss_one (ps_ret (pe_ix ix_list (pv 0) (pv 1) (fun _ _ => rfl))))
        pss_nil)
      (pss_cons (ps_set (i := 2) sc_l_cell.nd rfl (.inl rfl) (pe_op op_add (pe_op op_mul (pv 1) pe_int) pe_int))
      (pss_cons (ps_if (pt_cmpR op_gt (pe_callB call_len_seq (by rfl) B.len PySem.boot_len (pa_cons (pv 0) pa_nil)) pe_int (nomark _))
        (pss_one (ps_set (i := 2) sc_l_cell.nd rfl (.inl rfl) (pe_op op_add (pe_op op_mul (pe_op op_mod (pe_ix ix_list (pv 0) (pe_op op_mod (pe_op op_mul (pv 1) pe_int) (pe_callB call_len_seq (by rfl) B.len PySem.boot_len (pa_cons (pv 0) pa_nil))) (fun _ _ => rfl)) pe_int) pe_int) (pe_op op_mul (pv 1) pe_int))))
        pss_nil)
      (pss_one (ps_ret (pe_op op_mul (pe_op op_mod (pv 2) pe_int) pe_int)))))), ?_⟩
  have hl : (ns.map V.int).length = ns.length := List.length_map _
  refine ⟨_, rfl, _, rfl, a, _, rfl, .inl hS, _, _, rfl, rfl, _, rfl, ite2 (fun c => ?_) (fun c => ?_)⟩
  · have c' : k < (((ns.map V.int).length : Nat) : Int) := of_decide_eq_true c
    rw [hl] at c'
    have e : (ns.map V.int)[k.toNat]? = some (.int ns[k.toNat]) := by
      rw [List.getElem?_map, List.getElem?_eq_getElem (by omega)]
      rfl
    exact ⟨_, rfl, _, rfl, a, _, _, _, rfl, rfl, hS, at_of (j := k.toNat) (by omega) e, q _⟩
  · refine ⟨_, rfl, _, _, rfl, rfl, .inr ⟨by decide, by decide⟩, _, _, rfl, rfl, ?_⟩
    refine ⟨_, rfl, a, _, rfl, .inl hS, _, _, rfl, rfl, _, rfl, ite2 (fun c2 => ?_) (fun c2 => ?_)⟩
    · have c2' : (((ns.map V.int).length : Nat) : Int) > 0 := of_decide_eq_true c2
      rw [hl] at c2'
      have hp : (0 : Int) < (((ns.map V.int).length : Nat) : Int) := by rw [hl]; omega
      have b1 : 0 ≤ (k * 7) % (((ns.map V.int).length : Nat) : Int) := Int.emod_nonneg _ (by omega)
      have b2 : (k * 7) % (((ns.map V.int).length : Nat) : Int) < (((ns.map V.int).length : Nat) : Int) := Int.emod_lt_of_pos _ hp
      generalize hj : (k * 7) % (((ns.map V.int).length : Nat) : Int) = j at b1 b2
      rw [hl] at b2
      have e : (ns.map V.int)[j.toNat]? = some (.int ns[j.toNat]) := by
        rw [List.getElem?_map, List.getElem?_eq_getElem (by omega)]
        rfl
      have m1 : 0 ≤ ns[j.toNat] % 2147483629 := Int.emod_nonneg _ (by decide)
      have m2 : ns[j.toNat] % 2147483629 < 2147483629 := Int.emod_lt_of_pos _ (by decide)
      refine ⟨_, rfl, _, rfl, _, _, rfl, rfl, .inr ⟨by decide, by decide⟩, _, rfl, a, _, rfl, .inl hS, _, _, rfl, rfl, hp, a, _, _, V.int ns[j.toNat], rfl, rfl, hS, ?_, _, _, rfl, rfl, (by show (0 : Int) < 2147483629; decide), _, _, rfl, rfl, .inl ⟨by omega, by omega⟩, _, rfl, _, _, rfl, rfl, .inr ⟨by decide, by decide⟩, _, _, rfl, rfl, ?_⟩
      · rw [hj]
        exact at_of (j := j.toNat) (by omega) e
      · have n1 := Int.emod_nonneg (ns[j.toNat] % 2147483629 * 48271 + k * 7919) (show (2147483647 : Int) ≠ 0 by decide)
        have n2 := Int.emod_lt_of_pos (ns[j.toNat] % 2147483629 * 48271 + k * 7919) (show (0 : Int) < 2147483647 by decide)
        exact ⟨_, rfl, _, _, rfl, rfl, (by show (0 : Int) < 2147483647; decide), _, _, rfl, rfl, .inr ⟨by decide, by decide⟩, q _⟩
    · exact ⟨_, rfl, _, _, rfl, rfl, (by show (0 : Int) < 2147483647; decide), _, _, rfl, rfl, .inr ⟨by decide, by decide⟩, q _⟩
/-! the flow that is drawn from -/
def Flow (H : Hp) (f : Addr) : Prop := ∃ own cnt seed : Int, H f = some (.lst [.int own, .int cnt, .int seed]) ∧ 0 ≤ seed ∧ seed < 2 ^ 40
abbrev s_l_flow : Stmt := topS 12
theorem sc_l_flow : FnScope ["_law_script", "_law_k", "_law_cell_here"] ["_law_script", "_law_k"] (defScope s_l_flow) := ⟨rfl, rfl, rfl, by decide +kernel, rfl, by decide +kernel, by decide +kernel⟩
def spFlow (K : PySem.W.Frag) : Sp := fun vs H Q _ => ∃ (a : Addr) (ns : List Int) (k : Int), vs = [.ref a, .int k] ∧ SqL K H a (ns.map V.int) ∧ 0 ≤ k ∧ k ≤ 63 ∧ ∀ (p : Addr) (o : HO), H p = none → Flow (upd H p o) p → Q (.ref p) (upd H p o)
theorem ok_l_flow (B : Bt mg) (C_l_cell : Cal P w K mg base 1 "_law_cell" ["_law_script", "_law_k"] (spCell K)) (D : DefAt K mg "_law_flow" s_l_flow ["_law_script", "_law_k"]) : Cal P w K mg base 2 "_law_flow" ["_law_script", "_law_k"] (spFlow K) := by
  refine cal_of D sc_l_flow (fun vs H Q E h => ?_) (fun f cdv A outer s H vs Q E hr h => ?_)
  · obtain ⟨a, ns, k, rfl, _⟩ := h
    rfl
  obtain ⟨a, ns, k, rfl, hS, h0, h1, q⟩ := h
  have hr' : Room 1 _ := hr
  refine ⟨_, (pss_cons (ps_set (i := 2) sc_l_flow.nd rfl (.inl rfl) (pe_callB call_abs (by rfl) B.abs (by decide +kernel) (pa_cons (pe_cal C_l_cell hr' (by rfl) (pa_cons (pv 0) (pa_cons (pv 1) pa_nil))) pa_nil)))
      (pss_one (ps_ret (pe_lst (pa_cons (pe_op op_mul (pv 2) (pe_callTy call_int1 (by rfl) B.int PyProof.Rows.boot_int (pa_cons (pe_cmpR op_ge (pv 2) (pe_op op_pow pe_int pe_int) (nomark _)) pa_nil))) (pa_cons pe_int (pa_cons (pe_op op_add (pe_op op_mod (pv 2) pe_int) (pe_op op_mul pe_int (pv 1))) pa_nil))))))), ?_⟩
  refine ⟨_, rfl, _, rfl, a, ns, k, rfl, hS, h0, fun i => ?_⟩
  refine ⟨_, rfl, ?_⟩
  generalize (if i < 0 then -i else i) = z
  have m1 : 0 ≤ z % 2147483629 := Int.emod_nonneg _ (by decide)
  have m2 : z % 2147483629 < 2147483629 := Int.emod_lt_of_pos _ (by decide)
  have pw : CPow 10 18 := ⟨by decide, by decide, by decide⟩
  refine ⟨_, rfl, _, rfl, _, _, rfl, rfl, pw, _, _, rfl, rfl, .inr ⟨_, rfl, ?_⟩⟩
  generalize decide (z ≥ 10 ^ (18 : Int).toNat) = b
  obtain ⟨u, eu, u1, u2⟩ : ∃ u : Int, (V.int (if b = true then 1 else 0)) = .int u ∧ 0 ≤ u ∧ u ≤ 1 := by
    cases b
    · exact ⟨0, rfl, by decide, by decide⟩
    · exact ⟨1, rfl, by decide, by decide⟩
  refine ⟨_, _, rfl, eu, .inr ⟨by omega, by omega⟩, _, rfl, _, _, rfl, rfl, (by show (0 : Int) < 2147483629; decide), _, rfl, _, _, rfl, rfl, .inl ⟨by decide, by decide⟩, _, _, rfl, rfl, (by show 3 ≤ sizeLine; decide), fun p hp => q p _ hp ⟨_, _, _, upd_same, by omega, by omega⟩⟩
/-- the flow at f was drawn from, nothing else changed -/
structure Dr (f : Addr) (H H' : Hp) : Prop where
  off : ∀ b, b ≠ f → H' b = H b
  fl : Flow H' f
theorem Flow.lst {H : Hp} {f : Addr} (h : Flow H f) : ∃ xs, H f = some (.lst xs) := by
  obtain ⟨a, b, c, e, _⟩ := h
  exact ⟨_, e⟩
theorem Dr.ex {f : Addr} {H H' : Hp} (d : Dr f H H') : Ex [f] H H' := fun b o h n => by
  rw [d.off b (fun z => n (by rw [z]; simp))]
  exact h
theorem Dr.trans {f : Addr} {H H1 H2 : Hp} (a : Dr f H H1) (b : Dr f H1 H2) : Dr f H H2 := ⟨fun c n => (b.off c n).trans (a.off c n), b.fl⟩
theorem Dr.tp {f : Addr} {H H' : Hp} (d : Dr f H H') (h : Flow H f) : Tp K H H' := by
  obtain ⟨xs, e⟩ := h.lst
  refine d.ex.tp fun b hb ys q => ?_
  rw [List.mem_singleton.mp hb] at q
  rcases q with q | ⟨o, q⟩
  · rw [e] at q; cases q
  · rw [e] at q; cases q
abbrev s_l_draw : Stmt := topS 13
theorem sc_l_draw : FnScope ["_law_flow_here", "_law_many", "_law_digit"] ["_law_flow_here", "_law_many"] (defScope s_l_draw) := ⟨rfl, rfl, rfl, by decide +kernel, rfl, by decide +kernel, by decide +kernel⟩
def spDraw : Sp := fun vs H Q _ => ∃ (f : Addr) (m : Int), vs = [.ref f, .int m] ∧ Flow H f ∧ 0 < m ∧ m < 1073741824 ∧ ∀ (d : Int) (H' : Hp), 0 ≤ d → d < m → Dr f H H' → Q (.int d) H'
theorem dr_put {f : Addr} {H H0 : Hp} {xs : List V} (o : ∀ b, b ≠ f → H0 b = H b) (fl : Flow (upd H0 f (.lst xs)) f) : Dr f H (upd H0 f (.lst xs)) := ⟨fun b n => by rw [upd_ne n]; exact o b n, fl⟩
theorem ok_l_draw (D : DefAt K mg "_law_draw" s_l_draw ["_law_flow_here", "_law_many"]) : Cal P w K mg base 1 "_law_draw" ["_law_flow_here", "_law_many"] (spDraw) := by
  refine cal_of D sc_l_draw (fun vs H Q E h => ?_) (fun f cdv A outer s H vs Q E hr h => ?_)
  · obtain ⟨a, m, rfl, _⟩ := h
    rfl
  obtain ⟨a, m, rfl, ⟨own, cnt, seed, hf, s0, s1⟩, m0, m1, q⟩ := h
  refine ⟨_, (pss_cons (ps_if (pt_cmpR op_gt (pe_ix ix_list (pv 0) pe_int (fun _ _ => rfl)) pe_int (nomark _))
        (pss_cons (ps_set (i := 2) sc_l_draw.nd rfl (.inl rfl) (pe_op op_mod (pe_ix ix_list (pv 0) pe_int (fun _ _ => rfl)) (pv 1)))
      (pss_cons (ps_asg (pe_op op_fdiv (pe_ix ix_list (pv 0) pe_int (fun _ _ => rfl)) (pv 1)) (pg_sub (pv 0) pe_int set_list))
      (pss_one (ps_ret (pv 2)))))
        pss_nil)
      (pss_cons (ps_asg (pe_op op_add (pe_ix ix_list (pv 0) pe_int (fun _ _ => rfl)) pe_int) (pg_sub (pv 0) pe_int set_list))
      (pss_cons (ps_asg (pe_op op_mod (pe_op op_add (pe_op op_add (pe_op op_mul (pe_ix ix_list (pv 0) pe_int (fun _ _ => rfl)) pe_int) pe_int) (pe_ix ix_list (pv 0) pe_int (fun _ _ => rfl))) pe_int) (pg_sub (pv 0) pe_int set_list))
      (pss_one (ps_ret (pe_op op_mod (pe_op op_fdiv (pe_ix ix_list (pv 0) pe_int (fun _ _ => rfl)) pe_int) (pv 1))))))), ?_⟩
  have L : SqL K H a [.int own, .int cnt, .int seed] := SqL.of hf
  refine ⟨_, rfl, a, _, 0, .int own, rfl, rfl, L, rfl, _, _, rfl, rfl, _, rfl, ite2 (fun c => ?_) (fun c => ?_)⟩
  · have b1 : 0 ≤ own % m := Int.emod_nonneg _ (by omega)
    have b2 : own % m < m := Int.emod_lt_of_pos _ m0
    refine ⟨_, rfl, a, _, 0, .int own, rfl, rfl, L, rfl, _, rfl, _, _, rfl, rfl, m0, ?_⟩
    refine ⟨_, rfl, a, _, 0, .int own, rfl, rfl, L, rfl, _, rfl, _, _, rfl, rfl, ⟨m0, m1⟩, ?_⟩
    refine ⟨_, rfl, a, _, 0, 0, rfl, rfl, hf, rfl, ?_⟩
    exact ⟨_, rfl, q _ _ b1 b2 (dr_put (fun _ _ => rfl) ⟨_, _, _, upd_same, s0, s1⟩)⟩
  · refine ⟨_, rfl, a, _, 1, .int cnt, rfl, rfl, L, rfl, _, _, rfl, rfl, ?_⟩
    refine ⟨_, rfl, a, _, 1, 1, rfl, rfl, hf, rfl, ?_⟩
    have hf2 : (upd H a (.lst (List.set [.int own, .int cnt, .int seed] 1 (.int (cnt + 1))))) a = some (.lst [.int own, .int (cnt + 1), .int seed]) := upd_same
    generalize hH : upd H a (.lst (List.set [.int own, .int cnt, .int seed] 1 (.int (cnt + 1)))) = H2 at hf2
    have off : ∀ b, b ≠ a → H2 b = H b := fun b n => by
      rw [← hH, upd_ne n]
    have L2' : SqL K H2 a [.int own, .int (cnt + 1), .int seed] := SqL.of hf2
    refine ⟨_, rfl, a, _, 2, .int seed, rfl, rfl, L2', rfl, _, _, rfl, rfl, .inr ⟨by decide, by decide⟩, _, _, rfl, rfl, _, rfl, a, _, 1, .int (cnt + 1), rfl, rfl, L2', rfl, _, _, rfl, rfl, _, _, rfl, rfl, (by show (0 : Int) < 2147483647; decide), ?_⟩
    have n1 := Int.emod_nonneg (seed * 48271 + 12820163 + (cnt + 1)) (show (2147483647 : Int) ≠ 0 by decide)
    have n2 := Int.emod_lt_of_pos (seed * 48271 + 12820163 + (cnt + 1)) (show (0 : Int) < 2147483647 by decide)
    refine ⟨_, rfl, a, _, 2, 2, rfl, rfl, hf2, rfl, ?_⟩
    refine ⟨_, rfl, a, _, 2, .int _, rfl, rfl, SqL.of upd_same, rfl, _, _, rfl, rfl, ⟨by decide, by decide⟩, _, rfl, _, _, rfl, rfl, m0, ?_⟩
    exact q _ _ (Int.emod_nonneg _ (by omega)) (Int.emod_lt_of_pos _ m0) ⟨fun b z => by rw [upd_ne z, off b z], ⟨_, _, _, upd_same, n1, Int.lt_of_lt_of_le n2 (by decide)⟩⟩
/-- the flow was drawn from, things were made -/
structure Gr (f : Addr) (H H' : Hp) : Prop where
  ex : Ex [f] H H'
  fl : Flow H' f
theorem Dr.gr {f : Addr} {H H' : Hp} (d : Dr f H H') : Gr f H H' := ⟨d.ex, d.fl⟩
theorem Gr.trans {f : Addr} {H H1 H2 : Hp} (a : Gr f H H1) (b : Gr f H1 H2) : Gr f H H2 := ⟨a.ex.trans b.ex, b.fl⟩
theorem Gr.same {f : Addr} {H H' : Hp} (fl : Flow H f) (h : Same H H') : Gr f H H' := by
  refine ⟨Ex.of_same h, ?_⟩
  obtain ⟨a, b, c, e, r⟩ := fl
  exact ⟨a, b, c, h _ _ e, r⟩
theorem Gr.tp {f : Addr} {H H' : Hp} (a : Gr f H H') (h : Flow H f) : Tp K H H' := by
  obtain ⟨xs, e⟩ := h.lst
  refine a.ex.tp fun b hb ys q => ?_
  rw [List.mem_singleton.mp hb] at q
  rcases q with q | ⟨o, q⟩
  · rw [e] at q; cases q
  · rw [e] at q; cases q
theorem Gr.put {f : Addr} {H H' : Hp} {p : Addr} {o : HO} (g : Gr f H H') (h : H p = none) (n : p ≠ f) : Gr f H (upd H' p o) := by
  refine ⟨fun b u hb nb => ?_, ?_⟩
  · rw [upd_ne (ne_of_none hb h)]
    exact g.ex b u hb nb
  · obtain ⟨x, y, z, e, r⟩ := g.fl
    exact ⟨x, y, z, by rw [upd_ne n.symm]; exact e, r⟩
theorem Gr.new {f : Addr} {H : Hp} {p : Addr} {o : HO} (fl : Flow H f) (h : H p = none) : Gr f H (upd H p o) := Gr.same fl (same_new h)
theorem Flow.nf {f : Addr} {H : Hp} (g : Flow H f) {D : Addr} (h : H D = none) : D ≠ f := fun z => by
  obtain ⟨xs, e⟩ := g.lst
  rw [z, e] at h
  cases h
abbrev s_l_rows : Stmt := topS 14
theorem sc_l_rows : FnScope ["_law_flow_here", "_law_many", "_law_most", "_law_far", "_law_found", "_law_k", "_law_i", "_law_j"] ["_law_flow_here", "_law_many", "_law_most", "_law_far"] (defScope s_l_rows) := ⟨rfl, rfl, rfl, by decide +kernel, rfl, by decide +kernel, by decide +kernel⟩
def spRows (K : PySem.W.Frag) : Sp := fun vs H Q _ => ∃ (f : Addr) (m : Nat) (mo far : Int), vs = [.ref f, .int m, .int mo, .int far] ∧ Flow H f ∧ m ≤ 10 ∧ 0 ≤ mo ∧ mo ≤ 30 ∧ 0 ≤ far ∧ far ≤ 1000 ∧
  ∀ (l : Addr) (xs : List V) (rs : List Row) (H' : Hp), Gr f H H' → H l = none → H' l = some (.lst xs) → DpAll K H' xs (rs.map rowD) → (∀ r ∈ rs, RowOk m r) → (∀ r ∈ rs, -far ≤ r.2.2 ∧ r.2.2 ≤ far) → (rs.length : Int) ≤ mo → Q (.ref l) H'
theorem ok_l_rows (B : Bt mg) (C_l_draw : Cal P w K mg base 1 "_law_draw" ["_law_flow_here", "_law_many"] (spDraw)) (D : DefAt K mg "_law_rows" s_l_rows ["_law_flow_here", "_law_many", "_law_most", "_law_far"]) : Cal P w K mg base 2 "_law_rows" ["_law_flow_here", "_law_many", "_law_most", "_law_far"] (spRows K) := by
  refine cal_of D sc_l_rows (fun vs H Q E h => ?_) (fun f cdv A outer s H vs Q E hr h => ?_)
  · obtain ⟨f, m, mo, far, rfl, _⟩ := h
    rfl
  obtain ⟨f, m, mo, far, rfl, fl, hm, mo0, mo1, fa0, fa1, q⟩ := h
  have hr' : Room 1 _ := hr
  refine ⟨_, (pss_cons (ps_set (i := 4) sc_l_rows.nd rfl (.inl rfl) (pe_lst pa_nil))
      (pss_cons (ps_for PassesOwn.never rfl (pi_range1 (by rfl) B.range (pa_cons (pe_cal C_l_draw hr' (by rfl) (pa_cons (pv 0) (pa_cons (pe_op op_add (pv 2) pe_int) pa_nil))) pa_nil)) (pg_name (i := 5) sc_l_rows.nd rfl (.inl rfl))
        (pss_cons (ps_par (i := 6) (j := 7) rfl sc_l_rows.nd rfl rfl (by decide) rfl rfl (pa_cons (pe_op op_sub (pe_cal C_l_draw hr' (by rfl) (pa_cons (pv 0) (pa_cons (pe_op op_add (pv 1) pe_int) pa_nil))) pe_int) (pa_cons (pe_op op_sub (pe_cal C_l_draw hr' (by rfl) (pa_cons (pv 0) (pa_cons (pe_op op_add (pv 1) pe_int) pa_nil))) pe_int) pa_nil)) rfl)
      (C8.pss_cut (ps_if (PW.pt (pw_and (pt_cmpR op_gt (pe_cal C_l_draw hr' (by rfl) (pa_cons (pv 0) (pa_cons pe_int pa_nil))) pe_int (nomark _)) (pw_and1 (pt_cmpR op_gt (pv 1) pe_int (nomark _)))))
        (pss_one (ps_set (i := 7) sc_l_rows.nd rfl (.inl rfl) (pe_op op_sub (pe_op op_mod (pe_op op_add (pe_op op_add (pv 6) pe_int) (pe_cal C_l_draw hr' (by rfl) (pa_cons (pv 0) (pa_cons (pv 1) pa_nil)))) (pe_op op_add (pv 1) pe_int)) pe_int)))
        pss_nil)
      (pss_one (ps_expr (pe_bm PySem.F.plainAttrs_list PySem.F.slot_list_append PySem.F.type_list_append mt_append (pv 4) (pa_cons (pe_tup (pa_cons (pv 6) (pa_cons (pv 7) (pa_cons (pe_callB (call_min2 rfl) (by rfl) B.min PyProof.Rows.boot_min (pa_cons (pv 3) (pa_cons (pe_op op_sub (pe_cal C_l_draw hr' (by rfl) (pa_cons (pv 0) (pa_cons (pe_op op_add (pe_op op_mul pe_int (pv 3)) pe_int) pa_nil))) (pe_ix ix_list (pe_lst (pa_cons (pv 3) (pa_cons (pe_op op_fdiv (pv 3) pe_int) pa_nil))) (pe_cal C_l_draw hr' (by rfl) (pa_cons (pv 0) (pa_cons pe_int pa_nil))) (fun _ _ => rfl))) pa_nil))) pa_nil)))) pa_nil)))))))
      (pss_one (ps_ret (pv 4))))), ?_⟩
  refine ⟨(by show 0 ≤ sizeLine; decide), fun L hL => ?_⟩
  have nLf := fl.nf hL
  have g1 : Gr f H (upd H L (.lst [])) := Gr.new fl hL
  have e1 : (upd H L (.lst [])) L = some (.lst []) := upd_same
  generalize upd H L (.lst []) = H1 at g1 e1
  refine ⟨_, rfl, _, rfl, _, _, rfl, rfl, f, mo + 1, rfl, g1.fl, by omega, by omega, fun n H2 n0 n1 dr2 => ?_⟩
  have g2 := g1.trans dr2.gr
  have e2 : H2 L = _ := (dr2.off L nLf).trans e1
  refine ⟨n, rfl, by omega, by omega, for_range (lo := 0) (n := n.toNat) (fun k σ' H' => (∃ y5 y6 y7 : Option V, σ' = [some (.ref f), some (.int m), some (.int mo), some (.int far), some (.ref L), y5, y6, y7]) ∧ Gr f H H' ∧ ∃ xs rs, H' L = some (.lst xs) ∧ DpAll K H' xs (rs.map rowD) ∧ (∀ r ∈ rs, RowOk m r) ∧ (∀ r ∈ rs, -far ≤ r.2.2 ∧ r.2.2 ≤ far) ∧ rs.length = k) ⟨⟨_, _, _, rfl⟩, g2, [], [], e2, .nil, fun r h => absurd h (by simp), fun r h => absurd h (by simp), rfl⟩ ?_ ?_⟩
  · rintro k σ' H' hk ⟨⟨y5, y6, y7, rfl⟩, g, xs, rs, hL', hxs, hok, hc, hl⟩
    have xl := (dpall_getM _ hxs).1
    refine ⟨_, rfl, _, rfl, _, _, rfl, rfl, f, (m : Int) + 1, rfl, g.fl, by omega, by omega, fun i0 H3 a0 a1 dr3 => ⟨_, _, rfl, rfl, ?_⟩⟩
    have g3 := g.trans dr3.gr
    refine ⟨_, rfl, _, rfl, _, _, rfl, rfl, f, (m : Int) + 1, rfl, g3.fl, by omega, by omega, fun j0 H4 b0 b1 dr4 => ⟨_, _, rfl, rfl, _, _, rfl, ?_⟩⟩
    have g4 := g3.trans dr4.gr
    have tp4 : Tp K H' H4 := (dr3.tp g.fl).trans (dr4.tp g3.fl)
    have e4 : H4 L = some (.lst xs) := ((dr4.off L nLf).trans (dr3.off L nLf)).trans hL'
    refine ⟨fun σ2 H5 => ∃ j1 : Int, -1 ≤ j1 ∧ j1 < m ∧ σ2 = [some (.ref f), some (.int m), some (.int mo), some (.int far), some (.ref L), some (.int (0 + (k : Int))), some (.int (i0 - 1)), some (.int j1)] ∧ Gr f H H5 ∧ Tp K H' H5 ∧ H5 L = some (.lst xs), ?_, ?_⟩
    · refine ⟨_, rfl, f, 8, rfl, g4.fl, by decide, by decide, fun d H5 d0 d1 dr5 => ⟨_, _, rfl, rfl, _, rfl, ite2 (fun c1 => ?_) (fun c1 => ?_)⟩⟩
      · have g5 := g4.trans dr5.gr
        have tp5 := tp4.trans (dr5.tp g4.fl)
        have e5 : H5 L = some (.lst xs) := (dr5.off L nLf).trans e4
        refine ⟨_, rfl, _, _, rfl, rfl, _, rfl, ite2 (fun c2 => ?_) (fun c2 => ?_)⟩
        · have m1 : (m : Int) > 0 := of_decide_eq_true c2
          refine ⟨_, rfl, _, _, rfl, rfl, _, rfl, _, rfl, f, (m : Int), rfl, g5.fl, by omega, by omega, fun d2 H6 d20 d21 dr6 => ⟨_, _, rfl, rfl, _, rfl, _, _, rfl, rfl, _, _, rfl, rfl, (by show (0 : Int) < (m : Int) + 1; omega), _, _, rfl, rfl, ?_⟩⟩
          have h1 := Int.emod_nonneg (i0 - 1 + 2 + d2) (show (m : Int) + 1 ≠ 0 by omega)
          have h2 := Int.emod_lt_of_pos (i0 - 1 + 2 + d2) (show (0 : Int) < (m : Int) + 1 by omega)
          exact ⟨(i0 - 1 + 2 + d2) % ((m : Int) + 1) - 1, by omega, by omega, rfl, g5.trans dr6.gr, tp5.trans (dr6.tp g5.fl), (dr6.off L nLf).trans e5⟩
        · exact ⟨j0 - 1, by omega, by omega, rfl, g5, tp5, e5⟩
      · exact ⟨j0 - 1, by omega, by omega, rfl, g4.trans dr5.gr, tp4.trans (dr5.tp g4.fl), (dr5.off L nLf).trans e4⟩
    · rintro σ2 H5 ⟨j1, j10, j11, rfl, g5, tp5, e5⟩
      refine ⟨_, rfl, .inl ⟨rfl, _, SqL.of e5⟩, _, rfl, _, rfl, _, rfl, _, rfl, _, rfl, _, _, rfl, rfl, .inl ⟨by decide, by decide⟩, _, _, rfl, rfl, f, _, rfl, g5.fl, by omega, by omega, fun d H6 d0 d1 dr6 => ?_⟩
      have g6 := g5.trans dr6.gr
      have tp6 := tp5.trans (dr6.tp g5.fl)
      have e6 : H6 L = some (.lst xs) := (dr6.off L nLf).trans e5
      refine ⟨_, rfl, _, rfl, _, _, rfl, rfl, ⟨by decide, by decide⟩, (by show 2 ≤ sizeLine; decide), fun l2 hl2 => ?_⟩
      have n2f := g6.fl.nf hl2
      have g7 : Gr f H (upd H6 l2 (.lst [.int far, .int (far / 2)])) := g6.trans (Gr.new g6.fl hl2)
      have tp7 : Tp K H' (upd H6 l2 (.lst [.int far, .int (far / 2)])) := tp6.trans (Tp.new hl2)
      have e7 : (upd H6 l2 (.lst [.int far, .int (far / 2)])) L = some (.lst xs) := by rw [upd_ne (ne_of_none e6 hl2)]; exact e6
      have u7 : (upd H6 l2 (.lst [.int far, .int (far / 2)])) l2 = some (.lst [.int far, .int (far / 2)]) := upd_same
      generalize upd H6 l2 (.lst [.int far, .int (far / 2)]) = H7 at g7 tp7 e7 u7
      refine ⟨_, rfl, f, 2, rfl, g7.fl, by decide, by decide, fun d2 H8 d20 d21 dr8 => ?_⟩
      have g8 := g7.trans dr8.gr
      have tp8 := tp7.trans (dr8.tp g7.fl)
      have e8 : H8 L = some (.lst xs) := (dr8.off L nLf).trans e7
      have u8 := (dr8.off l2 n2f).trans u7
      obtain ⟨v, ev, v1, v2⟩ : ∃ v : Int, atI [V.int far, V.int (far / 2)] d2 = some (.int v) ∧ 0 ≤ v ∧ v ≤ far := by
        rcases (show d2 = 0 ∨ d2 = 1 by omega) with z | z
        · subst z; exact ⟨far, rfl, by omega, by omega⟩
        · subst z; exact ⟨far / 2, rfl, by omega, by omega⟩
      refine ⟨l2, _, d2, _, rfl, rfl, SqL.of u8, ev, _, _, rfl, rfl, _, _, rfl, (by show 3 ≤ sizeLine; decide), fun t ht => ?_⟩
      obtain ⟨c, ec, c1, c2⟩ : ∃ c : Int, (if d - v < far then d - v else far) = c ∧ -far ≤ c ∧ c ≤ far := ⟨_, rfl, by split <;> omega, by split <;> omega⟩
      rw [ec]
      have g9 : Gr f H (upd H8 t (.tup [.int (i0 - 1), .int j1, .int c])) := g8.trans (Gr.new g8.fl ht)
      have tp9 : Tp K H' (upd H8 t (.tup [.int (i0 - 1), .int j1, .int c])) := tp8.trans (Tp.new ht)
      have e9 : (upd H8 t (.tup [.int (i0 - 1), .int j1, .int c])) L = some (.lst xs) := by rw [upd_ne (ne_of_none e8 ht)]; exact e8
      have u9 : (upd H8 t (.tup [.int (i0 - 1), .int j1, .int c])) t = some (.tup [.int (i0 - 1), .int j1, .int c]) := upd_same
      generalize upd H8 t (.tup [.int (i0 - 1), .int j1, .int c]) = H9 at g9 tp9 e9 u9
      have tA : Tp K H9 (upd H9 L (.lst (xs ++ [.ref t]))) := Tp.lst e9
      refine ⟨L, xs, _, rfl, rfl, e9, smallL (by omega), ⟨_, _, _, rfl⟩, g9.put hL nLf, xs ++ [.ref t], rs ++ [(i0 - 1, j1, c)], upd_same, ?_, fun r hr1 => ?_, fun r hr1 => ?_, by rw [List.length_append, hl]; rfl⟩
      · rw [List.map_append]
        exact dpall_app' (dps_keep (tp9.trans tA) _ _ (rows_flat rs) hxs) (.cons (row_dp (tA _ _ (.inl (.inl u9)))) .nil)
      · rcases List.mem_append.mp hr1 with z | z
        · exact hok r z
        · rw [List.mem_singleton.mp z]
          exact ⟨by show -1 ≤ i0 - 1; omega, by show i0 - 1 < (m : Int); omega, j10, j11⟩
      · rcases List.mem_append.mp hr1 with z | z
        · exact hc r z
        · rw [List.mem_singleton.mp z]
          exact ⟨c1, c2⟩
  · rintro σ' H' ⟨⟨y5, y6, y7, rfl⟩, g, xs, rs, hL', hxs, hok, hc, hl⟩
    exact ⟨_, rfl, q L xs rs H' g hL hL' hxs hok hc (by omega)⟩
end
end Lm

set_option Elab.async false
set_option linter.all false
set_option maxRecDepth 100000
set_option maxHeartbeats 2000000
set_option pp.maxSteps 600
set_option pp.deepTerms.threshold 6
namespace Lm
open PySem PySem.Spec PyProof.Rows L2 LmR
theorem ixN_pl {m : Nat} {i : Int} (h1 : -1 ≤ i) (h2 : i < m) : ixN (m + 1) i = some (pl m i) := by
  unfold ixN pl
  by_cases e : i = -1
  · rw [if_pos e, if_neg (by omega), if_pos (by omega)]
    congr 1
    omega
  · rw [if_neg e, if_pos (by omega), if_pos (by omega)]
def slV (m : Nat) (S : Sums) : List V := (List.range (m + 1)).map fun a => oV (S a)
theorem slV_len (m : Nat) (S : Sums) : (slV m S).length = m + 1 := by unfold slV; rw [List.length_map, List.length_range]
theorem slV_at (m : Nat) (S : Sums) {a : Nat} (h : a ≤ m) : (slV m S)[a]? = some (oV (S a)) := by
  unfold slV
  rw [List.getElem?_map, List.getElem?_range (by omega)]
  rfl
theorem slV_set (m : Nat) (S : Sums) (k : Nat) (z : Int) : (slV m S).set k (.int z) = slV m fun a => if a = k then some z else S a := by
  refine List.ext_getElem? fun a => ?_
  rw [List.getElem?_set]
  by_cases e : k = a
  · subst e
    rw [if_pos rfl]
    by_cases ha : k ≤ m
    · rw [if_pos (by rw [slV_len]; omega), slV_at m _ ha, if_pos rfl]
      rfl
    · rw [if_neg (by rw [slV_len]; omega), List.getElem?_eq_none (by rw [slV_len]; omega)]
  · rw [if_neg e]
    by_cases ha : a ≤ m
    · rw [slV_at m _ ha, slV_at m _ ha, if_neg fun z => e z.symm]
    · rw [List.getElem?_eq_none (by rw [slV_len]; omega), List.getElem?_eq_none (by rw [slV_len]; omega)]
theorem slV_none (m : Nat) : (List.replicate (m + 1) [V.non]).flatten = slV m fun _ => none := by
  have e : ∀ n : Nat, (List.replicate n [V.non]).flatten = List.replicate n V.non := fun n => by
    induction n with
    | zero => rfl
    | succ n ih => rw [List.replicate_succ, List.flatten_cons, ih]; rfl
  rw [e]
  refine List.ext_getElem? fun a => ?_
  by_cases ha : a ≤ m
  · rw [slV_at m _ ha, List.getElem?_replicate, if_pos (by omega)]
    rfl
  · rw [List.getElem?_eq_none (by rw [List.length_replicate]; omega), List.getElem?_eq_none (by rw [slV_len]; omega)]
theorem edges_at {m : Nat} {rs : List Row} {a : Nat} {r : Row} (h : rs[a]? = some r) : (edges m rs)[a]? = some (edgeR m r) := by
  unfold edges
  rw [List.getElem?_map, h]
  rfl
theorem fold_next {R : List Edge} {p : Sums × Bool} {a : Nat} {e : Edge} (h : R[a]? = some e) : (R.take (a + 1)).foldl stE p = stE ((R.take a).foldl stE p) e := by
  rw [List.take_add_one, h, List.foldl_append]
  rfl
/-- a list of rows -/
structure RowsAt (K : PySem.W.Frag) (H : Hp) (l : Addr) (m : Nat) (rs : List Row) : Prop where
  ob : ∃ xs, H l = some (.lst xs) ∧ DpAll K H xs (rs.map rowD)
  ok : ∀ r ∈ rs, RowOk m r
  hl : rs.length ≤ 40
theorem RowsAt.keep {K : PySem.W.Frag} {H H' : Hp} {l : Addr} {m : Nat} {rs : List Row} (h : RowsAt K H l m rs) (e : ∀ o, H l = some o → H' l = some o) (t : Tp K H H') : RowsAt K H' l m rs := by
  obtain ⟨xs, h1, h2⟩ := h.ob
  exact ⟨⟨xs, e _ h1, dps_keep t _ _ (rows_flat rs) h2⟩, h.ok, h.hl⟩
theorem RowsAt.same {K : PySem.W.Frag} {H H' : Hp} {l : Addr} {m : Nat} {rs : List Row} (h : RowsAt K H l m rs) (s : Same H H') : RowsAt K H' l m rs := h.keep (fun o z => s _ _ z) (Tp.same s)
section
variable {P : Program} {w : World} {K : PySem.W.Frag} {mg : Str → Option Value} {base : Heap}
end
end Lm

set_option Elab.async false
set_option linter.all false
set_option maxRecDepth 100000
set_option maxHeartbeats 2000000
set_option pp.maxSteps 600
set_option pp.deepTerms.threshold 6
namespace Lm
open PySem PySem.Spec PyProof.Rows L2 LmR
theorem ones_plain : ∀ n : Nat, PyData.plainAll (List.replicate n (PyData.int 1)) = true
  | 0 => rfl
  | n + 1 => by
    rw [List.replicate_succ]
    show (true && PyData.plainAll (List.replicate n (PyData.int 1))) = true
    rw [ones_plain n]; rfl
theorem ones_depth : ∀ n : Nat, PyData.depthAll (List.replicate n (PyData.int 1)) = 0
  | 0 => rfl
  | n + 1 => by
    rw [List.replicate_succ]
    show max 0 (PyData.depthAll (List.replicate n (PyData.int 1))) = 0
    rw [ones_depth n]; rfl
theorem ones_dp {K : PySem.W.Frag} {H : Hp} : ∀ n : Nat, DpAll K H (List.replicate n (V.int 1)) (List.replicate n (PyData.int 1))
  | 0 => .nil
  | n + 1 => .cons (.int 1) (ones_dp n)
theorem ones_eqv (n : Nat) : PyData.eqv (.list (List.replicate n (PyData.int 1))) (.list []) = decide (n = 0) := by
  cases n with
  | zero => decide
  | succ n => rw [List.replicate_succ]; simp [PyData.eqv, PyData.eqvAll]
/-- how a list of ones is held against none -/
theorem ones_eq {K : PySem.W.Frag} {H : Hp} {a b : Addr} {n : Nat} {Q : VK} (ha : H a = some (.lst (List.replicate n (V.int 1)))) (hb : H b = some (.lst [])) (q : Q (.bl (decide (n = 0))) H) : rEqP K (.ref a) (.ref b) H Q :=
  ⟨.list (List.replicate n (.int 1)), .list [], .lst (SqL.of ha) (ones_dp n), .lst (SqL.of hb) .nil, ones_plain n, rfl, by show PyData.depthAll (List.replicate n (PyData.int 1)) + 1 ≤ 64; rw [ones_depth]; decide, by rw [ones_eqv]; exact q⟩
/-- x of a place -/
def xOf (m : Nat) (ns : List Int) (a : Nat) : Int := (ns ++ [0]).getD a 0
section
variable {P : Program} {w : World} {K : PySem.W.Frag} {mg : Str → Option Value} {base : Heap}
abbrev s_l_keeps : Stmt := topS 15
theorem sc_l_keeps : FnScope ["_law_rows_here", "_law_numbers", "_law_worths", "_law_i", "_law_j", "_law_c"] ["_law_rows_here", "_law_numbers"] (defScope s_l_keeps) := ⟨rfl, rfl, rfl, by decide +kernel, rfl, by decide +kernel, by decide +kernel⟩
/-- rows, a list or a tuple -/
structure RowsLT (K : PySem.W.Frag) (H : Hp) (l : Addr) (m : Nat) (rs : List Row) : Prop where
  ob : ∃ xs, (H l = some (.lst xs) ∨ SqT K H l xs) ∧ DpAll K H xs (rs.map rowD)
  ok : ∀ r ∈ rs, RowOk m r
  hl : rs.length ≤ 40
theorem RowsLT.same {K : PySem.W.Frag} {H H' : Hp} {l : Addr} {m : Nat} {rs : List Row} (h : RowsLT K H l m rs) (s : Same H H') : RowsLT K H' l m rs := by
  obtain ⟨xs, h1, h2⟩ := h.ob
  exact ⟨⟨xs, h1.elim (fun z => .inl (s _ _ z)) (fun z => .inr (Tp.same s _ _ z)), dps_keep (Tp.same s) _ _ (rows_flat rs) h2⟩, h.ok, h.hl⟩
theorem RowsAt.lt {K : PySem.W.Frag} {H : Hp} {l : Addr} {m : Nat} {rs : List Row} (h : RowsAt K H l m rs) : RowsLT K H l m rs := by
  obtain ⟨xs, h1, h2⟩ := h.ob
  exact ⟨⟨xs, .inl h1, h2⟩, h.ok, h.hl⟩
def spKeeps (K : PySem.W.Frag) : Sp := fun vs H Q _ => ∃ (l b : Addr) (m : Nat) (rs : List Row) (ns : List Int), vs = [.ref l, .ref b] ∧ RowsLT K H l m rs ∧ (SqL K H b (ns.map V.int) ∨ SqT K H b (ns.map V.int)) ∧ ns.length = m ∧ m ≤ 100 ∧
  ∀ (k : Bool) (H' : Hp), Same H H' → (k = true ↔ KeepsF (xOf m ns) (edges m rs)) → Q (.bl k) H'
theorem ok_l_keeps (B : Bt mg) (D : DefAt K mg "_law_keeps" s_l_keeps ["_law_rows_here", "_law_numbers"]) : Cal P w K mg base 1 "_law_keeps" ["_law_rows_here", "_law_numbers"] (spKeeps K) := by
  refine cal_of D sc_l_keeps (fun vs H Q E h => ?_) (fun f cdv A outer s H vs Q E hr h => ?_)
  · obtain ⟨l, b, m, rs, ns, rfl, _⟩ := h
    rfl
  obtain ⟨l, b, m, rs, ns, rfl, hR, hb, nl, hm, q⟩ := h
  refine ⟨_, (pss_cons (ps_set (i := 2) sc_l_keeps.nd rfl (.inr rfl) (pe_op op_cat (pe_callTy call_list_of (by rfl) B.list PyProof.Rows.boot_list (pa_cons (pv 1) pa_nil)) (pe_lst (pa_cons pe_int pa_nil))))
      (pss_one (ps_ret (pe_cmpR (op_eqP hr.units) (pe_lc (own := [("_law_i", 3), ("_law_j", 4), ("_law_c", 5)]) (g := gTup K 3 (gCons (gName 3) (gCons (gName 4) (gCons (gName 5) gNil)))) rfl sc_l_keeps.nd (pi_lt (pv 0)) (blkOk_by (own := [("_law_i", 3), ("_law_j", 4), ("_law_c", 5)]) (N := ["_law_rows_here", "_law_numbers", "_law_worths", "_law_i", "_law_j", "_law_c"]) (sc := defScope s_l_keeps) (by decide +kernel)) (fun _ _ _ _ _ => (pg_tupK (K := K) rfl rfl (pgs_cons (pg_name (i := 3) sc_l_keeps.nd rfl (.inl rfl)) (pgs_cons (pg_name (i := 4) sc_l_keeps.nd rfl (.inl rfl)) (pgs_cons (pg_name (i := 5) sc_l_keeps.nd rfl (.inl rfl)) pgs_nil))))) (fun _ _ _ _ _ => (pts_one (pt_cmpR op_gt (pe_ix (ix_listK (K := K) rfl) (pv 2) (pv 3) (fun _ _ => rfl)) (pe_op op_add (pe_ix (ix_listK (K := K) rfl) (pv 2) (pv 4) (fun _ _ => rfl)) (pv 5)) (nomark _)))) (fun _ _ _ _ _ => pe_int)) (pe_lst pa_nil) (nomark _))))), ?_⟩
  obtain ⟨xs, hlx, hxs⟩ := hR.ob
  obtain ⟨xl, xg⟩ := dpall_getM _ hxs
  refine ⟨_, rfl, b, _, rfl, hb, fun l1 hl1 => ?_⟩
  have s1 := same_new (o := .lst (ns.map V.int)) hl1
  have e1 : (upd H l1 (.lst (ns.map V.int))) l1 = some (.lst (ns.map V.int)) := upd_same
  generalize upd H l1 (.lst (ns.map V.int)) = H1 at s1 e1
  refine ⟨(by show 1 ≤ sizeLine; decide), fun l2 hl2 => ?_⟩
  have s2 := same_new (o := .lst [V.int 0]) hl2
  have e2 : (upd H1 l2 (.lst [V.int 0])) l2 = some (.lst [V.int 0]) := upd_same
  generalize upd H1 l2 (.lst [V.int 0]) = H2 at s2 e2
  refine ⟨l1, l2, _, _, rfl, rfl, s2 _ _ e1, e2, ?_, fun w hw => ?_⟩
  · show (ns.map V.int).length + 1 ≤ sizeLine
    rw [List.length_map]
    exact small (by omega)
  have s3 := same_new (o := .lst (ns.map V.int ++ [V.int 0])) hw
  have e3 : (upd H2 w (.lst (ns.map V.int ++ [V.int 0]))) w = some (.lst ((ns ++ [0]).map V.int)) := by rw [upd_same, List.map_append]; rfl
  generalize upd H2 w (.lst (ns.map V.int ++ [V.int 0])) = H3 at s3 e3
  have s03 := s1.trans (s2.trans s3)
  have xat : ∀ (H' : Hp) (i : Int), -1 ≤ i → i < m → atI ((ns ++ [0]).map V.int) i = some (.int (xOf m ns (pl m i))) := fun H' i i1 i2 => by
    refine at_pl (by rw [List.length_map, List.length_append, nl]; rfl) i1 i2 ?_
    have hp := pl_le i1 i2
    rw [List.getElem?_map]
    unfold xOf
    rw [List.getD_eq_getElem?_getD, List.getElem?_eq_getElem (by rw [List.length_append, nl]; show pl m i < m + 1; omega)]
    rfl
  rcases hlx with hlx | hlx
  · refine ⟨_, rfl, l, rfl, .inl ⟨⟨_, SqL.of (s03 _ _ hlx)⟩, fun D hD => lc_list (K := K) (a := l) (xs := xs) (fun j H' => Same H3 H' ∧ ∃ n : Nat, H' D = some (.lst (List.replicate n (V.int 1))) ∧ n ≤ j ∧ (n = 0 ↔ KeepsF (xOf m ns) ((edges m rs).take j))) ?_ ?_ ?_ ?_⟩⟩
    · exact ⟨same_new hD, 0, upd_same, Nat.le_refl _, by simp [KeepsF]⟩
    · rintro j H' _ ⟨s', _⟩
      exact SqL.of ((s03.trans s') _ _ hlx)
    · rintro j y H' hy ⟨s', n, hD', nj, hn⟩
      have jl : j < rs.length := by rw [← xl]; exact (List.getElem?_eq_some_iff.mp hy).1
      have er := List.getElem?_eq_getElem jl
      obtain ⟨x', hx', dx⟩ := xg j rs[j] er
      rw [hy] at hx'
      cases hx'
      obtain ⟨tr, rfl, htr⟩ := row_read dx
      have hok := hR.ok rs[j] (List.getElem_mem jl)
      have hlr := hR.hl
      have et : (edges m rs).take (j + 1) = (edges m rs).take j ++ [edgeR m rs[j]] := by
        rw [List.take_add_one, edges_at er]
        rfl
      have kp : KeepsF (xOf m ns) ((edges m rs).take (j + 1)) ↔ KeepsF (xOf m ns) ((edges m rs).take j) ∧ xOf m ns (pl m rs[j].1) ≤ xOf m ns (pl m rs[j].2.1) + rs[j].2.2 := by
        rw [et]
        constructor
        · intro h
          exact ⟨fun e he => h e (List.mem_append_left _ he), h _ (List.mem_append_right _ (List.mem_singleton.mpr rfl))⟩
        · rintro ⟨h1, h2⟩ e he
          rcases List.mem_append.mp he with z | z
          · exact h1 e z
          · rw [List.mem_singleton.mp z]; exact h2
      generalize rs[j] = r at htr hok dx kp er et
      obtain ⟨ri, rj, rc⟩ := r
      obtain ⟨o1, o2, o3, o4⟩ := hok
      have L3 : SqL K H' w ((ns ++ [0]).map V.int) := SqL.of (s' _ _ e3)
      refine ⟨tr, _, rfl, Tp.same (s03.trans s') _ _ htr, rfl, _, _, rfl, _, _, rfl, _, _, rfl, rfl, rfl, _, rfl, _, rfl, w, _, ri, _, rfl, rfl, L3, xat H' ri o1 o2, _, rfl, _, rfl, w, _, rj, _, rfl, rfl, L3, xat H' rj o3 o4, _, rfl, _, _, rfl, rfl, _, _, rfl, rfl, _, rfl, ite2 (fun c => ?_) (fun c => ?_)⟩
      · have gt : xOf m ns (pl m ri) > xOf m ns (pl m rj) + rc := of_decide_eq_true c
        refine ⟨_, hD', by rw [List.length_replicate]; exact smallL (by omega), fun b' o z => ?_, n + 1, by rw [upd_same, List.replicate_succ'] <;> rfl, by omega, ⟨fun z => absurd z (by omega), fun z => ?_⟩⟩
        · rw [upd_ne (ne_of_none z hD)]
          exact s' _ _ z
        · have := (kp.mp z).2
          simp only at this
          omega
      · have le : xOf m ns (pl m ri) ≤ xOf m ns (pl m rj) + rc := by
          have : ¬ xOf m ns (pl m ri) > xOf m ns (pl m rj) + rc := fun z => c (decide_eq_true z)
          omega
        refine ⟨s', n, hD', by omega, ?_⟩
        rw [hn, kp]
        exact ⟨fun z => ⟨z, le⟩, fun z => z.1⟩
    · rintro H4 ⟨s4, n, hD4, nj, hn⟩
      have e : (edges m rs).take xs.length = edges m rs := List.take_of_length_le (by unfold edges; simp [xl])
      rw [e] at hn
      refine ⟨(by show 0 ≤ sizeLine; decide), fun z hz => ?_⟩
      have s5 := same_new (o := .lst []) hz
      refine ones_eq (n := n) (by rw [upd_ne (ne_of_none hD4 hz)]; exact hD4) upd_same (q _ _ (s03.trans (s4.trans s5)) ?_)
      rw [decide_eq_true_iff]
      exact hn
  · refine ⟨_, rfl, l, rfl, .inr ⟨⟨_, Tp.same s03 _ _ hlx⟩, fun D hD => lc_tup (K := K) (a := l) (xs := xs) (fun j H' => Same H3 H' ∧ ∃ n : Nat, H' D = some (.lst (List.replicate n (V.int 1))) ∧ n ≤ j ∧ (n = 0 ↔ KeepsF (xOf m ns) ((edges m rs).take j))) ?_ ?_ ?_ ?_⟩⟩
    · exact ⟨same_new hD, 0, upd_same, Nat.le_refl _, by simp [KeepsF]⟩
    · rintro j H' _ ⟨s', _⟩
      exact Tp.same (s03.trans s') _ _ hlx
    · rintro j y H' hy ⟨s', n, hD', nj, hn⟩
      have jl : j < rs.length := by rw [← xl]; exact (List.getElem?_eq_some_iff.mp hy).1
      have er := List.getElem?_eq_getElem jl
      obtain ⟨x', hx', dx⟩ := xg j rs[j] er
      rw [hy] at hx'
      cases hx'
      obtain ⟨tr, rfl, htr⟩ := row_read dx
      have hok := hR.ok rs[j] (List.getElem_mem jl)
      have hlr := hR.hl
      have et : (edges m rs).take (j + 1) = (edges m rs).take j ++ [edgeR m rs[j]] := by
        rw [List.take_add_one, edges_at er]
        rfl
      have kp : KeepsF (xOf m ns) ((edges m rs).take (j + 1)) ↔ KeepsF (xOf m ns) ((edges m rs).take j) ∧ xOf m ns (pl m rs[j].1) ≤ xOf m ns (pl m rs[j].2.1) + rs[j].2.2 := by
        rw [et]
        constructor
        · intro h
          exact ⟨fun e he => h e (List.mem_append_left _ he), h _ (List.mem_append_right _ (List.mem_singleton.mpr rfl))⟩
        · rintro ⟨h1, h2⟩ e he
          rcases List.mem_append.mp he with z | z
          · exact h1 e z
          · rw [List.mem_singleton.mp z]; exact h2
      generalize rs[j] = r at htr hok dx kp er et
      obtain ⟨ri, rj, rc⟩ := r
      obtain ⟨o1, o2, o3, o4⟩ := hok
      have L3 : SqL K H' w ((ns ++ [0]).map V.int) := SqL.of (s' _ _ e3)
      refine ⟨tr, _, rfl, Tp.same (s03.trans s') _ _ htr, rfl, _, _, rfl, _, _, rfl, _, _, rfl, rfl, rfl, _, rfl, _, rfl, w, _, ri, _, rfl, rfl, L3, xat H' ri o1 o2, _, rfl, _, rfl, w, _, rj, _, rfl, rfl, L3, xat H' rj o3 o4, _, rfl, _, _, rfl, rfl, _, _, rfl, rfl, _, rfl, ite2 (fun c => ?_) (fun c => ?_)⟩
      · have gt : xOf m ns (pl m ri) > xOf m ns (pl m rj) + rc := of_decide_eq_true c
        refine ⟨_, hD', by rw [List.length_replicate]; exact smallL (by omega), fun b' o z => ?_, n + 1, by rw [upd_same, List.replicate_succ'] <;> rfl, by omega, ⟨fun z => absurd z (by omega), fun z => ?_⟩⟩
        · rw [upd_ne (ne_of_none z hD)]
          exact s' _ _ z
        · have := (kp.mp z).2
          simp only at this
          omega
      · have le : xOf m ns (pl m ri) ≤ xOf m ns (pl m rj) + rc := by
          have : ¬ xOf m ns (pl m ri) > xOf m ns (pl m rj) + rc := fun z => c (decide_eq_true z)
          omega
        refine ⟨s', n, hD', by omega, ?_⟩
        rw [hn, kp]
        exact ⟨fun z => ⟨z, le⟩, fun z => z.1⟩
    · rintro H4 ⟨s4, n, hD4, nj, hn⟩
      have e : (edges m rs).take xs.length = edges m rs := List.take_of_length_le (by unfold edges; simp [xl])
      rw [e] at hn
      refine ⟨(by show 0 ≤ sizeLine; decide), fun z hz => ?_⟩
      have s5 := same_new (o := .lst []) hz
      refine ones_eq (n := n) (by rw [upd_ne (ne_of_none hD4 hz)]; exact hD4) upd_same (q _ _ (s03.trans (s4.trans s5)) ?_)
      rw [decide_eq_true_iff]
      exact hn
end
end Lm

set_option Elab.async false
set_option linter.all false
set_option maxRecDepth 100000
set_option maxHeartbeats 2000000
set_option pp.maxSteps 600
set_option pp.deepTerms.threshold 6
namespace Lm
open PySem PySem.Spec PyProof.Rows L2 LmR
theorem eqvAll_map {α : Type} (f g : α → PyData) : ∀ l : List α, PyData.eqvAll (l.map f) (l.map g) = l.all fun a => PyData.eqv (f a) (g a)
  | [] => rfl
  | x :: l => by rw [List.map_cons, List.map_cons, PyData.eqvAll, eqvAll_map f g l, List.all_cons]
theorem depthAll_map {α : Type} (f : α → PyData) (n : Nat) (h : ∀ x, (f x).depth ≤ n) : ∀ l : List α, PyData.depthAll (l.map f) ≤ n
  | [] => Nat.zero_le _
  | x :: l => by
    show max (f x).depth (PyData.depthAll (l.map f)) ≤ n
    have := h x; have := depthAll_map f n h l
    omega
theorem oClo_depth (m : Nat) (o : Option Mat) : (oClo m o).depth ≤ 64 := by
  cases o with
  | none => exact Nat.zero_le _
  | some D =>
    show PyData.depthAll ((List.range (m + 1)).map fun a => rowPD D m a) + 1 ≤ 64
    have := depthAll_map (fun a => rowPD D m a) 2 (fun a => by
      show PyData.depthAll ((List.range (m + 1)).map fun b => oPD (D a b)) + 1 ≤ 2
      have := depthAll_map (fun b => oPD (D a b)) 1 (fun b => by
        cases D a b with
        | none => exact Nat.zero_le _
        | some i => exact Nat.zero_le _) (List.range (m + 1))
      omega) (List.range (m + 1))
    omega
/-- closed alike, at the places that there are -/
def sameC (m : Nat) : Option Mat → Option Mat → Prop
  | none, none => True
  | some D, some D' => ∀ a b, a ≤ m → b ≤ m → D a b = D' a b
  | _, _ => False
theorem oPD_eqv (o o' : Option Int) : PyData.eqv (oPD o) (oPD o') = true ↔ o = o' := by
  cases o <;> cases o' <;> simp [oPD, PyData.eqv]
theorem oClo_eqv (m : Nat) (o o' : Option Mat) : PyData.eqv (oClo m o) (oClo m o') = true ↔ sameC m o o' := by
  cases o with
  | none =>
    cases o' with
    | none => simp [oClo, PyData.eqv, sameC]
    | some D' => simp [oClo, cloPD, PyData.eqv, sameC]
  | some D =>
    cases o' with
    | none => simp [oClo, cloPD, PyData.eqv, sameC]
    | some D' =>
      show PyData.eqvAll ((List.range (m + 1)).map fun a => rowPD D m a) ((List.range (m + 1)).map fun a => rowPD D' m a) = true ↔ ∀ a b, a ≤ m → b ≤ m → D a b = D' a b
      rw [eqvAll_map, List.all_eq_true]
      have row : ∀ a, PyData.eqv (rowPD D m a) (rowPD D' m a) = true ↔ ∀ b, b ≤ m → D a b = D' a b := fun a => by
        show PyData.eqvAll ((List.range (m + 1)).map fun b => oPD (D a b)) ((List.range (m + 1)).map fun b => oPD (D' a b)) = true ↔ _
        rw [eqvAll_map, List.all_eq_true]
        exact ⟨fun h b hb => (oPD_eqv _ _).mp (h b (List.mem_range.mpr (by omega))), fun h b hb => (oPD_eqv _ _).mpr (h b (by have := List.mem_range.mp hb; omega))⟩
      exact ⟨fun h a b ha hb => (row a).mp (h a (List.mem_range.mpr (by omega))) b hb, fun h a ha => (row a).mpr fun b hb => h a b (by have := List.mem_range.mp ha; omega) hb⟩
section
variable {P : Program} {w : World} {K : PySem.W.Frag} {mg : Str → Option Value} {base : Heap} {c_Bounds : Addr}
abbrev s_Bounds___eq__ : Stmt := inClass (topS 8) 8
theorem sc_Bounds___eq__ : FnScope ["self", "other"] ["self", "other"] (defScope s_Bounds___eq__) := ⟨rfl, rfl, rfl, by decide +kernel, rfl, by decide +kernel, by decide +kernel⟩
def spEqB (K : PySem.W.Frag) (C : Addr) : Sp := fun vs H Q _ => ∃ (x y : Addr) (m m' : Nat) (rs rs' : List Row), vs = [.ref x, .ref y] ∧ BdAt K C H x m rs ∧ BdAt K C H y m' rs' ∧ ∀ c : Bool, (c = true ↔ m = m' ∧ sameC m (closedF (edges m rs) openF) (closedF (edges m' rs') openF)) → Q (.bl c) H
theorem ok_Bounds_eq (B : Bt mg) (T_Bounds : ClsAt K mg "Bounds" c_Bounds BF) (IC : C8.InsC K c_Bounds) (D : DefM K c_Bounds "__eq__" "Bounds.__eq__" s_Bounds___eq__ ["self", "other"]) : CalM P w K mg base 1 c_Bounds "__eq__" ["self", "other"] (spEqB K c_Bounds) := by
  refine calm_of D sc_Bounds___eq__ (fun vs H Q E h => ?_) (fun f cdv A outer s H vs Q E hr h => ?_)
  · obtain ⟨x, y, m, m', rs, rs', rfl, _⟩ := h
    rfl
  obtain ⟨x, y, m, m', rs, rs', rfl, hx, hy, q⟩ := h
  have nM := T_Bounds.n "many" (by simp [BF])
  have nC := T_Bounds.n "closed" (by simp [BF])
  have hBounds := T_Bounds.g
  refine ⟨_, (pss_one (ps_ret (pe_and (pe_callB (C8.call_isC IC) (by rfl) B.isinstance (by decide +kernel) (pa_cons (pv 1) (pa_cons (pe_glob (v := .ref _) (by rfl) hBounds rfl) pa_nil))) (pe_and (pe_cmpR op_eq (pe_fld (pv 0) rfl) (pe_fld (pv 1) rfl) (nomark _)) (pe_one (pe_cmpR (op_eqP hr.units) (pe_fld (pv 0) rfl) (pe_fld (pv 1) rfl) (nomark _))))))), ?_⟩
  obtain ⟨dx, vg, vc, ex, hg, hc⟩ := hx.ob
  obtain ⟨dy, vg', vc', ey, hg', hc'⟩ := hy.ob
  refine ⟨_, rfl, y, dy, _, rfl, ey, true, rfl, iteT ⟨_, rfl, x, c_Bounds, dx, _, _, rfl, ex, T_Bounds.c, nM, bfl_many _ _ _, _, rfl, y, c_Bounds, dy, _, _, rfl, ey, T_Bounds.c, nM, bfl_many _ _ _, rfl, _, rfl, ?_⟩⟩
  refine ite2 (fun z => ?_) (fun z => q false ⟨fun e => (nomatch e), fun e => absurd (decide_eq_true (by rw [e.1])) z⟩)
  have e : m = m' := by
    have := V.int.inj (of_decide_eq_true z)
    omega
  subst e
  refine ⟨_, rfl, x, c_Bounds, dx, _, _, rfl, ex, T_Bounds.c, nC, bfl_closed _ _ _, _, rfl, y, c_Bounds, dy, _, _, rfl, ey, T_Bounds.c, nC, bfl_closed _ _ _, _, _, hc.2, hc'.2, plain_flat _ (oClo_flat _ _), plain_flat _ (oClo_flat _ _), oClo_depth _ _, q _ ?_⟩
  rw [oClo_eqv]
  exact ⟨fun z => ⟨rfl, z⟩, fun z => z.2⟩
end
end Lm

set_option Elab.async false
set_option linter.all false
set_option maxRecDepth 100000
set_option maxHeartbeats 2000000
set_option pp.maxSteps 600
set_option pp.deepTerms.threshold 6
namespace Lm
open PySem PySem.Spec PyProof.Rows L2 LmR
theorem op_catAK {X : Cx} {K : PySem.W.Frag} (h : X.K = K) : OpR X (binaryOp .Add) (rCatA K) := h ▸ op_catA
def keepsB (x : Nat → Int) (R : List Edge) : Bool := R.all fun e => decide (x e.1 ≤ x e.2.1 + e.2.2)
theorem keepsB_iff (x : Nat → Int) (R : List Edge) : keepsB x R = true ↔ KeepsF x R := by
  unfold keepsB KeepsF
  rw [List.all_eq_true]
  exact ⟨fun h e he => of_decide_eq_true (h e he), fun h e he => decide_eq_true (h e he)⟩
def tupD (ns : List Int) : PyData := .tuple (ns.map PyData.int)
def rgI (far : Int) : List Int := (List.range (2 * far + 1).toNat).map fun (i : Nat) => 0 - far + (i : Int)
def boxL (far : Int) : Nat → List (List Int)
  | 0 => [[]]
  | n + 1 => (boxL far n).flatMap fun one => (rgI far).map fun x => one ++ [x]
def keptL (m : Nat) (rs : List Row) (far : Int) : List (List Int) := (boxL far m).filter fun ns => keepsB (xOf m ns) (edges m rs)
theorem catA_anyG {K : PySem.W.Frag} {a b : Addr} {xs ys : List V} {H : Hp} {Q : VK} (ha : SqT K H a xs) (hb : SqT K H b ys) (hz : xs.length + ys.length ≤ sizeLine) (q : ∀ p H', Same H H' → SqT K H' p (xs ++ ys) → Q (.ref p) H') : rCatA K (.ref a) (.ref b) H Q :=
  ⟨a, b, xs, ys, rfl, rfl, ha, hb, hz, fun e => q b H (fun _ _ z => z) (by rw [e]; exact hb), fun _ e => q a H (fun _ _ z => z) (by rw [e, List.append_nil]; exact ha), fun _ _ p hp => q p _ (same_new hp) (.inl (.inl upd_same))⟩
theorem ints_of_dp {K : PySem.W.Frag} {H : Hp} : ∀ {ns : List Int} {vs : List V}, DpAll K H vs (ns.map PyData.int) → vs = ns.map V.int
  | [], _, h => by cases h; rfl
  | n :: ns, _, h => by
    cases h with
    | cons a b =>
      cases a
      rw [ints_of_dp b]
      rfl
theorem tup_read {K : PySem.W.Frag} {H : Hp} {v : V} {ns : List Int} (h : Dp K H v (tupD ns)) : ∃ t, v = .ref t ∧ SqT K H t (ns.map V.int) := by
  unfold tupD at h
  cases h with
  | tup q r => exact ⟨_, rfl, by rw [← ints_of_dp r]; exact q⟩
theorem ints_dpG {K : PySem.W.Frag} {H : Hp} : ∀ ns : List Int, DpAll K H (ns.map V.int) (ns.map PyData.int)
  | [] => .nil
  | n :: ns => .cons (.int n) (ints_dpG ns)
theorem ints_flatG : ∀ ns : List Int, flat.flats (ns.map PyData.int) = true
  | [] => rfl
  | n :: ns => by
    show (true && flat.flats (ns.map PyData.int)) = true
    rw [ints_flatG ns]; rfl
theorem tupD_flat (ns : List Int) : flat (tupD ns) = true := ints_flatG ns
theorem tups_flat (l : List (List Int)) : flat.flats (l.map tupD) = true := flats_map tupD tupD_flat l
theorem tup_make {K : PySem.W.Frag} {H : Hp} {t : Addr} {ns : List Int} (h : SqT K H t (ns.map V.int)) : Dp K H (.ref t) (tupD ns) := .tup h (ints_dpG ns)
/-- with a number more -/
def moreL (far : Int) (one : List Int) : List (List Int) := (rgI far).map fun x => one ++ [x]
theorem rgI_len {far : Int} : (rgI far).length = (2 * far + 1).toNat := by unfold rgI; rw [List.length_map, List.length_range]
theorem rgI_at {far : Int} {j : Nat} (h : j < (2 * far + 1).toNat) : (rgI far)[j]? = some (0 - far + (j : Int)) := by
  unfold rgI
  rw [List.getElem?_map, List.getElem?_range h]
  rfl
theorem box_mem {far : Int} (h0 : 0 ≤ far) : ∀ (m : Nat) (ns : List Int), ns ∈ boxL far m ↔ ns.length = m ∧ ∀ z ∈ ns, -far ≤ z ∧ z ≤ far
  | 0, ns => by
    show ns ∈ [[]] ↔ _
    rw [List.mem_singleton]
    exact ⟨fun h => by subst h; exact ⟨rfl, fun z hz => nomatch hz⟩, fun h => List.length_eq_zero_iff.mp h.1⟩
  | m + 1, ns => by
    show ns ∈ (boxL far m).flatMap (fun one => (rgI far).map fun x => one ++ [x]) ↔ _
    rw [List.mem_flatMap]
    have rg : ∀ x, x ∈ rgI far ↔ -far ≤ x ∧ x ≤ far := fun x => by
      unfold rgI
      rw [List.mem_map]
      constructor
      · rintro ⟨i, hi, rfl⟩
        have := List.mem_range.mp hi
        omega
      · intro h
        exact ⟨(x + far).toNat, List.mem_range.mpr (by omega), by omega⟩
    constructor
    · rintro ⟨one, h1, h2⟩
      obtain ⟨x, hx, rfl⟩ := List.mem_map.mp h2
      obtain ⟨l1, r1⟩ := (box_mem h0 m one).mp h1
      refine ⟨by rw [List.length_append, l1]; rfl, fun z hz => ?_⟩
      rcases List.mem_append.mp hz with hz | hz
      · exact r1 z hz
      · rw [List.mem_singleton.mp hz]; exact (rg x).mp hx
    · rintro ⟨hl, hr⟩
      have ne : ns ≠ [] := fun e => by rw [e] at hl; cases hl
      refine ⟨ns.dropLast, (box_mem h0 m _).mpr ⟨by rw [List.length_dropLast, hl]; rfl, fun z hz => hr z (List.dropLast_subset _ hz)⟩, List.mem_map.mpr ⟨ns.getLast ne, (rg _).mpr (hr _ (List.getLast_mem ne)), List.dropLast_concat_getLast ne⟩⟩
section
variable {P : Program} {w : World} {K : PySem.W.Frag} {mg : Str → Option Value} {base : Heap} {c_Bounds : Addr}
abbrev s_l_kept : Stmt := topS 16
theorem sc_l_kept : FnScope ["_law_many", "_law_rows_here", "_law_far", "_law_ways", "_law_k", "_law_longer", "_law_one", "_law_x"] ["_law_many", "_law_rows_here", "_law_far"] (defScope s_l_kept) := ⟨rfl, rfl, rfl, by decide +kernel, rfl, by decide +kernel, by decide +kernel⟩
def spKept (K : PySem.W.Frag) : Sp := fun vs H Q _ => ∃ (l : Addr) (m : Nat) (rs : List Row) (far : Int), vs = [.int m, .ref l, .int far] ∧ RowsLT K H l m rs ∧ m ≤ 2 ∧ 0 ≤ far ∧ far ≤ 7 ∧ ∀ (p : Addr) (ws : List V) (H' : Hp), Same H H' → H' p = some (.lst ws) → DpAll K H' ws ((keptL m rs far).map tupD) → Q (.ref p) H'
theorem ok_l_kept (B : Bt mg) (C_l_keeps : Cal P w K mg base 1 "_law_keeps" ["_law_rows_here", "_law_numbers"] (spKeeps K)) (D : DefAt K mg "_law_kept" s_l_kept ["_law_many", "_law_rows_here", "_law_far"]) : Cal P w K mg base 2 "_law_kept" ["_law_many", "_law_rows_here", "_law_far"] (spKept K) := by
  refine cal_of D sc_l_kept (fun vs H Q E h => ?_) (fun f cdv A outer s H vs Q E hr h => ?_)
  · obtain ⟨l, m, rs, far, rfl, _⟩ := h
    rfl
  obtain ⟨l, m, rs, far, rfl, hR, hm, f0, f1, q⟩ := h
  have hr' : Room 1 _ := hr
  refine ⟨_, (pss_cons (ps_set (i := 3) sc_l_kept.nd rfl (.inl rfl) (pe_lst (pa_cons (pe_tup pa_nil) pa_nil)))
      (pss_cons (ps_for PassesOwn.never rfl (pi_range1 (by rfl) B.range (pa_cons (pv 0) pa_nil)) (pg_name (i := 4) sc_l_kept.nd rfl (.inl rfl))
        (pss_cons (ps_set (i := 5) sc_l_kept.nd rfl (.inl rfl) (pe_lst pa_nil))
      (pss_cons (ps_for PassesOwn.never rfl (pi_list (pv 3)) (pg_name (i := 6) sc_l_kept.nd rfl (.inr rfl))
        (pss_one (ps_expr (pe_bm PySem.F.plainAttrs_list PySem.F.slot_list_extend PySem.F.type_list_extend mt_extend (pv 5) (pa_cons (pe_lc (own := [("_law_x", 7)]) (g := gName 7) rfl sc_l_kept.nd (pi_range2 (by rfl) B.range (pa_cons (pe_op op_sub pe_int (pv 2)) (pa_cons (pe_op op_add (pv 2) pe_int) pa_nil))) (blkOk_by (own := [("_law_x", 7)]) (N := ["_law_many", "_law_rows_here", "_law_far", "_law_ways", "_law_k", "_law_longer", "_law_one", "_law_x"]) (sc := defScope s_l_kept) (by decide +kernel)) (fun _ _ _ _ _ => (pg_name (i := 7) sc_l_kept.nd rfl (.inl rfl))) (fun _ _ _ _ _ => pts_nil) (fun _ _ _ _ _ => (pe_op (op_catAK (K := K) rfl) (pv 6) (pe_tup (pa_cons (pv 7) pa_nil))))) pa_nil)))))
      (pss_one (ps_set (i := 3) sc_l_kept.nd rfl (.inl rfl) (pv 5))))))
      (pss_one (ps_ret (pe_lc (own := [("_law_one", 6)]) (g := gName 6) rfl sc_l_kept.nd (pi_list (pv 3)) (blkOk_by (own := [("_law_one", 6)]) (N := ["_law_many", "_law_rows_here", "_law_far", "_law_ways", "_law_k", "_law_longer", "_law_one", "_law_x"]) (sc := defScope s_l_kept) (by decide +kernel)) (fun _ _ _ _ _ => (pg_name (i := 6) sc_l_kept.nd rfl (.inl rfl))) (fun _ _ _ _ _ => (pts_one (pt_val (pe_cal C_l_keeps hr' (by rfl) (pa_cons (pv 1) (pa_cons (pv 6) pa_nil)))))) (fun _ _ _ _ _ => (pv 6))))))), ?_⟩
  refine ⟨(by show 0 ≤ sizeLine; decide), fun t0 ht0 => ⟨(by show 1 ≤ sizeLine; decide), fun W0 hW0 => ?_⟩⟩
  have s1 := same_new (o := .tup []) ht0
  have e1 : (upd H t0 (.tup [])) t0 = some (.tup []) := upd_same
  generalize upd H t0 (.tup []) = H1 at s1 e1 hW0
  have s2 := same_new (o := .lst [V.ref t0]) hW0
  have e2 : (upd H1 W0 (.lst [V.ref t0])) W0 = some (.lst [V.ref t0]) := upd_same
  generalize upd H1 W0 (.lst [V.ref t0]) = H2 at s2 e2
  have sR : ∀ {H' : Hp}, Same H H' → RowsLT K H' l m rs := fun s => hR.same s
  refine ⟨_, rfl, (m : Int), rfl, by omega, by omega, for_range (lo := 0) (n := (m : Int).toNat) (fun i σ' H' => ∃ (Wa : Addr) (ws : List V) (y4 y5 y6 y7 : Option V), σ' = [some (.int m), some (.ref l), some (.int far), some (.ref Wa), y4, y5, y6, y7] ∧ Same H H' ∧ H' Wa = some (.lst ws) ∧ ws.length ≤ 15 ^ i ∧ DpAll K H' ws ((boxL far i).map tupD)) ?_ ?_ ?_⟩
  · exact ⟨W0, _, _, _, _, _, rfl, s1.trans s2, e2, (by show 1 ≤ 15 ^ 0; decide), .cons (.tup (.inl (.inl (s2 _ _ e1))) .nil) .nil⟩
  · rintro i σ' H' hi ⟨Wa, ws, y4, y5, y6, y7, rfl, s', eW, wl, hws⟩
    have i2 : i < 2 := by omega
    have wl15 : ws.length ≤ 15 := Nat.le_trans wl (by rcases (show i = 0 ∨ i = 1 by omega) with z | z <;> subst z <;> decide)
    refine ⟨(by show 0 ≤ sizeLine; decide), fun G hG => ?_⟩
    obtain ⟨wl2, wg⟩ := dpall_getM _ hws
    refine ⟨_, rfl, Wa, rfl, ⟨_, SqL.of ((same_new hG) _ _ eW)⟩, for_list (K := K) (a := Wa) (xs := ws) (fun j σ' H3 => ∃ (gs : List V) (y6 y7 : Option V), σ' = [some (.int m), some (.ref l), some (.int far), some (.ref Wa), some (.int (0 + (i : Int))), some (.ref G), y6, y7] ∧ Same H' H3 ∧ H3 G = some (.lst gs) ∧ gs.length ≤ 15 * j ∧ DpAll K H3 gs ((((boxL far i).take j).flatMap (moreL far)).map tupD)) ?_ ?_ ?_ ?_⟩
    · exact ⟨[], _, _, rfl, same_new hG, upd_same, Nat.le_refl _, .nil⟩
    · rintro j σ' H3 _ ⟨gs, y6, y7, rfl, s3, _⟩
      exact SqL.of (s3 _ _ eW)
    · rintro j y σ' H3 hy ⟨gs, y6, y7, rfl, s3, eG, gl, hgs⟩
      have jl : j < (boxL far i).length := by rw [← wl2]; exact (List.getElem?_eq_some_iff.mp hy).1
      have jl2 : j < 15 := by rw [← wl2] at jl; omega
      have eb := List.getElem?_eq_getElem jl
      obtain ⟨y', hy', dy⟩ := wg j _ eb
      rw [hy] at hy'
      cases hy'
      obtain ⟨one, eone⟩ : ∃ one, (boxL far i)[j] = one := ⟨_, rfl⟩
      rw [eone] at dy eb
      obtain ⟨t, rfl, ht⟩ := tup_read dy
      have ht3 := Tp.same s3 _ _ ht
      have onel : one.length = i := ((box_mem f0 i one).mp (List.mem_of_getElem? eb)).1
      refine ⟨_, rfl, .inl ⟨rfl, _, SqL.of eG⟩, _, rfl, _, _, rfl, rfl, _, rfl, _, _, rfl, rfl, 0 - far, far + 1, rfl, ⟨by omega, by omega, by omega, by omega⟩, fun D hD => lc_range (lo := 0 - far) (n := (far + 1 - (0 - far)).toNat) (fun k H4 => Same H3 H4 ∧ ∃ acc : List V, H4 D = some (.lst acc) ∧ acc.length = k ∧ DpAll K H4 acc ((((rgI far).take k).map fun x => one ++ [x]).map tupD)) ?_ ?_ ?_⟩
      · exact ⟨same_new hD, [], upd_same, rfl, .nil⟩
      · rintro k H4 hk ⟨s4, acc, eD, al, hacc⟩
        refine ⟨rfl, _, rfl, _, rfl, (by show 1 ≤ sizeLine; decide), fun t2 ht2 => ?_⟩
        have s5 := same_new (o := .tup [V.int (0 - far + (k : Int))]) ht2
        have e5 : (upd H4 t2 (.tup [V.int (0 - far + (k : Int))])) t2 = some (.tup [V.int (0 - far + (k : Int))]) := upd_same
        generalize upd H4 t2 (.tup [V.int (0 - far + (k : Int))]) = H5 at s5 e5
        refine catA_anyG (Tp.same (s4.trans s5) _ _ ht3) (.inl (.inl e5)) (by rw [List.length_map]; exact small (by show one.length + 1 ≤ _; omega)) fun t3 H6 s6 ht6 => ?_
        have e6 := s6 _ _ (s5 _ _ eD)
        have sH := s4.trans (s5.trans s6)
        have tl : Tp K H6 (upd H6 D (.lst (acc ++ [V.ref t3]))) := Tp.lst e6
        refine ⟨acc, e6, smallL (by omega), fun b o z => ?_, acc ++ [V.ref t3], upd_same, by rw [List.length_append, al]; rfl, ?_⟩
        · rw [upd_ne (ne_of_none z hD)]
          exact sH _ _ z
        · rw [List.take_add_one, rgI_at (by omega), List.map_append, List.map_append]
          refine dpall_app' (dps_keep ((Tp.same (s5.trans s6)).trans tl) _ _ (tups_flat _) hacc) (.cons ?_ .nil)
          refine tup_make (tl _ _ ?_)
          rw [List.map_append]
          exact ht6
      · rintro H4 ⟨s4, acc, eD, al, hacc⟩
        have al2 : acc.length ≤ 15 := by omega
        rw [List.take_of_length_le (by rw [rgI_len]; omega)] at hacc
        have eG4 := s4 _ _ eG
        have nDG : D ≠ G := fun z => by rw [z, eG] at hD; cases hD
        refine ⟨G, D, gs, acc, rfl, rfl, eG4, eD, small (by omega), ?_⟩
        have tl : Tp K H4 (upd H4 G (.lst (gs ++ acc))) := Tp.lst eG4
        refine ⟨gs ++ acc, _, _, rfl, fun b o z => ?_, upd_same, by rw [List.length_append]; omega, ?_⟩
        · rw [upd_ne (ne_of_none z hG)]
          exact s4 _ _ (s3 _ _ z)
        · rw [List.take_add_one, eb, List.flatMap_append, List.map_append]
          refine dpall_app' (dps_keep ((Tp.same s4).trans tl) _ _ (tups_flat _) hgs) ?_
          show DpAll K _ acc ((moreL far one ++ []).map tupD)
          rw [List.append_nil]
          exact dps_keep tl _ _ (tups_flat _) hacc
    · rintro σ' H3 ⟨gs, y6, y7, rfl, s3, eG, gl, hgs⟩
      rw [wl2, List.take_length] at hgs
      refine ⟨_, rfl, G, gs, _, _, _, _, rfl, s'.trans s3, eG, ?_, hgs⟩
      have : 15 * ws.length ≤ 15 * 15 ^ i := Nat.mul_le_mul (Nat.le_refl _) wl
      rw [Nat.pow_succ]
      omega
  · rintro σ' H3 ⟨Wa, ws, y4, y5, y6, y7, rfl, s3, eW, wl, hws⟩
    have em : (m : Int).toNat = m := by omega
    rw [em] at hws wl
    obtain ⟨wl2, wg⟩ := dpall_getM _ hws
    have wl225 : ws.length ≤ 225 := Nat.le_trans wl (by rcases (show m = 0 ∨ m = 1 ∨ m = 2 by omega) with z | z | z <;> subst z <;> decide)
    refine ⟨_, rfl, Wa, rfl, ⟨_, SqL.of eW⟩, fun D hD => lc_list (K := K) (a := Wa) (xs := ws) (fun j H4 => Same H3 H4 ∧ ∃ acc : List V, H4 D = some (.lst acc) ∧ acc.length ≤ j ∧ DpAll K H4 acc ((((boxL far m).take j).filter fun ns => keepsB (xOf m ns) (edges m rs)).map tupD)) ?_ ?_ ?_ ?_⟩
    · exact ⟨same_new hD, [], upd_same, Nat.le_refl _, .nil⟩
    · rintro j H4 _ ⟨s4, _⟩
      exact SqL.of (s4 _ _ eW)
    · rintro j y H4 hy ⟨s4, acc, eD, al, hacc⟩
      have jl : j < (boxL far m).length := by rw [← wl2]; exact (List.getElem?_eq_some_iff.mp hy).1
      have eb := List.getElem?_eq_getElem jl
      obtain ⟨y', hy', dy⟩ := wg j _ eb
      rw [hy] at hy'
      cases hy'
      obtain ⟨one, eone⟩ : ∃ one, (boxL far m)[j] = one := ⟨_, rfl⟩
      rw [eone] at dy eb
      obtain ⟨t, rfl, ht⟩ := tup_read dy
      have onel : one.length = m := ((box_mem f0 m one).mp (List.mem_of_getElem? eb)).1
      have jl3 : j < 225 := by rw [← wl2] at jl; omega
      refine ⟨rfl, _, rfl, _, rfl, l, t, m, rs, one, rfl, sR (s3.trans s4), .inr (Tp.same s4 _ _ ht), onel, by omega, fun k H5 s5 hk => ?_⟩
      have hk' : k = keepsB (xOf m one) (edges m rs) := by
        cases k with
        | true => exact ((keepsB_iff _ _).mpr (hk.mp rfl)).symm
        | false =>
          cases e : keepsB (xOf m one) (edges m rs) with
          | false => rfl
          | true => exact absurd (hk.mpr ((keepsB_iff _ _).mp e)) (by decide)
      have e5 := s5 _ _ eD
      refine ⟨_, rfl, ?_⟩
      have tk : ((boxL far m).take (j + 1)).filter (fun ns => keepsB (xOf m ns) (edges m rs)) = ((boxL far m).take j).filter (fun ns => keepsB (xOf m ns) (edges m rs)) ++ (if k then [one] else []) := by
        rw [List.take_add_one, eb, List.filter_append, hk']
        congr 1
        show List.filter _ [one] = _
        rw [List.filter_cons, List.filter_nil]
      cases k with
      | true =>
        refine iteT ⟨_, rfl, acc, e5, smallL (by omega), fun b o z => ?_, acc ++ [V.ref t], upd_same, by rw [List.length_append]; show _ + 1 ≤ _; omega, ?_⟩
        · rw [upd_ne (ne_of_none z hD)]
          exact s5 _ _ (s4 _ _ z)
        · have tl : Tp K H5 (upd H5 D (.lst (acc ++ [V.ref t]))) := Tp.lst e5
          rw [tk, List.map_append]
          exact dpall_app' (dps_keep ((Tp.same s5).trans tl) _ _ (tups_flat _) hacc) (.cons (dp_keep ((Tp.same (s4.trans s5)).trans tl) _ _ (tupD_flat _) dy) .nil)
      | false =>
        refine iteF ⟨s4.trans s5, acc, e5, by omega, ?_⟩
        rw [tk, show (if false = true then [one] else []) = ([] : List (List Int)) from rfl, List.append_nil]
        exact dps_keep (Tp.same s5) _ _ (tups_flat _) hacc
    rintro H4 ⟨s4, acc, eD, al, hacc⟩
    rw [wl2, List.take_length] at hacc
    exact q D acc H4 (s3.trans s4) eD hacc
end
end Lm

set_option Elab.async false
set_option linter.all false
set_option maxRecDepth 100000
set_option maxHeartbeats 4000000
set_option pp.maxSteps 600
set_option pp.deepTerms.threshold 6
namespace Lm
open PySem PySem.Spec PyProof.Rows L2 LmR
theorem xOf_at {m : Nat} {x : Nat → Int} {a : Nat} (h : a ≤ m) : xOf m ((List.range m).map fun a => x a - x m) a = x a - x m := by
  unfold xOf
  rw [List.getD_eq_getElem?_getD]
  by_cases z : a < m
  · rw [List.getElem?_append_left (by rw [List.length_map, List.length_range]; exact z), List.getElem?_map, List.getElem?_range z]
    rfl
  · have e : a = m := by omega
    subst e
    rw [List.getElem?_append_right (by rw [List.length_map, List.length_range]; omega), List.length_map, List.length_range, Nat.sub_self]
    show (0 : Int) = x a - x a
    omega
section
variable {m : Nat} {rs : List Row}
theorem edges_two (hm : m ≤ 2) (hR : ∀ r ∈ rs, RowOk m r) : ∀ e ∈ edges m rs, e.1 ≤ 2 ∧ e.2.1 ≤ 2 := fun e he => by
  obtain ⟨a, b⟩ := edges_ok hR e he
  exact ⟨by omega, by omega⟩
theorem edges_w (hs : ∀ r ∈ rs, -2 ≤ r.2.2 ∧ r.2.2 ≤ 2) : ∀ e ∈ edges m rs, -2 ≤ e.2.2 ∧ e.2.2 ≤ 2 := fun e he => by
  obtain ⟨r, hr, rfl⟩ := List.mem_map.mp he
  exact hs r hr
theorem kept_mem {ns : List Int} : ns ∈ keptL m rs 7 ↔ (ns.length = m ∧ ∀ z ∈ ns, -7 ≤ z ∧ z ≤ 7) ∧ KeepsF (xOf m ns) (edges m rs) := by
  unfold keptL
  rw [List.mem_filter, box_mem (by decide), keepsB_iff]
theorem kept_none (hR : ∀ r ∈ rs, RowOk m r) (h : closedF (edges m rs) openF = none) : keptL m rs 7 = [] := by
  obtain ⟨a, t, _, ht, w⟩ := closed_none (edges_ok hR) h
  cases e : keptL m rs 7 with
  | nil => rfl
  | cons ns l =>
    have k := (kept_mem.mp (show ns ∈ keptL m rs 7 by rw [e]; exact List.mem_cons_self ..)).2
    have := w.keeps k
    omega
/-- of two places: numbers that keep the rows and are as far apart as they can, or far -/
theorem kept_far (hm : m ≤ 2) (hR : ∀ r ∈ rs, RowOk m r) (hs : ∀ r ∈ rs, -2 ≤ r.2.2 ∧ r.2.2 ≤ 2) {D : Mat} (h : closedF (edges m rs) openF = some D) {i j : Nat} (hi : i ≤ m) (hj : j ≤ m) (ij : i ≠ j) :
    ∃ ns ∈ keptL m rs 7, (∀ d, D i j = some d → xOf m ns i - xOf m ns j = d) ∧ (D i j = none → 5 ≤ xOf m ns i - xOf m ns j) := by
  obtain ⟨x, kx, bx, dx, nx⟩ := box_pt (closed_some (edges_two hm hR) h) (edges_w hs) (show i ≤ 2 by omega) (show j ≤ 2 by omega) ij
  refine ⟨(List.range m).map fun a => x a - x m, kept_mem.mpr ⟨⟨by rw [List.length_map, List.length_range], fun z hz => ?_⟩, fun e he => ?_⟩, fun d hd => ?_, fun hn => ?_⟩
  · obtain ⟨a, ha, rfl⟩ := List.mem_map.mp hz
    have := List.mem_range.mp ha
    have := bx a m (by omega) (by omega)
    have := bx m a (by omega) (by omega)
    omega
  · obtain ⟨a, b⟩ := edges_ok hR e he
    rw [xOf_at a, xOf_at b]
    have := kx e he
    omega
  · rw [xOf_at hi, xOf_at hj]
    have := dx d hd
    omega
  · rw [xOf_at hi, xOf_at hj]
    have := nx hn
    omega
theorem kept_some (hm1 : 1 ≤ m) (hm : m ≤ 2) (hR : ∀ r ∈ rs, RowOk m r) (hs : ∀ r ∈ rs, -2 ≤ r.2.2 ∧ r.2.2 ≤ 2) {D : Mat} (h : closedF (edges m rs) openF = some D) : keptL m rs 7 ≠ [] := by
  obtain ⟨ns, h1, _⟩ := kept_far hm hR hs h (i := 0) (j := 1) (by omega) (by omega) (by decide)
  intro e
  rw [e] at h1
  cases h1
theorem kept_le (hR : ∀ r ∈ rs, RowOk m r) {D : Mat} (h : closedF (edges m rs) openF = some D) {i j : Nat} {d : Int} (hd : D i j = some d) {ns : List Int} (hn : ns ∈ keptL m rs 7) : xOf m ns i - xOf m ns j ≤ d := by
  have := ((closed_some (edges_ok hR) h).w i j d hd).keeps (kept_mem.mp hn).2
  omega
/-- bounds are alike where the same numbers keep their rows -/
theorem kept_same {rs' : List Row} (hm1 : 1 ≤ m) (hm : m ≤ 2) (hR : ∀ r ∈ rs, RowOk m r) (hs : ∀ r ∈ rs, -2 ≤ r.2.2 ∧ r.2.2 ≤ 2) (hR' : ∀ r ∈ rs', RowOk m r) (hs' : ∀ r ∈ rs', -2 ≤ r.2.2 ∧ r.2.2 ≤ 2) :
    sameC m (closedF (edges m rs) openF) (closedF (edges m rs') openF) ↔ keptL m rs 7 = keptL m rs' 7 := by
  cases e : closedF (edges m rs) openF with
  | none =>
    cases e' : closedF (edges m rs') openF with
    | none => exact ⟨fun _ => by rw [kept_none hR e, kept_none hR' e'], fun _ => True.intro⟩
    | some D' => exact ⟨fun h => h.elim, fun h => (kept_some hm1 hm hR' hs' e' (by rw [← h]; exact kept_none hR e)).elim⟩
  | some D =>
    cases e' : closedF (edges m rs') openF with
    | none => exact ⟨fun h => h.elim, fun h => (kept_some hm1 hm hR hs e (by rw [h]; exact kept_none hR' e')).elim⟩
    | some D' =>
      have C := closed_some (edges_ok hR) e
      have C' := closed_some (edges_ok hR') e'
      constructor
      · intro h
        unfold keptL
        refine List.filter_congr fun ns _ => ?_
        rw [Bool.eq_iff_iff, keepsB_iff, keepsB_iff]
        have go : ∀ {R R' : List Edge} {D D' : Mat}, Clo R m D → Clo R' m D' → (∀ a b, a ≤ m → b ≤ m → D a b = D' a b) → KeepsF (xOf m ns) R → KeepsF (xOf m ns) R' := fun {R R' D D'} C C' h k ed he => by
          obtain ⟨a, b⟩ := C'.ed ed he
          obtain ⟨d, hd, ld⟩ := C'.e ed he
          have := (C.w _ _ d (by rw [h _ _ a b]; exact hd)).keeps k
          omega
        exact ⟨go C C' h, go C' C fun a b ha hb => (h a b ha hb).symm⟩
      · intro h a b ha hb
        by_cases ab : a = b
        · subst ab
          rw [C.z a ha, C'.z a ha]
        · have go : ∀ {rs rs' : List Row} {D D' : Mat}, (∀ r ∈ rs, RowOk m r) → (∀ r ∈ rs', RowOk m r) → (∀ r ∈ rs, -2 ≤ r.2.2 ∧ r.2.2 ≤ 2) → (∀ r ∈ rs', -2 ≤ r.2.2 ∧ r.2.2 ≤ 2) → closedF (edges m rs) openF = some D → closedF (edges m rs') openF = some D' → keptL m rs 7 = keptL m rs' 7 → ∀ d, D a b = some d → ∃ d', D' a b = some d' ∧ d' ≤ d := fun {rs rs' D D'} hR hR' hs hs' e e' h d hd => by
            obtain ⟨ns, hn, h1, h2⟩ := kept_far hm hR' hs' e' ha hb ab
            have l := kept_le hR e hd (show ns ∈ keptL m rs 7 by rw [h]; exact hn)
            cases e2 : D' a b with
            | none =>
              have := h2 e2
              obtain ⟨k, hk, ka, kb⟩ : ∃ k, k ≤ 2 ∧ k ≠ a ∧ k ≠ b := by
                by_cases z0 : 0 ≠ a ∧ 0 ≠ b
                · exact ⟨0, by omega, z0.1, z0.2⟩
                · by_cases z1 : 1 ≠ a ∧ 1 ≠ b
                  · exact ⟨1, by omega, z1.1, z1.2⟩
                  · exact ⟨2, by omega, by omega, by omega⟩
              have := far4 (closed_some (edges_two hm hR) e) (edges_w hs) (show a ≤ 2 by omega) (show b ≤ 2 by omega) hk ab ka kb hd
              omega
            | some d' => exact ⟨d', rfl, by have := h1 d' e2; omega⟩
          cases f : D a b with
          | none =>
            cases f' : D' a b with
            | none => rfl
            | some d' =>
              obtain ⟨d, hd, _⟩ := go hR' hR hs' hs e' e h.symm d' f'
              rw [f] at hd; cases hd
          | some d =>
            obtain ⟨d', hd', l1⟩ := go hR hR' hs hs' e e' h d f
            obtain ⟨d2, hd2, l2⟩ := go hR' hR hs' hs e' e h.symm d' hd'
            rw [f] at hd2
            cases hd2
            rw [hd']
            congr 1
            omega
end
theorem ite_f2 {c : Prop} [Decidable c] {a b : Prop} (h : ¬ c) (q : b) : if c then a else b := by rw [if_neg h]; exact q
theorem tups_none (l : List (List Int)) : PyData.eqv (.list (l.map tupD)) (.list []) = decide (l = []) := by
  cases l with
  | nil => decide
  | cons n ns => simp [PyData.eqv, PyData.eqvAll]
theorem ints_depthG : ∀ ns : List Int, PyData.depthAll (ns.map PyData.int) = 0
  | [] => rfl
  | n :: ns => by
    show max 0 (PyData.depthAll (ns.map PyData.int)) = 0
    rw [ints_depthG ns]; rfl
theorem tups_depth (l : List (List Int)) : (PyData.list (l.map tupD)).depth ≤ 64 := by
  show PyData.depthAll (l.map tupD) + 1 ≤ 64
  have := depthAll_map tupD 1 (fun ns => by show PyData.depthAll (ns.map PyData.int) + 1 ≤ 1; rw [ints_depthG]; decide) l
  omega
theorem tups_eq {K : PySem.W.Frag} {H : Hp} {a b : Addr} {ws : List V} {l : List (List Int)} {Q : VK} (ha : H a = some (.lst ws)) (hd : DpAll K H ws (l.map tupD)) (hb : H b = some (.lst [])) (q : Q (.bl (decide (l = []))) H) : rEqP K (.ref a) (.ref b) H Q :=
  ⟨.list (l.map tupD), .list [], .lst (SqL.of ha) hd, .lst (SqL.of hb) .nil, plains_flat _ (tups_flat l), rfl, tups_depth l, by rw [tups_none]; exact q⟩
section
variable {P : Program} {w : World} {K : PySem.W.Frag} {mg : Str → Option Value} {base : Heap} {c_Bounds : Addr}
abbrev s_l_right : Stmt := topS 17
theorem sc_l_right : FnScope ["_law_many", "_law_rows_here", "_law_bounds", "_law_kept_here", "_law_i", "_law_j", "_law_far", "_law_most", "_law_one"] ["_law_many", "_law_rows_here", "_law_bounds"] (defScope s_l_right) := ⟨rfl, rfl, rfl, by decide +kernel, rfl, by decide +kernel, by decide +kernel⟩
def spRt26 (K : PySem.W.Frag) (C : Addr) : Sp := fun vs H Q _ => ∃ (l x : Addr) (m : Nat) (rs : List Row), vs = [.int m, .ref l, .ref x] ∧ RowsLT K H l m rs ∧ rs.length ≤ 12 ∧ 1 ≤ m ∧ m ≤ 2 ∧ (∀ r ∈ rs, -2 ≤ r.2.2 ∧ r.2.2 ≤ 2) ∧ BdAt K C H x m rs ∧ ∀ H', Same H H' → Q (.bl true) H'
theorem ok_l_right (B : Bt mg) (T_Bounds : ClsAt K mg "Bounds" c_Bounds BF) (C_l_kept : Cal P w K mg base 2 "_law_kept" ["_law_many", "_law_rows_here", "_law_far"] (spKept K)) (M_Bounds_least : CalM P w K mg base 1 c_Bounds "least" ["self", "i", "j"] (spLeast K c_Bounds)) (M_Bounds_is_empty : CalM P w K mg base 1 c_Bounds "is_empty" ["self"] (spEmpty K c_Bounds)) (D : DefAt K mg "_law_right" s_l_right ["_law_many", "_law_rows_here", "_law_bounds"]) : Cal P w K mg base 3 "_law_right" ["_law_many", "_law_rows_here", "_law_bounds"] (spRt26 K c_Bounds) := by
  refine cal_of D sc_l_right (fun vs H Q E h => ?_) (fun f cdv A outer s H vs Q E hr h => ?_)
  · obtain ⟨l, x, m, rs, rfl, _⟩ := h
    rfl
  obtain ⟨l, x, m, rs, rfl, hR, hrl, hm1, hm, hsm, hB, q⟩ := h
  have hr' : Room 2 _ := hr
  have M_Bounds_least := M_Bounds_least.mono (k := 2) (by decide)
  have M_Bounds_is_empty := M_Bounds_is_empty.mono (k := 2) (by decide)
  refine ⟨_, (pss_cons (ps_set (i := 3) sc_l_right.nd rfl (.inl rfl) (pe_cal C_l_kept hr' (by rfl) (pa_cons (pv 0) (pa_cons (pv 1) (pa_cons pe_int pa_nil)))))
      (pss_cons (ps_if (pt_cmpR op_ne (pe_calM0 M_Bounds_is_empty T_Bounds.c hr' (pv 2)) (pe_cmpR (op_eqP hr.units) (pv 3) (pe_lst pa_nil) (nomark _)) (nomark _))
        (pss_one (ps_ret pe_bl))
        pss_nil)
      (pss_cons (ps_if (pt_cmpR (op_eqP hr.units) (pv 3) (pe_lst pa_nil) (nomark _))
        (pss_one (ps_ret pe_bl))
        pss_nil)
      (pss_cons (ps_for PassesOwn.never rfl (pi_range2 (by rfl) B.range (pa_cons (pe_un un_neg pe_int) (pa_cons (pv 0) pa_nil))) (pg_name (i := 4) sc_l_right.nd rfl (.inr rfl))
        (pss_one (ps_for PassesOwn.never rfl (pi_range2 (by rfl) B.range (pa_cons (pe_un un_neg pe_int) (pa_cons (pv 0) pa_nil))) (pg_name (i := 5) sc_l_right.nd rfl (.inr rfl))
        (pss_cons (ps_par (i := 6) (j := 7) rfl sc_l_right.nd rfl rfl (by decide) rfl rfl (pa_cons (pe_calM M_Bounds_least T_Bounds.c hr' (pv 2) (pa_cons (pv 4) (pa_cons (pv 5) pa_nil))) (pa_cons (pe_callB (cr_max rfl) (by rfl) B.max PyProof.Rows.boot_max (pa_cons (pe_lc (own := [("_law_one", 8)]) (g := gName 8) rfl sc_l_right.nd (pi_list (pv 3)) (blkOk_by (own := [("_law_one", 8)]) (N := ["_law_many", "_law_rows_here", "_law_bounds", "_law_kept_here", "_law_i", "_law_j", "_law_far", "_law_most", "_law_one"]) (sc := defScope s_l_right) (by decide +kernel)) (fun _ _ _ _ _ => (pg_name (i := 8) sc_l_right.nd rfl (.inl rfl))) (fun _ _ _ _ _ => pts_nil) (fun _ _ _ _ _ => (pe_op op_sub (pe_ix (ix_tupK (K := K) rfl) (pe_op (op_catAK (K := K) rfl) (pv 8) (pe_tup (pa_cons pe_int pa_nil))) (pv 4) (fun _ _ => rfl)) (pe_ix (ix_tupK (K := K) rfl) (pe_op (op_catAK (K := K) rfl) (pv 8) (pe_tup (pa_cons pe_int pa_nil))) (pv 5) (fun _ _ => rfl))))) pa_nil)) pa_nil)) rfl)
      (pss_one (ps_if (PW.pt (pw_or (PW.pt (pw_and (pt_cmpR op_notN (pv 6) pe_non (nomark _)) (pw_and1 (pt_cmpR op_lt (pv 6) (pv 7) (nomark _))))) (pw_or1 (PW.pt (pw_and (pt_cmpR op_notN (pv 6) pe_non (nomark _)) (pw_and (pt_cmpR op_lt (pv 6) pe_int (nomark _)) (pw_and1 (pt_cmpR op_ne (pv 6) (pv 7) (nomark _)))))))))
        (pss_one (ps_ret pe_bl))
        pss_nil))))))
      (pss_one (ps_ret pe_bl)))))), ?_⟩
  refine ⟨_, rfl, _, rfl, l, m, rs, 7, rfl, hR, hm, by decide, by decide, fun W ws H1 s1 eW hws => ?_⟩
  have hB1 := hB.same s1
  obtain ⟨dyE, fsE, hxE, lkE⟩ : ∃ dx fs, H1 x = some (.ins c_Bounds dx fs) ∧ fs.lookup ("is_empty" : Str) = none := by
    obtain ⟨dx, vg, vc, hx, _, _⟩ := hB1.ob
    exact ⟨dx, _, hx, bfl_no m vg vc (by decide +kernel) (by decide +kernel) (by decide +kernel)⟩
  refine ⟨_, rfl, x, dyE, fsE, rfl, hxE, lkE, x, m, rs, rfl, hB1, _, rfl, (by show 0 ≤ sizeLine; decide), fun l2 hl2 => ?_⟩
  have s2 := same_new (o := .lst []) hl2
  have e2 : (upd H1 l2 (.lst [])) l2 = some (.lst []) := upd_same
  generalize upd H1 l2 (.lst []) = H2 at s2 e2
  refine tups_eq (s2 _ _ eW) (dps_keep (Tp.same s2) _ _ (tups_flat _) hws) e2 ⟨rfl, _, rfl, ?_⟩
  have em : (closedF (edges m rs) openF).isNone = decide (keptL m rs 7 = []) := by
    cases e : closedF (edges m rs) openF with
    | none => rw [kept_none hR.ok e]; rfl
    | some D => rw [decide_eq_false (kept_some hm1 hm hR.ok hsm e)]; rfl
  rw [em]
  refine ite_f2 (by simp) ?_
  have s02 := s1.trans s2
  refine ⟨_, rfl, (by show 0 ≤ sizeLine; decide), fun l3 hl3 => ?_⟩
  have s3 := same_new (o := .lst []) hl3
  have e3 : (upd H2 l3 (.lst [])) l3 = some (.lst []) := upd_same
  generalize upd H2 l3 (.lst []) = H3 at s3 e3
  have s03 := s02.trans s3
  have eW3 := s3 _ _ (s2 _ _ eW)
  have hws3 := dps_keep (Tp.same (s2.trans s3)) _ _ (tups_flat _) hws
  refine tups_eq eW3 hws3 e3 ⟨_, rfl, ite2 (fun _ => q _ s03) (fun z => ?_)⟩
  have ne : keptL m rs 7 ≠ [] := fun e => z (decide_eq_true e)
  obtain ⟨Dm, hD⟩ : ∃ Dm, closedF (edges m rs) openF = some Dm := by
    cases e : closedF (edges m rs) openF with
    | none => exact absurd (kept_none hR.ok e) ne
    | some D => exact ⟨D, rfl⟩
  have hB3 := hB.same s03
  have C := closed_some (edges_ok hR.ok) hD
  obtain ⟨wl, wg⟩ := dpall_getM _ hws3
  have em2 : ((m : Int) - -1).toNat = m + 1 := by omega
  refine ⟨_, rfl, _, rfl, -1, (m : Int), rfl, ⟨by decide, by decide, by omega, by omega⟩, for_range (lo := -1) (n := ((m : Int) - -1).toNat) (fun a σ' H' => (∃ y4 y5 y6 y7 y8 : Option V, σ' = [some (.int m), some (.ref l), some (.ref x), some (.ref W), y4, y5, y6, y7, y8]) ∧ Same H3 H') ⟨⟨_, _, _, _, _, rfl⟩, Same.refl _⟩ ?_ ?_⟩
  · rintro a σ' H' ha ⟨⟨y4, y5, y6, y7, y8, rfl⟩, s'⟩
    refine ⟨_, rfl, _, rfl, -1, (m : Int), rfl, ⟨by decide, by decide, by omega, by omega⟩, for_range (lo := -1) (n := ((m : Int) - -1).toNat) (fun b σ' H' => (∃ y5 y6 y7 y8 : Option V, σ' = [some (.int m), some (.ref l), some (.ref x), some (.ref W), some (.int (-1 + (a : Int))), y5, y6, y7, y8]) ∧ Same H3 H') ⟨⟨_, _, _, _, rfl⟩, s'⟩ ?_ ?_⟩
    · rintro b σ' H' hb ⟨⟨y5, y6, y7, y8, rfl⟩, s4⟩
      have i1 : -1 ≤ -1 + (a : Int) := by omega
      have i2 : -1 + (a : Int) < m := by omega
      have j1 : -1 ≤ -1 + (b : Int) := by omega
      have j2 : -1 + (b : Int) < m := by omega
      obtain ⟨i, ei⟩ : ∃ i, -1 + (a : Int) = i := ⟨_, rfl⟩
      obtain ⟨j, ej⟩ : ∃ j, -1 + (b : Int) = j := ⟨_, rfl⟩
      rw [ei] at i1 i2 ⊢
      rw [ej] at j1 j2 ⊢
      have hB4 := hB3.same s4
      obtain ⟨dyL, fsL, hxL, lkL⟩ : ∃ dx fs, H' x = some (.ins c_Bounds dx fs) ∧ fs.lookup ("least" : Str) = none := by
        obtain ⟨dx, vg, vc, hx, _, _⟩ := hB4.ob
        exact ⟨dx, _, hx, bfl_no m vg vc (by decide +kernel) (by decide +kernel) (by decide +kernel)⟩
      refine ⟨_, rfl, x, dyL, fsL, rfl, hxL, lkL, _, rfl, _, rfl, x, m, rs, i, j, Dm, rfl, hB4, hD, i1, i2, j1, j2, _, rfl, W, rfl, ⟨_, SqL.of (s4 _ _ eW3)⟩, fun D hD' => lc_list (K := K) (a := W) (xs := ws) (fun k H5 => Same H' H5 ∧ H5 D = some (.lst ((((keptL m rs 7).take k).map fun ns => xOf m ns (pl m i) - xOf m ns (pl m j)).map V.int))) ?_ ?_ ?_ ?_⟩
      · exact ⟨same_new hD', upd_same⟩
      · rintro k H5 _ ⟨s5, _⟩
        exact SqL.of (s5 _ _ (s4 _ _ eW3))
      · rintro k y H5 hy ⟨s5, eD⟩
        have kl : k < (keptL m rs 7).length := by rw [← wl]; exact (List.getElem?_eq_some_iff.mp hy).1
        have eb := List.getElem?_eq_getElem kl
        obtain ⟨y', hy', dy⟩ := wg k _ eb
        rw [hy] at hy'
        cases hy'
        obtain ⟨one, eone⟩ : ∃ one, (keptL m rs 7)[k] = one := ⟨_, rfl⟩
        rw [eone] at dy eb
        obtain ⟨t, rfl, ht⟩ := tup_read dy
        have onel : one.length = m := (kept_mem.mp (List.mem_of_getElem? eb)).1.1
        have xat : ∀ (i : Int), -1 ≤ i → i < m → atI ((one ++ [0]).map V.int) i = some (.int (xOf m one (pl m i))) := fun i i1 i2 => by
          refine at_pl (by rw [List.length_map, List.length_append, onel]; rfl) i1 i2 ?_
          have hp := pl_le i1 i2
          rw [List.getElem?_map]
          unfold xOf
          rw [List.getD_eq_getElem?_getD, List.getElem?_eq_getElem (by rw [List.length_append, onel]; show pl m i < m + 1; omega)]
          rfl
        have kl2 : k < 100000 := by
          have : (keptL m rs 7).length ≤ 225 := by
            unfold keptL
            refine Nat.le_trans (List.length_filter_le _ _) ?_
            rcases (show m = 1 ∨ m = 2 by omega) with z | z <;> subst z <;> decide +kernel
          omega
        have one1 : ∀ {H6 : Hp} {Q' : VK}, Same H' H6 → (∀ (p : Addr) (H7 : Hp), Same H6 H7 → SqT K H7 p ((one ++ [0]).map V.int) → Q' (.ref p) H7) → ∀ t2, H6 t2 = none → rCatA K (.ref t) (.ref t2) (upd H6 t2 (.tup [V.int 0])) Q' := fun {H6 Q'} s6 q' t2 ht2 => by
          have s7 := same_new (o := .tup [V.int 0]) ht2
          refine catA_anyG (Tp.same (s4.trans (s6.trans s7)) _ _ ht) (.inl (.inl upd_same)) (by rw [List.length_map, onel]; exact small (by show m + 1 ≤ _; omega)) fun p H7 s8 hp => q' p H7 (s7.trans s8) ?_
          rw [List.map_append]
          exact hp
        refine ⟨rfl, _, rfl, (by show 1 ≤ sizeLine; decide), one1 s5 fun p1 H6 s6 hp1 => ⟨_, rfl, p1, _, i, _, rfl, rfl, hp1, xat i i1 i2, _, rfl, (by show 1 ≤ sizeLine; decide), one1 (s5.trans s6) fun p2 H7 s7 hp2 => ⟨_, rfl, p2, _, j, _, rfl, rfl, hp2, xat j j1 j2, _, _, rfl, rfl, ?_⟩⟩⟩
        have eD7 := s7 _ _ (s6 _ _ eD)
        refine ⟨_, eD7, by rw [List.length_map, List.length_map, List.length_take]; exact smallL (by omega), fun b' o z => ?_, ?_⟩
        · rw [upd_ne (ne_of_none z hD')]
          exact s7 _ _ (s6 _ _ (s5 _ _ z))
        · rw [upd_same, List.take_add_one, eb, List.map_append, List.map_append]
          rfl
      rintro H5 ⟨s5, eD⟩
      rw [wl, List.take_length] at eD
      have pi := pl_le i1 i2
      have pj := pl_le j1 j2
      refine ⟨D, _, rfl, SqL.of eD, by rw [List.length_map]; exact List.length_pos_iff.mpr ne, fun mo hm1' hm2' => ⟨_, _, rfl, ?_⟩⟩
      have hle : ∀ ns ∈ keptL m rs 7, xOf m ns (pl m i) - xOf m ns (pl m j) ≤ mo := fun ns hn => hm2' _ (List.mem_map.mpr ⟨ns, hn, rfl⟩)
      obtain ⟨n0, hn0, en0⟩ := List.mem_map.mp hm1'
      have fin : ((fun σ' H' => (∃ y5 y6 y7 y8 : Option V, σ' = [some (.int m), some (.ref l), some (.ref x), some (.ref W), some (.int i), y5, y6, y7, y8]) ∧ Same H3 H') : L2.St → Hp → Prop) [some (.int m), some (.ref l), some (.ref x), some (.ref W), some (.int i), some (.int j), some (oV (Dm (pl m i) (pl m j))), some (.int mo), y8] H5 := ⟨⟨_, _, _, _, rfl⟩, s4.trans s5⟩
      cases e : Dm (pl m i) (pl m j) with
      | none =>
        rw [e] at fin
        exact ⟨_, rfl, rfl, _, rfl, iteF (iteF ⟨_, rfl, rfl, _, rfl, iteF fin⟩)⟩
      | some d =>
        rw [e] at fin
        have l1 : mo ≤ d := by rw [← en0]; exact kept_le hR.ok hD e hn0
        have l2 : d ≤ mo := by
          by_cases ij : pl m i = pl m j
          · have : xOf m n0 (pl m i) - xOf m n0 (pl m j) = mo := en0
            rw [ij] at e this
            have e0 := C.z (pl m j) pj
            rw [e] at e0
            cases e0
            omega
          · obtain ⟨ns, hn, h1, _⟩ := kept_far hm hR.ok hsm hD pi pj ij
            have := h1 d e
            have := hle ns hn
            omega
        have : mo = d := by omega
        subst this
        refine ⟨_, rfl, rfl, _, rfl, iteT ⟨_, rfl, _, rfl, _, _, rfl, rfl, _, rfl, ite_f2 (by simp) ⟨_, rfl, rfl, _, rfl, iteT ⟨_, rfl, _, _, rfl, rfl, _, rfl, ite2 (fun _ => ?_) (fun _ => fin)⟩⟩⟩⟩
        exact ⟨_, rfl, _, rfl, rfl, _, rfl, ite_f2 (by rw [show oV (some mo) = V.int mo from rfl]; simp) fin⟩
    · rintro σ' H' ⟨⟨y5, y6, y7, y8, rfl⟩, s4⟩
      exact ⟨⟨_, _, _, _, _, rfl⟩, s4⟩
  · rintro σ' H' ⟨_, s4⟩
    exact q _ (s03.trans s4)
end
end Lm

set_option Elab.async false
set_option linter.all false
set_option maxRecDepth 100000
set_option maxHeartbeats 4000000
set_option pp.maxSteps 600
set_option pp.deepTerms.threshold 6
namespace Lm
open PySem PySem.Spec PyProof.Rows L2 LmR
theorem ex_seqG {K : PySem.W.Frag} {H H' : Hp} {f a : Addr} {xs : List V} (hf : H f = none) (ex : Ex [f] H H') (h : SqL K H a xs) : SqL K H' a xs := by
  rcases h with (h | ⟨o, h⟩) | h
  · exact .inl (.inl (ex _ _ h (by simp [ne_of_none h hf])))
  · exact .inl (.inr ⟨o, ex _ _ h (by simp [ne_of_none h hf])⟩)
  · exact .inr h
theorem ints_eqv : ∀ ns ms : List Int, PyData.eqvAll (ns.map PyData.int) (ms.map PyData.int) = true ↔ ns = ms
  | [], [] => by simp [PyData.eqvAll]
  | [], m :: ms => by simp [PyData.eqvAll]
  | n :: ns, [] => by simp [PyData.eqvAll]
  | n :: ns, m :: ms => by
    rw [List.map_cons, List.map_cons, PyData.eqvAll, Bool.and_eq_true, ints_eqv ns ms, List.cons.injEq]
    simp [PyData.eqv]
theorem tups_eqv : ∀ l k : List (List Int), PyData.eqvAll (l.map tupD) (k.map tupD) = true ↔ l = k
  | [], [] => by simp [PyData.eqvAll]
  | [], m :: ms => by simp [PyData.eqvAll]
  | n :: ns, [] => by simp [PyData.eqvAll]
  | n :: ns, m :: ms => by
    rw [List.map_cons, List.map_cons, PyData.eqvAll, Bool.and_eq_true, tups_eqv ns ms, List.cons.injEq]
    refine and_congr ?_ Iff.rfl
    show PyData.eqv (.tuple (n.map PyData.int)) (.tuple (m.map PyData.int)) = true ↔ _
    rw [PyData.eqv]
    exact ints_eqv n m
theorem cut_takeG {xs : List V} {j : Nat} (h : j ≤ xs.length) : cutV xs none (some (j : Int)) = xs.take j := by
  unfold cutV
  rw [show HT.sIx xs.length xs.length (some (j : Int)) = min j xs.length from HT.sIx_nat _ _ j, HT.sIx_none, List.drop_zero, Nat.sub_zero, Nat.min_eq_left h]
theorem dpall_take {K : PySem.W.Frag} {H : Hp} : ∀ (n : Nat) {xs : List V} {ds : List PyData}, DpAll K H xs ds → DpAll K H (xs.take n) (ds.take n)
  | 0, _, _, _ => by rw [List.take_zero, List.take_zero]; exact .nil
  | n + 1, _, _, .nil => by rw [List.take_nil, List.take_nil]; exact .nil
  | n + 1, _, _, .cons a b => by rw [List.take_succ_cons, List.take_succ_cons]; exact .cons a (dpall_take n b)
section
variable {P : Program} {w : World} {K : PySem.W.Frag} {mg : Str → Option Value} {base : Heap} {c_Bounds : Addr}
theorem mkB {dvs : List V} (hdv : dvs.drop 1 = []) {m : Nat} (hm : m ≤ 10) {H1 : Hp} {x1 dx1 a : Addr} {ys : List V} {ts : List Row} {Q' : Hp → Prop} {E : XK} (nx : H1 x1 = none) (ndx : H1 dx1 = none) (ha : H1 a = some (.lst ys)) (hd : DpAll K H1 ys (ts.map rowD)) (hok : ∀ r ∈ ts, RowOk m r) (hl : ts.length ≤ 100)
    (q : ∀ H9, Same H1 H9 → BdAt K c_Bounds H9 x1 m ts → Q' H9) : spInit K c_Bounds (.ref x1 :: ([.int m, .ref a] ++ dvs.drop 1)) (upd (upd H1 dx1 (.own x1)) x1 (.ins c_Bounds dx1 [])) (fun v H2 => v = .non ∧ Q' H2) E := by
  rw [hdv]
  have s8 : Same H1 (upd (upd H1 dx1 (.own x1)) x1 (.ins c_Bounds dx1 [])) := fun b o z => by
    rw [upd_ne (ne_of_none z nx), upd_ne (ne_of_none z ndx)]
    exact z
  have e8 : (upd (upd H1 dx1 (.own x1)) x1 (.ins c_Bounds dx1 [])) x1 = some (.ins c_Bounds dx1 []) := upd_same
  generalize upd (upd H1 dx1 (.own x1)) x1 (.ins c_Bounds dx1 []) = H8 at s8 e8
  exact ⟨x1, dx1, a, m, ys, ts, rfl, e8, .inl (SqL.of (s8 _ _ ha)), dps_keep (Tp.same s8) _ _ (rows_flat ts) hd, hok, by omega, hl, fun H9 k9 hB => ⟨rfl, q H9 (fun b o z => k9 b o (s8 _ _ z) (ne_of_none z nx)) hB⟩⟩
abbrev s_law : Stmt := topS 18
theorem sc_law : FnScope ["_law_script", "_law_k", "_law_flow_here", "_law_many", "_law_rows_here", "_law_other", "_law_some"] ["_law_script"] (defScope s_law) := ⟨rfl, rfl, rfl, by decide +kernel, rfl, by decide +kernel, by decide +kernel⟩
def spLaw (K : PySem.W.Frag) : Sp := fun vs H Q _ => ∃ (a : Addr) (ns : List Int), vs = [.ref a] ∧ SqL K H a (ns.map V.int) ∧ ns.length ≤ 63 ∧ ∀ H', Q (.bl true) H'
theorem ok_law {dvs : List V} (hdv : dvs.drop 1 = []) (B : Bt mg) (T_Bounds : ClsAt K mg "Bounds" c_Bounds BF) (C_l_flow : Cal P w K mg base 2 "_law_flow" ["_law_script", "_law_k"] (spFlow K)) (C_l_draw : Cal P w K mg base 1 "_law_draw" ["_law_flow_here", "_law_many"] (spDraw)) (C_l_rows : Cal P w K mg base 2 "_law_rows" ["_law_flow_here", "_law_many", "_law_most", "_law_far"] (spRows K)) (C_l_kept : Cal P w K mg base 2 "_law_kept" ["_law_many", "_law_rows_here", "_law_far"] (spKept K)) (C_l_right : Cal P w K mg base 3 "_law_right" ["_law_many", "_law_rows_here", "_law_bounds"] (spRt26 K c_Bounds)) (M_Bounds_eq : CalM P w K mg base 1 c_Bounds "__eq__" ["self", "other"] (spEqB K c_Bounds)) (I_Bounds : CalI P w K mg base 5 c_Bounds "Bounds" ["self", "many", "rows"] dvs 1 (spInit K c_Bounds)) {f : Addr} {fd : FuncData} (F : Fun K "law" "law" s_law f fd) : FnOk P w K mg base CX0 7 f fd ["_law_script"] (spLaw K) := by
  refine F.ok sc_law (fun vs H Q E h => ?_) (fun cdv A outer s H vs Q E hr h => ?_)
  · obtain ⟨a, ns, rfl, _⟩ := h
    rfl
  obtain ⟨a, ns, rfl, hS, h63, q⟩ := h
  have hr' : Room 6 _ := hr
  have hr'' := hr'
  have C_l_flow := C_l_flow.mono (k := 6) (by decide)
  have C_l_draw := C_l_draw.mono (k := 6) (by decide)
  have C_l_rows := C_l_rows.mono (k := 6) (by decide)
  have C_l_kept := C_l_kept.mono (k := 6) (by decide)
  have C_l_right := C_l_right.mono (k := 6) (by decide)
  have M_Bounds_eq := M_Bounds_eq.mono (k := 5) (by decide)
  refine ⟨_, (pss_cons (ps_for PassesOwn.never rfl (pi_range1 (by rfl) B.range (pa_cons (pe_callB (call_max2 rfl) (by rfl) B.max PyProof.Rows.boot_max (pa_cons pe_int (pa_cons (pe_callB (call_min2 rfl) (by rfl) B.min PyProof.Rows.boot_min (pa_cons pe_int (pa_cons (pe_callB call_len_seq (by rfl) B.len PySem.boot_len (pa_cons (pv 0) pa_nil)) pa_nil))) pa_nil))) pa_nil)) (pg_name (i := 1) sc_law.nd rfl (.inl rfl))
        (pss_cons (ps_set (i := 2) sc_law.nd rfl (.inl rfl) (pe_cal C_l_flow hr' (by rfl) (pa_cons (pv 0) (pa_cons (pv 1) pa_nil))))
      (pss_cons (ps_set (i := 3) sc_law.nd rfl (.inl rfl) (pe_op op_add pe_int (pe_cal C_l_draw hr' (by rfl) (pa_cons (pv 2) (pa_cons pe_int pa_nil)))))
      (pss_cons (ps_set (i := 4) sc_law.nd rfl (.inl rfl) (pe_cal C_l_rows hr' (by rfl) (pa_cons (pv 2) (pa_cons (pv 3) (pa_cons pe_int (pa_cons pe_int pa_nil))))))
      (pss_cons (ps_set (i := 5) sc_law.nd rfl (.inl rfl) (pe_op op_cat (pe_slice sl_list (pv 4) po_none (po_some (pe_cal C_l_draw hr' (by rfl) (pa_cons (pv 2) (pa_cons (pe_op op_add (pe_callB call_len_seq (by rfl) B.len PySem.boot_len (pa_cons (pv 4) pa_nil)) pe_int) pa_nil))))) (pe_cal C_l_rows hr' (by rfl) (pa_cons (pv 2) (pa_cons (pv 3) (pa_cons pe_int (pa_cons pe_int pa_nil)))))))
      (pss_cons (ps_set (i := 6) sc_law.nd rfl (.inl rfl) (pe_lst (pa_cons (pe_calI I_Bounds hr'' (by rfl) (pa_cons (pv 3) (pa_cons (pv 4) pa_nil))) (pa_cons (pe_calI I_Bounds hr'' (by rfl) (pa_cons (pv 3) (pa_cons (pv 5) pa_nil))) pa_nil))))
      (pss_cons (ps_if (PW.pt (pw_or (pt_not (pt_val (pe_cal C_l_right hr' (by rfl) (pa_cons (pv 3) (pa_cons (pv 4) (pa_cons (pe_ix ix_list (pv 6) pe_int (fun _ _ => rfl)) pa_nil)))))) (pw_or1 (pt_not (pt_val (pe_cal C_l_right hr' (by rfl) (pa_cons (pv 3) (pa_cons (pv 5) (pa_cons (pe_ix ix_list (pv 6) pe_int (fun _ _ => rfl)) pa_nil)))))))))
        (pss_one (ps_ret pe_bl))
        pss_nil)
      (pss_one (ps_if (pt_cmpR op_ne (pe_cmpR (op_eqO M_Bounds_eq hr') (pe_ix ix_list (pv 6) pe_int (fun _ _ => rfl)) (pe_ix ix_list (pv 6) pe_int (fun _ _ => rfl)) (nomark _)) (pe_cmpR (op_eqP hr.units) (pe_cal C_l_kept hr' (by rfl) (pa_cons (pv 3) (pa_cons (pv 4) (pa_cons pe_int pa_nil)))) (pe_cal C_l_kept hr' (by rfl) (pa_cons (pv 3) (pa_cons (pv 5) (pa_cons pe_int pa_nil)))) (nomark _)) (nomark _))
        (pss_one (ps_ret pe_bl))
        pss_nil)))))))))
      (pss_one (ps_ret pe_bl))), ?_⟩
  refine ⟨_, rfl, a, _, rfl, .inl hS, 2, _, rfl, 1, _, rfl, ?_⟩
  obtain ⟨m, em, m0, m63⟩ : ∃ m : Int, (if (if (((ns.map V.int).length : Nat) : Int) < 2 then (((ns.map V.int).length : Nat) : Int) else 2) > 1 then (if (((ns.map V.int).length : Nat) : Int) < 2 then (((ns.map V.int).length : Nat) : Int) else 2) else 1) = m ∧ 0 ≤ m ∧ m ≤ 63 := by
    refine ⟨_, rfl, ?_, ?_⟩
    · split <;> split <;> omega
    · split <;> split <;> omega
  show ∃ n : Int, [V.int (if (if (((ns.map V.int).length : Nat) : Int) < 2 then (((ns.map V.int).length : Nat) : Int) else 2) > 1 then (if (((ns.map V.int).length : Nat) : Int) < 2 then (((ns.map V.int).length : Nat) : Int) else 2) else 1)] = [V.int n] ∧ _
  rw [em]
  refine ⟨m, rfl, by omega, by omega, for_range (lo := 0) (n := m.toNat) (fun i σ' H' => (∃ y1 y2 y3 y4 y5 y6 : Option V, σ' = [some (.ref a), y1, y2, y3, y4, y5, y6]) ∧ SqL K H' a (ns.map V.int)) ⟨⟨_, _, _, _, _, _, rfl⟩, hS⟩ ?_ ?_⟩
  · rintro i σ' H' hi ⟨⟨y1, y2, y3, y4, y5, y6, rfl⟩, hS'⟩
    refine ⟨_, rfl, _, rfl, a, ns, _, rfl, hS', by omega, by omega, fun f o hf fl => ?_⟩
    have s1 : Same H' (upd H' f o) := same_new hf
    generalize upd H' f o = H2 at s1 fl
    refine ⟨_, rfl, f, 2, rfl, fl, by decide, by decide, fun d H3 d0 d1 dr3 => ⟨_, _, rfl, rfl, ?_⟩⟩
    obtain ⟨mm, emm⟩ : ∃ mm : Nat, 1 + d = (mm : Int) := ⟨(1 + d).toNat, by omega⟩
    show gName 3 (V.int (1 + d)) _ _ _
    rw [emm]
    have g3 := dr3.gr
    have mm1 : 1 ≤ mm := by omega
    have mm2 : mm ≤ 2 := by omega
    refine ⟨_, rfl, _, rfl, f, mm, 8, 2, rfl, g3.fl, by omega, by decide, by decide, by decide, by decide, fun l xs rs H4 g4 nl hl hd hok hc hlen => ?_⟩
    have g04 := g3.trans g4
    have nlf := g3.fl.nf nl
    have xl := (dpall_getM _ hd).1
    have rl8 : rs.length ≤ 8 := by omega
    refine ⟨_, rfl, _, rfl, _, rfl, l, xs, rfl, .inl (SqL.of hl), _, _, rfl, rfl, f, _, rfl, g04.fl, by omega, by omega, fun d5 H5 d50 d51 dr5 => ⟨_, rfl, l, xs, rfl, SqL.of (dr5.ex _ _ hl (by simp [nlf])), fun l6 hl6 => ?_⟩⟩
    have g5 := g04.trans dr5.gr
    obtain ⟨k5, rfl⟩ : ∃ k5 : Nat, d5 = (k5 : Int) := ⟨d5.toNat, by omega⟩
    have k5l : k5 ≤ xs.length := by omega
    rw [cut_takeG k5l]
    have s6 := same_new (o := .lst (xs.take k5)) hl6
    have e6 : (upd H5 l6 (.lst (xs.take k5))) l6 = some (.lst (xs.take k5)) := upd_same
    have n6f := g5.fl.nf hl6
    generalize upd H5 l6 (.lst (xs.take k5)) = H6 at s6 e6
    have g6 := g5.trans (Gr.same g5.fl s6)
    have g46 : Gr f H4 H6 := dr5.gr.trans (Gr.same g5.fl s6)
    refine ⟨_, rfl, _, rfl, f, mm, 2, 2, rfl, g6.fl, by omega, by decide, by decide, by decide, by decide, fun l7 xs7 rs7 H7 g7 nl7 hl7 hd7 hok7 hc7 hlen7 => ?_⟩
    have g07 := g6.trans g7
    have g47 := g46.trans g7
    have n7f := g6.fl.nf nl7
    have xl7 := (dpall_getM _ hd7).1
    have e67 := g7.ex _ _ e6 (by simp [n6f])
    refine ⟨l6, l7, xs.take k5, xs7, rfl, rfl, e67, hl7, small (by rw [List.length_take]; omega), fun l8 hl8 => ?_⟩
    have s8 := same_new (o := .lst (xs.take k5 ++ xs7)) hl8
    have e8 : (upd H7 l8 (.lst (xs.take k5 ++ xs7))) l8 = some (.lst (xs.take k5 ++ xs7)) := upd_same
    generalize upd H7 l8 (.lst (xs.take k5 ++ xs7)) = H8 at s8 e8
    have g08 := g07.trans (Gr.same g07.fl s8)
    have g48 := g47.trans (Gr.same g07.fl s8)
    have hl8' := g48.ex _ _ hl (by simp [nlf])
    have hd8 := dps_keep (g48.tp g04.fl) _ _ (rows_flat rs) hd
    obtain ⟨rs', ers⟩ : ∃ rs' : List Row, rs.take k5 ++ rs7 = rs' := ⟨_, rfl⟩
    have hd' : DpAll K H8 (xs.take k5 ++ xs7) (rs'.map rowD) := by
      rw [← ers, List.map_append, List.map_take]
      exact dpall_app' (dpall_take k5 hd8) (dps_keep (Tp.same s8) _ _ (rows_flat rs7) hd7)
    have hok' : ∀ r ∈ rs', RowOk mm r := fun r h => by
      rw [← ers] at h
      exact (List.mem_append.mp h).elim (fun z => hok r (List.mem_of_mem_take z)) (hok7 r)
    have hc' : ∀ r ∈ rs', -2 ≤ r.2.2 ∧ r.2.2 ≤ 2 := fun r h => by
      rw [← ers] at h
      exact (List.mem_append.mp h).elim (fun z => hc r (List.mem_of_mem_take z)) (hc7 r)
    have rl' : rs'.length ≤ 10 := by rw [← ers, List.length_append, List.length_take]; omega
    -- the bounds
    refine ⟨_, rfl, _, rfl, fun x dx nx ndx ne => mkB hdv (by omega) nx ndx hl8' hd8 hok (by omega) fun H9 s9 hB => ?_⟩
    refine ⟨_, rfl, _, rfl, fun x' dx' nx' ndx' ne' => mkB hdv (by omega) nx' ndx' (s9 _ _ e8) (dps_keep (Tp.same s9) _ _ (rows_flat _) hd') hok' (by omega) fun H10 s10 hB' => ⟨(by show 2 ≤ sizeLine; decide), fun L hL => ?_⟩⟩
    have s11 := same_new (o := .lst [V.ref x, V.ref x']) hL
    have e11 : (upd H10 L (.lst [V.ref x, V.ref x'])) L = some (.lst [V.ref x, V.ref x']) := upd_same
    generalize upd H10 L (.lst [V.ref x, V.ref x']) = H11 at s11 e11
    have s811 := s9.trans (s10.trans s11)
    have hR : RowsLT K H11 l mm rs := ⟨⟨xs, .inl (s811 _ _ hl8'), dps_keep (Tp.same s811) _ _ (rows_flat _) hd8⟩, hok, by omega⟩
    have hR' : RowsLT K H11 l8 mm rs' := ⟨⟨_, .inl (s811 _ _ e8), dps_keep (Tp.same s811) _ _ (rows_flat _) hd'⟩, hok', by omega⟩
    have hB1 := hB.same (s10.trans s11)
    have hB2 := hB'.same s11
    have ex11 : SqL K H11 a (ns.map V.int) := ex_seqG hf (fun b o z nb => s811 _ _ (g08.ex b o (s1 _ _ z) nb)) hS'
    clear hB hB' hd' hd8 hl8' e8 g48 g08 s8 e67 g07 g47 g7 g6 g46 hd7 hl7 nl7 e6 s6 g5 dr5 hd hl nl g4 g04 g3 dr3
    have fin : ∀ H12, Same H11 H12 → SqL K H12 a (ns.map V.int) := fun H12 s => s.seq ex11
    refine ⟨_, rfl, _, rfl, _, rfl, L, _, 0, _, rfl, rfl, SqL.of e11, rfl, l, x, mm, rs, rfl, hR, by omega, mm1, mm2, hc, hB1, fun H12 s12 => ⟨_, rfl, iteF ?_⟩⟩
    refine ⟨_, rfl, _, rfl, _, rfl, L, _, 1, _, rfl, rfl, SqL.of (s12 _ _ e11), rfl, l8, x', mm, rs', rfl, hR'.same s12, by omega, mm1, mm2, hc', hB2.same s12, fun H13 s13 => ⟨_, rfl, iteF ?_⟩⟩
    have s113 := s12.trans s13
    have hB13 := hB1.same s113
    have hB13' := hB2.same s113
    obtain ⟨dx1, vg1, vc1, hx1, _, _⟩ := id hB13.ob
    obtain ⟨dx2, vg2, vc2, hx2, _, _⟩ := id hB13'.ob
    refine ⟨_, rfl, L, _, 0, _, rfl, rfl, SqL.of (s113 _ _ e11), rfl, _, rfl, L, _, 1, _, rfl, rfl, SqL.of (s113 _ _ e11), rfl, x, x', dx1, _, dx2, _, rfl, rfl, hx1, hx2, x, x', mm, mm, rs, rs', rfl, hB13, hB13', fun c hcc => ⟨c, rfl, ?_⟩⟩
    refine ⟨_, rfl, _, rfl, l, mm, rs, 7, rfl, hR.same s113, mm2, by decide, by decide, fun W ws H14 s14 eW hws => ?_⟩
    refine ⟨_, rfl, _, rfl, l8, mm, rs', 7, rfl, hR'.same (s113.trans s14), mm2, by decide, by decide, fun W' ws' H15 s15 eW' hws' => ?_⟩
    refine ⟨.list ((keptL mm rs 7).map tupD), .list ((keptL mm rs' 7).map tupD), .lst (SqL.of (s15 _ _ eW)) (dps_keep (Tp.same s15) _ _ (tups_flat _) hws), .lst (SqL.of eW') hws', plains_flat _ (tups_flat _), plains_flat _ (tups_flat _), tups_depth _, rfl, _, rfl, ite_f2 ?_ ⟨⟨_, _, _, _, _, _, rfl⟩, fin _ (s113.trans (s14.trans s15))⟩⟩
    have ee : PyData.eqv (.list ((keptL mm rs 7).map tupD)) (.list ((keptL mm rs' 7).map tupD)) = c := by
      rw [PyData.eqv]
      have z : PyData.eqvAll ((keptL mm rs 7).map tupD) ((keptL mm rs' 7).map tupD) = true ↔ c = true := by
        rw [tups_eqv, hcc, ← kept_same mm1 mm2 hok hc hok' hc']
        exact ⟨fun h => ⟨rfl, h⟩, fun h => h.2⟩
      exact Bool.eq_iff_iff.mpr z
    rw [ee]
    simp
  · rintro σ' H' _
    exact q _
end
end Lm

set_option Elab.async false
set_option linter.all false
set_option maxRecDepth 100000
set_option maxHeartbeats 2000000
namespace Lm
open PySem PySem.Spec PyProof.Rows L2 LmR
theorem defAt_mk {K : PySem.W.Frag} {h : Heap} {mg : Str → Option Value} {x : Str} {st : Stmt} {ps : List Str} {f : Addr} {oc : Value} {od an : Option Addr} {osl : Array (Option Value)} {kV doc pm cdv ct : Value} (X : K.In h) (G : h.Ns mainGlobals mg)
    (a : PySem.W.nsIn K mainGlobals x = some (some (.ref f))) (l : K.lookup f = some ⟨oc, od, .func (PySem.W.fnOf x x (defArgs st) (defBody st) (defScope st) .none kV doc pm an cdv ct), osl⟩) (c : PySem.W.codeIn K cdv x = true) (k : PySem.W.keepIn K (.ref f) = true)
    (hb : ∀ (kV doc pm : Value) (an : Option Addr) (cdv ct : Value) (us : List Value), us.length = ps.length → bindArgs (PySem.W.fnOf x x (defArgs st) (defBody st) (defScope st) .none kV doc pm an cdv ct) ⟨us, []⟩ = pure (ps.zip us)) : DefAt K mg x st ps :=
  ⟨f, _, fun_mk l c k, (fun_mk l c k).binds hb, PySem.W.mg_of X G a⟩
theorem all_mk {l : PySem.W.OpenLaw} {w : World} {K : PySem.W.Frag} {h : Heap} {mg : Str → Option Value} {fa : Addr} (X : K.In h) (G : h.Ns mainGlobals mg) (hfa : mg "law" = some (.ref fa))
    {f0 : Addr} {od0 an0 : Option Addr} {sl0 : Array (Option Value)} {oc0 kV0 dc0 pm0 cd0 ct0 : Value} {f1 : Addr} {od1 an1 : Option Addr} {sl1 : Array (Option Value)} {oc1 kV1 dc1 pm1 cd1 ct1 : Value} {f2 : Addr} {od2 an2 : Option Addr} {sl2 : Array (Option Value)} {oc2 kV2 dc2 pm2 cd2 ct2 : Value} {f3 : Addr} {od3 an3 : Option Addr} {sl3 : Array (Option Value)} {oc3 kV3 dc3 pm3 cd3 ct3 : Value} {f4 : Addr} {od4 an4 : Option Addr} {sl4 : Array (Option Value)} {oc4 kV4 dc4 pm4 cd4 ct4 : Value} {f5 : Addr} {od5 an5 : Option Addr} {sl5 : Array (Option Value)} {oc5 kV5 dc5 pm5 cd5 ct5 : Value} {f6 : Addr} {od6 an6 : Option Addr} {sl6 : Array (Option Value)} {oc6 kV6 dc6 pm6 cd6 ct6 : Value} {f7 : Addr} {od7 an7 : Option Addr} {sl7 : Array (Option Value)} {oc7 kV7 dc7 pm7 cd7 ct7 : Value} {f8 : Addr} {od8 an8 : Option Addr} {sl8 : Array (Option Value)} {oc8 kV8 dc8 pm8 cd8 ct8 : Value} {f9 : Addr} {od9 an9 : Option Addr} {sl9 : Array (Option Value)} {oc9 kV9 dc9 pm9 cd9 ct9 : Value} {f10 : Addr} {od10 an10 : Option Addr} {sl10 : Array (Option Value)} {oc10 kV10 dc10 pm10 cd10 ct10 : Value} {f11 : Addr} {od11 an11 : Option Addr} {sl11 : Array (Option Value)} {oc11 kV11 dc11 pm11 cd11 ct11 : Value} {f12 : Addr} {od12 an12 : Option Addr} {sl12 : Array (Option Value)} {oc12 kV12 dc12 pm12 cd12 ct12 : Value} {f13 : Addr} {od13 an13 : Option Addr} {sl13 : Array (Option Value)} {oc13 kV13 dc13 pm13 cd13 ct13 : Value} {cO_Bounds fI_Bounds eT_Bounds e0_Bounds : Addr} {ooc_Bounds okV_Bounds odc_Bounds opm_Bounds ocd_Bounds oct_Bounds : Value} {ood_Bounds oan_Bounds edT_Bounds : Option Addr} {osl_Bounds eslT_Bounds : Array (Option Value)} {enT_Bounds : Nat} {fM_Bounds_is_empty : Addr} {moc_Bounds_is_empty mkV_Bounds_is_empty mdc_Bounds_is_empty mpm_Bounds_is_empty mcd_Bounds_is_empty mct_Bounds_is_empty : Value} {mod_Bounds_is_empty man_Bounds_is_empty : Option Addr} {msl_Bounds_is_empty : Array (Option Value)} {fM_Bounds_least : Addr} {moc_Bounds_least mkV_Bounds_least mdc_Bounds_least mpm_Bounds_least mcd_Bounds_least mct_Bounds_least : Value} {mod_Bounds_least man_Bounds_least : Option Addr} {msl_Bounds_least : Array (Option Value)} {fM_Bounds___eq__ : Addr} {moc_Bounds___eq__ mkV_Bounds___eq__ mdc_Bounds___eq__ mpm_Bounds___eq__ mcd_Bounds___eq__ mct_Bounds___eq__ : Value} {mod_Bounds___eq__ man_Bounds___eq__ : Option Addr} {msl_Bounds___eq__ : Array (Option Value)}
    (a0 : PySem.W.nsIn K mainGlobals "open_bounds" = some (some (.ref f0))) (l0 : K.lookup f0 = some ⟨oc0, od0, .func (PySem.W.fnOf "open_bounds" "open_bounds" (defArgs s_open_bounds) (defBody s_open_bounds) (defScope s_open_bounds) .none kV0 dc0 pm0 an0 cd0 ct0), sl0⟩) (c0 : PySem.W.codeIn K cd0 "open_bounds" = true) (k0 : PySem.W.keepIn K (.ref f0) = true)
    (a1 : PySem.W.nsIn K mainGlobals "tightened" = some (some (.ref f1))) (l1 : K.lookup f1 = some ⟨oc1, od1, .func (PySem.W.fnOf "tightened" "tightened" (defArgs s_tightened) (defBody s_tightened) (defScope s_tightened) .none kV1 dc1 pm1 an1 cd1 ct1), sl1⟩) (c1 : PySem.W.codeIn K cd1 "tightened" = true) (k1 : PySem.W.keepIn K (.ref f1) = true)
    (a2 : PySem.W.nsIn K mainGlobals "known" = some (some (.ref f2))) (l2 : K.lookup f2 = some ⟨oc2, od2, .func (PySem.W.fnOf "known" "known" (defArgs s_known) (defBody s_known) (defScope s_known) .none kV2 dc2 pm2 an2 cd2 ct2), sl2⟩) (c2 : PySem.W.codeIn K cd2 "known" = true) (k2 : PySem.W.keepIn K (.ref f2) = true)
    (a3 : PySem.W.nsIn K mainGlobals "row_through" = some (some (.ref f3))) (l3 : K.lookup f3 = some ⟨oc3, od3, .func (PySem.W.fnOf "row_through" "row_through" (defArgs s_row_through) (defBody s_row_through) (defScope s_row_through) .none kV3 dc3 pm3 an3 cd3 ct3), sl3⟩) (c3 : PySem.W.codeIn K cd3 "row_through" = true) (k3 : PySem.W.keepIn K (.ref f3) = true)
    (a4 : PySem.W.nsIn K mainGlobals "lesser" = some (some (.ref f4))) (l4 : K.lookup f4 = some ⟨oc4, od4, .func (PySem.W.fnOf "lesser" "lesser" (defArgs s_lesser) (defBody s_lesser) (defScope s_lesser) .none kV4 dc4 pm4 an4 cd4 ct4), sl4⟩) (c4 : PySem.W.codeIn K cd4 "lesser" = true) (k4 : PySem.W.keepIn K (.ref f4) = true)
    (a5 : PySem.W.nsIn K mainGlobals "closed_by" = some (some (.ref f5))) (l5 : K.lookup f5 = some ⟨oc5, od5, .func (PySem.W.fnOf "closed_by" "closed_by" (defArgs s_closed_by) (defBody s_closed_by) (defScope s_closed_by) .none kV5 dc5 pm5 an5 cd5 ct5), sl5⟩) (c5 : PySem.W.codeIn K cd5 "closed_by" = true) (k5 : PySem.W.keepIn K (.ref f5) = true)
    (a6 : PySem.W.nsIn K mainGlobals "_law_cell" = some (some (.ref f6))) (l6 : K.lookup f6 = some ⟨oc6, od6, .func (PySem.W.fnOf "_law_cell" "_law_cell" (defArgs s_l_cell) (defBody s_l_cell) (defScope s_l_cell) .none kV6 dc6 pm6 an6 cd6 ct6), sl6⟩) (c6 : PySem.W.codeIn K cd6 "_law_cell" = true) (k6 : PySem.W.keepIn K (.ref f6) = true)
    (a7 : PySem.W.nsIn K mainGlobals "_law_flow" = some (some (.ref f7))) (l7 : K.lookup f7 = some ⟨oc7, od7, .func (PySem.W.fnOf "_law_flow" "_law_flow" (defArgs s_l_flow) (defBody s_l_flow) (defScope s_l_flow) .none kV7 dc7 pm7 an7 cd7 ct7), sl7⟩) (c7 : PySem.W.codeIn K cd7 "_law_flow" = true) (k7 : PySem.W.keepIn K (.ref f7) = true)
    (a8 : PySem.W.nsIn K mainGlobals "_law_draw" = some (some (.ref f8))) (l8 : K.lookup f8 = some ⟨oc8, od8, .func (PySem.W.fnOf "_law_draw" "_law_draw" (defArgs s_l_draw) (defBody s_l_draw) (defScope s_l_draw) .none kV8 dc8 pm8 an8 cd8 ct8), sl8⟩) (c8 : PySem.W.codeIn K cd8 "_law_draw" = true) (k8 : PySem.W.keepIn K (.ref f8) = true)
    (a9 : PySem.W.nsIn K mainGlobals "_law_rows" = some (some (.ref f9))) (l9 : K.lookup f9 = some ⟨oc9, od9, .func (PySem.W.fnOf "_law_rows" "_law_rows" (defArgs s_l_rows) (defBody s_l_rows) (defScope s_l_rows) .none kV9 dc9 pm9 an9 cd9 ct9), sl9⟩) (c9 : PySem.W.codeIn K cd9 "_law_rows" = true) (k9 : PySem.W.keepIn K (.ref f9) = true)
    (a10 : PySem.W.nsIn K mainGlobals "_law_keeps" = some (some (.ref f10))) (l10 : K.lookup f10 = some ⟨oc10, od10, .func (PySem.W.fnOf "_law_keeps" "_law_keeps" (defArgs s_l_keeps) (defBody s_l_keeps) (defScope s_l_keeps) .none kV10 dc10 pm10 an10 cd10 ct10), sl10⟩) (c10 : PySem.W.codeIn K cd10 "_law_keeps" = true) (k10 : PySem.W.keepIn K (.ref f10) = true)
    (a11 : PySem.W.nsIn K mainGlobals "_law_kept" = some (some (.ref f11))) (l11 : K.lookup f11 = some ⟨oc11, od11, .func (PySem.W.fnOf "_law_kept" "_law_kept" (defArgs s_l_kept) (defBody s_l_kept) (defScope s_l_kept) .none kV11 dc11 pm11 an11 cd11 ct11), sl11⟩) (c11 : PySem.W.codeIn K cd11 "_law_kept" = true) (k11 : PySem.W.keepIn K (.ref f11) = true)
    (a12 : PySem.W.nsIn K mainGlobals "_law_right" = some (some (.ref f12))) (l12 : K.lookup f12 = some ⟨oc12, od12, .func (PySem.W.fnOf "_law_right" "_law_right" (defArgs s_l_right) (defBody s_l_right) (defScope s_l_right) .none kV12 dc12 pm12 an12 cd12 ct12), sl12⟩) (c12 : PySem.W.codeIn K cd12 "_law_right" = true) (k12 : PySem.W.keepIn K (.ref f12) = true)
    (a13 : PySem.W.nsIn K mainGlobals "law" = some (some (.ref f13))) (l13 : K.lookup f13 = some ⟨oc13, od13, .func (PySem.W.fnOf "law" "law" (defArgs s_law) (defBody s_law) (defScope s_law) .none kV13 dc13 pm13 an13 cd13 ct13), sl13⟩) (c13 : PySem.W.codeIn K cd13 "law" = true) (k13 : PySem.W.keepIn K (.ref f13) = true)
    (z0 : PySem.W.nsIn K mainGlobals "len" = some none)
    (z1 : PySem.W.nsIn K mainGlobals "isinstance" = some none)
    (z2 : PySem.W.nsIn K mainGlobals "tuple" = some none)
    (z3 : PySem.W.nsIn K mainGlobals "list" = some none)
    (z4 : PySem.W.nsIn K mainGlobals "str" = some none)
    (z5 : PySem.W.nsIn K mainGlobals "int" = some none)
    (z6 : PySem.W.nsIn K mainGlobals "bool" = some none)
    (z7 : PySem.W.nsIn K mainGlobals "range" = some none)
    (z8 : PySem.W.nsIn K mainGlobals "zip" = some none)
    (z9 : PySem.W.nsIn K mainGlobals "enumerate" = some none)
    (z10 : PySem.W.nsIn K mainGlobals "reversed" = some none)
    (z11 : PySem.W.nsIn K mainGlobals "max" = some none)
    (z12 : PySem.W.nsIn K mainGlobals "all" = some none)
    (z13 : PySem.W.nsIn K mainGlobals "min" = some none)
    (z14 : PySem.W.nsIn K mainGlobals "sum" = some none)
    (z15 : PySem.W.nsIn K mainGlobals "any" = some none)
    (z16 : PySem.W.nsIn K mainGlobals "sorted" = some none)
    (z17 : PySem.W.nsIn K mainGlobals "set" = some none)
    (z18 : PySem.W.nsIn K mainGlobals "repr" = some none)
    (z19 : PySem.W.nsIn K mainGlobals "abs" = some none)
    (oa_Bounds : PySem.W.nsIn K mainGlobals "Bounds" = some (some (.ref cO_Bounds)))
    (opg_Bounds : PySem.W.plainGet K cO_Bounds Str.empty = true)
    (ohd_Bounds : PySem.W.hasDictIn K cO_Bounds = true)
    (opo_Bounds : PySem.W.plainOver K cO_Bounds = true)
    (osa_Bounds : PySem.W.findIn K (.ref cO_Bounds) "__setattr__" = some (some (.builtin "object.__setattr__")))
    (omk_Bounds : PySem.W.makesIn K cO_Bounds = true)
    (okc_Bounds : PySem.W.keepIn K (.ref cO_Bounds) = true)
    (onmany_Bounds : PySem.W.findIn K (.ref cO_Bounds) "many" = some none)
    (ongiven_Bounds : PySem.W.findIn K (.ref cO_Bounds) "given" = some none)
    (onclosed_Bounds : PySem.W.findIn K (.ref cO_Bounds) "closed" = some none)
    (oi_Bounds : PySem.W.findIn K (.ref cO_Bounds) "__init__" = some (some (.ref fI_Bounds)))
    (oif_Bounds : PySem.W.isFn K (.ref fI_Bounds) = true)
    (ol_Bounds : K.lookup fI_Bounds = some ⟨ooc_Bounds, ood_Bounds, .func (PySem.W.fnOf "__init__" "Bounds.__init__" (defArgs s_Bounds___init__) (defBody s_Bounds___init__) (defScope s_Bounds___init__) (.ref eT_Bounds) okV_Bounds odc_Bounds opm_Bounds oan_Bounds ocd_Bounds oct_Bounds), osl_Bounds⟩)
    (olT_Bounds : K.lookup eT_Bounds = some ⟨.type "tuple", edT_Bounds, .seq #[.ref e0_Bounds] enT_Bounds, eslT_Bounds⟩)
    (oc_Bounds : PySem.W.codeIn K ocd_Bounds "Bounds.__init__" = true)
    (ok_Bounds : PySem.W.keepIn K (.ref fI_Bounds) = true)
    (ica_Bounds : PySem.W.findIn K (.ref cO_Bounds) "__class__" = some (some (.builtin "object.__class__")))
    (ign_Bounds : PySem.W.specialIn K (.builtin "object.__class__") "__get__" = some (some (.builtin "getset_descriptor.__get__")))
    (itk_Bounds : PySem.W.takesIn K (.builtin "object.__class__") = some true)
    (iob_Bounds : PySem.W.mroIn K cO_Bounds (.type "object") = some true)
    (mais_empty_Bounds : PySem.W.findIn K (.ref cO_Bounds) "is_empty" = some (some (.ref fM_Bounds_is_empty)))
    (miis_empty_Bounds : PySem.W.isFn K (.ref fM_Bounds_is_empty) = true)
    (mlis_empty_Bounds : K.lookup fM_Bounds_is_empty = some ⟨moc_Bounds_is_empty, mod_Bounds_is_empty, .func (PySem.W.fnOf "is_empty" "Bounds.is_empty" (defArgs s_Bounds_is_empty) (defBody s_Bounds_is_empty) (defScope s_Bounds_is_empty) .none mkV_Bounds_is_empty mdc_Bounds_is_empty mpm_Bounds_is_empty man_Bounds_is_empty mcd_Bounds_is_empty mct_Bounds_is_empty), msl_Bounds_is_empty⟩)
    (mcis_empty_Bounds : PySem.W.codeIn K mcd_Bounds_is_empty "Bounds.is_empty" = true)
    (mkis_empty_Bounds : PySem.W.keepIn K (.ref fM_Bounds_is_empty) = true)
    (maleast_Bounds : PySem.W.findIn K (.ref cO_Bounds) "least" = some (some (.ref fM_Bounds_least)))
    (mileast_Bounds : PySem.W.isFn K (.ref fM_Bounds_least) = true)
    (mlleast_Bounds : K.lookup fM_Bounds_least = some ⟨moc_Bounds_least, mod_Bounds_least, .func (PySem.W.fnOf "least" "Bounds.least" (defArgs s_Bounds_least) (defBody s_Bounds_least) (defScope s_Bounds_least) .none mkV_Bounds_least mdc_Bounds_least mpm_Bounds_least man_Bounds_least mcd_Bounds_least mct_Bounds_least), msl_Bounds_least⟩)
    (mcleast_Bounds : PySem.W.codeIn K mcd_Bounds_least "Bounds.least" = true)
    (mkleast_Bounds : PySem.W.keepIn K (.ref fM_Bounds_least) = true)
    (ma__eq___Bounds : PySem.W.findIn K (.ref cO_Bounds) "__eq__" = some (some (.ref fM_Bounds___eq__)))
    (mi__eq___Bounds : PySem.W.isFn K (.ref fM_Bounds___eq__) = true)
    (ml__eq___Bounds : K.lookup fM_Bounds___eq__ = some ⟨moc_Bounds___eq__, mod_Bounds___eq__, .func (PySem.W.fnOf "__eq__" "Bounds.__eq__" (defArgs s_Bounds___eq__) (defBody s_Bounds___eq__) (defScope s_Bounds___eq__) .none mkV_Bounds___eq__ mdc_Bounds___eq__ mpm_Bounds___eq__ man_Bounds___eq__ mcd_Bounds___eq__ mct_Bounds___eq__), msl_Bounds___eq__⟩)
    (mc__eq___Bounds : PySem.W.codeIn K mcd_Bounds___eq__ "Bounds.__eq__" = true)
    (mk__eq___Bounds : PySem.W.keepIn K (.ref fM_Bounds___eq__) = true)
    : ∃ fd : FuncData, (∀ (s : Shared) (v : Value), BindsTo s fd ⟨[v], []⟩ [("_law_script", v)]) ∧ ∀ base : Heap, K.In base → base.Ns mainGlobals mg → FnOk l.prog w K mg base CX0 7 fa fd ["_law_script"] (spLaw K) := by
  have e := hfa.symm.trans (PySem.W.mg_of X G a13)
  cases e
  have D_open_bounds : DefAt K mg "open_bounds" s_open_bounds ["many"] := defAt_mk X G a0 l0 c0 k0 fun _ _ _ _ _ _ us hl => match us, hl with | [_], _ => rfl
  have D_tightened : DefAt K mg "tightened" s_tightened ["closed", "i", "j", "c"] := defAt_mk X G a1 l1 c1 k1 fun _ _ _ _ _ _ us hl => match us, hl with | [_, _, _, _], _ => rfl
  have D_known : DefAt K mg "known" s_known ["closed", "i", "j", "c"] := defAt_mk X G a2 l2 c2 k2 fun _ _ _ _ _ _ us hl => match us, hl with | [_, _, _, _], _ => rfl
  have D_row_through : DefAt K mg "row_through" s_row_through ["row", "way", "onward"] := defAt_mk X G a3 l3 c3 k3 fun _ _ _ _ _ _ us hl => match us, hl with | [_, _, _], _ => rfl
  have D_lesser : DefAt K mg "lesser" s_lesser ["old", "way", "more"] := defAt_mk X G a4 l4 c4 k4 fun _ _ _ _ _ _ us hl => match us, hl with | [_, _, _], _ => rfl
  have D_closed_by : DefAt K mg "closed_by" s_closed_by ["many", "rows"] := defAt_mk X G a5 l5 c5 k5 fun _ _ _ _ _ _ us hl => match us, hl with | [_, _], _ => rfl
  have D_l_cell : DefAt K mg "_law_cell" s_l_cell ["_law_script", "_law_k"] := defAt_mk X G a6 l6 c6 k6 fun _ _ _ _ _ _ us hl => match us, hl with | [_, _], _ => rfl
  have D_l_flow : DefAt K mg "_law_flow" s_l_flow ["_law_script", "_law_k"] := defAt_mk X G a7 l7 c7 k7 fun _ _ _ _ _ _ us hl => match us, hl with | [_, _], _ => rfl
  have D_l_draw : DefAt K mg "_law_draw" s_l_draw ["_law_flow_here", "_law_many"] := defAt_mk X G a8 l8 c8 k8 fun _ _ _ _ _ _ us hl => match us, hl with | [_, _], _ => rfl
  have D_l_rows : DefAt K mg "_law_rows" s_l_rows ["_law_flow_here", "_law_many", "_law_most", "_law_far"] := defAt_mk X G a9 l9 c9 k9 fun _ _ _ _ _ _ us hl => match us, hl with | [_, _, _, _], _ => rfl
  have D_l_keeps : DefAt K mg "_law_keeps" s_l_keeps ["_law_rows_here", "_law_numbers"] := defAt_mk X G a10 l10 c10 k10 fun _ _ _ _ _ _ us hl => match us, hl with | [_, _], _ => rfl
  have D_l_kept : DefAt K mg "_law_kept" s_l_kept ["_law_many", "_law_rows_here", "_law_far"] := defAt_mk X G a11 l11 c11 k11 fun _ _ _ _ _ _ us hl => match us, hl with | [_, _, _], _ => rfl
  have D_l_right : DefAt K mg "_law_right" s_l_right ["_law_many", "_law_rows_here", "_law_bounds"] := defAt_mk X G a12 l12 c12 k12 fun _ _ _ _ _ _ us hl => match us, hl with | [_, _, _], _ => rfl
  have D_law : DefAt K mg "law" s_law ["_law_script"] := defAt_mk X G a13 l13 c13 k13 fun _ _ _ _ _ _ us hl => match us, hl with | [_], _ => rfl
  have T_Bounds : ClsAt K mg "Bounds" cO_Bounds BF := ⟨PySem.W.mg_of X G oa_Bounds, ⟨opg_Bounds, ohd_Bounds, opo_Bounds, osa_Bounds⟩, fun n hn => by simp only [BF, List.mem_cons, List.not_mem_nil, or_false] at hn; rcases hn with h | h | h <;> subst h <;> assumption⟩
  have FI_Bounds : FunD K "__init__" "Bounds.__init__" (defArgs s_Bounds___init__) (defBody s_Bounds___init__) (defScope s_Bounds___init__) [V.ref e0_Bounds] [] fI_Bounds _ := ⟨⟨_, _, _, _, _, _, _, _, _, _, rfl, ol_Bounds, oc_Bounds, .inr ⟨(by simp), _, _, [.ref e0_Bounds], _, rfl, olT_Bounds, rfl, .cons rfl .nil⟩, .inl rfl⟩, ok_Bounds⟩
  have I1_Bounds : DefI K mg cO_Bounds "Bounds" "Bounds.__init__" s_Bounds___init__ ["self", "many", "rows"] [V.ref e0_Bounds] 1 := ⟨_, _, FI_Bounds, ⟨omk_Bounds, oi_Bounds, oif_Bounds, okc_Bounds⟩, PySem.W.mg_of X G oa_Bounds, FI_Bounds.binds1 (ps := ["self", "many", "rows"]) 3 1 (by simp) rfl fun T kV doc pm an cdv ct us its h1 h2 => match us, its, h1, h2 with | [_, _, _], [_], _, _ => ⟨_, rfl, rfl⟩⟩
  have IC_Bounds : C8.InsC K cO_Bounds := ⟨T_Bounds.c, ica_Bounds, ign_Bounds, itk_Bounds, iob_Bounds, (by unfold PySem.W.kitOne; rw [if_pos (by simp)])⟩
  have DM_Bounds_is_empty : DefM K cO_Bounds "is_empty" "Bounds.is_empty" s_Bounds_is_empty ["self"] := ⟨_, _, fun_mk mlis_empty_Bounds mcis_empty_Bounds mkis_empty_Bounds, ⟨mais_empty_Bounds, miis_empty_Bounds, mkis_empty_Bounds⟩, (fun_mk mlis_empty_Bounds mcis_empty_Bounds mkis_empty_Bounds).binds fun _ _ _ _ _ _ us hl => match us, hl with | [_], _ => rfl⟩
  have DM_Bounds_least : DefM K cO_Bounds "least" "Bounds.least" s_Bounds_least ["self", "i", "j"] := ⟨_, _, fun_mk mlleast_Bounds mcleast_Bounds mkleast_Bounds, ⟨maleast_Bounds, mileast_Bounds, mkleast_Bounds⟩, (fun_mk mlleast_Bounds mcleast_Bounds mkleast_Bounds).binds fun _ _ _ _ _ _ us hl => match us, hl with | [_, _, _], _ => rfl⟩
  have DM_Bounds___eq__ : DefM K cO_Bounds "__eq__" "Bounds.__eq__" s_Bounds___eq__ ["self", "other"] := ⟨_, _, fun_mk ml__eq___Bounds mc__eq___Bounds mk__eq___Bounds, ⟨ma__eq___Bounds, mi__eq___Bounds, mk__eq___Bounds⟩, (fun_mk ml__eq___Bounds mc__eq___Bounds mk__eq___Bounds).binds fun _ _ _ _ _ _ us hl => match us, hl with | [_, _], _ => rfl⟩
  have B : Bt mg := ⟨PySem.W.mg_none_of X G z0, PySem.W.mg_none_of X G z1, PySem.W.mg_none_of X G z2, PySem.W.mg_none_of X G z3, PySem.W.mg_none_of X G z4, PySem.W.mg_none_of X G z5, PySem.W.mg_none_of X G z6, PySem.W.mg_none_of X G z7, PySem.W.mg_none_of X G z8, PySem.W.mg_none_of X G z9, PySem.W.mg_none_of X G z10, PySem.W.mg_none_of X G z11, PySem.W.mg_none_of X G z12, PySem.W.mg_none_of X G z13, PySem.W.mg_none_of X G z14, PySem.W.mg_none_of X G z15, PySem.W.mg_none_of X G z16, PySem.W.mg_none_of X G z17, PySem.W.mg_none_of X G z18, PySem.W.mg_none_of X G z19⟩
  refine ⟨PySem.W.fnOf "law" "law" (defArgs s_law) (defBody s_law) (defScope s_law) .none kV13 dc13 pm13 an13 cd13 ct13, fun s v => .of_eq rfl, fun base _ _ => ?_⟩
  have C_cell := ok_l_cell (P := l.prog) (w := w) (base := base) (K := K) B D_l_cell
  have C_flow := ok_l_flow B C_cell D_l_flow
  have C_draw := ok_l_draw (P := l.prog) (w := w) (base := base) (K := K) D_l_draw
  have C_rows := ok_l_rows (K := K) B C_draw D_l_rows
  have C_open := ok_open_bounds (P := l.prog) (w := w) (base := base) B D_open_bounds
  have C_known := ok_known (P := l.prog) (w := w) (base := base) B D_known
  have C_less := ok_lesser (P := l.prog) (w := w) (base := base) D_lesser
  have C_thr := ok_row_through B C_less D_row_through
  have C_tight := ok_tightened B C_known C_thr D_tightened
  have C_clo := ok_closed_by B C_open C_tight D_closed_by
  have C_I := ok_Bounds_init B T_Bounds C_clo I1_Bounds
  have M_least := ok_Bounds_least (P := l.prog) (w := w) (base := base) T_Bounds DM_Bounds_least
  have M_empty := ok_Bounds_is_empty (P := l.prog) (w := w) (base := base) T_Bounds DM_Bounds_is_empty
  have M_eq := ok_Bounds_eq (P := l.prog) (w := w) (base := base) B T_Bounds IC_Bounds DM_Bounds___eq__
  have C_keeps := ok_l_keeps (P := l.prog) (w := w) (base := base) (K := K) B D_l_keeps
  have C_kept := ok_l_kept B C_keeps D_l_kept
  have C_right := ok_l_right B T_Bounds C_kept M_least M_empty D_l_right
  exact ok_law rfl B T_Bounds C_flow C_draw C_rows C_kept C_right M_eq C_I (fun_mk l13 c13 k13)

end Lm
open PySem PySem.W PyProof.Rows
set_option maxRecDepth 100000 in
set_option maxHeartbeats 0 in
theorem PySem.Challenge.cw_leastmaker_k26_whole_no_numbers_or_some_holds : PySem.Challenge.rw_leastmaker_k26_whole_no_numbers_or_some.Holds := by
  w_on; o_law; k_head; (case hw => w_witness2)
  k_fill
  refine L2.walk_of (l := PySem.Challenge.rw_leastmaker_k26_whole_no_numbers_or_some) (n := 63) (k := 7) (x := "_law_script") (CX := fun _ => L2.CX0) (sp := fun w => Lm.spLaw _) rfl (by decide) rfl ⟨rfl, by decide, by decide⟩ (fun w h Y => PySem.W.kIn_of Y) ?F (fun _ _ a ns hl _ hS => ⟨a, ns, rfl, hS, hl, fun _ => rfl⟩) (fun _ _ _ _ _ h => h)
  case F =>
    intro w mg fa h KX G hmg
    refine' Lm.all_mk KX G hmg ?a0 ?l0 ?c0 ?k0 ?a1 ?l1 ?c1 ?k1 ?a2 ?l2 ?c2 ?k2 ?a3 ?l3 ?c3 ?k3 ?a4 ?l4 ?c4 ?k4 ?a5 ?l5 ?c5 ?k5 ?a6 ?l6 ?c6 ?k6 ?a7 ?l7 ?c7 ?k7 ?a8 ?l8 ?c8 ?k8 ?a9 ?l9 ?c9 ?k9 ?a10 ?l10 ?c10 ?k10 ?a11 ?l11 ?c11 ?k11 ?a12 ?l12 ?c12 ?k12 ?a13 ?l13 ?c13 ?k13 ?z0 ?z1 ?z2 ?z3 ?z4 ?z5 ?z6 ?z7 ?z8 ?z9 ?z10 ?z11 ?z12 ?z13 ?z14 ?z15 ?z16 ?z17 ?z18 ?z19 ?oa_Bounds ?opg_Bounds ?ohd_Bounds ?opo_Bounds ?osa_Bounds ?omk_Bounds ?okc_Bounds ?onmany_Bounds ?ongiven_Bounds ?onclosed_Bounds ?oi_Bounds ?oif_Bounds ?ol_Bounds ?olT_Bounds ?oc_Bounds ?ok_Bounds ?ica_Bounds ?ign_Bounds ?itk_Bounds ?iob_Bounds ?mais_empty_Bounds ?miis_empty_Bounds ?mlis_empty_Bounds ?mcis_empty_Bounds ?mkis_empty_Bounds ?maleast_Bounds ?mileast_Bounds ?mlleast_Bounds ?mcleast_Bounds ?mkleast_Bounds ?ma__eq___Bounds ?mi__eq___Bounds ?ml__eq___Bounds ?mc__eq___Bounds ?mk__eq___Bounds
    (case a0 => k_is)
    (case l0 => k_is)
    (case c0 => k_is)
    (case k0 => k_is)
    (case a1 => k_is)
    (case l1 => k_is)
    (case c1 => k_is)
    (case k1 => k_is)
    (case a2 => k_is)
    (case l2 => k_is)
    (case c2 => k_is)
    (case k2 => k_is)
    (case a3 => k_is)
    (case l3 => k_is)
    (case c3 => k_is)
    (case k3 => k_is)
    (case a4 => k_is)
    (case l4 => k_is)
    (case c4 => k_is)
    (case k4 => k_is)
    (case a5 => k_is)
    (case l5 => k_is)
    (case c5 => k_is)
    (case k5 => k_is)
    (case a6 => k_is)
    (case l6 => k_is)
    (case c6 => k_is)
    (case k6 => k_is)
    (case a7 => k_is)
    (case l7 => k_is)
    (case c7 => k_is)
    (case k7 => k_is)
    (case a8 => k_is)
    (case l8 => k_is)
    (case c8 => k_is)
    (case k8 => k_is)
    (case a9 => k_is)
    (case l9 => k_is)
    (case c9 => k_is)
    (case k9 => k_is)
    (case a10 => k_is)
    (case l10 => k_is)
    (case c10 => k_is)
    (case k10 => k_is)
    (case a11 => k_is)
    (case l11 => k_is)
    (case c11 => k_is)
    (case k11 => k_is)
    (case a12 => k_is)
    (case l12 => k_is)
    (case c12 => k_is)
    (case k12 => k_is)
    (case a13 => k_is)
    (case l13 => k_is)
    (case c13 => k_is)
    (case k13 => k_is)
    (case z0 => k_is)
    (case z1 => k_is)
    (case z2 => k_is)
    (case z3 => k_is)
    (case z4 => k_is)
    (case z5 => k_is)
    (case z6 => k_is)
    (case z7 => k_is)
    (case z8 => k_is)
    (case z9 => k_is)
    (case z10 => k_is)
    (case z11 => k_is)
    (case z12 => k_is)
    (case z13 => k_is)
    (case z14 => k_is)
    (case z15 => k_is)
    (case z16 => k_is)
    (case z17 => k_is)
    (case z18 => k_is)
    (case z19 => k_is)
    (case oa_Bounds => k_is)
    (case opg_Bounds => k_is)
    (case ohd_Bounds => k_is)
    (case opo_Bounds => k_is)
    (case osa_Bounds => k_is)
    (case omk_Bounds => k_is)
    (case okc_Bounds => k_is)
    (case onmany_Bounds => k_is)
    (case ongiven_Bounds => k_is)
    (case onclosed_Bounds => k_is)
    (case oi_Bounds => k_is)
    (case oif_Bounds => k_is)
    (case ol_Bounds => k_is)
    (case olT_Bounds => k_is)
    (case oc_Bounds => k_is)
    (case ok_Bounds => k_is)
    (case ica_Bounds => k_is)
    (case ign_Bounds => k_is)
    (case itk_Bounds => k_is)
    (case iob_Bounds => k_is)
    (case mais_empty_Bounds => k_is)
    (case miis_empty_Bounds => k_is)
    (case mlis_empty_Bounds => k_is)
    (case mcis_empty_Bounds => k_is)
    (case mkis_empty_Bounds => k_is)
    (case maleast_Bounds => k_is)
    (case mileast_Bounds => k_is)
    (case mlleast_Bounds => k_is)
    (case mcleast_Bounds => k_is)
    (case mkleast_Bounds => k_is)
    (case ma__eq___Bounds => k_is)
    (case mi__eq___Bounds => k_is)
    (case ml__eq___Bounds => k_is)
    (case mc__eq___Bounds => k_is)
    (case mk__eq___Bounds => k_is)

