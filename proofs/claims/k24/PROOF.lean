import PyProof.Rows.All
import Wide.All
import OpenK.AllK
import Wide.FinOn
import HandS.ForMost
import HandS.IsInst
import HandS.TupAny
import HandS.Flow
import HandS.Style
import HandS.RevRange
import HandS.Conv
import HandS.More
import HandS.Zip
import KE.KDictZip
import KE.KDictList
import KE.KRevSl
import HandS.ForExc
import HandS.ExcInit
import HandS.ExcField
import HandS.HotCalls
import HandS.SetFor
import KE.KExcIs
import KE.GoesEnum
import KE.GoesMore
import HandS.Star
import HandS.ExcOwn
import HandS.WordsExc
import HandS.Walk
import HandS.Codes
import HandS.Defaults
import HandS.List
import KE.DataEq
import HandS.Ends
import PyProof.ReprRoads
import PyProof.ReprLen
import OpenK.KOps
import HandS.MakeKw
import HandS.FStr
import PyProof.EqKinds
import PyProof.InstEq
import PySem.Challenge.RW_leastmaker_k24_bounds_alike
set_option Elab.async false
set_option linter.all false
set_option maxRecDepth 100000
set_option maxHeartbeats 2000000
namespace LmR
open PySem PySem.Spec PyProof.Rows L2
/-! ### t[::-1] of a tuple -/
section
variable {prog : Program} {w : World} {A : Around} {E : Value → Shared → Prop} {s : Shared}
theorem pick_rev (xs : Array Value) : ((List.range xs.size).filterMap fun (m : Nat) => xs[(((xs.size : Int) - 1) + (m : Int) * (-1)).toNat]?).toArray = xs.toList.reverse.toArray := by
  congr 1
  have e : ∀ n, n ≤ xs.size → ((List.range n).filterMap fun (m : Nat) => xs[(((xs.size : Int) - 1) + (m : Int) * (-1)).toNat]?) = (xs.toList.reverse).take n := by
    intro n
    induction n with
    | zero => intro _; rfl
    | succ n ih =>
      intro h
      rw [List.range_succ, List.filterMap_append, ih (by omega), List.take_add_one]
      congr 1
      have e1 : (((xs.size : Int) - 1) + (n : Int) * (-1)).toNat = xs.size - 1 - n := by omega
      have e2 : xs.toList.reverse[n]? = xs[xs.size - 1 - n]? := by
        rw [List.getElem?_reverse (by rw [Array.length_toList]; omega), Array.length_toList, Array.getElem?_toList]
      rw [e2]
      have hlt : xs.size - 1 - n < xs.size := by omega
      simp only [List.filterMap_cons, List.filterMap_nil]
      rw [e1, Array.getElem?_eq_getElem hlt]
      rfl
  rw [e xs.size (Nat.le_refl _)]
  exact List.take_of_length_le (by rw [List.length_reverse, Array.length_toList]; exact Nat.le_refl _)
theorem rev_applied {sl : Addr} {vl vu vs : Value} {n : Nat} {Q : Int × Int × Nat → Shared → Prop} (hs : s.heap.IsSliceOf sl vl vu vs) (pl : IsPart vl none) (pu : IsPart vu none) (ps : IsPart vs (some (-1)))
    (h : Q ((n : Int) - 1, -1, n) s) : wpAny (model prog w) A (Builtin.Slice.sliceApplied (.ref sl) (pure (n : Int))) Q E s := by
  obtain ⟨os, hos, hcs, hds⟩ := id hs
  unfold Builtin.Slice.sliceApplied Builtin.Slice.sliceFields
  refine wpAny_bind (wpAny_bind (wpAny_field hos hds (x := vl) rfl (wpAny_bind (wpAny_field hos hds (x := vu) rfl (wpAny_bind (wpAny_field hos hds (x := vs) rfl (wpAny_pure ?_)))))))
  refine wpAny_bind (HT.slicePart_ ps ?_)
  show wpAny _ _ (if ((-1 : Int) == 0) = true then _ else _) _ _ s
  rw [if_neg (by decide)]
  refine wpAny_bind (HT.slicePart_ pl (wpAny_bind (HT.slicePart_ pu (wpAny_bind (wpAny_pure ?_)))))
  have e : Builtin.Slice.sliceAdjust none none (-1) (n : Int) = ((n : Int) - 1, -1) := by
    simp [Builtin.Slice.sliceAdjust]
  have e2 : Builtin.Slice.slicePlaces ((n : Int) - 1) (-1) (-1) = n := by
    unfold Builtin.Slice.slicePlaces
    simp
    omega
  show wpAny _ _ (match Builtin.Slice.sliceAdjust none none (-1) (n : Int) with | (lo, hi) => pure (lo, (-1 : Int), Builtin.Slice.slicePlaces lo hi (-1))) _ _ s
  rw [e]
  show wpAny _ _ (pure ((n : Int) - 1, (-1 : Int), Builtin.Slice.slicePlaces ((n : Int) - 1) (-1) (-1))) _ _ s
  rw [e2]
  exact wpAny_pure h
theorem getItem_tuple_rev {t sl : Addr} {items : Array Value} {vl vu vs : Value} {Q : Value → Shared → Prop} (ht : IsTup s.heap t items) (hs : s.heap.IsSliceOf sl vl vu vs) (pl : IsPart vl none) (pu : IsPart vu none) (ps : IsPart vs (some (-1)))
    (h : Q (.ref s.heap.objs.size) { s with heap := s.heap.push { cls := .type "tuple", data := .seq items.toList.reverse.toArray } })
    (hsz : items.size ≤ sizeLine) : wpAny (model prog w) A (getItem (.ref t) (.ref sl)) Q E s := by
  have htake : sizeOk (.seq items.toList.reverse.toArray) := by
    show (items.toList.reverse).toArray.size ≤ sizeLine
    rw [List.size_toArray, List.length_reverse, Array.length_toList]
    omega
  obtain ⟨os, hos, hcs, hds⟩ := id hs
  have hTs : s.TypeIs (.ref sl) "slice" := ⟨os, hos, hcs⟩
  unfold getItem
  try with_reducible refine wpAny_holding ?_
  first | refine wpAny_bind (wpAny_pure ?_) | skip
  refine wpAny_bind (wpAny_sequenceKey ht.typeIs (by decide) ?_)
  refine wpAny_bind (wpAny_callSpecial?_slot (name := Str.ofString "__getitem__") ht.typeIs PyProof.Rows.slot_tuple_getitem
    (wpAny_call_entry PyProof.Rows.slot_tuple_getitem ht.typeIs PyProof.Rows.entry_tuple_getitem ?_ (PyProof.Rows.args_tuple_getitem _ _)))
  show wpAny _ _ (Builtin.Tuple.tupleItemsOf (.ref t) >>= _) _ _ s
  refine wpAny_bind (PyProof.Rows.tupleItemsOf_ ht ?_)
  refine wpAny_bind (wpAny_typeOf hTs ?_)
  rw [if_pos (by decide)]
  refine wpAny_bind (rev_applied hs pl pu ps ?_)
  have hno : ¬ (((items.size : Int) - 1 == 0 && (-1 : Int) == 1 && items.size == items.size) = true) := by
    intro q
    rw [Bool.and_eq_true, Bool.and_eq_true] at q
    exact absurd q.1.2 (by decide)
  show wpAny _ _ (if ((items.size : Int) - 1 == 0 && (-1 : Int) == 1 && items.size == items.size) = true then _ else _) _ _ s
  rw [if_neg hno, pick_rev]
  first
    | exact wpAny_bind (m := Builtin.Tuple.tupleExact _) (wpAny_newObj_type (wpAny_pure ⟨_, rfl, wpAny_pure h⟩) htake)
    | exact wpAny_bind (m := Builtin.Tuple.tupleExact _) (wpAny_newObj_type (wpAny_bind (wpAny_pure (wpAny_pure ⟨_, rfl, wpAny_pure h⟩))) htake)
    | exact wpAny_bind (wpAny_bind (m := Builtin.Tuple.tupleExact _) (wpAny_newObj_type (wpAny_pure (wpAny_pure ⟨_, rfl, wpAny_pure h⟩)) htake))
    | exact wpAny_bind (wpAny_bind (m := Builtin.Tuple.tupleExact _) (wpAny_newObj_type (wpAny_pure ⟨_, rfl, wpAny_pure h⟩) htake))
end
def tRevT (K : PySem.W.Frag) (te : TE) : TE := fun σ H Q => te σ H fun x H1 => ∃ a xs, x = .ref a ∧ SqT K H1 a xs ∧ ∀ p, H1 p = none → Q (.ref p) (upd H1 p (.tup xs.reverse))
section
variable {X : Cx}
theorem pe_revT {e : Expr} {te : TE} {k : Nat} {p1 p2 p3 pos : Pos} (he : PE X e te) : PE X (.Subscript e (.Slice none none (some (.UnaryOp .USub (.Constant (.int 1) k p1) p2)) p3) pos) (tRevT X.K te) := by
  refine ⟨fun pins s σ H Q I h => ?_⟩
  refine Subscript_ (thn (he.run pins s σ H _ I h) fun v s1 ⟨x, H1, I1, r1, q1⟩ => ?_)
  obtain ⟨a, xs, ex, hx, q⟩ := q1
  subst ex
  cases r1
  have hst : PO X (some (.UnaryOp .USub (.Constant (.int 1) k p1) p2)) (tPart (tUn (rU fun i => .int (-i)) (tC (.int 1)))) := po_some (pe_un un_neg pe_int)
  refine wpAny_Slice (thn (po_none.run pins s1 σ H1 (fun o H2 => o = none ∧ H2 = H1) I1 ⟨rfl, rfl⟩) fun vl s2 ⟨l, H2, I2, pl, el, e2⟩ => ?_)
  subst el e2
  refine thn (po_none.run pins s2 σ H2 (fun o H3 => o = none ∧ H3 = H2) I2 ⟨rfl, rfl⟩) fun vu s3 ⟨u, H3, I3, pu, eu, e3⟩ => ?_
  subst eu e3
  refine thn (hst.run pins s3 σ H3 (fun o H4 => o = some (-1) ∧ H4 = H3) I3 ⟨1, rfl, -1, rfl, rfl, rfl⟩) fun vs s4 ⟨o, H4, I4, ps, eo, e4⟩ => ?_
  subst eo e4
  have I5 : Inv X pins σ H4 { s4 with heap := s4.heap.push { cls := .type "slice", data := .fields #[vl, vu, vs] } } := I4.kept (t' := s4.toks) fun b ob q => Heap.get?_push_of_some _ q
  obtain ⟨its, r, ht, hz⟩ := I5.tuple hx
  have hlen := r.length
  show wpAny (model X.prog X.w) X.A (subscriptTail e (.Slice none none (some (.UnaryOp .USub (.Constant (.int 1) k p1) p2)) p3) (.ref a) (.ref s4.heap.objs.size)) (EP X pins σ Q) X.xe { s4 with heap := s4.heap.push { cls := .type "slice", data := .fields #[vl, vu, vs] } }
  refine tail_any (ops := [.ref a, .ref s4.heap.objs.size]) ht.typeIs (PyProof.Rows.slot_tuple_getitem.lookup) ?_ (by with_unfolding_all rfl)
  refine getItem_tuple_rev ht (Heap.IsSliceOf.new _ vl vu vs) pl pu ps ?_ (by rw [List.size_toArray]; omega)
  refine ⟨.ref _, _, I5.laid (t' := s4.toks) (o := .tup xs.reverse) (fun b ob q => Heap.get?_push_of_some _ q) (Nat.le_refl _) ?_, rfl, q _ (I5.hok.fresh (Nat.le_refl _))⟩
  exact ⟨by rw [List.length_reverse]; exact hz, its.reverse, r.reverse, ⟨_, Heap.get?_push_size _ rfl, rfl, _, rfl⟩⟩
end
/-! ### l.extend(t), t a tuple -/
theorem extend_tuple (l : Addr) (items : Array Value) (n : Nat) (b : Addr) (items2 : Array Value) (n2 : Nat) (dd : Option Addr) (sl : Array (Option Value)) (hs0 : ¬(!items.isEmpty && Builtin.List.listTooLong (items.size + items2.size)) = true) (hs1 : items.size ≤ sizeLine) (hs2 : items.size + items2.size ≤ sizeLine + 1 := by seq_fits) :
    Meets (Builtin.«list.extend» ⟨[.ref l, .ref b], []⟩) (fun _ R s => s.heap.get? l = some { cls := .type "list", dict := none, data := .seq items n, slots := #[] } ∧ s.heap.get? b = some { cls := .type "tuple", dict := dd, data := .seq items2 n2, slots := sl } ∧ R (.ok (.ret Value.none)) { s with heap := s.heap.update l (Obj.mapSeq fun x => x ++ items2), toks := s.toks }) :=
  .of_wp fun prog w A R s h => by
    obtain ⟨hp, g, d, tk, os⟩ := s; obtain ⟨hl, hb, h⟩ := h; have f1 := AutoSeq1.idx_int; have f2 := AutoSeq1.sub_tuple_tuple; have f3 := AutoSeq1.sub_list_list; have f4 := AutoSeq1.sub_tuple_list; have f5 := AutoSeq1.sub_list_tuple;
    have hz' : (items ++ items2).size ≤ sizeLine + 1 := by rw [Array.size_append]; exact hs2
    wp_walk using (wpAny_updateSeq hl rfl (hz := hs1) (_hz' := hz')), wpAny_loadPart' hl, wpAny_loadPart' hb; exact ⟨_, rfl, h⟩
def rExtT (K : PySem.W.Frag) : V → List V → Hp → VK → Prop := fun x vs H Q => ∃ l b xs zs, x = .ref l ∧ vs = [.ref b] ∧ H l = some (.lst xs) ∧ SqT K H b zs ∧ xs.length + zs.length ≤ sizeLine ∧ Q .non (upd H l (.lst (xs ++ zs)))
theorem mt_extendT {X : Cx} : MtM X "list.extend" (rExtT X.K) := by
  intro pins s σ H x vs v us Q I rx rv h
  obtain ⟨l, b, xs, zs, rfl, rfl, hH, hB, hz, q⟩ := h
  cases rx
  obtain ⟨u, rfl, ru⟩ := rv.one
  cases ru
  obtain ⟨z, its, n, r, hl, e⟩ := I.lstM hH
  obtain ⟨its2, r2, ⟨⟨cls, dd, dt, sl⟩, ho, hc, n2, hd⟩, _⟩ := I.tuple hB
  simp only at hc hd
  subst hc hd
  have hl2 := r2.length
  have hsz : its.toArray.size + its2.toArray.size ≤ sizeLine := by rw [List.size_toArray, List.size_toArray]; omega
  have hlong : ¬ (!its.toArray.isEmpty && Builtin.List.listTooLong (its.toArray.size + its2.toArray.size)) = true := by
    rw [notLongL hsz, Bool.and_false]
    exact Bool.false_ne_true
  refine call_meets F.slot_list_extend ⟨_, e, rfl⟩ F.entry_list_extend (F.args_list_extend_2 _ _)
    (extend_tuple l its.toArray n b its2.toArray n2 dd sl hlong (by rw [List.size_toArray]; omega) (by omega)) ⟨e, ho, ?_⟩
  refine ⟨.non, _, I.lset (its' := its ++ its2) hH e (by simp) (r.append r2) ?_, rfl, q⟩
  rw [List.length_append]
  omega
end LmR

set_option Elab.async false
set_option linter.all false
set_option maxRecDepth 100000
set_option maxHeartbeats 2000000
namespace LmR
open PySem PySem.Spec PyProof.Rows L2 RZ
theorem zip_no_len : typeLookup (.type "zip") "__len__" = pure none := by rw [typeLookup_type, builtinLookup_eq_fast]; kernel_rfl
theorem zip_no_hint : typeLookup (.type "zip") "__length_hint__" = pure none := by rw [typeLookup_type, builtinLookup_eq_fast]; kernel_rfl
section
variable {prog : Program} {w : World} {A : Around} {E : Value → Shared → Prop} {s : Shared}
theorem zipT_item_held {z TI TO T i1 i2 l1 l2 : Addr} {f : Bool} {oT : Obj} {k1 k2 : Nat} {xs ys : Array Value} {x y : Value} {Q : Value → Shared → Prop} (D : ZipApart z TI TO i1 i2 l1 l2)
    (hz : IsZipHeld s.heap z TI TO T f) (hT : s.heap.get? T = some oT) (hTI : IsPair s.heap TI (.ref i1) (.ref i2))
    (h1 : s.heap.IsTupleIter i1 l1 k1) (h2 : s.heap.IsTupleIter i2 l2 k2) (hl1 : s.heap.IsTuple l1 xs) (hl2 : s.heap.IsTuple l2 ys) (hx : xs[k1]? = some x) (hy : ys[k2]? = some y)
    (hQ : ∀ h', IsZipHeld h' z TI TO T true → h'.IsTupleIter i1 l1 (k1 + 1) → h'.IsTupleIter i2 l2 (k2 + 1) → IsPair h' s.heap.objs.size x y → h'.objs.size = s.heap.objs.size + 1 →
      (∀ c o, c ≠ z → c ≠ i1 → c ≠ i2 → s.heap.get? c = some o → h'.get? c = some o) → Q (.ref s.heap.objs.size) { s with heap := h' }) :
    wpAny (model prog w) A (Builtin.«zip.__next__» ⟨[.ref z], []⟩) (fun fin s' => ∃ v, fin = .done (.ret v) ∧ Q v s') E s := by
  show wpAny _ _ (field (.ref z) 2 >>= _) _ _ _
  refine wpAny_bind (wpAny_field hz rfl (x := .bool false) rfl ?_)
  show wpAny _ _ (field (.ref z) 3 >>= _) _ _ _
  refine wpAny_bind (wpAny_field hz rfl (x := .ref TI) rfl ?_)
  refine wpAny_bind (wpAny_seqItems hTI rfl ?_)
  show wpAny _ _ (Builtin.SmallTypes.ownedTupleIsFree (.ref z) >>= _) _ _ _
  refine wpAny_bind (wpAny_tupleHeld_zip hz hT fun h₁ hz₁ hs₁ => ?_)
  simp only [Bool.false_eq_true, if_false]
  refine wpAny_bind ?_
  rw [← Array.forIn_toList]
  simp only [List.forIn_cons, List.forIn_nil]
  refine wpAny_bind (wpAny_bind (wpAny_holding ?_))
  show wpAny _ _ (Builtin.SmallTypes.nextOf (.ref i1) >>= _) _ _ _
  refine wpAny_bind (nextOf_tuple_item (s := { s with heap := h₁ }) (h1.extBut hs₁.extBut D.i1z) (hl1.extBut hs₁.extBut D.l1z) hx fun h₂ h1₂ hs₂ => wpAny_pure ?_)
  refine wpAny_pure ?_
  refine wpAny_bind (wpAny_bind (wpAny_holding ?_))
  show wpAny _ _ (Builtin.SmallTypes.nextOf (.ref i2) >>= _) _ _ _
  refine wpAny_bind (nextOf_tuple_item (s := { s with heap := h₂ }) ((h2.extBut hs₁.extBut D.i2z).extBut hs₂.extBut D.i12.symm) ((hl2.extBut hs₁.extBut D.l2z).extBut hs₂.extBut D.l2i1) hy fun h₃ h2₃ hs₃ => wpAny_pure ?_)
  refine wpAny_pure (wpAny_pure ?_)
  show wpAny _ _ (newTuple [x, y] >>= _) _ _ _
  refine wpAny_bind (wpAny_newTuple ?_)
  have hsz : h₃.objs.size = s.heap.objs.size := by rw [hs₃.1, hs₂.1, hs₁.1]
  have hz₃ : IsZipHeld h₃ z TI TO T true := hs₃.extBut _ _ D.i2z.symm (hs₂.extBut _ _ D.i1z.symm hz₁)
  have hk : ∀ c o, c ≠ z → c ≠ i1 → c ≠ i2 → s.heap.get? c = some o → h₃.get? c = some o := fun c o c1 c2 c3 e => hs₃.extBut _ _ c3 (hs₂.extBut _ _ c2 (hs₁.extBut _ _ c1 e))
  have h1₃ : h₃.IsTupleIter i1 l1 (k1 + 1) := h1₂.extBut hs₃.extBut D.i12
  refine wpAny_pure ⟨_, rfl, ?_⟩
  show Q (.ref h₃.objs.size) _
  have hp : IsPair (h₃.push { cls := .type "tuple", data := .seq #[x, y] }) h₃.objs.size x y := Heap.get?_push_size _ rfl
  have hz4 : (h₃.push { cls := .type "tuple", data := .seq #[x, y] }).objs.size = h₃.objs.size + 1 := Heap.size_push ..
  rw [hsz] at hp hz4 ⊢
  exact hQ _ (Heap.get?_push_of_some _ hz₃) (h1₃.at fun o e => Heap.get?_push_of_some _ e) (h2₃.at fun o e => Heap.get?_push_of_some _ e) hp hz4 fun c o c1 c2 c3 e => Heap.get?_push_of_some _ (hk c o c1 c2 c3 e)
theorem zipT_end_held {z TI TO T i1 i2 l1 l2 : Addr} {f : Bool} {oT : Obj} {k1 k2 : Nat} {xs ys : Array Value} {Q : Fin → Shared → Prop} (hh : A.handled = none) (D : ZipApart z TI TO i1 i2 l1 l2)
    (hz : IsZipHeld s.heap z TI TO T f) (hT : s.heap.get? T = some oT) (hTI : IsPair s.heap TI (.ref i1) (.ref i2))
    (h1 : s.heap.IsTupleIter i1 l1 k1) (h2 : s.heap.IsTupleIter i2 l2 k2) (hl1 : s.heap.IsTuple l1 xs) (hl2 : s.heap.IsTuple l2 ys) (hx : xs[k1]? = none)
    (hE : ∀ h' e, (∀ c o, c ≠ z → c ≠ i1 → c ≠ i2 → s.heap.get? c = some o → h'.get? c = some o) → (∃ o, h'.get? e = some o ∧ o.cls = .type "StopIteration") → E (.ref e) { s with heap := h' }) :
    wpAny (model prog w) A (Builtin.«zip.__next__» ⟨[.ref z], []⟩) Q E s := by
  show wpAny _ _ (field (.ref z) 2 >>= _) _ _ _
  refine wpAny_bind (wpAny_field hz rfl (x := .bool false) rfl ?_)
  show wpAny _ _ (field (.ref z) 3 >>= _) _ _ _
  refine wpAny_bind (wpAny_field hz rfl (x := .ref TI) rfl ?_)
  refine wpAny_bind (wpAny_seqItems hTI rfl ?_)
  show wpAny _ _ (Builtin.SmallTypes.ownedTupleIsFree (.ref z) >>= _) _ _ _
  refine wpAny_bind (wpAny_tupleHeld_zip hz hT fun h₁ hz₁ hs₁ => ?_)
  simp only [Bool.false_eq_true, if_false]
  refine wpAny_bind ?_
  rw [← Array.forIn_toList]
  simp only [List.forIn_cons, List.forIn_nil]
  refine wpAny_bind (wpAny_bind (wpAny_holding ?_))
  show wpAny _ _ (Builtin.SmallTypes.nextOf (.ref i1) >>= _) _ _ _
  refine wpAny_bind (nextOf_tuple_end (s := { s with heap := h₁ }) hh (h1.extBut hs₁.extBut D.i1z) (hl1.extBut hs₁.extBut D.l1z) hx fun h₂ e hs₂ he => ?_)
  exact hE h₂ e (fun c o c1 c2 _ x => hs₂ _ _ c2 (hs₁.extBut _ _ c1 x)) he
/-- a zip of two tuples between two turns of list(..) -/
structure ZSt (h : Heap) (z TI TO i1 i2 l1 l2 S lo : Addr) (xs ys : Array Value) (i : Nat) : Prop where
  zip : (i = 0 ∧ IsZip h z TI TO .none ∧ ∃ a b, IsPair h TO a b) ∨ ∃ T f oT, IsZipHeld h z TI TO T f ∧ h.get? T = some oT ∧ lo ≤ T
  ti : IsPair h TI (.ref i1) (.ref i2)
  h1 : h.IsTupleIter i1 l1 i
  h2 : h.IsTupleIter i2 l2 i
  l1' : h.IsTuple l1 xs
  l2' : h.IsTuple l2 ys
/-- the addresses that are there ahead of the pairs -/
structure ZLo (z TI TO i1 i2 l1 l2 S lo : Addr) : Prop where
  z' : z < lo
  TI' : TI < lo
  TO' : TO < lo
  i1' : i1 < lo
  i2' : i2 < lo
  l1' : l1 < lo
  l2' : l2 < lo
  S' : S < lo
  Sz : S ≠ z
  STI : S ≠ TI
  STO : S ≠ TO
  Si1 : S ≠ i1
  Si2 : S ≠ i2
  Sl1 : S ≠ l1
  Sl2 : S ≠ l2
variable {z TI TO i1 i2 l1 l2 S lo : Addr} {xs ys : Array Value}
theorem ZSt.upd {h h' : Heap} {i : Nat} (L : ZLo z TI TO i1 i2 l1 l2 S lo) (st : ZSt h z TI TO i1 i2 l1 l2 S lo xs ys i) (k : ∀ b o, b ≠ S → h.get? b = some o → h'.get? b = some o) : ZSt h' z TI TO i1 i2 l1 l2 S lo xs ys i where
  zip := by
    rcases st.zip with ⟨e, hz, a, b, ht⟩ | ⟨T, f, oT, hz, hT, hl⟩
    · exact .inl ⟨e, k _ _ L.Sz.symm hz, a, b, k _ _ L.STO.symm ht⟩
    · exact .inr ⟨T, f, oT, k _ _ L.Sz.symm hz, k _ _ (fun e => by have := L.S'; rw [e] at hl; exact absurd hl (Nat.not_le.mpr this)) hT, hl⟩
  ti := k _ _ L.STI.symm st.ti
  h1 := st.h1.at fun o e => k _ _ L.Si1.symm e
  h2 := st.h2.at fun o e => k _ _ L.Si2.symm e
  l1' := by
    obtain ⟨o, ho, r⟩ := st.l1'
    exact ⟨o, k _ _ L.Sl1.symm ho, r⟩
  l2' := by
    obtain ⟨o, ho, r⟩ := st.l2'
    exact ⟨o, k _ _ L.Sl2.symm ho, r⟩
theorem tup_keep {h h' : Heap} {l : Addr} {its : Array Value} (t : h.IsTuple l its) (k : ∀ o, h.get? l = some o → h'.get? l = some o) : h'.IsTuple l its := by
  obtain ⟨o, ho, r⟩ := t
  exact ⟨o, k o ho, r⟩
theorem zst_item {i : Nat} {x y : Value} {Q : Option Value → Shared → Prop} (D : ZipApart z TI TO i1 i2 l1 l2) (L : ZLo z TI TO i1 i2 l1 l2 S lo) (hlo : lo ≤ s.heap.objs.size) (st : ZSt s.heap z TI TO i1 i2 l1 l2 S lo xs ys i) (hx : xs[i]? = some x) (hy : ys[i]? = some y)
    (hQ : ∀ h', ZSt h' z TI TO i1 i2 l1 l2 S lo xs ys (i + 1) → IsPair h' s.heap.objs.size x y → h'.objs.size = s.heap.objs.size + 1 →
      (∀ c o, c ≠ z → c ≠ TO → c ≠ i1 → c ≠ i2 → s.heap.get? c = some o → h'.get? c = some o) → Q (some (.ref s.heap.objs.size)) { s with heap := h' }) :
    wpAny (model prog w) A (pyNext (.ref z)) Q E s := by
  rcases st.zip with ⟨e, hz, a, b, ht⟩ | ⟨T, f, oT, hz, hT, hl⟩
  · refine pyNext_zipT_item D hz st.ti ht st.h1 st.h2 st.l1' st.l2' hx hy fun h' z' to' a1 a2 pr sz k => hQ h' ⟨.inr ⟨s.heap.objs.size, false, _, z', pr, hlo⟩, ?_, a1, a2, ?_, ?_⟩ pr sz k
    · exact k _ _ D.TIz D.TITO D.TIi1 D.TIi2 st.ti
    · exact tup_keep st.l1' fun o q => k _ _ D.l1z D.l1TO D.l1i1 D.l1i2 q
    · exact tup_keep st.l2' fun o q => k _ _ D.l2z D.l2TO D.l2i1 D.l2i2 q
  · have hTy : s.TypeIs (.ref z) "zip" := ⟨_, hz, rfl⟩
    unfold pyNext
    refine wpAny_bind (wpAny_attempt (wpAny_callSpecial?_slot (name := Str.ofString "__next__") hTy F.slot_zip_next
      (wpAny_call_entry F.slot_zip_next hTy F.entry_zip_next
        (zipT_item_held D hz hT st.ti st.h1 st.h2 st.l1' st.l2' hx hy fun h' z' a1 a2 pr sz k => wpAny_pure (hQ h' ⟨.inr ⟨T, true, oT, z', ?_, hl⟩, ?_, a1, a2, ?_, ?_⟩ pr sz fun c o c1 _ c3 c4 q => k c o c1 c3 c4 q)) (F.args_zip_next_1 _))))
    · exact k _ _ (fun e => by rw [e] at hl; exact absurd hl (Nat.not_le.mpr L.z')) (fun e => by rw [e] at hl; exact absurd hl (Nat.not_le.mpr L.i1')) (fun e => by rw [e] at hl; exact absurd hl (Nat.not_le.mpr L.i2')) hT
    · exact k _ _ D.TIz D.TIi1 D.TIi2 st.ti
    · exact tup_keep st.l1' fun o q => k _ _ D.l1z D.l1i1 D.l1i2 q
    · exact tup_keep st.l2' fun o q => k _ _ D.l2z D.l2i1 D.l2i2 q
theorem zst_done {i : Nat} {Q : Option Value → Shared → Prop} (hh : A.handled = none) (D : ZipApart z TI TO i1 i2 l1 l2) (st : ZSt s.heap z TI TO i1 i2 l1 l2 S lo xs ys i) (hx : xs[i]? = none)
    (hQ : ∀ h', (∀ c o, c ≠ z → c ≠ TO → c ≠ i1 → c ≠ i2 → s.heap.get? c = some o → h'.get? c = some o) → Q none { s with heap := h' }) : wpAny (model prog w) A (pyNext (.ref z)) Q E s := by
  rcases st.zip with ⟨e, hz, a, b, ht⟩ | ⟨T, f, oT, hz, hT, hl⟩
  · exact pyNext_zipT_end hh D hz st.ti ht st.h1 st.h2 st.l1' st.l2' (.inl hx) hQ
  · have hTy : s.TypeIs (.ref z) "zip" := ⟨_, hz, rfl⟩
    unfold pyNext
    refine wpAny_bind (wpAny_attempt (wpAny_callSpecial?_slot (name := Str.ofString "__next__") hTy F.slot_zip_next
      (wpAny_call_entry F.slot_zip_next hTy F.entry_zip_next (zipT_end_held hh D hz hT st.ti st.h1 st.h2 st.l1' st.l2' hx fun h' e hk he => ?_) (F.args_zip_next_1 _))))
    obtain ⟨o, ho, hc⟩ := he
    refine wpAny_bind (wpAny_isInstance (T := "StopIteration") (b := true) ⟨o, ho, hc⟩ isSubtype_stop ?_)
    exact wpAny_pure (hQ _ fun c o c1 _ c3 c4 q => hk c o c1 c3 c4 q)
/-- the pairs made so far -/
structure ZG (xs ys : Array Value) (lo : Addr) (h : Heap) (as : List Addr) : Prop where
  rise : as.Pairwise (· < ·)
  above : ∀ a ∈ as, lo ≤ a
  pairs : ∀ (j : Nat) (a : Addr), as[j]? = some a → ∃ x y, xs[j]? = some x ∧ ys[j]? = some y ∧ IsPair h a x y
theorem ZG.there {h : Heap} {as : List Addr} (g : ZG xs ys lo h as) {a : Addr} (ha : a ∈ as) : a < h.objs.size := by
  obtain ⟨j, hj⟩ := List.mem_iff_getElem?.mp ha
  obtain ⟨_, _, _, _, e⟩ := g.pairs j a hj
  exact Heap.lt_size e
theorem zl_loop {R : Result → Shared → Prop} (hh : A.handled = none) (D : ZipApart z TI TO i1 i2 l1 l2) (L : ZLo z TI TO i1 i2 l1 l2 S lo) (hl : xs.size = ys.size) (hn : xs.size ≤ sizeLine) (res : Value) {h₁ : Heap}
    (hR : ∀ h' tk acc c as, (∀ b o, b ≠ S → b ≠ z → b ≠ TO → b ≠ i1 → b ≠ i2 → h₁.get? b = some o → h'.get? b = some o) → h'.get? S = some { cls := .type "list", dict := none, data := .seq acc c, slots := #[] } → as.length = xs.size → ZG xs ys lo h' as →
      acc.toList = as.map Value.ref → R (.ok (.ret res)) { s with heap := h', toks := tk }) :
    ∀ (k i : Nat) (h : Heap) (tk c : Nat) (acc : Array Value) (as : List Addr), xs.size - i = k → i ≤ xs.size → ZSt h z TI TO i1 i2 l1 l2 S lo xs ys i → (∀ b o, b ≠ S → b ≠ z → b ≠ TO → b ≠ i1 → b ≠ i2 → h₁.get? b = some o → h.get? b = some o) →
      h.get? S = some { cls := .type "list", dict := none, data := .seq acc c, slots := #[] } → acc.toList = as.map Value.ref → as.length = i → ZG xs ys lo h as → lo ≤ h.objs.size →
      codeAny (model prog w) A (.builtin "list.extend.loop" ⟨[.ref S, .ref z, res], []⟩) R { s with heap := h, toks := tk } := by
  intro k
  induction k with
  | zero =>
    intro i h tk c acc as hk hi st hkeep hS hacc hal hG hlo
    have hin : i = xs.size := by omega
    refine codeAny_builtin PySem.F.entry_extend_loop ?_
    rw [Around.under_plainId PySem.F.plain_extend_loop _]
    show wpAny _ A.in1 (pyNext (.ref z) >>= _) _ _ _
    refine wpAny_bind (zst_done (s := { s with heap := h, toks := tk }) (A := A.in1) hh D st (Array.getElem?_eq_none (by omega)) fun h' he => ?_)
    refine wpAny_pure (hR h' tk acc c as (fun b o h1 h2 h3 h4 h5 e => he b o h2 h3 h4 h5 (hkeep b o h1 h2 h3 h4 h5 e)) (he S _ L.Sz L.STO L.Si1 L.Si2 hS) (by omega) ⟨hG.rise, hG.above, fun j a hj => ?_⟩ hacc)
    obtain ⟨x, y, e1, e2, e3⟩ := hG.pairs j a hj
    have ha := hG.above a (List.mem_of_getElem? hj)
    exact ⟨x, y, e1, e2, he a _ (Nat.ne_of_gt (Nat.lt_of_lt_of_le L.z' ha)) (Nat.ne_of_gt (Nat.lt_of_lt_of_le L.TO' ha)) (Nat.ne_of_gt (Nat.lt_of_lt_of_le L.i1' ha)) (Nat.ne_of_gt (Nat.lt_of_lt_of_le L.i2' ha)) e3⟩
  | succ k ih =>
    intro i h tk c acc as hk hi st hkeep hS hacc hal hG hlo
    have hlt : i < xs.size := by omega
    have hx : xs[i]? = some xs[i] := Array.getElem?_eq_getElem hlt
    have hlt2 : i < ys.size := by omega
    have hy : ys[i]? = some ys[i] := Array.getElem?_eq_getElem hlt2
    have hsz : acc.size = i := by rw [← Array.length_toList, hacc, List.length_map, hal]
    refine codeAny_builtin PySem.F.entry_extend_loop ?_
    rw [Around.under_plainId PySem.F.plain_extend_loop _]
    show wpAny _ A.in1 (pyNext (.ref z) >>= _) _ _ _
    refine wpAny_bind (zst_item (s := { s with heap := h, toks := tk }) (A := A.in1) D L hlo st hx hy fun h' st' ht hz hkp => ?_)
    dsimp only at ht hz hkp ⊢
    have hS' := hkp S _ L.Sz L.STO L.Si1 L.Si2 hS
    have up : ∀ b o, b ≠ S → h'.get? b = some o → (h'.update S (Obj.mapSeq (·.push (Value.ref h.objs.size)))).get? b = some o := fun b o hb e => (Heap.get?_update_other _ _ (Ne.symm hb)).trans e
    have hSl : S < h.objs.size := Heap.lt_size hS
    show wpAny _ A.in1 (updateSeq S (·.push (Value.ref h.objs.size)) >>= _) _ _ _
    refine wpAny_bind ?_
    refine wpAny_updateSeq hS' rfl (wpAny_pure ⟨plainId_quiet PySem.F.plain_extend_loop _, ih (i + 1) _ tk _ (acc.push (Value.ref h.objs.size)) (as ++ [h.objs.size]) (by omega) hlt (st'.upd L up)
      (fun b o h1 h2 h3 h4 h5 e => up b o h1 (hkp b o h2 h3 h4 h5 (hkeep b o h1 h2 h3 h4 h5 e))) (Heap.get?_update_self _ hS' rfl) (by rw [Array.toList_push, hacc, List.map_append]; rfl) (by rw [List.length_append, hal]; rfl) ⟨?_, ?_, ?_⟩ ?_⟩) (by rw [hsz]; omega) (by show (acc.push (Value.ref h.objs.size)).size ≤ sizeLine + 1; rw [Array.size_push, hsz]; omega)
    · refine List.pairwise_append.mpr ⟨hG.rise, List.pairwise_singleton _ _, fun a ha b hb => ?_⟩
      rw [List.mem_singleton.mp hb]
      exact hG.there ha
    · intro a ha
      rcases List.mem_append.mp ha with ha | ha
      · exact hG.above a ha
      · rw [List.mem_singleton.mp ha]; exact hlo
    · intro j b hj
      rcases Nat.lt_trichotomy j as.length with h1 | h1 | h1
      · rw [List.getElem?_append_left h1] at hj
        obtain ⟨x', y', e1, e2, e3⟩ := hG.pairs j b hj
        have hb := hG.above b (List.mem_of_getElem? hj)
        exact ⟨x', y', e1, e2, up b _ (Nat.ne_of_gt (Nat.lt_of_lt_of_le L.S' hb)) (hkp b _ (Nat.ne_of_gt (Nat.lt_of_lt_of_le L.z' hb)) (Nat.ne_of_gt (Nat.lt_of_lt_of_le L.TO' hb)) (Nat.ne_of_gt (Nat.lt_of_lt_of_le L.i1' hb)) (Nat.ne_of_gt (Nat.lt_of_lt_of_le L.i2' hb)) e3)⟩
      · subst h1
        have hb : h.objs.size = b := by simpa using hj
        subst hb
        exact ⟨xs[i], ys[i], by rw [hal]; exact hx, by rw [hal]; exact hy, up _ _ (Nat.ne_of_gt hSl) ht⟩
      · have hnone : (as ++ [h.objs.size])[j]? = none := List.getElem?_eq_none (by rw [List.length_append, List.length_singleton]; omega)
        rw [hnone] at hj; cases hj
    · have e : (h'.update S (Obj.mapSeq (·.push (Value.ref h.objs.size)))).get? h.objs.size = _ := up _ _ (Nat.ne_of_gt hSl) ht
      exact Nat.le_trans hlo (Nat.le_of_lt (Heap.lt_size e))
end
end LmR

set_option Elab.async false
set_option linter.all false
set_option maxRecDepth 100000
set_option maxHeartbeats 2000000
namespace LmR
open PySem PySem.Spec PyProof.Rows L2 RZ
section
variable {prog : Program} {w : World} {A : Around} {E : Value → Shared → Prop} {s : Shared}
variable {z TI TO i1 i2 l1 l2 S lo : Addr} {xs ys : Array Value}
theorem zl_extend {R : Result → Shared → Prop} (hh : A.handled = none) (D : ZipApart z TI TO i1 i2 l1 l2) (L : ZLo z TI TO i1 i2 l1 l2 S lo) (hl : xs.size = ys.size) (hn : xs.size ≤ sizeLine) (res : Value) (c₀ : Nat) (hlo : lo ≤ s.heap.objs.size)
    (st : ZSt s.heap z TI TO i1 i2 l1 l2 S lo xs ys 0) (hz : IsZip s.heap z TI TO .none) (hS : s.heap.get? S = some { cls := .type "list", data := .seq #[] c₀ })
    (hR : ∀ h' tk acc c as, (∀ b o, b ≠ S → b ≠ z → b ≠ TO → b ≠ i1 → b ≠ i2 → s.heap.get? b = some o → h'.get? b = some o) → h'.get? S = some { cls := .type "list", dict := none, data := .seq acc c, slots := #[] } → as.length = xs.size → ZG xs ys lo h' as →
      acc.toList = as.map Value.ref → R (.ok (.ret res)) { s with heap := h', toks := tk }) :
    wpAny (model prog w) A.in1 (Builtin.List.listExtendWith (.ref S) (.ref z) res)
      (fun fin s' => match fin with | .done f => R (.ok f) s' | .again c' => c'.quiet = true ∧ codeAny (model prog w) A c' R s') (fun e s' => R (.error e) s') s := by
  have hT : s.TypeIs (.ref z) "zip" := ⟨_, hz, rfl⟩
  unfold Builtin.List.listExtendWith
  refine wpAny_bind (wpAny_typeOf hT ?_)
  have h1 : Builtin.List.listSameRef (.ref S) (.ref z) = false := by simp [Builtin.List.listSameRef, L.Sz]
  have h2 : (Value.type "zip" == Value.type "list") = false := by decide
  have h3 : (Value.type "zip" == Value.type "tuple") = false := by decide
  simp only [h1, h2, h3, Bool.or_false, Bool.false_eq_true, if_false]
  refine wpAny_bind (wpAny_pyIter_zip hz ?_)
  refine wpAny_bind (wpAny_holding ?_)
  unfold Builtin.List.listLengthHint
  refine wpAny_bind (wpAny_specialOf hT zip_no_len ?_)
  show wpAny _ A.in1 (specialOf (Value.ref z) (Str.ofString "__length_hint__") >>= _) _ _ _
  refine wpAny_bind (wpAny_specialOf hT zip_no_hint ?_)
  refine wpAny_pure ?_
  show wpAny _ A.in1 (rule "list.extend.makes-room" >>= fun _ => Builtin.List.listTouch (.ref S) >>= fun _ =>
    again (.builtin "list.extend.loop" ⟨[.ref S, .ref z, res], []⟩)) _ _ _
  refine wpAny_bind (wpAny_rule ?_)
  refine wpAny_bind ?_
  show wpAny _ A.in1 (updateSeq S (·.push .none) >>= fun _ => updateSeq S (·.pop)) _ _ _
  refine wpAny_bind (wpAny_updateSeq hS rfl ?_)
  have hS₂ := Heap.get?_update_self (Obj.mapSeq (·.push Value.none)) hS rfl
  refine wpAny_updateSeq (hz := by seq_fits) hS₂ rfl ?_
  have hS₃ := Heap.get?_update_self (Obj.mapSeq (·.pop)) hS₂ rfl
  have oth : ∀ b o, b ≠ S → s.heap.get? b = some o → ((s.heap.update S (Obj.mapSeq (·.push Value.none))).update S (Obj.mapSeq (·.pop))).get? b = some o :=
    fun b o hb e => (Heap.get?_update_other _ _ (Ne.symm hb)).trans ((Heap.get?_update_other _ _ (Ne.symm hb)).trans e)
  refine wpAny_pure ⟨plainId_quiet PySem.F.plain_extend_loop _, zl_loop (s := s) (h₁ := s.heap) hh D L hl hn res hR xs.size 0 _ s.toks _ #[] [] (Nat.sub_zero _) (Nat.zero_le _) (st.upd L oth) (fun b o h1 _ _ _ _ e => oth b o h1 e) hS₃ rfl rfl ⟨List.Pairwise.nil, (fun _ ha => nomatch ha), (fun j a hj => by simp at hj)⟩ ?_⟩
  have zz := oth z _ L.Sz.symm hz
  have e1 : ((s.heap.update S (Obj.mapSeq (·.push Value.none))).update S (Obj.mapSeq (·.pop))).objs.size = s.heap.objs.size := by
    first
      | (rw [Heap.size_update, Heap.size_update])
      | (simp [Heap.update])
  rw [e1]
  exact hlo
theorem zl_init {R : Result → Shared → Prop} (hh : A.handled = none) (D : ZipApart z TI TO i1 i2 l1 l2) (L : ZLo z TI TO i1 i2 l1 l2 S lo) (hl : xs.size = ys.size) (hn : xs.size ≤ sizeLine) (hlo : lo ≤ s.heap.objs.size)
    (st : ZSt s.heap z TI TO i1 i2 l1 l2 S lo xs ys 0) (hz : IsZip s.heap z TI TO .none) (hS : s.heap.get? S = some { cls := .type "list", data := .seq #[] })
    (hR : ∀ h' tk acc c as, (∀ b o, b ≠ S → b ≠ z → b ≠ TO → b ≠ i1 → b ≠ i2 → s.heap.get? b = some o → h'.get? b = some o) → h'.get? S = some { cls := .type "list", dict := none, data := .seq acc c, slots := #[] } → as.length = xs.size → ZG xs ys lo h' as →
      acc.toList = as.map Value.ref → R (.ok (.ret .none)) { s with heap := h', toks := tk }) :
    wpAny (model prog w) A.in1 (Builtin.«list.__init__» ⟨[.ref S, .ref z], []⟩)
      (fun fin s' => match fin with | .done f => R (.ok f) s' | .again c' => c'.quiet = true ∧ codeAny (model prog w) A c' R s') (fun e s' => R (.error e) s') s := by
  show wpAny _ _ (do let old ← Builtin.List.listItems (.ref S); Builtin.List.listUpdate (.ref S) (fun _ => #[]); letGo old.toList.reverse; Builtin.List.listExtendWith (.ref S) (.ref z) .none) _ _ s
  refine wpAny_bind ?_
  unfold Builtin.List.listItems
  refine wpAny_bind (wpAny_seqItems hS rfl (wpAny_pure ?_))
  show wpAny _ _ (updateSeq S (fun _ => #[]) >>= fun _ => letGo (#[] : Array Value).toList.reverse >>= fun _ => Builtin.List.listExtendWith (.ref S) (.ref z) .none) _ _ s
  refine wpAny_bind (wpAny_updateSeq hS rfl ?_)
  have hS₂ := Heap.get?_update_self (Obj.mapSeq (fun _ => (#[] : Array Value))) hS rfl
  have oth : ∀ b o, b ≠ S → s.heap.get? b = some o → (s.heap.update S (Obj.mapSeq (fun _ => (#[] : Array Value)))).get? b = some o :=
    fun b o hb e => (Heap.get?_update_other _ _ (Ne.symm hb)).trans e
  refine wpAny_bind (wpAny_letGo ?_)
  have e1 : (s.heap.update S (Obj.mapSeq (fun _ => (#[] : Array Value)))).objs.size = s.heap.objs.size := by
    first
      | (rw [Heap.size_update])
      | (simp [Heap.update])
  refine zl_extend hh D L hl hn .none _ (by show lo ≤ (s.heap.update S _).objs.size; rw [e1]; exact hlo) (st.upd L oth) (oth z _ L.Sz.symm hz) hS₂ (fun h' tk acc c as hk hS' hl' hG hacc => ?_)
  exact hR h' tk acc c as (fun b o h1 h2 h3 h4 h5 e => hk b o h1 h2 h3 h4 h5 (oth b o h1 e)) hS' hl' hG hacc
theorem zl_call {Q : Value → Shared → Prop} (hh : A.handled = none) (D : ZipApart z TI TO i1 i2 l1 l2) (hl : xs.size = ys.size) (hn : xs.size ≤ sizeLine)
    (hz : IsZip s.heap z TI TO .none) (hTI : IsPair s.heap TI (.ref i1) (.ref i2)) (hTO : ∃ a b, IsPair s.heap TO a b) (h1 : s.heap.IsTupleIter i1 l1 0) (h2 : s.heap.IsTupleIter i2 l2 0) (hl1 : s.heap.IsTuple l1 xs) (hl2 : s.heap.IsTuple l2 ys)
    (hQ : ∀ h' tk acc c as, (∀ b o, b ≠ z → b ≠ TO → b ≠ i1 → b ≠ i2 → s.heap.get? b = some o → h'.get? b = some o) → h'.get? s.heap.objs.size = some { cls := .type "list", dict := none, data := .seq acc c, slots := #[] } → as.length = xs.size → ZG xs ys (s.heap.objs.size + 1) h' as →
      acc.toList = as.map Value.ref → Q (.ref s.heap.objs.size) { s with heap := h', toks := tk }) :
    wpAny (model prog w) A (call (.type "list") [.ref z]) Q E s := by
  refine callType_codes (Q₁ := fun obj s₁ => obj = .ref s.heap.objs.size ∧ s₁ = { s with heap := s.heap.push { cls := .type "list", data := .seq #[] } }) PySem.F.called_list (PySem.F.typeCall_list_1 _) PySem.F.entry_list_init
    (code_list_new _ ⟨rfl, rfl⟩) fun obj s₁ h₁ => ?_
  obtain ⟨rfl, rfl⟩ := h₁
  have hS : (s.heap.push { cls := .type "list", data := .seq #[] }).get? s.heap.objs.size = some { cls := .type "list", data := .seq #[] } := Heap.get?_push_size _ rfl
  have kp : ∀ b o, s.heap.get? b = some o → (s.heap.push { cls := .type "list", data := .seq #[] }).get? b = some o := fun b o e => Heap.get?_push_of_some _ e
  have lz := Heap.lt_size hz
  have lTI := Heap.lt_size hTI
  obtain ⟨ta, tb, hTO'⟩ := hTO
  have lTO := Heap.lt_size hTO'
  have li1 : i1 < s.heap.objs.size := let ⟨_, e, _⟩ := h1; Heap.lt_size e
  have li2 : i2 < s.heap.objs.size := let ⟨_, e, _⟩ := h2; Heap.lt_size e
  have ll1 : l1 < s.heap.objs.size := let ⟨_, e, _⟩ := hl1; Heap.lt_size e
  have ll2 : l2 < s.heap.objs.size := let ⟨_, e, _⟩ := hl2; Heap.lt_size e
  have L : ZLo z TI TO i1 i2 l1 l2 s.heap.objs.size (s.heap.objs.size + 1) := ⟨Nat.lt_succ_of_lt lz, Nat.lt_succ_of_lt lTI, Nat.lt_succ_of_lt lTO, Nat.lt_succ_of_lt li1, Nat.lt_succ_of_lt li2, Nat.lt_succ_of_lt ll1, Nat.lt_succ_of_lt ll2, Nat.lt_succ_self _,
    Nat.ne_of_gt lz, Nat.ne_of_gt lTI, Nat.ne_of_gt lTO, Nat.ne_of_gt li1, Nat.ne_of_gt li2, Nat.ne_of_gt ll1, Nat.ne_of_gt ll2⟩
  have st : ZSt (s.heap.push { cls := .type "list", data := .seq #[] }) z TI TO i1 i2 l1 l2 s.heap.objs.size (s.heap.objs.size + 1) xs ys 0 :=
    ⟨.inl ⟨rfl, kp _ _ hz, ta, tb, kp _ _ hTO'⟩, kp _ _ hTI, h1.at fun o e => kp _ _ e, h2.at fun o e => kp _ _ e, tup_keep hl1 fun o e => kp _ _ e, tup_keep hl2 fun o e => kp _ _ e⟩
  refine ⟨⟨_, hS, rfl⟩, PySem.F.args_list_init_2 _ _, zl_init (A := A.in1) hh D L hl hn (by show s.heap.objs.size + 1 ≤ (s.heap.push _).objs.size; rw [Heap.size_push]; exact Nat.le_refl _) st (kp _ _ hz) hS (fun h' tk acc c as hk hS' hl' hG hacc => ?_)⟩
  exact ⟨rfl, hQ h' tk acc c as (fun b o c1 c2 c3 c4 e => hk b o (Nat.ne_of_lt (Heap.lt_size e)) c1 c2 c3 c4 (kp b o e)) hS' hl' hG hacc⟩
end
/-! ### the rule -/
/-- pairs tracked at their addresses -/
def putZ : Hp → List Addr → List (V × V) → Hp
  | H, a :: as, p :: ps => putZ (upd H a (.tup [p.1, p.2])) as ps
  | H, _, _ => H
theorem putZ_off {b : Addr} : ∀ (as : List Addr) (ps : List (V × V)) (H : Hp), b ∉ as → putZ H as ps b = H b
  | [], _, _, _ => rfl
  | _ :: _, [], _, _ => rfl
  | a :: as, p :: ps, H, h => by
    show putZ (upd H a (.tup [p.1, p.2])) as ps b = H b
    rw [putZ_off as ps _ (fun z => h (List.mem_cons_of_mem _ z)), upd_ne (fun z => h (by rw [z]; exact List.mem_cons_self))]
theorem putZ_at : ∀ (as : List Addr) (ps : List (V × V)) (H : Hp) (j : Nat) (a : Addr) (p : V × V), as.Nodup → as[j]? = some a → ps[j]? = some p → putZ H as ps a = some (.tup [p.1, p.2])
  | [], _, _, j, _, _, _, h, _ => by simp at h
  | _ :: _, [], _, j, _, _, _, _, h => by simp at h
  | a :: as, p :: ps, H, 0, b, q, nd, h1, h2 => by
    have e1 : a = b := Option.some.inj h1
    have e2 : p = q := Option.some.inj h2
    subst e1 e2
    show putZ (upd H a (.tup [p.1, p.2])) as ps a = some (.tup [p.1, p.2])
    rw [putZ_off as ps _ (List.nodup_cons.mp nd).1, upd_same]
  | a :: as, p :: ps, H, j + 1, b, q, nd, h1, h2 => putZ_at as ps _ j b q (List.nodup_cons.mp nd).2 h1 h2
/-- list(zip(t, u)) of two tuples of one length -/
def tListZip (K : PySem.W.Frag) (ta : TA) : TE := fun σ H Q => ta σ H fun vs H1 => ∃ (a b : Addr) (xs ys : List V), vs = [.ref a, .ref b] ∧ SqT K H1 a xs ∧ SqT K H1 b ys ∧ xs.length = ys.length ∧
  ∀ (H' : Hp) (p : Addr) (ts : List Addr), Same H1 H' → H1 p = none → (∀ t ∈ ts, H1 t = none) → H' p = some (.lst (ts.map V.ref)) → ts.length = xs.length →
    (∀ (j : Nat) (t : Addr), ts[j]? = some t → ∃ x y, xs[j]? = some x ∧ ys[j]? = some y ∧ H' t = some (.tup [x, y])) → Q (.ref p) H'
section
variable {X : Cx}
theorem pe_listZip {e e2 : Expr} {ta : TA} {p p2 pos pos2 : Pos} (hc : X.calm = true) (hgl : Gl X "list") (hml : X.mg "list" = none) (hgz : Gl X "zip") (hmz : X.mg "zip" = none) (ha : PA X [e, e2] ta)
    (hs : starEach [e, e2] X.env = (false, eval e X.env) :: starEach [e2] X.env := by rfl) (hpl : (backTo pos2 (starEach [e2] X.env)).any (·.1) = false := by rfl)
    (hs2 : starEach [.Call (.Name "zip" p2) [e, e2] [] pos2] X.env = (false, eval (.Call (.Name "zip" p2) [e, e2] [] pos2) X.env) :: starEach [] X.env := by rfl) :
    PE X (.Call (.Name "list" p) [.Call (.Name "zip" p2) [e, e2] [] pos2] [] pos) (tListZip X.K ta) := by
  refine ⟨fun pins s σ H Q I h => ?_⟩
  refine wpAny_Call_Name_kw (ld_blt I hgl hml PyProof.Rows.boot_list ?_)
  refine PyProof.Rows.callWith_type1 ?_ hs2 rfl
  rw [hs2]
  show wpAny _ _ (spliced ((false, eval (.Call (.Name "zip" p2) [e, e2] [] pos2) X.env) :: backTo pos (starEach [] X.env))) _ _ s
  refine Calls.spliced_cons ?_
  refine Call_ (ld_blt I hgz hmz PyProof.Rows.boot_zip (PyProof.Rows.callWith_type1 (thn (ha.run pos2 pins s σ H _ I h) fun us s1 ⟨vs, H1, I1, r1, q1⟩ => ?_) hs hpl))
  obtain ⟨a, b, xs, ys, ex, hqx, hqy, hxy, q⟩ := q1
  subst ex
  cases r1 with
  | cons r rr =>
    cases rr with
    | cons r' rr =>
      cases rr
      cases r
      cases r'
      obtain ⟨its, rv, p1, hz1⟩ := I1.tuple hqx
      obtain ⟨its2, rv2, p2', _⟩ := I1.tuple hqy
      obtain ⟨o1, ho1, _⟩ := id p1
      obtain ⟨o2, ho2, _⟩ := id p2'
      have e1 := rv.length
      have e2 := rv2.length
      refine call_zipT (show s1.heap.IsTuple a its.toArray from p1) (show s1.heap.IsTuple b its2.toArray from p2') fun h' hz hTI hTO h1 h2 hsz hk => ?_
      refine Calls.spliced_nil ?_
      have D := PySem.W.ktu_apart s1.heap.objs.size a b (Heap.lt_size ho1) (Heap.lt_size ho2)
      refine zl_call (s := { s1 with heap := h' }) (xs := its.toArray) (ys := its2.toArray) (I1.ok.hd hc) D (by rw [List.size_toArray, List.size_toArray]; omega) (by rw [List.size_toArray]; omega) hz hTI ⟨_, _, hTO⟩ h1 h2 (tup_keep p1 fun o q => hk _ _ q) (tup_keep p2' fun o q => hk _ _ q) fun h2' tk acc c as hkk hS hl hG hacc => ?_
      have lo : ∀ b o, s1.heap.get? b = some o → h2'.get? b = some o := fun b o q => by
        have lb := Heap.lt_size q
        exact hkk b o (fun z => by rw [z] at lb; exact absurd lb (Nat.not_lt.mpr (Nat.le_add_right _ _))) (fun z => by rw [z] at lb; exact absurd lb (Nat.not_lt.mpr (Nat.le_add_right _ _))) (fun z => by rw [z] at lb; exact absurd lb (Nat.lt_irrefl _)) (fun z => by rw [z] at lb; exact absurd lb (Nat.not_lt.mpr (Nat.le_add_right _ _))) (hk b o q)
      have hsz' : h'.objs.size = s1.heap.objs.size + 5 := hsz
      have hal : as.length = xs.length := by
        rw [hl, List.size_toArray]
        omega
      have nd : as.Nodup := List.Pairwise.imp (fun {a b} (h : a < b) => Nat.ne_of_lt h) hG.rise
      have big : ∀ t ∈ as, h'.objs.size < t := fun t ht => hG.above t ht
      have hSn : h'.objs.size ∉ as := fun z => Nat.lt_irrefl _ (big _ z)
      have new : ∀ t ∈ as, H1 t = none := fun t ht => I1.hok.fresh (by have := big t ht; rw [hsz'] at this; exact Nat.le_of_lt (Nat.lt_of_le_of_lt (Nat.le_add_right _ _) this))
      have newS : H1 h'.objs.size = none := I1.hok.fresh (by rw [hsz']; exact Nat.le_add_right _ _)
      have lk : ∀ b o, s1.heap.get? b = some o → b ∉ as ∧ b ≠ h'.objs.size := fun b o q => by
        have lb := Heap.lt_size q
        refine ⟨fun z => ?_, fun z => ?_⟩
        · have := big b z
          rw [hsz'] at this
          exact absurd lb (Nat.not_lt.mpr (Nat.le_trans (Nat.le_add_right _ 5) (Nat.le_of_lt this)))
        · rw [z, hsz'] at lb
          exact absurd lb (Nat.not_lt.mpr (Nat.le_add_right _ _))
      have off : ∀ b, b ∉ as → b ≠ h'.objs.size → putZ (upd H1 h'.objs.size (.lst (as.map V.ref))) as (xs.zip ys) b = H1 b := fun b h1 h2 => by rw [putZ_off as _ _ h1, upd_ne h2]
      have kp : ∀ b u, H1 b = some u → putZ (upd H1 h'.objs.size (.lst (as.map V.ref))) as (xs.zip ys) b = some u := fun b u e => by
        rw [off b (fun z => by rw [new b z] at e; cases e) (fun z => by rw [z, newS] at e; cases e)]
        exact e
      have eS : putZ (upd H1 h'.objs.size (.lst (as.map V.ref))) as (xs.zip ys) h'.objs.size = some (.lst (as.map V.ref)) := by rw [putZ_off as _ _ hSn, upd_same]
      have prs : ∀ (j : Nat) (t : Addr), as[j]? = some t → ∃ x y u1 u2, xs[j]? = some x ∧ ys[j]? = some y ∧ RelV x u1 ∧ RelV y u2 ∧ IsPair h2' t u1 u2 ∧ putZ (upd H1 h'.objs.size (.lst (as.map V.ref))) as (xs.zip ys) t = some (.tup [x, y]) := fun j t ht => by
        obtain ⟨u1, u2, f1, f2, f3⟩ := hG.pairs j t ht
        have hj : j < xs.length := by
          have := (List.getElem?_eq_some_iff.mp ht).1
          omega
        have hj2 : j < ys.length := by omega
        have g1 : xs[j]? = some xs[j] := List.getElem?_eq_getElem hj
        have g2 : ys[j]? = some ys[j] := List.getElem?_eq_getElem hj2
        obtain ⟨w1, k1, r1⟩ := rv.get g1
        obtain ⟨w2, k2, r2⟩ := rv2.get g2
        have m1 : u1 = w1 := by
          rw [List.getElem?_toArray, k1] at f1
          exact (Option.some.inj f1).symm
        have m2 : u2 = w2 := by
          rw [List.getElem?_toArray, k2] at f2
          exact (Option.some.inj f2).symm
        subst m1 m2
        refine ⟨xs[j], ys[j], u1, u2, g1, g2, r1, r2, f3, ?_⟩
        exact putZ_at as (xs.zip ys) _ j t (xs[j], ys[j]) nd ht (by rw [List.getElem?_zip_eq_some]; exact ⟨g1, g2⟩)
      refine ⟨.ref _, putZ (upd H1 h'.objs.size (.lst (as.map V.ref))) as (xs.zip ys), ?_, rfl, q _ _ as kp newS new eS hal fun j t ht => ?_⟩
      · have Ik : Inv X pins σ H1 { s1 with heap := h2', toks := tk } := I1.kept (t' := tk) lo
        refine I1.call' (ch := []) rfl ⟨fun b o q _ _ _ => lo b o q, fun b o q _ _ _ => ⟨o.slots, lo b o q⟩, fun b o q n _ => ?_, fun b o q _ => ⟨o, lo b o q⟩, fun b zs q => kp b _ q, fun b o u q => kp b _ q, fun b ps q => ⟨#[], by rw [kp b _ q]; simp⟩⟩ (fun b u q => ?_) I1.bare fun b z => by simp at z
        · obtain ⟨z1, z2⟩ := lk b o q
          rw [off b z1 z2]
          exact n
        · by_cases hb : b ∈ as
          · obtain ⟨j, hj⟩ := List.mem_iff_getElem?.mp hb
            obtain ⟨x, y, u1, u2, _, _, r1, r2, f3, e⟩ := prs j b hj
            rw [e] at q
            cases q
            exact ⟨by show 2 ≤ sizeLine; decide, [u1, u2], .cons r1 (.cons r2 .nil), ⟨_, f3, rfl, _, rfl⟩⟩
          · by_cases hb2 : b = h'.objs.size
            · rw [hb2] at q ⊢
              rw [eS] at q
              cases q
              refine ⟨by rw [List.length_map]; omega, acc.toList, c, by rw [hacc]; exact (let rec go : ∀ as : List Addr, Vals (as.map V.ref) (as.map Value.ref) | [] => .nil | _ :: as => .cons rfl (go as); go as), ?_⟩
              rw [Array.toArray_toList]
              exact hS
            · rw [off b hb hb2] at q
              exact (I1.hok b u q).stay (fun d v _ y => lo d v y) (fun d y => kp d _ y) fun d xs y => kp d _ y
      · obtain ⟨x, y, _, _, g1, g2, _, _, _, e⟩ := prs j t ht
        exact ⟨x, y, g1, g2, e⟩
end
end LmR

set_option Elab.async false
set_option linter.all false
set_option maxRecDepth 100000
set_option maxHeartbeats 2000000
namespace Lm
open PySem PySem.Spec PyProof.Rows L2 LmR
/-! ### defs of the text, callable -/
/-- the def st stands in the text under the name x -/
def DefAt (K : PySem.W.Frag) (mg : Str → Option Value) (x : Str) (st : Stmt) (ps : List Str) : Prop := ∃ f fd, Fun K x x st f fd ∧ Binds K fd ps [] ∧ mg x = some (.ref f)
/-- what stands under the name x keeps sp, by at most level k -/
def Cal (P : Program) (w : World) (K : PySem.W.Frag) (mg : Str → Option Value) (base : Heap) (k : Nat) (x : Str) (ps : List Str) (sp : Sp) : Prop :=
  ∃ f fd, FnOk P w K mg base CX0 k f fd ps sp ∧ mg x = some (.ref f) ∧ PySem.W.keepIn K (.ref f) = true ∧ Binds K fd ps [] ∧ ∃ st, Fun K x x st f fd
section
variable {P : Program} {w : World} {K : PySem.W.Frag} {mg : Str → Option Value} {base : Heap}
theorem Cal.mono {j k : Nat} {x : Str} {ps : List Str} {sp : Sp} (c : Cal P w K mg base j x ps sp) (h : j ≤ k) : Cal P w K mg base k x ps sp := by
  obtain ⟨f, fd, F, g, kp, b⟩ := c
  exact ⟨f, fd, F.mono h, g, kp, b⟩
theorem Cal.weak {k : Nat} {x : Str} {ps : List Str} {sp sp' : Sp} (c : Cal P w K mg base k x ps sp) (h : ∀ vs H Q E, sp' vs H Q E → sp vs H Q E) : Cal P w K mg base k x ps sp' := by
  obtain ⟨f, fd, F, g, kp, b⟩ := c
  exact ⟨f, fd, ⟨fun vs H Q E z => F.len vs H Q E (h vs H Q E z), fun A outer s H args us vs Q E r e b v z => F.run A outer s H args us vs Q E r e b v (h vs H Q E z)⟩, g, kp, b⟩
theorem cal_of {x : Str} {st : Stmt} {N ps : List Str} {k : Nat} {sp : Sp} (D : DefAt K mg x st ps) (S : FnScope N ps (defScope st)) (len : ∀ vs H Q E, sp vs H Q E → vs.length = ps.length)
    (hbody : ∀ (f : Addr) (cdv : Value) (A : Around) (outer : List Env) (s : Shared) (H : Hp) (vs : List V) (Q : VK) (E : XK), Room k (A.deeper (envOfC x (defScope st) s.heap.objs.size f cdv)) → sp vs H Q E →
      ∃ t, PSs (cxOf CX0 P w K mg base N x (defScope st) f cdv A outer s H E).nox (defBody st) t ∧ t { nx := fun _ H' => Q .non H', rt := Q } (start N vs) H) : Cal P w K mg base (k + 1) x ps sp := by
  obtain ⟨f, fd, F, b, g⟩ := D
  exact ⟨f, fd, F.ok S len (hbody f), g, F.kp, b, _, F⟩
/-- nothing is asked: no call is allowed -/
theorem cal_no {x : Str} {st : Stmt} {ps : List Str} {sp : Sp} (D : DefAt K mg x st ps) (no : ∀ vs H Q E, ¬ sp vs H Q E) {k : Nat} : Cal P w K mg base k x ps sp := by
  obtain ⟨f, fd, F, b, g⟩ := D
  exact ⟨f, fd, ⟨fun vs H Q E h => absurd h (no vs H Q E), fun A outer s H args us vs Q E _ _ _ _ h => absurd h (no vs H Q E)⟩, g, F.kp, b, _, F⟩
end
/-- f(e, ..) -/
theorem pe_cal {X : Cx} {k : Nat} {x : Str} {ps : List Str} {sp : Sp} {e : Expr} {es : List Expr} {t : TA} {p pos : Pos} (C : Cal X.prog X.w X.K X.mg X.base k x ps sp) (hr : Room k X.A) (hg : Gl X x) (ha : PA X (e :: es) t)
    (hdb : (x == ("__debug__" : Str)) = false := by decide) (he : starEach (e :: es) X.env = (false, eval e X.env) :: starEach es X.env := by rfl) (hpl : (backTo pos (starEach es X.env)).any (·.1) = false := by rfl) :
    PE X (.Call (.Name x p) (e :: es) [] pos) (tCall sp [] (fun _ _ _ => False) t) := by
  obtain ⟨f, fd, F, g, kp, b, _⟩ := C
  exact pe_call F hr hg g kp b .nil pass0 ha hdb he hpl
/-- the built-ins that the text names and no one has rebound -/
structure Bt (mg : Str → Option Value) : Prop where
  len : mg "len" = none
  isinstance : mg "isinstance" = none
  tuple : mg "tuple" = none
  list : mg "list" = none
  str : mg "str" = none
  int : mg "int" = none
  bool : mg "bool" = none
  range : mg "range" = none
  zip : mg "zip" = none
  enumerate : mg "enumerate" = none
  reversed : mg "reversed" = none
  max : mg "max" = none
  all : mg "all" = none
  min : mg "min" = none
  sum : mg "sum" = none
  any : mg "any" = none
  sorted : mg "sorted" = none
  set : mg "set" = none
  repr : mg "repr" = none
  abs : mg "abs" = none
/-! ### heaps -/
/-- all that was tracked is as it was, but what stands at ws -/
def Ex (ws : List Addr) (H H' : Hp) : Prop := ∀ b o, H b = some o → b ∉ ws → H' b = some o
theorem Ex.refl (ws : List Addr) (H : Hp) : Ex ws H H := fun _ _ h _ => h
theorem Ex.trans {ws : List Addr} {H H1 H2 : Hp} (a : Ex ws H H1) (b : Ex ws H1 H2) : Ex ws H H2 := fun c o h n => b c o (a c o h n) n
theorem Ex.mono {ws us : List Addr} {H H' : Hp} (a : Ex ws H H') (h : ∀ b ∈ ws, b ∈ us) : Ex us H H' := fun c o e n => a c o e fun m => n (h c m)
theorem Ex.of_same {ws : List Addr} {H H' : Hp} (a : Same H H') : Ex ws H H' := fun c o e _ => a c o e
theorem Ex.same {H H' : Hp} (a : Ex [] H H') : Same H H' := fun c o e => a c o e (by simp)
theorem Ex.new {ws : List Addr} {H : Hp} {p : Addr} {o : HO} (h : H p = none) : Ex ws H (upd H p o) := fun b u q _ => by rw [upd_ne (ne_of_none q h)]; exact q
theorem Ex.at {ws : List Addr} {H : Hp} {p : Addr} {o : HO} (h : p ∈ ws) : Ex ws H (upd H p o) := fun b u q n => by rw [upd_ne (fun z => n (by rw [z]; exact h))]; exact q
theorem same_new {H : Hp} {p : Addr} {o : HO} (h : H p = none) : Same H (upd H p o) := fun b u q => by rw [upd_ne (ne_of_none q h)]; exact q
theorem Ex.free {ws : List Addr} {H H' : Hp} (a : Ex ws H H') {p : Addr} (h : H' p = none) (n : p ∉ ws) : H p = none := by
  cases q : H p with
  | none => rfl
  | some o =>
    rw [a p o q n] at h
    cases h
theorem Ex.ne {ws : List Addr} {H H' : Hp} (a : Ex ws H H') {p q : Addr} {o : HO} (h : H q = some o) (hq : q ∉ ws) (hp : H' p = none) : q ≠ p := fun z => by
  rw [← z, a q o h hq] at hp
  cases hp
theorem small {n : Nat} (h : n ≤ 100000) : n ≤ sizeLine := Nat.le_trans h (by decide)
theorem smallL {n : Nat} (h : n ≤ 100000) : n < sizeLine := Nat.lt_of_le_of_lt h (by decide)
/-! ### data: None, truths, ints, texts, tuples of these -/
/-- without lists and dicts -/
def flat : PyData → Bool
  | .none => true
  | .bool _ => true
  | .int _ => true
  | .str _ => true
  | .list _ => false
  | .tuple xs => flats xs
  | .dict _ => false
where flats : List PyData → Bool
  | [] => true
  | d :: ds => flat d && flats ds
/-- the tuples that were there are there -/
def Tp (K : PySem.W.Frag) (H H' : Hp) : Prop := ∀ a xs, SqT K H a xs → SqT K H' a xs
theorem Ex.tp {K : PySem.W.Frag} {ws : List Addr} {H H' : Hp} (a : Ex ws H H') (h : ∀ b ∈ ws, ∀ xs, ¬ Rd H b (.tup xs)) : Tp K H H' := fun b xs q => by
  rcases q with (q | ⟨o, q⟩) | q
  · exact .inl (.inl (a b _ q fun m => h b m xs (.inl q)))
  · exact .inl (.inr ⟨o, a b _ q fun m => h b m xs (.inr ⟨o, q⟩)⟩)
  · exact .inr q
theorem Tp.refl (K : PySem.W.Frag) (H : Hp) : Tp K H H := fun _ _ h => h
theorem Tp.trans {K : PySem.W.Frag} {H H1 H2 : Hp} (a : Tp K H H1) (b : Tp K H1 H2) : Tp K H H2 := fun c xs h => b c xs (a c xs h)
theorem Tp.same {K : PySem.W.Frag} {H H' : Hp} (a : Same H H') : Tp K H H' := fun b xs q => by
  rcases q with (q | ⟨o, q⟩) | q
  · exact .inl (.inl (a b _ q))
  · exact .inl (.inr ⟨o, a b _ q⟩)
  · exact .inr q
/-- a list (or dict) that is written -/
theorem Tp.put {K : PySem.W.Frag} {H : Hp} {p : Addr} {o o' : HO} (h : H p = some o) (n1 : ∀ xs, o ≠ .tup xs) (n2 : ∀ u v, o ≠ .frz u v) : Tp K H (upd H p o') := fun b xs q => by
  rcases q with (q | ⟨u, q⟩) | q
  · have nb : b ≠ p := fun z => by
      rw [z, h] at q
      exact n1 xs (Option.some.inj q)
    exact .inl (.inl (by rw [upd_ne nb]; exact q))
  · have nb : b ≠ p := fun z => by
      rw [z, h] at q
      exact n2 _ _ (Option.some.inj q)
    exact .inl (.inr ⟨u, by rw [upd_ne nb]; exact q⟩)
  · exact .inr q
theorem Tp.lst {K : PySem.W.Frag} {H : Hp} {p : Addr} {xs : List V} {o' : HO} (h : H p = some (.lst xs)) : Tp K H (upd H p o') := Tp.put h (fun _ z => nomatch z) (fun _ _ z => nomatch z)
theorem Tp.dct {K : PySem.W.Frag} {H : Hp} {p : Addr} {xs : List (Key × V)} {o' : HO} (h : H p = some (.dK xs)) : Tp K H (upd H p o') := Tp.put h (fun _ z => nomatch z) (fun _ _ z => nomatch z)
theorem Tp.new {K : PySem.W.Frag} {H : Hp} {p : Addr} {o : HO} (h : H p = none) : Tp K H (upd H p o) := Tp.same (same_new h)
mutual
theorem dp_keep {K : PySem.W.Frag} {H H' : Hp} (t : Tp K H H') : ∀ (d : PyData) (v : V), flat d = true → Dp K H v d → Dp K H' v d
  | .none, _, _, h => by cases h; exact .non
  | .bool b, _, _, h => by cases h; exact .bl b
  | .int i, _, _, h => by cases h; exact .int i
  | .str x, _, _, h => by cases h; exact .str x
  | .list ds, _, f, _ => by simp [flat] at f
  | .tuple ds, _, f, h => by
    cases h with
    | tup q r => exact .tup (t _ _ q) (dps_keep t ds _ f r)
  | .dict ds, _, f, _ => by simp [flat] at f
theorem dps_keep {K : PySem.W.Frag} {H H' : Hp} (t : Tp K H H') : ∀ (ds : List PyData) (vs : List V), flat.flats ds = true → DpAll K H vs ds → DpAll K H' vs ds
  | [], _, _, h => by cases h; exact .nil
  | d :: ds, _, f, h => by
    rw [flat.flats, Bool.and_eq_true] at f
    cases h with
    | cons a b => exact .cons (dp_keep t d _ f.1 a) (dps_keep t ds _ f.2 b)
end
/-- flat data at v -/
def Fd (K : PySem.W.Frag) (H : Hp) (v : V) (d : PyData) : Prop := flat d = true ∧ Dp K H v d
theorem Fd.keep {K : PySem.W.Frag} {H H' : Hp} {v : V} {d : PyData} (h : Fd K H v d) (t : Tp K H H') : Fd K H' v d := ⟨h.1, dp_keep t d v h.1 h.2⟩
/-! ### rules within a comprehension: the written part by its name -/
section
variable {X : Cx} {K : PySem.W.Frag}
theorem ix_tupK (h : X.K = K) : IxR X (rIxT K) := h ▸ ix_tup
theorem ix_listK (h : X.K = K) : IxR X (rIxL K) := h ▸ ix_list
def rLenK (K : PySem.W.Frag) : List V → Hp → VK → Prop := fun xs H Q => ∃ p ys, xs = [.ref p] ∧ (SqL K H p ys ∨ SqT K H p ys) ∧ Q (.int ys.length) H
theorem call_len_seqK (h : X.K = K) : CallR X (.builtin "len") (rLenK K) := h ▸ call_len_seq
theorem pe_bm0K {T : String} {name : Str} {id : String} {r : V → List V → Hp → VK → Prop} {o : Expr} {to : TE} {apos cpos : Pos} (h : X.K = K) (pa : PlainAttrs T) (slot : Slot T name id) (hty : typeOf (.builtin id) = pure (.type "method_descriptor")) (hm : MtR X id r) (ho : PE X o to)
    (hbase : attributeBase o name X.env (eval o X.env) = eval o X.env := by rfl) (hline : (apos.endLine == cpos.line) = true := by rfl) : PE X (.Call (.Attribute o name apos) [] [] cpos) (tBM0 K T r to) := h ▸ pe_bm0 pa slot hty hm ho hbase hline
end
end Lm

set_option Elab.async false
set_option linter.all false
set_option maxRecDepth 100000
set_option maxHeartbeats 2000000
namespace Lm
open PySem PySem.Spec PyProof.Rows L2 LmR
/-! ### a def called within an except suite, handed the exception -/
structure FnP (P : Program) (w : World) (K : PySem.W.Frag) (mg : Str → Option Value) (base : Heap) (p : Addr × Obj) (k : Nat) (f : Addr) (fd : FuncData) (ps : List Str) (sp : Sp) : Prop where
  len : ∀ vs H Q E, sp vs H Q E → vs.length = ps.length
  run : ∀ (A : Around) (outer : List Env) (s : Shared) (H : Hp) (args : Args) (us : List Value) (vs : List V) (Q : VK) (E : XK), L2H.RoomH k A → L2H.PinOk outer H s p → Env0 P w K mg base A outer s H → BindsTo s fd args (ps.zip us) → Vals vs us → sp vs H Q E →
    codeAny (model P w) A (.call (.ref f) args) (CR CX0 outer P w H s Q E) s
theorem fn_ofP {P : Program} {w : World} {K : PySem.W.Frag} {mg : Str → Option Value} {base : Heap} {k : Nat} {x : Str} {st : Stmt} {f : Addr} {fd : FuncData} {N ps : List Str} {sp : Sp} {p : Addr × Obj} (F : Fun K x x st f fd) (S : FnScope N ps (defScope st))
    (len : ∀ vs H Q E, sp vs H Q E → vs.length = ps.length)
    (hbody : ∀ (cdv : Value) (A : Around) (outer : List Env) (s : Shared) (H : Hp) (vs : List V) (Q : VK) (E : XK), L2H.RoomH k (A.deeper (envOfC x (defScope st) s.heap.objs.size f cdv)) → sp vs H Q E →
      ∃ t, PSs (L2H.cxH CX0 P w K mg base N x (defScope st) f cdv A outer s H E p) (defBody st) t ∧ t { nx := fun _ H' => Q .non H', rt := Q } (L2.start N vs) H) : FnP P w K mg base p (k + 1) f fd ps sp := by
  obtain ⟨oc, od, kV, doc, pm, an, cdv, ct, osl, rfl, lk, hcd⟩ := F.ex
  refine ⟨len, fun A outer s H args us vs Q E hr hpin e0 hb r hsp => ?_⟩
  have hl := len _ _ _ _ hsp
  have KX : K.In s.heap := e0.mod.kin.keeps fun b o e => (e0.bs b o e).1
  have lim : s.heap.NoLimit := e0.mod.nolimit.keeps fun b o e => (e0.bs b o e).1
  have hkind : ∀ y ∈ ps.zip us, (defScope st).names.lookup y.1 = some .local ∨ ((defScope st).names.lookup y.1 = some .cell ∧ ((cellsFrom (s.heap.objs.size + 1) (defScope st).names []).lookup y.1).isSome = true) := fun ⟨n, v⟩ hy => by
    rcases S.par n (List.of_mem_zip hy).1 with q | q
    · exact .inl q
    · exact .inr ⟨q, PySem.W.cellsFrom_some _ _ _ (.inl q)⟩
  refine codeAny_call_function hr.depth (KX _ _ lk) rfl S.co S.gen rfl (PySem.W.codeRec_of KX hcd) (hb _ _ _ _ ?_)
  refine wpAny_newFunctionEnv_cells S.kind hkind fun env he s1 y => ?_
  subst he
  refine ⟨lim.keeps y.toInCall.keep, codeAny_func ?_⟩
  obtain ⟨t, ht, hq⟩ := hbody cdv A outer s H vs Q E (hr.deeper _) hsp
  have I : Inv (L2H.cxH CX0 P w K mg base N x (defScope st) f cdv A outer s H E p) [] (L2.start N vs) H s1 := L2H.inv_startH S hpin e0 hl r y
  refine wpAny_mono (ht.run [] s1 (L2.start N vs) H _ I hq) (fun fl s' hs => ?_) fun e s' hs => hs
  have fin : ∀ {σ' : L2.St} {H' : Hp} {v : V} {u : Value}, Inv (L2H.cxH CX0 P w K mg base N x (defScope st) f cdv A outer s H E p) [] σ' H' s' → RelV v u → Q v H' → CE outer P w H s Q u s' :=
    fun {σ' H' v u} J rv q => ⟨v, H', J.os, J.bare, J.base, J.hok, rv, q⟩
  cases fl with
  | ret u =>
    obtain ⟨v, σ', H', J, rv, q⟩ := hs
    exact fin J rv q
  | next =>
    obtain ⟨σ', H', J, q⟩ := hs
    exact fin (v := V.non) (u := Value.none) J rfl q
  | brk =>
    obtain ⟨_, _, _, q⟩ := hs
    exact False.elim q
  | cont =>
    obtain ⟨_, _, _, q⟩ := hs
    exact False.elim q
theorem pe_callP {X : Cx} {k : Nat} {f : Addr} {fd : FuncData} {ps : List Str} {sp : Sp} {x : Str} {q pos : Pos} {e : Expr} {es : List Expr} {t : TA} {p : Addr × Obj} (F : FnP X.prog X.w X.K X.mg X.base p k f fd ps sp) (hr : L2H.RoomH k X.A) (hp : p ∈ X.pn) (hg : Gl X x) (hm : X.mg x = some (.ref f)) (hk : PySem.W.keepIn X.K (.ref f) = true) (hb : Binds X.K fd ps [])
    (ha : PA X (e :: es) t) (hdb : (x == ("__debug__" : Str)) = false := by decide) (he : starEach (e :: es) X.env = (false, eval e X.env) :: starEach es X.env := by rfl) (hpl : (backTo pos (starEach es X.env)).any (·.1) = false := by rfl) :
    PE X (.Call (.Name x q) (e :: es) [] pos) (tCall sp [] (fun _ _ _ => False) t) := by
  refine ⟨fun pins s σ H Q I h => ?_⟩
  refine wpAny_Call_Name_kw (ld_glob I hg hm ?_ hdb)
  refine PySem.W.callWith_K (h₀ := X.base) I.ok.mod.kin hk (thn (ha.run pos pins s σ H _ I h) fun us s1 ⟨vs, H1, I1, r, q⟩ => ⟨I1.kIn, ?_⟩) he hpl
  have q : sp vs H1 Q (fun _ _ _ => False) := by
    have z : sp (vs ++ []) H1 Q (fun _ _ _ => False) := q
    rw [List.append_nil] at z
    exact z
  have hl : us.length = ps.length := by rw [← r.length]; exact F.len _ _ _ _ q
  have b := hb s1 us I1.kIn (by rw [List.append_nil]; exact hl)
  rw [List.append_nil] at b
  have P1 := I1.pin p (List.mem_append_left _ hp)
  have hpin : L2H.PinOk X.stack H1 s1 p := ⟨P1.1, P1.2.1, fun hm => (List.mem_cons.mp (I1.stkSub p.1 hm)).elim P1.2.2.1 P1.2.2.2.1, P1.2.2.2.2⟩
  refine wpAny_call (codeAny_mono (F.run X.A X.stack s1 H1 ⟨us, []⟩ us vs Q (fun _ _ _ => False) hr hpin I1.env0 b r q) fun r s' hq => ?_)
  cases r with
  | error e => exact hq.elim
  | ok fl =>
    cases fl with
    | ret u => exact I1.after hq
    | next => exact False.elim hq
    | brk => exact False.elim hq
    | cont => exact False.elim hq
/-! ### isinstance of an exception that is pinned -/
structure ExK (K : PySem.W.Frag) (C : Addr) : Prop where
  cl : (PySem.W.clsIn K C).isSome = true
  ga : PySem.W.findIn K (.ref C) "__getattribute__" = some (some (.builtin "BaseException.__getattribute__"))
  gg : PySem.W.findIn K (.ref C) "__getattr__" = some none
  ex : PySem.W.subIn K (.ref C) (.type "BaseException") = some true
  ca : PySem.W.findIn K (.ref C) "__class__" = some (some (.builtin "object.__class__"))
  gn : PySem.W.specialIn K (.builtin "object.__class__") "__get__" = some (some (.builtin "getset_descriptor.__get__"))
  tk : PySem.W.takesIn K (.builtin "object.__class__") = some true
  ob : PySem.W.mroIn K C (.type "object") = some true
/-- isinstance(e, c), e the exception at a of the class at C -/
def rIsP (K : PySem.W.Frag) (C a : Addr) : List V → Hp → VK → Prop := fun xs H Q => ∃ (D : Addr) (b : Bool), xs = [.ref a, .ref D] ∧ PySem.W.kitOne K (.ref C) (.ref D) = some b ∧ Q (.bl b) H
theorem call_isP {X : Cx} {a C : Addr} {oe : Obj} {dct : Option Addr} (k : ExK X.K C) (hz : Zc (.ref C) dct oe) (hf : ∃ vs, oe.data = .fields vs) (hp : (a, oe) ∈ X.pn) (hd : ∀ pins σ H s, Inv X pins σ H s → ∃ od : Option Obj, PySem.W.InstAt s.heap a oe C od) : CallR X (.builtin "isinstance") (rIsP X.K C a) := by
  intro pins s σ H xs us Q I r h
  obtain ⟨D, b, rfl, e, q⟩ := h
  obtain ⟨u1, u2, rfl, r1, r2⟩ := vals2 r
  cases (show u1 = Value.ref a from r1)
  cases (show u2 = Value.ref D from r2)
  obtain ⟨od, J⟩ := hd pins σ H s I
  exact PySem.W.kia_one (PySem.W.kitx_exc k.cl k.ga k.gg k.ex k.ca k.gn k.tk k.ob) I.kIn J e (fun z => nomatch z) fun tk => ⟨.bl b, H, I.tok tk, rfl, q⟩
/-! ### xs.count(True) of truths -/
theorem mt_countB {X : Cx} : MtR X "list.count" (fun x xs H Q => ∃ (p : Addr) (bs : List Bool), x = .ref p ∧ xs = [.bl true] ∧ SqL X.K H p (bs.map V.bl) ∧ Q (.int (bs.count true : Nat)) H) := by
  intro pins s σ H x xs v us Q I rx rxs h
  obtain ⟨p, bs, rfl, rfl, hs, q⟩ := h
  cases rx
  obtain ⟨u, rfl, ru⟩ := rxs.one
  cases (show u = Value.bool true from ru)
  obtain ⟨its, rv, ⟨⟨cls, dd, data, sl⟩, n, ho, hc, hdn, hd⟩, hlen⟩ := I.list hs
  simp only at hc hd
  subst hc hd
  have key : ∀ (bs : List Bool) (its : List Value), Vals (bs.map V.bl) its → its = bs.map Value.bool := by
    intro bs
    induction bs with
    | nil => intro its r; cases r; rfl
    | cons b bs ih =>
      intro its r
      cases r with
      | cons a r =>
        rename_i u us'
        rw [List.map_cons, ih us' r]
        congr 1
  have ei := key bs its rv
  subst ei
  let g : Value → Bool := fun y => y == .bool true
  refine call_meets PySem.F.slot_list_count ⟨_, ho, rfl⟩ PySem.F.entry_list_count (PySem.F.args_list_count_2 _ _)
    (SeqAt.list_countAt p (bs.map Value.bool).toArray n dd sl (.bool true) g) ⟨ho, fun y hy => ?_, ?_⟩
  · have hy' : y ∈ bs.map Value.bool := by simpa using hy
    obtain ⟨b, _, rfl⟩ := List.mem_map.mp hy'
    have eg : g (.bool b) = eqV (.bl b) (.bl true) := by cases b <;> rfl
    rw [eg]
    exact eqAt_V (y := .bl b) (x := .bl true) rfl rfl rfl rfl
  · have ec : ((bs.map Value.bool).toArray.toList.countP g) = bs.count true := by
      show (bs.map Value.bool).countP g = _
      rw [List.countP_map]
      unfold List.count
      congr 1
      funext b
      cases b <;> rfl
    refine ⟨.int (bs.count true : Nat), H, I.tok _, ⟨s.toks, ?_⟩, q⟩
    show Value.int (((bs.map Value.bool).toArray.toList.countP g : Nat) : Int) s.toks = Value.int ((bs.count true : Nat) : Int) s.toks
    rw [ec]
end Lm

set_option Elab.async false
set_option linter.all false
set_option maxRecDepth 100000
set_option maxHeartbeats 2000000
namespace Lm
open PySem PySem.Spec PyProof.Rows L2 LmR
abbrev oEnum (a : Addr) : Obj := { cls := .type "enumerate", data := .fields #[.none, .bool false, .ref a, rawInt 0, .none, .none] }
/-- enumerate(v): two new cells -/
theorem enum_new1 {v : Value} {o : Obj} {G : Heap → Prop} (B : Begins v o G) :
    Meets (Builtin.«enumerate.__new__» ⟨[.type "enumerate", v], []⟩) (fun _ R s => G s.heap ∧ R (.ok (.ret (.ref (s.heap.push o).objs.size))) { s with heap := (s.heap.push o).push (oEnum s.heap.objs.size) }) :=
  .of_wp fun prog w A R s hh => by
    obtain ⟨hp, g, d, tk, os⟩ := s
    obtain ⟨hG, hR⟩ := hh
    have hsub := sub_enumerate
    have go : ∀ {A' : Around} {E : Value → Shared → Prop} {Q : Value → Shared → Prop}, Q (.ref hp.objs.size) ⟨hp.push o, g, d, tk, os⟩ → wpAny (model prog w) A' (pyIter v) Q E ⟨hp, g, d, tk, os⟩ :=
      fun q => B.iter prog w _ _ _ _ hG q
    wp_walk using go
    refine wpAny_stack_any fun st => wpAny_pure ?_
    split
    · rename_i c _ _ _ _ _
      cases (c == Value.type "enumerate") <;> (wp_walk using go; exact ⟨_, rfl, hR⟩)
    · wp_walk using go
      exact ⟨_, rfl, hR⟩
theorem enum_call1 {prog : Program} {w : World} {A : Around} {E : Value → Shared → Prop} {s : Shared} {v : Value} {o : Obj} {G : Heap → Prop} {Q : Value → Shared → Prop} (B : Begins v o G) (hG : G s.heap)
    (hQ : ∀ h2, IsEnum h2 (s.heap.objs.size + 1) s.heap.objs.size 0 .none → h2.get? s.heap.objs.size = some o → (∀ b ob, s.heap.get? b = some ob → h2.get? b = some ob) → Q (.ref (s.heap.objs.size + 1)) { s with heap := h2 }) :
    wpAny (model prog w) A (call (.type "enumerate") [v]) Q E s := by
  refine callType_new F.called_enumerate (by decide) (F.typeCall_enumerate_1 _) (F.newCall_enumerate_1 _) (fun obj => F.args_object_init_2 obj _) F.entry_enumerate_new (enum_new1 B) ⟨hG, ?_⟩
  have z : (s.heap.push o).objs.size = s.heap.objs.size + 1 := Heap.size_push ..
  show _ ∧ _
  rw [z]
  have he : IsEnum ((s.heap.push o).push (oEnum s.heap.objs.size)) (s.heap.objs.size + 1) s.heap.objs.size 0 .none := by
    have y := Heap.get?_push_size (s.heap.push o) (o := oEnum s.heap.objs.size) rfl
    rw [z] at y
    exact y
  exact ⟨⟨_, he, rfl⟩, hQ _ he (Heap.get?_push_of_some _ (Heap.get?_push_size _ B.free)) fun b ob x => Heap.get?_push_of_some _ (Heap.get?_push_of_some _ x)⟩
theorem enum_over {prog : Program} {w : World} {A : Around} {E : Value → Shared → Prop} {s : Shared} {e it a : Addr} {i : Nat} {items : Array Value} {c : Int} {old : Value} {Q : Option Value → Shared → Prop} (hd : A.handled = none)
    (he : IsEnum s.heap e it c old) (hit : s.heap.IsTupleIter it a i) (ht : s.heap.IsTuple a items) (hx : items[i]? = none) (hQ : ∀ h2, Heap.ExtBut it s.heap h2 → Q none { s with heap := h2 }) : wpAny (model prog w) A (pyNext (.ref e)) Q E s := by
  have D : Draws prog w A.in1 it [it, a] i (fun _ _ => True) (fun j h => j = i ∧ h.IsTupleIter it a i ∧ h.IsTuple a items) :=
    { live := fun _ _ st => by obtain ⟨_, ⟨o, ho, _⟩, _⟩ := st; exact ⟨o, ho⟩
      frame := fun _ _ _ st hk => ⟨st.1, st.2.1.at fun o q => hk it (by simp) o q, st.2.2.at fun o q => hk a (by simp) o q⟩
      item := fun j s Q E hj st _ => absurd st.1 (Nat.ne_of_lt hj)
      done := fun s Q E st hE => wpAny_nextOf_tuple_end (by first | exact hd | (show A.in1.handled = none; exact hd)) st.2.1 st.2.2 hx hE }
  exact wpAny_pyNext_enum_endD D he ⟨rfl, hit, ht⟩ hQ
/-- the tuple at a: each item, its number ahead of it, in a new pair -/
def IteT (K : PySem.W.Frag) (a : Addr) : It :=
  ⟨fun i H => ∃ (xs : List V) (x : V), SqT K H a xs ∧ xs[i]? = some x,
    fun i H v H' => ∃ T x, v = .ref T ∧ H T = none ∧ H' = upd H T (.tup [.int (i : Nat), x]) ∧ ∀ xs, SqT K H a xs → xs[i]? = some x,
    fun i H => ∃ xs : List V, SqT K H a xs ∧ xs.length ≤ i⟩
theorem turn_enumT {P : Program} {w : World} {K : PySem.W.Frag} {elts : List Expr} {kk : Nat} {tpos : Pos} (a e it : Addr) :
    Turn P w K (.Tuple elts kk tpos) (IteT K a) [e, it] e (fun i h => (∃ old, IsEnum h e it ((i : Nat) : Int) old) ∧ h.IsTupleIter it a i ∧ e ≠ it ∧ a ≠ e ∧ a ≠ it) where
  mem := by simp
  obj := fun i h st b hb => by
    obtain ⟨⟨old, he⟩, ⟨o, ho, hc, hd⟩, _⟩ := st
    have e' : b = e ∨ b = it := by simpa using hb
    rcases e' with z | z
    · rw [z]; exact ⟨_, he, fun v q => nomatch q⟩
    · rw [z]; exact ⟨o, ho, fun v q => by rw [hd] at q; cases q⟩
  keep := fun i h h' st k => by
    obtain ⟨⟨old, he⟩, hi, r⟩ := st
    exact ⟨⟨old, k e (by simp) _ he⟩, hi.at fun o q => k it (by simp) o q, r⟩
  item := by
    intro X hP hw hK hc i pins s σ H E I hf st hg
    subst hP hw hK
    obtain ⟨⟨old, he⟩, hit, hne, hae, hai⟩ := st
    obtain ⟨xs, x, hq, hx⟩ := hg
    obtain ⟨its, rv, p, hz⟩ := I.tuple hq
    obtain ⟨u, hu, ru⟩ := rv.get hx
    have ht : s.heap.IsTuple a its.toArray := p
    have hel : e < s.heap.objs.size := Heap.lt_size he
    have hil : it < s.heap.objs.size := by obtain ⟨_, q, _⟩ := hit; exact Heap.lt_size q
    have D := Draws.tuple (prog := X.prog) (w := X.w) (A := X.A.in1) (I.ok.hd hc) it a hai its.toArray
    have hlt : i < its.toArray.size := by
      have z : i < its.length := (List.getElem?_eq_some_iff.mp hu).1
      simpa using z
    refine wpAny_pyNext_enum_itemD D he ⟨hit, ht⟩ hlt hne (by simp [hne, Ne.symm hae]) fun y h' tk hy ho hst hT hsz hk => ?_
    have ey : y = u := by
      have z : its[i]? = some y := by simpa using hy
      rw [hu] at z
      exact (Option.some.inj z).symm
    subst ey
    refine ⟨_, rfl, wpAny_letOwnedTupleGo_enum (s := { s with heap := h', toks := tk + 1 }) ho fun h'' he' sb => ?_⟩
    have hT2 : h''.get? s.heap.objs.size = some { cls := .type "tuple", data := .seq #[.int i tk, y] } := (sb.2 _ (Nat.ne_of_gt hel)).trans hT
    have new : ObjOk X.prog X.w (upd H s.heap.objs.size (.tup [.int (i : Nat), x])) h'' s.heap.objs.size (.tup [.int (i : Nat), x]) :=
      ⟨by show 2 ≤ sizeLine; decide, [.int i tk, y], .cons ⟨_, rfl⟩ (.cons ru .nil), ⟨_, hT2, rfl, _, rfl⟩⟩
    have I1 : Inv X pins σ (upd H s.heap.objs.size (.tup [.int (i : Nat), x])) { s with heap := h'', toks := tk + 1 } :=
      I.turnedNew (ch := [e, it]) (fun b ob hb q => (sb.2 b (fun z => hb (by simp [z]))).trans (hk b ob (fun z => hb (by simp [z])) (fun z => hb (by simp [z])) q)) hf (Nat.le_refl _) new
    have fr : H s.heap.objs.size = none := I.hok.fresh (Nat.le_refl _)
    refine ⟨.ref s.heap.objs.size, _, I1, rfl, ⟨_, x, rfl, fr, rfl, fun ys hy => by rw [I.tuple_inj hy hq]; exact hx⟩, ⟨⟨y, ?_⟩, hst.1.at fun o q => (sb.2 it (Ne.symm hne)).trans q, hne, hae, hai⟩, fun b hb => ?_⟩
    · have e1 : ((i + 1 : Nat) : Int) = (i : Int) + 1 := by omega
      rw [e1]; exact he'
    · have e' : b = e ∨ b = it := by simpa using hb
      have hb' : b < s.heap.objs.size := by rcases e' with z | z <;> rw [z] <;> assumption
      rw [upd_ne (Nat.ne_of_lt hb')]
      exact (hf b hb).1
  done := by
    intro X hP hw hK hc i pins s σ H E I hf st hg
    subst hP hw hK
    obtain ⟨⟨old, he⟩, hit, hne, hae, hai⟩ := st
    obtain ⟨xs, hq, hx⟩ := hg
    obtain ⟨its, rv, p, hz⟩ := I.tuple hq
    have ht : s.heap.IsTuple a its.toArray := p
    obtain ⟨f0, f1, f2, f3, f4, f5⟩ := hf it (by simp)
    have hl := rv.length
    have hT : s.TypeIs (.ref e) "enumerate" := ⟨_, he, rfl⟩
    refine enum_over (I.ok.hd hc) he hit ht (by simp; omega) fun h' eb => ⟨rfl, I.turned (t' := s.toks) (fun b o hb q => eb b o hb q) f0 f1 f3 f4 f5⟩
  self := fun A i s Q E st h => by
    obtain ⟨⟨_, he⟩, _⟩ := st
    exact wpAny_pyIter_enum he h
def iEnumT (K : PySem.W.Frag) (ta : TA) : TI := fun σ H R => ta σ H fun vs H1 => ∃ a xs, vs = [.ref a] ∧ SqT K H1 a xs ∧ R (IteT K a) H1
theorem pi_enumT {X : Cx} {e : Expr} {ta : TA} {p pos tpos : Pos} {elts : List Expr} {kk : Nat} (hg : Gl X "enumerate") (hm : X.mg "enumerate" = none) (ha : PA X [e] ta) (hs : starEach [e] X.env = [(false, eval e X.env)] := by rfl) :
    PI X (.Tuple elts kk tpos) (.Call (.Name "enumerate" p) [e] [] pos) (iEnumT X.K ta) := by
  refine ⟨fun pins s σ H R I h => ?_⟩
  refine Call_ (ld_blt I hg hm boot_enumerate (PyProof.Rows.callWith_type1 (thn (ha.run pos pins s σ H _ I h) fun us s1 ⟨vs, H1, I1, r1, q1⟩ => ?_) hs rfl))
  obtain ⟨a, xs, ex, hq, q⟩ := q1
  subst ex
  cases r1 with
  | cons r rr =>
    cases rr
    cases r
    obtain ⟨its, rv, pt, hz⟩ := I1.tuple hq
    have ht : s1.heap.IsTuple a its.toArray := pt
    have hal : a < s1.heap.objs.size := by obtain ⟨_, q, _⟩ := ht; exact Heap.lt_size q
    refine enum_call1 (begins_tuple a its.toArray) ht fun h2 he hit hk => wpAny_pyIter_enum he ?_
    have I2 : Inv X pins σ H1 { s1 with heap := h2 } := I1.kept (t' := s1.toks) hk
    refine ⟨s1.heap.objs.size + 1, [s1.heap.objs.size + 1, s1.heap.objs.size], _, _, H1, rfl, I2, turn_enumT a (s1.heap.objs.size + 1) s1.heap.objs.size, ⟨⟨.none, he⟩, ⟨_, hit, rfl, rfl⟩, Nat.succ_ne_self _, Nat.ne_of_lt (Nat.lt_succ_of_lt hal), Nat.ne_of_lt hal⟩, fun b hb => ?_, q⟩
    have e' : b = s1.heap.objs.size + 1 ∨ b = s1.heap.objs.size := by simpa using hb
    have hle : s1.heap.objs.size ≤ b := by rcases e' with z | z <;> rw [z] <;> first | exact Nat.le_succ _ | exact Nat.le_refl _
    exact I1.fpOk hle (I1.hok.fresh hle)
end Lm

set_option Elab.async false
set_option linter.all false
set_option maxRecDepth 100000
set_option maxHeartbeats 2000000
namespace Lm
open PySem PySem.Spec PyProof.Rows L2 LmR
/-! ### defs that may refuse -/
def CalX (P : Program) (w : World) (K : PySem.W.Frag) (mg : Str → Option Value) (base : Heap) (k : Nat) (x : Str) (ps : List Str) (sp : Sp) : Prop :=
  ∃ f fd, FnOk P w K mg base (L2.CX P w) k f fd ps sp ∧ mg x = some (.ref f) ∧ PySem.W.keepIn K (.ref f) = true ∧ Binds K fd ps [] ∧ ∃ st, Fun K x x st f fd
section
variable {P : Program} {w : World} {K : PySem.W.Frag} {mg : Str → Option Value} {base : Heap}
theorem calx_of {x : Str} {st : Stmt} {N ps : List Str} {k : Nat} {sp : Sp} (D : DefAt K mg x st ps) (S : FnScope N ps (defScope st)) (len : ∀ vs H Q E, sp vs H Q E → vs.length = ps.length)
    (hbody : ∀ (f : Addr) (cdv : Value) (A : Around) (outer : List Env) (s : Shared) (H : Hp) (vs : List V) (Q : VK) (E : XK), Room k (A.deeper (envOfC x (defScope st) s.heap.objs.size f cdv)) → sp vs H Q E →
      ∃ t, PSs (cxOf (L2.CX P w) P w K mg base N x (defScope st) f cdv A outer s H E) (defBody st) t ∧ t { nx := fun _ H' => Q .non H', rt := Q } (start N vs) H) : CalX P w K mg base (k + 1) x ps sp := by
  obtain ⟨f, fd, F, b, g⟩ := D
  exact ⟨f, fd, F.okX S len (hbody f), g, F.kp, b, _, F⟩
end
theorem pe_calX {X : Cx} {W : WX} {k : Nat} {x : Str} {ps : List Str} {sp : Sp} {e : Expr} {es : List Expr} {t : TA} {p pos : Pos} (C : CalX X.prog X.w X.K X.mg X.base k x ps sp) (tk : Takes X W) (hr : Room k X.A) (hg : Gl X x) (ha : PA X (e :: es) t)
    (hdb : (x == ("__debug__" : Str)) = false := by decide) (he : starEach (e :: es) X.env = (false, eval e X.env) :: starEach es X.env := by rfl) (hpl : (backTo pos (starEach es X.env)).any (·.1) = false := by rfl) :
    PE X (.Call (.Name x p) (e :: es) [] pos) (tCallS sp (WE W) t) := by
  obtain ⟨f, fd, F, g, kp, b, _⟩ := C
  exact pe_callS F hr hg g kp b (fun σ => passAt tk σ) ha hdb he hpl
/-! ### classes of refusals -/
/-- the class x at C, its __init__ (st) keeps the fields fs -/
structure Rf (K : PySem.W.Frag) (mg : Str → Option Value) (x q : Str) (C fI : Addr) (fd : FuncData) (st : Stmt) (fs : List Str) : Prop where
  g : mg x = some (.ref C)
  o : OexC K C
  f : XfC K C
  k : ExK K C
  te : PySem.W.exmOne K (.ref C) (.ref C) = some true
  fld : ∀ n ∈ fs, PySem.W.findIn K (.ref C) n = some none
  iC : PySem.W.findIn K (.ref C) "__init__" = some (some (.ref fI))
  tI : PySem.W.typeIn K (.ref fI) = some (.type "function")
  F : Fun K "__init__" q st fI fd
  b : Binds K fd ("self" :: fs) []
/-- __init__(self, f, g) -/
def spIni2 (C : Addr) (f g : Str) : Sp := fun vs H Q E => ∃ a x y, vs = [.ref a, x, y] ∧ H a = some (exo a C none) ∧
  ∀ (d : Addr) (H' : Hp), H d = none → H' a = some (exo a C (some d)) → H' d = some (exd d [(g, y), (f, x)]) → (∀ b, b ≠ a → b ≠ d → H' b = H b) → Q .non H'
def spIni1 (C : Addr) (f : Str) : Sp := fun vs H Q E => ∃ a x, vs = [.ref a, x] ∧ H a = some (exo a C none) ∧
  ∀ (d : Addr) (H' : Hp), H d = none → H' a = some (exo a C (some d)) → H' d = some (exd d [(f, x)]) → (∀ b, b ≠ a → b ≠ d → H' b = H b) → Q .non H'
/-- what refusing leaves: the fields at d, all else as it was -/
def Raised (H H' : Hp) (d : Addr) (fs : List (Str × V)) : Prop := H d = none ∧ H' d = some (.xd fs) ∧ ∀ b, b ≠ d → H' b = H b
theorem Raised.same {H H' : Hp} {d : Addr} {fs : List (Str × V)} (r : Raised H H' d fs) : Same H H' := fun b o e => by
  have n : b ≠ d := fun z => by rw [z, r.1] at e; cases e
  rw [r.2.2 b n]; exact e
theorem mk_two {C : Addr} {f g : Str} {x y : V} {H : Hp} {Q : XK} (hq : ∀ d H', Raised H H' d [(g, y), (f, x)] → Q (.ref C) (some d) H') :
    [x, y].length ≤ 1000 ∧ ∀ a, H a = none → spIni2 C f g (.ref a :: ([x, y] ++ [])) (upd H a (exo a C none))
      (fun v H2 => v = .non ∧ ∃ (d : Addr) (fs : List (Str × V)), H2 a = some (exo a C (some d)) ∧ H2 d = some (exd d fs) ∧ H d = none ∧ Q (.ref C) (some d) (upd (del H2 a) d (.xd fs))) (fun _ _ _ => False) := by
  refine ⟨by show 2 ≤ 1000; decide, fun a ha => ⟨a, x, y, rfl, upd_same, fun d H' hd h1 h2 h3 => ⟨rfl, d, _, h1, h2, ?_, hq d _ ⟨?_, upd_same, fun b hb => ?_⟩⟩⟩⟩
  all_goals
    have nd : d ≠ a := fun z => by rw [z, upd_same] at hd; cases hd
  · rw [upd_ne nd] at hd; exact hd
  · rw [upd_ne nd] at hd; exact hd
  · rw [upd_ne hb]
    by_cases z : b = a
    · rw [z, del_same, ha]
    · rw [del_ne z, h3 b z hb, upd_ne z]
theorem mk_one {C : Addr} {f : Str} {x : V} {H : Hp} {Q : XK} (hq : ∀ d H', Raised H H' d [(f, x)] → Q (.ref C) (some d) H') :
    [x].length ≤ 1000 ∧ ∀ a, H a = none → spIni1 C f (.ref a :: ([x] ++ [])) (upd H a (exo a C none))
      (fun v H2 => v = .non ∧ ∃ (d : Addr) (fs : List (Str × V)), H2 a = some (exo a C (some d)) ∧ H2 d = some (exd d fs) ∧ H d = none ∧ Q (.ref C) (some d) (upd (del H2 a) d (.xd fs))) (fun _ _ _ => False) := by
  refine ⟨by show 1 ≤ 1000; decide, fun a ha => ⟨a, x, rfl, upd_same, fun d H' hd h1 h2 h3 => ⟨rfl, d, _, h1, h2, ?_, hq d _ ⟨?_, upd_same, fun b hb => ?_⟩⟩⟩⟩
  all_goals
    have nd : d ≠ a := fun z => by rw [z, upd_same] at hd; cases hd
  · rw [upd_ne nd] at hd; exact hd
  · rw [upd_ne nd] at hd; exact hd
  · rw [upd_ne hb]
    by_cases z : b = a
    · rw [z, del_same, ha]
    · rw [del_ne z, h3 b z hb, upd_ne z]
theorem pass_no {X : Cx} : Passes (L2.CX X.prog X.w) X (fun _ _ _ => False) := fun _ _ _ _ _ _ _ c => by
  obtain ⟨_, _, _, _, _, _, _, _, _, _, _, _, z⟩ := c
  exact z.elim
/-- raise x(e, ..) -/
theorem ps_ref {X : Cx} {W : WX} {x q : Str} {C fI : Addr} {fd : FuncData} {st : Stmt} {fs : List Str} {sp : Sp} {k : Nat} {e : Expr} {es : List Expr} {ta : TA} {p pos pos' : Pos} (R : Rf X.K X.mg x q C fI fd st fs) (F : FnOk X.prog X.w X.K X.mg X.base (L2.CX X.prog X.w) k fI fd ("self" :: fs) sp) (hr : Room (k + 1) X.A)
    (hc : X.calm = true) (tk : Takes X W) (hg : Gl X x) (ha : PA X (e :: es) ta)
    (hdb : (x == ("__debug__" : Str)) = false := by decide) (he : starEach (e :: es) X.env = (false, eval e X.env) :: starEach es X.env := by rfl) (hpl : (backTo pos (starEach es X.env)).any (·.1) = false := by rfl) :
    PS X (.Raise (some (.Call (.Name x p) (e :: es) [] pos)) none pos') (fun _ σ H => tMkO C sp [] ta σ H fun cls d H' => W cls d σ H') :=
  ps_raise hc tk (pmk_oex R.o R.iC R.tI F hr R.b .nil pass_no hg R.g ha hdb he hpl)
end Lm
namespace Lm
open PySem PySem.Spec PyProof.Rows L2 LmR
/-! ### x not in a tuple of texts, x any flat data -/
def strIn (ss : List Str) : PyData → Bool
  | .str s => ss.any fun y => y == s
  | _ => false
def rNotInD (K : PySem.W.Frag) : R2 := fun x y H Q => ∃ (p : Addr) (ss : List Str) (d : PyData), y = .ref p ∧ SqT K H p (ss.map V.str) ∧ Fd K H x d ∧ Q (.bl (!strIn ss d)) H
theorem all_str : ∀ ss : List Str, (ss.map V.str).all flatV = true
  | [] => rfl
  | _ :: ss => by rw [List.map_cons, List.all_cons, all_str ss]; rfl
theorem inV_str (ss : List Str) (x : V) (d : PyData) (h : ∀ y : Str, eqV (.str y) x = strIn [y] d) : inV x (ss.map V.str) = strIn ss d := by
  unfold inV
  induction ss with
  | nil => cases d <;> rfl
  | cons s ss ih =>
    rw [List.map_cons, List.any_cons, ih, h s]
    cases d with
    | str z => simp [strIn]
    | _ => rfl
theorem op_notInD {X : Cx} {K : PySem.W.Frag} (hK : X.K = K) (hu : X.A.units + 1 < cLine) : OpR X (compareOp .NotIn) (rNotInD K) := by
  subst hK
  intro pins s σ H x y v u Q I rx ry h
  obtain ⟨p, ss, d, rfl, hq, ⟨fd, hd⟩, q⟩ := h
  by_cases ht : ∃ ds, d = .tuple ds
  · obtain ⟨ds, rfl⟩ := ht
    cases hd with
    | tup qa r =>
      rename_i a vs
      cases rx
      cases ry
      obtain ⟨its, rv, pl, hz⟩ := I.tuple hq
      obtain ⟨itz, rz, plz, hzz⟩ := I.tuple qa
      refine SeqAt.notIn_tupleAt (fun _ => false) pl (fun w hw => ?_) ⟨.bl _, H, I, rfl, ?_⟩
      · have hw' : w ∈ its := by simpa using hw
        have st : ∀ (ss : List Str) (its : List Value), Vals (ss.map V.str) its → ∀ w ∈ its, ∃ b t, w = .str b t := by
          intro ss
          induction ss with
          | nil => intro its r w hw; cases r; cases hw
          | cons z ss ih =>
            intro its r w hw
            cases r with
            | cons ra rb =>
              rcases List.mem_cons.mp hw with e | e
              · obtain ⟨t, et⟩ := ra
                exact ⟨z, t, e.trans et⟩
              · exact ih _ rb w e
        obtain ⟨b, t, rfl⟩ := st ss its rv w hw'
        exact SeqAt.EqAt.str_tuple b t plz (by first | exact hu | (show X.A.units + 1 < cLine; exact hu) | (have := hu; omega))
      · have e : (!(its.toArray.any fun _ => false)) = !strIn ss (.tuple ds) := by simp [strIn]
        rw [e]
        exact q
  · have fx : flatV x = true ∧ ∀ y : Str, eqV (.str y) x = strIn [y] d := by
      cases hd with
      | non => exact ⟨rfl, fun _ => rfl⟩
      | bl b => exact ⟨rfl, fun _ => rfl⟩
      | int i => exact ⟨rfl, fun _ => rfl⟩
      | str z => exact ⟨rfl, fun y => by simp [strIn, eqV]⟩
      | lst q r => simp [flat] at fd
      | tup q r => exact absurd ⟨_, rfl⟩ ht
    refine op_notIn_seq pins s σ H x _ v u Q I rx ry ⟨p, _, rfl, .inr hq, fx.1, all_str ss, ?_⟩
    rw [if_pos rfl, inV_str ss x d fx.2]
    exact q
/-! ### for i, x in enumerate(tuple) -/
theorem for_enumT {K : PySem.W.Frag} {a : Addr} {xs : List V} {g : TG} {tb : TS} {D : Ends} {σ : L2.St} {H : Hp} (Pv : Nat → L2.St → Hp → Prop) (h0 : Pv 0 σ H) (hq : ∀ i σ H, Pv i σ H → SqT K H a xs)
    (hstep : ∀ i x σ H T, xs[i]? = some x → Pv i σ H → H T = none → g (.ref T) σ (upd H T (.tup [.int (i : Nat), x])) fun σ2 H2 => tb { D with nx := Pv (i + 1), ct := Pv (i + 1), bk := D.nx } σ2 H2)
    (hend : ∀ σ H, Pv xs.length σ H → D.nx σ H) :
    ∃ W : Nat → Nat → L2.St → Hp → Prop, (∃ m, W 0 m σ H) ∧ ∀ i m σ H, W i m σ H →
      ((IteT K a).stop i H ∧ D.nx σ H) ∨ ((IteT K a).go i H ∧ ∃ N : L2.St → Hp → Prop, (∀ σ' H', N σ' H' → ∃ m', m' < m ∧ W (i + 1) m' σ' H') ∧ ∀ x H', (IteT K a).yld i H x H' → g x σ H' fun σ2 H2 => tb { D with nx := N, ct := N, bk := D.nx } σ2 H2) := by
  refine ⟨fun i m σ H => i ≤ xs.length ∧ m = xs.length - i ∧ Pv i σ H, ⟨_, Nat.zero_le _, rfl, h0⟩, fun i m σ H ⟨hi, hm, hp⟩ => ?_⟩
  have hs := hq i σ H hp
  rcases Nat.lt_or_ge i xs.length with hlt | hge
  · obtain ⟨x, hx⟩ : ∃ x, xs[i]? = some x := ⟨xs[i], List.getElem?_eq_getElem hlt⟩
    refine .inr ⟨⟨xs, x, hs, hx⟩, Pv (i + 1), fun σ' H' h' => ⟨xs.length - (i + 1), by omega, hlt, rfl, h'⟩, ?_⟩
    rintro y H' ⟨T, z, rfl, hT, rfl, hz⟩
    have e := hz xs hs
    rw [hx] at e
    cases e
    exact hstep i x σ H T hx hp hT
  · have e : i = xs.length := Nat.le_antisymm hi hge
    refine .inl ⟨⟨xs, hs, hge⟩, hend σ H (e ▸ hp)⟩
/-- the defs within a class -/
def clsBody : Stmt → List Stmt
  | .ClassDef _ _ _ b _ _ _ _ _ _ _ => b
  | _ => []
end Lm
namespace Lm
open PySem PySem.Spec PyProof.Rows L2 LmR
/-- isinstance(e, c), e the exception at a, of the class at C, its fields at dd -/
def rIsX (K : PySem.W.Frag) (C a dd : Addr) : List V → Hp → VK → Prop := fun xs H Q => ∃ (D : Addr) (b : Bool), xs = [.ref a, .ref D] ∧ PySem.W.kitOne K (.ref C) (.ref D) = some b ∧ (∃ fs, H dd = some (.xd fs)) ∧ Q (.bl b) H
theorem call_isX {X : Cx} {a C dd : Addr} {oe : Obj} (k : ExK X.K C) (hz : Zc (.ref C) (some dd) oe) (hf : ∃ vs, oe.data = .fields vs) (hp : (a, oe) ∈ X.pn) : CallR X (.builtin "isinstance") (rIsX X.K C a dd) := by
  intro pins s σ H xs us Q I r h
  obtain ⟨D, b, rfl, e, ⟨fs, ea⟩, q⟩ := h
  obtain ⟨u1, u2, rfl, r1, r2⟩ := vals2 r
  cases (show u1 = Value.ref a from r1)
  cases (show u2 = Value.ref D from r2)
  obtain ⟨ha, _⟩ := I.pin (a, oe) (List.mem_append_left _ hp)
  obtain ⟨vs, hd⟩ := hf
  have hx : ObjOk X.prog X.w H s.heap dd (.xd fs) := I.hok dd _ ea
  obtain ⟨mA, hns, hr⟩ := hx
  obtain ⟨od, ho, hl⟩ := lookIn_ns hns
  have J : PySem.W.InstAt s.heap a oe C (some od) := ⟨ha, hz.1, by unfold PySem.W.notCls; rw [hd] <;> rfl, by rw [hz.2]; exact ho⟩
  exact PySem.W.kia_one (PySem.W.kitx_exc k.cl k.ga k.gg k.ex k.ca k.gn k.tk k.ob) I.kIn J e (fun z => nomatch z) fun tk => ⟨.bl b, H, I.tok tk, rfl, q⟩
/-- the twelve classes, and of which of them the class at C is -/
structure Srt (K : PySem.W.Frag) (mg : Str → Option Value) (C : Addr) (c1 c2 c3 c4 c5 c6 c7 c8 c9 c10 c11 c12 : Addr) (b1 b2 b3 b4 b5 b6 b7 b8 b9 b10 b11 b12 : Bool) : Prop where
  g1 : mg "NoHead" = some (.ref c1)
  g2 : mg "NoProgram" = some (.ref c2)
  g3 : mg "NoText" = some (.ref c3)
  g4 : mg "NoStock" = some (.ref c4)
  g5 : mg "NoAnswer" = some (.ref c5)
  g6 : mg "NoInputs" = some (.ref c6)
  g7 : mg "Clash" = some (.ref c7)
  g8 : mg "NoRow" = some (.ref c8)
  g9 : mg "NoQuestion" = some (.ref c9)
  g10 : mg "NoDoer" = some (.ref c10)
  g11 : mg "NotKept" = some (.ref c11)
  g12 : mg "NoName" = some (.ref c12)
  k1 : PySem.W.kitOne K (.ref C) (.ref c1) = some b1
  k2 : PySem.W.kitOne K (.ref C) (.ref c2) = some b2
  k3 : PySem.W.kitOne K (.ref C) (.ref c3) = some b3
  k4 : PySem.W.kitOne K (.ref C) (.ref c4) = some b4
  k5 : PySem.W.kitOne K (.ref C) (.ref c5) = some b5
  k6 : PySem.W.kitOne K (.ref C) (.ref c6) = some b6
  k7 : PySem.W.kitOne K (.ref C) (.ref c7) = some b7
  k8 : PySem.W.kitOne K (.ref C) (.ref c8) = some b8
  k9 : PySem.W.kitOne K (.ref C) (.ref c9) = some b9
  k10 : PySem.W.kitOne K (.ref C) (.ref c10) = some b10
  k11 : PySem.W.kitOne K (.ref C) (.ref c11) = some b11
  k12 : PySem.W.kitOne K (.ref C) (.ref c12) = some b12
def Sorts (K : PySem.W.Frag) (mg : Str → Option Value) (C : Addr) (bs : List Bool) : Prop := ∃ c1 c2 c3 c4 c5 c6 c7 c8 c9 c10 c11 c12 b1 b2 b3 b4 b5 b6 b7 b8 b9 b10 b11 b12,
  Srt K mg C c1 c2 c3 c4 c5 c6 c7 c8 c9 c10 c11 c12 b1 b2 b3 b4 b5 b6 b7 b8 b9 b10 b11 b12 ∧ bs = [b1, b2, b3, b4, b5, b6, b7, b8, b9, b10, b11, b12]
def spSorts (C a : Addr) (cls : Value) (d : Option Addr) (bs : List Bool) : Sp := fun vs H Q _ => vs = [.ref a] ∧ cls = .ref C ∧ ∃ dd fs, d = some dd ∧ H dd = some (.xd fs) ∧ ∀ H' l, Same H H' → H' l = some (.lst (bs.map V.bl)) → Q (.ref l) H'
end Lm

set_option Elab.async false
set_option linter.all false
set_option maxRecDepth 100000
set_option maxHeartbeats 2000000
namespace Lm
open PySem PySem.Spec PyProof.Rows L2 LmR
theorem call_isiK {X : Cx} {K : PySem.W.Frag} (h : X.K = K) : CallR X (.builtin "isinstance") (rIsi K) := h ▸ call_isi
theorem walk_enumT {K : PySem.W.Frag} {a : Addr} {xs : List V} : Walk (IteT K a) xs.length (fun H => SqT K H a xs) (YPair (fun i => some (.int (i : Nat))) (fun i => xs[i]?)) := by
  refine ⟨fun i H hi q => ⟨xs, xs[i], q, by simp [hi]⟩, fun H q => ⟨xs, q, Nat.le_refl _⟩, fun i H x H' hi q y => ?_⟩
  obtain ⟨T, z, h1, h2, h3, h4⟩ := y
  exact ⟨T, _, z, h1, h2, h3, rfl, h4 xs q⟩
end Lm

set_option Elab.async false
set_option linter.all false
set_option maxRecDepth 100000
set_option maxHeartbeats 2000000
namespace Lm
open PySem PySem.Spec PyProof.Rows L2 LmR
/-! ### closed bounds: places 0 .. m, a row (a, b, c) says that x of a is at most x of b and c -/
abbrev Mat := Nat → Nat → Option Int
abbrev Edge := Nat × Nat × Int
inductive Wlk (R : List Edge) : Nat → Nat → Int → Prop where
  | nil (a : Nat) : Wlk R a a 0
  | cons {a b c : Nat} {w t : Int} (h : (a, c, w) ∈ R) (r : Wlk R c b t) : Wlk R a b (w + t)
theorem Wlk.mono {R R' : List Edge} {a b : Nat} {t : Int} (h : Wlk R a b t) (s : ∀ e ∈ R, e ∈ R') : Wlk R' a b t := by
  induction h with
  | nil a => exact .nil a
  | cons h _ ih => exact .cons (s _ h) ih
theorem Wlk.app {R : List Edge} {a b c : Nat} {s t : Int} (h : Wlk R a b s) (r : Wlk R b c t) : Wlk R a c (s + t) := by
  induction h with
  | nil a => rw [Int.zero_add]; exact r
  | cons h _ ih => rw [Int.add_assoc]; exact .cons h (ih r)
theorem Wlk.one {R : List Edge} {a b : Nat} {w : Int} (h : (a, b, w) ∈ R) : Wlk R a b w := by
  have z := Wlk.cons h (.nil b)
  rw [Int.add_zero] at z
  exact z
def leO (o : Option Int) (z : Int) : Prop := ∃ d, o = some d ∧ d ≤ z
theorem leO.le {o : Option Int} {x y : Int} (h : leO o x) (l : x ≤ y) : leO o y := by
  obtain ⟨d, e, q⟩ := h
  exact ⟨d, e, by omega⟩
def lesserF (old : Option Int) (way : Int) (more : Option Int) : Option Int := match more with
  | none => old
  | some m => match old with
    | none => some (way + m)
    | some o => if o ≤ way + m then some o else some (way + m)
def leB (o : Option Int) (c : Int) : Bool := match o with
  | some t => decide (t ≤ c)
  | none => false
def ltB (o : Option Int) (c : Int) : Bool := match o with
  | some t => decide (t + c < 0)
  | none => false
theorem leB_tt {o : Option Int} {c : Int} (h : leB o c = true) : leO o c := by
  cases o with
  | none => cases h
  | some t => exact ⟨t, rfl, of_decide_eq_true h⟩
def knownF (D : Mat) (i j : Nat) (c : Int) : Option Bool :=
  if leB (D i j) c = true then some true else if ltB (D j i) c = true then some false else none
def stepF (D : Mat) (i j : Nat) (c : Int) : Mat := fun a b => match D a i with
  | none => D a b
  | some w => lesserF (D a b) (w + c) (D j b)
def tightF (D : Mat) (i j : Nat) (c : Int) : Option Mat := match knownF D i j c with
  | some true => some D
  | some false => none
  | none => some (stepF D i j c)
def openF : Mat := fun a b => if a = b then some 0 else none
def closedF : List Edge → Mat → Option Mat
  | [], D => some D
  | (i, j, c) :: R, D => match tightF D i j c with
    | none => none
    | some D' => closedF R D'
structure Clo (R : List Edge) (m : Nat) (D : Mat) : Prop where
  ed : ∀ e ∈ R, e.1 ≤ m ∧ e.2.1 ≤ m
  w : ∀ a b d, D a b = some d → Wlk R a b d
  z : ∀ a, a ≤ m → D a a = some 0
  t : ∀ a b c x y, a ≤ m → b ≤ m → c ≤ m → D a c = some x → D c b = some y → leO (D a b) (x + y)
  e : ∀ e ∈ R, leO (D e.1 e.2.1) e.2.2
theorem clo_open (m : Nat) : Clo [] m openF := by
  refine ⟨fun e h => absurd h (by simp), fun a b d h => ?_, fun a _ => if_pos rfl, fun a b c x y _ _ _ h1 h2 => ?_, fun e h => absurd h (by simp)⟩
  · unfold openF at h
    split at h
    · rename_i e; cases h; rw [e]; exact .nil _
    · cases h
  · unfold openF at h1 h2 ⊢
    split at h1
    · rename_i e1
      split at h2
      · rename_i e2; cases h1; cases h2; exact ⟨0, if_pos (e1.trans e2), by decide⟩
      · cases h2
    · cases h1
theorem Clo.walk {R : List Edge} {m : Nat} {D : Mat} (C : Clo R m D) {a b : Nat} {t : Int} (h : Wlk R a b t) (hb : b ≤ m) (ha : a ≤ m) : leO (D a b) t := by
  induction h with
  | nil a => exact ⟨0, C.z a ha, Int.le_refl _⟩
  | cons h _ ih =>
    have hc := C.ed _ h
    obtain ⟨y, ey, ly⟩ := ih hb hc.2
    obtain ⟨x, ex, lx⟩ := C.e _ h
    exact (C.t _ _ _ _ _ hc.1 hb hc.2 ex ey).le (by simp only at lx; omega)
theorem Clo.noneg {R : List Edge} {m : Nat} {D : Mat} (C : Clo R m D) {a : Nat} {t : Int} (h : Wlk R a a t) (ha : a ≤ m) : 0 ≤ t := by
  obtain ⟨d, e, l⟩ := C.walk h ha ha
  rw [C.z a ha] at e
  cases e
  exact l
theorem lesser_le {o : Option Int} {w : Int} {m : Option Int} {d : Int} (h : o = some d) : leO (lesserF o w m) d := by
  subst h
  cases m with
  | none => exact ⟨d, rfl, Int.le_refl _⟩
  | some m =>
    show leO (if d ≤ w + m then some d else some (w + m)) d
    split
    · exact ⟨d, rfl, Int.le_refl _⟩
    · exact ⟨_, rfl, by omega⟩
theorem lesser_via {o : Option Int} {w : Int} {m : Option Int} {y : Int} (h : m = some y) : leO (lesserF o w m) (w + y) := by
  subst h
  cases o with
  | none => exact ⟨_, rfl, Int.le_refl _⟩
  | some d =>
    show leO (if d ≤ w + y then some d else some (w + y)) (w + y)
    split
    · exact ⟨d, rfl, by assumption⟩
    · exact ⟨_, rfl, Int.le_refl _⟩
theorem lesser_eq {o : Option Int} {w : Int} {m : Option Int} {d : Int} (h : lesserF o w m = some d) : o = some d ∨ ∃ y, m = some y ∧ d = w + y := by
  cases m with
  | none => exact .inl h
  | some y =>
    cases o with
    | none => cases h; exact .inr ⟨y, rfl, rfl⟩
    | some x =>
      have h' : (if x ≤ w + y then some x else some (w + y)) = some d := h
      split at h'
      · exact .inl h'
      · cases h'; exact .inr ⟨y, rfl, rfl⟩
theorem step_le {D : Mat} {i j : Nat} {c : Int} {a b : Nat} {d : Int} (h : D a b = some d) : leO (stepF D i j c a b) d := by
  unfold stepF
  cases D a i with
  | none => exact ⟨d, h, Int.le_refl _⟩
  | some w => exact lesser_le h
theorem step_via {D : Mat} {i j : Nat} {c : Int} {a b : Nat} {x y : Int} (h1 : D a i = some x) (h2 : D j b = some y) : leO (stepF D i j c a b) (x + c + y) := by
  unfold stepF
  rw [h1]
  exact lesser_via h2
theorem step_eq {D : Mat} {i j : Nat} {c : Int} {a b : Nat} {d : Int} (h : stepF D i j c a b = some d) : D a b = some d ∨ ∃ x y, D a i = some x ∧ D j b = some y ∧ d = x + c + y := by
  unfold stepF at h
  cases e : D a i with
  | none => rw [e] at h; exact .inl h
  | some w =>
    rw [e] at h
    rcases lesser_eq h with z | ⟨y, z, q⟩
    · exact .inl z
    · exact .inr ⟨w, y, rfl, z, q⟩
theorem known_no {D : Mat} {i j : Nat} {c : Int} (h : knownF D i j c = none) : ∀ b, D j i = some b → 0 ≤ b + c := by
  intro b hb
  unfold knownF at h
  by_cases h1 : leB (D i j) c = true
  · rw [if_pos h1] at h; cases h
  · rw [if_neg h1] at h
    by_cases h2 : ltB (D j i) c = true
    · rw [if_pos h2] at h; cases h
    · rw [hb] at h2
      have h3 : ¬ decide (b + c < 0) = true := h2
      simp only [decide_eq_true_eq] at h3
      omega
theorem known_tt {D : Mat} {i j : Nat} {c : Int} (h : knownF D i j c = some true) : leO (D i j) c := by
  unfold knownF at h
  by_cases h1 : leB (D i j) c = true
  · exact leB_tt h1
  · rw [if_neg h1] at h
    by_cases h2 : ltB (D j i) c = true
    · rw [if_pos h2] at h; cases h
    · rw [if_neg h2] at h; cases h
theorem known_ff {D : Mat} {i j : Nat} {c : Int} (h : knownF D i j c = some false) : ∃ b, D j i = some b ∧ b + c < 0 := by
  unfold knownF at h
  by_cases h1 : leB (D i j) c = true
  · rw [if_pos h1] at h; cases h
  · rw [if_neg h1] at h
    by_cases h2 : ltB (D j i) c = true
    · cases e : D j i with
      | none => rw [e] at h2; cases h2
      | some t => rw [e] at h2; exact ⟨t, rfl, of_decide_eq_true h2⟩
    · rw [if_neg h2] at h; cases h
theorem Clo.tight {R : List Edge} {m : Nat} {D : Mat} (C : Clo R m D) {i j : Nat} {c : Int} (hi : i ≤ m) (hj : j ≤ m) {D' : Mat} (h : tightF D i j c = some D') : Clo (R ++ [(i, j, c)]) m D' := by
  have sub : ∀ e ∈ R, e ∈ R ++ [(i, j, c)] := fun e he => List.mem_append_left _ he
  have ed : ∀ e ∈ R ++ [(i, j, c)], e.1 ≤ m ∧ e.2.1 ≤ m := fun e he => by
    rcases List.mem_append.mp he with z | z
    · exact C.ed e z
    · rw [List.mem_singleton.mp z]; exact ⟨hi, hj⟩
  unfold tightF at h
  split at h
  · rename_i hk
    cases h
    refine ⟨ed, fun a b d q => (C.w a b d q).mono sub, C.z, C.t, fun e he => ?_⟩
    rcases List.mem_append.mp he with z | z
    · exact C.e e z
    · rw [List.mem_singleton.mp z]; exact known_tt hk
  · cases h
  · rename_i hk
    cases h
    have nn := known_no hk
    refine ⟨ed, fun a b d q => ?_, fun a ha => ?_, fun a b k x y ha hb hk' hx hy => ?_, fun e he => ?_⟩
    · rcases step_eq q with z | ⟨x, y, hx, hy, rfl⟩
      · exact (C.w a b d z).mono sub
      · have h1 := (C.w _ _ _ hx).mono sub
        have h2 := (C.w _ _ _ hy).mono sub
        have h3 := (h1.app (Wlk.one (List.mem_append_right R (List.mem_singleton.mpr rfl)))).app h2
        exact h3
    · obtain ⟨d, e, l⟩ := step_le (i := i) (j := j) (c := c) (C.z a ha)
      rcases step_eq e with z | ⟨x, y, hx, hy, rfl⟩
      · rw [C.z a ha] at z; cases z; exact e
      · obtain ⟨b, hb, lb⟩ := C.t j i a _ _ hj hi ha hy hx
        have := nn b hb
        have z : x + c + y = 0 := by omega
        rw [z] at e
        exact e
    · rcases step_eq hx with zx | ⟨x1, y1, hx1, hy1, rfl⟩
      · rcases step_eq hy with zy | ⟨x2, y2, hx2, hy2, rfl⟩
        · obtain ⟨d, e, l⟩ := C.t a b k _ _ ha hb hk' zx zy
          exact (step_le e).le l
        · obtain ⟨d, e, l⟩ := C.t a i k _ _ ha hi hk' zx hx2
          exact (step_via e hy2).le (by omega)
      · rcases step_eq hy with zy | ⟨x2, y2, hx2, hy2, rfl⟩
        · obtain ⟨d, e, l⟩ := C.t j b k _ _ hj hb hk' hy1 zy
          exact (step_via hx1 e).le (by omega)
        · obtain ⟨d, e, l⟩ := C.t j i k _ _ hj hi hk' hy1 hx2
          have := nn d e
          exact (step_via hx1 hy2).le (by omega)
    · rcases List.mem_append.mp he with z | z
      · obtain ⟨d, q, l⟩ := C.e e z
        exact (step_le q).le l
      · rw [List.mem_singleton.mp z]
        exact (step_via (C.z i hi) (C.z j hj)).le (by simp)
theorem Clo.untight {R : List Edge} {m : Nat} {D : Mat} (C : Clo R m D) {i j : Nat} {c : Int} (h : tightF D i j c = none) : ∃ t, t < 0 ∧ Wlk (R ++ [(i, j, c)]) i i t := by
  unfold tightF at h
  split at h
  · cases h
  · rename_i hk
    obtain ⟨b, hb, l⟩ := known_ff hk
    refine ⟨c + b, by omega, .cons (List.mem_append_right R (List.mem_singleton.mpr rfl)) ((C.w _ _ _ hb).mono fun e he => List.mem_append_left _ he)⟩
  · cases h
theorem closed_ok {m : Nat} : ∀ (R R0 : List Edge) (D : Mat), Clo R0 m D → (∀ e ∈ R, e.1 ≤ m ∧ e.2.1 ≤ m) → (∀ D', closedF R D = some D' → Clo (R0 ++ R) m D') ∧ (closedF R D = none → ∃ a t, a ≤ m ∧ t < 0 ∧ Wlk (R0 ++ R) a a t)
  | [], R0, D, C, _ => ⟨fun D' h => (by cases h; rw [List.append_nil]; exact C), fun h => (by cases h)⟩
  | (i, j, c) :: R, R0, D, C, hR => by
    have h1 := hR (i, j, c) List.mem_cons_self
    have h2 : ∀ e ∈ R, e.1 ≤ m ∧ e.2.1 ≤ m := fun e he => hR e (List.mem_cons_of_mem _ he)
    have ea : R0 ++ (i, j, c) :: R = (R0 ++ [(i, j, c)]) ++ R := by simp
    cases e : tightF D i j c with
    | none =>
      have ec : closedF ((i, j, c) :: R) D = none := by unfold closedF; rw [e]
      refine ⟨fun D' h => (by rw [ec] at h; cases h), fun _ => ?_⟩
      obtain ⟨t, l, wk⟩ := C.untight e
      exact ⟨i, t, h1.1, l, by rw [ea]; exact wk.mono fun e he => List.mem_append_left _ he⟩
    | some D2 =>
      have ec : closedF ((i, j, c) :: R) D = closedF R D2 := by conv => lhs; unfold closedF; rw [e]
      rw [ec, ea]
      exact closed_ok R (R0 ++ [(i, j, c)]) D2 (C.tight h1.1 h1.2 e) h2
theorem closed_some {m : Nat} {R : List Edge} (hR : ∀ e ∈ R, e.1 ≤ m ∧ e.2.1 ≤ m) {D : Mat} (h : closedF R openF = some D) : Clo R m D := (closed_ok R [] openF (clo_open m) hR).1 D h
theorem closed_none {m : Nat} {R : List Edge} (hR : ∀ e ∈ R, e.1 ≤ m ∧ e.2.1 ≤ m) (h : closedF R openF = none) : ∃ a t, a ≤ m ∧ t < 0 ∧ Wlk R a a t := (closed_ok R [] openF (clo_open m) hR).2 h
theorem closed_snoc : ∀ (R : List Edge) (D : Mat) (e : Edge), closedF (R ++ [e]) D = match closedF R D with | none => none | some D' => tightF D' e.1 e.2.1 e.2.2
  | [], D, (i, j, c) => by
    show (match tightF D i j c with | none => none | some D' => some D') = tightF D i j c
    cases tightF D i j c <;> rfl
  | (i, j, c) :: R, D, e => by
    show (match tightF D i j c with | none => none | some D' => closedF (R ++ [e]) D') = match (match tightF D i j c with | none => none | some D' => closedF R D') with | none => none | some D' => tightF D' e.1 e.2.1 e.2.2
    cases tightF D i j c with
    | none => rfl
    | some D' => exact closed_snoc R D' e
/-- numbers keep the rows -/
def KeepsF (x : Nat → Int) (R : List Edge) : Prop := ∀ e ∈ R, x e.1 ≤ x e.2.1 + e.2.2
theorem Wlk.keeps {R : List Edge} {x : Nat → Int} (h : KeepsF x R) {a b : Nat} {t : Int} (w : Wlk R a b t) : x a ≤ x b + t := by
  induction w with
  | nil a => omega
  | cons e _ ih => have := h _ e; simp only at this; omega
/-- low a: the least that stands in the row of a -/
def IsLow (D : Mat) (m a : Nat) (l : Int) : Prop := (∀ b, b ≤ m → ∀ d, D a b = some d → l ≤ d) ∧ ∃ b, b ≤ m ∧ D a b = some l
theorem point_keeps {R : List Edge} {m : Nat} {D : Mat} (C : Clo R m D) {low : Nat → Int} (hl : ∀ a, a ≤ m → IsLow D m a (low a)) (z : Int) : KeepsF (fun a => low a - z) R := fun e he => by
  obtain ⟨h1, h2⟩ := C.ed e he
  obtain ⟨x, ex, lx⟩ := C.e e he
  obtain ⟨k, hk, ek⟩ := (hl _ h2).2
  obtain ⟨d, ed, ld⟩ := C.t _ _ _ _ _ h1 hk h2 ex ek
  have := (hl _ h1).1 k hk d ed
  show low e.1 - z ≤ low e.2.1 - z + e.2.2
  omega
/-! ### sums lowered along rows, turn by turn -/
abbrev Sums := Nat → Option Int
def stE (p : Sums × Bool) (e : Edge) : Sums × Bool := match p.1 e.2.1 with
  | none => p
  | some y => match p.1 e.1 with
    | none => (fun k => if k = e.1 then some (y + e.2.2) else p.1 k, true)
    | some x => if y + e.2.2 < x then (fun k => if k = e.1 then some (y + e.2.2) else p.1 k, true) else p
def turnF (R : List Edge) (S : Sums) : Sums × Bool := R.foldl stE (S, false)
def itF (R : List Edge) (S : Sums) : Nat → Sums × Bool
  | 0 => (S, false)
  | n + 1 => turnF R (itF R S n).1
def s0F (b : Nat) : Sums := fun k => if k = b then some 0 else none
theorem turn_still : ∀ (R : List Edge) (p : Sums × Bool), (R.foldl stE p).2 = false → p.2 = false ∧ R.foldl stE p = p ∧ ∀ e ∈ R, ∀ y, p.1 e.2.1 = some y → leO (p.1 e.1) (y + e.2.2)
  | [], p, h => ⟨h, rfl, fun e he => absurd he (by simp)⟩
  | e :: R, p, h => by
    obtain ⟨h1, h2, h3⟩ := turn_still R (stE p e) h
    have hp : stE p e = p ∧ ∀ y, p.1 e.2.1 = some y → leO (p.1 e.1) (y + e.2.2) := by
      unfold stE at h1 ⊢
      cases ej : p.1 e.2.1 with
      | none => exact ⟨rfl, fun y hy => by cases hy⟩
      | some y =>
        rw [ej] at h1
        cases ei : p.1 e.1 with
        | none => rw [ei] at h1; cases h1
        | some x =>
          rw [ei] at h1
          simp only at h1 ⊢
          split at h1
          · cases h1
          · rename_i hlt
            rw [if_neg hlt]
            exact ⟨rfl, fun y' hy' => ⟨x, rfl, by cases hy'; omega⟩⟩
    rw [hp.1] at h1 h2 h3
    refine ⟨h1, ?_, fun e' he' => ?_⟩
    · show R.foldl stE (stE p e) = p
      rw [hp.1]; exact h2
    · rcases List.mem_cons.mp he' with rfl | z
      · exact hp.2
      · exact h3 e' z
/-- what stands in the sums are walks to b -/
def WS (R : List Edge) (b : Nat) (S : Sums) : Prop := (∀ a d, S a = some d → Wlk R a b d) ∧ leO (S b) 0
theorem WS.s0 (R : List Edge) (b : Nat) : WS R b (s0F b) := by
  refine ⟨fun a d h => ?_, 0, if_pos rfl, Int.le_refl _⟩
  unfold s0F at h
  split at h
  · rename_i e; cases h; rw [e]; exact .nil _
  · cases h
theorem WS.st {R : List Edge} {b : Nat} {p : Sums × Bool} {e : Edge} (h : WS R b p.1) (he : e ∈ R) : WS R b (stE p e).1 := by
  unfold stE
  cases ej : p.1 e.2.1 with
  | none => exact h
  | some y =>
    have wn : Wlk R e.1 b (y + e.2.2) := by
      have z := Wlk.cons (show (e.1, e.2.1, e.2.2) ∈ R from he) (h.1 _ _ ej)
      rw [Int.add_comm] at z
      exact z
    have put : ∀ (hb : e.1 = b → y + e.2.2 ≤ 0), WS R b (fun k => if k = e.1 then some (y + e.2.2) else p.1 k) := fun hb => by
      refine ⟨fun a d q => ?_, ?_⟩
      · simp only at q
        split at q
        · rename_i ea; cases q; rw [ea]; exact wn
        · exact h.1 a d q
      · simp only
        split
        · rename_i eb; exact ⟨_, rfl, hb eb.symm⟩
        · exact h.2
    cases ei : p.1 e.1 with
    | none =>
      refine put fun eb => ?_
      rw [eb] at ei
      obtain ⟨d, z, _⟩ := h.2
      rw [ei] at z; cases z
    | some x =>
      simp only
      split
      · rename_i lt
        refine put fun eb => ?_
        rw [eb] at ei
        obtain ⟨d, z, l⟩ := h.2
        rw [ei] at z; cases z
        omega
      · exact h
theorem WS.fold {R : List Edge} {b : Nat} : ∀ (l : List Edge) (p : Sums × Bool), (∀ e ∈ l, e ∈ R) → WS R b p.1 → WS R b (l.foldl stE p).1
  | [], _, _, h => h
  | e :: l, p, s, h => WS.fold l (stE p e) (fun e' he' => s e' (List.mem_cons_of_mem _ he')) (h.st (s e List.mem_cons_self))
theorem WS.it {R : List Edge} {b : Nat} : ∀ n, WS R b (itF R (s0F b) n).1
  | 0 => WS.s0 R b
  | n + 1 => WS.fold R ((itF R (s0F b) n).1, false) (fun _ h => h) (WS.it n)
theorem still_walk {R : List Edge} {S : Sums} (hf : ∀ e ∈ R, ∀ y, S e.2.1 = some y → leO (S e.1) (y + e.2.2)) {a b : Nat} {t y : Int} (w : Wlk R a b t) (hb : S b = some y) : leO (S a) (y + t) := by
  induction w with
  | nil a => exact ⟨y, hb, by omega⟩
  | cons h _ ih =>
    obtain ⟨d, e, l⟩ := ih hb
    exact (hf _ h d e).le (by simp only; omega)
/-- no turn fell: then the sums stand still -/
theorem it_still {R : List Edge} {S : Sums} {n : Nat} (h : (itF R S (n + 1)).2 = false) : ∀ e ∈ R, ∀ y, (itF R S (n + 1)).1 e.2.1 = some y → leO ((itF R S (n + 1)).1 e.1) (y + e.2.2) := by
  obtain ⟨_, h2, h3⟩ := turn_still R ((itF R S n).1, false) h
  have e : (itF R S (n + 1)).1 = (itF R S n).1 := congrArg (·.1) h2
  rw [e]
  exact h3
theorem down_eq {R : List Edge} {m : Nat} {D : Mat} (C : Clo R m D) {a b n : Nat} (ha : a ≤ m) (hb : b ≤ m) (h : (itF R (s0F b) (n + 1)).2 = false) : (itF R (s0F b) (n + 1)).1 a = D a b := by
  have st := it_still h
  have ws := WS.it (R := R) (b := b) (n + 1)
  obtain ⟨y, ey, ly⟩ := ws.2
  cases e : D a b with
  | none =>
    cases e2 : (itF R (s0F b) (n + 1)).1 a with
    | none => rfl
    | some x =>
      obtain ⟨d, z, _⟩ := C.walk (ws.1 a x e2) hb ha
      rw [e] at z; cases z
  | some d =>
    obtain ⟨x, ex, lx⟩ := still_walk st (C.w a b d e) ey
    obtain ⟨d', z, l'⟩ := C.walk (ws.1 a x ex) hb ha
    rw [e] at z; cases z
    rw [ex]
    have : x = d := by omega
    rw [this]
theorem still_noneg {R : List Edge} {m n : Nat} (h : ∀ b, b ≤ m → (itF R (s0F b) (n + 1)).2 = false) {a : Nat} (ha : a ≤ m) {t : Int} (w : Wlk R a a t) : 0 ≤ t := by
  have st := it_still (h a ha)
  obtain ⟨y, ey, ly⟩ := (WS.it (R := R) (b := a) (n + 1)).2
  obtain ⟨x, ex, lx⟩ := still_walk st w ey
  rw [ey] at ex; cases ex
  omega
theorem still_closed {R : List Edge} {m n : Nat} (hR : ∀ e ∈ R, e.1 ≤ m ∧ e.2.1 ≤ m) (h : ∀ b, b ≤ m → (itF R (s0F b) (n + 1)).2 = false) : ∃ D, closedF R openF = some D ∧ Clo R m D := by
  cases e : closedF R openF with
  | none =>
    obtain ⟨a, t, ha, l, w⟩ := closed_none hR e
    have := still_noneg h ha w
    omega
  | some D => exact ⟨D, rfl, closed_some hR e⟩
end Lm

set_option Elab.async false
set_option linter.all false
set_option maxRecDepth 100000
set_option maxHeartbeats 2000000
namespace Lm
open PySem PySem.Spec PyProof.Rows L2 LmR
/-! ### own classes: their methods, their making -/
structure ClsAt (K : PySem.W.Frag) (mg : Str → Option Value) (x : Str) (C : Addr) (fs : List Str) : Prop where
  g : mg x = some (.ref C)
  c : Cls K C
  n : ∀ f ∈ fs, NoAttr K C f
def DefM (K : PySem.W.Frag) (C : Addr) (m q : Str) (st : Stmt) (ps : List Str) : Prop := ∃ f fd, Fun K m q st f fd ∧ Meth K C m f ∧ Binds K fd ps []
def CalM (P : Program) (w : World) (K : PySem.W.Frag) (mg : Str → Option Value) (base : Heap) (k : Nat) (C : Addr) (m : Str) (ps : List Str) (sp : Sp) : Prop :=
  ∃ f fd, FnOk P w K mg base CX0 k f fd ps sp ∧ Meth K C m f ∧ Binds K fd ps []
section
variable {P : Program} {w : World} {K : PySem.W.Frag} {mg : Str → Option Value} {base : Heap}
theorem CalM.mono {j k : Nat} {C : Addr} {m : Str} {ps : List Str} {sp : Sp} (c : CalM P w K mg base j C m ps sp) (h : j ≤ k) : CalM P w K mg base k C m ps sp := by
  obtain ⟨f, fd, F, g⟩ := c
  exact ⟨f, fd, F.mono h, g⟩
theorem calm_of {C : Addr} {m q : Str} {st : Stmt} {N ps : List Str} {k : Nat} {sp : Sp} (D : DefM K C m q st ps) (S : FnScope N ps (defScope st)) (len : ∀ vs H Q E, sp vs H Q E → vs.length = ps.length)
    (hbody : ∀ (f : Addr) (cdv : Value) (A : Around) (outer : List Env) (s : Shared) (H : Hp) (vs : List V) (Q : VK) (E : XK), Room k (A.deeper (envOfC q (defScope st) s.heap.objs.size f cdv)) → sp vs H Q E →
      ∃ t, PSs (cxOf CX0 P w K mg base N q (defScope st) f cdv A outer s H E).nox (defBody st) t ∧ t { nx := fun _ H' => Q .non H', rt := Q } (start N vs) H) : CalM P w K mg base (k + 1) C m ps sp := by
  obtain ⟨f, fd, F, g, b⟩ := D
  exact ⟨f, fd, F.ok S len (hbody f), g, b⟩
end
section
variable {X : Cx}
theorem pe_calM {k : Nat} {C : Addr} {m : Str} {ps : List Str} {sp : Sp} {o e : Expr} {es : List Expr} {to : TE} {t : TA} {apos pos : Pos} {pl : Sem Bool} (C' : CalM X.prog X.w X.K X.mg X.base k C m ps sp) (c : Cls X.K C) (hr : Room k X.A) (ho : PE X o to) (ha : PA X (e :: es) t)
    (ht : eval (.Call (.Attribute o m apos) (e :: es) [] pos) X.env = (do
      let ov ← eval o X.env
      standAt apos.atName
      let (f, first) ← holding [ov] (getMethod ov m pl)
      callWith pos f first (backTo pos (starEach (e :: es) X.env)) (backToKw pos (keywordEach [] X.env))) := by rfl)
    (he : starEach (e :: es) X.env = (false, eval e X.env) :: starEach es X.env := by rfl) (hpl : (backTo pos (starEach es X.env)).any (·.1) = false := by rfl) :
    PE X (.Call (.Attribute o m apos) (e :: es) [] pos) (tMeth C m sp [] (fun _ _ _ => False) to t) := by
  obtain ⟨f, fd, F, g, b⟩ := C'
  exact pe_meth ho c g F hr b .nil pass0 ha he hpl ht
theorem pe_calM0 {k : Nat} {C : Addr} {m : Str} {ps : List Str} {sp : Sp} {o : Expr} {to : TE} {apos pos : Pos} {pl : Sem Bool} (C' : CalM X.prog X.w X.K X.mg X.base k C m ps sp) (c : Cls X.K C) (hr : Room k X.A) (ho : PE X o to)
    (ht : eval (.Call (.Attribute o m apos) [] [] pos) X.env = (do
      let ov ← eval o X.env
      standAt apos.atName
      let (f, first) ← holding [ov] (getMethod ov m pl)
      callWith pos f first (backTo pos (starEach [] X.env)) (backToKw pos (keywordEach [] X.env))) := by rfl) :
    PE X (.Call (.Attribute o m apos) [] [] pos) (tMeth C m sp [] (fun _ _ _ => False) to tNil) := by
  obtain ⟨f, fd, F, g, b⟩ := C'
  exact pe_meth0 ho c g F hr b .nil pass0 ht
end
/-! ### C(e, ..), __init__ with a default behind -/
/-- n values (self among them) are written, ds fill up -/
def DefI (K : PySem.W.Frag) (mg : Str → Option Value) (C : Addr) (x q : Str) (st : Stmt) (ps : List Str) (dvs : List V) (n : Nat) : Prop :=
  ∃ f fd, FunD K "__init__" q (defArgs st) (defBody st) (defScope st) dvs [] f fd ∧ Mk K C f ∧ mg x = some (.ref C) ∧ ∃ ds, Vals (dvs.drop n) ds ∧ Binds K fd ps ds
def CalI (P : Program) (w : World) (K : PySem.W.Frag) (mg : Str → Option Value) (base : Heap) (k : Nat) (C : Addr) (x : Str) (ps : List Str) (dvs : List V) (n : Nat) (sp : Sp) : Prop :=
  ∃ f fd, FnOk P w K mg base CX0 k f fd ps sp ∧ Mk K C f ∧ mg x = some (.ref C) ∧ (∃ ds, Vals (dvs.drop n) ds ∧ Binds K fd ps ds) ∧ ∃ q pa bo sc, FunD K "__init__" q pa bo sc dvs [] f fd
section
variable {P : Program} {w : World} {K : PySem.W.Frag} {mg : Str → Option Value} {base : Heap}
theorem CalI.mono {j k n : Nat} {C : Addr} {x : Str} {ps : List Str} {dvs : List V} {sp : Sp} (c : CalI P w K mg base j C x ps dvs n sp) (h : j ≤ k) : CalI P w K mg base k C x ps dvs n sp := by
  obtain ⟨f, fd, F, g⟩ := c
  exact ⟨f, fd, F.mono h, g⟩
theorem cali_of {C : Addr} {x q : Str} {st : Stmt} {N ps : List Str} {k n : Nat} {dvs : List V} {sp : Sp} (D : DefI K mg C x q st ps dvs n) (S : FnScope N ps (defScope st)) (len : ∀ vs H Q E, sp vs H Q E → vs.length = ps.length)
    (hbody : ∀ (f : Addr) (cdv : Value) (A : Around) (outer : List Env) (s : Shared) (H : Hp) (vs : List V) (Q : VK) (E : XK), Room k (A.deeper (envOfC q (defScope st) s.heap.objs.size f cdv)) → sp vs H Q E →
      ∃ t, PSs (cxOf CX0 P w K mg base N q (defScope st) f cdv A outer s H E).nox (defBody st) t ∧ t { nx := fun _ H' => Q .non H', rt := Q } (start N vs) H) : CalI P w K mg base (k + 1) C x ps dvs n sp := by
  obtain ⟨f, fd, F, g1, g2, g3⟩ := D
  refine ⟨f, fd, F.ok S len (fun cdv A outer s H vs Q E hr hsp => ?_), g1, g2, g3, _, _, _, _, F⟩
  obtain ⟨t, h, q⟩ := hbody f cdv A outer s H vs Q E hr hsp
  exact ⟨t, h.nox, q⟩
end
theorem pe_calI {X : Cx} {k n : Nat} {C : Addr} {x : Str} {ps : List Str} {dvs : List V} {sp : Sp} {e : Expr} {es : List Expr} {t : TA} {p pos : Pos} (C' : CalI X.prog X.w X.K X.mg X.base k C x ps dvs n sp) (hr : Room (k + 1) X.A) (hg : Gl X x) (ha : PA X (e :: es) t)
    (hdb : (x == ("__debug__" : Str)) = false := by decide) (he : starEach (e :: es) X.env = (false, eval e X.env) :: starEach es X.env := by rfl) (hpl : (backTo pos (starEach es X.env)).any (·.1) = false := by rfl) :
    PE X (.Call (.Name x p) (e :: es) [] pos) (tMake C sp (dvs.drop n) (fun _ _ _ => False) t) := by
  obtain ⟨f, fd, F, M, g, ⟨ds, hd, b⟩, _⟩ := C'
  exact pe_make M F hr hg g b hd pass0 ha hdb he hpl
def rTupK (K : PySem.W.Frag) : List V → Hp → VK → Prop := fun xs H Q => ∃ p ys, xs = [.ref p] ∧ ((SqL K H p ys ∧ ∀ l, H l = none → Q (.ref l) (upd H l (.tup ys))) ∨ (SqT K H p ys ∧ Q (.ref p) H))
theorem call_tuple_ofK {X : Cx} {K : PySem.W.Frag} (h : X.K = K) : CallR X (.type "tuple") (rTupK K) := h ▸ call_tuple_of
theorem pi_listK {X : Cx} {K : PySem.W.Frag} {tg l : Expr} {tl : TE} (h : X.K = K) (hl : PE X l tl) : PI X tg l (iList K tl) := h ▸ pi_list hl
theorem pi_tupK {X : Cx} {K : PySem.W.Frag} {tg l : Expr} {tl : TE} (h : X.K = K) (hl : PE X l tl) : PI X tg l (iTup K tl) := h ▸ pi_tup hl
theorem walk_zipT {K : PySem.W.Frag} {a b : Addr} {xs ys : List V} {n : Nat} (hn : n = min xs.length ys.length) : Walk (RZ.ItzT K a b) n (fun H => SqT K H a xs ∧ SqT K H b ys) (YPair (fun i => xs[i]?) (fun i => ys[i]?)) := by
  subst hn
  refine ⟨fun i _ hi q => ?_, fun _ q => ⟨xs, ys, q.1, q.2, by omega⟩, fun i H v H' _ q y => ?_⟩
  · have h1 : i < xs.length := by omega
    have h2 : i < ys.length := by omega
    exact ⟨xs, ys, xs[i], ys[i], q.1, q.2, by simp [h1], by simp [h2]⟩
  · obtain ⟨T, x, z, h1, h2, h3, h4, h5⟩ := y
    exact ⟨T, x, z, h1, h2, h3, h4 xs q.1, h5 ys q.2⟩
theorem pg_tupK {X : Cx} {K : PySem.W.Frag} {es : List Expr} {k : Nat} {t : TGs} {n : Nat} {pos : Pos} (hK : X.K = K) (hc : X.calm = true) (h : PGs X es t)
    (hn : (assignEach es X.env).length = n := by rfl) (hst : (assignEach es X.env).findIdx? (·.1) = none := by rfl) : PG X (.Tuple es k pos) (gTup K n t) := hK ▸ pg_tup hc h hn hst
theorem cr_minQ {X : Cx} {K : PySem.W.Frag} (h : X.K = K) (hc : X.calm = true) : CallR X (.builtin "min") (rMin K) := h ▸ cr_min hc
/-! ### for x in e, e a list or a tuple -/
section
variable {X : Cx} {tg : Expr}
def iLT (K : PySem.W.Frag) (tl : TE) : TI := fun σ H R => tl σ H fun x H1 => ∃ a, x = .ref a ∧ (((∃ xs, SqL K H1 a xs) ∧ R (Itl K a) H1) ∨ ((∃ xs, SqT K H1 a xs) ∧ R (Itt K a) H1))
theorem pi_lt {l : Expr} {tl : TE} (hl : PE X l tl) : PI X tg l (iLT X.K tl) := by
  refine ⟨fun pins s σ H R I h => ?_⟩
  refine thn (hl.run pins s σ H _ I h) fun v s1 ⟨x, H1, I1, r1, q1⟩ => ?_
  obtain ⟨a, e, q⟩ := q1
  subst e
  cases r1
  rcases q with ⟨⟨xs, hq⟩, q⟩ | ⟨⟨xs, hq⟩, q⟩
  · obtain ⟨its, rv, p, hz⟩ := I1.list hq
    refine wpAny_pyIter_list p.isList ?_
    refine ⟨s1.heap.objs.size, [s1.heap.objs.size], _, _, H1, rfl, I1.kept (t' := s1.toks) fun b o e => Heap.get?_push_of_some _ e, turn_list a _, ⟨_, Heap.get?_push_size _ rfl, rfl, rfl⟩, fun b hb => ?_, q⟩
    have e : b = s1.heap.objs.size := by simpa using hb
    subst e
    exact I1.fpOk (Nat.le_refl _) (I1.hok.fresh (Nat.le_refl _))
  · obtain ⟨its, rv, p, hz⟩ := I1.tuple hq
    refine wpAny_pyIter_tuple (show s1.heap.IsTuple a its.toArray from p) ?_
    refine ⟨s1.heap.objs.size, [s1.heap.objs.size], _, _, H1, rfl, I1.kept (t' := s1.toks) fun b o e => Heap.get?_push_of_some _ e, turn_tuple a _, ⟨_, Heap.get?_push_size _ rfl, rfl, rfl⟩, fun b hb => ?_, q⟩
    have e : b = s1.heap.objs.size := by simpa using hb
    subst e
    exact I1.fpOk (Nat.le_refl _) (I1.hok.fresh (Nat.le_refl _))
end
end Lm

set_option Elab.async false
set_option linter.all false
set_option maxRecDepth 100000
namespace Lm
open PySem PySem.Spec PyProof.Rows L2 LmR
/-! ### a == b, a != b of data without dicts, of any texts -/
def rEqP (K : PySem.W.Frag) : R2 := fun x y H Q => ∃ d e, Dp K H x d ∧ Dp K H y e ∧ d.plain = true ∧ e.plain = true ∧ d.depth ≤ 64 ∧ Q (.bl (PyData.eqv d e)) H
def rNeP (K : PySem.W.Frag) : R2 := fun x y H Q => ∃ d e, Dp K H x d ∧ Dp K H y e ∧ d.plain = true ∧ e.plain = true ∧ d.depth ≤ 64 ∧ Q (.bl (!PyData.eqv d e)) H
theorem op_eqP {X : Cx} (hu : X.A.units + 64 < cLine) : OpR X (compareOp .Eq) (rEqP X.K) := by
  intro pins s σ H x y v u Q I rx ry h
  obtain ⟨d, e, hd, he, sd, se, dd, q⟩ := h
  obtain ⟨as, r1⟩ := Dp.reads I d x v hd rx
  obtain ⟨bs, r2⟩ := Dp.reads I e y u he ry
  exact SeqAt.eq_plain r1 r2 sd se (by omega) ⟨.bl _, H, I, rfl, q⟩
theorem op_neP {X : Cx} (hu : X.A.units + 64 < cLine) : OpR X (compareOp .NotEq) (rNeP X.K) := by
  intro pins s σ H x y v u Q I rx ry h
  obtain ⟨d, e, hd, he, sd, se, dd, q⟩ := h
  obtain ⟨as, r1⟩ := Dp.reads I d x v hd rx
  obtain ⟨bs, r2⟩ := Dp.reads I e y u he ry
  exact SeqAt.ne_plain r1 r2 sd se (by omega) ⟨.bl _, H, I, rfl, q⟩
mutual
theorem plain_flat : ∀ d : PyData, flat d = true → d.plain = true
  | .none, _ => rfl
  | .bool _, _ => rfl
  | .int _, _ => rfl
  | .str _, _ => rfl
  | .list _, h => by simp [flat] at h
  | .tuple xs, h => plains_flat xs h
  | .dict _, h => by simp [flat] at h
theorem plains_flat : ∀ ds : List PyData, flat.flats ds = true → PyData.plainAll ds = true
  | [], _ => rfl
  | d :: ds, h => by
    rw [flat.flats, Bool.and_eq_true] at h
    show (d.plain && PyData.plainAll ds) = true
    rw [plain_flat d h.1, plains_flat ds h.2]; rfl
end
end Lm

set_option Elab.async false
set_option linter.all false
set_option maxRecDepth 100000
set_option maxHeartbeats 2000000
namespace Lm
open PySem PySem.Spec PyProof.Rows L2 LmR
/-! ### defs that are called while no repr is under way -/
structure FnG (P : Program) (w : World) (K : PySem.W.Frag) (mg : Str → Option Value) (base : Heap) (k : Nat) (f : Addr) (fd : FuncData) (ps : List Str) (sp : Sp) : Prop where
  len : ∀ vs H Q E, sp vs H Q E → vs.length = ps.length
  run : ∀ (A : Around) (outer : List Env) (s : Shared) (H : Hp) (args : Args) (us : List Value) (vs : List V) (Q : VK) (E : XK), A.guards = some [] → Room k A → Env0 P w K mg base A outer s H → BindsTo s fd args (ps.zip us) → Vals vs us → sp vs H Q E →
    codeAny (model P w) A (.call (.ref f) args) (CR CX0 outer P w H s Q E) s
section
variable {P : Program} {w : World} {K : PySem.W.Frag} {mg : Str → Option Value} {base : Heap}
theorem FnG.mono {j k : Nat} {f : Addr} {fd : FuncData} {ps : List Str} {sp : Sp} (F : FnG P w K mg base j f fd ps sp) (h : j ≤ k) : FnG P w K mg base k f fd ps sp :=
  ⟨F.len, fun A outer s H args us vs Q E hg hr => F.run A outer s H args us vs Q E hg (hr.mono h)⟩
theorem fnG_of {k : Nat} {x : Str} {st : Stmt} {f : Addr} {fd : FuncData} {N ps : List Str} {sp : Sp} (F : Fun K x x st f fd) (S : FnScope N ps (defScope st)) (len : ∀ vs H Q E, sp vs H Q E → vs.length = ps.length)
    (hbody : ∀ (cdv : Value) (A : Around) (outer : List Env) (s : Shared) (H : Hp) (vs : List V) (Q : VK) (E : XK), A.guards = some [] → Room k (A.deeper (envOfC x (defScope st) s.heap.objs.size f cdv)) → sp vs H Q E →
      ∃ t, PSs (cxOf CX0 P w K mg base N x (defScope st) f cdv A outer s H E).nox (defBody st) t ∧ t { nx := fun _ H' => Q .non H', rt := Q } (start N vs) H) : FnG P w K mg base (k + 1) f fd ps sp := by
  obtain ⟨oc, od, kV, doc, pm, an, cdv, ct, osl, rfl, lk, hcd⟩ := F.ex
  refine ⟨len, fun A outer s H args us vs Q E hg hr e0 hb r hsp => ?_⟩
  have kin : K.In s.heap := e0.mod.kin.keeps fun b o z => (e0.bs b o z).1
  have lim : s.heap.NoLimit := e0.mod.nolimit.keeps fun b o z => (e0.bs b o z).1
  have kinds : ∀ y ∈ ps.zip us, (defScope st).names.lookup y.1 = some .local ∨ ((defScope st).names.lookup y.1 = some .cell ∧ ((cellsFrom (s.heap.objs.size + 1) (defScope st).names []).lookup y.1).isSome = true) := fun y hy =>
    (S.par y.1 (List.of_mem_zip (show (y.1, y.2) ∈ ps.zip us from hy)).1).imp id fun z => ⟨z, PySem.W.cellsFrom_some _ _ _ (.inl z)⟩
  refine codeAny_call_function hr.depth (kin _ _ lk) rfl S.co S.gen rfl (PySem.W.codeRec_of kin hcd) (hb _ _ _ _ (wpAny_newFunctionEnv_cells S.kind kinds fun env he s1 y => ?_))
  subst he
  obtain ⟨t, ht, hq⟩ := hbody cdv A outer s H vs Q E hg (hr.deeper _) hsp
  have I : Inv (cxOf CX0 P w K mg base N x (defScope st) f cdv A outer s H E) [] (start N vs) H s1 := inv_start S hr.hd e0 (len _ _ _ _ hsp) r y
  refine ⟨lim.keeps y.toInCall.keep, codeAny_func (wpAny_mono (ht.nox.run [] s1 (start N vs) H _ I hq) (fun fl s' hs => ?_) fun e s' hs => hs)⟩
  cases fl with
  | ret u =>
    obtain ⟨v, σ', H', J, rv, q⟩ := hs
    exact ⟨v, H', J.os, J.bare, J.base, J.hok, rv, q⟩
  | next =>
    obtain ⟨σ', H', J, q⟩ := hs
    exact ⟨V.non, H', J.os, J.bare, J.base, J.hok, rfl, q⟩
  | brk => obtain ⟨_, _, _, q⟩ := hs; exact False.elim q
  | cont => obtain ⟨_, _, _, q⟩ := hs; exact False.elim q
/-- what stands under the name x keeps sp, called while no repr is under way -/
def CalG (P : Program) (w : World) (K : PySem.W.Frag) (mg : Str → Option Value) (base : Heap) (k : Nat) (x : Str) (ps : List Str) (sp : Sp) : Prop :=
  ∃ f fd, FnG P w K mg base k f fd ps sp ∧ mg x = some (.ref f) ∧ PySem.W.keepIn K (.ref f) = true ∧ Binds K fd ps []
theorem CalG.mono {j k : Nat} {x : Str} {ps : List Str} {sp : Sp} (c : CalG P w K mg base j x ps sp) (h : j ≤ k) : CalG P w K mg base k x ps sp := by
  obtain ⟨f, fd, F, g, kp, b⟩ := c
  exact ⟨f, fd, F.mono h, g, kp, b⟩
theorem calg_of {x : Str} {st : Stmt} {N ps : List Str} {k : Nat} {sp : Sp} (D : DefAt K mg x st ps) (S : FnScope N ps (defScope st)) (len : ∀ vs H Q E, sp vs H Q E → vs.length = ps.length)
    (hbody : ∀ (f : Addr) (cdv : Value) (A : Around) (outer : List Env) (s : Shared) (H : Hp) (vs : List V) (Q : VK) (E : XK), A.guards = some [] → Room k (A.deeper (envOfC x (defScope st) s.heap.objs.size f cdv)) → sp vs H Q E →
      ∃ t, PSs (cxOf CX0 P w K mg base N x (defScope st) f cdv A outer s H E).nox (defBody st) t ∧ t { nx := fun _ H' => Q .non H', rt := Q } (start N vs) H) : CalG P w K mg base (k + 1) x ps sp := by
  obtain ⟨f, fd, F, b, g⟩ := D
  exact ⟨f, fd, fnG_of F S len (hbody f), g, F.kp, b⟩
end
/-- f(e, ..) of such a def -/
theorem pe_calG {X : Cx} {k : Nat} {x : Str} {ps : List Str} {sp : Sp} {e : Expr} {es : List Expr} {t : TA} {p pos : Pos} (C : CalG X.prog X.w X.K X.mg X.base k x ps sp) (hgu : X.A.guards = some []) (hr : Room k X.A) (hg : Gl X x) (ha : PA X (e :: es) t)
    (hdb : (x == ("__debug__" : Str)) = false := by decide) (he : starEach (e :: es) X.env = (false, eval e X.env) :: starEach es X.env := by rfl) (hpl : (backTo pos (starEach es X.env)).any (·.1) = false := by rfl) :
    PE X (.Call (.Name x p) (e :: es) [] pos) (tCall sp [] (fun _ _ _ => False) t) := by
  obtain ⟨f, fd, F, g, kp, b⟩ := C
  refine ⟨fun pins s σ H Q I h => wpAny_Call_Name_kw (ld_glob I hg g ?_ hdb)⟩
  refine PySem.W.callWith_K (h₀ := X.base) I.ok.mod.kin kp (thn (ha.run pos pins s σ H _ I h) fun us s1 ⟨vs, H1, I1, r, q⟩ => ⟨I1.kIn, ?_⟩) he hpl
  have q1 : sp vs H1 Q (fun _ _ _ => False) := by
    have z : sp (vs ++ []) H1 Q (fun _ _ _ => False) := q
    rw [List.append_nil] at z
    exact z
  have bn := b s1 us I1.kIn (by rw [List.append_nil, ← r.length]; exact F.len _ _ _ _ q1)
  rw [List.append_nil] at bn
  refine wpAny_call (codeAny_mono (F.run X.A X.stack s1 H1 ⟨us, []⟩ us vs Q (fun _ _ _ => False) hgu hr I1.env0 bn r q1) fun z s' hq => ?_)
  cases z with
  | error e => exact hq.elim
  | ok fl =>
    cases fl with
    | ret u => exact I1.after hq
    | next => exact False.elim hq
    | brk => exact False.elim hq
    | cont => exact False.elim hq
/-- repr of data that stands in a tuple -/
def rRepr (X : Cx) : List V → Hp → VK → Prop := fun xs H Q => ∃ (a : Addr) (d : PyData), xs = [.ref a] ∧ Dp X.K H (.ref a) d ∧ d.showable = true ∧ d.hasDict = false ∧ d.depth ≤ 60 ∧ d.shown.length ≤ sizeLine ∧ Q (.str d.shown) H
theorem call_reprD {X : Cx} {k : Nat} (hr : Room k X.A) (hgu : X.A.guards = some []) : CallR X (.builtin "repr") (rRepr X) := by
  intro pins s σ H xs us Q I r h
  obtain ⟨a, d, rfl, hd, hs, hn, hz, hl, q⟩ := h
  obtain ⟨u, rfl, r1⟩ := vals1 r
  obtain ⟨as, hR⟩ := Dp.reads I d _ u hd r1
  cases r1
  have un := hr.un
  exact repr_of_reads' hR hs (PyData.noDict_hsm hn) hgu (by omega) (fun _ _ e => e) (fun h' v tk hk => ⟨.str d.shown, H, I.kept hk, ⟨_, rfl⟩, q⟩) hl
/-! ### the law's own call -/
section
variable {P : Program} {w : World} {K : PySem.W.Frag} {mg mb : Str → Option Value} {k : Nat} {fa a : Addr} {fd : FuncData} {x : Str} {sp : Sp} {s₁ : Shared} {vs : List Value} {ns : List Int}
/-- what is tracked when the law is called: its script, if that is none of the written things -/
def onlyAt (a : Addr) (o : Option HO) : Hp := fun b => if b = a then o else none
theorem onlyAt_some {a b : Addr} {o : Option HO} {u : HO} (h : onlyAt a o b = some u) : b = a ∧ o = some u := by
  unfold onlyAt at h
  split at h
  · rename_i e; exact ⟨e, h⟩
  · cases h
theorem call_lawG (KX : K.In s₁.heap) (hns : s₁.heap.Ns mainGlobals mg) (hb : s₁.heap.Ns builtinsNs mb) (hbb : ∀ x : Str, x ≠ "__name__" → mb x = bootBuiltins x) (hlim : s₁.heap.NoLimit) (hg : s₁.gens = #[])
    (ha : s₁.heap.get? a = some { cls := .type "list", data := .seq vs.toArray }) (hi : IntsAre vs ns) (hl : ns.length ≤ sizeLine) (hr : Room k callerA)
    (F : ∀ base : Heap, K.In base → base.Ns mainGlobals mg → FnG P w K mg base k fa fd [x] sp) (hbind : ∀ (s : Shared) (u : Value), BindsTo s fd ⟨[u], []⟩ [(x, u)])
    (hsp : ∀ H : Hp, SqL K H a (ns.map V.int) → sp [.ref a] H (fun v _ => v = .bl true) fun _ _ _ => False) :
    codeAny (model P w) callerA (.call (.ref fa) ⟨[.ref a], []⟩) (fun r s' => r = .ok (.ret (.bool true)) ∧ OldK s₁.heap s'.heap ∧ s'.os = s₁.os ∧ AllBare s'.gens) s₁ := by
  have lenV := hi.length
  have frz : ObjOk P w (onlyAt a (some (.frz { cls := .type "list", data := .seq vs.toArray } (.lst (ns.map V.int))))) s₁.heap a (.frz { cls := .type "list", data := .seq vs.toArray } (.lst (ns.map V.int))) :=
    ⟨ha, by rw [List.length_map]; exact hl, vs, _, vals_ints hi, ha⟩
  obtain ⟨o, hS, hok, hfr, hK⟩ : ∃ o : Option HO, SqL K (onlyAt a o) a (ns.map V.int) ∧ HOk P w (onlyAt a o) s₁.heap ∧ (∀ u, o = some u → u = .frz { cls := .type "list", data := .seq vs.toArray } (.lst (ns.map V.int))) ∧ (o ≠ none → K.lookup a = none) := by
    cases hk : K.lookup a with
    | none =>
      refine ⟨some (.frz { cls := .type "list", data := .seq vs.toArray } (.lst (ns.map V.int))), .inl (.inr ⟨_, if_pos rfl⟩), fun b u z => ?_, fun u z => (Option.some.inj z).symm, fun _ => rfl⟩
      obtain ⟨e1, e2⟩ := onlyAt_some z
      cases e2
      subst e1
      exact frz
    | some ob =>
      have e := KX a ob hk
      rw [ha] at e
      cases e
      exact ⟨none, .inr ⟨_, vs.toArray, _, hk, rfl, rfl, rfl, by rw [List.size_toArray, lenV]; exact hl, by simpa using vals_ints hi⟩, fun b u z => (by cases (onlyAt_some z).2), fun u z => (by cases z), fun z => absurd rfl z⟩
  have off : ∀ {b : Addr}, b ≠ a → onlyAt a o b = none := fun n => if_neg n
  generalize hH : onlyAt a o = H at hS hok
  have offH : ∀ {b : Addr} {u : HO}, H b = some u → b = a ∧ o = some u := fun z => by rw [← hH] at z; exact onlyAt_some z
  have dicts : ∀ {b : Addr} {ob : Obj} {es : Array DictEntry} {ep : Nat}, s₁.heap.get? b = some ob → ob.data = .dict es ep → H b = none := fun {b ob es ep} e d => by
    by_cases c : b = a
    · subst c
      rw [ha] at e
      cases e
      cases d
    · rw [← hH]; exact off c
  have nsB : ∀ {b : Addr} {m : Str → Option Value}, s₁.heap.Ns b m → (hidT s₁.heap H).Ns b m := fun {b m} z => by
    obtain ⟨ob, es, ep, e, d, r⟩ := z
    exact ⟨ob, es, ep, hidT_get e (dicts e d), d, r⟩
  have kB : K.In (hidT s₁.heap H) := fun b ob e => hidT_get (KX b ob e) (by
    cases q : H b with
    | none => rfl
    | some u =>
      obtain ⟨e1, e2⟩ := offH q
      subst e1
      rw [hK (by rw [e2]; simp)] at e
      cases e)
  obtain ⟨mc, l1, l2⟩ := hlim
  have e0 : Env0 P w K mg (hidT s₁.heap H) callerA [] s₁ H := ⟨rfl, ⟨kB, nsB hns, ⟨mb, nsB hb, hbb⟩, ⟨mc, nsB l1, l2⟩⟩, fun b ob e => of_hidT e, Nat.le_of_eq (hidT_size _ _), trivial, fun b hb => (by cases (show b ∈ ([] : List Addr) from hb)), hok, .of_eq hg⟩
  refine codeAny_mono ((F _ kB (nsB hns)).run callerA [] s₁ H ⟨[.ref a], []⟩ [.ref a] [.ref a] _ _ rfl hr e0 (hbind s₁ (.ref a)) (.cons rfl .nil) (hsp H hS)) fun res s' h => ?_
  cases res with
  | error e => exact h.elim
  | ok fl =>
    cases fl with
    | next => exact False.elim h
    | brk => exact False.elim h
    | cont => exact False.elim h
    | ret u =>
      obtain ⟨v, H', os, bare, un, hok', r', q⟩ := h
      have q' : v = .bl true := q
      subst q'
      have eu : u = Value.bool true := r'
      subst eu
      refine ⟨rfl, OldK.of_keep fun b ob e => ?_, os, bare⟩
      cases z : H b with
      | none => exact un.keep b ob e z (fun y => by cases (show b ∈ ([] : List Addr) from y)) (by simp)
      | some u =>
        obtain ⟨e1, e2⟩ := offH z
        have eu := hfr u e2
        subst eu
        obtain ⟨g1, _⟩ := hok b _ z
        obtain ⟨g2, _⟩ := hok' b _ (un.frzs b _ _ z)
        rw [e] at g1
        cases g1
        exact g2
end
theorem walk_ofG {l : PySem.W.OpenLaw} {n k : Nat} {q : Program} {loose : List Str} {XP : (Str → Option Value) → Heap → Prop} {YP : World → Heap → Prop} {d : DefRec} {K : Params → PySem.W.Frag} {sp : World → Sp} {x : Str} (hn : l.most = some n) (hn2 : n ≤ sizeLine) (hdf : d.params.defaults = []) (hr : Room k callerA)
    (hY : ∀ (w : World) (h : Heap), YP w h → (K w.params).In h)
    (F : ∀ (w : World) (mg : Str → Option Value) (fa : Addr) (h : Heap), (K w.params).In h → h.Ns mainGlobals mg → mg d.name = some (.ref fa) → ∃ fd : FuncData, (∀ (s : Shared) (u : Value), BindsTo s fd ⟨[u], []⟩ [(x, u)]) ∧ ∀ base : Heap, (K w.params).In base → base.Ns mainGlobals mg → FnG l.prog w (K w.params) mg base k fa fd [x] (sp w))
    (hsp : ∀ (w : World) (H : Hp) (a : Addr) (ns : List Int), ns.length ≤ n → SqL (K w.params) H a (ns.map V.int) → sp w [.ref a] H (fun v _ => v = .bl true) fun _ _ _ => False) :
    PySem.W.WalkO q loose XP YP l.row.toRowW d [] (fun f vs => PySem.call f vs) := by
  refine Att.attach_call hn hdf fun w s₀ s₁ mg mb fa o pm cd doc a vs ns G Y ho hd hcd hmg hobj hints hlen hg => ?_
  obtain ⟨fd, hb, hF⟩ := F w mg fa _ (hY w _ Y) G.T.g hmg
  exact call_lawG (hY w _ Y) G.T.g G.T.b G.T.builtins G.T.nolimit hg hobj hints (Nat.le_trans hlen hn2) hr hF hb fun H hS => hsp w H a ns hlen hS
end Lm

set_option Elab.async false
set_option linter.all false
set_option maxRecDepth 100000
set_option maxHeartbeats 2000000
namespace Lm
open PySem PySem.Spec PyProof.Rows L2 LmR
/-! ### len(o), repr(o) by the class's own methods -/
def rLenO (C : Addr) (sp : Sp) : List V → Hp → VK → Prop := fun xs H Q => ∃ a dx fs, xs = [.ref a] ∧ H a = some (.ins C dx fs) ∧ sp [.ref a] H (fun v H' => ∃ n : Int, v = .int n ∧ 0 ≤ n ∧ n < 2 ^ 63 ∧ Q (.int n) H') (fun _ _ _ => False)
def rReprO (C : Addr) (sp : Sp) : List V → Hp → VK → Prop := fun xs H Q => ∃ a dx fs, xs = [.ref a] ∧ H a = some (.ins C dx fs) ∧ sp [.ref a] H (fun v H' => ∃ z : Str, v = .str z ∧ Q (.str z) H') (fun _ _ _ => False)
section
variable {X : Cx} {k : Nat} {C : Addr} {ps : List Str} {sp : Sp}
theorem call_lenO (M : CalM X.prog X.w X.K X.mg X.base k C "__len__" ps sp) (hr : Room (k + 1) X.A) : CallR X (.builtin "len") (rLenO C sp) := by
  intro pins s σ H xs us Q I r h
  obtain ⟨a, dx, fs, rfl, ha, hsp⟩ := h
  obtain ⟨u, rfl, ru⟩ := vals1 r
  cases ru
  obtain ⟨mA, J, _⟩ := ins_get I.hok ha
  obtain ⟨od, J, _⟩ := J.look
  obtain ⟨m, hF⟩ := I.fr
  obtain ⟨f, fd, F, g, b⟩ := M
  refine PySem.W.len_K hF I.ok.mod.kin J g.at_ g.fn ?_
  have hl := F.len _ _ _ _ hsp
  refine wpAny_call (codeAny_mono (F.run X.A.in1 X.stack s H ⟨[.ref a], []⟩ [.ref a] [.ref a] _ (fun _ _ _ => False) hr.in1 (Env0.in1 I.env0) (by
    have := b s [.ref a] I.kIn (by simpa using hl)
    simpa using this) (.cons rfl .nil) hsp) fun r s' hq => ?_)
  cases r with
  | error e => exact (pass0 pins σ H s e s' I hq : X.xe e s')
  | ok fl =>
    cases fl with
    | ret w =>
      obtain ⟨z, H', I', rz, n, ez, n0, n1, q⟩ := I.after hq
      subst ez
      obtain ⟨t, rfl⟩ := rz
      exact ⟨⟨n0, n1⟩, .int n, H', I'.tok _, ⟨_, rfl⟩, q⟩
    | next => exact False.elim hq
    | brk => exact False.elim hq
    | cont => exact False.elim hq
theorem call_reprO (M : CalM X.prog X.w X.K X.mg X.base k C "__repr__" ps sp) (hr : Room (k + 1) X.A) : CallR X (.builtin "repr") (rReprO C sp) := by
  intro pins s σ H xs us Q I r h
  obtain ⟨a, dx, fs, rfl, ha, hsp⟩ := h
  obtain ⟨u, rfl, ru⟩ := vals1 r
  cases ru
  obtain ⟨mA, J, _⟩ := ins_get I.hok ha
  obtain ⟨od, J, _⟩ := J.look
  obtain ⟨m, hF⟩ := I.fr
  obtain ⟨f, fd, F, g, b⟩ := M
  refine PySem.W.repr_K hr.in1.units0 hF I.ok.mod.kin J g.at_ g.fn ?_
  have hl := F.len _ _ _ _ hsp
  refine wpAny_call (codeAny_mono (F.run X.A.in1 X.stack s H ⟨[.ref a], []⟩ [.ref a] [.ref a] _ (fun _ _ _ => False) hr.in1 (Env0.in1 I.env0) (by
    have := b s [.ref a] I.kIn (by simpa using hl)
    simpa using this) (.cons rfl .nil) hsp) fun r s' hq => ?_)
  cases r with
  | error e => exact (pass0 pins σ H s e s' I hq : X.xe e s')
  | ok fl =>
    cases fl with
    | ret w =>
      obtain ⟨z, H', I', rz, y, ez, q⟩ := I.after hq
      subst ez
      obtain ⟨t, rfl⟩ := rz
      exact ⟨.str y, H', I', ⟨_, rfl⟩, q⟩
    | next => exact False.elim hq
    | brk => exact False.elim hq
    | cont => exact False.elim hq
end
/-! ### C(e, .., k = v) -/
def DefIK (K : PySem.W.Frag) (mg : Str → Option Value) (C : Addr) (x q : Str) (st : Stmt) (ps : List Str) (dvs : List V) (n : Nat) (ks : List Str) : Prop :=
  ∃ f fd, FunD K "__init__" q (defArgs st) (defBody st) (defScope st) dvs [] f fd ∧ Mk K C f ∧ mg x = some (.ref C) ∧ KBn K fd ps (n + 1) ks (fun us ws => us ++ ws) (fun vs zs => vs ++ zs)
def CalIK (P : Program) (w : World) (K : PySem.W.Frag) (mg : Str → Option Value) (base : Heap) (k : Nat) (C : Addr) (x : Str) (ps : List Str) (n : Nat) (ks : List Str) (sp : Sp) : Prop :=
  ∃ f fd, FnOk P w K mg base CX0 k f fd ps sp ∧ Mk K C f ∧ mg x = some (.ref C) ∧ KBn K fd ps (n + 1) ks (fun us ws => us ++ ws) (fun vs zs => vs ++ zs)
theorem CalI.kw {P : Program} {w : World} {K : PySem.W.Frag} {mg : Str → Option Value} {base : Heap} {k n n' : Nat} {C : Addr} {x q : Str} {st : Stmt} {ps ks : List Str} {dvs : List V} {sp : Sp} (c : CalI P w K mg base k C x ps dvs n sp) (D : DefIK K mg C x q st ps dvs n' ks) : CalIK P w K mg base k C x ps n' ks sp := by
  obtain ⟨f, fd, F, M, g, _, q', pa, bo, sc, F'⟩ := c
  obtain ⟨f2, fd2, F2, M2, g2, b⟩ := D
  have e : f = f2 := by
    have z := M.init.symm.trans M2.init
    injection z with z
    injection z with z
    injection z
  subst e
  have e : fd = fd2 := by
    obtain ⟨_, _, _, _, _, _, _, _, _, _, _, l1, _⟩ := F'.ex
    obtain ⟨_, _, _, _, _, _, _, _, _, _, _, l2, _⟩ := F2.ex
    rw [l1] at l2
    have e := Option.some.inj l2
    injection e with _ _ e _
    injection e
  subst e
  exact ⟨f, fd, F, M, g, b⟩
theorem pe_calIK {X : Cx} {k n : Nat} {C : Addr} {x : Str} {ps ks : List Str} {sp : Sp} {e : Expr} {es : List Expr} {kws : List Keyword} {t tk : TA} {p pos : Pos} (C' : CalIK X.prog X.w X.K X.mg X.base k C x ps n ks sp) (hr : Room (k + 1) X.A) (hg : Gl X x) (ha : PA X (e :: es) t) (hkw : PK X kws tk)
    (hall : (backToKw pos (keywordEach kws X.env)).all (·.1.isSome) = true := by rfl) (hks : (backToKw pos (keywordEach kws X.env)).filterMap (·.1) = ks := by rfl) (hdb : (x == ("__debug__" : Str)) = false := by decide)
    (he : starEach (e :: es) X.env = (false, eval e X.env) :: starEach es X.env := by rfl) (hpl : ((backTo pos (starEach (e :: es) X.env)).any (·.1) || (backToKw pos (keywordEach kws X.env)).any (·.1.isNone)) = false := by rfl) :
    PE X (.Call (.Name x p) (e :: es) kws pos) (tMakeN C n ks.length sp (fun vs zs => vs ++ zs) (fun _ _ _ => False) t tk) := by
  obtain ⟨f, fd, F, M, g, b⟩ := C'
  refine ⟨fun pins s σ H Q I h => ?_⟩
  refine wpAny_Call_Name_kw (ld_glob I hg g ?_ hdb)
  refine PySem.W.callWith_KW (h₀ := X.base) I.ok.mod.kin M.kp hall (thn (ha.run pos pins s σ H _ I h) fun us s1 ⟨vs, H1, I1, r, q⟩ => ?_) hpl he
  refine thn (hkw.run pos pins s1 σ H1 _ I1 q) fun ws s2 ⟨zs, H2, I2, rz, l1, l2, q2⟩ => ⟨I2.kIn, ?_⟩
  rw [hks]
  exact run_makeN M F hr b pass0 I2 r rz l1 l2 q2
end Lm

set_option Elab.async false
set_option linter.all false
set_option maxRecDepth 100000
set_option maxHeartbeats 2000000
namespace Lm
open PySem PySem.Spec PyProof.Rows L2 LmR
/-! ### a == b of two objects of a class with an own __eq__ -/
def rEqO (C : Addr) (sp : Sp) : R2 := fun x y H Q => ∃ a b dx fs dy gs, x = .ref a ∧ y = .ref b ∧ H a = some (.ins C dx fs) ∧ H b = some (.ins C dy gs) ∧ sp [.ref a, .ref b] H (fun v H' => ∃ c, v = .bl c ∧ Q (.bl c) H') (fun _ _ _ => False)
section
variable {X : Cx} {k : Nat} {C : Addr} {ps : List Str} {sp : Sp}
theorem op_eqO (M : CalM X.prog X.w X.K X.mg X.base k C "__eq__" ps sp) (hr : Room (k + 1) X.A) : OpR X (compareOp .Eq) (rEqO C sp) := by
  intro pins s σ H x y v u Q I rx ry h
  obtain ⟨a, b, dx, fs, dy, gs, rfl, rfl, ha, hb, hsp⟩ := h
  cases rx
  cases ry
  obtain ⟨mA, J, _⟩ := ins_get I.hok ha
  obtain ⟨od, J, _⟩ := J.look
  obtain ⟨mB, JB, _⟩ := ins_get I.hok hb
  obtain ⟨odB, JB, _⟩ := JB.look
  obtain ⟨m, hF⟩ := I.fr
  obtain ⟨f, fd, F, g, bd⟩ := M
  have hl := F.len _ _ _ _ hsp
  have un := hr.un
  refine PySem.W.cmp_K (op := .Eq) (by omega) hF I.ok.mod.kin J JB.type (by unfold PySem.W.notFirst; simp) g.at_ g.fn ?_
  refine wpAny_call (codeAny_mono (F.run X.A X.stack s H ⟨[.ref a, .ref b], []⟩ [.ref a, .ref b] [.ref a, .ref b] _ (fun _ _ _ => False) (hr.mono (by omega)) I.env0 (by
    have := bd s [.ref a, .ref b] I.kIn (by simpa using hl)
    simpa using this) (.cons rfl (.cons rfl .nil)) hsp) fun r s' hq => ?_)
  cases r with
  | error e => exact (pass0 pins σ H s e s' I hq : X.xe e s')
  | ok fl =>
    cases fl with
    | ret w =>
      obtain ⟨z, H', I', rz, c, ez, q⟩ := I.after hq
      subst ez
      cases rz
      exact ⟨.bl c, H', I', rfl, q⟩
    | next => exact False.elim hq
    | brk => exact False.elim hq
    | cont => exact False.elim hq
end
end Lm

set_option Elab.async false
set_option linter.all false
set_option maxRecDepth 100000
set_option maxHeartbeats 2000000
namespace Lm
open PySem PySem.Spec PyProof.Rows L2 LmR
/-! ### numbers lowered by rows, turn by turn; by whom, and where it ends -/
structure BFd where
  x : Nat → Int
  by_ : Sums
  pl : Option Nat
def stB (n : Nat) (s : BFd) (e : Edge) : BFd :=
  if s.x e.2.1 + e.2.2 < s.x e.1 then ⟨fun a => if a = e.1 then s.x e.2.1 + e.2.2 else s.x a, fun a => if a = e.1 then some (n : Int) else s.by_ a, some e.1⟩ else s
def rowsB (R : List Edge) (s : BFd) : Nat → BFd
  | 0 => s
  | k + 1 => match R[k]? with
    | some e => stB k (rowsB R s k) e
    | none => rowsB R s k
def b0 : BFd := ⟨fun _ => 0, fun _ => none, none⟩
def turnsB (R : List Edge) : Nat → BFd
  | 0 => b0
  | t + 1 => rowsB R (turnsB R t) R.length
structure BInv (R : List Edge) (T k : Nat) (s : BFd) (last : Nat → Nat) : Prop where
  le : ∀ a, last a ≤ T
  no : ∀ a, s.by_ a = none → last a = 0
  by_ : ∀ a z, s.by_ a = some z → ∃ n : Nat, z = n ∧ ∃ e, R[n]? = some e ∧ e.1 = a ∧ last a ≤ last e.2.1 + 1
  row : ∀ n e, R[n]? = some e → s.x e.1 ≤ s.x e.2.1 + e.2.2 ∨ (if n < k then T else T - 1) ≤ last e.2.1
  pl : ∀ p, s.pl = some p → ∀ a, last a ≤ last p
  pn : s.pl = none → ∀ a, last a = 0
theorem BInv.step {R : List Edge} {T k : Nat} {s : BFd} {last : Nat → Nat} (h : BInv R T k s last) {e : Edge} (he : R[k]? = some e) : ∃ last', BInv R T (k + 1) (stB k s e) last' := by
  unfold stB
  by_cases hf : s.x e.2.1 + e.2.2 < s.x e.1
  · rw [if_pos hf]
    have hj : T - 1 ≤ last e.2.1 := by
      rcases h.row k e he with z | z
      · omega
      · rw [if_neg (Nat.lt_irrefl k)] at z
        exact z
    have up : ∀ a, last a ≤ if a = e.1 then T else last a := fun a => by
      split
      · exact h.le a
      · exact Nat.le_refl _
    refine ⟨fun a => if a = e.1 then T else last a, ⟨fun a => ?_, fun a ha => ?_, fun a z hz => ?_, fun n e' hn => ?_, fun p hp a => ?_, fun hp => ?_⟩⟩
    · show (if a = e.1 then T else last a) ≤ T
      split
      · exact Nat.le_refl _
      · exact h.le a
    · have ha' : (if a = e.1 then some (k : Int) else s.by_ a) = none := ha
      show (if a = e.1 then T else last a) = 0
      by_cases c : a = e.1
      · rw [if_pos c] at ha'; cases ha'
      · rw [if_neg c] at ha' ⊢; exact h.no a ha'
    · have hz' : (if a = e.1 then some (k : Int) else s.by_ a) = some z := hz
      by_cases c : a = e.1
      · rw [if_pos c] at hz'
        refine ⟨k, (Option.some.inj hz').symm, e, he, c.symm, ?_⟩
        show (if a = e.1 then T else last a) ≤ (if e.2.1 = e.1 then T else last e.2.1) + 1
        rw [if_pos c]
        split <;> omega
      · rw [if_neg c] at hz'
        obtain ⟨n, hz2, e', h1, h2, h3⟩ := h.by_ a z hz'
        refine ⟨n, hz2, e', h1, h2, ?_⟩
        show (if a = e.1 then T else last a) ≤ (if e'.2.1 = e.1 then T else last e'.2.1) + 1
        rw [if_neg c]
        have := up e'.2.1
        omega
    · show (if e'.1 = e.1 then s.x e.2.1 + e.2.2 else s.x e'.1) ≤ (if e'.2.1 = e.1 then s.x e.2.1 + e.2.2 else s.x e'.2.1) + e'.2.2 ∨ _ ≤ if e'.2.1 = e.1 then T else last e'.2.1
      by_cases c : e'.2.1 = e.1
      · right
        rw [if_pos c]
        split <;> omega
      · rw [if_neg c, if_neg c]
        by_cases cn : n = k
        · subst cn
          rw [he] at hn
          cases hn
          left
          rw [if_pos rfl]
          omega
        · rcases h.row n e' hn with z | z
          · left
            split
            · next q => rw [q] at z; omega
            · exact z
          · right
            have iff : (n < k + 1) = (n < k) := propext ⟨fun y => by omega, fun y => by omega⟩
            simp only [iff]
            exact z
    · have hp' : some e.1 = some p := hp
      cases hp'
      show (if a = e.1 then T else last a) ≤ (if e.1 = e.1 then T else last e.1)
      rw [if_pos rfl]
      split
      · exact Nat.le_refl _
      · exact h.le a
    · cases (show some e.1 = none from hp)
  · rw [if_neg hf]
    refine ⟨last, ⟨h.le, h.no, h.by_, fun n e' hn => ?_, h.pl, h.pn⟩⟩
    by_cases cn : n = k
    · subst cn
      rw [he] at hn
      cases hn
      left
      omega
    · have iff : (n < k + 1) = (n < k) := propext ⟨fun y => by omega, fun y => by omega⟩
      simp only [iff]
      exact h.row n e' hn
theorem BInv.rows {R : List Edge} {T : Nat} {s : BFd} {last : Nat → Nat} (h : BInv R T 0 s last) : ∀ k, k ≤ R.length → ∃ last', BInv R T k (rowsB R s k) last'
  | 0, _ => ⟨last, h⟩
  | k + 1, hk => by
    obtain ⟨l1, h1⟩ := h.rows k (by omega)
    have he : R[k]? = some R[k] := List.getElem?_eq_getElem (by omega)
    have e : rowsB R s (k + 1) = stB k (rowsB R s k) R[k] := by
      show (match R[k]? with | some e => stB k (rowsB R s k) e | none => rowsB R s k) = _
      rw [he]
    rw [e]
    exact h1.step he
theorem BInv.turns (R : List Edge) : ∀ t, ∃ last, BInv R (t + 1) 0 (turnsB R t) last
  | 0 => ⟨fun _ => 0, ⟨fun _ => Nat.zero_le _, fun _ _ => rfl, fun _ _ z => (nomatch z), fun n e _ => .inr (by rw [if_neg (Nat.not_lt_zero n)]; omega), fun _ z => (nomatch z), fun _ _ => rfl⟩⟩
  | t + 1 => by
    obtain ⟨l, h⟩ := BInv.turns R t
    obtain ⟨l1, h1⟩ := h.rows R.length (Nat.le_refl _)
    refine ⟨l1, ⟨fun a => by have := h1.le a; omega, h1.no, h1.by_, fun n e hn => ?_, h1.pl, h1.pn⟩⟩
    have hl : n < R.length := by
      rcases Nat.lt_or_ge n R.length with z | z
      · exact z
      · rw [List.getElem?_eq_none z] at hn; cases hn
    rcases h1.row n e hn with z | z
    · exact .inl z
    · right
      rw [if_pos hl] at z
      rw [if_neg (Nat.not_lt_zero n)]
      omega
theorem pigeon : ∀ (m : Nat) (f : Nat → Nat), (∀ k, k ≤ m + 1 → f k ≤ m) → ∃ a b, a < b ∧ b ≤ m + 1 ∧ f a = f b
  | 0, f, h => ⟨0, 1, by omega, by omega, by have := h 0 (by omega); have := h 1 (by omega); omega⟩
  | m + 1, f, h => by
    by_cases c : ∃ k, k ≤ m + 1 ∧ f k = f (m + 2)
    · obtain ⟨k, hk, e⟩ := c
      exact ⟨k, m + 2, by omega, by omega, e⟩
    · have no : ∀ k, k ≤ m + 1 → f k ≠ f (m + 2) := fun k hk e => c ⟨k, hk, e⟩
      have hv := h (m + 2) (by omega)
      obtain ⟨a, b, h1, h2, h3⟩ := pigeon m (fun k => if f k = m + 1 then f (m + 2) else f k) (fun k hk => by
        show (if f k = m + 1 then f (m + 2) else f k) ≤ m
        have n1 := no k hk
        have n2 := h k (by omega)
        split <;> omega)
      refine ⟨a, b, h1, by omega, ?_⟩
      have n1 := no a (by omega)
      have n2 := no b (by omega)
      have h3' : (if f a = m + 1 then f (m + 2) else f a) = (if f b = m + 1 then f (m + 2) else f b) := h3
      split at h3' <;> split at h3' <;> omega
def nxtB (R : List Edge) (s : BFd) (a : Nat) : Nat := match s.by_ a with
  | some z => match R[z.toNat]? with
    | some e => e.2.1
    | none => a
  | none => a
def qB (R : List Edge) (s : BFd) (p : Nat) : Nat → Nat
  | 0 => p
  | k + 1 => nxtB R s (qB R s p k)
/-- from here a row leads on -/
def OnB (R : List Edge) (s : BFd) (a : Nat) : Prop := ∃ n : Nat, s.by_ a = some (n : Int) ∧ ∃ e, R[n]? = some e ∧ e.1 = a ∧ nxtB R s a = e.2.1
theorem bf_end {R : List Edge} {m : Nat} (hR : ∀ e ∈ R, e.1 ≤ m ∧ e.2.1 ≤ m) (hneg : ∃ a t, t < 0 ∧ Wlk R a a t) :
    ∃ p, (turnsB R (m + 1)).pl = some p ∧ (∀ k, OnB R (turnsB R (m + 1)) (qB R (turnsB R (m + 1)) p k)) ∧ ∃ d, 1 ≤ d ∧ d ≤ m + 1 ∧ qB R (turnsB R (m + 1)) p (m + 1 + d) = qB R (turnsB R (m + 1)) p (m + 1) := by
  obtain ⟨last, h0⟩ := BInv.turns R m
  obtain ⟨last, h⟩ := h0.rows R.length (Nat.le_refl _)
  have hs : rowsB R (turnsB R m) R.length = turnsB R (m + 1) := rfl
  rw [hs] at h
  generalize turnsB R (m + 1) = s at h hs
  have on : ∀ a, 1 ≤ last a → OnB R s a ∧ last a ≤ last (nxtB R s a) + 1 := fun a ha => by
    cases e : s.by_ a with
    | none => have := h.no a e; omega
    | some z =>
      obtain ⟨n, rfl, e', h1, h2, h3⟩ := h.by_ a z e
      have en : nxtB R s a = e'.2.1 := by
        unfold nxtB
        rw [e]
        show (match R[((n : Nat) : Int).toNat]? with | some e => e.2.1 | none => a) = _
        rw [show ((n : Nat) : Int).toNat = n by omega, h1]
      exact ⟨⟨n, e, e', h1, h2, en⟩, by rw [en]; exact h3⟩
  have top : ∃ a, last a = m + 1 := by
    refine Classical.byContradiction fun z => ?_
    have lt : ∀ a, last a < m + 1 := fun a => by
      have := h.le a
      rcases Nat.lt_or_ge (last a) (m + 1) with y | y
      · exact y
      · exact absurd ⟨a, by omega⟩ z
    have kp : KeepsF s.x R := fun e he => by
      obtain ⟨n, hn, rfl⟩ := List.mem_iff_getElem.mp he
      rcases h.row n R[n] (List.getElem?_eq_getElem hn) with y | y
      · exact y
      · rw [if_pos hn] at y
        have := lt R[n].2.1
        omega
    obtain ⟨a, t, ht, w⟩ := hneg
    have := w.keeps kp
    omega
  obtain ⟨a0, ha0⟩ := top
  cases hp : s.pl with
  | none => have := h.pn hp a0; omega
  | some p =>
    have lp : m + 1 ≤ last p := by have := h.pl p hp a0; omega
    have lq : ∀ k, k ≤ m + 1 → m + 1 ≤ last (qB R s p k) + k := fun k => by
      induction k with
      | zero => intro _; exact lp
      | succ k ih =>
        intro hk
        have i := ih (by omega)
        have o := (on (qB R s p k) (by omega)).2
        show m + 1 ≤ last (nxtB R s (qB R s p k)) + (k + 1)
        omega
    have o1 : ∀ k, k ≤ m → OnB R s (qB R s p k) := fun k hk => (on _ (by have := lq k (by omega); omega)).1
    have le : ∀ k, k ≤ m + 1 → qB R s p k ≤ m := fun k hk => by
      cases k with
      | zero =>
        obtain ⟨n, _, e, h1, h2, _⟩ := o1 0 (by omega)
        rw [← h2]
        exact (hR e (List.mem_of_getElem? h1)).1
      | succ k =>
        obtain ⟨n, _, e, h1, h2, h3⟩ := o1 k (by omega)
        show nxtB R s (qB R s p k) ≤ m
        rw [h3]
        exact (hR e (List.mem_of_getElem? h1)).2
    obtain ⟨a, b, hab, hb, e⟩ := pigeon m (qB R s p) le
    have rep : ∀ j, qB R s p (a + j) = qB R s p (b + j) := fun j => by
      induction j with
      | zero => exact e
      | succ j ih =>
        show nxtB R s (qB R s p (a + j)) = nxtB R s (qB R s p (b + j))
        rw [ih]
    have all : ∀ n k, k ≤ n → OnB R s (qB R s p k) := fun n => by
      induction n with
      | zero => intro k hk; exact o1 k (by omega)
      | succ n ih =>
        intro k hk
        by_cases c : k ≤ m
        · exact o1 k c
        · have r := rep (k - b)
          rw [show b + (k - b) = k by omega] at r
          rw [← r]
          exact ih _ (by omega)
    refine ⟨p, rfl, fun k => all k k (Nat.le_refl _), b - a, by omega, by omega, ?_⟩
    have r := rep (m + 1 - a)
    rw [show a + (m + 1 - a) = m + 1 by omega, show b + (m + 1 - a) = m + 1 + (b - a) by omega] at r
    exact r.symm
end Lm

set_option Elab.async false
set_option linter.all false
set_option maxRecDepth 100000
namespace Lm
/-! ### sums lowered along rows come to rest, where no ring is below nought -/
def wl (R : List Edge) : List Edge → Nat → Nat → Int → Prop
  | [], a, b, t => a = b ∧ t = 0
  | e :: es, a, b, t => e ∈ R ∧ e.1 = a ∧ wl R es e.2.1 b (t - e.2.2)
def nd : Nat → List Edge → Nat → Nat
  | a, [], _ => a
  | a, _ :: _, 0 => a
  | _, e :: es, k + 1 => nd e.2.1 es k
theorem nd_nil (a k : Nat) : nd a [] k = a := by cases k <;> rfl
theorem nd_zero (a : Nat) (es : List Edge) : nd a es 0 = a := by cases es <;> rfl
theorem nd_drop : ∀ (es : List Edge) (a i k : Nat), nd (nd a es i) (es.drop i) k = nd a es (i + k)
  | [], a, i, k => by rw [List.drop_nil, nd_nil, nd_nil, nd_nil]
  | e :: es, a, 0, k => by rw [nd_zero, Nat.zero_add]; rfl
  | e :: es, a, i + 1, k => by
    rw [show i + 1 + k = (i + k) + 1 by omega]
    exact nd_drop es e.2.1 i k
theorem wl_walk {R : List Edge} : ∀ (es : List Edge) {a b : Nat} {t : Int}, wl R es a b t → Wlk R a b t
  | [], a, b, t, h => by
    obtain ⟨rfl, rfl⟩ := h
    exact .nil _
  | e :: es, a, b, t, h => by
    obtain ⟨h1, rfl, h3⟩ := h
    have z := Wlk.cons (show (e.1, e.2.1, e.2.2) ∈ R from h1) (wl_walk es h3)
    rw [show e.2.2 + (t - e.2.2) = t by omega] at z
    exact z
theorem walk_wl {R : List Edge} {a b : Nat} {t : Int} (h : Wlk R a b t) : ∃ es, wl R es a b t := by
  induction h with
  | nil a => exact ⟨[], rfl, rfl⟩
  | @cons a b c w t h _ ih =>
    obtain ⟨es, q⟩ := ih
    refine ⟨(a, c, w) :: es, h, rfl, ?_⟩
    show wl R es c b (w + t - w)
    rw [show w + t - w = t by omega]
    exact q
theorem wl_app {R : List Edge} : ∀ (es : List Edge) {fs : List Edge} {a c b : Nat} {t u : Int}, wl R es a c t → wl R fs c b u → wl R (es ++ fs) a b (t + u)
  | [], fs, a, c, b, t, u, h, q => by
    obtain ⟨rfl, rfl⟩ := h
    rw [Int.zero_add]
    exact q
  | e :: es, fs, a, c, b, t, u, h, q => by
    obtain ⟨h1, h2, h3⟩ := h
    refine ⟨h1, h2, ?_⟩
    rw [show t + u - e.2.2 = (t - e.2.2) + u by omega]
    exact wl_app es h3 q
theorem wl_cut {R : List Edge} : ∀ (es : List Edge) {a b : Nat} {t : Int} (k : Nat), wl R es a b t → ∃ t1 t2, wl R (es.take k) a (nd a es k) t1 ∧ wl R (es.drop k) (nd a es k) b t2 ∧ t = t1 + t2
  | [], a, b, t, k, h => by
    rw [List.take_nil, List.drop_nil, nd_nil]
    exact ⟨0, t, ⟨rfl, rfl⟩, h, by omega⟩
  | e :: es, a, b, t, 0, h => ⟨0, t, ⟨rfl, rfl⟩, h, by omega⟩
  | e :: es, a, b, t, k + 1, h => by
    obtain ⟨h1, h2, h3⟩ := h
    obtain ⟨t1, t2, q1, q2, q3⟩ := wl_cut es k h3
    refine ⟨t1 + e.2.2, t2, ⟨h1, h2, ?_⟩, q2, by omega⟩
    rw [show t1 + e.2.2 - e.2.2 = t1 by omega]
    exact q1
theorem nd_le {R : List Edge} {m : Nat} (hR : ∀ e ∈ R, e.1 ≤ m ∧ e.2.1 ≤ m) : ∀ (es : List Edge) {a b : Nat} {t : Int} (k : Nat), a ≤ m → wl R es a b t → nd a es k ≤ m
  | [], a, b, t, k, ha, _ => by rw [nd_nil]; exact ha
  | e :: es, a, b, t, 0, ha, _ => by rw [nd_zero]; exact ha
  | e :: es, a, b, t, k + 1, ha, h => nd_le hR es k (hR e h.1).2 h.2.2
theorem wl_short {R : List Edge} {m : Nat} {D : Mat} (C : Clo R m D) : ∀ (n : Nat) (es : List Edge) {a b : Nat} {t : Int}, es.length ≤ n → a ≤ m → wl R es a b t → ∃ es' t', es'.length ≤ m ∧ wl R es' a b t' ∧ t' ≤ t
  | 0, es, a, b, t, hl, ha, h => ⟨es, t, by omega, h, Int.le_refl _⟩
  | n + 1, es, a, b, t, hl, ha, h => by
    by_cases c : es.length ≤ m
    · exact ⟨es, t, c, h, Int.le_refl _⟩
    obtain ⟨i, j, ij, jm, e⟩ := pigeon m (nd a es) fun k _ => nd_le C.ed es k ha h
    obtain ⟨t1, t2, q1, q2, q3⟩ := wl_cut es i h
    obtain ⟨u1, u2, r1, r2, r3⟩ := wl_cut (es.drop i) (j - i) q2
    rw [nd_drop, show i + (j - i) = j by omega, ← e] at r1 r2
    have nn := C.noneg (wl_walk _ r1) (nd_le C.ed es i ha h)
    rw [List.drop_drop, show i + (j - i) = j by omega] at r2
    obtain ⟨es', t', z1, z2, z3⟩ := wl_short C n (es.take i ++ es.drop j) (by rw [List.length_append, List.length_take, List.length_drop]; omega) ha (wl_app _ q1 r2)
    exact ⟨es', t', z1, z2, by omega⟩
theorem st_le {p : Sums × Bool} {e : Edge} {a : Nat} {x : Int} (h : leO (p.1 a) x) : leO ((stE p e).1 a) x := by
  unfold stE
  cases ej : p.1 e.2.1 with
  | none => exact h
  | some y =>
    cases ei : p.1 e.1 with
    | none =>
      show leO (if a = e.1 then some (y + e.2.2) else p.1 a) x
      split
      · rename_i z
        obtain ⟨d, q, _⟩ := h
        rw [z, ei] at q
        cases q
      · exact h
    | some z =>
      simp only
      split
      · rename_i lt
        show leO (if a = e.1 then some (y + e.2.2) else p.1 a) x
        split
        · rename_i w
          obtain ⟨d, q, l⟩ := h
          rw [w, ei] at q
          cases q
          exact ⟨_, rfl, by omega⟩
        · exact h
      · exact h
theorem st_edge {p : Sums × Bool} {e : Edge} {y : Int} (h : leO (p.1 e.2.1) y) : leO ((stE p e).1 e.1) (y + e.2.2) := by
  obtain ⟨d, ed, l⟩ := h
  unfold stE
  rw [ed]
  cases ei : p.1 e.1 with
  | none => exact ⟨d + e.2.2, if_pos rfl, by omega⟩
  | some z =>
    simp only
    split
    · exact ⟨d + e.2.2, if_pos rfl, by omega⟩
    · exact ⟨z, ei, by omega⟩
theorem fold_le {a : Nat} {x : Int} : ∀ (l : List Edge) (p : Sums × Bool), leO (p.1 a) x → leO ((l.foldl stE p).1 a) x
  | [], _, h => h
  | e :: l, p, h => fold_le l (stE p e) (st_le h)
theorem fold_edge {e : Edge} {y : Int} : ∀ (l : List Edge) (p : Sums × Bool), e ∈ l → leO (p.1 e.2.1) y → leO ((l.foldl stE p).1 e.1) (y + e.2.2)
  | [], _, he, _ => absurd he (by simp)
  | f :: l, p, he, h => by
    rcases List.mem_cons.mp he with z | z
    · rw [← z]
      exact fold_le l (stE p e) (st_edge h)
    · exact fold_edge l (stE p f) z (st_le h)
theorem it_wl {R : List Edge} {b : Nat} : ∀ (t : Nat) (es : List Edge) {a : Nat} {w : Int}, es.length ≤ t → wl R es a b w → leO ((itF R (s0F b) t).1 a) w
  | t, [], a, w, _, h => by
    obtain ⟨rfl, rfl⟩ := h
    exact (WS.it t).2
  | 0, e :: es, a, w, hl, _ => absurd hl (by simp)
  | t + 1, e :: es, a, w, hl, h => by
    obtain ⟨h1, rfl, h3⟩ := h
    have z := fold_edge R ((itF R (s0F b) t).1, false) h1 (it_wl t es (by simpa using hl) h3)
    rw [show w - e.2.2 + e.2.2 = w by omega] at z
    exact z
theorem fold_rest {S : Sums} : ∀ (l : List Edge), (∀ e ∈ l, stE (S, false) e = (S, false)) → l.foldl stE (S, false) = (S, false)
  | [], _ => rfl
  | e :: l, h => by
    rw [List.foldl_cons, h e List.mem_cons_self]
    exact fold_rest l fun f hf => h f (List.mem_cons_of_mem _ hf)
theorem rest_of {R : List Edge} {m : Nat} {D : Mat} (C : Clo R m D) {b : Nat} (hb : b ≤ m) : (itF R (s0F b) (m + 2)).2 = false := by
  have eq : ∀ a, a ≤ m → (itF R (s0F b) (m + 1)).1 a = D a b := fun a ha => by
    have ws := WS.it (R := R) (b := b) (m + 1)
    cases e : D a b with
    | none =>
      cases e2 : (itF R (s0F b) (m + 1)).1 a with
      | none => rfl
      | some x =>
        obtain ⟨d, z, _⟩ := C.walk (ws.1 a x e2) hb ha
        rw [e] at z; cases z
    | some d =>
      obtain ⟨es, h⟩ := walk_wl (C.w a b d e)
      obtain ⟨es', t', l', h', le'⟩ := wl_short C es.length es (Nat.le_refl _) ha h
      obtain ⟨x, ex, lx⟩ := it_wl (m + 1) es' (by omega) h'
      obtain ⟨d', z, l2⟩ := C.walk (ws.1 a x ex) hb ha
      rw [e] at z; cases z
      rw [ex]
      congr 1
      omega
  show (R.foldl stE ((itF R (s0F b) (m + 1)).1, false)).2 = false
  rw [fold_rest R fun e he => ?_]
  obtain ⟨e1, e2⟩ := C.ed e he
  unfold stE
  simp only
  rw [eq _ e1, eq _ e2]
  cases ej : D e.2.1 b with
  | none => rfl
  | some y =>
    obtain ⟨x, ex, lx⟩ := C.e e he
    obtain ⟨z, ez, lz⟩ := C.t _ _ _ _ _ e1 hb e2 ex ej
    rw [ez]
    simp only
    rw [if_neg (by omega)]
theorem follow_same {R R' : List Edge} {m : Nat} {D D' : Mat} (C : Clo R m D) (C' : Clo R' m D') : ((∀ e ∈ R, leO (D' e.1 e.2.1) e.2.2) ∧ (∀ e ∈ R', leO (D e.1 e.2.1) e.2.2)) ↔ ∀ a b, a ≤ m → b ≤ m → D a b = D' a b := by
  have one : ∀ {R R' : List Edge} {D D' : Mat}, Clo R m D → Clo R' m D' → (∀ e ∈ R, leO (D' e.1 e.2.1) e.2.2) → ∀ a b d, a ≤ m → b ≤ m → D a b = some d → leO (D' a b) d := fun {R R' D D'} C C' h a b d ha hb e => by
    have w : ∀ {a t}, a ≤ m → Wlk R a b t → leO (D' a b) t := fun {a t} ha w => by
      induction w with
      | nil a => exact ⟨0, C'.z a ha, Int.le_refl _⟩
      | cons h' _ ih =>
        have hc := C.ed _ h'
        obtain ⟨y, ey, ly⟩ := ih hb e hc.2
        obtain ⟨x, ex, lx⟩ := h _ h'
        exact (C'.t _ _ _ _ _ hc.1 hb hc.2 ex ey).le (by simp only at lx; omega)
    exact w ha (C.w a b d e)
  constructor
  · rintro ⟨h, h'⟩ a b ha hb
    cases e : D a b with
    | none =>
      cases e' : D' a b with
      | none => rfl
      | some d =>
        obtain ⟨x, ex, _⟩ := one C' C h' a b d ha hb e'
        rw [e] at ex; cases ex
    | some d =>
      obtain ⟨x, ex, lx⟩ := one C C' h a b d ha hb e
      obtain ⟨y, ey, ly⟩ := one C' C h' a b x ha hb ex
      rw [e] at ey; cases ey
      rw [ex]
      congr 1
      omega
  · intro h
    refine ⟨fun e he => ?_, fun e he => ?_⟩
    · obtain ⟨e1, e2⟩ := C.ed e he
      rw [← h _ _ e1 e2]
      exact C.e e he
    · obtain ⟨e1, e2⟩ := C'.ed e he
      rw [h _ _ e1 e2]
      exact C'.e e he
end Lm

set_option Elab.async false
set_option linter.all false
set_option maxRecDepth 100000
set_option maxHeartbeats 2000000
namespace Lm
open PySem PySem.Spec PyProof.Rows L2 LmR
/-! ### own objects with an own __eq__: a != b, x in [..], == with what is of another sort -/
structure NeC (K : PySem.W.Frag) (C : Addr) : Prop where
  ne : PySem.W.findIn K (.ref C) "__ne__" = some (some (.builtin "object.__ne__"))
  hm : PySem.W.mroIn K C (.type "object") = some true
  isc : PySem.W.isClsIn K C = true
  ty : PySem.W.typeIn K (.ref C) = some (.type "type")
  nN : PySem.W.mroIn K C (.type "NoneType") = some false
  nI : PySem.W.mroIn K C (.type "int") = some false
  nS : PySem.W.mroIn K C (.type "str") = some false
  nT : PySem.W.mroIn K C (.type "tuple") = some false
section
variable {prog : Program} {w : World} {A : Around} {E : Value → Shared → Prop} {s : Shared} {K : PySem.W.Frag} {x C f : Addr} {ox : Obj} {od : Option Obj}
theorem bound_slot {name : Str} {B id : String} {args : List Value} {Q : Option Value → Shared → Prop} (X : K.In s.heap) (I : PySem.W.InstAt s.heap x ox C od) (hs : PySem.W.findIn K (.ref C) name = some (some (.builtin id))) (S : Slot B name id)
    (h : wpAny (model prog w) A (call (.builtin id) (.ref x :: args)) (fun v => Q (some v)) E s) : wpAny (model prog w) A (callSpecialIfBound? (.ref x) name args) Q E s := by
  simp only [callSpecialIfBound?, bindSpecialIfBound?]
  refine wpAny_holding (wpAny_bind (wpAny_bind (wpAny_bind (I.type.here ((PySem.W.looks_findIn X hs).here ?_)))))
  simp only [S.bind]
  have k : wpAny (model prog w) A (call (.builtin id) ([.ref x] ++ args) >>= fun v => pure (some v)) Q E s := wpAny_bind (thn h fun v s' q => wpAny_pure q)
  refine wpAny_bind (wpAny_askSetting (wpAny_ite ?_))
  split
  · exact wpAny_bind (wpAny_pure (wpAny_pure k))
  · exact wpAny_tryCatch (wpAny_bind (wpAny_pure (wpAny_pure k)))
theorem check_own {id owner n : String} {rest : List Value} {Q : Unit → Shared → Prop} (X : K.In s.heap) (I : PySem.W.InstAt s.heap x ox C od) (hk : builtinKind id = some .slot) (hs : splitId id = some (owner, n)) (ha : argsOk id ⟨.ref x :: rest, []⟩)
    (hm : PySem.W.mroIn K C (.type owner) = some true) (hq : Q () s) : wpAny (model prog w) A (checkBuiltinCall id ⟨.ref x :: rest, []⟩) Q E s := by
  simp only [checkBuiltinCall, hk, hs]
  refine wpAny_bind ?_
  unfold isInstance
  refine wpAny_bind (I.type.here ((PySem.W.looks_mroIn X hm).here ?_))
  simp only [Bool.not_true, Bool.false_eq_true, if_false]
  try refine wpAny_pure ?_
  cases e : Manifest.signature? id with
  | none => exact wpAny_pure hq
  | some g =>
    simp only [argsOk, e] at ha
    have z : Bind.checkArgs id g ⟨.ref x :: rest, []⟩ = pure () := ha
    exact wpAny_of_eq z hq
theorem ne_entry {y : Value} {Q : Fin → Shared → Prop} (X : K.In s.heap) (I : PySem.W.InstAt s.heap x ox C od) (hu : A.units < cLine) (hs : PySem.W.findIn K (.ref C) "__eq__" = some (some (.ref f))) (hf : PySem.W.isFn K (.ref f) = true)
    (h : wpAny (model prog w) A (call (.ref f) [.ref x, y]) (fun v s' => ∃ b, v = .bool b ∧ Q (.done (.ret (.bool (!b)))) s') E s) : wpAny (model prog w) A (Builtin.«object.__ne__» ⟨[.ref x, y], []⟩) Q E s := by
  unfold Builtin.«object.__ne__»
  refine wpAny_bind (wpAny_pure (a := (Value.ref x, [y])) ?_)
  refine wpAny_bind (wpAny_cRoomFor hu ?_)
  refine wpAny_bind (PySem.W.ifBound_K X I hs hf (thn h fun v s' q => ?_))
  obtain ⟨b, rfl, q⟩ := q
  exact wpAny_bind (wpAny_truthy_bool (wpAny_pure q))
theorem rc_ne {b : Addr} {ob : Obj} {odb : Option Obj} {Q : Value → Shared → Prop} (N : NeC K C) (X : K.In s.heap) (I : PySem.W.InstAt s.heap x ox C od) (J : PySem.W.InstAt s.heap b ob C odb) (hu : A.units + 1 < cLine) (hs : PySem.W.findIn K (.ref C) "__eq__" = some (some (.ref f))) (hf : PySem.W.isFn K (.ref f) = true)
    (h : wpAny (model prog w) A.in1 (call (.ref f) [.ref x, .ref b]) (fun v s' => ∃ c, v = .bool c ∧ Q (.bool (!c)) s') E s) : wpAny (model prog w) A (compareOp .NotEq (.ref x) (.ref b)) Q E s := by
  show wpAny (model prog w) A (richCompare .NotEq (.ref x) (.ref b)) Q E s
  unfold richCompare
  simp only [oneThing_ref]
  refine wpAny_holding (wpAny_bind (wpAny_cRoomFor (Nat.lt_of_succ_lt hu) ?_))
  rw [cmpInfo_NotEq]
  dsimp only
  refine wpAny_bind (I.type.here (wpAny_bind (J.type.here ?_)))
  rw [show (Value.ref C != Value.ref C) = false from by simp]
  simp only [Bool.false_eq_true, if_false]
  refine wpAny_bind (wpAny_pure ?_)
  simp only [Bool.false_eq_true, if_false]
  refine wpAny_bind (m := tryCompare (.ref x) "__ne__" (.ref b)) ?_
  unfold tryCompare
  refine wpAny_bind (bound_slot X I N.ne PySem.F.cmp_object.ne (wpAny_call (codeAny_call_builtin PySem.F.cmp_object.ne.plain PySem.F.cmpEntry_ne
    (check_own X I PySem.F.cmpKind_ne PySem.F.cmpSplit_ne (PySem.F.cmpArgs_ne _ _) N.hm (ne_entry (A := A.in1) X I hu hs hf (thn h fun v s' q => ?_))))))
  obtain ⟨c, rfl, q⟩ := q
  exact ⟨c, rfl, wpAny_pure (wpAny_pure q)⟩
/-! x in [..] by the items' own words -/
theorem in_loop {l : Addr} {v : Value} {n : Nat} {R : Result → Shared → Prop} (J : Nat → Shared → Prop)
    (hJ : ∀ i s, J i s → ∃ its : Array Value, s.heap.IsList l its ∧ its.size = n ∧ ∀ (hi : i < its.size), wpAny (model prog w) A.in1 (eqBool its[i] v) (fun b s' => if b then R (.ok (.ret (.bool true))) s' else J (i + 1) s') (fun e s' => R (.error e) s') s)
    (hE : ∀ s, J n s → R (.ok (.ret (.bool false))) s) : ∀ (k i : Nat) (s : Shared), n - i = k → i ≤ n → J i s →
    wpAny (model prog w) A.in1 (Builtin.«list.__contains__.loop» ⟨[.ref l, v, rawInt i], []⟩) (fun fin s' => match fin with | .done f => R (.ok f) s' | .again c' => c'.quiet = true ∧ codeAny (model prog w) A c' R s') (fun e s' => R (.error e) s') s := by
  intro k
  induction k with
  | zero =>
    intro i s hk hi j
    obtain ⟨its, hl, e, _⟩ := hJ i s j
    have hin : i = n := by omega
    subst hin
    have q := hE s j
    obtain ⟨hp, g, d, tk, os⟩ := s
    obtain ⟨⟨cls, dd, data, sl⟩, ho, hc, m, hd⟩ := id hl
    simp only at hc hd
    subst hc hd
    wp_walk using AutoSeq1.wpAny_loadPart' ho
    rw [show its[((i : Nat) : Int).toNat]? = none by simp; omega]
    wp_walk
    exact q
  | succ k ih =>
    intro i s hk hi j
    obtain ⟨its, hl, e, q⟩ := hJ i s j
    have lt : i < its.size := by omega
    have q := q lt
    obtain ⟨hp, g, d, tk, os⟩ := s
    obtain ⟨⟨cls, dd, data, sl⟩, ho, hc, m, hd⟩ := id hl
    simp only at hc hd
    subst hc hd
    wp_walk using AutoSeq1.wpAny_loadPart' ho
    rw [show its[((i : Nat) : Int).toNat]? = some its[i] by simp [lt]]
    refine wpAny_bind (thn q fun b s' z => ?_)
    cases b with
    | true =>
      wp_walk
      exact z
    | false =>
      wp_walk
      rw [show ((i : Int) + 1) = ((i + 1 : Nat) : Int) by push_cast; rfl]
      exact ⟨plainId_quiet MeetsSeq.plain_contains_loop _, codeAny_builtin MeetsSeq.entry_contains_loop (by
        rw [Around.under_plainId MeetsSeq.plain_contains_loop _]
        exact ih (i + 1) s' (by omega) (by omega) z)⟩
theorem in_own {l : Addr} {v : Value} {n : Nat} {Q : Value → Shared → Prop} (J : Nat → Shared → Prop)
    (hJ : ∀ i s, J i s → ∃ its : Array Value, s.heap.IsList l its ∧ its.size = n ∧ ∀ (hi : i < its.size), wpAny (model prog w) A.in1 (eqBool its[i] v) (fun b s' => if b then Q (.bool true) s' else J (i + 1) s') E s)
    (hE : ∀ s, J n s → Q (.bool false) s) (j : J 0 s) : wpAny (model prog w) A (compareOp .In v (.ref l)) Q E s := by
  obtain ⟨its, hl, e, _⟩ := hJ 0 s j
  obtain ⟨⟨cls, dd, data, sl⟩, ho, hc, m, hd⟩ := id hl
  simp only at hc hd
  subst hc hd
  show wpAny _ A (do return .bool (← contains (.ref l) v)) Q E s
  refine wpAny_bind (PySem.wpAny_contains_slot ⟨_, ho, rfl⟩ F.slot_list_contains (wpAny_mono (Q := fun v s' => ∃ b, v = .bool b ∧ Q (.bool b) s') (E := E) (wpAny_call (codeAny_call_builtin F.slot_list_contains.plain F.entry_list_contains (F.slot_list_contains.check _ _ _ _ _ _ _ _ ⟨_, ho, rfl⟩ (F.args_list_contains_2 _ _) ?_)))
    (fun v s' q => ?_) fun _ _ z => z))
  · have L := in_loop (R := wants (fun v s' => ∃ b, v = .bool b ∧ Q (.bool b) s') E) (l := l) (v := v) (n := n) J (fun i s j => by
      obtain ⟨its, a, b, q⟩ := hJ i s j
      refine ⟨its, a, b, fun hi => thn (q hi) fun c s' z => ?_⟩
      cases c with
      | true => exact ⟨_, rfl, z⟩
      | false => exact z) (fun s j => ⟨_, rfl, hE s j⟩) n 0 s (by omega) (Nat.zero_le _) j
    obtain ⟨hp, g, d, tk, os⟩ := s
    wp_walk using AutoSeq1.wpAny_loadPart' ho
    exact ⟨plainId_quiet MeetsSeq.plain_contains_loop _, codeAny_builtin MeetsSeq.entry_contains_loop (by
      rw [Around.under_plainId MeetsSeq.plain_contains_loop _]
      exact L)⟩
  · obtain ⟨b, rfl, q⟩ := q
    exact wpAny_truthy_bool (wpAny_pure q)
theorem int_own (b : Int) (u : Tok) (l : Addr) (c : Value) (dd : Option Addr) (sl : Array (Option Value)) :
    Meets (Builtin.«int.__eq__» ⟨[.int b u, .ref l], []⟩) (fun _ R s => s.heap.get? l = some { cls := c, dict := dd, data := .plain, slots := sl } ∧ R (.ok (.ret .notImplemented)) s) :=
  .of_wp fun prog w A R s h => by
    obtain ⟨hp, g, d, tk, os⟩ := s
    obtain ⟨hl, q⟩ := h
    wp_walk using AutoSeq1.wpAny_loadPart' hl, wpAny_load hl
    exact ⟨_, rfl, q⟩
theorem str_own (b : Str) (u : Tok) (l : Addr) (c : Value) (dd : Option Addr) (sl : Array (Option Value)) :
    Meets (Builtin.«str.__eq__» ⟨[.str b u, .ref l], []⟩) (fun _ R s => s.heap.get? l = some { cls := c, dict := dd, data := .plain, slots := sl } ∧ R (.ok (.ret .notImplemented)) s) :=
  .of_wp fun prog w A R s h => by
    obtain ⟨hp, g, d, tk, os⟩ := s
    obtain ⟨hl, q⟩ := h
    wp_walk using AutoSeq1.wpAny_loadPart' hl, wpAny_load hl
    exact ⟨_, rfl, q⟩
theorem tup_own (t l : Addr) (its : Array Value) (n : Nat) (dt : Option Addr) (st : Array (Option Value)) :
    Meets (Builtin.«tuple.__eq__» ⟨[.ref t, .ref l], []⟩) (fun _ R s => s.heap.get? t = some { cls := .type "tuple", dict := dt, data := .seq its n, slots := st } ∧ (∃ (K : PySem.W.Frag) (C : Addr) (ox : Obj) (od : Option Obj), K.In s.heap ∧ PySem.W.InstAt s.heap l ox C od ∧ PySem.W.mroIn K C (.type "tuple") = some false) ∧ R (.ok (.ret .notImplemented)) s) :=
  .of_wp fun prog w A R s h => by
    obtain ⟨hp, g, d, tk, os⟩ := s
    obtain ⟨ht, ⟨K, C, ox, od, X, I, hm⟩, q⟩ := h
    have L1 := I.type (M := model prog w)
    have L2 := PySem.W.looks_mroIn (M := model prog w) X hm
    wp_walk using AutoSeq1.wpAny_loadPart' ht, wpAny_load ht, L1.here, L2.here
    exact ⟨_, rfl, q⟩
theorem eq_plain {y : Value} {T id : String} {Q : Bool → Shared → Prop} (X : K.In s.heap) (I : PySem.W.InstAt s.heap x ox C od) (N : PySem.W.mroIn K C (.type T) = some false) (hT : s.TypeIs y T) (hne : (y == Value.ref x) = false) (S : Slot T "__eq__" id)
    (hd : ∀ Q' : Value → Shared → Prop, Q' .notImplemented s → wpAny (model prog w) A (call (.builtin id) [y, .ref x]) Q' E s) (hu : A.units < cLine) (hs : PySem.W.findIn K (.ref C) "__eq__" = some (some (.ref f))) (hf : PySem.W.isFn K (.ref f) = true)
    (h : wpAny (model prog w) A (call (.ref f) [.ref x, y]) (fun v s' => ∃ c, v = .bool c ∧ Q c s') E s) : wpAny (model prog w) A (eqBool y (.ref x)) Q E s := by
  have k : wpAny (model prog w) A (richCompare .Eq y (.ref x)) (fun v s' => ∃ c, v = .bool c ∧ Q c s') E s := by
    unfold richCompare
    simp only [hT.oneThing_none]
    refine wpAny_holding (wpAny_bind (wpAny_cRoomFor hu ?_))
    rw [cmpInfo_Eq]
    dsimp only
    refine wpAny_bind (wpAny_typeOf hT (wpAny_bind (I.type.here ?_)))
    rw [show (Value.type T != Value.ref C) = true from by simp]
    simp only [if_true]
    refine wpAny_bind ((PySem.W.looks_mroIn X N).here ?_)
    simp only [Bool.false_eq_true, if_false, Bool.not_false, if_true]
    refine wpAny_bind (m := tryCompare y _ (.ref x)) (wpAny_tryCompare_declines hT S (hd _ ⟨rfl, ?_⟩))
    refine wpAny_bind (m := tryCompare (.ref x) "__eq__" y) ?_
    unfold tryCompare
    refine wpAny_bind (PySem.W.ifBound_K X I hs hf (thn h fun v s' q => ?_))
    obtain ⟨c, rfl, q⟩ := q
    exact wpAny_pure (wpAny_pure ⟨c, rfl, q⟩)
  unfold eqBool
  refine wpAny_holding ?_
  refine wpAny_ite_split (fun z => absurd z (by rw [hne]; simp)) (fun _ => ?_)
  have fin : wpAny (model prog w) A (richCompare .Eq y (.ref x) >>= truthOfDropped) Q E s := wpAny_bind (thn k fun v s' q => by
    obtain ⟨c, rfl, q⟩ := q
    exact wpAny_truthy_bool q)
  cases y <;> exact fin
theorem eq_self {Q : Bool → Shared → Prop} (h : Q true s) : wpAny (model prog w) A (eqBool (.ref x) (.ref x)) Q E s := by
  unfold eqBool
  refine wpAny_holding ?_
  refine wpAny_ite_split (fun _ => ?_) (fun z => absurd (beq_self_eq_true _) z)
  exact wpAny_bind (wpAny_rule (wpAny_pure h))
theorem eq_refs {b : Addr} {Q : Bool → Shared → Prop} (hne : b ≠ x) (k : wpAny (model prog w) A (richCompare .Eq (.ref b) (.ref x)) (fun v s' => ∃ c, v = .bool c ∧ Q c s') E s) : wpAny (model prog w) A (eqBool (.ref b) (.ref x)) Q E s := by
  unfold eqBool
  refine wpAny_holding ?_
  refine wpAny_ite_split (fun z => absurd (by have := eq_of_beq z; injection this) hne) (fun _ => ?_)
  exact wpAny_bind (thn k fun v s' q => by
    obtain ⟨c, rfl, q⟩ := q
    exact wpAny_truthy_bool q)
end
/-- what is no own object, and is looked for -/
def plnE (H : Hp) (y : V) : Prop := y = .non ∨ (∃ i, y = .int i) ∨ (∃ z, y = .str z) ∨ ∃ p zs, y = .ref p ∧ H p = some (.tup zs)
def inO (C a : Addr) (sp : Sp) : List V → Hp → VK → Prop
  | [], H, Q => Q (.bl false) H
  | y :: ys, H, Q => (y = .ref a ∧ Q (.bl true) H) ∨ (y ≠ .ref a ∧ ∃ x z, ((x = y ∧ z = .ref a ∧ ∃ b dx fs, y = .ref b ∧ H b = some (.ins C dx fs)) ∨ (x = .ref a ∧ z = y ∧ plnE H y)) ∧
      sp [x, z] H (fun v H' => H' = H ∧ ∃ c, v = .bl c ∧ (if c then Q (.bl true) H else inO C a sp ys H Q)) (fun _ _ _ => False))
def rInO (K : PySem.W.Frag) (C : Addr) (sp : Sp) : R2 := fun x y H Q => ∃ a p xs dx fs, x = .ref a ∧ y = .ref p ∧ SqL K H p xs ∧ H a = some (.ins C dx fs) ∧ inO C a sp xs H Q
def rNeO (C : Addr) (sp : Sp) : R2 := fun x y H Q => ∃ a b dx fs dy gs, x = .ref a ∧ y = .ref b ∧ H a = some (.ins C dx fs) ∧ H b = some (.ins C dy gs) ∧ sp [.ref a, .ref b] H (fun v H' => ∃ c, v = .bl c ∧ Q (.bl (!c)) H') (fun _ _ _ => False)
/-- own == list -/
def rEqL (K : PySem.W.Frag) (C : Addr) (sp : Sp) : R2 := fun x y H Q => ∃ a p dx fs ys, x = .ref a ∧ y = .ref p ∧ H a = some (.ins C dx fs) ∧ SqL K H p ys ∧ sp [.ref a, .ref p] H (fun v H' => ∃ c, v = .bl c ∧ Q (.bl c) H') (fun _ _ _ => False)
theorem sub_no (K : PySem.W.Frag) (C : Addr) : PySem.W.subIn K (.type "NoneType") (.ref C) = some false ∧ PySem.W.subIn K (.type "int") (.ref C) = some false ∧ PySem.W.subIn K (.type "str") (.ref C) = some false ∧ PySem.W.subIn K (.type "tuple") (.ref C) = some false ∧ PySem.W.subIn K (.type "list") (.ref C) = some false := ⟨rfl, rfl, rfl, rfl, rfl⟩
theorem NeC.one {K : PySem.W.Frag} {C : Addr} (N : NeC K C) {T : String} (h : PySem.W.subIn K (.type T) (.ref C) = some false) : PySem.W.kitOne K (.type T) (.ref C) = some false := by
  unfold PySem.W.kitOne
  rw [if_neg (by simp)]
  unfold PySem.W.kitCls
  dsimp only
  rw [if_pos (by rw [Bool.and_eq_true]; exact ⟨N.isc, by rw [N.ty]; simp⟩)]
  exact h
section
variable {X : Cx} {k : Nat} {C : Addr} {ps : List Str} {sp : Sp}
theorem call_isTy : CallR X (.builtin "isinstance") (fun xs H Q => ∃ v t C b, xs = [v, .ref C] ∧ TyOf X.K H v t ∧ PySem.W.kitOne X.K t (.ref C) = some b ∧ Q (.bl b) H) := by
  intro pins s σ H xs us Q I r h
  obtain ⟨v, t, C, b, rfl, ty, e, q⟩ := h
  obtain ⟨u, u', rfl, ru, ru'⟩ := vals2 r
  cases ru'
  exact isinst_ok I ru ty e fun tk => ⟨.bl b, H, I.tok _, rfl, q⟩
theorem op_neO (N : NeC X.K C) (M : CalM X.prog X.w X.K X.mg X.base k C "__eq__" ps sp) (hr : Room (k + 3) X.A) : OpR X (compareOp .NotEq) (rNeO C sp) := by
  intro pins s σ H x y v u Q I rx ry h
  obtain ⟨a, b, dx, fs, dy, gs, rfl, rfl, ha, hb, hsp⟩ := h
  cases rx
  cases ry
  obtain ⟨mA, J, _⟩ := ins_get I.hok ha
  obtain ⟨od, J, _⟩ := J.look
  obtain ⟨mB, JB, _⟩ := ins_get I.hok hb
  obtain ⟨odB, JB, _⟩ := JB.look
  obtain ⟨f, fd, F, g, bd⟩ := M
  have hl := F.len _ _ _ _ hsp
  have un := hr.un
  refine rc_ne N I.kIn J JB (by omega) g.at_ g.fn ?_
  refine wpAny_call (codeAny_mono (F.run X.A.in1 X.stack s H ⟨[.ref a, .ref b], []⟩ [.ref a, .ref b] [.ref a, .ref b] _ (fun _ _ _ => False) (hr.mono (by omega)).in1 (Env0.in1 I.env0) (by
    have := bd s [.ref a, .ref b] I.kIn (by simpa using hl)
    simpa using this) (.cons rfl (.cons rfl .nil)) hsp) fun r s' hq => ?_)
  cases r with
  | error e => exact (pass0 pins σ H s e s' I hq : X.xe e s')
  | ok fl =>
    cases fl with
    | ret w =>
      obtain ⟨z, H', I', rz, c, ez, q⟩ := I.after hq
      subst ez
      cases rz
      exact ⟨c, rfl, .bl (!c), H', I', rfl, q⟩
    | next => exact False.elim hq
    | brk => exact False.elim hq
    | cont => exact False.elim hq
theorem op_eqL (N : NeC X.K C) (M : CalM X.prog X.w X.K X.mg X.base k C "__eq__" ps sp) (hr : Room (k + 1) X.A) : OpR X (compareOp .Eq) (rEqL X.K C sp) := by
  intro pins s σ H x y v u Q I rx ry h
  obtain ⟨a, p, dx, fs, ys, rfl, rfl, ha, hq, hsp⟩ := h
  cases rx
  cases ry
  obtain ⟨mA, J, _⟩ := ins_get I.hok ha
  obtain ⟨od, J, _⟩ := J.look
  obtain ⟨its, r, pl, hz⟩ := I.list hq
  obtain ⟨ol, ho, hc, _⟩ := pl.isList
  obtain ⟨m, hF⟩ := I.fr
  obtain ⟨f, fd, F, g, bd⟩ := M
  have hl := F.len _ _ _ _ hsp
  have un := hr.un
  refine PySem.W.cmp_K (op := .Eq) (tb := .type "list") (by omega) hF I.ok.mod.kin J (by
    rw [← hc]
    exact (PySem.W.Looks.ld (part := none) ho).andThen .now) (by unfold PySem.W.notFirst; rw [(sub_no X.K C).2.2.2.2]; simp) g.at_ g.fn ?_
  refine wpAny_call (codeAny_mono (F.run X.A X.stack s H ⟨[.ref a, .ref p], []⟩ [.ref a, .ref p] [.ref a, .ref p] _ (fun _ _ _ => False) (hr.mono (by omega)) I.env0 (by
    have := bd s [.ref a, .ref p] I.kIn (by simpa using hl)
    simpa using this) (.cons rfl (.cons rfl .nil)) hsp) fun r s' hq => ?_)
  cases r with
  | error e => exact (pass0 pins σ H s e s' I hq : X.xe e s')
  | ok fl =>
    cases fl with
    | ret w =>
      obtain ⟨z, H', I', rz, c, ez, q⟩ := I.after hq
      subst ez
      cases rz
      exact ⟨.bl c, H', I', rfl, q⟩
    | next => exact False.elim hq
    | brk => exact False.elim hq
    | cont => exact False.elim hq
theorem op_inO (N : NeC X.K C) (M : CalM X.prog X.w X.K X.mg X.base k C "__eq__" ps sp) (hr : Room (k + 3) X.A) : OpR X (compareOp .In) (rInO X.K C sp) := by
  intro pins s σ H x y v u Q I rx ry h
  obtain ⟨a, p, xs, dx, fs, rfl, rfl, hq, ha, hin⟩ := h
  cases rx
  cases ry
  obtain ⟨f, fd, F, g, bd⟩ := M
  have un := hr.un
  refine in_own (n := xs.length) (fun i s' => Inv X pins σ H s' ∧ inO C a sp (xs.drop i) H Q) (fun i s' j => ?_) (fun s' j => ?_) ⟨I, hin⟩
  · obtain ⟨I, q⟩ := j
    obtain ⟨its, r, pl, hz⟩ := I.list hq
    have hlen := r.length
    refine ⟨its.toArray, pl.isList, by rw [List.size_toArray, hlen], fun hi => ?_⟩
    have hi' : i < its.length := by simpa using hi
    have hix : i < xs.length := by omega
    obtain ⟨u, eu, ru⟩ := r.get (i := i) (x := xs[i]) (by simp [hix])
    have e : its.toArray[i] = u := by
      have : its[i]? = some its[i] := by simp [hi']
      rw [this] at eu
      have := Option.some.inj eu
      simpa using this
    rw [e]
    rw [List.drop_eq_getElem_cons hix] at q
    obtain ⟨mA, J, _⟩ := ins_get I.hok ha
    obtain ⟨od, J, _⟩ := J.look
    obtain ⟨m, hF⟩ := I.fr
    have go : ∀ (x z : V) (ux uz : Value), RelV x ux → RelV z uz → sp [x, z] H (fun v H' => H' = H ∧ ∃ c, v = .bl c ∧ (if c then Q (.bl true) H else inO C a sp (xs.drop (i + 1)) H Q)) (fun _ _ _ => False) →
        wpAny (model X.prog X.w) X.A.in1 (call (.ref f) [ux, uz]) (fun v s' => ∃ c, v = .bool c ∧ (if c then EP X pins σ Q (.bool true) s' else Inv X pins σ H s' ∧ inO C a sp (xs.drop (i + 1)) H Q)) X.xe s' := by
      intro x z ux uz rx rz hsp
      have hl := F.len _ _ _ _ hsp
      refine wpAny_call (codeAny_mono (F.run X.A.in1 X.stack s' H ⟨[ux, uz], []⟩ [ux, uz] [x, z] _ (fun _ _ _ => False) (hr.mono (by omega)).in1 (Env0.in1 I.env0) (by
        have := bd s' [ux, uz] I.kIn (by simpa using hl)
        simpa using this) (.cons rx (.cons rz .nil)) hsp) fun r s2 hq => ?_)
      cases r with
      | error e => exact (pass0 pins σ H s' e s2 I hq : X.xe e s2)
      | ok fl =>
        cases fl with
        | ret w =>
          obtain ⟨z, H', I', rz, eH, c, ez, q⟩ := I.after hq
          subst ez
          subst eH
          cases rz
          refine ⟨c, rfl, ?_⟩
          cases c with
          | true => exact ⟨.bl true, _, I', rfl, q⟩
          | false => exact ⟨I', q⟩
        | next => exact False.elim hq
        | brk => exact False.elim hq
        | cont => exact False.elim hq
    rcases q with ⟨ey, q⟩ | ⟨ny, x, z, hxz, q⟩
    · rw [ey] at ru
      cases ru
      exact eq_self ⟨.bl true, H, I, rfl, q⟩
    · rcases hxz with ⟨rfl, rfl, b, dy, gs, ey, hb⟩ | ⟨rfl, rfl, pl⟩
      · rw [ey] at ru ny q
        cases ru
        obtain ⟨mB, JB, _⟩ := ins_get I.hok hb
        obtain ⟨odB, JB, _⟩ := JB.look
        refine eq_refs (fun e => ny (by rw [e])) ?_
        refine PySem.W.cmp_K (op := .Eq) (by have := hr.in1.un; omega) hF I.ok.mod.kin JB J.type (by unfold PySem.W.notFirst; simp) g.at_ g.fn ?_
        refine thn (go (.ref b) (.ref a) (.ref b) (.ref a) rfl rfl q) fun v s2 ⟨c, e, z⟩ => ?_
        subst e
        exact ⟨c, rfl, z⟩
      · have hu : X.A.in1.units < cLine := by have := hr.in1.un; omega
        have G := go _ _ _ _ (show RelV (.ref a) (.ref a) from rfl) ru q
        obtain ⟨hx1, hx2, hx3, hx4⟩ := id J
        rcases pl with e | ⟨n, e⟩ | ⟨z, e⟩ | ⟨t, zs, e, ht⟩
        · rw [e] at ru
          cases ru
          exact eq_plain I.kIn J N.nN (T := "NoneType") rfl rfl PySem.F.slot_NoneType_eq (fun _ hq => call_gives PySem.F.slot_NoneType_eq rfl PySem.F.entry_NoneType_eq (PySem.F.args_NoneType_eq_2 _ _) (SeqAt.NoneType___eq___none_ref_0 a) hq) hu g.at_ g.fn G
        · rw [e] at ru
          obtain ⟨t, rfl⟩ := ru
          exact eq_plain I.kIn J N.nI (T := "int") (typeIs_int _ _ _) rfl PySem.F.slot_int_eq (fun _ hq => call_meets PySem.F.slot_int_eq (typeIs_int _ _ _) PySem.F.entry_int_eq (PySem.F.args_int_eq_2 _ _) (int_own n t a (.ref C) _ _) ⟨hx1, hq⟩) hu g.at_ g.fn G
        · rw [e] at ru
          obtain ⟨t, rfl⟩ := ru
          exact eq_plain I.kIn J N.nS (T := "str") (typeIs_str _ _ _) rfl PySem.F.slot_str_eq (fun _ hq => call_meets PySem.F.slot_str_eq (typeIs_str _ _ _) PySem.F.entry_str_eq (PySem.F.args_str_eq_2 _ _) (str_own z t a (.ref C) _ _) ⟨hx1, hq⟩) hu g.at_ g.fn G
        · rw [e] at ru ny
          cases ru
          have ne : t ≠ a := fun e => ny (by rw [e])
          obtain ⟨ys, r2, pt, _⟩ := I.tuple (show SqT X.K H t zs from .inl (.inl ht))
          obtain ⟨⟨cls, dd, data, sl⟩, ho, hc, m, hd⟩ := id (show s'.heap.IsTuple t ys.toArray from pt)
          simp only at hc hd
          subst hc hd
          exact eq_plain I.kIn J N.nT (T := "tuple") ⟨_, ho, rfl⟩ (by simp [ne]) PySem.F.slot_tuple_eq (fun _ hq => call_meets PySem.F.slot_tuple_eq ⟨_, ho, rfl⟩ PySem.F.entry_tuple_eq (PySem.F.args_tuple_eq_2 _ _) (tup_own t a _ _ _ _) ⟨ho, ⟨X.K, C, _, _, I.kIn, J, N.nT⟩, hq⟩) hu g.at_ g.fn G
  · obtain ⟨I, q⟩ := j
    rw [List.drop_length] at q
    exact ⟨.bl false, H, I, rfl, q⟩
end
end Lm

set_option Elab.async false
set_option linter.all false
set_option maxRecDepth 100000
set_option maxHeartbeats 2000000
set_option pp.maxSteps 600
set_option pp.deepTerms.threshold 6
namespace Lm
open PySem PySem.Spec PyProof.Rows L2 LmR RZ
def topS (i : Nat) : Stmt := PySem.Challenge.pw_leastmaker_k24_bounds_alike.main.body.getD i (.Pass ⟨0, 0, 0, 0⟩)
/-! ### closed bounds as data -/
def oV : Option Int → V
  | none => .non
  | some i => .int i
def oPD : Option Int → PyData
  | none => .none
  | some i => .int i
def rowV (D : Mat) (m a : Nat) : List V := (List.range (m + 1)).map fun b => oV (D a b)
def rowPD (D : Mat) (m a : Nat) : PyData := .tuple ((List.range (m + 1)).map fun b => oPD (D a b))
def cloPD (D : Mat) (m : Nat) : PyData := .tuple ((List.range (m + 1)).map fun a => rowPD D m a)
theorem oPD_flat (o : Option Int) : flat (oPD o) = true := by cases o <;> rfl
theorem flats_map {α : Type} (f : α → PyData) (h : ∀ x, flat (f x) = true) : ∀ l : List α, flat.flats (l.map f) = true
  | [] => rfl
  | x :: l => by rw [List.map_cons, flat.flats, h x, flats_map f h l]; rfl
theorem rowPD_flat (D : Mat) (m a : Nat) : flat (rowPD D m a) = true := flats_map _ (fun _ => oPD_flat _) _
theorem cloPD_flat (D : Mat) (m : Nat) : flat (cloPD D m) = true := flats_map _ (fun a => rowPD_flat D m a) _
theorem oV_dp {K : PySem.W.Frag} {H : Hp} (o : Option Int) : Dp K H (oV o) (oPD o) := by
  cases o
  · exact .non
  · exact .int _
theorem dp_oPD {K : PySem.W.Frag} {H : Hp} {v : V} {o : Option Int} (h : Dp K H v (oPD o)) : v = oV o := by
  cases o <;> cases h <;> rfl
theorem dps_oPD {K : PySem.W.Frag} {H : Hp} {α : Type} (f : α → Option Int) : ∀ {l : List α} {vs : List V}, DpAll K H vs (l.map fun x => oPD (f x)) → vs = l.map fun x => oV (f x)
  | [], _, h => by cases h; rfl
  | x :: l, _, h => by
    cases h with
    | cons a r => rw [dp_oPD a, dps_oPD f r]; rfl
theorem oVs_dp {K : PySem.W.Frag} {H : Hp} {α : Type} (f : α → Option Int) : ∀ l : List α, DpAll K H (l.map fun x => oV (f x)) (l.map fun x => oPD (f x))
  | [] => .nil
  | x :: l => .cons (oV_dp _) (oVs_dp f l)
theorem dpall_getM {K : PySem.W.Frag} {H : Hp} {α : Type} (f : α → PyData) : ∀ {l : List α} {vs : List V}, DpAll K H vs (l.map f) → vs.length = l.length ∧ ∀ (k : Nat) (x : α), l[k]? = some x → ∃ v, vs[k]? = some v ∧ Dp K H v (f x)
  | [], _, h => by cases h; exact ⟨rfl, fun k x z => by simp at z⟩
  | x :: l, _, h => by
    cases h with
    | cons a r =>
      obtain ⟨h1, h2⟩ := dpall_getM f r
      refine ⟨by rw [List.length_cons, h1]; rfl, fun k y z => ?_⟩
      cases k with
      | zero => cases z; exact ⟨_, rfl, a⟩
      | succ k => exact h2 k y z
theorem row_open {K : PySem.W.Frag} {H : Hp} {v : V} {D : Mat} {m a : Nat} (h : Dp K H v (rowPD D m a)) : ∃ r, v = .ref r ∧ SqT K H r (rowV D m a) := by
  unfold rowPD at h
  cases h with
  | tup q r =>
    have e := dps_oPD (fun b => D a b) r
    subst e
    exact ⟨_, rfl, q⟩
theorem row_mk {K : PySem.W.Frag} {H : Hp} {r : Addr} {D : Mat} {m a : Nat} (h : SqT K H r (rowV D m a)) : Dp K H (.ref r) (rowPD D m a) := .tup h (oVs_dp _ _)
/-- closed bounds that stand at v -/
theorem clo_open_at {K : PySem.W.Frag} {H : Hp} {v : V} {D : Mat} {m : Nat} (h : Fd K H v (cloPD D m)) : ∃ t rs, v = .ref t ∧ SqT K H t rs ∧ rs.length = m + 1 ∧ ∀ a, a ≤ m → ∃ r, rs[a]? = some (.ref r) ∧ SqT K H r (rowV D m a) := by
  obtain ⟨_, h⟩ := h
  unfold cloPD at h
  cases h with
  | tup q r =>
    obtain ⟨hl, hg⟩ := dpall_getM _ r
    rw [List.length_range] at hl
    refine ⟨_, _, rfl, q, hl, fun a ha => ?_⟩
    obtain ⟨v, hv, hd⟩ := hg a a (List.getElem?_range (by omega))
    obtain ⟨r, rfl, hr⟩ := row_open hd
    exact ⟨r, hv, hr⟩
theorem rowV_at (D : Mat) (m a : Nat) {b : Nat} (hb : b ≤ m) : (rowV D m a)[b]? = some (oV (D a b)) := by
  unfold rowV
  rw [List.getElem?_map, List.getElem?_range (by omega)]
  rfl
theorem rowV_len (D : Mat) (m a : Nat) : (rowV D m a).length = m + 1 := by unfold rowV; rw [List.length_map, List.length_range]
/-- a number's place -/
def pl (m : Nat) (i : Int) : Nat := if i = -1 then m else i.toNat
theorem pl_le {m : Nat} {i : Int} (h1 : -1 ≤ i) (h2 : i < m) : pl m i ≤ m := by unfold pl; split <;> omega
theorem at_pl {xs : List V} {m : Nat} {i : Int} {v : V} (hl : xs.length = m + 1) (h1 : -1 ≤ i) (h2 : i < m) (h : xs[pl m i]? = some v) : atI xs i = some v := by
  unfold atI ixN
  unfold pl at h
  by_cases e : i = -1
  · rw [if_pos e] at h
    rw [if_neg (by omega), if_pos (by omega)]
    have z : (i + (xs.length : Int)).toNat = m := by omega
    show xs[(i + (xs.length : Int)).toNat]? = some v
    rw [z]; exact h
  · rw [if_neg e] at h
    rw [if_pos (by omega), if_pos (by omega)]
    exact h
theorem scal_o (o : Option Int) : ∀ i : Int, oV o = .int i → o = some i := by cases o <;> intro i h <;> cases h; rfl
def oB : Option Bool → V
  | none => .non
  | some b => .bl b
theorem nonO (o : Option Int) : decide (oV o = V.non) = o.isNone := by
  cases o with
  | none => rfl
  | some i => exact decide_eq_false (fun z => by cases z)
theorem dpall_app' {K : PySem.W.Frag} {H : Hp} : ∀ {xs ys : List V} {ds es : List PyData}, DpAll K H xs ds → DpAll K H ys es → DpAll K H (xs ++ ys) (ds ++ es)
  | [], _, _, _, .nil, b => b
  | _ :: _, _, _, _, .cons a r, b => .cons a (dpall_app' r b)
section
variable {P : Program} {w : World} {K : PySem.W.Frag} {mg : Str → Option Value} {base : Heap}
abbrev s_open_bounds : Stmt := topS 2
theorem sc_open_bounds : FnScope ["many", "i", "j"] ["many"] (defScope s_open_bounds) := ⟨rfl, rfl, rfl, by decide +kernel, rfl, by decide +kernel, by decide +kernel⟩
def spOpen (K : PySem.W.Frag) : Sp := fun vs H Q _ => ∃ m : Nat, vs = [.int m] ∧ m ≤ 100 ∧ ∀ (v : V) (H' : Hp), Same H H' → Fd K H' v (cloPD openF m) → Q v H'
theorem ok_open_bounds (B : Bt mg) (D : DefAt K mg "open_bounds" s_open_bounds ["many"]) : Cal P w K mg base 1 "open_bounds" ["many"] (spOpen K) := by
  refine cal_of D sc_open_bounds (fun vs H Q E h => ?_) (fun f cdv A outer s H vs Q E hr h => ?_)
  · obtain ⟨m, rfl, _⟩ := h
    rfl
  obtain ⟨m, rfl, hm, q⟩ := h
  refine ⟨_, (pss_one (ps_ret (pe_callTy call_tuple_of (by rfl) B.tuple PyProof.Rows.boot_tuple (pa_cons (pe_lc (own := [("i", 1)]) (g := gName 1) rfl sc_open_bounds.nd (pi_range1 (by rfl) B.range (pa_cons (pe_op op_add (pv 0) pe_int) pa_nil)) (blkOk_by (own := [("i", 1)]) (N := ["many", "i", "j"]) (sc := defScope s_open_bounds) (by decide +kernel)) (fun _ _ _ _ _ => (pg_name (i := 1) sc_open_bounds.nd rfl (.inr rfl))) (fun _ _ _ _ _ => pts_nil) (fun _ _ _ _ _ => (pe_callTy (call_tuple_ofK (K := K) rfl) (by rfl) B.tuple PyProof.Rows.boot_tuple (pa_cons (pe_lc (own := [("j", 2)]) (g := gName 2) rfl sc_open_bounds.nd (pi_range1 (by rfl) B.range (pa_cons (pe_op op_add (pv 0) pe_int) pa_nil)) (blkOk_by (own := [("j", 2)]) (N := ["many", "i", "j"]) (by rfl)) (fun _ _ _ _ _ => (pg_name (i := 2) sc_open_bounds.nd rfl (.inl rfl))) (fun _ _ _ _ _ => pts_nil) (fun _ _ _ _ _ => (pe_ifExp (pt_cmpR op_eq (pv 1) (pv 2) (nomark _)) pe_int pe_non))) pa_nil)))) pa_nil)))), ?_⟩
  have n1 : ((m : Int) + 1).toNat = m + 1 := by omega
  refine ⟨_, rfl, _, _, rfl, rfl, (m : Int) + 1, rfl, by omega, by omega, fun D hD => lc_range (lo := 0) (n := ((m : Int) + 1).toNat) (fun i H' => Same H H' ∧ ∃ us, H' D = some (.lst us) ∧ us.length = i ∧ DpAll K H' us ((List.range i).map fun a => rowPD openF m a)) ?_ ?_ ?_⟩
  · exact ⟨same_new hD, [], upd_same, rfl, .nil⟩
  · rintro i H' hi ⟨s', us, hD', ul, hus⟩
    refine ⟨rfl, _, rfl, _, _, rfl, rfl, (m : Int) + 1, rfl, by omega, by omega, fun D2 hD2 => lc_range (lo := 0) (n := ((m : Int) + 1).toNat) (fun j H2 => Same H' H2 ∧ H2 D2 = some (.lst ((List.range j).map fun b => oV (openF i b)))) ?_ ?_ ?_⟩
    · exact ⟨same_new hD2, by rw [upd_same]; rfl⟩
    · rintro j H2 hj ⟨s2, hD2'⟩
      have fin : ∀ o : Option Int, openF i j = o → ∃ acc, H2 D2 = some (.lst acc) ∧ acc.length < sizeLine ∧ (Same H' (upd H2 D2 (.lst (acc ++ [oV o]))) ∧ (upd H2 D2 (.lst (acc ++ [oV o]))) D2 = some (.lst ((List.range (j + 1)).map fun b => oV (openF i b)))) := fun o ho => by
        refine ⟨_, hD2', by rw [List.length_map, List.length_range]; exact smallL (by omega), fun b u z => ?_, ?_⟩
        · rw [upd_ne (ne_of_none z hD2)]
          exact s2 _ _ z
        · rw [upd_same, List.range_succ, List.map_append, ← ho]
          rfl
      refine ⟨rfl, _, rfl, _, rfl, rfl, _, rfl, ite2 (fun c => ?_) (fun c => ?_)⟩
      · have e : i = j := by
          have z := V.int.inj (of_decide_eq_true c)
          omega
        exact fin (some 0) (if_pos e)
      · exact fin none (if_neg fun e => c (decide_eq_true (by rw [e])))
    · rintro H3 ⟨s3, hD3⟩
      rw [n1] at hD3
      refine ⟨D2, _, rfl, .inl ⟨SqL.of hD3, fun t ht => ?_⟩⟩
      have s4 : Same H' (upd H3 t (.tup ((List.range (m + 1)).map fun b => oV (openF i b)))) := s3.trans (same_new ht)
      have e4 : (upd H3 t (.tup ((List.range (m + 1)).map fun b => oV (openF i b)))) t = some (.tup (rowV openF m i)) := upd_same
      generalize upd H3 t (.tup ((List.range (m + 1)).map fun b => oV (openF i b))) = H4 at s4 e4
      have hD4 := s4 _ _ hD'
      have t5 : Tp K H4 (upd H4 D (.lst (us ++ [.ref t]))) := Tp.lst hD4
      refine ⟨us, hD4, smallL (by omega), fun b u z => ?_, us ++ [.ref t], upd_same, by rw [List.length_append, ul]; rfl, ?_⟩
      · rw [upd_ne (ne_of_none z hD)]
        exact s4 _ _ (s' _ _ z)
      · rw [List.range_succ, List.map_append]
        exact dpall_app' (dps_keep ((Tp.same s4).trans t5) _ _ (flats_map _ (fun a => rowPD_flat openF m a) _) hus) (.cons (row_mk (t5 _ _ (.inl (.inl e4)))) .nil)
  · rintro H1 ⟨s1, us, hD1, ul, hus⟩
    rw [n1] at hus
    refine ⟨D, us, rfl, .inl ⟨SqL.of hD1, fun t ht => q _ _ (s1.trans (same_new ht)) ⟨cloPD_flat _ _, .tup (.inl (.inl upd_same)) (dps_keep (Tp.new ht) _ _ (flats_map _ (fun a => rowPD_flat openF m a) _) hus)⟩⟩⟩
abbrev s_known : Stmt := topS 4
theorem sc_known : FnScope ["closed", "i", "j", "c", "there", "back"] ["closed", "i", "j", "c"] (defScope s_known) := ⟨rfl, rfl, rfl, by decide +kernel, rfl, by decide +kernel, by decide +kernel⟩
def spKnown (K : PySem.W.Frag) : Sp := fun vs H Q _ => ∃ (v : V) (D : Mat) (m : Nat) (i j c : Int), vs = [v, .int i, .int j, .int c] ∧ Fd K H v (cloPD D m) ∧ -1 ≤ i ∧ i < m ∧ -1 ≤ j ∧ j < m ∧ Q (oB (knownF D (pl m i) (pl m j) c)) H
theorem ok_known (B : Bt mg) (D : DefAt K mg "known" s_known ["closed", "i", "j", "c"]) : Cal P w K mg base 1 "known" ["closed", "i", "j", "c"] (spKnown K) := by
  refine cal_of D sc_known (fun vs H Q E h => ?_) (fun f cdv A outer s H vs Q E hr h => ?_)
  · obtain ⟨v, D, m, i, j, c, rfl, _⟩ := h
    rfl
  obtain ⟨v, D, m, i, j, c, rfl, hv, i1, i2, j1, j2, q⟩ := h
  refine ⟨_, (pss_cons (ps_par (i := 4) (j := 5) rfl sc_known.nd rfl rfl (by decide) rfl rfl (pa_cons (pe_ix ix_tup (pe_ix ix_tup (pv 0) (pv 1) (fun _ _ => rfl)) (pv 2) (fun _ _ => rfl)) (pa_cons (pe_ix ix_tup (pe_ix ix_tup (pv 0) (pv 2) (fun _ _ => rfl)) (pv 1) (fun _ _ => rfl)) pa_nil)) rfl)
      (pss_cons (ps_if (PW.pt (pw_and (pt_cmpR op_notN (pv 4) pe_non (nomark _)) (pw_and1 (pt_cmpR op_le (pv 4) (pv 3) (nomark _)))))
        (pss_one (ps_ret pe_bl))
        pss_nil)
      (pss_cons (ps_if (PW.pt (pw_and (pt_cmpR op_notN (pv 5) pe_non (nomark _)) (pw_and1 (pt_cmpR op_lt (pe_op op_add (pv 5) (pv 3)) pe_int (nomark _)))))
        (pss_one (ps_ret pe_bl))
        pss_nil)
      (pss_one (ps_ret pe_non))))), ?_⟩
  obtain ⟨t, rs, rfl, ht, hl, hrow⟩ := clo_open_at hv
  obtain ⟨r1, e1, h1⟩ := hrow (pl m i) (pl_le i1 i2)
  obtain ⟨r2, e2, h2⟩ := hrow (pl m j) (pl_le j1 j2)
  refine ⟨_, rfl, _, rfl, t, rs, i, _, rfl, rfl, ht, at_pl hl i1 i2 e1, _, rfl, r1, _, j, _, rfl, rfl, h1, at_pl (rowV_len D m _) j1 j2 (rowV_at D m _ (pl_le j1 j2)), ?_⟩
  refine ⟨_, rfl, _, rfl, t, rs, j, _, rfl, rfl, ht, at_pl hl j1 j2 e2, _, rfl, r2, _, i, _, rfl, rfl, h2, at_pl (rowV_len D m _) i1 i2 (rowV_at D m _ (pl_le i1 i2)), ?_⟩
  refine ⟨_, _, rfl, ?_⟩
  unfold knownF at q
  generalize D (pl m i) (pl m j) = o1 at q
  generalize D (pl m j) (pl m i) = o2 at q
  have c1 : ∀ t, o1 = some t → (t ≤ c → Q (.bl true) H) := fun t e l => by
    rw [e] at q
    rw [if_pos (show leB (some t) c = true from decide_eq_true l)] at q
    exact q
  have c2 : ¬ leB o1 c = true → Q (oB (if ltB o2 c = true then some false else none)) H := fun n => by
    rw [if_neg n] at q
    exact q
  have c3 : ∀ t, o2 = some t → ¬ leB o1 c = true → (t + c < 0 → Q (.bl false) H) ∧ (¬ t + c < 0 → Q .non H) := fun t e n => by
    have q' := c2 n
    rw [e] at q'
    refine ⟨fun l => ?_, fun l => ?_⟩
    · rw [if_pos (show ltB (some t) c = true from decide_eq_true l)] at q'
      exact q'
    · rw [if_neg (show ¬ ltB (some t) c = true from fun z => l (of_decide_eq_true z))] at q'
      exact q'
  have c4 : o2 = none → ¬ leB o1 c = true → Q .non H := fun e n => by
    have q' := c2 n
    rw [e] at q'
    exact q'
  cases o1 with
  | none =>
    refine ⟨_, rfl, rfl, _, rfl, iteF ?_⟩
    have n : ¬ leB none c = true := Bool.false_ne_true
    cases o2 with
    | none => exact ⟨_, rfl, rfl, _, rfl, iteF (c4 rfl n)⟩
    | some b =>
      refine ⟨_, rfl, rfl, _, rfl, iteT ⟨_, rfl, _, rfl, _, _, rfl, rfl, _, _, rfl, rfl, _, rfl, ite2 (fun z => ?_) (fun z => ?_)⟩⟩
      · exact (c3 b rfl n).1 (of_decide_eq_true z)
      · exact (c3 b rfl n).2 fun l => z (decide_eq_true l)
  | some t =>
    refine ⟨_, rfl, rfl, _, rfl, iteT ⟨_, rfl, _, rfl, _, _, rfl, rfl, _, rfl, ite2 (fun z => ?_) (fun z => ?_)⟩⟩
    · exact c1 t rfl (of_decide_eq_true z)
    have n : ¬ leB (some t) c = true := fun y => z y
    cases o2 with
    | none => exact ⟨_, rfl, rfl, _, rfl, iteF (c4 rfl n)⟩
    | some b =>
      refine ⟨_, rfl, rfl, _, rfl, iteT ⟨_, rfl, _, rfl, _, _, rfl, rfl, _, _, rfl, rfl, _, rfl, ite2 (fun z => ?_) (fun z => ?_)⟩⟩
      · exact (c3 b rfl n).1 (of_decide_eq_true z)
      · exact (c3 b rfl n).2 fun l => z (decide_eq_true l)
abbrev s_lesser : Stmt := topS 6
theorem sc_lesser : FnScope ["old", "way", "more"] ["old", "way", "more"] (defScope s_lesser) := ⟨rfl, rfl, rfl, by decide +kernel, rfl, by decide +kernel, by decide +kernel⟩
def spLess : Sp := fun vs H Q _ => ∃ (o p : Option Int) (w : Int), vs = [oV o, .int w, oV p] ∧ Q (oV (lesserF o w p)) H
theorem ok_lesser (D : DefAt K mg "lesser" s_lesser ["old", "way", "more"]) : Cal P w K mg base 1 "lesser" ["old", "way", "more"] (spLess) := by
  refine cal_of D sc_lesser (fun vs H Q E h => ?_) (fun f cdv A outer s H vs Q E hr h => ?_)
  · obtain ⟨o, p, w, rfl, _⟩ := h
    rfl
  obtain ⟨o, p, w, rfl, q⟩ := h
  refine ⟨_, (pss_cons (ps_if (PW.pt (pw_or (pt_cmpR op_isN (pv 2) pe_non (nomark _)) (pw_or1 (PW.pt (pw_and (pt_cmpR op_notN (pv 0) pe_non (nomark _)) (pw_and1 (pt_cmpR op_le (pv 0) (pe_op op_add (pv 1) (pv 2)) (nomark _))))))))
        (pss_one (ps_ret (pv 0)))
        pss_nil)
      (pss_one (ps_ret (pe_op op_add (pv 1) (pv 2))))), ?_⟩
  cases p with
  | none => exact ⟨_, rfl, rfl, _, rfl, iteT ⟨_, rfl, q⟩⟩
  | some y =>
    cases o with
    | none => exact ⟨_, rfl, rfl, _, rfl, iteF ⟨_, rfl, rfl, _, rfl, iteF ⟨_, rfl, _, rfl, _, _, rfl, rfl, q⟩⟩⟩
    | some x =>
      have q' : Q (oV (if x ≤ w + y then some x else some (w + y))) H := q
      refine ⟨_, rfl, rfl, _, rfl, iteF ⟨_, rfl, rfl, _, rfl, iteT ⟨_, rfl, _, rfl, _, rfl, _, _, rfl, rfl, _, _, rfl, rfl, _, rfl, ite2 (fun z => ?_) (fun z => ?_)⟩⟩⟩
      · rw [if_pos (of_decide_eq_true z)] at q'
        exact ⟨_, rfl, q'⟩
      · rw [if_neg fun l => z (decide_eq_true l)] at q'
        exact ⟨_, rfl, _, rfl, _, _, rfl, rfl, q'⟩
abbrev s_row_through : Stmt := topS 5
theorem sc_row_through : FnScope ["row", "way", "onward", "old", "more"] ["row", "way", "onward"] (defScope s_row_through) := ⟨rfl, rfl, rfl, by decide +kernel, rfl, by decide +kernel, by decide +kernel⟩
def spThrough (K : PySem.W.Frag) : Sp := fun vs H Q _ => ∃ (r1 r2 : Addr) (f g : Nat → Option Int) (m : Nat) (w : Int), vs = [.ref r1, .int w, .ref r2] ∧ m ≤ 100 ∧ SqT K H r1 ((List.range (m + 1)).map fun b => oV (f b)) ∧ SqT K H r2 ((List.range (m + 1)).map fun b => oV (g b)) ∧
  ∀ (t : Addr) (H' : Hp), Same H H' → H' t = some (.tup ((List.range (m + 1)).map fun b => oV (lesserF (f b) w (g b)))) → Q (.ref t) H'
theorem range_atV {n k : Nat} {f : Nat → V} {x : V} (h : ((List.range n).map f)[k]? = some x) : k < n ∧ x = f k := by
  have l := (List.getElem?_eq_some_iff.mp h).1
  rw [List.length_map, List.length_range] at l
  rw [List.getElem?_map, List.getElem?_range l] at h
  exact ⟨l, (Option.some.inj h).symm⟩
theorem ok_row_through (B : Bt mg) (C_lesser : Cal P w K mg base 1 "lesser" ["old", "way", "more"] (spLess)) (D : DefAt K mg "row_through" s_row_through ["row", "way", "onward"]) : Cal P w K mg base 2 "row_through" ["row", "way", "onward"] (spThrough K) := by
  refine cal_of D sc_row_through (fun vs H Q E h => ?_) (fun f cdv A outer s H vs Q E hr h => ?_)
  · obtain ⟨r1, r2, f, g, m, w, rfl, _⟩ := h
    rfl
  obtain ⟨r1, r2, f, g, m, w, rfl, hm, h1, h2, q⟩ := h
  have hr' : Room 1 _ := hr
  refine ⟨_, (pss_one (ps_ret (pe_callTy call_tuple_of (by rfl) B.tuple PyProof.Rows.boot_tuple (pa_cons (pe_lc (own := [("old", 3), ("more", 4)]) (g := gTup K 2 (gCons (gName 3) (gCons (gName 4) gNil))) rfl sc_row_through.nd (pi_zipA (by rfl) B.zip (pa_cons (pv 0) (pa_cons (pv 2) pa_nil))) (blkOk_by (own := [("old", 3), ("more", 4)]) (N := ["row", "way", "onward", "old", "more"]) (sc := defScope s_row_through) (by decide +kernel)) (fun _ _ _ _ _ => (pg_tupK (K := K) rfl rfl (pgs_cons (pg_name (i := 3) sc_row_through.nd rfl (.inl rfl)) (pgs_cons (pg_name (i := 4) sc_row_through.nd rfl (.inl rfl)) pgs_nil)))) (fun _ _ _ _ _ => pts_nil) (fun _ _ _ _ _ => (pe_cal C_lesser hr' (by rfl) (pa_cons (pv 3) (pa_cons (pv 1) (pa_cons (pv 4) pa_nil)))))) pa_nil)))), ?_⟩
  refine ⟨_, rfl, _, rfl, r1, r2, _, _, rfl, .inr ⟨h1, h2, fun D hD => lc_it (walk_zipT (K := K) (a := r1) (b := r2) (xs := (List.range (m + 1)).map fun b => oV (f b)) (ys := (List.range (m + 1)).map fun b => oV (g b)) (n := m + 1) (by simp)) (fun j H' => Same H H' ∧ H' D = some (.lst ((List.range j).map fun b => oV (lesserF (f b) w (g b))))) ?_ ?_ ?_ ?_⟩⟩
  · exact ⟨same_new hD, upd_same⟩
  · rintro j H' _ ⟨s', _⟩
    exact ⟨Tp.same s' _ _ h1, Tp.same s' _ _ h2⟩
  · rintro j x H1 H2 hj ⟨s', hD'⟩ ⟨T, p, y, rfl, hT, rfl, hp, hy⟩
    have sm2 : Same H1 (upd H1 T (.tup [p, y])) := same_new hT
    refine ⟨T, _, rfl, .inl (.inl upd_same), rfl, _, _, rfl, _, _, rfl, rfl, ?_⟩
    obtain ⟨_, rfl⟩ := range_atV hp
    obtain ⟨_, rfl⟩ := range_atV hy
    refine ⟨rfl, _, rfl, _, rfl, _, rfl, f j, g j, w, rfl, _, sm2 _ _ hD', by rw [List.length_map, List.length_range]; exact smallL (by omega), fun b o z => ?_, ?_⟩
    · rw [upd_ne (ne_of_none z hD)]
      exact sm2 _ _ (s' _ _ z)
    · rw [upd_same, List.range_succ, List.map_append]
      rfl
  · rintro H1 ⟨s1, hD1⟩
    refine ⟨D, _, rfl, .inl ⟨SqL.of hD1, fun t ht => q t _ (s1.trans (same_new ht)) upd_same⟩⟩
abbrev s_tightened : Stmt := topS 3
theorem sc_tightened : FnScope ["closed", "i", "j", "c", "answer", "tight", "row"] ["closed", "i", "j", "c"] (defScope s_tightened) := ⟨rfl, rfl, rfl, by decide +kernel, rfl, by decide +kernel, by decide +kernel⟩
def oClo (m : Nat) : Option Mat → PyData
  | none => .none
  | some D => cloPD D m
theorem oClo_flat (m : Nat) (o : Option Mat) : flat (oClo m o) = true := by
  cases o
  · rfl
  · exact cloPD_flat _ _
def spTight (K : PySem.W.Frag) : Sp := fun vs H Q _ => ∃ (v : V) (D : Mat) (m : Nat) (i j c : Int), vs = [v, .int i, .int j, .int c] ∧ m ≤ 100 ∧ Fd K H v (cloPD D m) ∧ -1 ≤ i ∧ i < m ∧ -1 ≤ j ∧ j < m ∧ ∀ (u : V) (H' : Hp), Same H H' → Fd K H' u (oClo m (tightF D (pl m i) (pl m j) c)) → Q u H'
theorem ok_tightened (B : Bt mg) (C_known : Cal P w K mg base 1 "known" ["closed", "i", "j", "c"] (spKnown K)) (C_row_through : Cal P w K mg base 2 "row_through" ["row", "way", "onward"] (spThrough K)) (D : DefAt K mg "tightened" s_tightened ["closed", "i", "j", "c"]) : Cal P w K mg base 3 "tightened" ["closed", "i", "j", "c"] (spTight K) := by
  refine cal_of D sc_tightened (fun vs H Q E h => ?_) (fun f cdv A outer s H vs Q E hr h => ?_)
  · obtain ⟨v, D, m, i, j, c, rfl, _⟩ := h
    rfl
  obtain ⟨v, D, m, i, j, c, rfl, hm, hv, i1, i2, j1, j2, q⟩ := h
  have hr' : Room 2 _ := hr
  have C_known := C_known.mono (k := 2) (by decide)
  refine ⟨_, (pss_cons (ps_set (i := 4) sc_tightened.nd rfl (.inl rfl) (pe_cal C_known hr' (by rfl) (pa_cons (pv 0) (pa_cons (pv 1) (pa_cons (pv 2) (pa_cons (pv 3) pa_nil))))))
      (pss_cons (ps_if (pt_cmpR op_notN (pv 4) pe_non (nomark _))
        (pss_one (ps_ret (pe_ifExp (pt_val (pv 4)) (pv 0) pe_non)))
        pss_nil)
      (pss_cons (ps_set (i := 5) sc_tightened.nd rfl (.inl rfl) (pe_lst pa_nil))
      (pss_cons (ps_for PassesOwn.never rfl (pi_tup (pv 0)) (pg_name (i := 6) sc_tightened.nd rfl (.inl rfl))
        (pss_one (ps_if (pt_cmpR op_isN (pe_ix ix_tup (pv 6) (pv 1) (fun _ _ => rfl)) pe_non (nomark _))
        (pss_one (ps_expr (pe_bm PySem.F.plainAttrs_list PySem.F.slot_list_append PySem.F.type_list_append mt_append (pv 5) (pa_cons (pv 6) pa_nil))))
        (pss_one (ps_expr (pe_bm PySem.F.plainAttrs_list PySem.F.slot_list_append PySem.F.type_list_append mt_append (pv 5) (pa_cons (pe_cal C_row_through hr' (by rfl) (pa_cons (pv 6) (pa_cons (pe_op op_add (pe_ix ix_tup (pv 6) (pv 1) (fun _ _ => rfl)) (pv 3)) (pa_cons (pe_ix ix_tup (pv 0) (pv 2) (fun _ _ => rfl)) pa_nil)))) pa_nil)))))))
      (pss_one (ps_ret (pe_callTy call_tuple_of (by rfl) B.tuple PyProof.Rows.boot_tuple (pa_cons (pv 5) pa_nil)))))))), ?_⟩
  obtain ⟨t, rs, rfl, ht, hl, hrow⟩ := clo_open_at hv
  refine ⟨_, rfl, _, rfl, _, rfl, _, rfl, .ref t, D, m, i, j, c, rfl, hv, i1, i2, j1, j2, ?_⟩
  unfold tightF at q
  have hpi := pl_le i1 i2
  have hpj := pl_le j1 j2
  cases hk : knownF D (pl m i) (pl m j) c with
  | some b =>
    rw [hk] at q
    refine ⟨_, rfl, rfl, _, rfl, iteT ⟨_, rfl, b, rfl, ?_⟩⟩
    cases b with
    | true => exact iteT ⟨_, rfl, q _ _ (Same.refl _) hv⟩
    | false => exact iteF (q _ _ (Same.refl _) ⟨rfl, .non⟩)
  | none =>
    rw [hk] at q
    refine ⟨_, rfl, rfl, _, rfl, iteF ⟨(by show 0 ≤ sizeLine; decide), fun L hL => ?_⟩⟩
    have s1 := same_new (o := .lst []) hL
    have e1 : (upd H L (.lst [])) L = some (.lst []) := upd_same
    generalize upd H L (.lst []) = H1 at s1 e1
    refine ⟨_, rfl, t, rfl, ⟨_, Tp.same s1 _ _ ht⟩, for_tup (K := K) (a := t) (xs := rs) (fun a σ' H' => (∃ y6 : Option V, σ' = [some (.ref t), some (.int i), some (.int j), some (.int c), some (oB none), some (.ref L), y6]) ∧ Same H H' ∧ ∃ us, H' L = some (.lst us) ∧ us.length = a ∧ DpAll K H' us ((List.range a).map fun a => rowPD (stepF D (pl m i) (pl m j) c) m a)) ?_ ?_ ?_ ?_⟩
    · exact ⟨⟨_, rfl⟩, s1, [], e1, rfl, .nil⟩
    · rintro a σ' H' _ ⟨_, s', _⟩
      exact Tp.same s' _ _ ht
    · rintro a x σ' H' hx ⟨⟨y6, rfl⟩, s', us, hL', ul, hus⟩
      have al : a < m + 1 := by rw [← hl]; exact (List.getElem?_eq_some_iff.mp hx).1
      obtain ⟨r, er, hr1⟩ := hrow a (by omega)
      rw [hx] at er
      cases er
      have hr2 := Tp.same s' _ _ hr1
      have hat : atI (rowV D m a) i = some (oV (D a (pl m i))) := at_pl (rowV_len D m a) i1 i2 (rowV_at D m a hpi)
      have fin : ∀ (H2 : Hp) (r' : Addr), Same H' H2 → SqT K H2 r' (rowV (stepF D (pl m i) (pl m j) c) m a) → Same H (upd H2 L (.lst (us ++ [.ref r']))) ∧ ∃ us2, (upd H2 L (.lst (us ++ [.ref r']))) L = some (.lst us2) ∧ us2.length = a + 1 ∧ DpAll K (upd H2 L (.lst (us ++ [.ref r']))) us2 ((List.range (a + 1)).map fun a => rowPD (stepF D (pl m i) (pl m j) c) m a) := fun H2 r' s2 hq => by
        have hL2 := s2 _ _ hL'
        have t2 : Tp K H2 (upd H2 L (.lst (us ++ [.ref r']))) := Tp.lst hL2
        refine ⟨fun b o z => ?_, us ++ [.ref r'], upd_same, by rw [List.length_append, ul]; rfl, ?_⟩
        · rw [upd_ne (ne_of_none z hL)]
          exact s2 _ _ (s' _ _ z)
        · rw [List.range_succ, List.map_append]
          exact dpall_app' (dps_keep ((Tp.same s2).trans t2) _ _ (flats_map _ (fun a => rowPD_flat _ m a) _) hus) (.cons (row_mk (t2 _ _ hq)) .nil)
      cases e : D a (pl m i) with
      | none =>
        rw [e] at hat
        refine ⟨_, rfl, _, rfl, r, _, i, _, rfl, rfl, hr2, hat, rfl, _, rfl, iteT ?_⟩
        have ev : rowV (stepF D (pl m i) (pl m j) c) m a = rowV D m a := by
          unfold rowV
          congr 1
          funext b
          unfold stepF
          rw [e]
        refine ⟨_, rfl, .inl ⟨rfl, _, SqL.of hL'⟩, _, rfl, L, us, _, rfl, rfl, hL', smallL (by omega), ?_⟩
        exact ⟨⟨_, rfl⟩, fin H' r (Same.refl _) (by rw [ev]; exact hr2)⟩
      | some w =>
        rw [e] at hat
        obtain ⟨rj, ej, hrj⟩ := hrow (pl m j) hpj
        have ev : rowV (stepF D (pl m i) (pl m j) c) m a = (List.range (m + 1)).map fun b => oV (lesserF (D a b) (w + c) (D (pl m j) b)) := by
          unfold rowV
          congr 1
          funext b
          unfold stepF
          rw [e]
        refine ⟨_, rfl, _, rfl, r, _, i, _, rfl, rfl, hr2, hat, rfl, _, rfl, iteF ?_⟩
        refine ⟨_, rfl, .inl ⟨rfl, _, SqL.of hL'⟩, _, rfl, _, rfl, _, rfl, r, _, i, _, rfl, rfl, hr2, hat, _, rfl, _, _, rfl, rfl, _, rfl, _, rfl, t, rs, j, _, rfl, rfl, Tp.same s' _ _ ht, at_pl hl j1 j2 ej, ?_⟩
        refine ⟨r, rj, D a, D (pl m j), m, w + c, rfl, hm, hr2, Tp.same s' _ _ hrj, fun t2 H2 s2 ht2 => ?_⟩
        refine ⟨L, us, _, rfl, rfl, s2 _ _ hL', smallL (by omega), ?_⟩
        exact ⟨⟨_, rfl⟩, fin H2 t2 s2 (by rw [ev]; exact .inl (.inl ht2))⟩
    · rintro σ' H' ⟨⟨y6, rfl⟩, s', us, hL', ul, hus⟩
      rw [hl] at hus
      refine ⟨_, rfl, L, us, rfl, .inl ⟨SqL.of hL', fun t2 ht2 => q _ _ (s'.trans (same_new ht2)) ⟨cloPD_flat _ _, .tup (.inl (.inl upd_same)) (dps_keep (Tp.new ht2) _ _ (flats_map _ (fun a => rowPD_flat _ m a) _) hus)⟩⟩⟩
abbrev s_closed_by : Stmt := topS 9
theorem sc_closed_by : FnScope ["many", "rows", "closed", "i", "j", "c"] ["many", "rows"] (defScope s_closed_by) := ⟨rfl, rfl, rfl, by decide +kernel, rfl, by decide +kernel, by decide +kernel⟩
abbrev Row := Int × Int × Int
def rowD (r : Row) : PyData := .tuple [.int r.1, .int r.2.1, .int r.2.2]
theorem rowD_flat (r : Row) : flat (rowD r) = true := rfl
def RowOk (m : Nat) (r : Row) : Prop := -1 ≤ r.1 ∧ r.1 < m ∧ -1 ≤ r.2.1 ∧ r.2.1 < m
def edgeR (m : Nat) (r : Row) : Edge := (pl m r.1, pl m r.2.1, r.2.2)
def edges (m : Nat) (rs : List Row) : List Edge := rs.map (edgeR m)
theorem edges_ok {m : Nat} {rs : List Row} (h : ∀ r ∈ rs, RowOk m r) : ∀ e ∈ edges m rs, e.1 ≤ m ∧ e.2.1 ≤ m := fun e he => by
  obtain ⟨r, hr, rfl⟩ := List.mem_map.mp he
  obtain ⟨a, b, c, d⟩ := h r hr
  exact ⟨pl_le a b, pl_le c d⟩
theorem edges_drop (m : Nat) (rs : List Row) (a : Nat) (h : a < rs.length) : (edges m rs).drop a = edgeR m rs[a] :: (edges m rs).drop (a + 1) := by
  unfold edges
  rw [← List.map_drop, ← List.map_drop, List.drop_eq_getElem_cons h]
  rfl
theorem row_read {K : PySem.W.Frag} {H : Hp} {v : V} {r : Row} (h : Dp K H v (rowD r)) : ∃ t, v = .ref t ∧ SqT K H t [.int r.1, .int r.2.1, .int r.2.2] := by
  cases h with
  | tup q s =>
    cases s with
    | cons a s => cases s with
      | cons b s => cases s with
        | cons c s => cases s; cases a; cases b; cases c; exact ⟨_, rfl, q⟩
theorem row_dp {K : PySem.W.Frag} {H : Hp} {t : Addr} {r : Row} (h : SqT K H t [.int r.1, .int r.2.1, .int r.2.2]) : Dp K H (.ref t) (rowD r) := .tup h (.cons (.int _) (.cons (.int _) (.cons (.int _) .nil)))
def spClosed (K : PySem.W.Frag) : Sp := fun vs H Q _ => ∃ (m : Nat) (v : V) (rs : List Row), vs = [.int m, v] ∧ m ≤ 100 ∧ Fd K H v (.tuple (rs.map rowD)) ∧ (∀ r ∈ rs, RowOk m r) ∧ ∀ (u : V) (H' : Hp), Same H H' → Fd K H' u (oClo m (closedF (edges m rs) openF)) → Q u H'
theorem ok_closed_by (B : Bt mg) (C_open_bounds : Cal P w K mg base 1 "open_bounds" ["many"] (spOpen K)) (C_tightened : Cal P w K mg base 3 "tightened" ["closed", "i", "j", "c"] (spTight K)) (D : DefAt K mg "closed_by" s_closed_by ["many", "rows"]) : Cal P w K mg base 4 "closed_by" ["many", "rows"] (spClosed K) := by
  refine cal_of D sc_closed_by (fun vs H Q E h => ?_) (fun f cdv A outer s H vs Q E hr h => ?_)
  · obtain ⟨m, v, rs, rfl, _⟩ := h
    rfl
  obtain ⟨m, v, rs, rfl, hm, hv, hrs, q⟩ := h
  have hr' : Room 3 _ := hr
  have C_open_bounds := C_open_bounds.mono (k := 3) (by decide)
  refine ⟨_, (pss_cons (ps_set (i := 2) sc_closed_by.nd rfl (.inl rfl) (pe_cal C_open_bounds hr' (by rfl) (pa_cons (pv 0) pa_nil)))
      (pss_cons (ps_for PassesOwn.never rfl (pi_tup (pv 1)) (pg_tup rfl (pgs_cons (pg_name (i := 3) sc_closed_by.nd rfl (.inl rfl)) (pgs_cons (pg_name (i := 4) sc_closed_by.nd rfl (.inl rfl)) (pgs_cons (pg_name (i := 5) sc_closed_by.nd rfl (.inl rfl)) pgs_nil))))
        (pss_cons (ps_set (i := 2) sc_closed_by.nd rfl (.inl rfl) (pe_cal C_tightened hr' (by rfl) (pa_cons (pv 2) (pa_cons (pv 3) (pa_cons (pv 4) (pa_cons (pv 5) pa_nil))))))
      (pss_one (ps_if (pt_cmpR op_isN (pv 2) pe_non (nomark _))
        (pss_one (ps_ret pe_non))
        pss_nil))))
      (pss_one (ps_ret (pv 2))))), ?_⟩
  obtain ⟨_, hv2⟩ := id hv
  obtain ⟨t, xs, rfl, ht, hxs⟩ : ∃ t xs, v = .ref t ∧ SqT K H t xs ∧ DpAll K H xs (rs.map rowD) := by
    cases hv2 with
    | tup q r => exact ⟨_, _, rfl, q, r⟩
  obtain ⟨xl, xg⟩ := dpall_getM _ hxs
  refine ⟨_, rfl, m, rfl, hm, fun v0 H1 s1 h0 => ?_⟩
  refine ⟨_, rfl, t, rfl, ⟨_, Tp.same s1 _ _ ht⟩, for_tup (K := K) (a := t) (xs := xs) (fun a σ' H' => ∃ (vc : V) (D : Mat) (y3 y4 y5 : Option V), σ' = [some (.int m), some (.ref t), some vc, y3, y4, y5] ∧ Same H H' ∧ Fd K H' vc (cloPD D m) ∧ closedF (edges m rs) openF = closedF ((edges m rs).drop a) D) ?_ ?_ ?_ ?_⟩
  · exact ⟨v0, openF, none, none, none, rfl, s1, h0, rfl⟩
  · rintro a σ' H' _ ⟨_, _, _, _, _, _, s', _⟩
    exact Tp.same s' _ _ ht
  · rintro a x σ' H' hx ⟨vc, D, y3, y4, y5, rfl, s', hc, ec⟩
    have al : a < rs.length := by rw [← xl]; exact (List.getElem?_eq_some_iff.mp hx).1
    obtain ⟨x', hx', dx⟩ := xg a rs[a] (List.getElem?_eq_getElem al)
    rw [hx] at hx'
    cases hx'
    obtain ⟨tr, rfl, htr⟩ := row_read dx
    have hok := hrs rs[a] (List.getElem_mem al)
    have ed := edges_drop m rs a al
    rw [ed] at ec
    generalize rs[a] = r at htr hok ed ec dx
    obtain ⟨ri, rj, rc⟩ := r
    obtain ⟨o1, o2, o3, o4⟩ := hok
    refine ⟨tr, _, rfl, Tp.same s' _ _ htr, rfl, _, _, rfl, _, _, rfl, _, _, rfl, rfl, ?_⟩
    refine ⟨_, rfl, _, rfl, _, rfl, _, rfl, vc, D, m, ri, rj, rc, rfl, hm, hc, o1, o2, o3, o4, fun u H2 s2 hu => ?_⟩
    have ec2 : closedF (edges m rs) openF = (match tightF D (pl m ri) (pl m rj) rc with | none => none | some D' => closedF ((edges m rs).drop (a + 1)) D') := ec
    cases et : tightF D (pl m ri) (pl m rj) rc with
    | none =>
      rw [et] at hu ec2
      obtain ⟨_, hu⟩ := hu
      cases hu
      refine ⟨_, rfl, rfl, _, rfl, iteT ?_⟩
      refine q _ _ (s'.trans s2) ?_
      rw [ec2]
      exact ⟨rfl, .non⟩
    | some D2 =>
      rw [et] at hu ec2
      have nu : u ≠ .non := fun z => by
        obtain ⟨_, h2⟩ := hu
        rw [z] at h2
        cases h2
      refine ⟨_, rfl, rfl, _, rfl, ?_⟩
      rw [decide_eq_false nu]
      exact iteF ⟨u, D2, _, _, _, rfl, s'.trans s2, hu, ec2⟩
  · rintro σ' H' ⟨vc, D, y3, y4, y5, rfl, s', hc, ec⟩
    have e : (edges m rs).drop xs.length = [] := List.drop_eq_nil_of_le (by unfold edges; simp [xl])
    rw [e] at ec
    refine ⟨_, rfl, q _ _ s' ?_⟩
    rw [ec]
    exact hc
end
end Lm

set_option Elab.async false
set_option linter.all false
set_option maxRecDepth 100000
set_option maxHeartbeats 2000000
set_option pp.maxSteps 600
set_option pp.deepTerms.threshold 6
namespace Lm
open PySem PySem.Spec PyProof.Rows L2 LmR RZ
/-! ### Bounds -/
def bfl (m : Nat) (vg vc : V) : List (Str × V) := putF "closed" vc (putF "given" vg (putF "many" (.int m) []))
theorem n_gc : ¬ (("given" : Str) = "closed") := by decide +kernel
theorem n_mc : ¬ (("many" : Str) = "closed") := by decide +kernel
theorem n_mg : ¬ (("many" : Str) = "given") := by decide +kernel
theorem bfl_closed (m : Nat) (vg vc : V) : (bfl m vg vc).lookup ("closed" : Str) = some vc := by unfold bfl; rw [lookup_putF, if_pos rfl]
theorem bfl_given (m : Nat) (vg vc : V) : (bfl m vg vc).lookup ("given" : Str) = some vg := by unfold bfl; rw [lookup_putF, if_neg n_gc, lookup_putF, if_pos rfl]
theorem bfl_many (m : Nat) (vg vc : V) : (bfl m vg vc).lookup ("many" : Str) = some (.int m) := by unfold bfl; rw [lookup_putF, if_neg n_mc, lookup_putF, if_neg n_mg, lookup_putF, if_pos rfl]
theorem bfl_no (m : Nat) (vg vc : V) {x : Str} (h1 : ¬ x = "closed") (h2 : ¬ x = "given") (h3 : ¬ x = "many") : (bfl m vg vc).lookup x = none := by
  unfold bfl
  rw [lookup_putF, if_neg h1, lookup_putF, if_neg h2, lookup_putF, if_neg h3]
  rfl
/-- Bounds over m numbers, of the rows rs, stand at x -/
structure BdAt (K : PySem.W.Frag) (C : Addr) (H : Hp) (x : Addr) (m : Nat) (rs : List Row) : Prop where
  ob : ∃ dx vg vc, H x = some (.ins C dx (bfl m vg vc)) ∧ Fd K H vg (.tuple (rs.map rowD)) ∧ Fd K H vc (oClo m (closedF (edges m rs) openF))
  ok : ∀ r ∈ rs, RowOk m r
  hm : m ≤ 100
  hl : rs.length ≤ 100
theorem BdAt.keep {K : PySem.W.Frag} {C : Addr} {H H' : Hp} {x : Addr} {m : Nat} {rs : List Row} (h : BdAt K C H x m rs) (e : ∀ o, H x = some o → H' x = some o) (t : Tp K H H') : BdAt K C H' x m rs := by
  obtain ⟨dx, vg, vc, h1, h2, h3⟩ := h.ob
  exact ⟨⟨dx, vg, vc, e _ h1, h2.keep t, h3.keep t⟩, h.ok, h.hm, h.hl⟩
theorem BdAt.same {K : PySem.W.Frag} {C : Addr} {H H' : Hp} {x : Addr} {m : Nat} {rs : List Row} (h : BdAt K C H x m rs) (s : Same H H') : BdAt K C H' x m rs := h.keep (fun o z => s _ _ z) (Tp.same s)
theorem Tp.ins {K : PySem.W.Frag} {H : Hp} {p : Addr} {C dx : Addr} {fs : List (Str × V)} {o' : HO} (h : H p = some (.ins C dx fs)) : Tp K H (upd H p o') := Tp.put h (fun _ z => nomatch z) (fun _ _ z => nomatch z)
theorem rows_flat (rs : List Row) : flat (.tuple (rs.map rowD)) = true := flats_map _ rowD_flat rs
theorem sql_ins {K : PySem.W.Frag} {H : Hp} {p a : Addr} {C dx : Addr} {fs : List (Str × V)} {o' : HO} {xs : List V} (h : H p = some (.ins C dx fs)) (q : SqL K H a xs) : SqL K (upd H p o') a xs := by
  rcases q with (q | ⟨u, q⟩) | q
  · have n : a ≠ p := fun z => by rw [z, h] at q; cases q
    exact .inl (.inl (by rw [upd_ne n]; exact q))
  · have n : a ≠ p := fun z => by rw [z, h] at q; cases q
    exact .inl (.inr ⟨u, by rw [upd_ne n]; exact q⟩)
  · exact .inr q
theorem putF_len (f : Str) (v : V) : ∀ fs : List (Str × V), (putF f v fs).length ≤ fs.length + 1
  | [] => Nat.le_refl _
  | (g, x) :: r => by
    unfold putF
    split
    · simp
    · have := putF_len f v r
      simp
      omega
/-- the point that is told -/
def PtF (D : Mat) (m : Nat) (ns : List Int) : Prop := ns.length = m ∧ ∃ low : Nat → Int, (∀ a, a ≤ m → IsLow D m a (low a)) ∧ ∀ a, a < m → ns[a]? = some (low a - low m)
theorem low_one {D : Mat} {m a : Nat} {x y : Int} (h : IsLow D m a x) (g : IsLow D m a y) : x = y := by
  obtain ⟨b, hb, eb⟩ := h.2
  obtain ⟨c, hc, ec⟩ := g.2
  have h1 := h.1 c hc y ec
  have h2 := g.1 b hb x eb
  omega
theorem pt_one {D : Mat} {m : Nat} {ns ms : List Int} (h : PtF D m ns) (g : PtF D m ms) : ns = ms := by
  obtain ⟨l1, f, hf, e1⟩ := h
  obtain ⟨l2, g, hg, e2⟩ := g
  refine List.ext_getElem? fun a => ?_
  by_cases ha : a < m
  · rw [e1 a ha, e2 a ha, low_one (hf a (by omega)) (hg a (by omega)), low_one (hf m (Nat.le_refl _)) (hg m (Nat.le_refl _))]
  · rw [List.getElem?_eq_none (by omega), List.getElem?_eq_none (by omega)]
theorem clo_non {K : PySem.W.Frag} {H : Hp} {v : V} {m : Nat} {o : Option Mat} (h : Fd K H v (oClo m o)) : decide (v = .non) = o.isNone := by
  obtain ⟨_, h⟩ := h
  cases o with
  | none => cases h; rfl
  | some D => cases h; exact decide_eq_false (fun z => by cases z)
section
variable {P : Program} {w : World} {K : PySem.W.Frag} {mg : Str → Option Value} {base : Heap} {c_Bounds : Addr}
abbrev s_Bounds___init__ : Stmt := inClass (topS 8) 0
theorem sc_Bounds___init__ : FnScope ["self", "many", "rows", "i", "j", "c"] ["self", "many", "rows"] (defScope s_Bounds___init__) := ⟨rfl, rfl, rfl, by decide +kernel, rfl, by decide +kernel, by decide +kernel⟩
def BF : List Str := ["many", "given", "closed"]
def spInit (K : PySem.W.Frag) (C : Addr) : Sp := fun vs H Q _ => ∃ (x dx a : Addr) (m : Nat) (xs : List V) (rs : List Row), vs = [.ref x, .int m, .ref a] ∧ H x = some (.ins C dx []) ∧ (SqL K H a xs ∨ SqT K H a xs) ∧ DpAll K H xs (rs.map rowD) ∧ (∀ r ∈ rs, RowOk m r) ∧ m ≤ 100 ∧ rs.length ≤ 100 ∧
  ∀ H', (∀ b o, H b = some o → b ≠ x → H' b = some o) → BdAt K C H' x m rs → Q .non H'
theorem ok_Bounds_init {dvs : List V} {n : Nat} (B : Bt mg) (T_Bounds : ClsAt K mg "Bounds" c_Bounds BF) (C_closed_by : Cal P w K mg base 4 "closed_by" ["many", "rows"] (spClosed K)) (D : DefI K mg c_Bounds "Bounds" "Bounds.__init__" s_Bounds___init__ ["self", "many", "rows"] dvs n) : CalI P w K mg base 5 c_Bounds "Bounds" ["self", "many", "rows"] dvs n (spInit K c_Bounds) := by
  refine cali_of D sc_Bounds___init__ (fun vs H Q E h => ?_) (fun f cdv A outer s H vs Q E hr h => ?_)
  · obtain ⟨x, dx, a, m, xs, rs, rfl, _⟩ := h
    rfl
  obtain ⟨x, dx, a, m, xs, rs, rfl, hx, hxs, hd, hrs, hm, hl, q⟩ := h
  have hr' : Room 4 _ := hr
  refine ⟨_, (pss_cons (ps_fld (pv 0) (pv 1) rfl)
      (pss_cons (ps_fld (pv 0) (pe_callTy call_tuple_of (by rfl) B.tuple PyProof.Rows.boot_tuple (pa_cons (pe_lc (own := [("i", 3), ("j", 4), ("c", 5)]) (g := gTup K 3 (gCons (gName 3) (gCons (gName 4) (gCons (gName 5) gNil)))) rfl sc_Bounds___init__.nd (pi_lt (pv 2)) (blkOk_by (own := [("i", 3), ("j", 4), ("c", 5)]) (N := ["self", "many", "rows", "i", "j", "c"]) (sc := defScope s_Bounds___init__) (by decide +kernel)) (fun _ _ _ _ _ => (pg_tupK (K := K) rfl rfl (pgs_cons (pg_name (i := 3) sc_Bounds___init__.nd rfl (.inl rfl)) (pgs_cons (pg_name (i := 4) sc_Bounds___init__.nd rfl (.inl rfl)) (pgs_cons (pg_name (i := 5) sc_Bounds___init__.nd rfl (.inl rfl)) pgs_nil))))) (fun _ _ _ _ _ => pts_nil) (fun _ _ _ _ _ => (pe_tup (pa_cons (pv 3) (pa_cons (pv 4) (pa_cons (pv 5) pa_nil)))))) pa_nil)) rfl)
      (pss_one (ps_fld (pv 0) (pe_cal C_closed_by hr' (by rfl) (pa_cons (pv 1) (pa_cons (pe_fld (pv 0) rfl) pa_nil))) rfl)))), ?_⟩
  have nM := T_Bounds.n "many" (by simp [BF])
  have nG := T_Bounds.n "given" (by simp [BF])
  have nC := T_Bounds.n "closed" (by simp [BF])
  refine ⟨_, rfl, _, rfl, x, c_Bounds, dx, [], rfl, hx, T_Bounds.c, nM, (by show 0 < 1000; decide), ?_⟩
  have x1 : (upd H x (.ins c_Bounds dx (putF "many" (.int m) []))) x = some (.ins c_Bounds dx (putF "many" (.int m) [])) := upd_same
  have k1 : ∀ b o, H b = some o → b ≠ x → (upd H x (.ins c_Bounds dx (putF "many" (.int m) []))) b = some o := fun b o z n => by rw [upd_ne n]; exact z
  have t1 : Tp K H (upd H x (.ins c_Bounds dx (putF "many" (.int m) []))) := Tp.ins hx
  have hxs1 : SqL K (upd H x (.ins c_Bounds dx (putF "many" (.int m) []))) a xs ∨ SqT K (upd H x (.ins c_Bounds dx (putF "many" (.int m) []))) a xs := hxs.imp (fun z => sql_ins hx z) (fun z => t1 _ _ z)
  have hd1 := dps_keep t1 _ _ (rows_flat rs) hd
  generalize upd H x (.ins c_Bounds dx (putF "many" (.int m) [])) = H1 at x1 k1 t1 hxs1 hd1
  obtain ⟨xl, xg⟩ := dpall_getM _ hd1
  have step : ∀ (j : Nat) (y : V) (H' : Hp) (D : Addr), xs[j]? = some y → Same H1 H' → ∃ t r, y = .ref t ∧ rs[j]? = some r ∧ SqT K H' t [.int r.1, .int r.2.1, .int r.2.2] := fun j y H' D hy s' => by
    have jl : j < rs.length := by rw [← xl]; exact (List.getElem?_eq_some_iff.mp hy).1
    obtain ⟨v, hv, dv⟩ := xg j rs[j] (List.getElem?_eq_getElem jl)
    rw [hy] at hv
    cases hv
    obtain ⟨t, rfl, ht⟩ := row_read dv
    exact ⟨t, rs[j], rfl, List.getElem?_eq_getElem jl, Tp.same s' _ _ ht⟩
  have rest : ∀ (H2 : Hp) (t : Addr) (us : List V), Same H1 H2 → H2 t = some (.tup us) → DpAll K H2 us (rs.map rowD) → sFld K (tVar 0) (fun _ _ R => R (.ref t) H2) "given" { nx := fun σ' H' => sFld K (tVar 0) (tCall (spClosed K) [] (fun _ _ _ => False) (tCons (tVar 1) (tCons (tFld K (tVar 0) "given") tNil))) "closed" { nx := fun _ H' => Q .non H', rt := Q } σ' H', rt := Q } [some (.ref x), some (.int m), some (.ref a), none, none, none] H2 := fun H2 t us s2 ht hus => by
    refine ⟨_, rfl, x, c_Bounds, dx, _, rfl, s2 _ _ x1, T_Bounds.c, nG, (by have := putF_len "many" (.int m) []; simp only [List.length_nil] at this; omega), ?_⟩
    have hx2 := s2 _ _ x1
    have fd2 : Fd K H2 (.ref t) (.tuple (rs.map rowD)) := ⟨rows_flat rs, .tup (.inl (.inl ht)) hus⟩
    have t3 : Tp K H2 (upd H2 x (.ins c_Bounds dx (putF "given" (.ref t) (putF "many" (.int m) [])))) := Tp.ins hx2
    have x3 : (upd H2 x (.ins c_Bounds dx (putF "given" (.ref t) (putF "many" (.int m) [])))) x = some (.ins c_Bounds dx (putF "given" (.ref t) (putF "many" (.int m) []))) := upd_same
    have k3 : ∀ b o, H b = some o → b ≠ x → (upd H2 x (.ins c_Bounds dx (putF "given" (.ref t) (putF "many" (.int m) [])))) b = some o := fun b o z n => by rw [upd_ne n]; exact s2 _ _ (k1 b o z n)
    have fd3 := fd2.keep t3
    generalize upd H2 x (.ins c_Bounds dx (putF "given" (.ref t) (putF "many" (.int m) []))) = H3 at x3 k3 fd3
    refine ⟨_, rfl, _, rfl, x, c_Bounds, dx, _, _, rfl, x3, T_Bounds.c, nG, (by rw [lookup_putF, if_pos rfl]), m, .ref t, rs, rfl, hm, fd3, hrs, fun u H4 s4 hu => ?_⟩
    have hx4 := s4 _ _ x3
    refine ⟨_, rfl, x, c_Bounds, dx, _, rfl, hx4, T_Bounds.c, nC, (by have h1 := putF_len "many" (.int m) []; have h2 := putF_len "given" (.ref t) (putF "many" (.int m) []); simp only [List.length_nil] at h1; omega), ?_⟩
    have t5 : Tp K H4 (upd H4 x (.ins c_Bounds dx (putF "closed" u (putF "given" (.ref t) (putF "many" (.int m) []))))) := Tp.ins hx4
    refine q _ (fun b o z n => ?_) ⟨⟨dx, .ref t, u, upd_same, (fd3.keep (Tp.same s4)).keep t5, hu.keep t5⟩, hrs, hm, hl⟩
    rw [upd_ne n]
    exact s4 _ _ (k3 b o z n)
  rcases hxs1 with hs | hs
  · refine ⟨_, rfl, a, rfl, .inl ⟨⟨_, hs⟩, fun D hD => lc_list (K := K) (a := a) (xs := xs) (fun j H' => Same H1 H' ∧ ∃ us, H' D = some (.lst us) ∧ DpAll K H' us ((rs.take j).map rowD)) ?_ ?_ ?_ ?_⟩⟩
    · exact ⟨same_new hD, [], upd_same, .nil⟩
    · rintro j H' _ ⟨s', _⟩
      exact s'.seq hs
    · rintro j y H' hy ⟨s', us, hD', hus⟩
      obtain ⟨t, r, rfl, hr1, ht⟩ := step j y H' D hy s'
      have ul : us.length ≤ 100 := by
        have := (dpall_getM _ hus).1
        rw [List.length_take] at this
        omega
      refine ⟨t, _, rfl, ht, rfl, _, _, rfl, _, _, rfl, _, _, rfl, rfl, rfl, _, rfl, _, rfl, _, rfl, (by show 3 ≤ sizeLine; decide), fun t2 ht2 => ?_⟩
      have s2 := same_new (o := .tup [.int r.1, .int r.2.1, .int r.2.2]) ht2
      have e2 : (upd H' t2 (.tup [.int r.1, .int r.2.1, .int r.2.2])) t2 = some (.tup [.int r.1, .int r.2.1, .int r.2.2]) := upd_same
      generalize upd H' t2 (.tup [.int r.1, .int r.2.1, .int r.2.2]) = H2 at s2 e2
      have hD2 := s2 _ _ hD'
      have t3 : Tp K H2 (upd H2 D (.lst (us ++ [.ref t2]))) := Tp.lst hD2
      refine ⟨us, hD2, smallL (by omega), fun b o z => ?_, us ++ [.ref t2], upd_same, ?_⟩
      · rw [upd_ne (ne_of_none z hD)]
        exact s2 _ _ (s' _ _ z)
      · rw [List.take_add_one, hr1, List.map_append]
        exact dpall_app' (dps_keep ((Tp.same s2).trans t3) _ _ (rows_flat _) hus) (.cons (row_dp (t3 _ _ (.inl (.inl e2)))) .nil)
    · rintro H2 ⟨s2, us, hD2, hus⟩
      rw [xl, List.take_length] at hus
      refine ⟨D, us, rfl, .inl ⟨SqL.of hD2, fun t ht => ?_⟩⟩
      exact rest _ t us (s2.trans (same_new ht)) upd_same (dps_keep (Tp.new ht) _ _ (rows_flat rs) hus)
  · refine ⟨_, rfl, a, rfl, .inr ⟨⟨_, hs⟩, fun D hD => lc_tup (K := K) (a := a) (xs := xs) (fun j H' => Same H1 H' ∧ ∃ us, H' D = some (.lst us) ∧ DpAll K H' us ((rs.take j).map rowD)) ?_ ?_ ?_ ?_⟩⟩
    · exact ⟨same_new hD, [], upd_same, .nil⟩
    · rintro j H' _ ⟨s', _⟩
      exact Tp.same s' _ _ hs
    · rintro j y H' hy ⟨s', us, hD', hus⟩
      obtain ⟨t, r, rfl, hr1, ht⟩ := step j y H' D hy s'
      have ul : us.length ≤ 100 := by
        have := (dpall_getM _ hus).1
        rw [List.length_take] at this
        omega
      refine ⟨t, _, rfl, ht, rfl, _, _, rfl, _, _, rfl, _, _, rfl, rfl, rfl, _, rfl, _, rfl, _, rfl, (by show 3 ≤ sizeLine; decide), fun t2 ht2 => ?_⟩
      have s2 := same_new (o := .tup [.int r.1, .int r.2.1, .int r.2.2]) ht2
      have e2 : (upd H' t2 (.tup [.int r.1, .int r.2.1, .int r.2.2])) t2 = some (.tup [.int r.1, .int r.2.1, .int r.2.2]) := upd_same
      generalize upd H' t2 (.tup [.int r.1, .int r.2.1, .int r.2.2]) = H2 at s2 e2
      have hD2 := s2 _ _ hD'
      have t3 : Tp K H2 (upd H2 D (.lst (us ++ [.ref t2]))) := Tp.lst hD2
      refine ⟨us, hD2, smallL (by omega), fun b o z => ?_, us ++ [.ref t2], upd_same, ?_⟩
      · rw [upd_ne (ne_of_none z hD)]
        exact s2 _ _ (s' _ _ z)
      · rw [List.take_add_one, hr1, List.map_append]
        exact dpall_app' (dps_keep ((Tp.same s2).trans t3) _ _ (rows_flat _) hus) (.cons (row_dp (t3 _ _ (.inl (.inl e2)))) .nil)
    · rintro H2 ⟨s2, us, hD2, hus⟩
      rw [xl, List.take_length] at hus
      refine ⟨D, us, rfl, .inl ⟨SqL.of hD2, fun t ht => ?_⟩⟩
      exact rest _ t us (s2.trans (same_new ht)) upd_same (dps_keep (Tp.new ht) _ _ (rows_flat rs) hus)
end
end Lm

set_option Elab.async false
set_option linter.all false
set_option maxRecDepth 100000
set_option maxHeartbeats 2000000
set_option pp.maxSteps 600
set_option pp.deepTerms.threshold 6
namespace Lm
open PySem PySem.Spec PyProof.Rows L2 LmR
section
variable {P : Program} {w : World} {K : PySem.W.Frag} {mg : Str → Option Value} {base : Heap}
/-! ### cell, flow, draw -/
abbrev s_l_cell : Stmt := topS 11
theorem sc_l_cell : FnScope ["_law_script", "_law_k", "_law_number"] ["_law_script", "_law_k"] (defScope s_l_cell) := ⟨rfl, rfl, rfl, by decide +kernel, rfl, by decide +kernel, by decide +kernel⟩
def spCell (K : PySem.W.Frag) : Sp := fun vs H Q _ => ∃ (a : Addr) (ns : List Int) (k : Int), vs = [.ref a, .int k] ∧ SqL K H a (ns.map V.int) ∧ 0 ≤ k ∧ ∀ i, Q (.int i) H
theorem ok_l_cell (B : Bt mg) (D : DefAt K mg "_law_cell" s_l_cell ["_law_script", "_law_k"]) : Cal P w K mg base 1 "_law_cell" ["_law_script", "_law_k"] (spCell K) := by
  refine cal_of D sc_l_cell (fun vs H Q E h => ?_) (fun f cdv A outer s H vs Q E hr h => ?_)
  · obtain ⟨a, ns, k, rfl, _⟩ := h
    rfl
  obtain ⟨a, ns, k, rfl, hS, h0, q⟩ := h
  refine ⟨_, (pss_cons (ps_if (pt_cmpR op_lt (pv 1) (pe_callB call_len_seq (by rfl) B.len PySem.boot_len (pa_cons (pv 0) pa_nil)) (nomark _))
        (pss_one (ps_ret (pe_ix ix_list (pv 0) (pv 1) (fun _ _ => rfl))))
        pss_nil)
      (pss_cons (ps_set (i := 2) sc_l_cell.nd rfl (.inl rfl) (pe_op op_add (pe_op op_mul (pv 1) pe_int) pe_int))
      (pss_cons (ps_if (pt_cmpR op_gt (pe_callB call_len_seq (by rfl) B.len PySem.boot_len (pa_cons (pv 0) pa_nil)) pe_int (nomark _))
        (pss_one (ps_set (i := 2) sc_l_cell.nd rfl (.inl rfl) (pe_op op_add (pe_op op_mul (pe_op op_mod (pe_ix ix_list (pv 0) (pe_op op_mod (pe_op op_mul (pv 1) pe_int) (pe_callB call_len_seq (by rfl) B.len PySem.boot_len (pa_cons (pv 0) pa_nil))) (fun _ _ => rfl)) pe_int) pe_int) (pe_op op_mul (pv 1) pe_int))))
        pss_nil)
      (pss_one (ps_ret (pe_op op_mul (pe_op op_mod (pv 2) pe_int) pe_int)))))), ?_⟩
  have hl : (ns.map V.int).length = ns.length := List.length_map _
  refine ⟨_, rfl, _, rfl, a, _, rfl, .inl hS, _, _, rfl, rfl, _, rfl, ite2 (fun c => ?_) (fun c => ?_)⟩
  · have c' : k < (((ns.map V.int).length : Nat) : Int) := of_decide_eq_true c
    rw [hl] at c'
    have e : (ns.map V.int)[k.toNat]? = some (.int ns[k.toNat]) := by
      rw [List.getElem?_map, List.getElem?_eq_getElem (by omega)]
      rfl
    exact ⟨_, rfl, _, rfl, a, _, _, _, rfl, rfl, hS, at_of (j := k.toNat) (by omega) e, q _⟩
  · refine ⟨_, rfl, _, _, rfl, rfl, .inr ⟨by decide, by decide⟩, _, _, rfl, rfl, ?_⟩
    refine ⟨_, rfl, a, _, rfl, .inl hS, _, _, rfl, rfl, _, rfl, ite2 (fun c2 => ?_) (fun c2 => ?_)⟩
    · have c2' : (((ns.map V.int).length : Nat) : Int) > 0 := of_decide_eq_true c2
      rw [hl] at c2'
      have hp : (0 : Int) < (((ns.map V.int).length : Nat) : Int) := by rw [hl]; omega
      have b1 : 0 ≤ (k * 7) % (((ns.map V.int).length : Nat) : Int) := Int.emod_nonneg _ (by omega)
      have b2 : (k * 7) % (((ns.map V.int).length : Nat) : Int) < (((ns.map V.int).length : Nat) : Int) := Int.emod_lt_of_pos _ hp
      generalize hj : (k * 7) % (((ns.map V.int).length : Nat) : Int) = j at b1 b2
      rw [hl] at b2
      have e : (ns.map V.int)[j.toNat]? = some (.int ns[j.toNat]) := by
        rw [List.getElem?_map, List.getElem?_eq_getElem (by omega)]
        rfl
      have m1 : 0 ≤ ns[j.toNat] % 2147483629 := Int.emod_nonneg _ (by decide)
      have m2 : ns[j.toNat] % 2147483629 < 2147483629 := Int.emod_lt_of_pos _ (by decide)
      refine ⟨_, rfl, _, rfl, _, _, rfl, rfl, .inr ⟨by decide, by decide⟩, _, rfl, a, _, rfl, .inl hS, _, _, rfl, rfl, hp, a, _, _, V.int ns[j.toNat], rfl, rfl, hS, ?_, _, _, rfl, rfl, (by show (0 : Int) < 2147483629; decide), _, _, rfl, rfl, .inl ⟨by omega, by omega⟩, _, rfl, _, _, rfl, rfl, .inr ⟨by decide, by decide⟩, _, _, rfl, rfl, ?_⟩
      · rw [hj]
        exact at_of (j := j.toNat) (by omega) e
      · have n1 := Int.emod_nonneg (ns[j.toNat] % 2147483629 * 48271 + k * 7919) (show (2147483647 : Int) ≠ 0 by decide)
        have n2 := Int.emod_lt_of_pos (ns[j.toNat] % 2147483629 * 48271 + k * 7919) (show (0 : Int) < 2147483647 by decide)
        exact ⟨_, rfl, _, _, rfl, rfl, (by show (0 : Int) < 2147483647; decide), _, _, rfl, rfl, .inr ⟨by decide, by decide⟩, q _⟩
    · exact ⟨_, rfl, _, _, rfl, rfl, (by show (0 : Int) < 2147483647; decide), _, _, rfl, rfl, .inr ⟨by decide, by decide⟩, q _⟩
/-! the flow that is drawn from -/
def Flow (H : Hp) (f : Addr) : Prop := ∃ own cnt seed : Int, H f = some (.lst [.int own, .int cnt, .int seed]) ∧ 0 ≤ seed ∧ seed < 2 ^ 40
abbrev s_l_flow : Stmt := topS 12
theorem sc_l_flow : FnScope ["_law_script", "_law_k", "_law_cell_here"] ["_law_script", "_law_k"] (defScope s_l_flow) := ⟨rfl, rfl, rfl, by decide +kernel, rfl, by decide +kernel, by decide +kernel⟩
def spFlow (K : PySem.W.Frag) : Sp := fun vs H Q _ => ∃ (a : Addr) (ns : List Int) (k : Int), vs = [.ref a, .int k] ∧ SqL K H a (ns.map V.int) ∧ 0 ≤ k ∧ k ≤ 63 ∧ ∀ (p : Addr) (o : HO), H p = none → Flow (upd H p o) p → Q (.ref p) (upd H p o)
theorem ok_l_flow (B : Bt mg) (C_l_cell : Cal P w K mg base 1 "_law_cell" ["_law_script", "_law_k"] (spCell K)) (D : DefAt K mg "_law_flow" s_l_flow ["_law_script", "_law_k"]) : Cal P w K mg base 2 "_law_flow" ["_law_script", "_law_k"] (spFlow K) := by
  refine cal_of D sc_l_flow (fun vs H Q E h => ?_) (fun f cdv A outer s H vs Q E hr h => ?_)
  · obtain ⟨a, ns, k, rfl, _⟩ := h
    rfl
  obtain ⟨a, ns, k, rfl, hS, h0, h1, q⟩ := h
  have hr' : Room 1 _ := hr
  refine ⟨_, (pss_cons (ps_set (i := 2) sc_l_flow.nd rfl (.inl rfl) (pe_callB call_abs (by rfl) B.abs (by decide +kernel) (pa_cons (pe_cal C_l_cell hr' (by rfl) (pa_cons (pv 0) (pa_cons (pv 1) pa_nil))) pa_nil)))
      (pss_one (ps_ret (pe_lst (pa_cons (pe_op op_mul (pv 2) (pe_callTy call_int1 (by rfl) B.int PyProof.Rows.boot_int (pa_cons (pe_cmpR op_ge (pv 2) (pe_op op_pow pe_int pe_int) (nomark _)) pa_nil))) (pa_cons pe_int (pa_cons (pe_op op_add (pe_op op_mod (pv 2) pe_int) (pe_op op_mul pe_int (pv 1))) pa_nil))))))), ?_⟩
  refine ⟨_, rfl, _, rfl, a, ns, k, rfl, hS, h0, fun i => ?_⟩
  refine ⟨_, rfl, ?_⟩
  generalize (if i < 0 then -i else i) = z
  have m1 : 0 ≤ z % 2147483629 := Int.emod_nonneg _ (by decide)
  have m2 : z % 2147483629 < 2147483629 := Int.emod_lt_of_pos _ (by decide)
  have pw : CPow 10 18 := ⟨by decide, by decide, by decide⟩
  refine ⟨_, rfl, _, rfl, _, _, rfl, rfl, pw, _, _, rfl, rfl, .inr ⟨_, rfl, ?_⟩⟩
  generalize decide (z ≥ 10 ^ (18 : Int).toNat) = b
  obtain ⟨u, eu, u1, u2⟩ : ∃ u : Int, (V.int (if b = true then 1 else 0)) = .int u ∧ 0 ≤ u ∧ u ≤ 1 := by
    cases b
    · exact ⟨0, rfl, by decide, by decide⟩
    · exact ⟨1, rfl, by decide, by decide⟩
  refine ⟨_, _, rfl, eu, .inr ⟨by omega, by omega⟩, _, rfl, _, _, rfl, rfl, (by show (0 : Int) < 2147483629; decide), _, rfl, _, _, rfl, rfl, .inl ⟨by decide, by decide⟩, _, _, rfl, rfl, (by show 3 ≤ sizeLine; decide), fun p hp => q p _ hp ⟨_, _, _, upd_same, by omega, by omega⟩⟩
/-- the flow at f was drawn from, nothing else changed -/
structure Dr (f : Addr) (H H' : Hp) : Prop where
  off : ∀ b, b ≠ f → H' b = H b
  fl : Flow H' f
theorem Flow.lst {H : Hp} {f : Addr} (h : Flow H f) : ∃ xs, H f = some (.lst xs) := by
  obtain ⟨a, b, c, e, _⟩ := h
  exact ⟨_, e⟩
theorem Dr.ex {f : Addr} {H H' : Hp} (d : Dr f H H') : Ex [f] H H' := fun b o h n => by
  rw [d.off b (fun z => n (by rw [z]; simp))]
  exact h
theorem Dr.trans {f : Addr} {H H1 H2 : Hp} (a : Dr f H H1) (b : Dr f H1 H2) : Dr f H H2 := ⟨fun c n => (b.off c n).trans (a.off c n), b.fl⟩
theorem Dr.tp {f : Addr} {H H' : Hp} (d : Dr f H H') (h : Flow H f) : Tp K H H' := by
  obtain ⟨xs, e⟩ := h.lst
  refine d.ex.tp fun b hb ys q => ?_
  rw [List.mem_singleton.mp hb] at q
  rcases q with q | ⟨o, q⟩
  · rw [e] at q; cases q
  · rw [e] at q; cases q
abbrev s_l_draw : Stmt := topS 13
theorem sc_l_draw : FnScope ["_law_flow_here", "_law_many", "_law_digit"] ["_law_flow_here", "_law_many"] (defScope s_l_draw) := ⟨rfl, rfl, rfl, by decide +kernel, rfl, by decide +kernel, by decide +kernel⟩
def spDraw : Sp := fun vs H Q _ => ∃ (f : Addr) (m : Int), vs = [.ref f, .int m] ∧ Flow H f ∧ 0 < m ∧ m < 1073741824 ∧ ∀ (d : Int) (H' : Hp), 0 ≤ d → d < m → Dr f H H' → Q (.int d) H'
theorem dr_put {f : Addr} {H H0 : Hp} {xs : List V} (o : ∀ b, b ≠ f → H0 b = H b) (fl : Flow (upd H0 f (.lst xs)) f) : Dr f H (upd H0 f (.lst xs)) := ⟨fun b n => by rw [upd_ne n]; exact o b n, fl⟩
theorem ok_l_draw (D : DefAt K mg "_law_draw" s_l_draw ["_law_flow_here", "_law_many"]) : Cal P w K mg base 1 "_law_draw" ["_law_flow_here", "_law_many"] (spDraw) := by
  refine cal_of D sc_l_draw (fun vs H Q E h => ?_) (fun f cdv A outer s H vs Q E hr h => ?_)
  · obtain ⟨a, m, rfl, _⟩ := h
    rfl
  obtain ⟨a, m, rfl, ⟨own, cnt, seed, hf, s0, s1⟩, m0, m1, q⟩ := h
  refine ⟨_, (pss_cons (ps_if (pt_cmpR op_gt (pe_ix ix_list (pv 0) pe_int (fun _ _ => rfl)) pe_int (nomark _))
        (pss_cons (ps_set (i := 2) sc_l_draw.nd rfl (.inl rfl) (pe_op op_mod (pe_ix ix_list (pv 0) pe_int (fun _ _ => rfl)) (pv 1)))
      (pss_cons (ps_asg (pe_op op_fdiv (pe_ix ix_list (pv 0) pe_int (fun _ _ => rfl)) (pv 1)) (pg_sub (pv 0) pe_int set_list))
      (pss_one (ps_ret (pv 2)))))
        pss_nil)
      (pss_cons (ps_asg (pe_op op_add (pe_ix ix_list (pv 0) pe_int (fun _ _ => rfl)) pe_int) (pg_sub (pv 0) pe_int set_list))
      (pss_cons (ps_asg (pe_op op_mod (pe_op op_add (pe_op op_add (pe_op op_mul (pe_ix ix_list (pv 0) pe_int (fun _ _ => rfl)) pe_int) pe_int) (pe_ix ix_list (pv 0) pe_int (fun _ _ => rfl))) pe_int) (pg_sub (pv 0) pe_int set_list))
      (pss_one (ps_ret (pe_op op_mod (pe_op op_fdiv (pe_ix ix_list (pv 0) pe_int (fun _ _ => rfl)) pe_int) (pv 1))))))), ?_⟩
  have L : SqL K H a [.int own, .int cnt, .int seed] := SqL.of hf
  refine ⟨_, rfl, a, _, 0, .int own, rfl, rfl, L, rfl, _, _, rfl, rfl, _, rfl, ite2 (fun c => ?_) (fun c => ?_)⟩
  · have b1 : 0 ≤ own % m := Int.emod_nonneg _ (by omega)
    have b2 : own % m < m := Int.emod_lt_of_pos _ m0
    refine ⟨_, rfl, a, _, 0, .int own, rfl, rfl, L, rfl, _, rfl, _, _, rfl, rfl, m0, ?_⟩
    refine ⟨_, rfl, a, _, 0, .int own, rfl, rfl, L, rfl, _, rfl, _, _, rfl, rfl, ⟨m0, m1⟩, ?_⟩
    refine ⟨_, rfl, a, _, 0, 0, rfl, rfl, hf, rfl, ?_⟩
    exact ⟨_, rfl, q _ _ b1 b2 (dr_put (fun _ _ => rfl) ⟨_, _, _, upd_same, s0, s1⟩)⟩
  · refine ⟨_, rfl, a, _, 1, .int cnt, rfl, rfl, L, rfl, _, _, rfl, rfl, ?_⟩
    refine ⟨_, rfl, a, _, 1, 1, rfl, rfl, hf, rfl, ?_⟩
    have hf2 : (upd H a (.lst (List.set [.int own, .int cnt, .int seed] 1 (.int (cnt + 1))))) a = some (.lst [.int own, .int (cnt + 1), .int seed]) := upd_same
    generalize hH : upd H a (.lst (List.set [.int own, .int cnt, .int seed] 1 (.int (cnt + 1)))) = H2 at hf2
    have off : ∀ b, b ≠ a → H2 b = H b := fun b n => by
      rw [← hH, upd_ne n]
    have L2' : SqL K H2 a [.int own, .int (cnt + 1), .int seed] := SqL.of hf2
    refine ⟨_, rfl, a, _, 2, .int seed, rfl, rfl, L2', rfl, _, _, rfl, rfl, .inr ⟨by decide, by decide⟩, _, _, rfl, rfl, _, rfl, a, _, 1, .int (cnt + 1), rfl, rfl, L2', rfl, _, _, rfl, rfl, _, _, rfl, rfl, (by show (0 : Int) < 2147483647; decide), ?_⟩
    have n1 := Int.emod_nonneg (seed * 48271 + 12820163 + (cnt + 1)) (show (2147483647 : Int) ≠ 0 by decide)
    have n2 := Int.emod_lt_of_pos (seed * 48271 + 12820163 + (cnt + 1)) (show (0 : Int) < 2147483647 by decide)
    refine ⟨_, rfl, a, _, 2, 2, rfl, rfl, hf2, rfl, ?_⟩
    refine ⟨_, rfl, a, _, 2, .int _, rfl, rfl, SqL.of upd_same, rfl, _, _, rfl, rfl, ⟨by decide, by decide⟩, _, rfl, _, _, rfl, rfl, m0, ?_⟩
    exact q _ _ (Int.emod_nonneg _ (by omega)) (Int.emod_lt_of_pos _ m0) ⟨fun b z => by rw [upd_ne z, off b z], ⟨_, _, _, upd_same, n1, Int.lt_of_lt_of_le n2 (by decide)⟩⟩
/-- the flow was drawn from, things were made -/
structure Gr (f : Addr) (H H' : Hp) : Prop where
  ex : Ex [f] H H'
  fl : Flow H' f
theorem Dr.gr {f : Addr} {H H' : Hp} (d : Dr f H H') : Gr f H H' := ⟨d.ex, d.fl⟩
theorem Gr.trans {f : Addr} {H H1 H2 : Hp} (a : Gr f H H1) (b : Gr f H1 H2) : Gr f H H2 := ⟨a.ex.trans b.ex, b.fl⟩
theorem Gr.same {f : Addr} {H H' : Hp} (fl : Flow H f) (h : Same H H') : Gr f H H' := by
  refine ⟨Ex.of_same h, ?_⟩
  obtain ⟨a, b, c, e, r⟩ := fl
  exact ⟨a, b, c, h _ _ e, r⟩
theorem Gr.tp {f : Addr} {H H' : Hp} (a : Gr f H H') (h : Flow H f) : Tp K H H' := by
  obtain ⟨xs, e⟩ := h.lst
  refine a.ex.tp fun b hb ys q => ?_
  rw [List.mem_singleton.mp hb] at q
  rcases q with q | ⟨o, q⟩
  · rw [e] at q; cases q
  · rw [e] at q; cases q
theorem Gr.put {f : Addr} {H H' : Hp} {p : Addr} {o : HO} (g : Gr f H H') (h : H p = none) (n : p ≠ f) : Gr f H (upd H' p o) := by
  refine ⟨fun b u hb nb => ?_, ?_⟩
  · rw [upd_ne (ne_of_none hb h)]
    exact g.ex b u hb nb
  · obtain ⟨x, y, z, e, r⟩ := g.fl
    exact ⟨x, y, z, by rw [upd_ne n.symm]; exact e, r⟩
theorem Gr.new {f : Addr} {H : Hp} {p : Addr} {o : HO} (fl : Flow H f) (h : H p = none) : Gr f H (upd H p o) := Gr.same fl (same_new h)
theorem Flow.nf {f : Addr} {H : Hp} (g : Flow H f) {D : Addr} (h : H D = none) : D ≠ f := fun z => by
  obtain ⟨xs, e⟩ := g.lst
  rw [z, e] at h
  cases h
abbrev s_l_rows : Stmt := topS 14
theorem sc_l_rows : FnScope ["_law_flow_here", "_law_many", "_law_most", "_law_far", "_law_found", "_law_k", "_law_i", "_law_j"] ["_law_flow_here", "_law_many", "_law_most", "_law_far"] (defScope s_l_rows) := ⟨rfl, rfl, rfl, by decide +kernel, rfl, by decide +kernel, by decide +kernel⟩
def spRows (K : PySem.W.Frag) : Sp := fun vs H Q _ => ∃ (f : Addr) (m : Nat) (mo far : Int), vs = [.ref f, .int m, .int mo, .int far] ∧ Flow H f ∧ m ≤ 10 ∧ 0 ≤ mo ∧ mo ≤ 30 ∧ 0 ≤ far ∧ far ≤ 1000 ∧
  ∀ (l : Addr) (xs : List V) (rs : List Row) (H' : Hp), Gr f H H' → H l = none → H' l = some (.lst xs) → DpAll K H' xs (rs.map rowD) → (∀ r ∈ rs, RowOk m r) → (∀ r ∈ rs, -far ≤ r.2.2 ∧ r.2.2 ≤ far) → (rs.length : Int) ≤ mo → Q (.ref l) H'
theorem ok_l_rows (B : Bt mg) (C_l_draw : Cal P w K mg base 1 "_law_draw" ["_law_flow_here", "_law_many"] (spDraw)) (D : DefAt K mg "_law_rows" s_l_rows ["_law_flow_here", "_law_many", "_law_most", "_law_far"]) : Cal P w K mg base 2 "_law_rows" ["_law_flow_here", "_law_many", "_law_most", "_law_far"] (spRows K) := by
  refine cal_of D sc_l_rows (fun vs H Q E h => ?_) (fun f cdv A outer s H vs Q E hr h => ?_)
  · obtain ⟨f, m, mo, far, rfl, _⟩ := h
    rfl
  obtain ⟨f, m, mo, far, rfl, fl, hm, mo0, mo1, fa0, fa1, q⟩ := h
  have hr' : Room 1 _ := hr
  refine ⟨_, (pss_cons (ps_set (i := 4) sc_l_rows.nd rfl (.inl rfl) (pe_lst pa_nil))
      (pss_cons (ps_for PassesOwn.never rfl (pi_range1 (by rfl) B.range (pa_cons (pe_cal C_l_draw hr' (by rfl) (pa_cons (pv 0) (pa_cons (pe_op op_add (pv 2) pe_int) pa_nil))) pa_nil)) (pg_name (i := 5) sc_l_rows.nd rfl (.inl rfl))
        (pss_cons (ps_par (i := 6) (j := 7) rfl sc_l_rows.nd rfl rfl (by decide) rfl rfl (pa_cons (pe_op op_sub (pe_cal C_l_draw hr' (by rfl) (pa_cons (pv 0) (pa_cons (pe_op op_add (pv 1) pe_int) pa_nil))) pe_int) (pa_cons (pe_op op_sub (pe_cal C_l_draw hr' (by rfl) (pa_cons (pv 0) (pa_cons (pe_op op_add (pv 1) pe_int) pa_nil))) pe_int) pa_nil)) rfl)
      (C8.pss_cut (ps_if (PW.pt (pw_and (pt_cmpR op_gt (pe_cal C_l_draw hr' (by rfl) (pa_cons (pv 0) (pa_cons pe_int pa_nil))) pe_int (nomark _)) (pw_and1 (pt_cmpR op_gt (pv 1) pe_int (nomark _)))))
        (pss_one (ps_set (i := 7) sc_l_rows.nd rfl (.inl rfl) (pe_op op_sub (pe_op op_mod (pe_op op_add (pe_op op_add (pv 6) pe_int) (pe_cal C_l_draw hr' (by rfl) (pa_cons (pv 0) (pa_cons (pv 1) pa_nil)))) (pe_op op_add (pv 1) pe_int)) pe_int)))
        pss_nil)
      (pss_one (ps_expr (pe_bm PySem.F.plainAttrs_list PySem.F.slot_list_append PySem.F.type_list_append mt_append (pv 4) (pa_cons (pe_tup (pa_cons (pv 6) (pa_cons (pv 7) (pa_cons (pe_callB (call_min2 rfl) (by rfl) B.min PyProof.Rows.boot_min (pa_cons (pv 3) (pa_cons (pe_op op_sub (pe_cal C_l_draw hr' (by rfl) (pa_cons (pv 0) (pa_cons (pe_op op_add (pe_op op_mul pe_int (pv 3)) pe_int) pa_nil))) (pe_ix ix_list (pe_lst (pa_cons (pv 3) (pa_cons (pe_op op_fdiv (pv 3) pe_int) pa_nil))) (pe_cal C_l_draw hr' (by rfl) (pa_cons (pv 0) (pa_cons pe_int pa_nil))) (fun _ _ => rfl))) pa_nil))) pa_nil)))) pa_nil)))))))
      (pss_one (ps_ret (pv 4))))), ?_⟩
  refine ⟨(by show 0 ≤ sizeLine; decide), fun L hL => ?_⟩
  have nLf := fl.nf hL
  have g1 : Gr f H (upd H L (.lst [])) := Gr.new fl hL
  have e1 : (upd H L (.lst [])) L = some (.lst []) := upd_same
  generalize upd H L (.lst []) = H1 at g1 e1
  refine ⟨_, rfl, _, rfl, _, _, rfl, rfl, f, mo + 1, rfl, g1.fl, by omega, by omega, fun n H2 n0 n1 dr2 => ?_⟩
  have g2 := g1.trans dr2.gr
  have e2 : H2 L = _ := (dr2.off L nLf).trans e1
  refine ⟨n, rfl, by omega, by omega, for_range (lo := 0) (n := n.toNat) (fun k σ' H' => (∃ y5 y6 y7 : Option V, σ' = [some (.ref f), some (.int m), some (.int mo), some (.int far), some (.ref L), y5, y6, y7]) ∧ Gr f H H' ∧ ∃ xs rs, H' L = some (.lst xs) ∧ DpAll K H' xs (rs.map rowD) ∧ (∀ r ∈ rs, RowOk m r) ∧ (∀ r ∈ rs, -far ≤ r.2.2 ∧ r.2.2 ≤ far) ∧ rs.length = k) ⟨⟨_, _, _, rfl⟩, g2, [], [], e2, .nil, fun r h => absurd h (by simp), fun r h => absurd h (by simp), rfl⟩ ?_ ?_⟩
  · rintro k σ' H' hk ⟨⟨y5, y6, y7, rfl⟩, g, xs, rs, hL', hxs, hok, hc, hl⟩
    have xl := (dpall_getM _ hxs).1
    refine ⟨_, rfl, _, rfl, _, _, rfl, rfl, f, (m : Int) + 1, rfl, g.fl, by omega, by omega, fun i0 H3 a0 a1 dr3 => ⟨_, _, rfl, rfl, ?_⟩⟩
    have g3 := g.trans dr3.gr
    refine ⟨_, rfl, _, rfl, _, _, rfl, rfl, f, (m : Int) + 1, rfl, g3.fl, by omega, by omega, fun j0 H4 b0 b1 dr4 => ⟨_, _, rfl, rfl, _, _, rfl, ?_⟩⟩
    have g4 := g3.trans dr4.gr
    have tp4 : Tp K H' H4 := (dr3.tp g.fl).trans (dr4.tp g3.fl)
    have e4 : H4 L = some (.lst xs) := ((dr4.off L nLf).trans (dr3.off L nLf)).trans hL'
    refine ⟨fun σ2 H5 => ∃ j1 : Int, -1 ≤ j1 ∧ j1 < m ∧ σ2 = [some (.ref f), some (.int m), some (.int mo), some (.int far), some (.ref L), some (.int (0 + (k : Int))), some (.int (i0 - 1)), some (.int j1)] ∧ Gr f H H5 ∧ Tp K H' H5 ∧ H5 L = some (.lst xs), ?_, ?_⟩
    · refine ⟨_, rfl, f, 8, rfl, g4.fl, by decide, by decide, fun d H5 d0 d1 dr5 => ⟨_, _, rfl, rfl, _, rfl, ite2 (fun c1 => ?_) (fun c1 => ?_)⟩⟩
      · have g5 := g4.trans dr5.gr
        have tp5 := tp4.trans (dr5.tp g4.fl)
        have e5 : H5 L = some (.lst xs) := (dr5.off L nLf).trans e4
        refine ⟨_, rfl, _, _, rfl, rfl, _, rfl, ite2 (fun c2 => ?_) (fun c2 => ?_)⟩
        · have m1 : (m : Int) > 0 := of_decide_eq_true c2
          refine ⟨_, rfl, _, _, rfl, rfl, _, rfl, _, rfl, f, (m : Int), rfl, g5.fl, by omega, by omega, fun d2 H6 d20 d21 dr6 => ⟨_, _, rfl, rfl, _, rfl, _, _, rfl, rfl, _, _, rfl, rfl, (by show (0 : Int) < (m : Int) + 1; omega), _, _, rfl, rfl, ?_⟩⟩
          have h1 := Int.emod_nonneg (i0 - 1 + 2 + d2) (show (m : Int) + 1 ≠ 0 by omega)
          have h2 := Int.emod_lt_of_pos (i0 - 1 + 2 + d2) (show (0 : Int) < (m : Int) + 1 by omega)
          exact ⟨(i0 - 1 + 2 + d2) % ((m : Int) + 1) - 1, by omega, by omega, rfl, g5.trans dr6.gr, tp5.trans (dr6.tp g5.fl), (dr6.off L nLf).trans e5⟩
        · exact ⟨j0 - 1, by omega, by omega, rfl, g5, tp5, e5⟩
      · exact ⟨j0 - 1, by omega, by omega, rfl, g4.trans dr5.gr, tp4.trans (dr5.tp g4.fl), (dr5.off L nLf).trans e4⟩
    · rintro σ2 H5 ⟨j1, j10, j11, rfl, g5, tp5, e5⟩
      refine ⟨_, rfl, .inl ⟨rfl, _, SqL.of e5⟩, _, rfl, _, rfl, _, rfl, _, rfl, _, rfl, _, _, rfl, rfl, .inl ⟨by decide, by decide⟩, _, _, rfl, rfl, f, _, rfl, g5.fl, by omega, by omega, fun d H6 d0 d1 dr6 => ?_⟩
      have g6 := g5.trans dr6.gr
      have tp6 := tp5.trans (dr6.tp g5.fl)
      have e6 : H6 L = some (.lst xs) := (dr6.off L nLf).trans e5
      refine ⟨_, rfl, _, rfl, _, _, rfl, rfl, ⟨by decide, by decide⟩, (by show 2 ≤ sizeLine; decide), fun l2 hl2 => ?_⟩
      have n2f := g6.fl.nf hl2
      have g7 : Gr f H (upd H6 l2 (.lst [.int far, .int (far / 2)])) := g6.trans (Gr.new g6.fl hl2)
      have tp7 : Tp K H' (upd H6 l2 (.lst [.int far, .int (far / 2)])) := tp6.trans (Tp.new hl2)
      have e7 : (upd H6 l2 (.lst [.int far, .int (far / 2)])) L = some (.lst xs) := by rw [upd_ne (ne_of_none e6 hl2)]; exact e6
      have u7 : (upd H6 l2 (.lst [.int far, .int (far / 2)])) l2 = some (.lst [.int far, .int (far / 2)]) := upd_same
      generalize upd H6 l2 (.lst [.int far, .int (far / 2)]) = H7 at g7 tp7 e7 u7
      refine ⟨_, rfl, f, 2, rfl, g7.fl, by decide, by decide, fun d2 H8 d20 d21 dr8 => ?_⟩
      have g8 := g7.trans dr8.gr
      have tp8 := tp7.trans (dr8.tp g7.fl)
      have e8 : H8 L = some (.lst xs) := (dr8.off L nLf).trans e7
      have u8 := (dr8.off l2 n2f).trans u7
      obtain ⟨v, ev, v1, v2⟩ : ∃ v : Int, atI [V.int far, V.int (far / 2)] d2 = some (.int v) ∧ 0 ≤ v ∧ v ≤ far := by
        rcases (show d2 = 0 ∨ d2 = 1 by omega) with z | z
        · subst z; exact ⟨far, rfl, by omega, by omega⟩
        · subst z; exact ⟨far / 2, rfl, by omega, by omega⟩
      refine ⟨l2, _, d2, _, rfl, rfl, SqL.of u8, ev, _, _, rfl, rfl, _, _, rfl, (by show 3 ≤ sizeLine; decide), fun t ht => ?_⟩
      obtain ⟨c, ec, c1, c2⟩ : ∃ c : Int, (if d - v < far then d - v else far) = c ∧ -far ≤ c ∧ c ≤ far := ⟨_, rfl, by split <;> omega, by split <;> omega⟩
      rw [ec]
      have g9 : Gr f H (upd H8 t (.tup [.int (i0 - 1), .int j1, .int c])) := g8.trans (Gr.new g8.fl ht)
      have tp9 : Tp K H' (upd H8 t (.tup [.int (i0 - 1), .int j1, .int c])) := tp8.trans (Tp.new ht)
      have e9 : (upd H8 t (.tup [.int (i0 - 1), .int j1, .int c])) L = some (.lst xs) := by rw [upd_ne (ne_of_none e8 ht)]; exact e8
      have u9 : (upd H8 t (.tup [.int (i0 - 1), .int j1, .int c])) t = some (.tup [.int (i0 - 1), .int j1, .int c]) := upd_same
      generalize upd H8 t (.tup [.int (i0 - 1), .int j1, .int c]) = H9 at g9 tp9 e9 u9
      have tA : Tp K H9 (upd H9 L (.lst (xs ++ [.ref t]))) := Tp.lst e9
      refine ⟨L, xs, _, rfl, rfl, e9, smallL (by omega), ⟨_, _, _, rfl⟩, g9.put hL nLf, xs ++ [.ref t], rs ++ [(i0 - 1, j1, c)], upd_same, ?_, fun r hr1 => ?_, fun r hr1 => ?_, by rw [List.length_append, hl]; rfl⟩
      · rw [List.map_append]
        exact dpall_app' (dps_keep (tp9.trans tA) _ _ (rows_flat rs) hxs) (.cons (row_dp (tA _ _ (.inl (.inl u9)))) .nil)
      · rcases List.mem_append.mp hr1 with z | z
        · exact hok r z
        · rw [List.mem_singleton.mp z]
          exact ⟨by show -1 ≤ i0 - 1; omega, by show i0 - 1 < (m : Int); omega, j10, j11⟩
      · rcases List.mem_append.mp hr1 with z | z
        · exact hc r z
        · rw [List.mem_singleton.mp z]
          exact ⟨c1, c2⟩
  · rintro σ' H' ⟨⟨y5, y6, y7, rfl⟩, g, xs, rs, hL', hxs, hok, hc, hl⟩
    exact ⟨_, rfl, q L xs rs H' g hL hL' hxs hok hc (by omega)⟩
end
end Lm

set_option Elab.async false
set_option linter.all false
set_option maxRecDepth 100000
set_option maxHeartbeats 2000000
set_option pp.maxSteps 600
set_option pp.deepTerms.threshold 6
namespace Lm
open PySem PySem.Spec PyProof.Rows L2 LmR
theorem ixN_pl {m : Nat} {i : Int} (h1 : -1 ≤ i) (h2 : i < m) : ixN (m + 1) i = some (pl m i) := by
  unfold ixN pl
  by_cases e : i = -1
  · rw [if_pos e, if_neg (by omega), if_pos (by omega)]
    congr 1
    omega
  · rw [if_neg e, if_pos (by omega), if_pos (by omega)]
def slV (m : Nat) (S : Sums) : List V := (List.range (m + 1)).map fun a => oV (S a)
theorem slV_len (m : Nat) (S : Sums) : (slV m S).length = m + 1 := by unfold slV; rw [List.length_map, List.length_range]
theorem slV_at (m : Nat) (S : Sums) {a : Nat} (h : a ≤ m) : (slV m S)[a]? = some (oV (S a)) := by
  unfold slV
  rw [List.getElem?_map, List.getElem?_range (by omega)]
  rfl
theorem slV_set (m : Nat) (S : Sums) (k : Nat) (z : Int) : (slV m S).set k (.int z) = slV m fun a => if a = k then some z else S a := by
  refine List.ext_getElem? fun a => ?_
  rw [List.getElem?_set]
  by_cases e : k = a
  · subst e
    rw [if_pos rfl]
    by_cases ha : k ≤ m
    · rw [if_pos (by rw [slV_len]; omega), slV_at m _ ha, if_pos rfl]
      rfl
    · rw [if_neg (by rw [slV_len]; omega), List.getElem?_eq_none (by rw [slV_len]; omega)]
  · rw [if_neg e]
    by_cases ha : a ≤ m
    · rw [slV_at m _ ha, slV_at m _ ha, if_neg fun z => e z.symm]
    · rw [List.getElem?_eq_none (by rw [slV_len]; omega), List.getElem?_eq_none (by rw [slV_len]; omega)]
theorem slV_none (m : Nat) : (List.replicate (m + 1) [V.non]).flatten = slV m fun _ => none := by
  have e : ∀ n : Nat, (List.replicate n [V.non]).flatten = List.replicate n V.non := fun n => by
    induction n with
    | zero => rfl
    | succ n ih => rw [List.replicate_succ, List.flatten_cons, ih]; rfl
  rw [e]
  refine List.ext_getElem? fun a => ?_
  by_cases ha : a ≤ m
  · rw [slV_at m _ ha, List.getElem?_replicate, if_pos (by omega)]
    rfl
  · rw [List.getElem?_eq_none (by rw [List.length_replicate]; omega), List.getElem?_eq_none (by rw [slV_len]; omega)]
theorem edges_at {m : Nat} {rs : List Row} {a : Nat} {r : Row} (h : rs[a]? = some r) : (edges m rs)[a]? = some (edgeR m r) := by
  unfold edges
  rw [List.getElem?_map, h]
  rfl
theorem fold_next {R : List Edge} {p : Sums × Bool} {a : Nat} {e : Edge} (h : R[a]? = some e) : (R.take (a + 1)).foldl stE p = stE ((R.take a).foldl stE p) e := by
  rw [List.take_add_one, h, List.foldl_append]
  rfl
/-- a list of rows -/
structure RowsAt (K : PySem.W.Frag) (H : Hp) (l : Addr) (m : Nat) (rs : List Row) : Prop where
  ob : ∃ xs, H l = some (.lst xs) ∧ DpAll K H xs (rs.map rowD)
  ok : ∀ r ∈ rs, RowOk m r
  hl : rs.length ≤ 40
theorem RowsAt.keep {K : PySem.W.Frag} {H H' : Hp} {l : Addr} {m : Nat} {rs : List Row} (h : RowsAt K H l m rs) (e : ∀ o, H l = some o → H' l = some o) (t : Tp K H H') : RowsAt K H' l m rs := by
  obtain ⟨xs, h1, h2⟩ := h.ob
  exact ⟨⟨xs, e _ h1, dps_keep t _ _ (rows_flat rs) h2⟩, h.ok, h.hl⟩
theorem RowsAt.same {K : PySem.W.Frag} {H H' : Hp} {l : Addr} {m : Nat} {rs : List Row} (h : RowsAt K H l m rs) (s : Same H H') : RowsAt K H' l m rs := h.keep (fun o z => s _ _ z) (Tp.same s)
section
variable {P : Program} {w : World} {K : PySem.W.Frag} {mg : Str → Option Value} {base : Heap}
abbrev s_l_down : Stmt := topS 15
theorem sc_l_down : FnScope ["_law_many", "_law_rows_here", "_law_begin", "_law_sums", "_law_falls", "_law_turn", "_law_i", "_law_j", "_law_c"] ["_law_many", "_law_rows_here", "_law_begin"] (defScope s_l_down) := ⟨rfl, rfl, rfl, by decide +kernel, rfl, by decide +kernel, by decide +kernel⟩
def downF (m : Nat) (rs : List Row) (b : Int) : Sums × Bool := itF (edges m rs) (s0F (pl m b)) (m + 2)
def spDown (K : PySem.W.Frag) : Sp := fun vs H Q _ => ∃ (m : Nat) (l : Addr) (rs : List Row) (b : Int), vs = [.int m, .ref l, .int b] ∧ m ≤ 100 ∧ RowsAt K H l m rs ∧ -1 ≤ b ∧ b < m ∧
  ∀ (t p : Addr) (H' : Hp), Same H H' → H' t = some (.tup [.ref p, .bl (downF m rs b).2]) → H' p = some (.lst (slV m (downF m rs b).1)) → Q (.ref t) H'
theorem ok_l_down (B : Bt mg) (D : DefAt K mg "_law_down" s_l_down ["_law_many", "_law_rows_here", "_law_begin"]) : Cal P w K mg base 1 "_law_down" ["_law_many", "_law_rows_here", "_law_begin"] (spDown K) := by
  refine cal_of D sc_l_down (fun vs H Q E h => ?_) (fun f cdv A outer s H vs Q E hr h => ?_)
  · obtain ⟨m, l, rs, b, rfl, _⟩ := h
    rfl
  obtain ⟨m, l, rs, b, rfl, hm, hR, b1, b2, q⟩ := h
  refine ⟨_, (pss_cons (ps_set (i := 3) sc_l_down.nd rfl (.inl rfl) (pe_op op_rep (pe_lst (pa_cons pe_non pa_nil)) (pe_op op_add (pv 0) pe_int)))
      (pss_cons (ps_asg pe_int (pg_sub (pv 3) (pv 2) set_list))
      (pss_cons (ps_set (i := 4) sc_l_down.nd rfl (.inl rfl) pe_bl)
      (pss_cons (ps_for PassesOwn.never rfl (pi_range1 (by rfl) B.range (pa_cons (pe_op op_add (pv 0) pe_int) pa_nil)) (pg_name (i := 5) sc_l_down.nd rfl (.inl rfl))
        (pss_cons (ps_set (i := 4) sc_l_down.nd rfl (.inl rfl) pe_bl)
      (pss_one (ps_for PassesOwn.never rfl (pi_list (pv 1)) (pg_tup rfl (pgs_cons (pg_name (i := 6) sc_l_down.nd rfl (.inl rfl)) (pgs_cons (pg_name (i := 7) sc_l_down.nd rfl (.inl rfl)) (pgs_cons (pg_name (i := 8) sc_l_down.nd rfl (.inl rfl)) pgs_nil))))
        (pss_one (ps_if (PW.pt (pw_and (pt_cmpR op_notN (pe_ix ix_list (pv 3) (pv 7) (fun _ _ => rfl)) pe_non (nomark _)) (pw_and1 (PW.pt (pw_or (pt_cmpR op_isN (pe_ix ix_list (pv 3) (pv 6) (fun _ _ => rfl)) pe_non (nomark _)) (pw_or1 (pt_cmpR op_lt (pe_op op_add (pe_ix ix_list (pv 3) (pv 7) (fun _ _ => rfl)) (pv 8)) (pe_ix ix_list (pv 3) (pv 6) (fun _ _ => rfl)) (nomark _))))))))
        (pss_cons (ps_asg (pe_op op_add (pe_ix ix_list (pv 3) (pv 7) (fun _ _ => rfl)) (pv 8)) (pg_sub (pv 3) (pv 6) set_list))
      (pss_one (ps_set (i := 4) sc_l_down.nd rfl (.inl rfl) pe_bl)))
        pss_nil))))))
      (pss_one (ps_ret (pe_tup (pa_cons (pv 3) (pa_cons (pv 4) pa_nil))))))))), ?_⟩
  refine ⟨(by show 1 ≤ sizeLine; decide), fun l0 hl0 => ⟨_, rfl, _, _, rfl, rfl, l0, (m : Int) + 1, _, rfl, rfl, upd_same, by omega, by omega, ?_, fun p hp => ?_⟩⟩
  · rw [show ((m : Int) + 1).toNat = m + 1 by omega]
    exact small (by show 1 * (m + 1) ≤ 100000; omega)
  have em : ((m : Int) + 1).toNat = m + 1 := by omega
  rw [em, slV_none]
  have s1 := (same_new (o := .lst [V.non]) hl0)
  have p0 : H p = none := s1.free hp
  generalize upd H l0 (.lst [V.non]) = H0 at s1 hp
  refine ⟨_, rfl, _, rfl, p, _, b, pl m b, rfl, rfl, upd_same, by rw [slV_len]; exact ixN_pl b1 b2, ?_⟩
  rw [slV_set]
  have e2 : (upd (upd H0 p (.lst (slV m fun _ => none))) p (.lst (slV m fun a => if a = pl m b then some 0 else none))) p = some (.lst (slV m (s0F (pl m b)))) := upd_same
  have s2 : Same H (upd (upd H0 p (.lst (slV m fun _ => none))) p (.lst (slV m fun a => if a = pl m b then some 0 else none))) := fun c o z => by
    have n : c ≠ p := ne_of_none z p0
    rw [upd_ne n, upd_ne n]
    exact s1 _ _ z
  generalize upd (upd H0 p (.lst (slV m fun _ => none))) p (.lst (slV m fun a => if a = pl m b then some 0 else none)) = H2 at e2 s2
  obtain ⟨xs, hlx, hxs⟩ := hR.ob
  obtain ⟨xl, xg⟩ := dpall_getM _ hxs
  have nlp : l ≠ p := ne_of_none hlx p0
  refine ⟨_, rfl, _, _, rfl, rfl, (m : Int) + 2, rfl, by omega, by omega, for_range (lo := 0) (n := ((m : Int) + 2).toNat) (fun t σ' H' => (∃ y5 y6 y7 y8 : Option V, σ' = [some (.int m), some (.ref l), some (.int b), some (.ref p), some (.bl (itF (edges m rs) (s0F (pl m b)) t).2), y5, y6, y7, y8]) ∧ Same H H' ∧ H' p = some (.lst (slV m (itF (edges m rs) (s0F (pl m b)) t).1))) ⟨⟨_, _, _, _, rfl⟩, s2, e2⟩ ?_ ?_⟩
  · rintro t σ' H' ht ⟨⟨y5, y6, y7, y8, rfl⟩, s', e'⟩
    refine ⟨_, rfl, l, rfl, ⟨_, SqL.of (s' _ _ hlx)⟩, for_list (K := K) (a := l) (xs := xs) (fun a σ2 H3 => (∃ y6 y7 y8 : Option V, σ2 = [some (.int m), some (.ref l), some (.int b), some (.ref p), some (.bl (((edges m rs).take a).foldl stE ((itF (edges m rs) (s0F (pl m b)) t).1, false)).2), some (.int (0 + (t : Int))), y6, y7, y8]) ∧ Same H H3 ∧ H3 p = some (.lst (slV m (((edges m rs).take a).foldl stE ((itF (edges m rs) (s0F (pl m b)) t).1, false)).1))) ⟨⟨_, _, _, rfl⟩, s', e'⟩ ?_ ?_ ?_⟩
    · rintro a σ2 H3 _ ⟨_, s3, _⟩
      exact SqL.of (s3 _ _ hlx)
    · rintro a x σ2 H3 hx ⟨⟨y6, y7, y8, rfl⟩, s3, e3⟩
      have al : a < rs.length := by rw [← xl]; exact (List.getElem?_eq_some_iff.mp hx).1
      have er := List.getElem?_eq_getElem al
      obtain ⟨x', hx', dx⟩ := xg a rs[a] er
      rw [hx] at hx'
      cases hx'
      obtain ⟨tr, rfl, htr⟩ := row_read dx
      have hok := hR.ok rs[a] (List.getElem_mem al)
      have fn := fold_next (p := ((itF (edges m rs) (s0F (pl m b)) t).1, false)) (edges_at (m := m) er)
      rw [fn]
      generalize rs[a] = r at htr hok dx er
      obtain ⟨ri, rj, rc⟩ := r
      obtain ⟨o1, o2, o3, o4⟩ := hok
      generalize ((edges m rs).take a).foldl stE ((itF (edges m rs) (s0F (pl m b)) t).1, false) = pp at e3
      obtain ⟨S, fb⟩ := pp
      have L3 : SqL K H3 p (slV m S) := SqL.of e3
      have aj : atI (slV m S) rj = some (oV (S (pl m rj))) := at_pl (slV_len m S) o3 o4 (slV_at m S (pl_le o3 o4))
      have ai : atI (slV m S) ri = some (oV (S (pl m ri))) := at_pl (slV_len m S) o1 o2 (slV_at m S (pl_le o1 o2))
      have ee : stE (S, fb) (edgeR m (ri, rj, rc)) = (match S (pl m rj) with
        | none => (S, fb)
        | some y => match S (pl m ri) with
          | none => (fun k => if k = pl m ri then some (y + rc) else S k, true)
          | some x => if y + rc < x then (fun k => if k = pl m ri then some (y + rc) else S k, true) else (S, fb)) := rfl
      have stay : stE (S, fb) (edgeR m (ri, rj, rc)) = (S, fb) → (∃ y6 y7 y8 : Option V, ([some (.int m), some (.ref l), some (.int b), some (.ref p), some (.bl fb), some (.int (0 + (t : Int))), some (.int ri), some (.int rj), some (.int rc)] : L2.St) = [some (.int m), some (.ref l), some (.int b), some (.ref p), some (.bl (stE (S, fb) (edgeR m (ri, rj, rc))).2), some (.int (0 + (t : Int))), y6, y7, y8]) ∧ Same H H3 ∧ H3 p = some (.lst (slV m (stE (S, fb) (edgeR m (ri, rj, rc))).1)) := fun e => by
        rw [e]
        exact ⟨⟨_, _, _, rfl⟩, s3, e3⟩
      have go : ∀ y : Int, stE (S, fb) (edgeR m (ri, rj, rc)) = (fun k => if k = pl m ri then some (y + rc) else S k, true) → (∃ y6 y7 y8 : Option V, ([some (.int m), some (.ref l), some (.int b), some (.ref p), some (.bl true), some (.int (0 + (t : Int))), some (.int ri), some (.int rj), some (.int rc)] : L2.St) = [some (.int m), some (.ref l), some (.int b), some (.ref p), some (.bl (stE (S, fb) (edgeR m (ri, rj, rc))).2), some (.int (0 + (t : Int))), y6, y7, y8]) ∧ Same H (upd H3 p (.lst ((slV m S).set (pl m ri) (.int (y + rc))))) ∧ (upd H3 p (.lst ((slV m S).set (pl m ri) (.int (y + rc))))) p = some (.lst (slV m (stE (S, fb) (edgeR m (ri, rj, rc))).1)) := fun y e => by
        rw [e]
        refine ⟨⟨_, _, _, rfl⟩, fun c o z => ?_, by rw [upd_same, slV_set]⟩
        rw [upd_ne (ne_of_none z p0)]
        exact s3 _ _ z
      refine ⟨tr, _, rfl, Tp.same s3 _ _ htr, rfl, _, _, rfl, _, _, rfl, _, _, rfl, rfl, ?_⟩
      cases ej : S (pl m rj) with
      | none =>
        rw [ej] at aj ee
        exact ⟨_, rfl, _, rfl, p, _, rj, _, rfl, rfl, L3, aj, rfl, _, rfl, iteF (stay ee)⟩
      | some y =>
        rw [ej] at aj ee
        refine ⟨_, rfl, _, rfl, p, _, rj, _, rfl, rfl, L3, aj, rfl, _, rfl, iteT ?_⟩
        cases ei : S (pl m ri) with
        | none =>
          rw [ei] at ai ee
          refine ⟨_, rfl, _, rfl, p, _, ri, _, rfl, rfl, L3, ai, rfl, _, rfl, iteT ?_⟩
          exact ⟨_, rfl, _, rfl, p, _, rj, _, rfl, rfl, L3, aj, _, rfl, _, _, rfl, rfl, _, rfl, _, rfl, p, _, ri, _, rfl, rfl, e3, by rw [slV_len]; exact ixN_pl o1 o2, go y ee⟩
        | some x =>
          rw [ei] at ai ee
          refine ⟨_, rfl, _, rfl, p, _, ri, _, rfl, rfl, L3, ai, rfl, _, rfl, iteF ?_⟩
          refine ⟨_, rfl, _, rfl, p, _, rj, _, rfl, rfl, L3, aj, _, rfl, _, _, rfl, rfl, _, rfl, _, rfl, p, _, ri, _, rfl, rfl, L3, ai, _, _, rfl, rfl, _, rfl, ite2 (fun c => ?_) (fun c => ?_)⟩
          · have lt : y + rc < x := of_decide_eq_true c
            have ee' : stE (S, fb) (edgeR m (ri, rj, rc)) = (fun k => if k = pl m ri then some (y + rc) else S k, true) := by
              rw [ee]
              simp only [if_pos lt]
            exact ⟨_, rfl, _, rfl, p, _, rj, _, rfl, rfl, L3, aj, _, rfl, _, _, rfl, rfl, _, rfl, _, rfl, p, _, ri, _, rfl, rfl, e3, by rw [slV_len]; exact ixN_pl o1 o2, go y ee'⟩
          · have nlt : ¬ y + rc < x := fun z => c (decide_eq_true z)
            refine stay ?_
            rw [ee]
            simp only [if_neg nlt]
    · rintro σ2 H3 ⟨⟨y6, y7, y8, rfl⟩, s3, e3⟩
      have e : (edges m rs).take xs.length = edges m rs := List.take_of_length_le (by unfold edges; simp [xl])
      rw [e] at e3 ⊢
      exact ⟨⟨_, _, _, _, rfl⟩, s3, e3⟩
  · rintro σ' H' ⟨⟨y5, y6, y7, y8, rfl⟩, s', e'⟩
    rw [show ((m : Int) + 2).toNat = m + 2 by omega] at e' ⊢
    refine ⟨_, rfl, _, rfl, (by show 2 ≤ sizeLine; decide), fun t ht => q t p _ (s'.trans (same_new ht)) upd_same ?_⟩
    rw [upd_ne (ne_of_none e' ht)]
    exact e'
end
end Lm

set_option Elab.async false
set_option linter.all false
set_option maxRecDepth 100000
set_option maxHeartbeats 2000000
set_option pp.maxSteps 600
set_option pp.deepTerms.threshold 6
namespace Lm
open PySem PySem.Spec PyProof.Rows L2 LmR
theorem ones_plain : ∀ n : Nat, PyData.plainAll (List.replicate n (PyData.int 1)) = true
  | 0 => rfl
  | n + 1 => by
    rw [List.replicate_succ]
    show (true && PyData.plainAll (List.replicate n (PyData.int 1))) = true
    rw [ones_plain n]; rfl
theorem ones_depth : ∀ n : Nat, PyData.depthAll (List.replicate n (PyData.int 1)) = 0
  | 0 => rfl
  | n + 1 => by
    rw [List.replicate_succ]
    show max 0 (PyData.depthAll (List.replicate n (PyData.int 1))) = 0
    rw [ones_depth n]; rfl
theorem ones_dp {K : PySem.W.Frag} {H : Hp} : ∀ n : Nat, DpAll K H (List.replicate n (V.int 1)) (List.replicate n (PyData.int 1))
  | 0 => .nil
  | n + 1 => .cons (.int 1) (ones_dp n)
theorem ones_eqv (n : Nat) : PyData.eqv (.list (List.replicate n (PyData.int 1))) (.list []) = decide (n = 0) := by
  cases n with
  | zero => decide
  | succ n => rw [List.replicate_succ]; simp [PyData.eqv, PyData.eqvAll]
/-- how a list of ones is held against none -/
theorem ones_eq {K : PySem.W.Frag} {H : Hp} {a b : Addr} {n : Nat} {Q : VK} (ha : H a = some (.lst (List.replicate n (V.int 1)))) (hb : H b = some (.lst [])) (q : Q (.bl (decide (n = 0))) H) : rEqP K (.ref a) (.ref b) H Q :=
  ⟨.list (List.replicate n (.int 1)), .list [], .lst (SqL.of ha) (ones_dp n), .lst (SqL.of hb) .nil, ones_plain n, rfl, by show PyData.depthAll (List.replicate n (PyData.int 1)) + 1 ≤ 64; rw [ones_depth]; decide, by rw [ones_eqv]; exact q⟩
/-- x of a place -/
def xOf (m : Nat) (ns : List Int) (a : Nat) : Int := (ns ++ [0]).getD a 0
section
variable {P : Program} {w : World} {K : PySem.W.Frag} {mg : Str → Option Value} {base : Heap}
end
end Lm

set_option Elab.async false
set_option linter.all false
set_option maxRecDepth 100000
set_option maxHeartbeats 2000000
set_option pp.maxSteps 600
set_option pp.deepTerms.threshold 6
namespace Lm
open PySem PySem.Spec PyProof.Rows L2 LmR
/-- what repr tells of Bounds -/
def bdTxt (m n : Nat) : Str := ((((Str.ofString "Bounds(" ++ Str.ofString (toString (m : Int))) ++ ", ") ++ Str.ofString (toString (n : Int))) ++ ")")
theorem str_empty_app (x : Str) : Str.empty ++ x = x := by
  obtain ⟨x⟩ := x
  show Str.mk (#[] ++ x) = Str.mk x
  rw [Array.empty_append]
section
variable {P : Program} {w : World} {K : PySem.W.Frag} {mg : Str → Option Value} {base : Heap} {c_Bounds : Addr}
abbrev s_Bounds_rows : Stmt := inClass (topS 8) 1
theorem sc_Bounds_rows : FnScope ["self"] ["self"] (defScope s_Bounds_rows) := ⟨rfl, rfl, rfl, by decide +kernel, rfl, by decide +kernel, by decide +kernel⟩
def spRowsM (K : PySem.W.Frag) (C : Addr) : Sp := fun vs H Q _ => ∃ (x : Addr) (m : Nat) (rs : List Row), vs = [.ref x] ∧ BdAt K C H x m rs ∧ ∀ v, Fd K H v (.tuple (rs.map rowD)) → Q v H
theorem ok_Bounds_rows (T_Bounds : ClsAt K mg "Bounds" c_Bounds BF) (D : DefM K c_Bounds "rows" "Bounds.rows" s_Bounds_rows ["self"]) : CalM P w K mg base 1 c_Bounds "rows" ["self"] (spRowsM K c_Bounds) := by
  refine calm_of D sc_Bounds_rows (fun vs H Q E h => ?_) (fun f cdv A outer s H vs Q E hr h => ?_)
  · obtain ⟨x, m, rs, rfl, _⟩ := h
    rfl
  obtain ⟨x, m, rs, rfl, hb, q⟩ := h
  have nG := T_Bounds.n "given" (by simp [BF])
  refine ⟨_, (pss_one (ps_ret (pe_fld (pv 0) rfl))), ?_⟩
  obtain ⟨dx, vg, vc, hx, hg, hc⟩ := hb.ob
  exact ⟨_, rfl, x, c_Bounds, dx, _, _, rfl, hx, T_Bounds.c, nG, bfl_given _ _ _, q _ hg⟩
abbrev s_Bounds___len__ : Stmt := inClass (topS 8) 9
theorem sc_Bounds___len__ : FnScope ["self"] ["self"] (defScope s_Bounds___len__) := ⟨rfl, rfl, rfl, by decide +kernel, rfl, by decide +kernel, by decide +kernel⟩
def spLenB (K : PySem.W.Frag) (C : Addr) : Sp := fun vs H Q _ => ∃ (x : Addr) (m : Nat) (rs : List Row), vs = [.ref x] ∧ BdAt K C H x m rs ∧ Q (.int (rs.length : Nat)) H
theorem ok_Bounds_len (B : Bt mg) (T_Bounds : ClsAt K mg "Bounds" c_Bounds BF) (D : DefM K c_Bounds "__len__" "Bounds.__len__" s_Bounds___len__ ["self"]) : CalM P w K mg base 1 c_Bounds "__len__" ["self"] (spLenB K c_Bounds) := by
  refine calm_of D sc_Bounds___len__ (fun vs H Q E h => ?_) (fun f cdv A outer s H vs Q E hr h => ?_)
  · obtain ⟨x, m, rs, rfl, _⟩ := h
    rfl
  obtain ⟨x, m, rs, rfl, hb, q⟩ := h
  have nG := T_Bounds.n "given" (by simp [BF])
  refine ⟨_, (pss_one (ps_ret (pe_callB call_len_seq (by rfl) B.len PySem.boot_len (pa_cons (pe_fld (pv 0) rfl) pa_nil)))), ?_⟩
  obtain ⟨dx, vg, vc, hx, hg, hc⟩ := hb.ob
  obtain ⟨tg, xs, rfl, htg, hxs⟩ : ∃ t xs, vg = .ref t ∧ SqT K H t xs ∧ DpAll K H xs (rs.map rowD) := by
    obtain ⟨_, hg⟩ := hg
    cases hg with
    | tup q r => exact ⟨_, _, rfl, q, r⟩
  refine ⟨_, rfl, x, c_Bounds, dx, _, _, rfl, hx, T_Bounds.c, nG, bfl_given _ _ _, tg, xs, rfl, .inr htg, ?_⟩
  rw [(dpall_getM _ hxs).1]
  exact q
abbrev s_Bounds___repr__ : Stmt := inClass (topS 8) 10
theorem sc_Bounds___repr__ : FnScope ["self"] ["self"] (defScope s_Bounds___repr__) := ⟨rfl, rfl, rfl, by decide +kernel, rfl, by decide +kernel, by decide +kernel⟩
def spReprB (K : PySem.W.Frag) (C : Addr) : Sp := fun vs H Q _ => ∃ (x : Addr) (m : Nat) (rs : List Row), vs = [.ref x] ∧ BdAt K C H x m rs ∧ Q (.str (bdTxt m rs.length)) H
theorem nat_len (n : Nat) (h : n ≤ 100) : (Str.ofString (toString (n : Int))).length ≤ 4 := by
  have e : ∀ k : Fin 101, (Str.ofString (toString ((k : Nat) : Int))).length ≤ 4 := by decide +kernel
  exact e ⟨n, by omega⟩
theorem nat_log (n : Nat) (h : n ≤ 100) : ((n : Nat) : Int).natAbs.log2 < 1920 := by
  have : ((n : Nat) : Int).natAbs = n := rfl
  rw [this]
  by_cases z : n = 0
  · subst z; decide
  · have := (Nat.log2_lt z).mpr (show n < 2 ^ 60 by omega)
    omega
theorem app_len (a b : Str) : (a ++ b).length = a.length + b.length := by
  obtain ⟨a⟩ := a
  obtain ⟨b⟩ := b
  show (a ++ b).size = a.size + b.size
  exact Array.size_append
theorem ok_Bounds_repr (B : Bt mg) (T_Bounds : ClsAt K mg "Bounds" c_Bounds BF) (D : DefM K c_Bounds "__repr__" "Bounds.__repr__" s_Bounds___repr__ ["self"]) : CalM P w K mg base 1 c_Bounds "__repr__" ["self"] (spReprB K c_Bounds) := by
  refine calm_of D sc_Bounds___repr__ (fun vs H Q E h => ?_) (fun f cdv A outer s H vs Q E hr h => ?_)
  · obtain ⟨x, m, rs, rfl, _⟩ := h
    rfl
  obtain ⟨x, m, rs, rfl, hb, q⟩ := h
  have nG := T_Bounds.n "given" (by simp [BF])
  have nM := T_Bounds.n "many" (by simp [BF])
  refine ⟨_, (pss_one (ps_ret (pe_joined (PJ.cons pe_str (PJ.cons (pe_fmt (pe_fld (pv 0) rfl)) (PJ.cons pe_str (PJ.cons (pe_fmt (pe_callB call_len_seq (by rfl) B.len PySem.boot_len (pa_cons (pe_fld (pv 0) rfl) pa_nil))) (PJ.cons pe_str PJ.nil)))))))), ?_⟩
  obtain ⟨dx, vg, vc, hx, hg, hc⟩ := hb.ob
  obtain ⟨tg, xs, rfl, htg, hxs⟩ : ∃ t xs, vg = .ref t ∧ SqT K H t xs ∧ DpAll K H xs (rs.map rowD) := by
    obtain ⟨_, hg⟩ := hg
    cases hg with
    | tup q r => exact ⟨_, _, rfl, q, r⟩
  have hm := hb.hm
  have hl := hb.hl
  have l1 := nat_len m hm
  have l2 := nat_len rs.length hl
  have l0 : (Str.ofString "Bounds(").length = 7 := by decide +kernel
  have l3 : (Str.ofString ", ").length = 2 := by decide +kernel
  have l4 : (Str.ofString ")").length = 1 := by decide +kernel
  have le : Str.empty.length = 0 := rfl
  have sz : ∀ n, n ≤ 1000 → n ≤ sizeLine := fun n h => small (by omega)
  refine ⟨_, rfl, sz _ (by rw [app_len]; omega), _, rfl, x, c_Bounds, dx, _, _, rfl, hx, T_Bounds.c, nM, bfl_many _ _ _, .inr ⟨_, rfl, nat_log m hm, _, rfl, sz _ (by rw [app_len, app_len]; omega), _, rfl, sz _ (by rw [app_len, app_len, app_len]; omega), ?_⟩⟩
  refine ⟨_, rfl, x, c_Bounds, dx, _, _, rfl, hx, T_Bounds.c, nG, bfl_given _ _ _, tg, xs, rfl, .inr htg, ?_⟩
  rw [(dpall_getM _ hxs).1]
  refine .inr ⟨_, rfl, nat_log _ hl, _, rfl, sz _ (by rw [app_len, app_len, app_len, app_len]; omega), _, rfl, sz _ (by rw [app_len, app_len, app_len, app_len, app_len]; omega), ?_⟩
  show Q (.str (((((Str.empty ++ Str.ofString "Bounds(") ++ Str.ofString (toString (m : Int))) ++ ", ") ++ Str.ofString (toString (rs.length : Int))) ++ ")")) H
  rw [str_empty_app]
  exact q
end
end Lm

set_option Elab.async false
set_option linter.all false
set_option maxRecDepth 100000
set_option maxHeartbeats 2000000
set_option pp.maxSteps 600
set_option pp.deepTerms.threshold 6
namespace Lm
open PySem PySem.Spec PyProof.Rows L2 LmR
theorem ones_ne {K : PySem.W.Frag} {H : Hp} {a b : Addr} {n : Nat} {Q : VK} (ha : H a = some (.lst (List.replicate n (V.int 1)))) (hb : H b = some (.lst [])) (q : Q (.bl (!decide (n = 0))) H) : rNeP K (.ref a) (.ref b) H Q :=
  ⟨.list (List.replicate n (.int 1)), .list [], .lst (SqL.of ha) (ones_dp n), .lst (SqL.of hb) .nil, ones_plain n, rfl, by show PyData.depthAll (List.replicate n (PyData.int 1)) + 1 ≤ 64; rw [ones_depth]; decide, by rw [ones_eqv]; exact q⟩
/-- some sums fall to the end -/
def FallsR (m : Nat) (rs : List Row) : Prop := ∃ b : Int, -1 ≤ b ∧ b < m ∧ (downF m rs b).2 = true
theorem falls_iff {m : Nat} {rs : List Row} (hR : ∀ r ∈ rs, RowOk m r) : FallsR m rs ↔ closedF (edges m rs) openF = none := by
  constructor
  · rintro ⟨b, b1, b2, h⟩
    cases e : closedF (edges m rs) openF with
    | none => rfl
    | some D =>
      have z := rest_of (closed_some (edges_ok hR) e) (pl_le b1 b2)
      rw [show (downF m rs b).2 = _ from rfl] at h
      unfold downF at h
      rw [z] at h
      cases h
  · intro e
    refine Classical.byContradiction fun n => ?_
    obtain ⟨D, z, _⟩ := still_closed (n := m + 1) (edges_ok hR) fun b hb => by
      cases c : (itF (edges m rs) (s0F b) (m + 1 + 1)).2 with
      | false => rfl
      | true =>
        refine absurd ?_ n
        by_cases bm : b = m
        · refine ⟨-1, by omega, by omega, ?_⟩
          unfold downF
          rw [show pl m (-1) = b by unfold pl; rw [if_pos rfl, bm]]
          exact c
        · refine ⟨(b : Int), by omega, by omega, ?_⟩
          unfold downF
          rw [show pl m (b : Int) = b by unfold pl; rw [if_neg (by omega)]; omega]
          exact c
    rw [e] at z
    cases z
section
variable {P : Program} {w : World} {K : PySem.W.Frag} {mg : Str → Option Value} {base : Heap}
abbrev s_l_is_empty : Stmt := topS 16
theorem sc_l_is_empty : FnScope ["_law_many", "_law_rows_here", "_law_k"] ["_law_many", "_law_rows_here"] (defScope s_l_is_empty) := ⟨rfl, rfl, rfl, by decide +kernel, rfl, by decide +kernel, by decide +kernel⟩
def spEmL (K : PySem.W.Frag) : Sp := fun vs H Q _ => ∃ (m : Nat) (l : Addr) (rs : List Row), vs = [.int m, .ref l] ∧ m ≤ 100 ∧ RowsAt K H l m rs ∧
  ∀ (c : Bool) (H' : Hp), Same H H' → (c = true ↔ closedF (edges m rs) openF = none) → Q (.bl c) H'
theorem ok_l_is_empty (B : Bt mg) (C_l_down : Cal P w K mg base 1 "_law_down" ["_law_many", "_law_rows_here", "_law_begin"] (spDown K)) (D : DefAt K mg "_law_is_empty" s_l_is_empty ["_law_many", "_law_rows_here"]) : Cal P w K mg base 2 "_law_is_empty" ["_law_many", "_law_rows_here"] (spEmL K) := by
  refine cal_of D sc_l_is_empty (fun vs H Q E h => ?_) (fun f cdv A outer s H vs Q E hr h => ?_)
  · obtain ⟨m, l, rs, rfl, _⟩ := h
    rfl
  obtain ⟨m, l, rs, rfl, hm, hR, q⟩ := h
  have hr' : Room 1 _ := hr
  refine ⟨_, (pss_one (ps_ret (pe_cmpR (op_neP hr.units) (pe_lc (own := [("_law_k", 2)]) (g := gName 2) rfl sc_l_is_empty.nd (pi_range2 (by rfl) B.range (pa_cons (pe_un un_neg pe_int) (pa_cons (pv 0) pa_nil))) (blkOk_by (own := [("_law_k", 2)]) (N := ["_law_many", "_law_rows_here", "_law_k"]) (sc := defScope s_l_is_empty) (by decide +kernel)) (fun _ _ _ _ _ => (pg_name (i := 2) sc_l_is_empty.nd rfl (.inl rfl))) (fun _ _ _ _ _ => (pts_one (pt_val (pe_ix (ix_tupK (K := K) rfl) (pe_cal C_l_down hr' (by rfl) (pa_cons (pv 0) (pa_cons (pv 1) (pa_cons (pv 2) pa_nil)))) pe_int (fun _ _ => rfl))))) (fun _ _ _ _ _ => pe_int)) (pe_lst pa_nil) (nomark _)))), ?_⟩
  refine ⟨1, rfl, _, rfl, -1, (m : Int), rfl, ⟨by decide, by decide, by omega, by omega⟩, fun D hD => lc_range (lo := -1) (n := ((m : Int) - -1).toNat) (fun j H2 => Same H H2 ∧ ∃ n : Nat, H2 D = some (.lst (List.replicate n (V.int 1))) ∧ n ≤ j ∧ (n = 0 ↔ ∀ j' : Nat, j' < j → (downF m rs (-1 + (j' : Int))).2 = false)) ?_ ?_ ?_⟩
  · exact ⟨same_new hD, 0, upd_same, Nat.le_refl _, fun _ j' h => absurd h (Nat.not_lt_zero _), fun _ => rfl⟩
  · rintro j H2 hj ⟨s2, n, hD2, nj, hn⟩
    refine ⟨rfl, _, rfl, _, rfl, _, rfl, m, l, rs, _, rfl, hm, hR.same s2, by omega, by omega, fun t p H7 s7 ht hp => ?_⟩
    have hD7 := s7 _ _ hD2
    refine ⟨t, _, 1, _, rfl, rfl, .inl (.inl ht), rfl, _, rfl, ?_⟩
    cases e : (downF m rs (-1 + (j : Int))).2 with
    | true =>
      refine iteT ⟨_, hD7, by rw [List.length_replicate]; exact smallL (by omega), fun b' o z => ?_, n + 1, by rw [upd_same, List.replicate_succ'] <;> rfl, by omega, fun z => absurd z (by omega), fun z => ?_⟩
      · rw [upd_ne (ne_of_none z hD)]
        exact s7 _ _ (s2 _ _ z)
      · have := z j (by omega)
        rw [e] at this
        cases this
    | false =>
      refine iteF ⟨s2.trans s7, n, hD7, by omega, fun z j' hj' => ?_, fun z => hn.mpr fun j' hj' => z j' (by omega)⟩
      by_cases jj : j' = j
      · rw [jj]; exact e
      · exact hn.mp z j' (by omega)
  · rintro H4 ⟨s4, n, hD4, nj, hn⟩
    refine ⟨(by show 0 ≤ sizeLine; decide), fun z0 hz0 => ?_⟩
    have s5 := same_new (o := .lst []) hz0
    refine ones_ne (n := n) (by rw [upd_ne (ne_of_none hD4 hz0)]; exact hD4) upd_same (q _ _ (s4.trans s5) ?_)
    rw [← falls_iff hR.ok]
    constructor
    · intro z
      refine Classical.byContradiction fun c => ?_
      have n0 : n = 0 := hn.mpr fun j' hj' => by
        cases e : (downF m rs (-1 + (j' : Int))).2 with
        | false => rfl
        | true => exact absurd ⟨_, by omega, by omega, e⟩ c
      rw [n0] at z
      cases z
    · rintro ⟨b, b1, b2, h⟩
      cases c : decide (n = 0) with
      | false => rfl
      | true =>
        have n0 := of_decide_eq_true c
        have := hn.mp n0 (b + 1).toNat (by omega)
        rw [show -1 + ((b + 1).toNat : Int) = b by omega] at this
        rw [this] at h
        cases h
abbrev s_l_follow : Stmt := topS 17
theorem sc_l_follow : FnScope ["_law_many", "_law_rows_here", "_law_others", "_law_i", "_law_j", "_law_c", "_law_least"] ["_law_many", "_law_rows_here", "_law_others"] (defScope s_l_follow) := ⟨rfl, rfl, rfl, by decide +kernel, rfl, by decide +kernel, by decide +kernel⟩
def followF (m : Nat) (rs ot : List Row) : Prop := ∀ r ∈ rs, leO ((downF m ot r.2.1).1 (pl m r.1)) r.2.2
def spFol (K : PySem.W.Frag) : Sp := fun vs H Q _ => ∃ (m : Nat) (l o : Addr) (rs ot : List Row), vs = [.int m, .ref l, .ref o] ∧ m ≤ 100 ∧ RowsAt K H l m rs ∧ RowsAt K H o m ot ∧
  ∀ (c : Bool) (H' : Hp), Same H H' → (c = true ↔ followF m rs ot) → Q (.bl c) H'
theorem ok_l_follow (B : Bt mg) (C_l_down : Cal P w K mg base 1 "_law_down" ["_law_many", "_law_rows_here", "_law_begin"] (spDown K)) (D : DefAt K mg "_law_follow" s_l_follow ["_law_many", "_law_rows_here", "_law_others"]) : Cal P w K mg base 2 "_law_follow" ["_law_many", "_law_rows_here", "_law_others"] (spFol K) := by
  refine cal_of D sc_l_follow (fun vs H Q E h => ?_) (fun f cdv A outer s H vs Q E hr h => ?_)
  · obtain ⟨m, l, o, rs, ot, rfl, _⟩ := h
    rfl
  obtain ⟨m, l, o, rs, ot, rfl, hm, hR, hO, q⟩ := h
  have hr' : Room 1 _ := hr
  refine ⟨_, (pss_cons (ps_for PassesOwn.never rfl (pi_list (pv 1)) (pg_tup rfl (pgs_cons (pg_name (i := 3) sc_l_follow.nd rfl (.inl rfl)) (pgs_cons (pg_name (i := 4) sc_l_follow.nd rfl (.inl rfl)) (pgs_cons (pg_name (i := 5) sc_l_follow.nd rfl (.inl rfl)) pgs_nil))))
        (pss_cons (ps_set (i := 6) sc_l_follow.nd rfl (.inl rfl) (pe_ix ix_list (pe_ix ix_tup (pe_cal C_l_down hr' (by rfl) (pa_cons (pv 0) (pa_cons (pv 2) (pa_cons (pv 4) pa_nil)))) pe_int (fun _ _ => rfl)) (pv 3) (fun _ _ => rfl)))
      (pss_one (ps_if (PW.pt (pw_or (pt_cmpR op_isN (pv 6) pe_non (nomark _)) (pw_or1 (pt_cmpR op_gt (pv 6) (pv 5) (nomark _)))))
        (pss_one (ps_ret pe_bl))
        pss_nil))))
      (pss_one (ps_ret pe_bl))), ?_⟩
  obtain ⟨xs, hlx, hxs⟩ := hR.ob
  obtain ⟨xl, xg⟩ := dpall_getM _ hxs
  refine ⟨_, rfl, l, rfl, ⟨_, SqL.of hlx⟩, for_list (K := K) (a := l) (xs := xs) (fun a σ' H' => (∃ y3 y4 y5 y6 : Option V, σ' = [some (.int m), some (.ref l), some (.ref o), y3, y4, y5, y6]) ∧ Same H H' ∧ followF m (rs.take a) ot) ⟨⟨_, _, _, _, rfl⟩, fun _ _ z => z, fun r h => absurd h (by simp)⟩ ?_ ?_ ?_⟩
  · rintro a σ' H' _ ⟨_, s', _⟩
    exact SqL.of (s' _ _ hlx)
  · rintro a x σ' H' hx ⟨⟨y3, y4, y5, y6, rfl⟩, s', fo⟩
    have al : a < rs.length := by rw [← xl]; exact (List.getElem?_eq_some_iff.mp hx).1
    have er := List.getElem?_eq_getElem al
    obtain ⟨x', hx', dx⟩ := xg a rs[a] er
    rw [hx] at hx'
    cases hx'
    obtain ⟨tr, rfl, htr⟩ := row_read dx
    have hmem : rs[a] ∈ rs := List.getElem_mem al
    have hok := hR.ok rs[a] hmem
    have tk : rs.take (a + 1) = rs.take a ++ [rs[a]] := by rw [List.take_add_one, er]; rfl
    generalize rs[a] = r at htr hok dx er hmem tk
    obtain ⟨ri, rj, rc⟩ := r
    obtain ⟨o1, o2, o3, o4⟩ := hok
    refine ⟨tr, _, rfl, Tp.same s' _ _ htr, rfl, _, _, rfl, _, _, rfl, _, _, rfl, rfl, ?_⟩
    refine ⟨_, rfl, _, rfl, _, rfl, m, o, ot, rj, rfl, hm, hO.same s', o3, o4, fun t p H7 s7 ht hp => ⟨t, _, 0, _, rfl, rfl, .inl (.inl ht), rfl, _, rfl, p, _, ri, _, rfl, rfl, SqL.of hp, at_pl (slV_len m _) o1 o2 (slV_at m _ (pl_le o1 o2)), ?_⟩⟩
    have s07 := s'.trans s7
    have no : ¬ leO ((downF m ot rj).1 (pl m ri)) rc → (false = true ↔ followF m rs ot) := fun z => ⟨fun h => (nomatch h), fun h => absurd (h _ hmem) z⟩
    cases e : (downF m ot rj).1 (pl m ri) with
    | none =>
      rw [e] at no
      exact ⟨_, rfl, rfl, _, rfl, iteT (iteT (q false _ s07 (no fun ⟨_, z, _⟩ => nomatch z)))⟩
    | some v =>
      rw [e] at no
      refine ⟨_, rfl, rfl, _, rfl, iteF ⟨_, rfl, _, rfl, _, _, rfl, rfl, _, rfl, ite2 (fun c => ?_) (fun c => ?_)⟩⟩
      · have lt : rc < v := of_decide_eq_true c
        exact q false _ s07 (no fun ⟨_, z, l⟩ => by cases z; omega)
      · have ge : v ≤ rc := by
          have : ¬ rc < v := fun z => c (decide_eq_true z)
          omega
        refine ⟨⟨_, _, _, _, rfl⟩, s07, fun r h => ?_⟩
        rw [tk] at h
        rcases List.mem_append.mp h with z | z
        · exact fo r z
        · rw [List.mem_singleton.mp z]
          exact ⟨v, e, ge⟩
  · rintro σ' H' ⟨⟨y3, y4, y5, y6, rfl⟩, s', fo⟩
    rw [List.take_of_length_le (by omega)] at fo
    exact q true _ s' ⟨fun _ => fo, fun _ => rfl⟩
abbrev s_l_due : Stmt := topS 18
theorem sc_l_due : FnScope ["_law_many", "_law_rows_here", "_law_others"] ["_law_many", "_law_rows_here", "_law_others"] (defScope s_l_due) := ⟨rfl, rfl, rfl, by decide +kernel, rfl, by decide +kernel, by decide +kernel⟩
def alikeC (m : Nat) : Option Mat → Option Mat → Prop
  | none, none => True
  | some D, some D' => ∀ a b, a ≤ m → b ≤ m → D a b = D' a b
  | _, _ => False
def spDue (K : PySem.W.Frag) : Sp := fun vs H Q _ => ∃ (m : Nat) (l o : Addr) (rs ot : List Row), vs = [.int m, .ref l, .ref o] ∧ m ≤ 100 ∧ RowsAt K H l m rs ∧ RowsAt K H o m ot ∧
  ∀ (c : Bool) (H' : Hp), Same H H' → (c = true ↔ alikeC m (closedF (edges m rs) openF) (closedF (edges m ot) openF)) → Q (.bl c) H'
theorem follow_iff {m : Nat} {rs ot : List Row} {D : Mat} (hR : ∀ r ∈ rs, RowOk m r) (hO : ∀ r ∈ ot, RowOk m r) (h : closedF (edges m ot) openF = some D) : followF m rs ot ↔ ∀ e ∈ edges m rs, leO (D e.1 e.2.1) e.2.2 := by
  have C := closed_some (edges_ok hO) h
  have one : ∀ r ∈ rs, (downF m ot r.2.1).1 (pl m r.1) = D (pl m r.1) (pl m r.2.1) := fun r hr => by
    obtain ⟨a, b, c, d⟩ := hR r hr
    exact down_eq (n := m + 1) C (pl_le a b) (pl_le c d) (rest_of C (pl_le c d))
  constructor
  · intro z e he
    obtain ⟨r, hr, rfl⟩ := List.mem_map.mp he
    have := z r hr
    rw [one r hr] at this
    exact this
  · intro z r hr
    rw [one r hr]
    exact z _ (List.mem_map.mpr ⟨r, hr, rfl⟩)
theorem alike_em {m : Nat} {o o' : Option Mat} {c : Bool} (h : o = none) (k : c = true ↔ o' = none) : c = true ↔ alikeC m o o' := by
  rw [k, h]
  cases o' <;> simp [alikeC]
theorem ok_l_due (B : Bt mg) (C_l_is_empty : Cal P w K mg base 2 "_law_is_empty" ["_law_many", "_law_rows_here"] (spEmL K)) (C_l_follow : Cal P w K mg base 2 "_law_follow" ["_law_many", "_law_rows_here", "_law_others"] (spFol K)) (D : DefAt K mg "_law_due" s_l_due ["_law_many", "_law_rows_here", "_law_others"]) : Cal P w K mg base 3 "_law_due" ["_law_many", "_law_rows_here", "_law_others"] (spDue K) := by
  refine cal_of D sc_l_due (fun vs H Q E h => ?_) (fun f cdv A outer s H vs Q E hr h => ?_)
  · obtain ⟨m, l, o, rs, ot, rfl, _⟩ := h
    rfl
  obtain ⟨m, l, o, rs, ot, rfl, hm, hR, hO, q⟩ := h
  have hr' : Room 2 _ := hr
  refine ⟨_, (pss_cons (ps_if (PW.pt (pw_or (pt_val (pe_cal C_l_is_empty hr' (by rfl) (pa_cons (pv 0) (pa_cons (pv 1) pa_nil)))) (pw_or1 (pt_val (pe_cal C_l_is_empty hr' (by rfl) (pa_cons (pv 0) (pa_cons (pv 2) pa_nil)))))))
        (pss_one (ps_ret (pe_and (pe_cal C_l_is_empty hr' (by rfl) (pa_cons (pv 0) (pa_cons (pv 1) pa_nil))) (pe_one (pe_cal C_l_is_empty hr' (by rfl) (pa_cons (pv 0) (pa_cons (pv 2) pa_nil)))))))
        pss_nil)
      (pss_one (ps_ret (pe_and (pe_cal C_l_follow hr' (by rfl) (pa_cons (pv 0) (pa_cons (pv 1) (pa_cons (pv 2) pa_nil)))) (pe_one (pe_cal C_l_follow hr' (by rfl) (pa_cons (pv 0) (pa_cons (pv 2) (pa_cons (pv 1) pa_nil))))))))), ?_⟩
  refine ⟨_, rfl, _, rfl, m, l, rs, rfl, hm, hR, fun c1 H1 s1 k1 => ⟨_, rfl, ?_⟩⟩
  cases c1 with
  | true =>
    have E1 := k1.mp rfl
    refine iteT (iteT ⟨_, rfl, _, rfl, m, l, rs, rfl, hm, hR.same s1, fun c2 H2 s2 k2 => ?_⟩)
    obtain rfl : c2 = true := k2.mpr E1
    exact ⟨true, rfl, iteT ⟨_, rfl, _, rfl, m, o, ot, rfl, hm, hO.same (s1.trans s2), fun c3 H3 s3 k3 => q c3 _ (s1.trans (s2.trans s3)) (alike_em E1 k3)⟩⟩
  | false =>
    have E1 : closedF (edges m rs) openF ≠ none := fun z => by have := k1.mpr z; cases this
    refine iteF ⟨_, rfl, _, rfl, m, o, ot, rfl, hm, hO.same s1, fun c2 H2 s2 k2 => ⟨_, rfl, ?_⟩⟩
    have s02 := s1.trans s2
    cases c2 with
    | true =>
      have E2 := k2.mp rfl
      refine iteT ⟨_, rfl, _, rfl, m, l, rs, rfl, hm, hR.same s02, fun c3 H3 s3 k3 => ?_⟩
      obtain rfl : c3 = false := by
        cases c3 with
        | false => rfl
        | true => exact absurd (k3.mp rfl) E1
      refine ⟨false, rfl, iteF (q false _ (s02.trans s3) ?_)⟩
      rw [E2]
      cases e : closedF (edges m rs) openF with
      | none => exact absurd e E1
      | some D => exact ⟨fun h => (nomatch h), fun h => h.elim⟩
    | false =>
      have E2 : closedF (edges m ot) openF ≠ none := fun z => by have := k2.mpr z; cases this
      refine iteF ?_
      obtain ⟨D, e⟩ := Option.ne_none_iff_exists'.mp E1
      obtain ⟨D', e'⟩ := Option.ne_none_iff_exists'.mp E2
      have FS := follow_same (closed_some (edges_ok hR.ok) e) (closed_some (edges_ok hO.ok) e')
      rw [← follow_iff hR.ok hO.ok e', ← follow_iff hO.ok hR.ok e] at FS
      rw [e, e'] at q
      refine ⟨_, rfl, _, rfl, _, rfl, m, l, o, rs, ot, rfl, hm, hR.same s02, hO.same s02, fun c3 H3 s3 k3 => ⟨c3, rfl, ?_⟩⟩
      have s03 := s02.trans s3
      cases c3 with
      | false => exact iteF (q false _ s03 ⟨fun h => (nomatch h), fun h => k3.mpr (FS.mpr h).1⟩)
      | true => exact iteT ⟨_, rfl, _, rfl, _, rfl, m, o, l, ot, rs, rfl, hm, hO.same s03, hR.same s03, fun c4 H4 s4 k4 => q c4 _ (s03.trans s4) ⟨fun h => FS.mp ⟨k3.mp rfl, k4.mp h⟩, fun h => k4.mpr (FS.mpr h).2⟩⟩
end
end Lm

set_option Elab.async false
set_option linter.all false
set_option maxRecDepth 100000
set_option maxHeartbeats 2000000
set_option pp.maxSteps 600
set_option pp.deepTerms.threshold 6
namespace Lm
open PySem PySem.Spec PyProof.Rows L2 LmR
theorem cut_takeH {xs : List V} {j : Nat} (h : j ≤ xs.length) : cutV xs none (some (j : Int)) = xs.take j := by
  unfold cutV
  rw [show HT.sIx xs.length xs.length (some (j : Int)) = min j xs.length from HT.sIx_nat _ _ j, HT.sIx_none, List.drop_zero, Nat.sub_zero, Nat.min_eq_left h]
theorem cut_dropH {xs : List V} {j : Nat} (h : j ≤ xs.length) : cutV xs (some (j : Int)) none = xs.drop j := by
  unfold cutV
  rw [show HT.sIx xs.length 0 (some (j : Int)) = min j xs.length from HT.sIx_nat _ _ j, HT.sIx_none, Nat.min_eq_left h]
  exact List.take_of_length_le (by rw [List.length_drop]; omega)
theorem cut_oneH {xs : List V} {j : Nat} (h : j + 1 ≤ xs.length) : cutV xs (some (j : Int)) (some ((j : Int) + 1)) = (xs.drop j).take 1 := by
  unfold cutV
  rw [show ((j : Int) + 1) = ((j + 1 : Nat) : Int) by omega, show HT.sIx xs.length 0 (some (j : Int)) = min j xs.length from HT.sIx_nat _ _ j, show HT.sIx xs.length xs.length (some ((j + 1 : Nat) : Int)) = min (j + 1) xs.length from HT.sIx_nat _ _ _, Nat.min_eq_left h, Nat.min_eq_left (by omega)]
  congr 1
  omega
theorem dpall_takeH {K : PySem.W.Frag} {H : Hp} : ∀ (n : Nat) {xs : List V} {ds : List PyData}, DpAll K H xs ds → DpAll K H (xs.take n) (ds.take n)
  | 0, _, _, _ => by rw [List.take_zero, List.take_zero]; exact .nil
  | n + 1, _, _, .nil => by rw [List.take_nil, List.take_nil]; exact .nil
  | n + 1, _, _, .cons a b => by rw [List.take_succ_cons, List.take_succ_cons]; exact .cons a (dpall_takeH n b)
theorem dpall_dropH {K : PySem.W.Frag} {H : Hp} : ∀ (n : Nat) {xs : List V} {ds : List PyData}, DpAll K H xs ds → DpAll K H (xs.drop n) (ds.drop n)
  | 0, _, _, h => by rw [List.drop_zero, List.drop_zero]; exact h
  | n + 1, _, _, .nil => by rw [List.drop_nil, List.drop_nil]; exact .nil
  | n + 1, _, _, .cons a b => by rw [List.drop_succ_cons, List.drop_succ_cons]; exact dpall_dropH n b
theorem Gr.free {f p : Addr} {H H' : Hp} (g : Gr f H H') (h : H' p = none) : H p = none := by
  cases z : H p with
  | none => rfl
  | some o =>
    by_cases nf : p = f
    · obtain ⟨ys, q⟩ := g.fl.lst
      rw [nf, q] at h
      cases h
    · have := g.ex _ _ z (by simp [nf])
      rw [this] at h
      cases h
section
variable {P : Program} {w : World} {K : PySem.W.Frag} {mg : Str → Option Value} {base : Heap}
abbrev s_l_more : Stmt := topS 19
theorem sc_l_more : FnScope ["_law_flow_here", "_law_many", "_law_rows_here", "_law_found", "_law_turn", "_law_i", "_law_j", "_law_least", "_law_at"] ["_law_flow_here", "_law_many", "_law_rows_here"] (defScope s_l_more) := ⟨rfl, rfl, rfl, by decide +kernel, rfl, by decide +kernel, by decide +kernel⟩
def spMore (K : PySem.W.Frag) : Sp := fun vs H Q _ => ∃ (f : Addr) (m : Nat) (l : Addr) (rs : List Row), vs = [.ref f, .int m, .ref l] ∧ Flow H f ∧ m ≤ 10 ∧ RowsAt K H l m rs ∧ rs.length ≤ 10 ∧ l ≠ f ∧
  ∀ (t : Addr) (rs2 : List Row) (H' : Hp), Gr f H H' → H t = none → RowsAt K H' t m rs2 → rs2.length ≤ 20 → Q (.ref t) H'
theorem ok_l_more (B : Bt mg) (C_l_draw : Cal P w K mg base 1 "_law_draw" ["_law_flow_here", "_law_many"] (spDraw)) (C_l_down : Cal P w K mg base 1 "_law_down" ["_law_many", "_law_rows_here", "_law_begin"] (spDown K)) (D : DefAt K mg "_law_more" s_l_more ["_law_flow_here", "_law_many", "_law_rows_here"]) : Cal P w K mg base 2 "_law_more" ["_law_flow_here", "_law_many", "_law_rows_here"] (spMore K) := by
  refine cal_of D sc_l_more (fun vs H Q E h => ?_) (fun f cdv A outer s H vs Q E hr h => ?_)
  · obtain ⟨f, m, l, rs, rfl, _⟩ := h
    rfl
  obtain ⟨f, m, l, rs, rfl, fl, hm, hR, hl, nlf, q⟩ := h
  have hr' : Room 1 _ := hr
  refine ⟨_, (pss_cons (ps_set (i := 3) sc_l_more.nd rfl (.inl rfl) (pe_callTy call_list_of (by rfl) B.list PyProof.Rows.boot_list (pa_cons (pv 2) pa_nil)))
      (pss_cons (ps_for PassesOwn.never rfl (pi_range1 (by rfl) B.range (pa_cons pe_int pa_nil)) (pg_name (i := 4) sc_l_more.nd rfl (.inl rfl))
        (pss_cons (ps_par (i := 5) (j := 6) rfl sc_l_more.nd rfl rfl (by decide) rfl rfl (pa_cons (pe_op op_sub (pe_cal C_l_draw hr' (by rfl) (pa_cons (pv 0) (pa_cons (pe_op op_add (pv 1) pe_int) pa_nil))) pe_int) (pa_cons (pe_op op_sub (pe_cal C_l_draw hr' (by rfl) (pa_cons (pv 0) (pa_cons (pe_op op_add (pv 1) pe_int) pa_nil))) pe_int) pa_nil)) rfl)
      (pss_cons (ps_set (i := 7) sc_l_more.nd rfl (.inl rfl) (pe_ix ix_list (pe_ix ix_tup (pe_cal C_l_down hr' (by rfl) (pa_cons (pv 1) (pa_cons (pv 2) (pa_cons (pv 6) pa_nil)))) pe_int (fun _ _ => rfl)) (pv 5) (fun _ _ => rfl)))
      (pss_one (ps_if (PW.pt (pw_and (pt_cmpR op_notN (pv 7) pe_non (nomark _)) (pw_and1 (pt_cmpR op_lt (pe_callB call_abs (by rfl) B.abs (by decide +kernel) (pa_cons (pv 7) pa_nil)) pe_int (nomark _)))))
        (pss_one (ps_expr (pe_bm PySem.F.plainAttrs_list PySem.F.slot_list_append PySem.F.type_list_append mt_append (pv 3) (pa_cons (pe_tup (pa_cons (pv 5) (pa_cons (pv 6) (pa_cons (pe_op op_add (pv 7) (pe_cal C_l_draw hr' (by rfl) (pa_cons (pv 0) (pa_cons pe_int pa_nil)))) pa_nil)))) pa_nil))))
        pss_nil)))))
      (C8.pss_cut (ps_if (pt_cmpR op_gt (pe_callB call_len_seq (by rfl) B.len PySem.boot_len (pa_cons (pv 3) pa_nil)) pe_int (nomark _))
        (pss_cons (ps_set (i := 8) sc_l_more.nd rfl (.inl rfl) (pe_cal C_l_draw hr' (by rfl) (pa_cons (pv 0) (pa_cons (pe_callB call_len_seq (by rfl) B.len PySem.boot_len (pa_cons (pv 3) pa_nil)) pa_nil))))
      (pss_one (ps_set (i := 3) sc_l_more.nd rfl (.inl rfl) (pe_op op_cat (pe_op op_cat (pe_slice sl_list (pv 3) (po_some (pv 8)) po_none) (pe_slice sl_list (pv 3) po_none (po_some (pv 8)))) (pe_slice sl_list (pv 3) (po_some (pv 8)) (po_some (pe_op op_add (pv 8) pe_int)))))))
        pss_nil)
      (pss_one (ps_ret (pv 3)))))), ?_⟩
  obtain ⟨xs, hlx, hxs⟩ := hR.ob
  have xl := (dpall_getM _ hxs).1
  have hR' : ∀ {H'}, Gr f H H' → RowsAt K H' l m rs := fun {H'} g => hR.keep (fun o z => g.ex _ _ z (by simp [nlf])) (g.tp fl)
  refine ⟨_, rfl, l, xs, rfl, .inl (SqL.of hlx), fun L hL => ?_⟩
  have nLf := fl.nf hL
  have g1 : Gr f H (upd H L (.lst xs)) := Gr.new fl hL
  have e1 : (upd H L (.lst xs)) L = some (.lst xs) := upd_same
  have d1 : DpAll K (upd H L (.lst xs)) xs (rs.map rowD) := dps_keep (Tp.new hL) _ _ (rows_flat rs) hxs
  generalize upd H L (.lst xs) = H1 at g1 e1 d1
  refine ⟨2, rfl, by decide, by decide, for_range (lo := 0) (n := (2 : Int).toNat) (fun k σ' H' => (∃ y4 y5 y6 y7 y8 : Option V, σ' = [some (.ref f), some (.int m), some (.ref l), some (.ref L), y4, y5, y6, y7, y8]) ∧ Gr f H H' ∧ ∃ xs2 rs2, H' L = some (.lst xs2) ∧ DpAll K H' xs2 (rs2.map rowD) ∧ (∀ r ∈ rs2, RowOk m r) ∧ rs2.length ≤ rs.length + k) ⟨⟨_, _, _, _, _, rfl⟩, g1, xs, rs, e1, d1, hR.ok, by omega⟩ ?_ ?_⟩
  · rintro k σ' H' hk ⟨⟨y4, y5, y6, y7, y8, rfl⟩, g, xs2, rs2, e2, d2, ok2, l2⟩
    have x2 := (dpall_getM _ d2).1
    refine ⟨_, rfl, _, rfl, _, _, rfl, rfl, f, (m : Int) + 1, rfl, g.fl, by omega, by omega, fun i0 H3 a0 a1 dr3 => ⟨_, _, rfl, rfl, ?_⟩⟩
    have g3 := g.trans dr3.gr
    refine ⟨_, rfl, _, rfl, _, _, rfl, rfl, f, (m : Int) + 1, rfl, g3.fl, by omega, by omega, fun j0 H4 b0 b1 dr4 => ⟨_, _, rfl, rfl, _, _, rfl, ?_⟩⟩
    have g4 := g3.trans dr4.gr
    have g24 : Gr f H' H4 := dr3.gr.trans dr4.gr
    refine ⟨_, rfl, _, rfl, _, rfl, m, l, rs, j0 - 1, rfl, by omega, hR' g4, by omega, by omega, fun t p H7 s7 ht hp => ⟨t, _, 0, _, rfl, rfl, .inl (.inl ht), rfl, _, rfl, p, _, i0 - 1, _, rfl, rfl, SqL.of hp, at_pl (slV_len m _) (by omega) (by omega) (slV_at m _ (pl_le (by omega) (by omega))), ?_⟩⟩
    have g7 := g4.trans (Gr.same g4.fl s7)
    have g27 := g24.trans (Gr.same g4.fl s7)
    have e7 : H7 L = some (.lst xs2) := g27.ex _ _ e2 (by simp [nLf])
    have d7 := dps_keep (g27.tp g.fl) _ _ (rows_flat rs2) d2
    cases e : (downF m rs (j0 - 1)).1 (pl m (i0 - 1)) with
    | none => exact ⟨_, rfl, rfl, _, rfl, iteF (iteF ⟨⟨_, _, _, _, _, rfl⟩, g7, xs2, rs2, e7, d7, ok2, by omega⟩)⟩
    | some v =>
      refine ⟨_, rfl, rfl, _, rfl, iteT ⟨_, rfl, v, rfl, _, _, rfl, rfl, _, rfl, ite2 (fun c => ?_) (fun c => ⟨⟨_, _, _, _, _, rfl⟩, g7, xs2, rs2, e7, d7, ok2, by omega⟩)⟩⟩
      refine ⟨_, rfl, .inl ⟨rfl, _, SqL.of e7⟩, _, rfl, _, rfl, _, rfl, _, rfl, f, 3, rfl, g7.fl, by decide, by decide, fun d H8 d0 d1 dr8 => ⟨_, _, rfl, rfl, (by show 3 ≤ sizeLine; decide), fun t ht => ?_⟩⟩
      have g8 := g7.trans dr8.gr
      have e8 : H8 L = some (.lst xs2) := (dr8.off L nLf).trans e7
      have d8 := dps_keep (dr8.tp g7.fl) _ _ (rows_flat rs2) d7
      have g9 := g8.trans (Gr.new (o := .tup [.int (i0 - 1), .int (j0 - 1), .int (v + d)]) g8.fl ht)
      have d9 := dps_keep (Tp.new (o := .tup [.int (i0 - 1), .int (j0 - 1), .int (v + d)]) ht) _ _ (rows_flat rs2) d8
      have e9 : (upd H8 t (.tup [.int (i0 - 1), .int (j0 - 1), .int (v + d)])) L = some (.lst xs2) := by rw [upd_ne (ne_of_none e8 ht)]; exact e8
      have u9 : (upd H8 t (.tup [.int (i0 - 1), .int (j0 - 1), .int (v + d)])) t = some (.tup [.int (i0 - 1), .int (j0 - 1), .int (v + d)]) := upd_same
      generalize upd H8 t (.tup [.int (i0 - 1), .int (j0 - 1), .int (v + d)]) = H9 at g9 d9 e9 u9
      have tA : Tp K H9 (upd H9 L (.lst (xs2 ++ [.ref t]))) := Tp.lst e9
      refine ⟨L, xs2, _, rfl, rfl, e9, smallL (by omega), ⟨_, _, _, _, _, rfl⟩, g9.put hL nLf, xs2 ++ [.ref t], rs2 ++ [(i0 - 1, j0 - 1, v + d)], upd_same, ?_, fun r hr1 => ?_, by rw [List.length_append]; show rs2.length + 1 ≤ _; omega⟩
      · rw [List.map_append]
        exact dpall_app' (dps_keep tA _ _ (rows_flat rs2) d9) (.cons (row_dp (tA _ _ (.inl (.inl u9)))) .nil)
      · rcases List.mem_append.mp hr1 with z | z
        · exact ok2 r z
        · rw [List.mem_singleton.mp z]
          exact ⟨by show -1 ≤ i0 - 1; omega, by show i0 - 1 < (m : Int); omega, by show -1 ≤ j0 - 1; omega, by show j0 - 1 < (m : Int); omega⟩
  rintro σ' H2 ⟨⟨y4, y5, y6, y7, y8, rfl⟩, g2, xs2, rs2, e2, d2, ok2, l2⟩
  have x2 := (dpall_getM _ d2).1
  have l2' : rs2.length ≤ 12 := by
    have : rs2.length ≤ rs.length + 2 := l2
    omega
  refine ⟨fun σ' H' => (∃ (M : Addr) (y4 y5 y6 y7 y8 : Option V) (xs3 : List V) (rs3 : List Row), σ' = [some (.ref f), some (.int m), some (.ref l), some (.ref M), y4, y5, y6, y7, y8] ∧ H M = none ∧ H' M = some (.lst xs3) ∧ DpAll K H' xs3 (rs3.map rowD) ∧ (∀ r ∈ rs3, RowOk m r) ∧ rs3.length ≤ 20) ∧ Gr f H H', ?_, ?_⟩
  · refine ⟨_, rfl, L, xs2, rfl, .inl (SqL.of e2), _, _, rfl, rfl, _, rfl, ite2 (fun c => ?_) (fun c => ⟨⟨L, _, _, _, _, _, xs2, rs2, rfl, hL, e2, d2, ok2, by omega⟩, g2⟩)⟩
    have c' : (0 : Int) < ((xs2.length : Nat) : Int) := of_decide_eq_true c
    refine ⟨_, rfl, _, rfl, L, xs2, rfl, .inl (SqL.of e2), f, _, rfl, g2.fl, by omega, by omega, fun d H3 d0 d1 dr3 => ?_⟩
    have g3 := g2.trans dr3.gr
    have e3 : H3 L = some (.lst xs2) := (dr3.off L nLf).trans e2
    have d3 := dps_keep (dr3.tp g2.fl) _ _ (rows_flat rs2) d2
    obtain ⟨a, rfl⟩ : ∃ a : Nat, d = (a : Int) := ⟨d.toNat, by omega⟩
    have al : a + 1 ≤ xs2.length := by omega
    refine ⟨_, rfl, _, rfl, _, rfl, L, xs2, rfl, SqL.of e3, fun l4 hl4 => ?_⟩
    rw [cut_dropH (by omega)]
    have s4 := same_new (o := .lst (xs2.drop a)) hl4
    have u4 : (upd H3 l4 (.lst (xs2.drop a))) l4 = some (.lst (xs2.drop a)) := upd_same
    generalize upd H3 l4 (.lst (xs2.drop a)) = H4 at s4 u4
    refine ⟨_, rfl, _, rfl, _, rfl, L, xs2, rfl, SqL.of (s4 _ _ e3), fun l5 hl5 => ?_⟩
    rw [cut_takeH (by omega)]
    have s5 := same_new (o := .lst (xs2.take a)) hl5
    have u5 : (upd H4 l5 (.lst (xs2.take a))) l5 = some (.lst (xs2.take a)) := upd_same
    generalize upd H4 l5 (.lst (xs2.take a)) = H5 at s5 u5
    refine ⟨l4, l5, xs2.drop a, xs2.take a, rfl, rfl, s5 _ _ u4, u5, small (by rw [List.length_drop, List.length_take]; omega), fun l6 hl6 => ?_⟩
    have s6 := same_new (o := .lst (xs2.drop a ++ xs2.take a)) hl6
    have u6 : (upd H5 l6 (.lst (xs2.drop a ++ xs2.take a))) l6 = some (.lst (xs2.drop a ++ xs2.take a)) := upd_same
    generalize upd H5 l6 (.lst (xs2.drop a ++ xs2.take a)) = H6 at s6 u6
    have s36 := s4.trans (s5.trans s6)
    refine ⟨_, rfl, _, rfl, _, rfl, _, rfl, _, _, rfl, rfl, _, rfl, L, xs2, rfl, SqL.of (s36 _ _ e3), fun l7 hl7 => ?_⟩
    rw [cut_oneH al]
    have s7 := same_new (o := .lst ((xs2.drop a).take 1)) hl7
    have u7 : (upd H6 l7 (.lst ((xs2.drop a).take 1))) l7 = some (.lst ((xs2.drop a).take 1)) := upd_same
    generalize upd H6 l7 (.lst ((xs2.drop a).take 1)) = H7 at s7 u7
    refine ⟨l6, l7, _, _, rfl, rfl, s7 _ _ u6, u7, small (by rw [List.length_append, List.length_drop, List.length_take, List.length_take, List.length_drop]; omega), fun l8 hl8 => ?_⟩
    have s8 := same_new (o := .lst ((xs2.drop a ++ xs2.take a) ++ (xs2.drop a).take 1)) hl8
    have s38 := s36.trans (s7.trans s8)
    have g8 := g3.trans (Gr.same g3.fl s38)
    have d8 := dps_keep (Tp.same s38) _ _ (rows_flat rs2) d3
    have n8 : H l8 = none := by
      cases z : H l8 with
      | none => rfl
      | some o =>
        by_cases nf : l8 = f
        · obtain ⟨ys, q⟩ := (show Flow H7 f from (Gr.same g3.fl (s36.trans s7)).fl).lst
          rw [nf, q] at hl8
          cases hl8
        · have := (g3.trans (Gr.same g3.fl (s36.trans s7))).ex _ _ z (by simp [nf])
          rw [this] at hl8
          cases hl8
    refine ⟨⟨l8, _, _, _, _, _, _, (rs2.drop a ++ rs2.take a) ++ (rs2.drop a).take 1, rfl, n8, upd_same, ?_, fun r h => ?_, ?_⟩, g8⟩
    · rw [List.map_append, List.map_append, List.map_drop, List.map_take, List.map_take, List.map_drop]
      exact dpall_app' (dpall_app' (dpall_dropH a d8) (dpall_takeH a d8)) (dpall_takeH 1 (dpall_dropH a d8))
    · refine ok2 r ?_
      rcases List.mem_append.mp h with z | z
      · rcases List.mem_append.mp z with z | z
        · exact List.mem_of_mem_drop z
        · exact List.mem_of_mem_take z
      · exact List.mem_of_mem_drop (List.mem_of_mem_take z)
    · rw [List.length_append, List.length_append, List.length_drop, List.length_take, List.length_take, List.length_drop]
      omega
  · rintro σ' H' ⟨⟨M, y4, y5, y6, y7, y8, xs3, rs3, rfl, hM, e3, d3, ok3, l3⟩, g⟩
    exact ⟨_, rfl, q M rs3 H' g hM ⟨⟨xs3, e3, d3⟩, ok3, by omega⟩ l3⟩
abbrev s_l_otherwise : Stmt := topS 20
theorem sc_l_otherwise : FnScope ["_law_flow_here", "_law_many", "_law_rows_here", "_law_at", "_law_i", "_law_j", "_law_c", "_law_other"] ["_law_flow_here", "_law_many", "_law_rows_here"] (defScope s_l_otherwise) := ⟨rfl, rfl, rfl, by decide +kernel, rfl, by decide +kernel, by decide +kernel⟩
def spOthR (K : PySem.W.Frag) : Sp := fun vs H Q _ => ∃ (f : Addr) (m : Nat) (l : Addr) (rs : List Row), vs = [.ref f, .int m, .ref l] ∧ Flow H f ∧ 1 ≤ m ∧ m ≤ 10 ∧ RowsAt K H l m rs ∧ rs.length ≤ 10 ∧ l ≠ f ∧
  ∀ (t : Addr) (rs2 : List Row) (H' : Hp), Gr f H H' → H t = none → RowsAt K H' t m rs2 → rs2.length ≤ 20 → Q (.ref t) H'
theorem ok_l_otherwise (B : Bt mg) (C_l_draw : Cal P w K mg base 1 "_law_draw" ["_law_flow_here", "_law_many"] (spDraw)) (D : DefAt K mg "_law_otherwise" s_l_otherwise ["_law_flow_here", "_law_many", "_law_rows_here"]) : Cal P w K mg base 2 "_law_otherwise" ["_law_flow_here", "_law_many", "_law_rows_here"] (spOthR K) := by
  refine cal_of D sc_l_otherwise (fun vs H Q E h => ?_) (fun f cdv A outer s H vs Q E hr h => ?_)
  · obtain ⟨f, m, l, rs, rfl, _⟩ := h
    rfl
  obtain ⟨f, m, l, rs, rfl, fl, m1, hm, hR, hl, nlf, q⟩ := h
  have hr' : Room 1 _ := hr
  refine ⟨_, (pss_cons (ps_if (pt_cmpR op_eq (pe_callB call_len_seq (by rfl) B.len PySem.boot_len (pa_cons (pv 2) pa_nil)) pe_int (nomark _))
        (pss_one (ps_ret (pe_lst (pa_cons (pe_tup (pa_cons (pe_cal C_l_draw hr' (by rfl) (pa_cons (pv 0) (pa_cons (pv 1) pa_nil))) (pa_cons (pe_un un_neg pe_int) (pa_cons pe_int pa_nil)))) pa_nil))))
        pss_nil)
      (pss_cons (ps_set (i := 3) sc_l_otherwise.nd rfl (.inl rfl) (pe_cal C_l_draw hr' (by rfl) (pa_cons (pv 0) (pa_cons (pe_callB call_len_seq (by rfl) B.len PySem.boot_len (pa_cons (pv 2) pa_nil)) pa_nil))))
      (pss_cons (ps_asg (pe_ix ix_list (pv 2) (pv 3) (fun _ _ => rfl)) (pg_tup rfl (pgs_cons (pg_name (i := 4) sc_l_otherwise.nd rfl (.inl rfl)) (pgs_cons (pg_name (i := 5) sc_l_otherwise.nd rfl (.inl rfl)) (pgs_cons (pg_name (i := 6) sc_l_otherwise.nd rfl (.inl rfl)) pgs_nil)))))
      (pss_cons (ps_set (i := 7) sc_l_otherwise.nd rfl (.inl rfl) (pe_ix ix_list (pe_lst (pa_cons (pe_tup (pa_cons (pv 4) (pa_cons (pv 5) (pa_cons (pe_op op_sub (pv 6) pe_int) pa_nil)))) (pa_cons (pe_tup (pa_cons (pv 4) (pa_cons (pv 5) (pa_cons (pe_op op_add (pv 6) pe_int) pa_nil)))) (pa_cons (pe_tup (pa_cons (pv 5) (pa_cons (pv 4) (pa_cons (pv 6) pa_nil)))) (pa_cons (pe_tup (pa_cons (pv 4) (pa_cons (pe_cal C_l_draw hr' (by rfl) (pa_cons (pv 0) (pa_cons (pv 1) pa_nil))) (pa_cons (pv 6) pa_nil)))) pa_nil))))) (pe_cal C_l_draw hr' (by rfl) (pa_cons (pv 0) (pa_cons pe_int pa_nil))) (fun _ _ => rfl)))
      (pss_one (ps_ret (pe_op op_cat (pe_op op_cat (pe_slice sl_list (pv 2) po_none (po_some (pv 3))) (pe_lst (pa_cons (pv 7) pa_nil))) (pe_slice sl_list (pv 2) (po_some (pe_op op_add (pv 3) pe_int)) po_none)))))))), ?_⟩
  obtain ⟨xs, hlx, hxs⟩ := hR.ob
  obtain ⟨xl', xg⟩ := dpall_getM _ hxs
  have xl : xs.length = rs.length := xl'
  refine ⟨_, rfl, l, xs, rfl, .inl (SqL.of hlx), rfl, _, rfl, ite2 (fun c => ?_) (fun c => ?_)⟩
  · refine ⟨_, rfl, _, rfl, f, (m : Int), rfl, fl, by omega, by omega, fun d H2 d0 d1 dr2 => ⟨1, rfl, (by show 3 ≤ sizeLine; decide), fun t ht => ⟨(by show 1 ≤ sizeLine; decide), fun L hL => ?_⟩⟩⟩
    have s1 := same_new (o := .tup [.int d, .int (-1), .int 3]) ht
    have s2 := same_new (o := .lst [.ref t]) hL
    have g3 := dr2.gr.trans (Gr.same dr2.fl (s1.trans s2))
    refine q L [(d, -1, 3)] _ g3 ((dr2.gr.trans (Gr.same dr2.fl s1)).free hL) ⟨⟨[.ref t], upd_same, .cons (row_dp (.inl (.inl (s2 _ _ upd_same)))) .nil⟩, fun r h => ?_, by show 1 ≤ 40; decide⟩ (by show 1 ≤ 20; decide)
    rw [List.mem_singleton.mp h]
    exact ⟨by show -1 ≤ d; omega, d1, by show (-1 : Int) ≤ -1; omega, by show (-1 : Int) < m; omega⟩
  have n0 : xs.length ≠ 0 := fun z => c (by rw [z]; exact decide_eq_true rfl)
  refine ⟨_, rfl, _, rfl, l, xs, rfl, .inl (SqL.of hlx), f, _, rfl, fl, by omega, by omega, fun d H1 d0 d1 dr1 => ?_⟩
  obtain ⟨a, rfl⟩ : ∃ a : Nat, d = (a : Int) := ⟨d.toNat, by omega⟩
  have al : a < rs.length := by omega
  have e1 : H1 l = some (.lst xs) := (dr1.off l nlf).trans hlx
  have D1 := dps_keep (dr1.tp fl) _ _ (rows_flat rs) hxs
  have g1 := dr1.gr
  clear dr1
  have er := List.getElem?_eq_getElem al
  obtain ⟨x, hx, dx⟩ := (dpall_getM _ D1).2 a rs[a] er
  obtain ⟨tr, rfl, htr⟩ := row_read dx
  have hok := hR.ok rs[a] (List.getElem_mem al)
  generalize rs[a] = r at htr hok dx er
  obtain ⟨ri, rj, rc⟩ := r
  obtain ⟨o1, o2, o3, o4⟩ := hok
  refine ⟨_, rfl, _, rfl, l, xs, (a : Int), _, rfl, rfl, SqL.of e1, at_of (j := a) (by omega) hx, ?_⟩
  refine ⟨tr, _, rfl, htr, rfl, _, _, rfl, _, _, rfl, _, _, rfl, rfl, ?_⟩
  -- the four others
  refine ⟨_, rfl, _, rfl, _, rfl, _, _, rfl, rfl, (by show 3 ≤ sizeLine; decide), fun t1 ht1 => ?_⟩
  have s1 := same_new (o := .tup [.int ri, .int rj, .int (rc - 1)]) ht1
  have u1 : (upd H1 t1 (.tup [.int ri, .int rj, .int (rc - 1)])) t1 = some (.tup [.int ri, .int rj, .int (rc - 1)]) := upd_same
  generalize upd H1 t1 (.tup [.int ri, .int rj, .int (rc - 1)]) = H2 at s1 u1
  refine ⟨_, rfl, _, rfl, _, rfl, _, _, rfl, rfl, (by show 3 ≤ sizeLine; decide), fun t2 ht2 => ?_⟩
  have s2 := same_new (o := .tup [.int ri, .int rj, .int (rc + 1)]) ht2
  have u2 : (upd H2 t2 (.tup [.int ri, .int rj, .int (rc + 1)])) t2 = some (.tup [.int ri, .int rj, .int (rc + 1)]) := upd_same
  generalize upd H2 t2 (.tup [.int ri, .int rj, .int (rc + 1)]) = H3 at s2 u2
  refine ⟨_, rfl, _, rfl, _, rfl, (by show 3 ≤ sizeLine; decide), fun t3 ht3 => ?_⟩
  have s3 := same_new (o := .tup [.int rj, .int ri, .int rc]) ht3
  have u3 : (upd H3 t3 (.tup [.int rj, .int ri, .int rc])) t3 = some (.tup [.int rj, .int ri, .int rc]) := upd_same
  generalize upd H3 t3 (.tup [.int rj, .int ri, .int rc]) = H4 at s3 u3
  have s14 := s1.trans (s2.trans s3)
  have g4 := g1.trans (Gr.same g1.fl s14)
  refine ⟨_, rfl, _, rfl, _, rfl, f, (m : Int), rfl, g4.fl, by omega, by omega, fun d H5 d0 d1 dr5 => ⟨_, rfl, (by show 3 ≤ sizeLine; decide), fun t4 ht4 => ?_⟩⟩
  have g5 := g4.trans dr5.gr
  have s6 := same_new (o := .tup [.int ri, .int d, .int rc]) ht4
  have u6 : (upd H5 t4 (.tup [.int ri, .int d, .int rc])) t4 = some (.tup [.int ri, .int d, .int rc]) := upd_same
  generalize upd H5 t4 (.tup [.int ri, .int d, .int rc]) = H6 at s6 u6
  have g6 := g5.trans (Gr.same g5.fl s6)
  have nf : ∀ {t : Addr} {o : List V}, H4 t = some (.tup o) → t ≠ f := fun {t o} h z => by
    obtain ⟨ys, w⟩ := g4.fl.lst
    rw [z, w] at h
    cases h
  have v1 := s3 _ _ (s2 _ _ u1)
  have v2 := s3 _ _ u2
  have w1 : H6 t1 = some (.tup [.int ri, .int rj, .int (rc - 1)]) := s6 _ _ ((dr5.off t1 (nf v1)).trans v1)
  have w2 : H6 t2 = some (.tup [.int ri, .int rj, .int (rc + 1)]) := s6 _ _ ((dr5.off t2 (nf v2)).trans v2)
  have w3 : H6 t3 = some (.tup [.int rj, .int ri, .int rc]) := s6 _ _ ((dr5.off t3 (nf u3)).trans u3)
  have e6 : H6 l = some (.lst xs) := s6 _ _ ((dr5.off l nlf).trans (s14 _ _ e1))
  have D6 : DpAll K H6 xs (rs.map rowD) := dps_keep (g6.tp fl) _ _ (rows_flat rs) hxs
  clear v1 v2 nf dr5 s14 s1 s2 s3 u1 u2 u3 g5 s6 D1
  refine ⟨(by show 4 ≤ sizeLine; decide), fun L hL => ?_⟩
  have s7 := same_new (o := .lst [.ref t1, .ref t2, .ref t3, .ref t4]) hL
  have u7 : (upd H6 L (.lst [.ref t1, .ref t2, .ref t3, .ref t4])) L = some (.lst [.ref t1, .ref t2, .ref t3, .ref t4]) := upd_same
  have nLf := g6.fl.nf hL
  generalize upd H6 L (.lst [.ref t1, .ref t2, .ref t3, .ref t4]) = H7 at s7 u7
  have g7 := g6.trans (Gr.same g6.fl s7)
  refine ⟨_, rfl, f, 4, rfl, g7.fl, by decide, by decide, fun d2 H8 d20 d21 dr8 => ?_⟩
  have g8 := g7.trans dr8.gr
  have u8 : H8 L = _ := (dr8.off L nLf).trans u7
  have tp8 : Tp K H6 H8 := (Tp.same s7).trans (dr8.tp g7.fl)
  obtain ⟨tk, r', ek, dk, rk⟩ : ∃ (tk : Addr) (r' : Row), atI [V.ref t1, V.ref t2, V.ref t3, V.ref t4] d2 = some (.ref tk) ∧ Dp K H8 (.ref tk) (rowD r') ∧ RowOk m r' := by
    rcases (show d2 = 0 ∨ d2 = 1 ∨ d2 = 2 ∨ d2 = 3 by omega) with z | z | z | z <;> subst z
    · exact ⟨t1, (ri, rj, rc - 1), rfl, row_dp (tp8 _ _ (.inl (.inl w1))), o1, o2, o3, o4⟩
    · exact ⟨t2, (ri, rj, rc + 1), rfl, row_dp (tp8 _ _ (.inl (.inl w2))), o1, o2, o3, o4⟩
    · exact ⟨t3, (rj, ri, rc), rfl, row_dp (tp8 _ _ (.inl (.inl w3))), o3, o4, o1, o2⟩
    · exact ⟨t4, (ri, d, rc), rfl, row_dp (tp8 _ _ (.inl (.inl u6))), o1, o2, by show -1 ≤ d; omega, d1⟩
  refine ⟨L, _, d2, _, rfl, rfl, SqL.of u8, ek, ?_⟩
  have e8 : H8 l = some (.lst xs) := (dr8.off l nlf).trans (s7 _ _ e6)
  have D8 := dps_keep tp8 _ _ (rows_flat rs) D6
  clear w1 w2 w3 u6 u7 u8 tp8 D6 e6 s7 g7 g6 dr8 e1 htr
  refine ⟨_, rfl, _, rfl, _, rfl, l, xs, rfl, SqL.of e8, fun l9 hl9 => ?_⟩
  rw [cut_takeH (by omega)]
  have s9 := same_new (o := .lst (xs.take a)) hl9
  have u9 : (upd H8 l9 (.lst (xs.take a))) l9 = some (.lst (xs.take a)) := upd_same
  generalize upd H8 l9 (.lst (xs.take a)) = H9 at s9 u9
  refine ⟨_, rfl, (by show 1 ≤ sizeLine; decide), fun l10 hl10 => ?_⟩
  have s10 := same_new (o := .lst [.ref tk]) hl10
  have u10 : (upd H9 l10 (.lst [.ref tk])) l10 = some (.lst [.ref tk]) := upd_same
  generalize upd H9 l10 (.lst [.ref tk]) = H10 at s10 u10
  refine ⟨l9, l10, xs.take a, [.ref tk], rfl, rfl, s10 _ _ u9, u10, small (by rw [List.length_take]; show min a xs.length + 1 ≤ _; omega), fun l11 hl11 => ?_⟩
  have s11 := same_new (o := .lst (xs.take a ++ [.ref tk])) hl11
  have u11 : (upd H10 l11 (.lst (xs.take a ++ [.ref tk]))) l11 = some (.lst (xs.take a ++ [.ref tk])) := upd_same
  generalize upd H10 l11 (.lst (xs.take a ++ [.ref tk])) = H11 at s11 u11
  have s811 := s9.trans (s10.trans s11)
  refine ⟨_, rfl, _, rfl, _, _, rfl, rfl, _, rfl, l, xs, rfl, SqL.of (s811 _ _ e8), fun l12 hl12 => ?_⟩
  rw [show ((a : Int) + 1) = ((a + 1 : Nat) : Int) by omega, cut_dropH (by omega)]
  have s12 := same_new (o := .lst (xs.drop (a + 1))) hl12
  have u12 : (upd H11 l12 (.lst (xs.drop (a + 1)))) l12 = some (.lst (xs.drop (a + 1))) := upd_same
  generalize upd H11 l12 (.lst (xs.drop (a + 1))) = H12 at s12 u12
  refine ⟨l11, l12, _, _, rfl, rfl, s12 _ _ u11, u12, small (by rw [List.length_append, List.length_take, List.length_drop]; show min a xs.length + 1 + _ ≤ _; omega), fun l13 hl13 => ?_⟩
  have s13 := same_new (o := .lst ((xs.take a ++ [.ref tk]) ++ xs.drop (a + 1))) hl13
  have s8E := s811.trans (s12.trans s13)
  have D13 := dps_keep (Tp.same s8E) _ _ (rows_flat rs) D8
  refine q l13 ((rs.take a ++ [r']) ++ rs.drop (a + 1)) _ (g8.trans (Gr.same g8.fl s8E)) ((g8.trans (Gr.same g8.fl (s811.trans s12))).free hl13) ⟨⟨_, upd_same, ?_⟩, fun r h => ?_, ?_⟩ ?_
  · rw [List.map_append, List.map_append, List.map_take, List.map_drop]
    exact dpall_app' (dpall_app' (dpall_takeH a D13) (.cons (dp_keep (Tp.same s8E) _ _ (rowD_flat r') dk) .nil)) (dpall_dropH (a + 1) D13)
  · rcases List.mem_append.mp h with z | z
    · rcases List.mem_append.mp z with z | z
      · exact hR.ok r (List.mem_of_mem_take z)
      · rw [List.mem_singleton.mp z]; exact rk
    · exact hR.ok r (List.mem_of_mem_drop z)
  · rw [List.length_append, List.length_append, List.length_take, List.length_drop]
    show min a rs.length + 1 + _ ≤ 40
    omega
  · rw [List.length_append, List.length_append, List.length_take, List.length_drop]
    show min a rs.length + 1 + _ ≤ 20
    omega
end
end Lm

set_option Elab.async false
set_option linter.all false
set_option maxRecDepth 100000
set_option maxHeartbeats 4000000
set_option pp.maxSteps 600
set_option pp.deepTerms.threshold 6
namespace Lm
open PySem PySem.Spec PyProof.Rows L2 LmR
theorem eqvAll_mapH {α : Type} (f g : α → PyData) : ∀ l : List α, PyData.eqvAll (l.map f) (l.map g) = l.all fun a => PyData.eqv (f a) (g a)
  | [] => rfl
  | x :: l => by rw [List.map_cons, List.map_cons, PyData.eqvAll, eqvAll_mapH f g l, List.all_cons]
theorem depthAll_mapH {α : Type} (f : α → PyData) (n : Nat) (h : ∀ x, (f x).depth ≤ n) : ∀ l : List α, PyData.depthAll (l.map f) ≤ n
  | [] => Nat.zero_le _
  | x :: l => by
    show max (f x).depth (PyData.depthAll (l.map f)) ≤ n
    exact Nat.max_le.mpr ⟨h x, depthAll_mapH f n h l⟩
theorem oPD_depthH (o : Option Int) : (oPD o).depth ≤ 1 := by cases o <;> exact Nat.zero_le _
theorem oClo_depthH (m : Nat) (o : Option Mat) : (oClo m o).depth ≤ 64 := by
  cases o with
  | none => exact Nat.zero_le _
  | some D =>
    have r : ∀ a, (rowPD D m a).depth ≤ 2 := fun a => Nat.succ_le_succ (depthAll_mapH (fun b => oPD (D a b)) 1 (fun b => oPD_depthH _) (List.range (m + 1)))
    exact Nat.le_trans (Nat.succ_le_succ (depthAll_mapH (fun a => rowPD D m a) 2 r (List.range (m + 1)))) (by decide)
theorem oPD_eqvH (o o' : Option Int) : PyData.eqv (oPD o) (oPD o') = true ↔ o = o' := by
  cases o <;> cases o' <;> simp [oPD, PyData.eqv]
theorem oClo_eqvH (m : Nat) (o o' : Option Mat) : PyData.eqv (oClo m o) (oClo m o') = true ↔ alikeC m o o' := by
  cases o with
  | none => cases o' <;> simp [oClo, cloPD, PyData.eqv, alikeC]
  | some D =>
    cases o' with
    | none => simp [oClo, cloPD, PyData.eqv, alikeC]
    | some D' =>
      show PyData.eqvAll ((List.range (m + 1)).map fun a => rowPD D m a) ((List.range (m + 1)).map fun a => rowPD D' m a) = true ↔ ∀ a b, a ≤ m → b ≤ m → D a b = D' a b
      have row : ∀ a, PyData.eqv (rowPD D m a) (rowPD D' m a) = true ↔ ∀ b, b ≤ m → D a b = D' a b := fun a => by
        show PyData.eqvAll ((List.range (m + 1)).map fun b => oPD (D a b)) ((List.range (m + 1)).map fun b => oPD (D' a b)) = true ↔ _
        rw [eqvAll_mapH, List.all_eq_true]
        exact ⟨fun h b hb => (oPD_eqvH _ _).mp (h b (List.mem_range.mpr (by omega))), fun h b hb => (oPD_eqvH _ _).mpr (h b (by have := List.mem_range.mp hb; omega))⟩
      rw [eqvAll_mapH, List.all_eq_true]
      exact ⟨fun h a b ha hb => (row a).mp (h a (List.mem_range.mpr (by omega))) b hb, fun h a ha => (row a).mpr fun b hb => h a b (by have := List.mem_range.mp ha; omega) hb⟩
section
variable {P : Program} {w : World} {K : PySem.W.Frag} {mg : Str → Option Value} {base : Heap} {c_Bounds : Addr}
abbrev s_Bounds___eq__ : Stmt := inClass (topS 8) 8
theorem sc_Bounds___eq__ : FnScope ["self", "other"] ["self", "other"] (defScope s_Bounds___eq__) := ⟨rfl, rfl, rfl, by decide +kernel, rfl, by decide +kernel, by decide +kernel⟩
/-- what is no Bounds, and is held against one -/
def NoB (K : PySem.W.Frag) (H : Hp) (C : Addr) (v : V) : Prop := ∃ T, TyOf K H v (.type T) ∧ PySem.W.kitOne K (.type T) (.ref C) = some false
def spEqX (K : PySem.W.Frag) (C : Addr) : Sp := fun vs H Q _ => ∃ (x : Addr) (v : V) (m : Nat) (rs : List Row), vs = [.ref x, v] ∧ BdAt K C H x m rs ∧
  ((∃ y m' rs', v = .ref y ∧ BdAt K C H y m' rs' ∧ ∀ c : Bool, (c = true ↔ m = m' ∧ alikeC m (closedF (edges m rs) openF) (closedF (edges m' rs') openF)) → Q (.bl c) H) ∨ (NoB K H C v ∧ Q (.bl false) H))
theorem ok_Bounds_eq (B : Bt mg) (T_Bounds : ClsAt K mg "Bounds" c_Bounds BF) (IC : C8.InsC K c_Bounds) (D : DefM K c_Bounds "__eq__" "Bounds.__eq__" s_Bounds___eq__ ["self", "other"]) : CalM P w K mg base 1 c_Bounds "__eq__" ["self", "other"] (spEqX K c_Bounds) := by
  refine calm_of D sc_Bounds___eq__ (fun vs H Q E h => ?_) (fun f cdv A outer s H vs Q E hr h => ?_)
  · obtain ⟨x, v, m, rs, rfl, _⟩ := h
    rfl
  obtain ⟨x, v, m, rs, rfl, hx, q⟩ := h
  have nM := T_Bounds.n "many" (by simp [BF])
  have nC := T_Bounds.n "closed" (by simp [BF])
  have hBounds := T_Bounds.g
  refine ⟨_, (pss_one (ps_ret (pe_and (pe_callB call_isTy (by rfl) B.isinstance (by decide +kernel) (pa_cons (pv 1) (pa_cons (pe_glob (v := .ref _) (by rfl) hBounds rfl) pa_nil))) (pe_and (pe_cmpR op_eq (pe_fld (pv 0) rfl) (pe_fld (pv 1) rfl) (nomark _)) (pe_one (pe_cmpR (op_eqP hr.units) (pe_fld (pv 0) rfl) (pe_fld (pv 1) rfl) (nomark _))))))), ?_⟩
  obtain ⟨dx, vg, vc, ex, hg, hc⟩ := hx.ob
  rcases q with ⟨y, m', rs', rfl, hy, q⟩ | ⟨⟨T, ty, no⟩, q⟩
  · obtain ⟨dy, vg', vc', ey, hg', hc'⟩ := hy.ob
    refine ⟨_, rfl, _, .ref c_Bounds, c_Bounds, true, rfl, .ins ey IC.cl IC.ha IC.hn IC.htk IC.hm, IC.me, true, rfl, iteT ⟨_, rfl, x, c_Bounds, dx, _, _, rfl, ex, T_Bounds.c, nM, bfl_many _ _ _, _, rfl, y, c_Bounds, dy, _, _, rfl, ey, T_Bounds.c, nM, bfl_many _ _ _, rfl, _, rfl, ?_⟩⟩
    refine ite2 (fun z => ?_) (fun z => q false ⟨fun e => (nomatch e), fun e => absurd (decide_eq_true (by rw [e.1])) z⟩)
    have e : m = m' := by
      have := V.int.inj (of_decide_eq_true z)
      omega
    subst e
    refine ⟨_, rfl, x, c_Bounds, dx, _, _, rfl, ex, T_Bounds.c, nC, bfl_closed _ _ _, _, rfl, y, c_Bounds, dy, _, _, rfl, ey, T_Bounds.c, nC, bfl_closed _ _ _, _, _, hc.2, hc'.2, plain_flat _ (oClo_flat _ _), plain_flat _ (oClo_flat _ _), oClo_depthH _ _, q _ ?_⟩
    rw [oClo_eqvH]
    exact ⟨fun z => ⟨rfl, z⟩, fun z => z.2⟩
  · exact ⟨_, rfl, v, _, c_Bounds, false, rfl, ty, no, false, rfl, iteF q⟩
theorem mkH {dvs : List V} (hdv : dvs.drop 1 = []) {m : Nat} (hm : m ≤ 10) {H1 : Hp} {x1 dx1 a : Addr} {ys : List V} {ts : List Row} {Q' : Hp → Prop} {E : XK} (nx : H1 x1 = none) (ndx : H1 dx1 = none) (ha : H1 a = some (.lst ys)) (hd : DpAll K H1 ys (ts.map rowD)) (hok : ∀ r ∈ ts, RowOk m r) (hl : ts.length ≤ 100)
    (q : ∀ H9, Same H1 H9 → BdAt K c_Bounds H9 x1 m ts → Q' H9) : spInit K c_Bounds (.ref x1 :: ([.int m, .ref a] ++ dvs.drop 1)) (upd (upd H1 dx1 (.own x1)) x1 (.ins c_Bounds dx1 [])) (fun v H2 => v = .non ∧ Q' H2) E := by
  rw [hdv]
  have s8 : Same H1 (upd (upd H1 dx1 (.own x1)) x1 (.ins c_Bounds dx1 [])) := fun b o z => by
    rw [upd_ne (ne_of_none z nx), upd_ne (ne_of_none z ndx)]
    exact z
  have e8 : (upd (upd H1 dx1 (.own x1)) x1 (.ins c_Bounds dx1 [])) x1 = some (.ins c_Bounds dx1 []) := upd_same
  generalize upd (upd H1 dx1 (.own x1)) x1 (.ins c_Bounds dx1 []) = H8 at s8 e8
  exact ⟨x1, dx1, a, m, ys, ts, rfl, e8, .inl (SqL.of (s8 _ _ ha)), dps_keep (Tp.same s8) _ _ (rows_flat ts) hd, hok, by omega, hl, fun H9 k9 hB => ⟨rfl, q H9 (fun b o z => k9 b o (s8 _ _ z) (ne_of_none z nx)) hB⟩⟩
theorem ex_seqH {K : PySem.W.Frag} {H H' : Hp} {f a : Addr} {xs : List V} (hf : H f = none) (ex : Ex [f] H H') (h : SqL K H a xs) : SqL K H' a xs := by
  rcases h with (h | ⟨o, h⟩) | h
  · exact .inl (.inl (ex _ _ h (by simp [ne_of_none h hf])))
  · exact .inl (.inr ⟨o, ex _ _ h (by simp [ne_of_none h hf])⟩)
  · exact .inr h
theorem iteN {b : Bool} {A B : Prop} (h : b = false) (q : B) : if b = true then A else B := by
  rw [h]
  exact iteF q
theorem BdAt.rowsM {C : Addr} {H : Hp} {x : Addr} {m : Nat} {rs : List Row} (h : BdAt K C H x m rs) : ∃ dx fs, H x = some (.ins C dx fs) ∧ fs.lookup ("rows" : Str) = none := by
  obtain ⟨dx, vg, vc, e, _⟩ := h.ob
  exact ⟨dx, _, e, bfl_no _ _ _ (by decide +kernel) (by decide +kernel) (by decide +kernel)⟩
theorem inO_no {C x : Addr} {H : Hp} {m : Nat} {rs : List Row} {v : V} {vs : List V} {Q : VK} (hB : BdAt K C H x m rs) (n : v ≠ .ref x) (pl : plnE H v) (nb : NoB K H C v) (q : inO C x (spEqX K C) vs H Q) : inO C x (spEqX K C) (v :: vs) H Q :=
  .inr ⟨n, .ref x, v, .inr ⟨rfl, rfl, pl⟩, x, v, m, rs, rfl, hB, .inr ⟨nb, rfl, false, rfl, iteF q⟩⟩
theorem alike_refl (m : Nat) (o : Option Mat) : alikeC m o o := by
  cases o with
  | none => trivial
  | some D => exact fun _ _ _ _ => rfl
theorem alike_symm {m : Nat} {o o' : Option Mat} (h : alikeC m o o') : alikeC m o' o := by
  cases o <;> cases o' <;> first | trivial | exact h.elim | exact fun a b ha hb => (h a b ha hb).symm
theorem BdAt.ins {C : Addr} {H : Hp} {x : Addr} {m : Nat} {rs : List Row} (h : BdAt K C H x m rs) : ∃ dx fs, H x = some (.ins C dx fs) := by
  obtain ⟨dx, vg, vc, e, _⟩ := h.ob
  exact ⟨dx, _, e⟩
/-- what rows and Bounds there are -/
def rowT (rs : List Row) : PyData := .tuple (rs.map rowD)
theorem rowTs_flat (l : List (List Row)) : flat.flats (l.map rowT) = true := flats_map _ (fun rs => rows_flat rs) l
theorem rowTs_depth (l : List (List Row)) : (PyData.list (l.map rowT)).depth ≤ 64 := by
  have r : ∀ r : Row, (rowD r).depth ≤ 1 := fun r => Nat.le_refl 1
  have t : ∀ rs : List Row, (rowT rs).depth ≤ 2 := fun rs => Nat.succ_le_succ (depthAll_mapH rowD 1 r rs)
  exact Nat.le_trans (Nat.succ_le_succ (depthAll_mapH rowT 2 t l)) (by decide)
abbrev s_law : Stmt := topS 21
theorem sc_law : FnScope ["_law_script", "_law_k", "_law_flow_here", "_law_many", "_law_rows_here", "_law_some", "_law_held", "_law_x", "_law_wider", "_law_y", "_law_due_here", "_law_one"] ["_law_script"] (defScope s_law) := ⟨rfl, rfl, rfl, by decide +kernel, rfl, by decide +kernel, by decide +kernel⟩
def spLaw (K : PySem.W.Frag) : Sp := fun vs H Q _ => ∃ (a : Addr) (ns : List Int), vs = [.ref a] ∧ SqL K H a (ns.map V.int) ∧ ns.length ≤ 63 ∧ ∀ H', Q (.bl true) H'
theorem ok_law {dvs : List V} (hdv : dvs.drop 1 = []) (B : Bt mg) (T_Bounds : ClsAt K mg "Bounds" c_Bounds BF) (N : NeC K c_Bounds) (C_l_flow : Cal P w K mg base 2 "_law_flow" ["_law_script", "_law_k"] (spFlow K)) (C_l_draw : Cal P w K mg base 1 "_law_draw" ["_law_flow_here", "_law_many"] (spDraw)) (C_l_rows : Cal P w K mg base 2 "_law_rows" ["_law_flow_here", "_law_many", "_law_most", "_law_far"] (spRows K)) (C_l_more : Cal P w K mg base 2 "_law_more" ["_law_flow_here", "_law_many", "_law_rows_here"] (spMore K)) (C_l_otherwise : Cal P w K mg base 2 "_law_otherwise" ["_law_flow_here", "_law_many", "_law_rows_here"] (spOthR K)) (C_l_due : Cal P w K mg base 3 "_law_due" ["_law_many", "_law_rows_here", "_law_others"] (spDue K)) (M_Bounds_eq : CalM P w K mg base 1 c_Bounds "__eq__" ["self", "other"] (spEqX K c_Bounds)) (M_Bounds_rows : CalM P w K mg base 1 c_Bounds "rows" ["self"] (spRowsM K c_Bounds)) (M_Bounds_repr : CalM P w K mg base 1 c_Bounds "__repr__" ["self"] (spReprB K c_Bounds)) (I_Bounds : CalI P w K mg base 5 c_Bounds "Bounds" ["self", "many", "rows"] dvs 1 (spInit K c_Bounds)) {f : Addr} {fd : FuncData} (F : Fun K "law" "law" s_law f fd) : FnOk P w K mg base CX0 7 f fd ["_law_script"] (spLaw K) := by
  refine F.ok sc_law (fun vs H Q E h => ?_) (fun cdv A outer s H vs Q E hr h => ?_)
  · obtain ⟨a, ns, rfl, _⟩ := h
    rfl
  obtain ⟨a, ns, rfl, hS, h63, q⟩ := h
  have hr' : Room 6 _ := hr
  have hr'' := hr'
  have C_l_flow := C_l_flow.mono (k := 6) (by decide)
  have C_l_draw := C_l_draw.mono (k := 6) (by decide)
  have C_l_rows := C_l_rows.mono (k := 6) (by decide)
  have C_l_more := C_l_more.mono (k := 6) (by decide)
  have C_l_otherwise := C_l_otherwise.mono (k := 6) (by decide)
  have C_l_due := C_l_due.mono (k := 6) (by decide)
  have M_Bounds_rows := M_Bounds_rows.mono (k := 6) (by decide)
  have M3 := M_Bounds_eq.mono (k := 3) (by decide)
  have M5 := M_Bounds_eq.mono (k := 5) (by decide)
  have M_Bounds_repr := M_Bounds_repr.mono (k := 5) (by decide)
  refine ⟨_, (pss_cons (ps_for PassesOwn.never rfl (pi_range1 (by rfl) B.range (pa_cons (pe_callB (call_max2 rfl) (by rfl) B.max PyProof.Rows.boot_max (pa_cons pe_int (pa_cons (pe_callB (call_min2 rfl) (by rfl) B.min PyProof.Rows.boot_min (pa_cons pe_int (pa_cons (pe_callB call_len_seq (by rfl) B.len PySem.boot_len (pa_cons (pv 0) pa_nil)) pa_nil))) pa_nil))) pa_nil)) (pg_name (i := 1) sc_law.nd rfl (.inl rfl))
        (pss_cons (ps_set (i := 2) sc_law.nd rfl (.inl rfl) (pe_cal C_l_flow hr' (by rfl) (pa_cons (pv 0) (pa_cons (pv 1) pa_nil))))
      (pss_cons (ps_set (i := 3) sc_law.nd rfl (.inr rfl) (pe_op op_add pe_int (pe_cal C_l_draw hr' (by rfl) (pa_cons (pv 2) (pa_cons pe_int pa_nil)))))
      (pss_cons (ps_set (i := 4) sc_law.nd rfl (.inl rfl) (pe_cal C_l_rows hr' (by rfl) (pa_cons (pv 2) (pa_cons (pv 3) (pa_cons pe_int (pa_cons (pe_ix ix_list (pe_lst (pa_cons pe_int (pa_cons pe_int pa_nil))) (pe_cal C_l_draw hr' (by rfl) (pa_cons (pv 2) (pa_cons pe_int pa_nil))) (fun _ _ => rfl)) pa_nil))))))
      (pss_cons (ps_set (i := 5) sc_law.nd rfl (.inl rfl) (pe_lst (pa_cons (pv 4) (pa_cons (pe_cal C_l_more hr' (by rfl) (pa_cons (pv 2) (pa_cons (pv 3) (pa_cons (pv 4) pa_nil)))) (pa_cons (pe_cal C_l_otherwise hr' (by rfl) (pa_cons (pv 2) (pa_cons (pv 3) (pa_cons (pv 4) pa_nil)))) (pa_cons (pe_lst (pa_cons (pe_tup (pa_cons (pe_un un_neg pe_int) (pa_cons pe_int (pa_cons (pe_un un_neg pe_int) pa_nil)))) (pa_cons (pe_tup (pa_cons pe_int (pa_cons (pe_un un_neg pe_int) (pa_cons pe_int pa_nil)))) pa_nil))) pa_nil))))))
      (pss_cons (ps_setLc (i := 6) (own := [("_law_one", 11)]) (g := gName 11) rfl sc_law.nd rfl rfl (sw_true rfl rfl rfl (by decide +kernel)) (pi_list (pv 5)) (blkOk_by (own := [("_law_one", 11)]) (N := ["_law_script", "_law_k", "_law_flow_here", "_law_many", "_law_rows_here", "_law_some", "_law_held", "_law_x", "_law_wider", "_law_y", "_law_due_here", "_law_one"]) (sc := defScope s_law) (by decide +kernel)) (fun _ _ _ _ _ => (pg_name (i := 11) sc_law.nd rfl (.inl rfl))) (fun _ _ _ _ _ => pts_nil) (fun _ _ _ _ _ => (pe_calI I_Bounds hr'' (by rfl) (pa_cons (pv 3) (pa_cons (pv 11) pa_nil)))))
      (pss_cons (ps_for PassesOwn.never rfl (pi_range1 (by rfl) B.range (pa_cons pe_int pa_nil)) (pg_name (i := 7) sc_law.nd rfl (.inl rfl))
        (pss_one (ps_for PassesOwn.never rfl (pi_range1 (by rfl) B.range (pa_cons pe_int pa_nil)) (pg_name (i := 9) sc_law.nd rfl (.inl rfl))
        (pss_cons (ps_set (i := 10) sc_law.nd rfl (.inl rfl) (pe_cal C_l_due hr' (by rfl) (pa_cons (pv 3) (pa_cons (pe_ix ix_list (pv 5) (pv 7) (fun _ _ => rfl)) (pa_cons (pe_ix ix_list (pv 5) (pv 9) (fun _ _ => rfl)) pa_nil)))))
      (pss_one (ps_if (PW.pt (pw_or (pt_cmpR op_ne (pe_cmpR (op_eqO M5 hr') (pe_ix ix_list (pv 6) (pv 7) (fun _ _ => rfl)) (pe_ix ix_list (pv 6) (pv 9) (fun _ _ => rfl)) (nomark _)) (pv 10) (nomark _)) (pw_or (pt_cmpR op_eq (pe_cmpR (op_neO N M3 hr') (pe_ix ix_list (pv 6) (pv 7) (fun _ _ => rfl)) (pe_ix ix_list (pv 6) (pv 9) (fun _ _ => rfl)) (nomark _)) (pv 10) (nomark _)) (pw_or1 (pt_cmpR op_ne (pe_cmpR (op_inO N M3 hr') (pe_ix ix_list (pv 6) (pv 7) (fun _ _ => rfl)) (pe_lst (pa_cons (pe_ix ix_list (pv 6) (pv 9) (fun _ _ => rfl)) pa_nil)) rfl) (pv 10) (nomark _))))))
        (pss_one (ps_ret pe_bl))
        pss_nil))))))
      (pss_cons (ps_set (i := 8) sc_law.nd rfl (.inl rfl) (pe_calI I_Bounds hr'' (by rfl) (pa_cons (pe_op op_add (pv 3) pe_int) (pa_cons (pv 4) pa_nil))))
      (pss_cons (ps_if (PW.pt (pw_or (pt_cmpR (op_eqO M5 hr') (pv 8) (pe_ix ix_list (pv 6) pe_int (fun _ _ => rfl)) (nomark _)) (pw_or (pt_cmpR (op_inO N M3 hr') (pe_ix ix_list (pv 6) pe_int (fun _ _ => rfl)) (pe_lst (pa_cons pe_non (pa_cons pe_int (pa_cons (pv 3) (pa_cons (pe_callTy call_tuple_of (by rfl) B.tuple PyProof.Rows.boot_tuple (pa_cons (pv 4) pa_nil)) (pa_cons (pe_callB (call_reprO M_Bounds_repr hr') (by rfl) B.repr (by decide +kernel) (pa_cons (pe_ix ix_list (pv 6) pe_int (fun _ _ => rfl)) pa_nil)) pa_nil)))))) rfl) (pw_or1 (pt_cmpR (op_eqL N M5 hr') (pe_ix ix_list (pv 6) pe_int (fun _ _ => rfl)) (pv 4) (nomark _))))))
        (pss_one (ps_ret pe_bl))
        pss_nil)
      (pss_one (ps_if (pt_cmpR (op_neP hr.units) (pe_lc (own := [("_law_one", 11)]) (g := gName 11) rfl sc_law.nd (pi_list (pv 6)) (blkOk_by (own := [("_law_one", 11)]) (N := ["_law_script", "_law_k", "_law_flow_here", "_law_many", "_law_rows_here", "_law_some", "_law_held", "_law_x", "_law_wider", "_law_y", "_law_due_here", "_law_one"]) (sc := defScope s_law) (by decide +kernel)) (fun _ _ _ _ _ => (pg_name (i := 11) sc_law.nd rfl (.inl rfl))) (fun _ _ _ _ _ => pts_nil) (fun _ _ _ _ _ => (pe_calM0 M_Bounds_rows T_Bounds.c hr' (pv 11)))) (pe_lc (own := [("_law_one", 11)]) (g := gName 11) rfl sc_law.nd (pi_list (pv 5)) (blkOk_by (own := [("_law_one", 11)]) (N := ["_law_script", "_law_k", "_law_flow_here", "_law_many", "_law_rows_here", "_law_some", "_law_held", "_law_x", "_law_wider", "_law_y", "_law_due_here", "_law_one"]) (sc := defScope s_law) (by decide +kernel)) (fun _ _ _ _ _ => (pg_name (i := 11) sc_law.nd rfl (.inl rfl))) (fun _ _ _ _ _ => pts_nil) (fun _ _ _ _ _ => (pe_callTy (call_tuple_ofK (K := K) rfl) (by rfl) B.tuple PyProof.Rows.boot_tuple (pa_cons (pv 11) pa_nil)))) (nomark _))
        (pss_one (ps_ret pe_bl))
        pss_nil)))))))))))
      (pss_one (ps_ret pe_bl))), ?_⟩
  refine ⟨_, rfl, a, _, rfl, .inl hS, 3, _, rfl, 1, _, rfl, ?_⟩
  obtain ⟨m, em, m0, m63⟩ : ∃ m : Int, (if (if (((ns.map V.int).length : Nat) : Int) < 3 then (((ns.map V.int).length : Nat) : Int) else 3) > 1 then (if (((ns.map V.int).length : Nat) : Int) < 3 then (((ns.map V.int).length : Nat) : Int) else 3) else 1) = m ∧ 0 ≤ m ∧ m ≤ 63 := by
    refine ⟨_, rfl, ?_, ?_⟩
    · split <;> split <;> omega
    · split <;> split <;> omega
  show ∃ n : Int, [V.int (if (if (((ns.map V.int).length : Nat) : Int) < 3 then (((ns.map V.int).length : Nat) : Int) else 3) > 1 then (if (((ns.map V.int).length : Nat) : Int) < 3 then (((ns.map V.int).length : Nat) : Int) else 3) else 1)] = [V.int n] ∧ _
  rw [em]
  refine ⟨m, rfl, by omega, by omega, for_range (lo := 0) (n := m.toNat) (fun i σ' H' => (∃ y1 y2 y3 y4 y5 y6 y7 y8 y9 y10 y11 : Option V, σ' = [some (.ref a), y1, y2, y3, y4, y5, y6, y7, y8, y9, y10, y11]) ∧ SqL K H' a (ns.map V.int)) ⟨⟨_, _, _, _, _, _, _, _, _, _, _, rfl⟩, hS⟩ ?_ ?_⟩
  · rintro i σ' H' hi ⟨⟨y1, y2, y3, y4, y5, y6, y7, y8, y9, y10, y11, rfl⟩, hS'⟩
    refine ⟨_, rfl, _, rfl, a, ns, _, rfl, hS', by omega, by omega, fun f o hf fl => ?_⟩
    have s1 : Same H' (upd H' f o) := same_new hf
    generalize upd H' f o = H2 at s1 fl
    refine ⟨_, rfl, f, 4, rfl, fl, by decide, by decide, fun d H3 d0 d1 dr3 => ⟨_, _, rfl, rfl, ?_⟩⟩
    obtain ⟨mm, emm⟩ : ∃ mm : Nat, 1 + d = (mm : Int) := ⟨(1 + d).toNat, by omega⟩
    show gName 3 (V.int (1 + d)) _ _ _
    rw [emm]
    have g3 := dr3.gr
    have mm1 : 1 ≤ mm := by omega
    have mm2 : mm ≤ 4 := by omega
    refine ⟨_, rfl, _, rfl, (by show 2 ≤ sizeLine; decide), fun l0 hl0 => ?_⟩
    have s4 := same_new (o := .lst [.int 2, .int 5]) hl0
    have u4 : (upd H3 l0 (.lst [.int 2, .int 5])) l0 = some (.lst [.int 2, .int 5]) := upd_same
    have n0f := g3.fl.nf hl0
    generalize upd H3 l0 (.lst [.int 2, .int 5]) = H4 at s4 u4
    have g4 := g3.trans (Gr.same g3.fl s4)
    refine ⟨_, rfl, f, 2, rfl, g4.fl, by decide, by decide, fun d2 H5 d20 d21 dr5 => ?_⟩
    have g5 := g4.trans dr5.gr
    have u5 : H5 l0 = _ := (dr5.off l0 n0f).trans u4
    obtain ⟨far, ef, f0, f1⟩ : ∃ far : Int, atI [V.int 2, V.int 5] d2 = some (.int far) ∧ 0 ≤ far ∧ far ≤ 1000 := by
      rcases (show d2 = 0 ∨ d2 = 1 by omega) with z | z <;> subst z
      · exact ⟨2, rfl, by decide, by decide⟩
      · exact ⟨5, rfl, by decide, by decide⟩
    refine ⟨l0, _, d2, _, rfl, rfl, SqL.of u5, ef, f, mm, 8, far, rfl, g5.fl, by omega, by decide, by decide, f0, f1, fun l xs rs H6 g6 nl hl hd hok hc hlen => ?_⟩
    have g06 := g5.trans g6
    have nlf := g5.fl.nf nl
    have rl8 : rs.length ≤ 8 := by omega
    have R6 : RowsAt K H6 l mm rs := ⟨⟨xs, hl, hd⟩, hok, by omega⟩
    refine ⟨_, rfl, _, rfl, _, rfl, _, rfl, f, mm, l, rs, rfl, g06.fl, by omega, R6, by omega, nlf, fun l1 rs1 H7 g7 n1 R1 len1 => ?_⟩
    have g07 := g06.trans g7
    have n1f := g06.fl.nf n1
    have R7 : RowsAt K H7 l mm rs := R6.keep (fun o z => g7.ex _ _ z (by simp [nlf])) (g7.tp g06.fl)
    refine ⟨_, rfl, _, rfl, _, rfl, f, mm, l, rs, rfl, g07.fl, mm1, by omega, R7, by omega, nlf, fun l2 rs2 H8 g8 n2 R2 len2 => ?_⟩
    have g08 := g07.trans g8
    have R8 : RowsAt K H8 l mm rs := R7.keep (fun o z => g8.ex _ _ z (by simp [nlf])) (g8.tp g07.fl)
    have R18 : RowsAt K H8 l1 mm rs1 := R1.keep (fun o z => g8.ex _ _ z (by simp [n1f])) (g8.tp g07.fl)
    refine ⟨1, rfl, 3, rfl, (by show 3 ≤ sizeLine; decide), fun t1 ht1 => ?_⟩
    have s9 := same_new (o := .tup [.int (-1), .int 0, .int (-3)]) ht1
    have u9 : (upd H8 t1 (.tup [.int (-1), .int 0, .int (-3)])) t1 = some (.tup [.int (-1), .int 0, .int (-3)]) := upd_same
    generalize upd H8 t1 (.tup [.int (-1), .int 0, .int (-3)]) = H9 at s9 u9
    refine ⟨1, rfl, (by show 3 ≤ sizeLine; decide), fun t2 ht2 => ?_⟩
    have s10 := same_new (o := .tup [.int 0, .int (-1), .int 2]) ht2
    have u10 : (upd H9 t2 (.tup [.int 0, .int (-1), .int 2])) t2 = some (.tup [.int 0, .int (-1), .int 2]) := upd_same
    generalize upd H9 t2 (.tup [.int 0, .int (-1), .int 2]) = H10 at s10 u10
    refine ⟨(by show 2 ≤ sizeLine; decide), fun l3 hl3 => ?_⟩
    have s11 := same_new (o := .lst [.ref t1, .ref t2]) hl3
    have u11 : (upd H10 l3 (.lst [.ref t1, .ref t2])) l3 = some (.lst [.ref t1, .ref t2]) := upd_same
    generalize upd H10 l3 (.lst [.ref t1, .ref t2]) = H11 at s11 u11
    refine ⟨(by show 4 ≤ sizeLine; decide), fun L hL => ?_⟩
    have s12 := same_new (o := .lst [.ref l, .ref l1, .ref l2, .ref l3]) hL
    have u12 : (upd H11 L (.lst [.ref l, .ref l1, .ref l2, .ref l3])) L = some (.lst [.ref l, .ref l1, .ref l2, .ref l3]) := upd_same
    generalize upd H11 L (.lst [.ref l, .ref l1, .ref l2, .ref l3]) = H12 at s12 u12
    have s812 := s9.trans (s10.trans (s11.trans s12))
    have R3 : RowsAt K H12 l3 mm [(-1, 0, -3), (0, -1, 2)] := ⟨⟨_, s12 _ _ u11, .cons (row_dp (.inl (.inl (s12 _ _ (s11 _ _ (s10 _ _ u9)))))) (.cons (row_dp (.inl (.inl (s12 _ _ (s11 _ _ u10))))) .nil)⟩, fun r h => by
      rcases List.mem_cons.mp h with z | z
      · rw [z]; exact ⟨by show (-1 : Int) ≤ -1; omega, by show (-1 : Int) < mm; omega, by show (-1 : Int) ≤ 0; omega, by show (0 : Int) < mm; omega⟩
      · rw [List.mem_singleton.mp z]; exact ⟨by show (-1 : Int) ≤ 0; omega, by show (0 : Int) < mm; omega, by show (-1 : Int) ≤ -1; omega, by show (-1 : Int) < mm; omega⟩, by show 2 ≤ 40; decide⟩
    obtain ⟨Sm, eL, Sm4, Sm0, RA⟩ : ∃ Sm : List (Addr × List Row), H12 L = some (.lst (Sm.map fun z => V.ref z.1)) ∧ Sm.length = 4 ∧ Sm[0]? = some (l, rs) ∧ ∀ z ∈ Sm, RowsAt K H12 z.1 mm z.2 :=
      ⟨[(l, rs), (l1, rs1), (l2, rs2), (l3, [(-1, 0, -3), (0, -1, 2)])], u12, rfl, rfl, fun z hz => by
        simp only [List.mem_cons, List.not_mem_nil, or_false] at hz
        rcases hz with rfl | rfl | rfl | rfl
        · exact R8.same s812
        · exact R18.same s812
        · exact R2.same s812
        · exact R3⟩
    have hSa : SqL K H12 a (ns.map V.int) := ex_seqH hf ((Ex.of_same s1).trans (g08.trans (Gr.same g08.fl s812)).ex) hS'
    have hokl := hok
    clear R3 R8 R18 R2 R7 R1 R6 s812 s12 u12 u11 s11 u10 s10 u9 s9 g08 g8 n2 n1 g07 g7 g06 hd hl nl g6 u5 dr5 g5 g4 u4 s4 g3 dr3 s1 hS' len1 len2 hlen hc
    -- the bounds
    refine ⟨_, rfl, L, rfl, ⟨_, SqL.of eL⟩, fun D hD => lc_list (K := K) (a := L) (xs := Sm.map fun z => V.ref z.1) (fun j H5 => Same H12 H5 ∧ ∃ Hd : List (Addr × List Row), Hd.map (·.2) = (Sm.take j).map (·.2) ∧ H5 D = some (.lst (Hd.map fun z => V.ref z.1)) ∧ (∀ z ∈ Hd, BdAt K c_Bounds H5 z.1 mm z.2) ∧ (Hd.map (·.1)).Nodup) ?_ ?_ ?_ ?_⟩
    · exact ⟨same_new hD, [], rfl, upd_same, fun z h => absurd h (by simp), List.nodup_nil⟩
    · rintro j H5 _ ⟨s5, _⟩
      exact SqL.of (s5 _ _ eL)
    · rintro j x H5 hx ⟨s5, Hd, eH, eD, hB, nd⟩
      rw [List.getElem?_map] at hx
      obtain ⟨one, eo, rfl⟩ := Option.map_eq_some_iff.mp hx
      obtain ⟨p, rr⟩ := one
      have RR := (RA _ (List.mem_of_getElem? eo)).same s5
      obtain ⟨ys, ey, dy⟩ := RR.ob
      refine ⟨rfl, _, rfl, _, rfl, fun x1 dx1 nx ndx ne => mkH hdv (by omega) nx ndx ey dy RR.ok (by have := RR.hl; omega) fun H9 s9 hB9 => ?_⟩
      have hlen : Hd.length ≤ 4 := by
        have := congrArg List.length eH
        rw [List.length_map, List.length_map, List.length_take] at this
        omega
      have eD9 := s9 _ _ eD
      have s69 : Same H9 (upd H9 D (.lst ((Hd.map fun z => V.ref z.1) ++ [.ref x1]))) → True := fun _ => trivial
      have nD : ∀ {b o}, H12 b = some o → b ≠ D := fun {b o} z => ne_of_none z hD
      have tD : Tp K H9 (upd H9 D (.lst ((Hd.map fun z => V.ref z.1) ++ [.ref x1]))) := Tp.lst eD9
      have kD : ∀ {x m rs}, BdAt K c_Bounds H9 x m rs → BdAt K c_Bounds (upd H9 D (.lst ((Hd.map fun z => V.ref z.1) ++ [.ref x1]))) x m rs := fun {x m rs} h => h.keep (fun o z => by
        obtain ⟨dx, fs, e⟩ := h.ins
        have : x ≠ D := fun q => by rw [q, eD9] at e; cases e
        rw [upd_ne this]; exact z) tD
      refine ⟨_, eD9, by rw [List.length_map]; exact smallL (by omega), fun b o z => ?_, Hd ++ [(x1, rr)], ?_, by rw [upd_same, List.map_append] <;> rfl, fun z hz => ?_, ?_⟩
      · rw [upd_ne (nD z)]
        exact s9 _ _ (s5 _ _ z)
      · rw [List.take_add_one, eo, List.map_append, List.map_append, eH]
        rfl
      · rcases List.mem_append.mp hz with q | q
        · exact kD ((hB z q).same s9)
        · rw [List.mem_singleton.mp q]; exact kD hB9
      · rw [List.map_append]
        refine List.nodup_append.mpr ⟨nd, by simp, fun u hu v hv => ?_⟩
        obtain ⟨z, hz, rfl⟩ := List.mem_map.mp hu
        have ev : v = x1 := by simpa using hv
        rw [ev]
        obtain ⟨dx, fs, e⟩ := (hB z hz).ins
        exact ne_of_none e nx
    rintro H13 ⟨s13, Hd, eH, eD, hB, nd⟩
    rw [List.length_map, List.take_length] at eH
    have hl4 : Hd.length = 4 := by
      have := congrArg List.length eH
      rw [List.length_map, List.length_map, Sm4] at this
      exact this
    have at2 : ∀ i, i < 4 → ∃ (x p : Addr) (rr : List Row), Hd[i]? = some (x, rr) ∧ Sm[i]? = some (p, rr) := fun i hi => by
      have h1 := List.getElem?_eq_getElem (show i < Hd.length by omega)
      have h2 := List.getElem?_eq_getElem (show i < Sm.length by omega)
      refine ⟨(Hd[i]'(by omega)).1, (Sm[i]'(by omega)).1, (Hd[i]'(by omega)).2, h1, ?_⟩
      rw [h2]
      have e := congrArg (fun z : List (List Row) => z[i]?) eH
      simp only [List.getElem?_map, h1, h2, Option.map_some, Option.some.injEq] at e
      rw [e]
    have uniq : ∀ (i j : Nat) (x : Addr) (rr rr' : List Row), Hd[i]? = some (x, rr) → Hd[j]? = some (x, rr') → rr = rr' := fun i j x rr rr' h1 h2 => by
      have a1 : (Hd.map (·.1))[i]? = some x := by rw [List.getElem?_map, h1]; rfl
      have a2 : (Hd.map (·.1))[j]? = some x := by rw [List.getElem?_map, h2]; rfl
      obtain ⟨b1, c1⟩ := List.getElem?_eq_some_iff.mp a1
      obtain ⟨b2, c2⟩ := List.getElem?_eq_some_iff.mp a2
      have nn := List.pairwise_iff_getElem.mp nd
      have : i = j := by
        rcases Nat.lt_trichotomy i j with z | z | z
        · exact absurd (c1.trans c2.symm) (nn i j b1 b2 z)
        · exact z
        · exact absurd (c2.trans c1.symm) (nn j i b2 b1 z)
      subst this
      rw [h1] at h2
      have := Option.some.inj h2
      exact (Prod.mk.inj this).2
    have atS : ∀ (i : Nat) (x : Addr) (rr : List Row), Hd[i]? = some (x, rr) → atI (Hd.map fun z => V.ref z.1) (0 + (i : Int)) = some (.ref x) := fun i x rr h => at_of (j := i) (by omega) (by rw [List.getElem?_map, h]; rfl)
    have atP : ∀ (i : Nat) (x : Addr) (rr : List Row), Sm[i]? = some (x, rr) → atI (Sm.map fun z => V.ref z.1) (0 + (i : Int)) = some (.ref x) := fun i x rr h => at_of (j := i) (by omega) (by rw [List.getElem?_map, h]; rfl)
    have eL13 := s13 _ _ eL
    refine ⟨4, rfl, by decide, by decide, for_range (lo := 0) (n := (4 : Int).toNat) (fun i σ' H' => (∃ y1 y7 y8 y9 y10 y11 : Option V, σ' = [some (.ref a), y1, some (.ref f), some (.int mm), some (.ref l), some (.ref L), some (.ref D), y7, y8, y9, y10, y11]) ∧ Same H13 H') ⟨⟨_, _, _, _, _, _, rfl⟩, fun _ _ z => z⟩ ?_ ?_⟩
    · rintro i σ' H' hi ⟨⟨y1, y7, y8, y9, y10, y11, rfl⟩, s'⟩
      refine ⟨4, rfl, by decide, by decide, for_range (lo := 0) (n := (4 : Int).toNat) (fun j σ2 H5 => (∃ y1 y8 y9 y10 y11 : Option V, σ2 = [some (.ref a), y1, some (.ref f), some (.int mm), some (.ref l), some (.ref L), some (.ref D), some (.int (0 + (i : Int))), y8, y9, y10, y11]) ∧ Same H13 H5) ⟨⟨_, _, _, _, _, rfl⟩, s'⟩ ?_ ?_⟩
      · rintro j σ2 H5 hj ⟨⟨y1, y8, y9, y10, y11, rfl⟩, s5⟩
        obtain ⟨x, p, rr, hx, hp⟩ := at2 i hi
        obtain ⟨y, p', rr', hy, hp'⟩ := at2 j hj
        have s125 := s13.trans s5
        refine ⟨_, rfl, _, rfl, _, rfl, L, _, 0 + (i : Int), _, rfl, rfl, SqL.of (s5 _ _ eL13), atP _ _ _ hp, _, rfl, _, rfl, L, _, 0 + (j : Int), _, rfl, rfl, SqL.of (s5 _ _ eL13), atP _ _ _ hp', mm, p, p', rr, rr', rfl, by omega, (RA _ (List.mem_of_getElem? hp)).same s125, (RA _ (List.mem_of_getElem? hp')).same s125, fun c H6 s6 hc => ?_⟩
        have s06 := s5.trans s6
        have eD6 := s06 _ _ eD
        have bX := (hB _ (List.mem_of_getElem? hx)).same s06
        have bY := (hB _ (List.mem_of_getElem? hy)).same s06
        obtain ⟨dx, fx, ex⟩ := bX.ins
        obtain ⟨dy, fy, ey⟩ := bY.ins
        refine ⟨_, rfl, _, rfl, D, _, 0 + (i : Int), _, rfl, rfl, SqL.of eD6, atS _ _ _ hx, _, rfl, _, rfl, D, _, 0 + (j : Int), _, rfl, rfl, SqL.of eD6, atS _ _ _ hy, x, y, dx, fx, dy, fy, rfl, rfl, ex, ey, x, .ref y, mm, rr, rfl, bX, .inl ⟨y, mm, rr', rfl, bY, fun c1 hc1 => ⟨c1, rfl, ?_⟩⟩⟩
        obtain rfl : c1 = c := Bool.eq_iff_iff.mpr (hc1.trans ((and_iff_right rfl).trans hc.symm))
        refine ⟨_, rfl, rfl, _, rfl, iteN (by simp) ?_⟩
        refine ⟨_, rfl, _, rfl, D, _, 0 + (i : Int), _, rfl, rfl, SqL.of eD6, atS _ _ _ hx, _, rfl, _, rfl, D, _, 0 + (j : Int), _, rfl, rfl, SqL.of eD6, atS _ _ _ hy, x, y, dx, fx, dy, fy, rfl, rfl, ex, ey, x, .ref y, mm, rr, rfl, bX, .inl ⟨y, mm, rr', rfl, bY, fun c2 hc2 => ⟨c2, rfl, ?_⟩⟩⟩
        obtain rfl : c2 = c1 := Bool.eq_iff_iff.mpr (hc2.trans hc1.symm)
        refine ⟨_, rfl, rfl, _, rfl, iteN (by cases c2 <;> simp) ?_⟩
        refine ⟨_, rfl, _, rfl, D, _, 0 + (i : Int), _, rfl, rfl, SqL.of eD6, atS _ _ _ hx, _, rfl, _, rfl, D, _, 0 + (j : Int), _, rfl, rfl, SqL.of eD6, atS _ _ _ hy, (by show 1 ≤ sizeLine; decide), fun l9 hl9 => ?_⟩
        have s9 := same_new (o := .lst [V.ref y]) hl9
        have u9 : (upd H6 l9 (.lst [V.ref y])) l9 = some (.lst [V.ref y]) := upd_same
        generalize upd H6 l9 (.lst [V.ref y]) = H9 at s9 u9
        have bX9 := bX.same s9
        have bY9 := bY.same s9
        refine ⟨x, l9, [.ref y], dx, fx, rfl, rfl, SqL.of u9, s9 _ _ ex, ?_⟩
        by_cases xy : y = x
        · subst xy
          have er := uniq i j _ _ _ hx hy
          subst er
          have ct : c2 = true := hc.mpr (alike_refl _ _)
          refine .inl ⟨rfl, ?_⟩
          exact ⟨_, rfl, rfl, _, rfl, iteN (by rw [ct]; simp) ⟨⟨_, _, _, _, _, rfl⟩, s06.trans s9⟩⟩
        · refine .inr ⟨fun e => xy (by injection e), .ref y, .ref x, .inl ⟨rfl, rfl, y, dy, fy, rfl, s9 _ _ ey⟩, y, .ref x, mm, rr', rfl, bY9, .inl ⟨x, mm, rr, rfl, bX9, fun c3 hc3 => ⟨rfl, c3, rfl, ?_⟩⟩⟩
          obtain rfl : c3 = c2 := Bool.eq_iff_iff.mpr (hc3.trans ((and_iff_right rfl).trans (⟨alike_symm, alike_symm⟩ : _ ↔ _) |>.trans hc.symm))
          cases c3 with
          | true => exact iteT ⟨_, rfl, rfl, _, rfl, iteN (by simp) ⟨⟨_, _, _, _, _, rfl⟩, s06.trans s9⟩⟩
          | false => exact iteF ⟨_, rfl, rfl, _, rfl, iteN (by simp) ⟨⟨_, _, _, _, _, rfl⟩, s06.trans s9⟩⟩
      · rintro σ2 H5 ⟨⟨y1, y8, y9, y10, y11, rfl⟩, s5⟩
        exact ⟨⟨_, _, _, _, _, _, rfl⟩, s5⟩
    rintro σ' H14 ⟨⟨y1, y7, y8, y9, y10, y11, rfl⟩, s14⟩
    obtain ⟨x0, p0, rr0, hx0, hp0⟩ := at2 0 (by decide)
    have R14 := (RA _ (List.mem_of_getElem? Sm0)).same (s13.trans s14)
    obtain ⟨ys, ey14, dy14⟩ := R14.ob
    refine ⟨_, rfl, _, _, rfl, rfl, _, rfl, fun w dw nw ndw ne => ?_⟩
    show spInit K c_Bounds (.ref w :: ([.int ((mm : Int) + 1), .ref l] ++ dvs.drop 1)) _ _ _
    rw [show ((mm : Int) + 1) = ((mm + 1 : Nat) : Int) by omega]
    refine mkH hdv (m := mm + 1) (by omega) nw ndw ey14 dy14 (fun r hr => ?_) (by show rs.length ≤ 100; omega) fun H15 s15 hBw => ?_
    · obtain ⟨o1, o2, o3, o4⟩ := hok r hr
      exact ⟨o1, by omega, o3, by omega⟩
    have s1315 := s14.trans s15
    have eD15 := s1315 _ _ eD
    have b0 := (hB _ (List.mem_of_getElem? hx0)).same s1315
    obtain ⟨dx0, fx0, ex0⟩ := b0.ins
    obtain ⟨dw', fw, ew⟩ := hBw.ins
    have a0 := atS _ _ _ hx0
    refine ⟨_, rfl, _, rfl, D, _, 0, _, rfl, rfl, SqL.of eD15, a0, w, x0, dw', fw, dx0, fx0, rfl, rfl, ew, ex0, w, .ref x0, mm + 1, rs, rfl, hBw, .inl ⟨x0, mm, rr0, rfl, b0, fun c hc => ⟨c, rfl, ?_⟩⟩⟩
    obtain rfl : c = false := by
      cases c with
      | false => rfl
      | true => exact absurd (hc.mp rfl).1 (by omega)
    refine ⟨_, rfl, iteF ?_⟩
    have ey15 := s15 _ _ ey14
    refine ⟨_, rfl, D, _, 0, _, rfl, rfl, SqL.of eD15, a0, _, rfl, _, rfl, l, ys, rfl, .inl ⟨SqL.of ey15, fun t ht => ?_⟩⟩
    have s16 := same_new (o := .tup ys) ht
    have u16 : (upd H15 t (.tup ys)) t = some (.tup ys) := upd_same
    generalize upd H15 t (.tup ys) = H16 at s16 u16
    refine ⟨_, rfl, D, _, 0, _, rfl, rfl, SqL.of (s16 _ _ eD15), a0, x0, dx0, fx0, rfl, s16 _ _ ex0, x0, mm, rr0, rfl, b0.same s16, _, rfl, (by show 5 ≤ sizeLine; decide), fun l9 hl9 => ?_⟩
    generalize bdTxt mm rr0.length = txt at hl9
    have s17 := same_new (o := .lst [.non, .int 7, .int mm, .ref t, .str txt]) hl9
    have u17 : (upd H16 l9 (.lst [.non, .int 7, .int mm, .ref t, .str txt])) l9 = some (.lst [.non, .int 7, .int mm, .ref t, .str txt]) := upd_same
    generalize upd H16 l9 (.lst [.non, .int 7, .int mm, .ref t, .str txt]) = H17 at s17 u17
    have s1517 := s16.trans s17
    have b17 := b0.same s1517
    have et := s17 _ _ u16
    have ex17 := s1517 _ _ ex0
    obtain ⟨z1, z2, z3, z4, z5⟩ := sub_no K c_Bounds
    refine ⟨x0, l9, _, dx0, fx0, rfl, rfl, SqL.of u17, ex17, ?_⟩
    refine inO_no b17 (fun e => nomatch e) (.inl rfl) ⟨_, .non, N.one z1⟩ ?_
    refine inO_no b17 (fun e => nomatch e) (.inr (.inl ⟨_, rfl⟩)) ⟨_, .int _, N.one z2⟩ ?_
    refine inO_no b17 (fun e => nomatch e) (.inr (.inl ⟨_, rfl⟩)) ⟨_, .int _, N.one z2⟩ ?_
    refine inO_no b17 (fun e => by
      injection e with e
      rw [e, ex17] at et
      cases et) (.inr (.inr (.inr ⟨_, _, rfl, et⟩))) ⟨_, .tup et, N.one z4⟩ ?_
    refine inO_no b17 (fun e => nomatch e) (.inr (.inr (.inl ⟨_, rfl⟩))) ⟨_, .str _, N.one z3⟩ ?_
    refine ⟨_, rfl, iteF ?_⟩
    have eD17 := s1517 _ _ eD15
    have ey17 := s1517 _ _ ey15
    refine ⟨_, rfl, D, _, 0, _, rfl, rfl, SqL.of eD17, a0, _, rfl, x0, l, dx0, fx0, ys, rfl, rfl, ex17, SqL.of ey17, x0, .ref l, mm, rr0, rfl, b17, .inr ⟨⟨_, .lst ey17, N.one z5⟩, false, rfl, _, rfl, iteF ?_⟩⟩
    -- they stayed as they were
    have s1317 := s1315.trans s1517
    have eL17 := s1317 _ _ eL13
    refine ⟨_, rfl, D, rfl, ⟨_, SqL.of eD17⟩, fun A hA => lc_list (K := K) (a := D) (xs := Hd.map fun z => V.ref z.1) (fun j H' => Same H17 H' ∧ ∃ vs, H' A = some (.lst vs) ∧ DpAll K H' vs (((Hd.take j).map (·.2)).map rowT)) ?_ ?_ ?_ ?_⟩
    · exact ⟨same_new hA, [], upd_same, .nil⟩
    · rintro j H' _ ⟨s', _⟩
      exact SqL.of (s' _ _ eD17)
    · rintro j x H' hx ⟨s', vs, eA, dA⟩
      rw [List.getElem?_map] at hx
      obtain ⟨⟨x, rr⟩, eo, rfl⟩ := Option.map_eq_some_iff.mp hx
      have bx := (hB _ (List.mem_of_getElem? eo)).same (s1317.trans s')
      obtain ⟨dx, fx, ex, lk⟩ := bx.rowsM
      refine ⟨rfl, _, rfl, x, dx, fx, rfl, ex, lk, x, mm, rr, rfl, bx, fun v hv => ?_⟩
      have jl : j < 4 := by
        have := (List.getElem?_eq_some_iff.mp eo).1
        omega
      have vl : vs.length ≤ 4 := by
        have := (dpall_getM _ dA).1
        rw [List.length_map, List.length_take] at this
        omega
      have tA : Tp K H' (upd H' A (.lst (vs ++ [v]))) := Tp.lst eA
      refine ⟨vs, eA, smallL (by omega), fun b o z => ?_, vs ++ [v], upd_same, ?_⟩
      · rw [upd_ne (ne_of_none z hA)]
        exact s' _ _ z
      · rw [List.take_add_one, eo, List.map_append, List.map_append]
        exact dpall_app' (dps_keep tA _ _ (rowTs_flat _) dA) (.cons (hv.keep tA).2 .nil)
    rintro H18 ⟨s18, vs, eA, dA⟩
    rw [List.length_map, List.take_length] at dA
    have eL18 := s18 _ _ eL17
    refine ⟨_, rfl, L, rfl, ⟨_, SqL.of eL18⟩, fun A2 hA2 => lc_list (K := K) (a := L) (xs := Sm.map fun z => V.ref z.1) (fun j H' => Same H18 H' ∧ ∃ vs, H' A2 = some (.lst vs) ∧ DpAll K H' vs (((Sm.take j).map (·.2)).map rowT)) ?_ ?_ ?_ ?_⟩
    · exact ⟨same_new hA2, [], upd_same, .nil⟩
    · rintro j H' _ ⟨s', _⟩
      exact SqL.of (s' _ _ eL18)
    · rintro j x H' hx ⟨s', vs2, eA2, dA2⟩
      rw [List.getElem?_map] at hx
      obtain ⟨⟨p, rr⟩, eo, rfl⟩ := Option.map_eq_some_iff.mp hx
      obtain ⟨zs, ez, dz⟩ := ((RA _ (List.mem_of_getElem? eo)).same (s13.trans (s1317.trans (s18.trans s')))).ob
      refine ⟨rfl, _, rfl, p, zs, rfl, .inl ⟨SqL.of ez, fun t ht => ?_⟩⟩
      have st := same_new (o := .tup zs) ht
      have ut : (upd H' t (.tup zs)) t = some (.tup zs) := upd_same
      generalize upd H' t (.tup zs) = H19 at st ut
      have vl : vs2.length ≤ 4 := by
        have := (dpall_getM _ dA2).1
        rw [List.length_map, List.length_take] at this
        omega
      have eA19 := st _ _ eA2
      have tA : Tp K H19 (upd H19 A2 (.lst (vs2 ++ [.ref t]))) := Tp.lst eA19
      refine ⟨vs2, eA19, smallL (by omega), fun b o z => ?_, vs2 ++ [.ref t], upd_same, ?_⟩
      · rw [upd_ne (ne_of_none z hA2)]
        exact st _ _ (s' _ _ z)
      · rw [List.take_add_one, eo, List.map_append, List.map_append]
        refine dpall_app' (dps_keep ((Tp.same st).trans tA) _ _ (rowTs_flat _) dA2) (.cons (dp_keep tA _ _ (rows_flat rr) (.tup (.inl (.inl ut)) (dps_keep (Tp.same st) _ _ (rows_flat rr) dz))) .nil)
    rintro H20 ⟨s20, vs2, eA2, dA2⟩
    rw [List.length_map, List.take_length, ← eH] at dA2
    obtain ⟨RL, eRL⟩ : ∃ RL : List (List Row), Hd.map (·.2) = RL := ⟨_, rfl⟩
    rw [eRL] at dA dA2
    have fl := rowTs_flat RL
    refine ⟨.list (RL.map rowT), .list (RL.map rowT), .lst (SqL.of (s20 _ _ eA)) (dps_keep (Tp.same s20) _ _ fl dA), .lst (SqL.of eA2) dA2, plains_flat _ fl, plains_flat _ fl, rowTs_depth _, _, rfl, iteN ?_ ⟨⟨_, _, _, _, _, _, _, _, _, _, _, rfl⟩, (s1317.trans (s18.trans s20)).seq (s13.seq hSa)⟩⟩
    rw [show PyData.eqv (.list (RL.map rowT)) (.list (RL.map rowT)) = true from SeqAt.eqv_refl_plain (.list (RL.map rowT)) (plains_flat _ fl)]
    rfl
  · rintro σ' H' _
    exact q _
end
end Lm

set_option Elab.async false
set_option linter.all false
set_option maxRecDepth 100000
set_option maxHeartbeats 2000000
namespace Lm
open PySem PySem.Spec PyProof.Rows L2 LmR
theorem defAt_mk {K : PySem.W.Frag} {h : Heap} {mg : Str → Option Value} {x : Str} {st : Stmt} {ps : List Str} {f : Addr} {oc : Value} {od an : Option Addr} {osl : Array (Option Value)} {kV doc pm cdv ct : Value} (X : K.In h) (G : h.Ns mainGlobals mg)
    (a : PySem.W.nsIn K mainGlobals x = some (some (.ref f))) (l : K.lookup f = some ⟨oc, od, .func (PySem.W.fnOf x x (defArgs st) (defBody st) (defScope st) .none kV doc pm an cdv ct), osl⟩) (c : PySem.W.codeIn K cdv x = true) (k : PySem.W.keepIn K (.ref f) = true)
    (hb : ∀ (kV doc pm : Value) (an : Option Addr) (cdv ct : Value) (us : List Value), us.length = ps.length → bindArgs (PySem.W.fnOf x x (defArgs st) (defBody st) (defScope st) .none kV doc pm an cdv ct) ⟨us, []⟩ = pure (ps.zip us)) : DefAt K mg x st ps :=
  ⟨f, _, fun_mk l c k, (fun_mk l c k).binds hb, PySem.W.mg_of X G a⟩
theorem all_mk {l : PySem.W.OpenLaw} {w : World} {K : PySem.W.Frag} {h : Heap} {mg : Str → Option Value} {fa : Addr} (X : K.In h) (G : h.Ns mainGlobals mg) (hfa : mg "law" = some (.ref fa))
    {f0 : Addr} {od0 an0 : Option Addr} {sl0 : Array (Option Value)} {oc0 kV0 dc0 pm0 cd0 ct0 : Value} {f1 : Addr} {od1 an1 : Option Addr} {sl1 : Array (Option Value)} {oc1 kV1 dc1 pm1 cd1 ct1 : Value} {f2 : Addr} {od2 an2 : Option Addr} {sl2 : Array (Option Value)} {oc2 kV2 dc2 pm2 cd2 ct2 : Value} {f3 : Addr} {od3 an3 : Option Addr} {sl3 : Array (Option Value)} {oc3 kV3 dc3 pm3 cd3 ct3 : Value} {f4 : Addr} {od4 an4 : Option Addr} {sl4 : Array (Option Value)} {oc4 kV4 dc4 pm4 cd4 ct4 : Value} {f5 : Addr} {od5 an5 : Option Addr} {sl5 : Array (Option Value)} {oc5 kV5 dc5 pm5 cd5 ct5 : Value} {f6 : Addr} {od6 an6 : Option Addr} {sl6 : Array (Option Value)} {oc6 kV6 dc6 pm6 cd6 ct6 : Value} {f7 : Addr} {od7 an7 : Option Addr} {sl7 : Array (Option Value)} {oc7 kV7 dc7 pm7 cd7 ct7 : Value} {f8 : Addr} {od8 an8 : Option Addr} {sl8 : Array (Option Value)} {oc8 kV8 dc8 pm8 cd8 ct8 : Value} {f9 : Addr} {od9 an9 : Option Addr} {sl9 : Array (Option Value)} {oc9 kV9 dc9 pm9 cd9 ct9 : Value} {f10 : Addr} {od10 an10 : Option Addr} {sl10 : Array (Option Value)} {oc10 kV10 dc10 pm10 cd10 ct10 : Value} {f11 : Addr} {od11 an11 : Option Addr} {sl11 : Array (Option Value)} {oc11 kV11 dc11 pm11 cd11 ct11 : Value} {f12 : Addr} {od12 an12 : Option Addr} {sl12 : Array (Option Value)} {oc12 kV12 dc12 pm12 cd12 ct12 : Value} {f13 : Addr} {od13 an13 : Option Addr} {sl13 : Array (Option Value)} {oc13 kV13 dc13 pm13 cd13 ct13 : Value} {f14 : Addr} {od14 an14 : Option Addr} {sl14 : Array (Option Value)} {oc14 kV14 dc14 pm14 cd14 ct14 : Value} {f15 : Addr} {od15 an15 : Option Addr} {sl15 : Array (Option Value)} {oc15 kV15 dc15 pm15 cd15 ct15 : Value} {f16 : Addr} {od16 an16 : Option Addr} {sl16 : Array (Option Value)} {oc16 kV16 dc16 pm16 cd16 ct16 : Value} {cO_Bounds fI_Bounds eT_Bounds e0_Bounds : Addr} {ooc_Bounds okV_Bounds odc_Bounds opm_Bounds ocd_Bounds oct_Bounds : Value} {ood_Bounds oan_Bounds edT_Bounds : Option Addr} {osl_Bounds eslT_Bounds : Array (Option Value)} {enT_Bounds : Nat} {fM_Bounds_rows : Addr} {moc_Bounds_rows mkV_Bounds_rows mdc_Bounds_rows mpm_Bounds_rows mcd_Bounds_rows mct_Bounds_rows : Value} {mod_Bounds_rows man_Bounds_rows : Option Addr} {msl_Bounds_rows : Array (Option Value)} {fM_Bounds___eq__ : Addr} {moc_Bounds___eq__ mkV_Bounds___eq__ mdc_Bounds___eq__ mpm_Bounds___eq__ mcd_Bounds___eq__ mct_Bounds___eq__ : Value} {mod_Bounds___eq__ man_Bounds___eq__ : Option Addr} {msl_Bounds___eq__ : Array (Option Value)} {fM_Bounds___repr__ : Addr} {moc_Bounds___repr__ mkV_Bounds___repr__ mdc_Bounds___repr__ mpm_Bounds___repr__ mcd_Bounds___repr__ mct_Bounds___repr__ : Value} {mod_Bounds___repr__ man_Bounds___repr__ : Option Addr} {msl_Bounds___repr__ : Array (Option Value)}
    (a0 : PySem.W.nsIn K mainGlobals "open_bounds" = some (some (.ref f0))) (l0 : K.lookup f0 = some ⟨oc0, od0, .func (PySem.W.fnOf "open_bounds" "open_bounds" (defArgs s_open_bounds) (defBody s_open_bounds) (defScope s_open_bounds) .none kV0 dc0 pm0 an0 cd0 ct0), sl0⟩) (c0 : PySem.W.codeIn K cd0 "open_bounds" = true) (k0 : PySem.W.keepIn K (.ref f0) = true)
    (a1 : PySem.W.nsIn K mainGlobals "tightened" = some (some (.ref f1))) (l1 : K.lookup f1 = some ⟨oc1, od1, .func (PySem.W.fnOf "tightened" "tightened" (defArgs s_tightened) (defBody s_tightened) (defScope s_tightened) .none kV1 dc1 pm1 an1 cd1 ct1), sl1⟩) (c1 : PySem.W.codeIn K cd1 "tightened" = true) (k1 : PySem.W.keepIn K (.ref f1) = true)
    (a2 : PySem.W.nsIn K mainGlobals "known" = some (some (.ref f2))) (l2 : K.lookup f2 = some ⟨oc2, od2, .func (PySem.W.fnOf "known" "known" (defArgs s_known) (defBody s_known) (defScope s_known) .none kV2 dc2 pm2 an2 cd2 ct2), sl2⟩) (c2 : PySem.W.codeIn K cd2 "known" = true) (k2 : PySem.W.keepIn K (.ref f2) = true)
    (a3 : PySem.W.nsIn K mainGlobals "row_through" = some (some (.ref f3))) (l3 : K.lookup f3 = some ⟨oc3, od3, .func (PySem.W.fnOf "row_through" "row_through" (defArgs s_row_through) (defBody s_row_through) (defScope s_row_through) .none kV3 dc3 pm3 an3 cd3 ct3), sl3⟩) (c3 : PySem.W.codeIn K cd3 "row_through" = true) (k3 : PySem.W.keepIn K (.ref f3) = true)
    (a4 : PySem.W.nsIn K mainGlobals "lesser" = some (some (.ref f4))) (l4 : K.lookup f4 = some ⟨oc4, od4, .func (PySem.W.fnOf "lesser" "lesser" (defArgs s_lesser) (defBody s_lesser) (defScope s_lesser) .none kV4 dc4 pm4 an4 cd4 ct4), sl4⟩) (c4 : PySem.W.codeIn K cd4 "lesser" = true) (k4 : PySem.W.keepIn K (.ref f4) = true)
    (a5 : PySem.W.nsIn K mainGlobals "closed_by" = some (some (.ref f5))) (l5 : K.lookup f5 = some ⟨oc5, od5, .func (PySem.W.fnOf "closed_by" "closed_by" (defArgs s_closed_by) (defBody s_closed_by) (defScope s_closed_by) .none kV5 dc5 pm5 an5 cd5 ct5), sl5⟩) (c5 : PySem.W.codeIn K cd5 "closed_by" = true) (k5 : PySem.W.keepIn K (.ref f5) = true)
    (a6 : PySem.W.nsIn K mainGlobals "_law_cell" = some (some (.ref f6))) (l6 : K.lookup f6 = some ⟨oc6, od6, .func (PySem.W.fnOf "_law_cell" "_law_cell" (defArgs s_l_cell) (defBody s_l_cell) (defScope s_l_cell) .none kV6 dc6 pm6 an6 cd6 ct6), sl6⟩) (c6 : PySem.W.codeIn K cd6 "_law_cell" = true) (k6 : PySem.W.keepIn K (.ref f6) = true)
    (a7 : PySem.W.nsIn K mainGlobals "_law_flow" = some (some (.ref f7))) (l7 : K.lookup f7 = some ⟨oc7, od7, .func (PySem.W.fnOf "_law_flow" "_law_flow" (defArgs s_l_flow) (defBody s_l_flow) (defScope s_l_flow) .none kV7 dc7 pm7 an7 cd7 ct7), sl7⟩) (c7 : PySem.W.codeIn K cd7 "_law_flow" = true) (k7 : PySem.W.keepIn K (.ref f7) = true)
    (a8 : PySem.W.nsIn K mainGlobals "_law_draw" = some (some (.ref f8))) (l8 : K.lookup f8 = some ⟨oc8, od8, .func (PySem.W.fnOf "_law_draw" "_law_draw" (defArgs s_l_draw) (defBody s_l_draw) (defScope s_l_draw) .none kV8 dc8 pm8 an8 cd8 ct8), sl8⟩) (c8 : PySem.W.codeIn K cd8 "_law_draw" = true) (k8 : PySem.W.keepIn K (.ref f8) = true)
    (a9 : PySem.W.nsIn K mainGlobals "_law_rows" = some (some (.ref f9))) (l9 : K.lookup f9 = some ⟨oc9, od9, .func (PySem.W.fnOf "_law_rows" "_law_rows" (defArgs s_l_rows) (defBody s_l_rows) (defScope s_l_rows) .none kV9 dc9 pm9 an9 cd9 ct9), sl9⟩) (c9 : PySem.W.codeIn K cd9 "_law_rows" = true) (k9 : PySem.W.keepIn K (.ref f9) = true)
    (a10 : PySem.W.nsIn K mainGlobals "_law_down" = some (some (.ref f10))) (l10 : K.lookup f10 = some ⟨oc10, od10, .func (PySem.W.fnOf "_law_down" "_law_down" (defArgs s_l_down) (defBody s_l_down) (defScope s_l_down) .none kV10 dc10 pm10 an10 cd10 ct10), sl10⟩) (c10 : PySem.W.codeIn K cd10 "_law_down" = true) (k10 : PySem.W.keepIn K (.ref f10) = true)
    (a11 : PySem.W.nsIn K mainGlobals "_law_is_empty" = some (some (.ref f11))) (l11 : K.lookup f11 = some ⟨oc11, od11, .func (PySem.W.fnOf "_law_is_empty" "_law_is_empty" (defArgs s_l_is_empty) (defBody s_l_is_empty) (defScope s_l_is_empty) .none kV11 dc11 pm11 an11 cd11 ct11), sl11⟩) (c11 : PySem.W.codeIn K cd11 "_law_is_empty" = true) (k11 : PySem.W.keepIn K (.ref f11) = true)
    (a12 : PySem.W.nsIn K mainGlobals "_law_follow" = some (some (.ref f12))) (l12 : K.lookup f12 = some ⟨oc12, od12, .func (PySem.W.fnOf "_law_follow" "_law_follow" (defArgs s_l_follow) (defBody s_l_follow) (defScope s_l_follow) .none kV12 dc12 pm12 an12 cd12 ct12), sl12⟩) (c12 : PySem.W.codeIn K cd12 "_law_follow" = true) (k12 : PySem.W.keepIn K (.ref f12) = true)
    (a13 : PySem.W.nsIn K mainGlobals "_law_due" = some (some (.ref f13))) (l13 : K.lookup f13 = some ⟨oc13, od13, .func (PySem.W.fnOf "_law_due" "_law_due" (defArgs s_l_due) (defBody s_l_due) (defScope s_l_due) .none kV13 dc13 pm13 an13 cd13 ct13), sl13⟩) (c13 : PySem.W.codeIn K cd13 "_law_due" = true) (k13 : PySem.W.keepIn K (.ref f13) = true)
    (a14 : PySem.W.nsIn K mainGlobals "_law_more" = some (some (.ref f14))) (l14 : K.lookup f14 = some ⟨oc14, od14, .func (PySem.W.fnOf "_law_more" "_law_more" (defArgs s_l_more) (defBody s_l_more) (defScope s_l_more) .none kV14 dc14 pm14 an14 cd14 ct14), sl14⟩) (c14 : PySem.W.codeIn K cd14 "_law_more" = true) (k14 : PySem.W.keepIn K (.ref f14) = true)
    (a15 : PySem.W.nsIn K mainGlobals "_law_otherwise" = some (some (.ref f15))) (l15 : K.lookup f15 = some ⟨oc15, od15, .func (PySem.W.fnOf "_law_otherwise" "_law_otherwise" (defArgs s_l_otherwise) (defBody s_l_otherwise) (defScope s_l_otherwise) .none kV15 dc15 pm15 an15 cd15 ct15), sl15⟩) (c15 : PySem.W.codeIn K cd15 "_law_otherwise" = true) (k15 : PySem.W.keepIn K (.ref f15) = true)
    (a16 : PySem.W.nsIn K mainGlobals "law" = some (some (.ref f16))) (l16 : K.lookup f16 = some ⟨oc16, od16, .func (PySem.W.fnOf "law" "law" (defArgs s_law) (defBody s_law) (defScope s_law) .none kV16 dc16 pm16 an16 cd16 ct16), sl16⟩) (c16 : PySem.W.codeIn K cd16 "law" = true) (k16 : PySem.W.keepIn K (.ref f16) = true)
    (z0 : PySem.W.nsIn K mainGlobals "len" = some none)
    (z1 : PySem.W.nsIn K mainGlobals "isinstance" = some none)
    (z2 : PySem.W.nsIn K mainGlobals "tuple" = some none)
    (z3 : PySem.W.nsIn K mainGlobals "list" = some none)
    (z4 : PySem.W.nsIn K mainGlobals "str" = some none)
    (z5 : PySem.W.nsIn K mainGlobals "int" = some none)
    (z6 : PySem.W.nsIn K mainGlobals "bool" = some none)
    (z7 : PySem.W.nsIn K mainGlobals "range" = some none)
    (z8 : PySem.W.nsIn K mainGlobals "zip" = some none)
    (z9 : PySem.W.nsIn K mainGlobals "enumerate" = some none)
    (z10 : PySem.W.nsIn K mainGlobals "reversed" = some none)
    (z11 : PySem.W.nsIn K mainGlobals "max" = some none)
    (z12 : PySem.W.nsIn K mainGlobals "all" = some none)
    (z13 : PySem.W.nsIn K mainGlobals "min" = some none)
    (z14 : PySem.W.nsIn K mainGlobals "sum" = some none)
    (z15 : PySem.W.nsIn K mainGlobals "any" = some none)
    (z16 : PySem.W.nsIn K mainGlobals "sorted" = some none)
    (z17 : PySem.W.nsIn K mainGlobals "set" = some none)
    (z18 : PySem.W.nsIn K mainGlobals "repr" = some none)
    (z19 : PySem.W.nsIn K mainGlobals "abs" = some none)
    (oa_Bounds : PySem.W.nsIn K mainGlobals "Bounds" = some (some (.ref cO_Bounds)))
    (opg_Bounds : PySem.W.plainGet K cO_Bounds Str.empty = true)
    (ohd_Bounds : PySem.W.hasDictIn K cO_Bounds = true)
    (opo_Bounds : PySem.W.plainOver K cO_Bounds = true)
    (osa_Bounds : PySem.W.findIn K (.ref cO_Bounds) "__setattr__" = some (some (.builtin "object.__setattr__")))
    (omk_Bounds : PySem.W.makesIn K cO_Bounds = true)
    (okc_Bounds : PySem.W.keepIn K (.ref cO_Bounds) = true)
    (onmany_Bounds : PySem.W.findIn K (.ref cO_Bounds) "many" = some none)
    (ongiven_Bounds : PySem.W.findIn K (.ref cO_Bounds) "given" = some none)
    (onclosed_Bounds : PySem.W.findIn K (.ref cO_Bounds) "closed" = some none)
    (oi_Bounds : PySem.W.findIn K (.ref cO_Bounds) "__init__" = some (some (.ref fI_Bounds)))
    (oif_Bounds : PySem.W.isFn K (.ref fI_Bounds) = true)
    (ol_Bounds : K.lookup fI_Bounds = some ⟨ooc_Bounds, ood_Bounds, .func (PySem.W.fnOf "__init__" "Bounds.__init__" (defArgs s_Bounds___init__) (defBody s_Bounds___init__) (defScope s_Bounds___init__) (.ref eT_Bounds) okV_Bounds odc_Bounds opm_Bounds oan_Bounds ocd_Bounds oct_Bounds), osl_Bounds⟩)
    (olT_Bounds : K.lookup eT_Bounds = some ⟨.type "tuple", edT_Bounds, .seq #[.ref e0_Bounds] enT_Bounds, eslT_Bounds⟩)
    (oc_Bounds : PySem.W.codeIn K ocd_Bounds "Bounds.__init__" = true)
    (ok_Bounds : PySem.W.keepIn K (.ref fI_Bounds) = true)
    (ica_Bounds : PySem.W.findIn K (.ref cO_Bounds) "__class__" = some (some (.builtin "object.__class__")))
    (ign_Bounds : PySem.W.specialIn K (.builtin "object.__class__") "__get__" = some (some (.builtin "getset_descriptor.__get__")))
    (itk_Bounds : PySem.W.takesIn K (.builtin "object.__class__") = some true)
    (iob_Bounds : PySem.W.mroIn K cO_Bounds (.type "object") = some true)
    (ncn_Bounds : PySem.W.findIn K (.ref cO_Bounds) "__ne__" = some (some (.builtin "object.__ne__")))
    (nco_Bounds : PySem.W.mroIn K cO_Bounds (.type "object") = some true)
    (nci_Bounds : PySem.W.isClsIn K cO_Bounds = true)
    (nct_Bounds : PySem.W.typeIn K (.ref cO_Bounds) = some (.type "type"))
    (ncNoneType_Bounds : PySem.W.mroIn K cO_Bounds (.type "NoneType") = some false)
    (ncint_Bounds : PySem.W.mroIn K cO_Bounds (.type "int") = some false)
    (ncstr_Bounds : PySem.W.mroIn K cO_Bounds (.type "str") = some false)
    (nctuple_Bounds : PySem.W.mroIn K cO_Bounds (.type "tuple") = some false)
    (marows_Bounds : PySem.W.findIn K (.ref cO_Bounds) "rows" = some (some (.ref fM_Bounds_rows)))
    (mirows_Bounds : PySem.W.isFn K (.ref fM_Bounds_rows) = true)
    (mlrows_Bounds : K.lookup fM_Bounds_rows = some ⟨moc_Bounds_rows, mod_Bounds_rows, .func (PySem.W.fnOf "rows" "Bounds.rows" (defArgs s_Bounds_rows) (defBody s_Bounds_rows) (defScope s_Bounds_rows) .none mkV_Bounds_rows mdc_Bounds_rows mpm_Bounds_rows man_Bounds_rows mcd_Bounds_rows mct_Bounds_rows), msl_Bounds_rows⟩)
    (mcrows_Bounds : PySem.W.codeIn K mcd_Bounds_rows "Bounds.rows" = true)
    (mkrows_Bounds : PySem.W.keepIn K (.ref fM_Bounds_rows) = true)
    (ma__eq___Bounds : PySem.W.findIn K (.ref cO_Bounds) "__eq__" = some (some (.ref fM_Bounds___eq__)))
    (mi__eq___Bounds : PySem.W.isFn K (.ref fM_Bounds___eq__) = true)
    (ml__eq___Bounds : K.lookup fM_Bounds___eq__ = some ⟨moc_Bounds___eq__, mod_Bounds___eq__, .func (PySem.W.fnOf "__eq__" "Bounds.__eq__" (defArgs s_Bounds___eq__) (defBody s_Bounds___eq__) (defScope s_Bounds___eq__) .none mkV_Bounds___eq__ mdc_Bounds___eq__ mpm_Bounds___eq__ man_Bounds___eq__ mcd_Bounds___eq__ mct_Bounds___eq__), msl_Bounds___eq__⟩)
    (mc__eq___Bounds : PySem.W.codeIn K mcd_Bounds___eq__ "Bounds.__eq__" = true)
    (mk__eq___Bounds : PySem.W.keepIn K (.ref fM_Bounds___eq__) = true)
    (ma__repr___Bounds : PySem.W.findIn K (.ref cO_Bounds) "__repr__" = some (some (.ref fM_Bounds___repr__)))
    (mi__repr___Bounds : PySem.W.isFn K (.ref fM_Bounds___repr__) = true)
    (ml__repr___Bounds : K.lookup fM_Bounds___repr__ = some ⟨moc_Bounds___repr__, mod_Bounds___repr__, .func (PySem.W.fnOf "__repr__" "Bounds.__repr__" (defArgs s_Bounds___repr__) (defBody s_Bounds___repr__) (defScope s_Bounds___repr__) .none mkV_Bounds___repr__ mdc_Bounds___repr__ mpm_Bounds___repr__ man_Bounds___repr__ mcd_Bounds___repr__ mct_Bounds___repr__), msl_Bounds___repr__⟩)
    (mc__repr___Bounds : PySem.W.codeIn K mcd_Bounds___repr__ "Bounds.__repr__" = true)
    (mk__repr___Bounds : PySem.W.keepIn K (.ref fM_Bounds___repr__) = true)
    : ∃ fd : FuncData, (∀ (s : Shared) (v : Value), BindsTo s fd ⟨[v], []⟩ [("_law_script", v)]) ∧ ∀ base : Heap, K.In base → base.Ns mainGlobals mg → FnOk l.prog w K mg base CX0 7 fa fd ["_law_script"] (spLaw K) := by
  have e := hfa.symm.trans (PySem.W.mg_of X G a16)
  cases e
  have D_open_bounds : DefAt K mg "open_bounds" s_open_bounds ["many"] := defAt_mk X G a0 l0 c0 k0 fun _ _ _ _ _ _ us hl => match us, hl with | [_], _ => rfl
  have D_tightened : DefAt K mg "tightened" s_tightened ["closed", "i", "j", "c"] := defAt_mk X G a1 l1 c1 k1 fun _ _ _ _ _ _ us hl => match us, hl with | [_, _, _, _], _ => rfl
  have D_known : DefAt K mg "known" s_known ["closed", "i", "j", "c"] := defAt_mk X G a2 l2 c2 k2 fun _ _ _ _ _ _ us hl => match us, hl with | [_, _, _, _], _ => rfl
  have D_row_through : DefAt K mg "row_through" s_row_through ["row", "way", "onward"] := defAt_mk X G a3 l3 c3 k3 fun _ _ _ _ _ _ us hl => match us, hl with | [_, _, _], _ => rfl
  have D_lesser : DefAt K mg "lesser" s_lesser ["old", "way", "more"] := defAt_mk X G a4 l4 c4 k4 fun _ _ _ _ _ _ us hl => match us, hl with | [_, _, _], _ => rfl
  have D_closed_by : DefAt K mg "closed_by" s_closed_by ["many", "rows"] := defAt_mk X G a5 l5 c5 k5 fun _ _ _ _ _ _ us hl => match us, hl with | [_, _], _ => rfl
  have D_l_cell : DefAt K mg "_law_cell" s_l_cell ["_law_script", "_law_k"] := defAt_mk X G a6 l6 c6 k6 fun _ _ _ _ _ _ us hl => match us, hl with | [_, _], _ => rfl
  have D_l_flow : DefAt K mg "_law_flow" s_l_flow ["_law_script", "_law_k"] := defAt_mk X G a7 l7 c7 k7 fun _ _ _ _ _ _ us hl => match us, hl with | [_, _], _ => rfl
  have D_l_draw : DefAt K mg "_law_draw" s_l_draw ["_law_flow_here", "_law_many"] := defAt_mk X G a8 l8 c8 k8 fun _ _ _ _ _ _ us hl => match us, hl with | [_, _], _ => rfl
  have D_l_rows : DefAt K mg "_law_rows" s_l_rows ["_law_flow_here", "_law_many", "_law_most", "_law_far"] := defAt_mk X G a9 l9 c9 k9 fun _ _ _ _ _ _ us hl => match us, hl with | [_, _, _, _], _ => rfl
  have D_l_down : DefAt K mg "_law_down" s_l_down ["_law_many", "_law_rows_here", "_law_begin"] := defAt_mk X G a10 l10 c10 k10 fun _ _ _ _ _ _ us hl => match us, hl with | [_, _, _], _ => rfl
  have D_l_is_empty : DefAt K mg "_law_is_empty" s_l_is_empty ["_law_many", "_law_rows_here"] := defAt_mk X G a11 l11 c11 k11 fun _ _ _ _ _ _ us hl => match us, hl with | [_, _], _ => rfl
  have D_l_follow : DefAt K mg "_law_follow" s_l_follow ["_law_many", "_law_rows_here", "_law_others"] := defAt_mk X G a12 l12 c12 k12 fun _ _ _ _ _ _ us hl => match us, hl with | [_, _, _], _ => rfl
  have D_l_due : DefAt K mg "_law_due" s_l_due ["_law_many", "_law_rows_here", "_law_others"] := defAt_mk X G a13 l13 c13 k13 fun _ _ _ _ _ _ us hl => match us, hl with | [_, _, _], _ => rfl
  have D_l_more : DefAt K mg "_law_more" s_l_more ["_law_flow_here", "_law_many", "_law_rows_here"] := defAt_mk X G a14 l14 c14 k14 fun _ _ _ _ _ _ us hl => match us, hl with | [_, _, _], _ => rfl
  have D_l_otherwise : DefAt K mg "_law_otherwise" s_l_otherwise ["_law_flow_here", "_law_many", "_law_rows_here"] := defAt_mk X G a15 l15 c15 k15 fun _ _ _ _ _ _ us hl => match us, hl with | [_, _, _], _ => rfl
  have D_law : DefAt K mg "law" s_law ["_law_script"] := defAt_mk X G a16 l16 c16 k16 fun _ _ _ _ _ _ us hl => match us, hl with | [_], _ => rfl
  have T_Bounds : ClsAt K mg "Bounds" cO_Bounds BF := ⟨PySem.W.mg_of X G oa_Bounds, ⟨opg_Bounds, ohd_Bounds, opo_Bounds, osa_Bounds⟩, fun n hn => by simp only [BF, List.mem_cons, List.not_mem_nil, or_false] at hn; rcases hn with h | h | h <;> subst h <;> assumption⟩
  have FI_Bounds : FunD K "__init__" "Bounds.__init__" (defArgs s_Bounds___init__) (defBody s_Bounds___init__) (defScope s_Bounds___init__) [V.ref e0_Bounds] [] fI_Bounds _ := ⟨⟨_, _, _, _, _, _, _, _, _, _, rfl, ol_Bounds, oc_Bounds, .inr ⟨(by simp), _, _, [.ref e0_Bounds], _, rfl, olT_Bounds, rfl, .cons rfl .nil⟩, .inl rfl⟩, ok_Bounds⟩
  have I1_Bounds : DefI K mg cO_Bounds "Bounds" "Bounds.__init__" s_Bounds___init__ ["self", "many", "rows"] [V.ref e0_Bounds] 1 := ⟨_, _, FI_Bounds, ⟨omk_Bounds, oi_Bounds, oif_Bounds, okc_Bounds⟩, PySem.W.mg_of X G oa_Bounds, FI_Bounds.binds1 (ps := ["self", "many", "rows"]) 3 1 (by simp) rfl fun T kV doc pm an cdv ct us its h1 h2 => match us, its, h1, h2 with | [_, _, _], [_], _, _ => ⟨_, rfl, rfl⟩⟩
  have IC_Bounds : C8.InsC K cO_Bounds := ⟨T_Bounds.c, ica_Bounds, ign_Bounds, itk_Bounds, iob_Bounds, (by unfold PySem.W.kitOne; rw [if_pos (by simp)])⟩
  have NC_Bounds : NeC K cO_Bounds := ⟨ncn_Bounds, nco_Bounds, nci_Bounds, nct_Bounds, ncNoneType_Bounds, ncint_Bounds, ncstr_Bounds, nctuple_Bounds⟩
  have DM_Bounds_rows : DefM K cO_Bounds "rows" "Bounds.rows" s_Bounds_rows ["self"] := ⟨_, _, fun_mk mlrows_Bounds mcrows_Bounds mkrows_Bounds, ⟨marows_Bounds, mirows_Bounds, mkrows_Bounds⟩, (fun_mk mlrows_Bounds mcrows_Bounds mkrows_Bounds).binds fun _ _ _ _ _ _ us hl => match us, hl with | [_], _ => rfl⟩
  have DM_Bounds___eq__ : DefM K cO_Bounds "__eq__" "Bounds.__eq__" s_Bounds___eq__ ["self", "other"] := ⟨_, _, fun_mk ml__eq___Bounds mc__eq___Bounds mk__eq___Bounds, ⟨ma__eq___Bounds, mi__eq___Bounds, mk__eq___Bounds⟩, (fun_mk ml__eq___Bounds mc__eq___Bounds mk__eq___Bounds).binds fun _ _ _ _ _ _ us hl => match us, hl with | [_, _], _ => rfl⟩
  have DM_Bounds___repr__ : DefM K cO_Bounds "__repr__" "Bounds.__repr__" s_Bounds___repr__ ["self"] := ⟨_, _, fun_mk ml__repr___Bounds mc__repr___Bounds mk__repr___Bounds, ⟨ma__repr___Bounds, mi__repr___Bounds, mk__repr___Bounds⟩, (fun_mk ml__repr___Bounds mc__repr___Bounds mk__repr___Bounds).binds fun _ _ _ _ _ _ us hl => match us, hl with | [_], _ => rfl⟩
  have B : Bt mg := ⟨PySem.W.mg_none_of X G z0, PySem.W.mg_none_of X G z1, PySem.W.mg_none_of X G z2, PySem.W.mg_none_of X G z3, PySem.W.mg_none_of X G z4, PySem.W.mg_none_of X G z5, PySem.W.mg_none_of X G z6, PySem.W.mg_none_of X G z7, PySem.W.mg_none_of X G z8, PySem.W.mg_none_of X G z9, PySem.W.mg_none_of X G z10, PySem.W.mg_none_of X G z11, PySem.W.mg_none_of X G z12, PySem.W.mg_none_of X G z13, PySem.W.mg_none_of X G z14, PySem.W.mg_none_of X G z15, PySem.W.mg_none_of X G z16, PySem.W.mg_none_of X G z17, PySem.W.mg_none_of X G z18, PySem.W.mg_none_of X G z19⟩
  refine ⟨PySem.W.fnOf "law" "law" (defArgs s_law) (defBody s_law) (defScope s_law) .none kV16 dc16 pm16 an16 cd16 ct16, fun s v => .of_eq rfl, fun base _ _ => ?_⟩
  have C_cell := ok_l_cell (P := l.prog) (w := w) (base := base) (K := K) B D_l_cell
  have C_flow := ok_l_flow B C_cell D_l_flow
  have C_draw := ok_l_draw (P := l.prog) (w := w) (base := base) (K := K) D_l_draw
  have C_rows := ok_l_rows (K := K) B C_draw D_l_rows
  have C_open := ok_open_bounds (P := l.prog) (w := w) (base := base) B D_open_bounds
  have C_known := ok_known (P := l.prog) (w := w) (base := base) B D_known
  have C_less := ok_lesser (P := l.prog) (w := w) (base := base) D_lesser
  have C_thr := ok_row_through B C_less D_row_through
  have C_tight := ok_tightened B C_known C_thr D_tightened
  have C_clo := ok_closed_by B C_open C_tight D_closed_by
  have C_I := ok_Bounds_init B T_Bounds C_clo I1_Bounds
  have M_rows := ok_Bounds_rows (P := l.prog) (w := w) (base := base) T_Bounds DM_Bounds_rows
  have M_repr := ok_Bounds_repr (P := l.prog) (w := w) (base := base) B T_Bounds DM_Bounds___repr__
  have M_eq := ok_Bounds_eq (P := l.prog) (w := w) (base := base) B T_Bounds IC_Bounds DM_Bounds___eq__
  have C_down := ok_l_down (P := l.prog) (w := w) (base := base) (K := K) B D_l_down
  have C_em := ok_l_is_empty B C_down D_l_is_empty
  have C_fo := ok_l_follow B C_down D_l_follow
  have C_due := ok_l_due B C_em C_fo D_l_due
  have C_more := ok_l_more B C_draw C_down D_l_more
  have C_oth := ok_l_otherwise (K := K) B C_draw D_l_otherwise
  exact ok_law rfl B T_Bounds NC_Bounds C_flow C_draw C_rows C_more C_oth C_due M_eq M_rows M_repr C_I (fun_mk l16 c16 k16)

end Lm
open PySem PySem.W PyProof.Rows
set_option maxRecDepth 100000 in
set_option maxHeartbeats 0 in
theorem PySem.Challenge.cw_leastmaker_k24_bounds_alike_holds : PySem.Challenge.rw_leastmaker_k24_bounds_alike.Holds := by
  w_on; o_law; k_head; (case hw => w_witness2)
  k_fill
  refine L2.walk_of (l := PySem.Challenge.rw_leastmaker_k24_bounds_alike) (n := 63) (k := 7) (x := "_law_script") (CX := fun _ => L2.CX0) (sp := fun w => Lm.spLaw _) rfl (by decide) rfl ⟨rfl, by decide, by decide⟩ (fun w h Y => PySem.W.kIn_of Y) ?F (fun _ _ a ns hl _ hS => ⟨a, ns, rfl, hS, hl, fun _ => rfl⟩) (fun _ _ _ _ _ h => h)
  case F =>
    intro w mg fa h KX G hmg
    refine' Lm.all_mk KX G hmg ?a0 ?l0 ?c0 ?k0 ?a1 ?l1 ?c1 ?k1 ?a2 ?l2 ?c2 ?k2 ?a3 ?l3 ?c3 ?k3 ?a4 ?l4 ?c4 ?k4 ?a5 ?l5 ?c5 ?k5 ?a6 ?l6 ?c6 ?k6 ?a7 ?l7 ?c7 ?k7 ?a8 ?l8 ?c8 ?k8 ?a9 ?l9 ?c9 ?k9 ?a10 ?l10 ?c10 ?k10 ?a11 ?l11 ?c11 ?k11 ?a12 ?l12 ?c12 ?k12 ?a13 ?l13 ?c13 ?k13 ?a14 ?l14 ?c14 ?k14 ?a15 ?l15 ?c15 ?k15 ?a16 ?l16 ?c16 ?k16 ?z0 ?z1 ?z2 ?z3 ?z4 ?z5 ?z6 ?z7 ?z8 ?z9 ?z10 ?z11 ?z12 ?z13 ?z14 ?z15 ?z16 ?z17 ?z18 ?z19 ?oa_Bounds ?opg_Bounds ?ohd_Bounds ?opo_Bounds ?osa_Bounds ?omk_Bounds ?okc_Bounds ?onmany_Bounds ?ongiven_Bounds ?onclosed_Bounds ?oi_Bounds ?oif_Bounds ?ol_Bounds ?olT_Bounds ?oc_Bounds ?ok_Bounds ?ica_Bounds ?ign_Bounds ?itk_Bounds ?iob_Bounds ?ncn_Bounds ?nco_Bounds ?nci_Bounds ?nct_Bounds ?ncNoneType_Bounds ?ncint_Bounds ?ncstr_Bounds ?nctuple_Bounds ?marows_Bounds ?mirows_Bounds ?mlrows_Bounds ?mcrows_Bounds ?mkrows_Bounds ?ma__eq___Bounds ?mi__eq___Bounds ?ml__eq___Bounds ?mc__eq___Bounds ?mk__eq___Bounds ?ma__repr___Bounds ?mi__repr___Bounds ?ml__repr___Bounds ?mc__repr___Bounds ?mk__repr___Bounds
    (case a0 => k_is)
    (case l0 => k_is)
    (case c0 => k_is)
    (case k0 => k_is)
    (case a1 => k_is)
    (case l1 => k_is)
    (case c1 => k_is)
    (case k1 => k_is)
    (case a2 => k_is)
    (case l2 => k_is)
    (case c2 => k_is)
    (case k2 => k_is)
    (case a3 => k_is)
    (case l3 => k_is)
    (case c3 => k_is)
    (case k3 => k_is)
    (case a4 => k_is)
    (case l4 => k_is)
    (case c4 => k_is)
    (case k4 => k_is)
    (case a5 => k_is)
    (case l5 => k_is)
    (case c5 => k_is)
    (case k5 => k_is)
    (case a6 => k_is)
    (case l6 => k_is)
    (case c6 => k_is)
    (case k6 => k_is)
    (case a7 => k_is)
    (case l7 => k_is)
    (case c7 => k_is)
    (case k7 => k_is)
    (case a8 => k_is)
    (case l8 => k_is)
    (case c8 => k_is)
    (case k8 => k_is)
    (case a9 => k_is)
    (case l9 => k_is)
    (case c9 => k_is)
    (case k9 => k_is)
    (case a10 => k_is)
    (case l10 => k_is)
    (case c10 => k_is)
    (case k10 => k_is)
    (case a11 => k_is)
    (case l11 => k_is)
    (case c11 => k_is)
    (case k11 => k_is)
    (case a12 => k_is)
    (case l12 => k_is)
    (case c12 => k_is)
    (case k12 => k_is)
    (case a13 => k_is)
    (case l13 => k_is)
    (case c13 => k_is)
    (case k13 => k_is)
    (case a14 => k_is)
    (case l14 => k_is)
    (case c14 => k_is)
    (case k14 => k_is)
    (case a15 => k_is)
    (case l15 => k_is)
    (case c15 => k_is)
    (case k15 => k_is)
    (case a16 => k_is)
    (case l16 => k_is)
    (case c16 => k_is)
    (case k16 => k_is)
    (case z0 => k_is)
    (case z1 => k_is)
    (case z2 => k_is)
    (case z3 => k_is)
    (case z4 => k_is)
    (case z5 => k_is)
    (case z6 => k_is)
    (case z7 => k_is)
    (case z8 => k_is)
    (case z9 => k_is)
    (case z10 => k_is)
    (case z11 => k_is)
    (case z12 => k_is)
    (case z13 => k_is)
    (case z14 => k_is)
    (case z15 => k_is)
    (case z16 => k_is)
    (case z17 => k_is)
    (case z18 => k_is)
    (case z19 => k_is)
    (case oa_Bounds => k_is)
    (case opg_Bounds => k_is)
    (case ohd_Bounds => k_is)
    (case opo_Bounds => k_is)
    (case osa_Bounds => k_is)
    (case omk_Bounds => k_is)
    (case okc_Bounds => k_is)
    (case onmany_Bounds => k_is)
    (case ongiven_Bounds => k_is)
    (case onclosed_Bounds => k_is)
    (case oi_Bounds => k_is)
    (case oif_Bounds => k_is)
    (case ol_Bounds => k_is)
    (case olT_Bounds => k_is)
    (case oc_Bounds => k_is)
    (case ok_Bounds => k_is)
    (case ica_Bounds => k_is)
    (case ign_Bounds => k_is)
    (case itk_Bounds => k_is)
    (case iob_Bounds => k_is)
    (case ncn_Bounds => k_is)
    (case nco_Bounds => k_is)
    (case nci_Bounds => k_is)
    (case nct_Bounds => k_is)
    (case ncNoneType_Bounds => k_is)
    (case ncint_Bounds => k_is)
    (case ncstr_Bounds => k_is)
    (case nctuple_Bounds => k_is)
    (case marows_Bounds => k_is)
    (case mirows_Bounds => k_is)
    (case mlrows_Bounds => k_is)
    (case mcrows_Bounds => k_is)
    (case mkrows_Bounds => k_is)
    (case ma__eq___Bounds => k_is)
    (case mi__eq___Bounds => k_is)
    (case ml__eq___Bounds => k_is)
    (case mc__eq___Bounds => k_is)
    (case mk__eq___Bounds => k_is)
    (case ma__repr___Bounds => k_is)
    (case mi__repr___Bounds => k_is)
    (case ml__repr___Bounds => k_is)
    (case mc__repr___Bounds => k_is)
    (case mk__repr___Bounds => k_is)

