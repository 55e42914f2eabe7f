import PyProof.Rows.All
import Wide.All
import OpenK.AllK
import Wide.FinOn
import HandS.ForMost
import HandS.IsInst
import HandS.TupAny
import HandS.Flow
import HandS.Style
import HandS.RevRange
import HandS.Conv
import HandS.More
import HandS.Zip
import KE.KDictZip
import KE.KDictList
import KE.KRevSl
import HandS.ForExc
import HandS.ExcInit
import HandS.ExcField
import HandS.HotCalls
import HandS.SetFor
import KE.KExcIs
import KE.GoesEnum
import KE.GoesMore
import HandS.Star
import HandS.ExcOwn
import HandS.WordsExc
import HandS.Walk
import HandS.Codes
import HandS.Defaults
import HandS.Deep
import KE.DatumOrd
import KE.KExcInit
import HandS.ExcValue
import HandS.MakeKw
import KE.DataEq
import HandS.Wide
import HandS.Strs
import HandS.TryOnly
import PySem.Challenge.RW_leastmaker_k01_refusals
set_option Elab.async false
set_option linter.all false
set_option maxRecDepth 100000
set_option maxHeartbeats 2000000
namespace LmR
open PySem PySem.Spec PyProof.Rows L2
/-! ### t[::-1] of a tuple -/
section
variable {prog : Program} {w : World} {A : Around} {E : Value → Shared → Prop} {s : Shared}
theorem pick_rev (xs : Array Value) : ((List.range xs.size).filterMap fun (m : Nat) => xs[(((xs.size : Int) - 1) + (m : Int) * (-1)).toNat]?).toArray = xs.toList.reverse.toArray := by
  congr 1
  have e : ∀ n, n ≤ xs.size → ((List.range n).filterMap fun (m : Nat) => xs[(((xs.size : Int) - 1) + (m : Int) * (-1)).toNat]?) = (xs.toList.reverse).take n := by
    intro n
    induction n with
    | zero => intro _; rfl
    | succ n ih =>
      intro h
      rw [List.range_succ, List.filterMap_append, ih (by omega), List.take_add_one]
      congr 1
      have e1 : (((xs.size : Int) - 1) + (n : Int) * (-1)).toNat = xs.size - 1 - n := by omega
      have e2 : xs.toList.reverse[n]? = xs[xs.size - 1 - n]? := by
        rw [List.getElem?_reverse (by rw [Array.length_toList]; omega), Array.length_toList, Array.getElem?_toList]
      rw [e2]
      have hlt : xs.size - 1 - n < xs.size := by omega
      simp only [List.filterMap_cons, List.filterMap_nil]
      rw [e1, Array.getElem?_eq_getElem hlt]
      rfl
  rw [e xs.size (Nat.le_refl _)]
  exact List.take_of_length_le (by rw [List.length_reverse, Array.length_toList]; exact Nat.le_refl _)
theorem rev_applied {sl : Addr} {vl vu vs : Value} {n : Nat} {Q : Int × Int × Nat → Shared → Prop} (hs : s.heap.IsSliceOf sl vl vu vs) (pl : IsPart vl none) (pu : IsPart vu none) (ps : IsPart vs (some (-1)))
    (h : Q ((n : Int) - 1, -1, n) s) : wpAny (model prog w) A (Builtin.Slice.sliceApplied (.ref sl) (pure (n : Int))) Q E s := by
  obtain ⟨os, hos, hcs, hds⟩ := id hs
  unfold Builtin.Slice.sliceApplied Builtin.Slice.sliceFields
  refine wpAny_bind (wpAny_bind (wpAny_field hos hds (x := vl) rfl (wpAny_bind (wpAny_field hos hds (x := vu) rfl (wpAny_bind (wpAny_field hos hds (x := vs) rfl (wpAny_pure ?_)))))))
  refine wpAny_bind (HT.slicePart_ ps ?_)
  show wpAny _ _ (if ((-1 : Int) == 0) = true then _ else _) _ _ s
  rw [if_neg (by decide)]
  refine wpAny_bind (HT.slicePart_ pl (wpAny_bind (HT.slicePart_ pu (wpAny_bind (wpAny_pure ?_)))))
  have e : Builtin.Slice.sliceAdjust none none (-1) (n : Int) = ((n : Int) - 1, -1) := by
    simp [Builtin.Slice.sliceAdjust]
  have e2 : Builtin.Slice.slicePlaces ((n : Int) - 1) (-1) (-1) = n := by
    unfold Builtin.Slice.slicePlaces
    simp
    omega
  show wpAny _ _ (match Builtin.Slice.sliceAdjust none none (-1) (n : Int) with | (lo, hi) => pure (lo, (-1 : Int), Builtin.Slice.slicePlaces lo hi (-1))) _ _ s
  rw [e]
  show wpAny _ _ (pure ((n : Int) - 1, (-1 : Int), Builtin.Slice.slicePlaces ((n : Int) - 1) (-1) (-1))) _ _ s
  rw [e2]
  exact wpAny_pure h
theorem getItem_tuple_rev {t sl : Addr} {items : Array Value} {vl vu vs : Value} {Q : Value → Shared → Prop} (ht : IsTup s.heap t items) (hs : s.heap.IsSliceOf sl vl vu vs) (pl : IsPart vl none) (pu : IsPart vu none) (ps : IsPart vs (some (-1)))
    (h : Q (.ref s.heap.objs.size) { s with heap := s.heap.push { cls := .type "tuple", data := .seq items.toList.reverse.toArray } })
    (hsz : items.size ≤ sizeLine) : wpAny (model prog w) A (getItem (.ref t) (.ref sl)) Q E s := by
  have htake : sizeOk (.seq items.toList.reverse.toArray) := by
    show (items.toList.reverse).toArray.size ≤ sizeLine
    rw [List.size_toArray, List.length_reverse, Array.length_toList]
    omega
  obtain ⟨os, hos, hcs, hds⟩ := id hs
  have hTs : s.TypeIs (.ref sl) "slice" := ⟨os, hos, hcs⟩
  unfold getItem
  try with_reducible refine wpAny_holding ?_
  first | refine wpAny_bind (wpAny_pure ?_) | skip
  refine wpAny_bind (wpAny_sequenceKey ht.typeIs (by decide) ?_)
  refine wpAny_bind (wpAny_callSpecial?_slot (name := Str.ofString "__getitem__") ht.typeIs PyProof.Rows.slot_tuple_getitem
    (wpAny_call_entry PyProof.Rows.slot_tuple_getitem ht.typeIs PyProof.Rows.entry_tuple_getitem ?_ (PyProof.Rows.args_tuple_getitem _ _)))
  show wpAny _ _ (Builtin.Tuple.tupleItemsOf (.ref t) >>= _) _ _ s
  refine wpAny_bind (PyProof.Rows.tupleItemsOf_ ht ?_)
  refine wpAny_bind (wpAny_typeOf hTs ?_)
  rw [if_pos (by decide)]
  refine wpAny_bind (rev_applied hs pl pu ps ?_)
  have hno : ¬ (((items.size : Int) - 1 == 0 && (-1 : Int) == 1 && items.size == items.size) = true) := by
    intro q
    rw [Bool.and_eq_true, Bool.and_eq_true] at q
    exact absurd q.1.2 (by decide)
  show wpAny _ _ (if ((items.size : Int) - 1 == 0 && (-1 : Int) == 1 && items.size == items.size) = true then _ else _) _ _ s
  rw [if_neg hno, pick_rev]
  first
    | exact wpAny_bind (m := Builtin.Tuple.tupleExact _) (wpAny_newObj_type (wpAny_pure ⟨_, rfl, wpAny_pure h⟩) htake)
    | exact wpAny_bind (m := Builtin.Tuple.tupleExact _) (wpAny_newObj_type (wpAny_bind (wpAny_pure (wpAny_pure ⟨_, rfl, wpAny_pure h⟩))) htake)
    | exact wpAny_bind (wpAny_bind (m := Builtin.Tuple.tupleExact _) (wpAny_newObj_type (wpAny_pure (wpAny_pure ⟨_, rfl, wpAny_pure h⟩)) htake))
    | exact wpAny_bind (wpAny_bind (m := Builtin.Tuple.tupleExact _) (wpAny_newObj_type (wpAny_pure ⟨_, rfl, wpAny_pure h⟩) htake))
end
def tRevT (K : PySem.W.Frag) (te : TE) : TE := fun σ H Q => te σ H fun x H1 => ∃ a xs, x = .ref a ∧ SqT K H1 a xs ∧ ∀ p, H1 p = none → Q (.ref p) (upd H1 p (.tup xs.reverse))
section
variable {X : Cx}
theorem pe_revT {e : Expr} {te : TE} {k : Nat} {p1 p2 p3 pos : Pos} (he : PE X e te) : PE X (.Subscript e (.Slice none none (some (.UnaryOp .USub (.Constant (.int 1) k p1) p2)) p3) pos) (tRevT X.K te) := by
  refine ⟨fun pins s σ H Q I h => ?_⟩
  refine Subscript_ (thn (he.run pins s σ H _ I h) fun v s1 ⟨x, H1, I1, r1, q1⟩ => ?_)
  obtain ⟨a, xs, ex, hx, q⟩ := q1
  subst ex
  cases r1
  have hst : PO X (some (.UnaryOp .USub (.Constant (.int 1) k p1) p2)) (tPart (tUn (rU fun i => .int (-i)) (tC (.int 1)))) := po_some (pe_un un_neg pe_int)
  refine wpAny_Slice (thn (po_none.run pins s1 σ H1 (fun o H2 => o = none ∧ H2 = H1) I1 ⟨rfl, rfl⟩) fun vl s2 ⟨l, H2, I2, pl, el, e2⟩ => ?_)
  subst el e2
  refine thn (po_none.run pins s2 σ H2 (fun o H3 => o = none ∧ H3 = H2) I2 ⟨rfl, rfl⟩) fun vu s3 ⟨u, H3, I3, pu, eu, e3⟩ => ?_
  subst eu e3
  refine thn (hst.run pins s3 σ H3 (fun o H4 => o = some (-1) ∧ H4 = H3) I3 ⟨1, rfl, -1, rfl, rfl, rfl⟩) fun vs s4 ⟨o, H4, I4, ps, eo, e4⟩ => ?_
  subst eo e4
  have I5 : Inv X pins σ H4 { s4 with heap := s4.heap.push { cls := .type "slice", data := .fields #[vl, vu, vs] } } := I4.kept (t' := s4.toks) fun b ob q => Heap.get?_push_of_some _ q
  obtain ⟨its, r, ht, hz⟩ := I5.tuple hx
  have hlen := r.length
  show wpAny (model X.prog X.w) X.A (subscriptTail e (.Slice none none (some (.UnaryOp .USub (.Constant (.int 1) k p1) p2)) p3) (.ref a) (.ref s4.heap.objs.size)) (EP X pins σ Q) X.xe { s4 with heap := s4.heap.push { cls := .type "slice", data := .fields #[vl, vu, vs] } }
  refine tail_any (ops := [.ref a, .ref s4.heap.objs.size]) ht.typeIs (PyProof.Rows.slot_tuple_getitem.lookup) ?_ (by with_unfolding_all rfl)
  refine getItem_tuple_rev ht (Heap.IsSliceOf.new _ vl vu vs) pl pu ps ?_ (by rw [List.size_toArray]; omega)
  refine ⟨.ref _, _, I5.laid (t' := s4.toks) (o := .tup xs.reverse) (fun b ob q => Heap.get?_push_of_some _ q) (Nat.le_refl _) ?_, rfl, q _ (I5.hok.fresh (Nat.le_refl _))⟩
  exact ⟨by rw [List.length_reverse]; exact hz, its.reverse, r.reverse, ⟨_, Heap.get?_push_size _ rfl, rfl, _, rfl⟩⟩
end
/-! ### l.extend(t), t a tuple -/
theorem extend_tuple (l : Addr) (items : Array Value) (n : Nat) (b : Addr) (items2 : Array Value) (n2 : Nat) (dd : Option Addr) (sl : Array (Option Value)) (hs0 : ¬(!items.isEmpty && Builtin.List.listTooLong (items.size + items2.size)) = true) (hs1 : items.size ≤ sizeLine) (hs2 : items.size + items2.size ≤ sizeLine + 1 := by seq_fits) :
    Meets (Builtin.«list.extend» ⟨[.ref l, .ref b], []⟩) (fun _ R s => s.heap.get? l = some { cls := .type "list", dict := none, data := .seq items n, slots := #[] } ∧ s.heap.get? b = some { cls := .type "tuple", dict := dd, data := .seq items2 n2, slots := sl } ∧ R (.ok (.ret Value.none)) { s with heap := s.heap.update l (Obj.mapSeq fun x => x ++ items2), toks := s.toks }) :=
  .of_wp fun prog w A R s h => by
    obtain ⟨hp, g, d, tk, os⟩ := s; obtain ⟨hl, hb, h⟩ := h; have f1 := AutoSeq1.idx_int; have f2 := AutoSeq1.sub_tuple_tuple; have f3 := AutoSeq1.sub_list_list; have f4 := AutoSeq1.sub_tuple_list; have f5 := AutoSeq1.sub_list_tuple;
    have hz' : (items ++ items2).size ≤ sizeLine + 1 := by rw [Array.size_append]; exact hs2
    wp_walk using (wpAny_updateSeq hl rfl (hz := hs1) (_hz' := hz')), wpAny_loadPart' hl, wpAny_loadPart' hb; exact ⟨_, rfl, h⟩
def rExtT (K : PySem.W.Frag) : V → List V → Hp → VK → Prop := fun x vs H Q => ∃ l b xs zs, x = .ref l ∧ vs = [.ref b] ∧ H l = some (.lst xs) ∧ SqT K H b zs ∧ xs.length + zs.length ≤ sizeLine ∧ Q .non (upd H l (.lst (xs ++ zs)))
theorem mt_extendT {X : Cx} : MtM X "list.extend" (rExtT X.K) := by
  intro pins s σ H x vs v us Q I rx rv h
  obtain ⟨l, b, xs, zs, rfl, rfl, hH, hB, hz, q⟩ := h
  cases rx
  obtain ⟨u, rfl, ru⟩ := rv.one
  cases ru
  obtain ⟨z, its, n, r, hl, e⟩ := I.lstM hH
  obtain ⟨its2, r2, ⟨⟨cls, dd, dt, sl⟩, ho, hc, n2, hd⟩, _⟩ := I.tuple hB
  simp only at hc hd
  subst hc hd
  have hl2 := r2.length
  have hsz : its.toArray.size + its2.toArray.size ≤ sizeLine := by rw [List.size_toArray, List.size_toArray]; omega
  have hlong : ¬ (!its.toArray.isEmpty && Builtin.List.listTooLong (its.toArray.size + its2.toArray.size)) = true := by
    rw [notLongL hsz, Bool.and_false]
    exact Bool.false_ne_true
  refine call_meets F.slot_list_extend ⟨_, e, rfl⟩ F.entry_list_extend (F.args_list_extend_2 _ _)
    (extend_tuple l its.toArray n b its2.toArray n2 dd sl hlong (by rw [List.size_toArray]; omega) (by omega)) ⟨e, ho, ?_⟩
  refine ⟨.non, _, I.lset (its' := its ++ its2) hH e (by simp) (r.append r2) ?_, rfl, q⟩
  rw [List.length_append]
  omega
end LmR

set_option Elab.async false
set_option linter.all false
set_option maxRecDepth 100000
set_option maxHeartbeats 2000000
namespace LmR
open PySem PySem.Spec PyProof.Rows L2 RZ
theorem zip_no_len : typeLookup (.type "zip") "__len__" = pure none := by rw [typeLookup_type, builtinLookup_eq_fast]; kernel_rfl
theorem zip_no_hint : typeLookup (.type "zip") "__length_hint__" = pure none := by rw [typeLookup_type, builtinLookup_eq_fast]; kernel_rfl
section
variable {prog : Program} {w : World} {A : Around} {E : Value → Shared → Prop} {s : Shared}
theorem zipT_item_held {z TI TO T i1 i2 l1 l2 : Addr} {f : Bool} {oT : Obj} {k1 k2 : Nat} {xs ys : Array Value} {x y : Value} {Q : Value → Shared → Prop} (D : ZipApart z TI TO i1 i2 l1 l2)
    (hz : IsZipHeld s.heap z TI TO T f) (hT : s.heap.get? T = some oT) (hTI : IsPair s.heap TI (.ref i1) (.ref i2))
    (h1 : s.heap.IsTupleIter i1 l1 k1) (h2 : s.heap.IsTupleIter i2 l2 k2) (hl1 : s.heap.IsTuple l1 xs) (hl2 : s.heap.IsTuple l2 ys) (hx : xs[k1]? = some x) (hy : ys[k2]? = some y)
    (hQ : ∀ h', IsZipHeld h' z TI TO T true → h'.IsTupleIter i1 l1 (k1 + 1) → h'.IsTupleIter i2 l2 (k2 + 1) → IsPair h' s.heap.objs.size x y → h'.objs.size = s.heap.objs.size + 1 →
      (∀ c o, c ≠ z → c ≠ i1 → c ≠ i2 → s.heap.get? c = some o → h'.get? c = some o) → Q (.ref s.heap.objs.size) { s with heap := h' }) :
    wpAny (model prog w) A (Builtin.«zip.__next__» ⟨[.ref z], []⟩) (fun fin s' => ∃ v, fin = .done (.ret v) ∧ Q v s') E s := by
  show wpAny _ _ (field (.ref z) 2 >>= _) _ _ _
  refine wpAny_bind (wpAny_field hz rfl (x := .bool false) rfl ?_)
  show wpAny _ _ (field (.ref z) 3 >>= _) _ _ _
  refine wpAny_bind (wpAny_field hz rfl (x := .ref TI) rfl ?_)
  refine wpAny_bind (wpAny_seqItems hTI rfl ?_)
  show wpAny _ _ (Builtin.SmallTypes.ownedTupleIsFree (.ref z) >>= _) _ _ _
  refine wpAny_bind (wpAny_tupleHeld_zip hz hT fun h₁ hz₁ hs₁ => ?_)
  simp only [Bool.false_eq_true, if_false]
  refine wpAny_bind ?_
  rw [← Array.forIn_toList]
  simp only [List.forIn_cons, List.forIn_nil]
  refine wpAny_bind (wpAny_bind (wpAny_holding ?_))
  show wpAny _ _ (Builtin.SmallTypes.nextOf (.ref i1) >>= _) _ _ _
  refine wpAny_bind (nextOf_tuple_item (s := { s with heap := h₁ }) (h1.extBut hs₁.extBut D.i1z) (hl1.extBut hs₁.extBut D.l1z) hx fun h₂ h1₂ hs₂ => wpAny_pure ?_)
  refine wpAny_pure ?_
  refine wpAny_bind (wpAny_bind (wpAny_holding ?_))
  show wpAny _ _ (Builtin.SmallTypes.nextOf (.ref i2) >>= _) _ _ _
  refine wpAny_bind (nextOf_tuple_item (s := { s with heap := h₂ }) ((h2.extBut hs₁.extBut D.i2z).extBut hs₂.extBut D.i12.symm) ((hl2.extBut hs₁.extBut D.l2z).extBut hs₂.extBut D.l2i1) hy fun h₃ h2₃ hs₃ => wpAny_pure ?_)
  refine wpAny_pure (wpAny_pure ?_)
  show wpAny _ _ (newTuple [x, y] >>= _) _ _ _
  refine wpAny_bind (wpAny_newTuple ?_)
  have hsz : h₃.objs.size = s.heap.objs.size := by rw [hs₃.1, hs₂.1, hs₁.1]
  have hz₃ : IsZipHeld h₃ z TI TO T true := hs₃.extBut _ _ D.i2z.symm (hs₂.extBut _ _ D.i1z.symm hz₁)
  have hk : ∀ c o, c ≠ z → c ≠ i1 → c ≠ i2 → s.heap.get? c = some o → h₃.get? c = some o := fun c o c1 c2 c3 e => hs₃.extBut _ _ c3 (hs₂.extBut _ _ c2 (hs₁.extBut _ _ c1 e))
  have h1₃ : h₃.IsTupleIter i1 l1 (k1 + 1) := h1₂.extBut hs₃.extBut D.i12
  refine wpAny_pure ⟨_, rfl, ?_⟩
  show Q (.ref h₃.objs.size) _
  have hp : IsPair (h₃.push { cls := .type "tuple", data := .seq #[x, y] }) h₃.objs.size x y := Heap.get?_push_size _ rfl
  have hz4 : (h₃.push { cls := .type "tuple", data := .seq #[x, y] }).objs.size = h₃.objs.size + 1 := Heap.size_push ..
  rw [hsz] at hp hz4 ⊢
  exact hQ _ (Heap.get?_push_of_some _ hz₃) (h1₃.at fun o e => Heap.get?_push_of_some _ e) (h2₃.at fun o e => Heap.get?_push_of_some _ e) hp hz4 fun c o c1 c2 c3 e => Heap.get?_push_of_some _ (hk c o c1 c2 c3 e)
theorem zipT_end_held {z TI TO T i1 i2 l1 l2 : Addr} {f : Bool} {oT : Obj} {k1 k2 : Nat} {xs ys : Array Value} {Q : Fin → Shared → Prop} (hh : A.handled = none) (D : ZipApart z TI TO i1 i2 l1 l2)
    (hz : IsZipHeld s.heap z TI TO T f) (hT : s.heap.get? T = some oT) (hTI : IsPair s.heap TI (.ref i1) (.ref i2))
    (h1 : s.heap.IsTupleIter i1 l1 k1) (h2 : s.heap.IsTupleIter i2 l2 k2) (hl1 : s.heap.IsTuple l1 xs) (hl2 : s.heap.IsTuple l2 ys) (hx : xs[k1]? = none)
    (hE : ∀ h' e, (∀ c o, c ≠ z → c ≠ i1 → c ≠ i2 → s.heap.get? c = some o → h'.get? c = some o) → (∃ o, h'.get? e = some o ∧ o.cls = .type "StopIteration") → E (.ref e) { s with heap := h' }) :
    wpAny (model prog w) A (Builtin.«zip.__next__» ⟨[.ref z], []⟩) Q E s := by
  show wpAny _ _ (field (.ref z) 2 >>= _) _ _ _
  refine wpAny_bind (wpAny_field hz rfl (x := .bool false) rfl ?_)
  show wpAny _ _ (field (.ref z) 3 >>= _) _ _ _
  refine wpAny_bind (wpAny_field hz rfl (x := .ref TI) rfl ?_)
  refine wpAny_bind (wpAny_seqItems hTI rfl ?_)
  show wpAny _ _ (Builtin.SmallTypes.ownedTupleIsFree (.ref z) >>= _) _ _ _
  refine wpAny_bind (wpAny_tupleHeld_zip hz hT fun h₁ hz₁ hs₁ => ?_)
  simp only [Bool.false_eq_true, if_false]
  refine wpAny_bind ?_
  rw [← Array.forIn_toList]
  simp only [List.forIn_cons, List.forIn_nil]
  refine wpAny_bind (wpAny_bind (wpAny_holding ?_))
  show wpAny _ _ (Builtin.SmallTypes.nextOf (.ref i1) >>= _) _ _ _
  refine wpAny_bind (nextOf_tuple_end (s := { s with heap := h₁ }) hh (h1.extBut hs₁.extBut D.i1z) (hl1.extBut hs₁.extBut D.l1z) hx fun h₂ e hs₂ he => ?_)
  exact hE h₂ e (fun c o c1 c2 _ x => hs₂ _ _ c2 (hs₁.extBut _ _ c1 x)) he
/-- a zip of two tuples between two turns of list(..) -/
structure ZSt (h : Heap) (z TI TO i1 i2 l1 l2 S lo : Addr) (xs ys : Array Value) (i : Nat) : Prop where
  zip : (i = 0 ∧ IsZip h z TI TO .none ∧ ∃ a b, IsPair h TO a b) ∨ ∃ T f oT, IsZipHeld h z TI TO T f ∧ h.get? T = some oT ∧ lo ≤ T
  ti : IsPair h TI (.ref i1) (.ref i2)
  h1 : h.IsTupleIter i1 l1 i
  h2 : h.IsTupleIter i2 l2 i
  l1' : h.IsTuple l1 xs
  l2' : h.IsTuple l2 ys
/-- the addresses that are there ahead of the pairs -/
structure ZLo (z TI TO i1 i2 l1 l2 S lo : Addr) : Prop where
  z' : z < lo
  TI' : TI < lo
  TO' : TO < lo
  i1' : i1 < lo
  i2' : i2 < lo
  l1' : l1 < lo
  l2' : l2 < lo
  S' : S < lo
  Sz : S ≠ z
  STI : S ≠ TI
  STO : S ≠ TO
  Si1 : S ≠ i1
  Si2 : S ≠ i2
  Sl1 : S ≠ l1
  Sl2 : S ≠ l2
variable {z TI TO i1 i2 l1 l2 S lo : Addr} {xs ys : Array Value}
theorem ZSt.upd {h h' : Heap} {i : Nat} (L : ZLo z TI TO i1 i2 l1 l2 S lo) (st : ZSt h z TI TO i1 i2 l1 l2 S lo xs ys i) (k : ∀ b o, b ≠ S → h.get? b = some o → h'.get? b = some o) : ZSt h' z TI TO i1 i2 l1 l2 S lo xs ys i where
  zip := by
    rcases st.zip with ⟨e, hz, a, b, ht⟩ | ⟨T, f, oT, hz, hT, hl⟩
    · exact .inl ⟨e, k _ _ L.Sz.symm hz, a, b, k _ _ L.STO.symm ht⟩
    · exact .inr ⟨T, f, oT, k _ _ L.Sz.symm hz, k _ _ (fun e => by have := L.S'; rw [e] at hl; exact absurd hl (Nat.not_le.mpr this)) hT, hl⟩
  ti := k _ _ L.STI.symm st.ti
  h1 := st.h1.at fun o e => k _ _ L.Si1.symm e
  h2 := st.h2.at fun o e => k _ _ L.Si2.symm e
  l1' := by
    obtain ⟨o, ho, r⟩ := st.l1'
    exact ⟨o, k _ _ L.Sl1.symm ho, r⟩
  l2' := by
    obtain ⟨o, ho, r⟩ := st.l2'
    exact ⟨o, k _ _ L.Sl2.symm ho, r⟩
theorem tup_keep {h h' : Heap} {l : Addr} {its : Array Value} (t : h.IsTuple l its) (k : ∀ o, h.get? l = some o → h'.get? l = some o) : h'.IsTuple l its := by
  obtain ⟨o, ho, r⟩ := t
  exact ⟨o, k o ho, r⟩
theorem zst_item {i : Nat} {x y : Value} {Q : Option Value → Shared → Prop} (D : ZipApart z TI TO i1 i2 l1 l2) (L : ZLo z TI TO i1 i2 l1 l2 S lo) (hlo : lo ≤ s.heap.objs.size) (st : ZSt s.heap z TI TO i1 i2 l1 l2 S lo xs ys i) (hx : xs[i]? = some x) (hy : ys[i]? = some y)
    (hQ : ∀ h', ZSt h' z TI TO i1 i2 l1 l2 S lo xs ys (i + 1) → IsPair h' s.heap.objs.size x y → h'.objs.size = s.heap.objs.size + 1 →
      (∀ c o, c ≠ z → c ≠ TO → c ≠ i1 → c ≠ i2 → s.heap.get? c = some o → h'.get? c = some o) → Q (some (.ref s.heap.objs.size)) { s with heap := h' }) :
    wpAny (model prog w) A (pyNext (.ref z)) Q E s := by
  rcases st.zip with ⟨e, hz, a, b, ht⟩ | ⟨T, f, oT, hz, hT, hl⟩
  · refine pyNext_zipT_item D hz st.ti ht st.h1 st.h2 st.l1' st.l2' hx hy fun h' z' to' a1 a2 pr sz k => hQ h' ⟨.inr ⟨s.heap.objs.size, false, _, z', pr, hlo⟩, ?_, a1, a2, ?_, ?_⟩ pr sz k
    · exact k _ _ D.TIz D.TITO D.TIi1 D.TIi2 st.ti
    · exact tup_keep st.l1' fun o q => k _ _ D.l1z D.l1TO D.l1i1 D.l1i2 q
    · exact tup_keep st.l2' fun o q => k _ _ D.l2z D.l2TO D.l2i1 D.l2i2 q
  · have hTy : s.TypeIs (.ref z) "zip" := ⟨_, hz, rfl⟩
    unfold pyNext
    refine wpAny_bind (wpAny_attempt (wpAny_callSpecial?_slot (name := Str.ofString "__next__") hTy F.slot_zip_next
      (wpAny_call_entry F.slot_zip_next hTy F.entry_zip_next
        (zipT_item_held D hz hT st.ti st.h1 st.h2 st.l1' st.l2' hx hy fun h' z' a1 a2 pr sz k => wpAny_pure (hQ h' ⟨.inr ⟨T, true, oT, z', ?_, hl⟩, ?_, a1, a2, ?_, ?_⟩ pr sz fun c o c1 _ c3 c4 q => k c o c1 c3 c4 q)) (F.args_zip_next_1 _))))
    · exact k _ _ (fun e => by rw [e] at hl; exact absurd hl (Nat.not_le.mpr L.z')) (fun e => by rw [e] at hl; exact absurd hl (Nat.not_le.mpr L.i1')) (fun e => by rw [e] at hl; exact absurd hl (Nat.not_le.mpr L.i2')) hT
    · exact k _ _ D.TIz D.TIi1 D.TIi2 st.ti
    · exact tup_keep st.l1' fun o q => k _ _ D.l1z D.l1i1 D.l1i2 q
    · exact tup_keep st.l2' fun o q => k _ _ D.l2z D.l2i1 D.l2i2 q
theorem zst_done {i : Nat} {Q : Option Value → Shared → Prop} (hh : A.handled = none) (D : ZipApart z TI TO i1 i2 l1 l2) (st : ZSt s.heap z TI TO i1 i2 l1 l2 S lo xs ys i) (hx : xs[i]? = none)
    (hQ : ∀ h', (∀ c o, c ≠ z → c ≠ TO → c ≠ i1 → c ≠ i2 → s.heap.get? c = some o → h'.get? c = some o) → Q none { s with heap := h' }) : wpAny (model prog w) A (pyNext (.ref z)) Q E s := by
  rcases st.zip with ⟨e, hz, a, b, ht⟩ | ⟨T, f, oT, hz, hT, hl⟩
  · exact pyNext_zipT_end hh D hz st.ti ht st.h1 st.h2 st.l1' st.l2' (.inl hx) hQ
  · have hTy : s.TypeIs (.ref z) "zip" := ⟨_, hz, rfl⟩
    unfold pyNext
    refine wpAny_bind (wpAny_attempt (wpAny_callSpecial?_slot (name := Str.ofString "__next__") hTy F.slot_zip_next
      (wpAny_call_entry F.slot_zip_next hTy F.entry_zip_next (zipT_end_held hh D hz hT st.ti st.h1 st.h2 st.l1' st.l2' hx fun h' e hk he => ?_) (F.args_zip_next_1 _))))
    obtain ⟨o, ho, hc⟩ := he
    refine wpAny_bind (wpAny_isInstance (T := "StopIteration") (b := true) ⟨o, ho, hc⟩ isSubtype_stop ?_)
    exact wpAny_pure (hQ _ fun c o c1 _ c3 c4 q => hk c o c1 c3 c4 q)
/-- the pairs made so far -/
structure ZG (xs ys : Array Value) (lo : Addr) (h : Heap) (as : List Addr) : Prop where
  rise : as.Pairwise (· < ·)
  above : ∀ a ∈ as, lo ≤ a
  pairs : ∀ (j : Nat) (a : Addr), as[j]? = some a → ∃ x y, xs[j]? = some x ∧ ys[j]? = some y ∧ IsPair h a x y
theorem ZG.there {h : Heap} {as : List Addr} (g : ZG xs ys lo h as) {a : Addr} (ha : a ∈ as) : a < h.objs.size := by
  obtain ⟨j, hj⟩ := List.mem_iff_getElem?.mp ha
  obtain ⟨_, _, _, _, e⟩ := g.pairs j a hj
  exact Heap.lt_size e
theorem zl_loop {R : Result → Shared → Prop} (hh : A.handled = none) (D : ZipApart z TI TO i1 i2 l1 l2) (L : ZLo z TI TO i1 i2 l1 l2 S lo) (hl : xs.size = ys.size) (hn : xs.size ≤ sizeLine) (res : Value) {h₁ : Heap}
    (hR : ∀ h' tk acc c as, (∀ b o, b ≠ S → b ≠ z → b ≠ TO → b ≠ i1 → b ≠ i2 → h₁.get? b = some o → h'.get? b = some o) → h'.get? S = some { cls := .type "list", dict := none, data := .seq acc c, slots := #[] } → as.length = xs.size → ZG xs ys lo h' as →
      acc.toList = as.map Value.ref → R (.ok (.ret res)) { s with heap := h', toks := tk }) :
    ∀ (k i : Nat) (h : Heap) (tk c : Nat) (acc : Array Value) (as : List Addr), xs.size - i = k → i ≤ xs.size → ZSt h z TI TO i1 i2 l1 l2 S lo xs ys i → (∀ b o, b ≠ S → b ≠ z → b ≠ TO → b ≠ i1 → b ≠ i2 → h₁.get? b = some o → h.get? b = some o) →
      h.get? S = some { cls := .type "list", dict := none, data := .seq acc c, slots := #[] } → acc.toList = as.map Value.ref → as.length = i → ZG xs ys lo h as → lo ≤ h.objs.size →
      codeAny (model prog w) A (.builtin "list.extend.loop" ⟨[.ref S, .ref z, res], []⟩) R { s with heap := h, toks := tk } := by
  intro k
  induction k with
  | zero =>
    intro i h tk c acc as hk hi st hkeep hS hacc hal hG hlo
    have hin : i = xs.size := by omega
    refine codeAny_builtin PySem.F.entry_extend_loop ?_
    rw [Around.under_plainId PySem.F.plain_extend_loop _]
    show wpAny _ A.in1 (pyNext (.ref z) >>= _) _ _ _
    refine wpAny_bind (zst_done (s := { s with heap := h, toks := tk }) (A := A.in1) hh D st (Array.getElem?_eq_none (by omega)) fun h' he => ?_)
    refine wpAny_pure (hR h' tk acc c as (fun b o h1 h2 h3 h4 h5 e => he b o h2 h3 h4 h5 (hkeep b o h1 h2 h3 h4 h5 e)) (he S _ L.Sz L.STO L.Si1 L.Si2 hS) (by omega) ⟨hG.rise, hG.above, fun j a hj => ?_⟩ hacc)
    obtain ⟨x, y, e1, e2, e3⟩ := hG.pairs j a hj
    have ha := hG.above a (List.mem_of_getElem? hj)
    exact ⟨x, y, e1, e2, he a _ (Nat.ne_of_gt (Nat.lt_of_lt_of_le L.z' ha)) (Nat.ne_of_gt (Nat.lt_of_lt_of_le L.TO' ha)) (Nat.ne_of_gt (Nat.lt_of_lt_of_le L.i1' ha)) (Nat.ne_of_gt (Nat.lt_of_lt_of_le L.i2' ha)) e3⟩
  | succ k ih =>
    intro i h tk c acc as hk hi st hkeep hS hacc hal hG hlo
    have hlt : i < xs.size := by omega
    have hx : xs[i]? = some xs[i] := Array.getElem?_eq_getElem hlt
    have hlt2 : i < ys.size := by omega
    have hy : ys[i]? = some ys[i] := Array.getElem?_eq_getElem hlt2
    have hsz : acc.size = i := by rw [← Array.length_toList, hacc, List.length_map, hal]
    refine codeAny_builtin PySem.F.entry_extend_loop ?_
    rw [Around.under_plainId PySem.F.plain_extend_loop _]
    show wpAny _ A.in1 (pyNext (.ref z) >>= _) _ _ _
    refine wpAny_bind (zst_item (s := { s with heap := h, toks := tk }) (A := A.in1) D L hlo st hx hy fun h' st' ht hz hkp => ?_)
    dsimp only at ht hz hkp ⊢
    have hS' := hkp S _ L.Sz L.STO L.Si1 L.Si2 hS
    have up : ∀ b o, b ≠ S → h'.get? b = some o → (h'.update S (Obj.mapSeq (·.push (Value.ref h.objs.size)))).get? b = some o := fun b o hb e => (Heap.get?_update_other _ _ (Ne.symm hb)).trans e
    have hSl : S < h.objs.size := Heap.lt_size hS
    show wpAny _ A.in1 (updateSeq S (·.push (Value.ref h.objs.size)) >>= _) _ _ _
    refine wpAny_bind ?_
    refine wpAny_updateSeq hS' rfl (wpAny_pure ⟨plainId_quiet PySem.F.plain_extend_loop _, ih (i + 1) _ tk _ (acc.push (Value.ref h.objs.size)) (as ++ [h.objs.size]) (by omega) hlt (st'.upd L up)
      (fun b o h1 h2 h3 h4 h5 e => up b o h1 (hkp b o h2 h3 h4 h5 (hkeep b o h1 h2 h3 h4 h5 e))) (Heap.get?_update_self _ hS' rfl) (by rw [Array.toList_push, hacc, List.map_append]; rfl) (by rw [List.length_append, hal]; rfl) ⟨?_, ?_, ?_⟩ ?_⟩) (by rw [hsz]; omega) (by show (acc.push (Value.ref h.objs.size)).size ≤ sizeLine + 1; rw [Array.size_push, hsz]; omega)
    · refine List.pairwise_append.mpr ⟨hG.rise, List.pairwise_singleton _ _, fun a ha b hb => ?_⟩
      rw [List.mem_singleton.mp hb]
      exact hG.there ha
    · intro a ha
      rcases List.mem_append.mp ha with ha | ha
      · exact hG.above a ha
      · rw [List.mem_singleton.mp ha]; exact hlo
    · intro j b hj
      rcases Nat.lt_trichotomy j as.length with h1 | h1 | h1
      · rw [List.getElem?_append_left h1] at hj
        obtain ⟨x', y', e1, e2, e3⟩ := hG.pairs j b hj
        have hb := hG.above b (List.mem_of_getElem? hj)
        exact ⟨x', y', e1, e2, up b _ (Nat.ne_of_gt (Nat.lt_of_lt_of_le L.S' hb)) (hkp b _ (Nat.ne_of_gt (Nat.lt_of_lt_of_le L.z' hb)) (Nat.ne_of_gt (Nat.lt_of_lt_of_le L.TO' hb)) (Nat.ne_of_gt (Nat.lt_of_lt_of_le L.i1' hb)) (Nat.ne_of_gt (Nat.lt_of_lt_of_le L.i2' hb)) e3)⟩
      · subst h1
        have hb : h.objs.size = b := by simpa using hj
        subst hb
        exact ⟨xs[i], ys[i], by rw [hal]; exact hx, by rw [hal]; exact hy, up _ _ (Nat.ne_of_gt hSl) ht⟩
      · have hnone : (as ++ [h.objs.size])[j]? = none := List.getElem?_eq_none (by rw [List.length_append, List.length_singleton]; omega)
        rw [hnone] at hj; cases hj
    · have e : (h'.update S (Obj.mapSeq (·.push (Value.ref h.objs.size)))).get? h.objs.size = _ := up _ _ (Nat.ne_of_gt hSl) ht
      exact Nat.le_trans hlo (Nat.le_of_lt (Heap.lt_size e))
end
end LmR

set_option Elab.async false
set_option linter.all false
set_option maxRecDepth 100000
set_option maxHeartbeats 2000000
namespace LmR
open PySem PySem.Spec PyProof.Rows L2 RZ
section
variable {prog : Program} {w : World} {A : Around} {E : Value → Shared → Prop} {s : Shared}
variable {z TI TO i1 i2 l1 l2 S lo : Addr} {xs ys : Array Value}
theorem zl_extend {R : Result → Shared → Prop} (hh : A.handled = none) (D : ZipApart z TI TO i1 i2 l1 l2) (L : ZLo z TI TO i1 i2 l1 l2 S lo) (hl : xs.size = ys.size) (hn : xs.size ≤ sizeLine) (res : Value) (c₀ : Nat) (hlo : lo ≤ s.heap.objs.size)
    (st : ZSt s.heap z TI TO i1 i2 l1 l2 S lo xs ys 0) (hz : IsZip s.heap z TI TO .none) (hS : s.heap.get? S = some { cls := .type "list", data := .seq #[] c₀ })
    (hR : ∀ h' tk acc c as, (∀ b o, b ≠ S → b ≠ z → b ≠ TO → b ≠ i1 → b ≠ i2 → s.heap.get? b = some o → h'.get? b = some o) → h'.get? S = some { cls := .type "list", dict := none, data := .seq acc c, slots := #[] } → as.length = xs.size → ZG xs ys lo h' as →
      acc.toList = as.map Value.ref → R (.ok (.ret res)) { s with heap := h', toks := tk }) :
    wpAny (model prog w) A.in1 (Builtin.List.listExtendWith (.ref S) (.ref z) res)
      (fun fin s' => match fin with | .done f => R (.ok f) s' | .again c' => c'.quiet = true ∧ codeAny (model prog w) A c' R s') (fun e s' => R (.error e) s') s := by
  have hT : s.TypeIs (.ref z) "zip" := ⟨_, hz, rfl⟩
  unfold Builtin.List.listExtendWith
  refine wpAny_bind (wpAny_typeOf hT ?_)
  have h1 : Builtin.List.listSameRef (.ref S) (.ref z) = false := by simp [Builtin.List.listSameRef, L.Sz]
  have h2 : (Value.type "zip" == Value.type "list") = false := by decide
  have h3 : (Value.type "zip" == Value.type "tuple") = false := by decide
  simp only [h1, h2, h3, Bool.or_false, Bool.false_eq_true, if_false]
  refine wpAny_bind (wpAny_pyIter_zip hz ?_)
  refine wpAny_bind (wpAny_holding ?_)
  unfold Builtin.List.listLengthHint
  refine wpAny_bind (wpAny_specialOf hT zip_no_len ?_)
  show wpAny _ A.in1 (specialOf (Value.ref z) (Str.ofString "__length_hint__") >>= _) _ _ _
  refine wpAny_bind (wpAny_specialOf hT zip_no_hint ?_)
  refine wpAny_pure ?_
  show wpAny _ A.in1 (rule "list.extend.makes-room" >>= fun _ => Builtin.List.listTouch (.ref S) >>= fun _ =>
    again (.builtin "list.extend.loop" ⟨[.ref S, .ref z, res], []⟩)) _ _ _
  refine wpAny_bind (wpAny_rule ?_)
  refine wpAny_bind ?_
  show wpAny _ A.in1 (updateSeq S (·.push .none) >>= fun _ => updateSeq S (·.pop)) _ _ _
  refine wpAny_bind (wpAny_updateSeq hS rfl ?_)
  have hS₂ := Heap.get?_update_self (Obj.mapSeq (·.push Value.none)) hS rfl
  refine wpAny_updateSeq (hz := by seq_fits) hS₂ rfl ?_
  have hS₃ := Heap.get?_update_self (Obj.mapSeq (·.pop)) hS₂ rfl
  have oth : ∀ b o, b ≠ S → s.heap.get? b = some o → ((s.heap.update S (Obj.mapSeq (·.push Value.none))).update S (Obj.mapSeq (·.pop))).get? b = some o :=
    fun b o hb e => (Heap.get?_update_other _ _ (Ne.symm hb)).trans ((Heap.get?_update_other _ _ (Ne.symm hb)).trans e)
  refine wpAny_pure ⟨plainId_quiet PySem.F.plain_extend_loop _, zl_loop (s := s) (h₁ := s.heap) hh D L hl hn res hR xs.size 0 _ s.toks _ #[] [] (Nat.sub_zero _) (Nat.zero_le _) (st.upd L oth) (fun b o h1 _ _ _ _ e => oth b o h1 e) hS₃ rfl rfl ⟨List.Pairwise.nil, (fun _ ha => nomatch ha), (fun j a hj => by simp at hj)⟩ ?_⟩
  have zz := oth z _ L.Sz.symm hz
  have e1 : ((s.heap.update S (Obj.mapSeq (·.push Value.none))).update S (Obj.mapSeq (·.pop))).objs.size = s.heap.objs.size := by
    first
      | (rw [Heap.size_update, Heap.size_update])
      | (simp [Heap.update])
  rw [e1]
  exact hlo
theorem zl_init {R : Result → Shared → Prop} (hh : A.handled = none) (D : ZipApart z TI TO i1 i2 l1 l2) (L : ZLo z TI TO i1 i2 l1 l2 S lo) (hl : xs.size = ys.size) (hn : xs.size ≤ sizeLine) (hlo : lo ≤ s.heap.objs.size)
    (st : ZSt s.heap z TI TO i1 i2 l1 l2 S lo xs ys 0) (hz : IsZip s.heap z TI TO .none) (hS : s.heap.get? S = some { cls := .type "list", data := .seq #[] })
    (hR : ∀ h' tk acc c as, (∀ b o, b ≠ S → b ≠ z → b ≠ TO → b ≠ i1 → b ≠ i2 → s.heap.get? b = some o → h'.get? b = some o) → h'.get? S = some { cls := .type "list", dict := none, data := .seq acc c, slots := #[] } → as.length = xs.size → ZG xs ys lo h' as →
      acc.toList = as.map Value.ref → R (.ok (.ret .none)) { s with heap := h', toks := tk }) :
    wpAny (model prog w) A.in1 (Builtin.«list.__init__» ⟨[.ref S, .ref z], []⟩)
      (fun fin s' => match fin with | .done f => R (.ok f) s' | .again c' => c'.quiet = true ∧ codeAny (model prog w) A c' R s') (fun e s' => R (.error e) s') s := by
  show wpAny _ _ (do let old ← Builtin.List.listItems (.ref S); Builtin.List.listUpdate (.ref S) (fun _ => #[]); letGo old.toList.reverse; Builtin.List.listExtendWith (.ref S) (.ref z) .none) _ _ s
  refine wpAny_bind ?_
  unfold Builtin.List.listItems
  refine wpAny_bind (wpAny_seqItems hS rfl (wpAny_pure ?_))
  show wpAny _ _ (updateSeq S (fun _ => #[]) >>= fun _ => letGo (#[] : Array Value).toList.reverse >>= fun _ => Builtin.List.listExtendWith (.ref S) (.ref z) .none) _ _ s
  refine wpAny_bind (wpAny_updateSeq hS rfl ?_)
  have hS₂ := Heap.get?_update_self (Obj.mapSeq (fun _ => (#[] : Array Value))) hS rfl
  have oth : ∀ b o, b ≠ S → s.heap.get? b = some o → (s.heap.update S (Obj.mapSeq (fun _ => (#[] : Array Value)))).get? b = some o :=
    fun b o hb e => (Heap.get?_update_other _ _ (Ne.symm hb)).trans e
  refine wpAny_bind (wpAny_letGo ?_)
  have e1 : (s.heap.update S (Obj.mapSeq (fun _ => (#[] : Array Value)))).objs.size = s.heap.objs.size := by
    first
      | (rw [Heap.size_update])
      | (simp [Heap.update])
  refine zl_extend hh D L hl hn .none _ (by show lo ≤ (s.heap.update S _).objs.size; rw [e1]; exact hlo) (st.upd L oth) (oth z _ L.Sz.symm hz) hS₂ (fun h' tk acc c as hk hS' hl' hG hacc => ?_)
  exact hR h' tk acc c as (fun b o h1 h2 h3 h4 h5 e => hk b o h1 h2 h3 h4 h5 (oth b o h1 e)) hS' hl' hG hacc
theorem zl_call {Q : Value → Shared → Prop} (hh : A.handled = none) (D : ZipApart z TI TO i1 i2 l1 l2) (hl : xs.size = ys.size) (hn : xs.size ≤ sizeLine)
    (hz : IsZip s.heap z TI TO .none) (hTI : IsPair s.heap TI (.ref i1) (.ref i2)) (hTO : ∃ a b, IsPair s.heap TO a b) (h1 : s.heap.IsTupleIter i1 l1 0) (h2 : s.heap.IsTupleIter i2 l2 0) (hl1 : s.heap.IsTuple l1 xs) (hl2 : s.heap.IsTuple l2 ys)
    (hQ : ∀ h' tk acc c as, (∀ b o, b ≠ z → b ≠ TO → b ≠ i1 → b ≠ i2 → s.heap.get? b = some o → h'.get? b = some o) → h'.get? s.heap.objs.size = some { cls := .type "list", dict := none, data := .seq acc c, slots := #[] } → as.length = xs.size → ZG xs ys (s.heap.objs.size + 1) h' as →
      acc.toList = as.map Value.ref → Q (.ref s.heap.objs.size) { s with heap := h', toks := tk }) :
    wpAny (model prog w) A (call (.type "list") [.ref z]) Q E s := by
  refine callType_codes (Q₁ := fun obj s₁ => obj = .ref s.heap.objs.size ∧ s₁ = { s with heap := s.heap.push { cls := .type "list", data := .seq #[] } }) PySem.F.called_list (PySem.F.typeCall_list_1 _) PySem.F.entry_list_init
    (code_list_new _ ⟨rfl, rfl⟩) fun obj s₁ h₁ => ?_
  obtain ⟨rfl, rfl⟩ := h₁
  have hS : (s.heap.push { cls := .type "list", data := .seq #[] }).get? s.heap.objs.size = some { cls := .type "list", data := .seq #[] } := Heap.get?_push_size _ rfl
  have kp : ∀ b o, s.heap.get? b = some o → (s.heap.push { cls := .type "list", data := .seq #[] }).get? b = some o := fun b o e => Heap.get?_push_of_some _ e
  have lz := Heap.lt_size hz
  have lTI := Heap.lt_size hTI
  obtain ⟨ta, tb, hTO'⟩ := hTO
  have lTO := Heap.lt_size hTO'
  have li1 : i1 < s.heap.objs.size := let ⟨_, e, _⟩ := h1; Heap.lt_size e
  have li2 : i2 < s.heap.objs.size := let ⟨_, e, _⟩ := h2; Heap.lt_size e
  have ll1 : l1 < s.heap.objs.size := let ⟨_, e, _⟩ := hl1; Heap.lt_size e
  have ll2 : l2 < s.heap.objs.size := let ⟨_, e, _⟩ := hl2; Heap.lt_size e
  have L : ZLo z TI TO i1 i2 l1 l2 s.heap.objs.size (s.heap.objs.size + 1) := ⟨Nat.lt_succ_of_lt lz, Nat.lt_succ_of_lt lTI, Nat.lt_succ_of_lt lTO, Nat.lt_succ_of_lt li1, Nat.lt_succ_of_lt li2, Nat.lt_succ_of_lt ll1, Nat.lt_succ_of_lt ll2, Nat.lt_succ_self _,
    Nat.ne_of_gt lz, Nat.ne_of_gt lTI, Nat.ne_of_gt lTO, Nat.ne_of_gt li1, Nat.ne_of_gt li2, Nat.ne_of_gt ll1, Nat.ne_of_gt ll2⟩
  have st : ZSt (s.heap.push { cls := .type "list", data := .seq #[] }) z TI TO i1 i2 l1 l2 s.heap.objs.size (s.heap.objs.size + 1) xs ys 0 :=
    ⟨.inl ⟨rfl, kp _ _ hz, ta, tb, kp _ _ hTO'⟩, kp _ _ hTI, h1.at fun o e => kp _ _ e, h2.at fun o e => kp _ _ e, tup_keep hl1 fun o e => kp _ _ e, tup_keep hl2 fun o e => kp _ _ e⟩
  refine ⟨⟨_, hS, rfl⟩, PySem.F.args_list_init_2 _ _, zl_init (A := A.in1) hh D L hl hn (by show s.heap.objs.size + 1 ≤ (s.heap.push _).objs.size; rw [Heap.size_push]; exact Nat.le_refl _) st (kp _ _ hz) hS (fun h' tk acc c as hk hS' hl' hG hacc => ?_)⟩
  exact ⟨rfl, hQ h' tk acc c as (fun b o c1 c2 c3 c4 e => hk b o (Nat.ne_of_lt (Heap.lt_size e)) c1 c2 c3 c4 (kp b o e)) hS' hl' hG hacc⟩
end
/-! ### the rule -/
/-- pairs tracked at their addresses -/
def putZ : Hp → List Addr → List (V × V) → Hp
  | H, a :: as, p :: ps => putZ (upd H a (.tup [p.1, p.2])) as ps
  | H, _, _ => H
theorem putZ_off {b : Addr} : ∀ (as : List Addr) (ps : List (V × V)) (H : Hp), b ∉ as → putZ H as ps b = H b
  | [], _, _, _ => rfl
  | _ :: _, [], _, _ => rfl
  | a :: as, p :: ps, H, h => by
    show putZ (upd H a (.tup [p.1, p.2])) as ps b = H b
    rw [putZ_off as ps _ (fun z => h (List.mem_cons_of_mem _ z)), upd_ne (fun z => h (by rw [z]; exact List.mem_cons_self))]
theorem putZ_at : ∀ (as : List Addr) (ps : List (V × V)) (H : Hp) (j : Nat) (a : Addr) (p : V × V), as.Nodup → as[j]? = some a → ps[j]? = some p → putZ H as ps a = some (.tup [p.1, p.2])
  | [], _, _, j, _, _, _, h, _ => by simp at h
  | _ :: _, [], _, j, _, _, _, _, h => by simp at h
  | a :: as, p :: ps, H, 0, b, q, nd, h1, h2 => by
    have e1 : a = b := Option.some.inj h1
    have e2 : p = q := Option.some.inj h2
    subst e1 e2
    show putZ (upd H a (.tup [p.1, p.2])) as ps a = some (.tup [p.1, p.2])
    rw [putZ_off as ps _ (List.nodup_cons.mp nd).1, upd_same]
  | a :: as, p :: ps, H, j + 1, b, q, nd, h1, h2 => putZ_at as ps _ j b q (List.nodup_cons.mp nd).2 h1 h2
/-- list(zip(t, u)) of two tuples of one length -/
def tListZip (K : PySem.W.Frag) (ta : TA) : TE := fun σ H Q => ta σ H fun vs H1 => ∃ (a b : Addr) (xs ys : List V), vs = [.ref a, .ref b] ∧ SqT K H1 a xs ∧ SqT K H1 b ys ∧ xs.length = ys.length ∧
  ∀ (H' : Hp) (p : Addr) (ts : List Addr), Same H1 H' → H1 p = none → (∀ t ∈ ts, H1 t = none) → H' p = some (.lst (ts.map V.ref)) → ts.length = xs.length →
    (∀ (j : Nat) (t : Addr), ts[j]? = some t → ∃ x y, xs[j]? = some x ∧ ys[j]? = some y ∧ H' t = some (.tup [x, y])) → Q (.ref p) H'
section
variable {X : Cx}
theorem pe_listZip {e e2 : Expr} {ta : TA} {p p2 pos pos2 : Pos} (hc : X.calm = true) (hgl : Gl X "list") (hml : X.mg "list" = none) (hgz : Gl X "zip") (hmz : X.mg "zip" = none) (ha : PA X [e, e2] ta)
    (hs : starEach [e, e2] X.env = (false, eval e X.env) :: starEach [e2] X.env := by rfl) (hpl : (backTo pos2 (starEach [e2] X.env)).any (·.1) = false := by rfl)
    (hs2 : starEach [.Call (.Name "zip" p2) [e, e2] [] pos2] X.env = (false, eval (.Call (.Name "zip" p2) [e, e2] [] pos2) X.env) :: starEach [] X.env := by rfl) :
    PE X (.Call (.Name "list" p) [.Call (.Name "zip" p2) [e, e2] [] pos2] [] pos) (tListZip X.K ta) := by
  refine ⟨fun pins s σ H Q I h => ?_⟩
  refine wpAny_Call_Name_kw (ld_blt I hgl hml PyProof.Rows.boot_list ?_)
  refine PyProof.Rows.callWith_type1 ?_ hs2 rfl
  rw [hs2]
  show wpAny _ _ (spliced ((false, eval (.Call (.Name "zip" p2) [e, e2] [] pos2) X.env) :: backTo pos (starEach [] X.env))) _ _ s
  refine Calls.spliced_cons ?_
  refine Call_ (ld_blt I hgz hmz PyProof.Rows.boot_zip (PyProof.Rows.callWith_type1 (thn (ha.run pos2 pins s σ H _ I h) fun us s1 ⟨vs, H1, I1, r1, q1⟩ => ?_) hs hpl))
  obtain ⟨a, b, xs, ys, ex, hqx, hqy, hxy, q⟩ := q1
  subst ex
  cases r1 with
  | cons r rr =>
    cases rr with
    | cons r' rr =>
      cases rr
      cases r
      cases r'
      obtain ⟨its, rv, p1, hz1⟩ := I1.tuple hqx
      obtain ⟨its2, rv2, p2', _⟩ := I1.tuple hqy
      obtain ⟨o1, ho1, _⟩ := id p1
      obtain ⟨o2, ho2, _⟩ := id p2'
      have e1 := rv.length
      have e2 := rv2.length
      refine call_zipT (show s1.heap.IsTuple a its.toArray from p1) (show s1.heap.IsTuple b its2.toArray from p2') fun h' hz hTI hTO h1 h2 hsz hk => ?_
      refine Calls.spliced_nil ?_
      have D := PySem.W.ktu_apart s1.heap.objs.size a b (Heap.lt_size ho1) (Heap.lt_size ho2)
      refine zl_call (s := { s1 with heap := h' }) (xs := its.toArray) (ys := its2.toArray) (I1.ok.hd hc) D (by rw [List.size_toArray, List.size_toArray]; omega) (by rw [List.size_toArray]; omega) hz hTI ⟨_, _, hTO⟩ h1 h2 (tup_keep p1 fun o q => hk _ _ q) (tup_keep p2' fun o q => hk _ _ q) fun h2' tk acc c as hkk hS hl hG hacc => ?_
      have lo : ∀ b o, s1.heap.get? b = some o → h2'.get? b = some o := fun b o q => by
        have lb := Heap.lt_size q
        exact hkk b o (fun z => by rw [z] at lb; exact absurd lb (Nat.not_lt.mpr (Nat.le_add_right _ _))) (fun z => by rw [z] at lb; exact absurd lb (Nat.not_lt.mpr (Nat.le_add_right _ _))) (fun z => by rw [z] at lb; exact absurd lb (Nat.lt_irrefl _)) (fun z => by rw [z] at lb; exact absurd lb (Nat.not_lt.mpr (Nat.le_add_right _ _))) (hk b o q)
      have hsz' : h'.objs.size = s1.heap.objs.size + 5 := hsz
      have hal : as.length = xs.length := by
        rw [hl, List.size_toArray]
        omega
      have nd : as.Nodup := List.Pairwise.imp (fun {a b} (h : a < b) => Nat.ne_of_lt h) hG.rise
      have big : ∀ t ∈ as, h'.objs.size < t := fun t ht => hG.above t ht
      have hSn : h'.objs.size ∉ as := fun z => Nat.lt_irrefl _ (big _ z)
      have new : ∀ t ∈ as, H1 t = none := fun t ht => I1.hok.fresh (by have := big t ht; rw [hsz'] at this; exact Nat.le_of_lt (Nat.lt_of_le_of_lt (Nat.le_add_right _ _) this))
      have newS : H1 h'.objs.size = none := I1.hok.fresh (by rw [hsz']; exact Nat.le_add_right _ _)
      have lk : ∀ b o, s1.heap.get? b = some o → b ∉ as ∧ b ≠ h'.objs.size := fun b o q => by
        have lb := Heap.lt_size q
        refine ⟨fun z => ?_, fun z => ?_⟩
        · have := big b z
          rw [hsz'] at this
          exact absurd lb (Nat.not_lt.mpr (Nat.le_trans (Nat.le_add_right _ 5) (Nat.le_of_lt this)))
        · rw [z, hsz'] at lb
          exact absurd lb (Nat.not_lt.mpr (Nat.le_add_right _ _))
      have off : ∀ b, b ∉ as → b ≠ h'.objs.size → putZ (upd H1 h'.objs.size (.lst (as.map V.ref))) as (xs.zip ys) b = H1 b := fun b h1 h2 => by rw [putZ_off as _ _ h1, upd_ne h2]
      have kp : ∀ b u, H1 b = some u → putZ (upd H1 h'.objs.size (.lst (as.map V.ref))) as (xs.zip ys) b = some u := fun b u e => by
        rw [off b (fun z => by rw [new b z] at e; cases e) (fun z => by rw [z, newS] at e; cases e)]
        exact e
      have eS : putZ (upd H1 h'.objs.size (.lst (as.map V.ref))) as (xs.zip ys) h'.objs.size = some (.lst (as.map V.ref)) := by rw [putZ_off as _ _ hSn, upd_same]
      have prs : ∀ (j : Nat) (t : Addr), as[j]? = some t → ∃ x y u1 u2, xs[j]? = some x ∧ ys[j]? = some y ∧ RelV x u1 ∧ RelV y u2 ∧ IsPair h2' t u1 u2 ∧ putZ (upd H1 h'.objs.size (.lst (as.map V.ref))) as (xs.zip ys) t = some (.tup [x, y]) := fun j t ht => by
        obtain ⟨u1, u2, f1, f2, f3⟩ := hG.pairs j t ht
        have hj : j < xs.length := by
          have := (List.getElem?_eq_some_iff.mp ht).1
          omega
        have hj2 : j < ys.length := by omega
        have g1 : xs[j]? = some xs[j] := List.getElem?_eq_getElem hj
        have g2 : ys[j]? = some ys[j] := List.getElem?_eq_getElem hj2
        obtain ⟨w1, k1, r1⟩ := rv.get g1
        obtain ⟨w2, k2, r2⟩ := rv2.get g2
        have m1 : u1 = w1 := by
          rw [List.getElem?_toArray, k1] at f1
          exact (Option.some.inj f1).symm
        have m2 : u2 = w2 := by
          rw [List.getElem?_toArray, k2] at f2
          exact (Option.some.inj f2).symm
        subst m1 m2
        refine ⟨xs[j], ys[j], u1, u2, g1, g2, r1, r2, f3, ?_⟩
        exact putZ_at as (xs.zip ys) _ j t (xs[j], ys[j]) nd ht (by rw [List.getElem?_zip_eq_some]; exact ⟨g1, g2⟩)
      refine ⟨.ref _, putZ (upd H1 h'.objs.size (.lst (as.map V.ref))) as (xs.zip ys), ?_, rfl, q _ _ as kp newS new eS hal fun j t ht => ?_⟩
      · have Ik : Inv X pins σ H1 { s1 with heap := h2', toks := tk } := I1.kept (t' := tk) lo
        refine I1.call' (ch := []) rfl ⟨fun b o q _ _ _ => lo b o q, fun b o q _ _ _ => ⟨o.slots, lo b o q⟩, fun b o q n _ => ?_, fun b o q _ => ⟨o, lo b o q⟩, fun b zs q => kp b _ q, fun b o u q => kp b _ q, fun b ps q => ⟨#[], by rw [kp b _ q]; simp⟩⟩ (fun b u q => ?_) I1.bare fun b z => by simp at z
        · obtain ⟨z1, z2⟩ := lk b o q
          rw [off b z1 z2]
          exact n
        · by_cases hb : b ∈ as
          · obtain ⟨j, hj⟩ := List.mem_iff_getElem?.mp hb
            obtain ⟨x, y, u1, u2, _, _, r1, r2, f3, e⟩ := prs j b hj
            rw [e] at q
            cases q
            exact ⟨by show 2 ≤ sizeLine; decide, [u1, u2], .cons r1 (.cons r2 .nil), ⟨_, f3, rfl, _, rfl⟩⟩
          · by_cases hb2 : b = h'.objs.size
            · rw [hb2] at q ⊢
              rw [eS] at q
              cases q
              refine ⟨by rw [List.length_map]; omega, acc.toList, c, by rw [hacc]; exact (let rec go : ∀ as : List Addr, Vals (as.map V.ref) (as.map Value.ref) | [] => .nil | _ :: as => .cons rfl (go as); go as), ?_⟩
              rw [Array.toArray_toList]
              exact hS
            · rw [off b hb hb2] at q
              exact (I1.hok b u q).stay (fun d v _ y => lo d v y) (fun d y => kp d _ y) fun d xs y => kp d _ y
      · obtain ⟨x, y, _, _, g1, g2, _, _, _, e⟩ := prs j t ht
        exact ⟨x, y, g1, g2, e⟩
end
end LmR

set_option Elab.async false
set_option linter.all false
set_option maxRecDepth 100000
set_option maxHeartbeats 2000000
namespace Lm
open PySem PySem.Spec PyProof.Rows L2 LmR
/-! ### defs of the text, callable -/
/-- the def st stands in the text under the name x -/
def DefAt (K : PySem.W.Frag) (mg : Str → Option Value) (x : Str) (st : Stmt) (ps : List Str) : Prop := ∃ f fd, Fun K x x st f fd ∧ Binds K fd ps [] ∧ mg x = some (.ref f)
/-- what stands under the name x keeps sp, by at most level k -/
def Cal (P : Program) (w : World) (K : PySem.W.Frag) (mg : Str → Option Value) (base : Heap) (k : Nat) (x : Str) (ps : List Str) (sp : Sp) : Prop :=
  ∃ f fd, FnOk P w K mg base CX0 k f fd ps sp ∧ mg x = some (.ref f) ∧ PySem.W.keepIn K (.ref f) = true ∧ Binds K fd ps [] ∧ ∃ st, Fun K x x st f fd
section
variable {P : Program} {w : World} {K : PySem.W.Frag} {mg : Str → Option Value} {base : Heap}
theorem Cal.mono {j k : Nat} {x : Str} {ps : List Str} {sp : Sp} (c : Cal P w K mg base j x ps sp) (h : j ≤ k) : Cal P w K mg base k x ps sp := by
  obtain ⟨f, fd, F, g, kp, b⟩ := c
  exact ⟨f, fd, F.mono h, g, kp, b⟩
theorem Cal.weak {k : Nat} {x : Str} {ps : List Str} {sp sp' : Sp} (c : Cal P w K mg base k x ps sp) (h : ∀ vs H Q E, sp' vs H Q E → sp vs H Q E) : Cal P w K mg base k x ps sp' := by
  obtain ⟨f, fd, F, g, kp, b⟩ := c
  exact ⟨f, fd, ⟨fun vs H Q E z => F.len vs H Q E (h vs H Q E z), fun A outer s H args us vs Q E r e b v z => F.run A outer s H args us vs Q E r e b v (h vs H Q E z)⟩, g, kp, b⟩
theorem cal_of {x : Str} {st : Stmt} {N ps : List Str} {k : Nat} {sp : Sp} (D : DefAt K mg x st ps) (S : FnScope N ps (defScope st)) (len : ∀ vs H Q E, sp vs H Q E → vs.length = ps.length)
    (hbody : ∀ (f : Addr) (cdv : Value) (A : Around) (outer : List Env) (s : Shared) (H : Hp) (vs : List V) (Q : VK) (E : XK), Room k (A.deeper (envOfC x (defScope st) s.heap.objs.size f cdv)) → sp vs H Q E →
      ∃ t, PSs (cxOf CX0 P w K mg base N x (defScope st) f cdv A outer s H E).nox (defBody st) t ∧ t { nx := fun _ H' => Q .non H', rt := Q } (start N vs) H) : Cal P w K mg base (k + 1) x ps sp := by
  obtain ⟨f, fd, F, b, g⟩ := D
  exact ⟨f, fd, F.ok S len (hbody f), g, F.kp, b, _, F⟩
/-- nothing is asked: no call is allowed -/
theorem cal_no {x : Str} {st : Stmt} {ps : List Str} {sp : Sp} (D : DefAt K mg x st ps) (no : ∀ vs H Q E, ¬ sp vs H Q E) {k : Nat} : Cal P w K mg base k x ps sp := by
  obtain ⟨f, fd, F, b, g⟩ := D
  exact ⟨f, fd, ⟨fun vs H Q E h => absurd h (no vs H Q E), fun A outer s H args us vs Q E _ _ _ _ h => absurd h (no vs H Q E)⟩, g, F.kp, b, _, F⟩
end
/-- f(e, ..) -/
theorem pe_cal {X : Cx} {k : Nat} {x : Str} {ps : List Str} {sp : Sp} {e : Expr} {es : List Expr} {t : TA} {p pos : Pos} (C : Cal X.prog X.w X.K X.mg X.base k x ps sp) (hr : Room k X.A) (hg : Gl X x) (ha : PA X (e :: es) t)
    (hdb : (x == ("__debug__" : Str)) = false := by decide) (he : starEach (e :: es) X.env = (false, eval e X.env) :: starEach es X.env := by rfl) (hpl : (backTo pos (starEach es X.env)).any (·.1) = false := by rfl) :
    PE X (.Call (.Name x p) (e :: es) [] pos) (tCall sp [] (fun _ _ _ => False) t) := by
  obtain ⟨f, fd, F, g, kp, b, _⟩ := C
  exact pe_call F hr hg g kp b .nil pass0 ha hdb he hpl
/-- the built-ins that the text names and no one has rebound -/
structure Bt (mg : Str → Option Value) : Prop where
  len : mg "len" = none
  isinstance : mg "isinstance" = none
  tuple : mg "tuple" = none
  list : mg "list" = none
  str : mg "str" = none
  int : mg "int" = none
  bool : mg "bool" = none
  range : mg "range" = none
  zip : mg "zip" = none
  enumerate : mg "enumerate" = none
  reversed : mg "reversed" = none
  max : mg "max" = none
  all : mg "all" = none
  min : mg "min" = none
  sum : mg "sum" = none
  any : mg "any" = none
  sorted : mg "sorted" = none
  set : mg "set" = none
  repr : mg "repr" = none
  abs : mg "abs" = none
/-! ### heaps -/
/-- all that was tracked is as it was, but what stands at ws -/
def Ex (ws : List Addr) (H H' : Hp) : Prop := ∀ b o, H b = some o → b ∉ ws → H' b = some o
theorem Ex.refl (ws : List Addr) (H : Hp) : Ex ws H H := fun _ _ h _ => h
theorem Ex.trans {ws : List Addr} {H H1 H2 : Hp} (a : Ex ws H H1) (b : Ex ws H1 H2) : Ex ws H H2 := fun c o h n => b c o (a c o h n) n
theorem Ex.mono {ws us : List Addr} {H H' : Hp} (a : Ex ws H H') (h : ∀ b ∈ ws, b ∈ us) : Ex us H H' := fun c o e n => a c o e fun m => n (h c m)
theorem Ex.of_same {ws : List Addr} {H H' : Hp} (a : Same H H') : Ex ws H H' := fun c o e _ => a c o e
theorem Ex.same {H H' : Hp} (a : Ex [] H H') : Same H H' := fun c o e => a c o e (by simp)
theorem Ex.new {ws : List Addr} {H : Hp} {p : Addr} {o : HO} (h : H p = none) : Ex ws H (upd H p o) := fun b u q _ => by rw [upd_ne (ne_of_none q h)]; exact q
theorem Ex.at {ws : List Addr} {H : Hp} {p : Addr} {o : HO} (h : p ∈ ws) : Ex ws H (upd H p o) := fun b u q n => by rw [upd_ne (fun z => n (by rw [z]; exact h))]; exact q
theorem same_new {H : Hp} {p : Addr} {o : HO} (h : H p = none) : Same H (upd H p o) := fun b u q => by rw [upd_ne (ne_of_none q h)]; exact q
theorem Ex.free {ws : List Addr} {H H' : Hp} (a : Ex ws H H') {p : Addr} (h : H' p = none) (n : p ∉ ws) : H p = none := by
  cases q : H p with
  | none => rfl
  | some o =>
    rw [a p o q n] at h
    cases h
theorem Ex.ne {ws : List Addr} {H H' : Hp} (a : Ex ws H H') {p q : Addr} {o : HO} (h : H q = some o) (hq : q ∉ ws) (hp : H' p = none) : q ≠ p := fun z => by
  rw [← z, a q o h hq] at hp
  cases hp
theorem small {n : Nat} (h : n ≤ 100000) : n ≤ sizeLine := Nat.le_trans h (by decide)
theorem smallL {n : Nat} (h : n ≤ 100000) : n < sizeLine := Nat.lt_of_le_of_lt h (by decide)
/-! ### data: None, truths, ints, texts, tuples of these -/
/-- without lists and dicts -/
def flat : PyData → Bool
  | .none => true
  | .bool _ => true
  | .int _ => true
  | .str _ => true
  | .list _ => false
  | .tuple xs => flats xs
  | .dict _ => false
where flats : List PyData → Bool
  | [] => true
  | d :: ds => flat d && flats ds
/-- the tuples that were there are there -/
def Tp (K : PySem.W.Frag) (H H' : Hp) : Prop := ∀ a xs, SqT K H a xs → SqT K H' a xs
theorem Ex.tp {K : PySem.W.Frag} {ws : List Addr} {H H' : Hp} (a : Ex ws H H') (h : ∀ b ∈ ws, ∀ xs, ¬ Rd H b (.tup xs)) : Tp K H H' := fun b xs q => by
  rcases q with (q | ⟨o, q⟩) | q
  · exact .inl (.inl (a b _ q fun m => h b m xs (.inl q)))
  · exact .inl (.inr ⟨o, a b _ q fun m => h b m xs (.inr ⟨o, q⟩)⟩)
  · exact .inr q
theorem Tp.refl (K : PySem.W.Frag) (H : Hp) : Tp K H H := fun _ _ h => h
theorem Tp.trans {K : PySem.W.Frag} {H H1 H2 : Hp} (a : Tp K H H1) (b : Tp K H1 H2) : Tp K H H2 := fun c xs h => b c xs (a c xs h)
theorem Tp.same {K : PySem.W.Frag} {H H' : Hp} (a : Same H H') : Tp K H H' := fun b xs q => by
  rcases q with (q | ⟨o, q⟩) | q
  · exact .inl (.inl (a b _ q))
  · exact .inl (.inr ⟨o, a b _ q⟩)
  · exact .inr q
/-- a list (or dict) that is written -/
theorem Tp.put {K : PySem.W.Frag} {H : Hp} {p : Addr} {o o' : HO} (h : H p = some o) (n1 : ∀ xs, o ≠ .tup xs) (n2 : ∀ u v, o ≠ .frz u v) : Tp K H (upd H p o') := fun b xs q => by
  rcases q with (q | ⟨u, q⟩) | q
  · have nb : b ≠ p := fun z => by
      rw [z, h] at q
      exact n1 xs (Option.some.inj q)
    exact .inl (.inl (by rw [upd_ne nb]; exact q))
  · have nb : b ≠ p := fun z => by
      rw [z, h] at q
      exact n2 _ _ (Option.some.inj q)
    exact .inl (.inr ⟨u, by rw [upd_ne nb]; exact q⟩)
  · exact .inr q
theorem Tp.lst {K : PySem.W.Frag} {H : Hp} {p : Addr} {xs : List V} {o' : HO} (h : H p = some (.lst xs)) : Tp K H (upd H p o') := Tp.put h (fun _ z => nomatch z) (fun _ _ z => nomatch z)
theorem Tp.dct {K : PySem.W.Frag} {H : Hp} {p : Addr} {xs : List (Key × V)} {o' : HO} (h : H p = some (.dK xs)) : Tp K H (upd H p o') := Tp.put h (fun _ z => nomatch z) (fun _ _ z => nomatch z)
theorem Tp.new {K : PySem.W.Frag} {H : Hp} {p : Addr} {o : HO} (h : H p = none) : Tp K H (upd H p o) := Tp.same (same_new h)
mutual
theorem dp_keep {K : PySem.W.Frag} {H H' : Hp} (t : Tp K H H') : ∀ (d : PyData) (v : V), flat d = true → Dp K H v d → Dp K H' v d
  | .none, _, _, h => by cases h; exact .non
  | .bool b, _, _, h => by cases h; exact .bl b
  | .int i, _, _, h => by cases h; exact .int i
  | .str x, _, _, h => by cases h; exact .str x
  | .list ds, _, f, _ => by simp [flat] at f
  | .tuple ds, _, f, h => by
    cases h with
    | tup q r => exact .tup (t _ _ q) (dps_keep t ds _ f r)
  | .dict ds, _, f, _ => by simp [flat] at f
theorem dps_keep {K : PySem.W.Frag} {H H' : Hp} (t : Tp K H H') : ∀ (ds : List PyData) (vs : List V), flat.flats ds = true → DpAll K H vs ds → DpAll K H' vs ds
  | [], _, _, h => by cases h; exact .nil
  | d :: ds, _, f, h => by
    rw [flat.flats, Bool.and_eq_true] at f
    cases h with
    | cons a b => exact .cons (dp_keep t d _ f.1 a) (dps_keep t ds _ f.2 b)
end
/-- flat data at v -/
def Fd (K : PySem.W.Frag) (H : Hp) (v : V) (d : PyData) : Prop := flat d = true ∧ Dp K H v d
theorem Fd.keep {K : PySem.W.Frag} {H H' : Hp} {v : V} {d : PyData} (h : Fd K H v d) (t : Tp K H H') : Fd K H' v d := ⟨h.1, dp_keep t d v h.1 h.2⟩
/-! ### rules within a comprehension: the written part by its name -/
section
variable {X : Cx} {K : PySem.W.Frag}
theorem ix_tupK (h : X.K = K) : IxR X (rIxT K) := h ▸ ix_tup
theorem ix_listK (h : X.K = K) : IxR X (rIxL K) := h ▸ ix_list
def rLenK (K : PySem.W.Frag) : List V → Hp → VK → Prop := fun xs H Q => ∃ p ys, xs = [.ref p] ∧ (SqL K H p ys ∨ SqT K H p ys) ∧ Q (.int ys.length) H
theorem call_len_seqK (h : X.K = K) : CallR X (.builtin "len") (rLenK K) := h ▸ call_len_seq
theorem pe_bm0K {T : String} {name : Str} {id : String} {r : V → List V → Hp → VK → Prop} {o : Expr} {to : TE} {apos cpos : Pos} (h : X.K = K) (pa : PlainAttrs T) (slot : Slot T name id) (hty : typeOf (.builtin id) = pure (.type "method_descriptor")) (hm : MtR X id r) (ho : PE X o to)
    (hbase : attributeBase o name X.env (eval o X.env) = eval o X.env := by rfl) (hline : (apos.endLine == cpos.line) = true := by rfl) : PE X (.Call (.Attribute o name apos) [] [] cpos) (tBM0 K T r to) := h ▸ pe_bm0 pa slot hty hm ho hbase hline
end
end Lm

set_option Elab.async false
set_option linter.all false
set_option maxRecDepth 100000
set_option maxHeartbeats 2000000
namespace Lm
open PySem PySem.Spec PyProof.Rows L2 LmR
/-! ### programs -/
inductive Bw where
  | least
  | most
  | atmost
  | both
  | either
def Bw.str : Bw → Str
  | .least => "least"
  | .most => "most"
  | .atmost => "atmost"
  | .both => "both"
  | .either => "either"
/-- the kind due to its parts; its own (true: truth) -/
def Bw.arg : Bw → Bool
  | .least => false
  | .most => false
  | .atmost => false
  | .both => true
  | .either => true
def Bw.own : Bw → Bool
  | .least => false
  | .most => false
  | .atmost => true
  | .both => true
  | .either => true
inductive Pg where
  | inp (k : Nat)
  | num (c : Int)
  | tr (b : Bool)
  | plus (c : Int) (a : Pg)
  | bin (w : Bw) (a b : Pg)
  | neg (a : Pg)
  | ite (p a b : Pg)
def trS : Bool → Str
  | true => "yes"
  | false => "no"
def kS : Bool → Str
  | true => "truth"
  | false => "num"
def word : Pg → Str
  | .inp _ => "in"
  | .num _ => "num"
  | .tr b => trS b
  | .plus _ _ => "plus"
  | .bin w _ _ => w.str
  | .neg _ => "not"
  | .ite _ _ _ => "if"
def enc : Pg → PyData
  | .inp k => .tuple [.str "in", .int k]
  | .num c => .tuple [.str "num", .int c]
  | .tr b => .tuple [.str (trS b)]
  | .plus c a => .tuple [.str "plus", .int c, enc a]
  | .bin w a b => .tuple [.str w.str, enc a, enc b]
  | .neg a => .tuple [.str "not", enc a]
  | .ite p a b => .tuple [.str "if", enc p, enc a, enc b]
theorem flat_enc : ∀ p : Pg, flat (enc p) = true
  | .inp _ => rfl
  | .num _ => rfl
  | .tr _ => rfl
  | .plus c a => by simp [enc, flat, flat.flats, flat_enc a]
  | .bin w a b => by simp [enc, flat, flat.flats, flat_enc a, flat_enc b]
  | .neg a => by simp [enc, flat, flat.flats, flat_enc a]
  | .ite p a b => by simp [enc, flat, flat.flats, flat_enc a, flat_enc b, flat_enc p]
/-- its kind by itself -/
def own (ks : List Bool) : Pg → Bool
  | .inp k => ks.getD k false
  | .num _ => false
  | .tr _ => true
  | .plus _ _ => false
  | .bin w _ _ => w.own
  | .neg _ => true
  | .ite _ a _ => own ks a
/-- it is let by -/
def Wk (ks : List Bool) : Pg → Prop
  | .inp k => k < ks.length
  | .num _ => True
  | .tr _ => True
  | .plus _ a => Wk ks a ∧ own ks a = false
  | .bin w a b => Wk ks a ∧ Wk ks b ∧ own ks a = w.arg ∧ own ks b = w.arg
  | .neg a => Wk ks a ∧ own ks a = true
  | .ite p a b => Wk ks p ∧ Wk ks a ∧ Wk ks b ∧ own ks p = true ∧ own ks b = own ks a
def parts : Pg → List Pg
  | .inp _ => []
  | .num _ => []
  | .tr _ => []
  | .plus _ a => [a]
  | .bin _ a b => [a, b]
  | .neg a => [a]
  | .ite p a b => [p, a, b]
def psz : Pg → Nat
  | .inp _ => 1
  | .num _ => 1
  | .tr _ => 1
  | .plus _ a => psz a + 1
  | .bin _ a b => psz a + psz b + 1
  | .neg a => psz a + 1
  | .ite p a b => psz p + psz a + psz b + 1
def dep : Pg → Nat
  | .inp _ => 1
  | .num _ => 1
  | .tr _ => 1
  | .plus _ a => dep a + 1
  | .bin _ a b => max (dep a) (dep b) + 1
  | .neg a => dep a + 1
  | .ite p a b => max (dep p) (max (dep a) (dep b)) + 1
def kn : Pg → List Pg
  | .inp k => [.inp k]
  | .num c => [.num c]
  | .tr b => [.tr b]
  | .plus c a => .plus c a :: kn a
  | .bin w a b => .bin w a b :: (kn a ++ kn b)
  | .neg a => .neg a :: kn a
  | .ite p a b => .ite p a b :: (kn p ++ (kn a ++ kn b))
theorem kn_len : ∀ p : Pg, (kn p).length = psz p
  | .inp _ => rfl
  | .num _ => rfl
  | .tr _ => rfl
  | .plus c a => by simp [kn, psz, kn_len a]
  | .bin w a b => by simp [kn, psz, kn_len a, kn_len b]
  | .neg a => by simp [kn, psz, kn_len a]
  | .ite p a b => by simp [kn, psz, kn_len a, kn_len b, kn_len p]; omega
theorem psz_pos (p : Pg) : 1 ≤ psz p := by cases p <;> simp [psz]
theorem dep_pos (p : Pg) : 1 ≤ dep p := by cases p <;> simp [dep]
theorem dep_le : ∀ p : Pg, dep p ≤ psz p
  | .inp _ => Nat.le_refl _
  | .num _ => Nat.le_refl _
  | .tr _ => Nat.le_refl _
  | .plus c a => by have := dep_le a; simp only [dep, psz]; omega
  | .bin w a b => by have := dep_le a; have := dep_le b; simp only [dep, psz]; omega
  | .neg a => by have := dep_le a; simp only [dep, psz]; omega
  | .ite p a b => by have := dep_le a; have := dep_le b; have := dep_le p; simp only [dep, psz]; omega
theorem kn_eq (p : Pg) : kn p = p :: (parts p).flatMap kn := by cases p <;> simp [kn, parts]
theorem psz_eq (p : Pg) : psz p = 1 + ((parts p).map psz).sum := by cases p <;> simp [psz, parts] <;> omega
/-- the things behind its word, as they stand in the tuple -/
def front : Pg → List V
  | .inp k => [.str "in", .int k]
  | .num c => [.str "num", .int c]
  | .tr b => [.str (trS b)]
  | .plus c _ => [.str "plus", .int c]
  | .bin w _ _ => [.str w.str]
  | .neg _ => [.str "not"]
  | .ite _ _ _ => [.str "if"]
/-- the program p stands at v -/
def At (K : PySem.W.Frag) (H : Hp) (v : V) (p : Pg) : Prop := Dp K H v (enc p)
def Ats (K : PySem.W.Frag) (H : Hp) (vs : List V) (ps : List Pg) : Prop := DpAll K H vs (ps.map enc)
theorem At.fd {K : PySem.W.Frag} {H : Hp} {v : V} {p : Pg} (h : At K H v p) : Fd K H v (enc p) := ⟨flat_enc p, h⟩
theorem At.keep {K : PySem.W.Frag} {H H' : Hp} {v : V} {p : Pg} (h : At K H v p) (t : Tp K H H') : At K H' v p := dp_keep t _ _ (flat_enc p) h
theorem flats_encs : ∀ ps : List Pg, flat.flats (ps.map enc) = true
  | [] => rfl
  | p :: ps => by simp [flat.flats, flat_enc p, flats_encs ps]
theorem Ats.keep {K : PySem.W.Frag} {H H' : Hp} {vs : List V} {ps : List Pg} (h : Ats K H vs ps) (t : Tp K H H') : Ats K H' vs ps := dps_keep t _ _ (flats_encs ps) h
theorem Ats.nil {K : PySem.W.Frag} {H : Hp} : Ats K H [] [] := DpAll.nil
theorem Ats.cons {K : PySem.W.Frag} {H : Hp} {v : V} {vs : List V} {p : Pg} {ps : List Pg} (h : At K H v p) (t : Ats K H vs ps) : Ats K H (v :: vs) (p :: ps) := DpAll.cons h t
theorem Ats.app {K : PySem.W.Frag} {H : Hp} : ∀ {vs us : List V} {ps qs : List Pg}, Ats K H vs ps → Ats K H us qs → Ats K H (vs ++ us) (ps ++ qs)
  | [], _, [], _, _, b => b
  | v :: vs, _, p :: ps, _, a, b => by
    cases a with
    | cons h t => exact Ats.cons h (Ats.app (vs := vs) (ps := ps) t b)
  | [], _, p :: ps, _, a, _ => by cases a
  | v :: vs, _, [], _, a, _ => by cases a
theorem Ats.len {K : PySem.W.Frag} {H : Hp} : ∀ {vs : List V} {ps : List Pg}, Ats K H vs ps → vs.length = ps.length
  | [], [], _ => rfl
  | v :: vs, p :: ps, a => by
    cases a with
    | cons h t => rw [List.length_cons, List.length_cons, Ats.len (vs := vs) (ps := ps) t]
  | [], p :: ps, a => by cases a
  | v :: vs, [], a => by cases a
theorem Ats.get {K : PySem.W.Frag} {H : Hp} : ∀ {vs : List V} {ps : List Pg}, Ats K H vs ps → ∀ (j : Nat) (v : V), vs[j]? = some v → ∃ p, ps[j]? = some p ∧ At K H v p
  | [], [], _, j, v, h => by simp at h
  | u :: vs, p :: ps, a, 0, v, h => by
    cases a with
    | cons x t =>
      have e := Option.some.inj h
      subst e
      exact ⟨p, rfl, x⟩
  | u :: vs, p :: ps, a, j + 1, v, h => by
    cases a with
    | cons x t => exact Ats.get (vs := vs) (ps := ps) t j v h
  | [], p :: ps, a, _, _, _ => by cases a
  | v :: vs, [], a, _, _, _ => by cases a
/-- the tuple that it is -/
theorem At.open {K : PySem.W.Frag} {H : Hp} {v : V} {p : Pg} (h : At K H v p) : ∃ (a : Addr) (vs : List V), v = .ref a ∧ SqT K H a (front p ++ vs) ∧ Ats K H vs (parts p) := by
  cases p with
  | inp k =>
    cases h with
    | tup q r =>
      cases r with
      | cons r1 r =>
        cases r with
        | cons r2 r =>
          cases r
          cases r1
          cases r2
          exact ⟨_, [], rfl, q, .nil⟩
  | num c =>
    cases h with
    | tup q r =>
      cases r with
      | cons r1 r =>
        cases r with
        | cons r2 r =>
          cases r
          cases r1
          cases r2
          exact ⟨_, [], rfl, q, .nil⟩
  | tr b =>
    cases h with
    | tup q r =>
      cases r with
      | cons r1 r =>
        cases r
        cases r1
        exact ⟨_, [], rfl, q, .nil⟩
  | plus c a =>
    cases h with
    | tup q r =>
      cases r with
      | cons r1 r =>
        cases r with
        | cons r2 r =>
          cases r1
          cases r2
          exact ⟨_, _, rfl, q, r⟩
  | bin w a b =>
    cases h with
    | tup q r =>
      cases r with
      | cons r1 r =>
        cases r1
        exact ⟨_, _, rfl, q, r⟩
  | neg a =>
    cases h with
    | tup q r =>
      cases r with
      | cons r1 r =>
        cases r1
        exact ⟨_, _, rfl, q, r⟩
  | ite p a b =>
    cases h with
    | tup q r =>
      cases r with
      | cons r1 r =>
        cases r1
        exact ⟨_, _, rfl, q, r⟩
theorem At.make {K : PySem.W.Frag} {H : Hp} {a : Addr} {vs : List V} {p : Pg} (h : SqT K H a (front p ++ vs)) (b : Ats K H vs (parts p)) : At K H (.ref a) p := by
  cases p with
  | inp k => cases b; exact .tup h (.cons (.str _) (.cons (.int _) .nil))
  | num k => cases b; exact .tup h (.cons (.str _) (.cons (.int _) .nil))
  | tr k => cases b; exact .tup h (.cons (.str _) .nil)
  | plus c a => exact .tup h (.cons (.str _) (.cons (.int _) b))
  | bin w a c => exact .tup h (.cons (.str _) b)
  | neg a => exact .tup h (.cons (.str _) b)
  | ite p a c => exact .tup h (.cons (.str _) b)
theorem Ats.one {K : PySem.W.Frag} {H : Hp} {vs : List V} {p : Pg} (h : Ats K H vs [p]) : ∃ v, vs = [v] ∧ At K H v p := by
  cases h with
  | cons a r =>
    cases r
    exact ⟨_, rfl, a⟩
theorem Ats.two {K : PySem.W.Frag} {H : Hp} {vs : List V} {p q : Pg} (h : Ats K H vs [p, q]) : ∃ u v, vs = [u, v] ∧ At K H u p ∧ At K H v q := by
  cases h with
  | cons a r =>
    cases r with
    | cons b r =>
      cases r
      exact ⟨_, _, rfl, a, b⟩
theorem Ats.three {K : PySem.W.Frag} {H : Hp} {vs : List V} {p q r : Pg} (h : Ats K H vs [p, q, r]) : ∃ u v w, vs = [u, v, w] ∧ At K H u p ∧ At K H v q ∧ At K H w r := by
  cases h with
  | cons a t =>
    cases t with
    | cons b t =>
      cases t with
      | cons c t =>
        cases t
        exact ⟨_, _, _, rfl, a, b, c⟩
/-! ### sums of sizes -/
theorem kn_le : ∀ (p q : Pg), q ∈ kn p → psz q ≤ psz p
  | .inp _, q, h => by simp [kn] at h; rw [h]; exact Nat.le_refl _
  | .num _, q, h => by simp [kn] at h; rw [h]; exact Nat.le_refl _
  | .tr _, q, h => by simp [kn] at h; rw [h]; exact Nat.le_refl _
  | .plus c a, q, h => by
    simp only [kn, List.mem_cons] at h
    rcases h with h | h
    · rw [h]; exact Nat.le_refl _
    · have := kn_le a q h; simp only [psz]; omega
  | .bin w a b, q, h => by
    simp only [kn, List.mem_cons, List.mem_append] at h
    rcases h with h | h | h
    · rw [h]; exact Nat.le_refl _
    · have := kn_le a q h; simp only [psz]; omega
    · have := kn_le b q h; simp only [psz]; omega
  | .neg a, q, h => by
    simp only [kn, List.mem_cons] at h
    rcases h with h | h
    · rw [h]; exact Nat.le_refl _
    · have := kn_le a q h; simp only [psz]; omega
  | .ite p a b, q, h => by
    simp only [kn, List.mem_cons, List.mem_append] at h
    rcases h with h | h | h | h
    · rw [h]; exact Nat.le_refl _
    · have := kn_le p q h; simp only [psz]; omega
    · have := kn_le a q h; simp only [psz]; omega
    · have := kn_le b q h; simp only [psz]; omega
theorem kn_wk (ks : List Bool) : ∀ (p q : Pg), Wk ks p → q ∈ kn p → Wk ks q
  | .inp _, q, w, h => by simp [kn] at h; rw [h]; exact w
  | .num _, q, w, h => by simp [kn] at h; rw [h]; exact w
  | .tr _, q, w, h => by simp [kn] at h; rw [h]; exact w
  | .plus c a, q, w, h => by
    simp only [kn, List.mem_cons] at h
    rcases h with h | h
    · rw [h]; exact w
    · exact kn_wk ks a q w.1 h
  | .bin _ a b, q, w, h => by
    simp only [kn, List.mem_cons, List.mem_append] at h
    rcases h with h | h | h
    · rw [h]; exact w
    · exact kn_wk ks a q w.1 h
    · exact kn_wk ks b q w.2.1 h
  | .neg a, q, w, h => by
    simp only [kn, List.mem_cons] at h
    rcases h with h | h
    · rw [h]; exact w
    · exact kn_wk ks a q w.1 h
  | .ite p a b, q, w, h => by
    simp only [kn, List.mem_cons, List.mem_append] at h
    rcases h with h | h | h | h
    · rw [h]; exact w
    · exact kn_wk ks p q w.1 h
    · exact kn_wk ks a q w.2.1 h
    · exact kn_wk ks b q w.2.2.1 h
end Lm

set_option Elab.async false
set_option linter.all false
set_option maxRecDepth 100000
set_option maxHeartbeats 2000000
/-! the flow that is drawn from -/
namespace Lm
open PySem PySem.Spec PyProof.Rows L2 LmR
def Flow (H : Hp) (f : Addr) : Prop := ∃ own cnt seed : Int, H f = some (.lst [.int own, .int cnt, .int seed]) ∧ 0 ≤ seed ∧ seed < 2 ^ 40
/-- the flow at f was drawn from, nothing else changed -/
structure Dr (f : Addr) (H H' : Hp) : Prop where
  off : ∀ b, b ≠ f → H' b = H b
  fl : Flow H' f
/-- the flow was drawn from, things were made -/
structure Gr (f : Addr) (H H' : Hp) : Prop where
  ex : Ex [f] H H'
  fl : Flow H' f
theorem Flow.lst {H : Hp} {f : Addr} (h : Flow H f) : ∃ xs, H f = some (.lst xs) := by
  obtain ⟨a, b, c, e, _⟩ := h
  exact ⟨_, e⟩
theorem Dr.g {f : Addr} {H H' : Hp} (d : Dr f H H') : Gr f H H' := ⟨fun b o h n => by
  rw [d.off b (fun z => n (by rw [z]; simp))]
  exact h, d.fl⟩
theorem Gr.trans {f : Addr} {H H1 H2 : Hp} (a : Gr f H H1) (b : Gr f H1 H2) : Gr f H H2 := ⟨a.ex.trans b.ex, b.fl⟩
theorem Gr.same {f : Addr} {H H' : Hp} (fl : Flow H f) (s : Same H H') : Gr f H H' := ⟨Ex.of_same s, by
  obtain ⟨x, y, z, e, r⟩ := fl
  exact ⟨x, y, z, s _ _ e, r⟩⟩
theorem Gr.new {f : Addr} {H : Hp} {p : Addr} {o : HO} (fl : Flow H f) (h : H p = none) : Gr f H (upd H p o) := Gr.same fl (same_new h)
theorem Gr.refl {f : Addr} {H : Hp} (fl : Flow H f) : Gr f H H := Gr.same fl (Same.refl H)
theorem Gr.tp {K : PySem.W.Frag} {f : Addr} {H H' : Hp} (a : Gr f H H') (h : Flow H f) : Tp K H H' := by
  obtain ⟨xs, e⟩ := h.lst
  refine a.ex.tp fun b hb ys q => ?_
  rw [List.mem_singleton.mp hb] at q
  rcases q with q | ⟨o, q⟩
  · rw [e] at q; cases q
  · rw [e] at q; cases q
theorem fl_ne {f : Addr} {H : Hp} (g : Flow H f) {D : Addr} (h : H D = none) : D ≠ f := fun z => by
  obtain ⟨xs, e⟩ := g.lst
  rw [z, e] at h
  cases h
theorem Gr.at {f : Addr} {H H' : Hp} (g : Gr f H H') {p : Addr} {o : HO} (h : H p = some o) (n : p ≠ f) : H' p = some o := g.ex p o h (by simp [n])
theorem Gr.put {f : Addr} {H H' : Hp} {p : Addr} {o : HO} (g : Gr f H H') (h : H p = none) (n : p ≠ f) : Gr f H (upd H' p o) := by
  refine ⟨fun b u e hb => ?_, ?_⟩
  · rw [upd_ne (ne_of_none e h)]
    exact g.ex b u e hb
  · obtain ⟨x, y, z, e, r⟩ := g.fl
    exact ⟨x, y, z, by rw [upd_ne (Ne.symm n)]; exact e, r⟩
theorem Dr.put {f : Addr} {H H0 : Hp} {xs : List V} (o : ∀ b, b ≠ f → H0 b = H b) (fl : Flow (upd H0 f (.lst xs)) f) : Dr f H (upd H0 f (.lst xs)) := ⟨fun b n => by rw [upd_ne n]; exact o b n, fl⟩
def kVs (ks : List Bool) : List V := ks.map fun b => V.str (kS b)
/-- its numbers are from -m to m -/
def Nb (m : Int) : Pg → Prop
  | .inp _ => True
  | .num c => -m ≤ c ∧ c ≤ m
  | .tr _ => True
  | .plus c a => (-m ≤ c ∧ c ≤ m) ∧ Nb m a
  | .bin _ a b => Nb m a ∧ Nb m b
  | .neg a => Nb m a
  | .ite p a b => Nb m p ∧ Nb m a ∧ Nb m b
theorem Nb.mono {m m' : Int} (h : m ≤ m') : ∀ p : Pg, Nb m p → Nb m' p
  | .inp _, _ => trivial
  | .num c, hp => ⟨by have := hp.1; omega, by have := hp.2; omega⟩
  | .tr _, _ => trivial
  | .plus c a, hp => ⟨⟨by have := hp.1.1; omega, by have := hp.1.2; omega⟩, Nb.mono h a hp.2⟩
  | .bin _ a b, hp => ⟨Nb.mono h a hp.1, Nb.mono h b hp.2⟩
  | .neg a, hp => Nb.mono h a hp
  | .ite p a b, hp => ⟨Nb.mono h p hp.1, Nb.mono h a hp.2.1, Nb.mono h b hp.2.2⟩
theorem nb_ex : ∀ p : Pg, ∃ M : Int, Nb M p
  | .inp _ => ⟨0, trivial⟩
  | .num c => ⟨(c.natAbs : Int), by constructor <;> omega⟩
  | .tr _ => ⟨0, trivial⟩
  | .plus c a => by
    obtain ⟨M, h⟩ := nb_ex a
    exact ⟨max M (c.natAbs : Int), ⟨by omega, by omega⟩, Nb.mono (by omega) a h⟩
  | .bin _ a b => by
    obtain ⟨M, h⟩ := nb_ex a
    obtain ⟨N, h'⟩ := nb_ex b
    exact ⟨max M N, Nb.mono (by omega) a h, Nb.mono (by omega) b h'⟩
  | .neg a => nb_ex a
  | .ite p a b => by
    obtain ⟨M, h⟩ := nb_ex a
    obtain ⟨N, h'⟩ := nb_ex b
    obtain ⟨O, h''⟩ := nb_ex p
    exact ⟨max M (max N O), Nb.mono (by omega) p h'', Nb.mono (by omega) a h, Nb.mono (by omega) b h'⟩
def Wn (ks : List Bool) (m : Int) (p : Pg) : Prop := Wk ks p ∧ Nb m p
end Lm

set_option Elab.async false
set_option linter.all false
set_option maxRecDepth 100000
set_option maxHeartbeats 2000000
namespace Lm
open PySem PySem.Spec PyProof.Rows L2 LmR
/-! ### a def called within an except suite, handed the exception -/
structure FnP (P : Program) (w : World) (K : PySem.W.Frag) (mg : Str → Option Value) (base : Heap) (p : Addr × Obj) (k : Nat) (f : Addr) (fd : FuncData) (ps : List Str) (sp : Sp) : Prop where
  len : ∀ vs H Q E, sp vs H Q E → vs.length = ps.length
  run : ∀ (A : Around) (outer : List Env) (s : Shared) (H : Hp) (args : Args) (us : List Value) (vs : List V) (Q : VK) (E : XK), L2H.RoomH k A → L2H.PinOk outer H s p → Env0 P w K mg base A outer s H → BindsTo s fd args (ps.zip us) → Vals vs us → sp vs H Q E →
    codeAny (model P w) A (.call (.ref f) args) (CR CX0 outer P w H s Q E) s
theorem fn_ofP {P : Program} {w : World} {K : PySem.W.Frag} {mg : Str → Option Value} {base : Heap} {k : Nat} {x : Str} {st : Stmt} {f : Addr} {fd : FuncData} {N ps : List Str} {sp : Sp} {p : Addr × Obj} (F : Fun K x x st f fd) (S : FnScope N ps (defScope st))
    (len : ∀ vs H Q E, sp vs H Q E → vs.length = ps.length)
    (hbody : ∀ (cdv : Value) (A : Around) (outer : List Env) (s : Shared) (H : Hp) (vs : List V) (Q : VK) (E : XK), L2H.RoomH k (A.deeper (envOfC x (defScope st) s.heap.objs.size f cdv)) → sp vs H Q E →
      ∃ t, PSs (L2H.cxH CX0 P w K mg base N x (defScope st) f cdv A outer s H E p) (defBody st) t ∧ t { nx := fun _ H' => Q .non H', rt := Q } (L2.start N vs) H) : FnP P w K mg base p (k + 1) f fd ps sp := by
  obtain ⟨oc, od, kV, doc, pm, an, cdv, ct, osl, rfl, lk, hcd⟩ := F.ex
  refine ⟨len, fun A outer s H args us vs Q E hr hpin e0 hb r hsp => ?_⟩
  have hl := len _ _ _ _ hsp
  have KX : K.In s.heap := e0.mod.kin.keeps fun b o e => (e0.bs b o e).1
  have lim : s.heap.NoLimit := e0.mod.nolimit.keeps fun b o e => (e0.bs b o e).1
  have hkind : ∀ y ∈ ps.zip us, (defScope st).names.lookup y.1 = some .local ∨ ((defScope st).names.lookup y.1 = some .cell ∧ ((cellsFrom (s.heap.objs.size + 1) (defScope st).names []).lookup y.1).isSome = true) := fun ⟨n, v⟩ hy => by
    rcases S.par n (List.of_mem_zip hy).1 with q | q
    · exact .inl q
    · exact .inr ⟨q, PySem.W.cellsFrom_some _ _ _ (.inl q)⟩
  refine codeAny_call_function hr.depth (KX _ _ lk) rfl S.co S.gen rfl (PySem.W.codeRec_of KX hcd) (hb _ _ _ _ ?_)
  refine wpAny_newFunctionEnv_cells S.kind hkind fun env he s1 y => ?_
  subst he
  refine ⟨lim.keeps y.toInCall.keep, codeAny_func ?_⟩
  obtain ⟨t, ht, hq⟩ := hbody cdv A outer s H vs Q E (hr.deeper _) hsp
  have I : Inv (L2H.cxH CX0 P w K mg base N x (defScope st) f cdv A outer s H E p) [] (L2.start N vs) H s1 := L2H.inv_startH S hpin e0 hl r y
  refine wpAny_mono (ht.run [] s1 (L2.start N vs) H _ I hq) (fun fl s' hs => ?_) fun e s' hs => hs
  have fin : ∀ {σ' : L2.St} {H' : Hp} {v : V} {u : Value}, Inv (L2H.cxH CX0 P w K mg base N x (defScope st) f cdv A outer s H E p) [] σ' H' s' → RelV v u → Q v H' → CE outer P w H s Q u s' :=
    fun {σ' H' v u} J rv q => ⟨v, H', J.os, J.bare, J.base, J.hok, rv, q⟩
  cases fl with
  | ret u =>
    obtain ⟨v, σ', H', J, rv, q⟩ := hs
    exact fin J rv q
  | next =>
    obtain ⟨σ', H', J, q⟩ := hs
    exact fin (v := V.non) (u := Value.none) J rfl q
  | brk =>
    obtain ⟨_, _, _, q⟩ := hs
    exact False.elim q
  | cont =>
    obtain ⟨_, _, _, q⟩ := hs
    exact False.elim q
theorem pe_callP {X : Cx} {k : Nat} {f : Addr} {fd : FuncData} {ps : List Str} {sp : Sp} {x : Str} {q pos : Pos} {e : Expr} {es : List Expr} {t : TA} {p : Addr × Obj} (F : FnP X.prog X.w X.K X.mg X.base p k f fd ps sp) (hr : L2H.RoomH k X.A) (hp : p ∈ X.pn) (hg : Gl X x) (hm : X.mg x = some (.ref f)) (hk : PySem.W.keepIn X.K (.ref f) = true) (hb : Binds X.K fd ps [])
    (ha : PA X (e :: es) t) (hdb : (x == ("__debug__" : Str)) = false := by decide) (he : starEach (e :: es) X.env = (false, eval e X.env) :: starEach es X.env := by rfl) (hpl : (backTo pos (starEach es X.env)).any (·.1) = false := by rfl) :
    PE X (.Call (.Name x q) (e :: es) [] pos) (tCall sp [] (fun _ _ _ => False) t) := by
  refine ⟨fun pins s σ H Q I h => ?_⟩
  refine wpAny_Call_Name_kw (ld_glob I hg hm ?_ hdb)
  refine PySem.W.callWith_K (h₀ := X.base) I.ok.mod.kin hk (thn (ha.run pos pins s σ H _ I h) fun us s1 ⟨vs, H1, I1, r, q⟩ => ⟨I1.kIn, ?_⟩) he hpl
  have q : sp vs H1 Q (fun _ _ _ => False) := by
    have z : sp (vs ++ []) H1 Q (fun _ _ _ => False) := q
    rw [List.append_nil] at z
    exact z
  have hl : us.length = ps.length := by rw [← r.length]; exact F.len _ _ _ _ q
  have b := hb s1 us I1.kIn (by rw [List.append_nil]; exact hl)
  rw [List.append_nil] at b
  have P1 := I1.pin p (List.mem_append_left _ hp)
  have hpin : L2H.PinOk X.stack H1 s1 p := ⟨P1.1, P1.2.1, fun hm => (List.mem_cons.mp (I1.stkSub p.1 hm)).elim P1.2.2.1 P1.2.2.2.1, P1.2.2.2.2⟩
  refine wpAny_call (codeAny_mono (F.run X.A X.stack s1 H1 ⟨us, []⟩ us vs Q (fun _ _ _ => False) hr hpin I1.env0 b r q) fun r s' hq => ?_)
  cases r with
  | error e => exact hq.elim
  | ok fl =>
    cases fl with
    | ret u => exact I1.after hq
    | next => exact False.elim hq
    | brk => exact False.elim hq
    | cont => exact False.elim hq
/-! ### isinstance of an exception that is pinned -/
structure ExK (K : PySem.W.Frag) (C : Addr) : Prop where
  cl : (PySem.W.clsIn K C).isSome = true
  ga : PySem.W.findIn K (.ref C) "__getattribute__" = some (some (.builtin "BaseException.__getattribute__"))
  gg : PySem.W.findIn K (.ref C) "__getattr__" = some none
  ex : PySem.W.subIn K (.ref C) (.type "BaseException") = some true
  ca : PySem.W.findIn K (.ref C) "__class__" = some (some (.builtin "object.__class__"))
  gn : PySem.W.specialIn K (.builtin "object.__class__") "__get__" = some (some (.builtin "getset_descriptor.__get__"))
  tk : PySem.W.takesIn K (.builtin "object.__class__") = some true
  ob : PySem.W.mroIn K C (.type "object") = some true
/-- isinstance(e, c), e the exception at a of the class at C -/
def rIsP (K : PySem.W.Frag) (C a : Addr) : List V → Hp → VK → Prop := fun xs H Q => ∃ (D : Addr) (b : Bool), xs = [.ref a, .ref D] ∧ PySem.W.kitOne K (.ref C) (.ref D) = some b ∧ Q (.bl b) H
theorem call_isP {X : Cx} {a C : Addr} {oe : Obj} {dct : Option Addr} (k : ExK X.K C) (hz : Zc (.ref C) dct oe) (hf : ∃ vs, oe.data = .fields vs) (hp : (a, oe) ∈ X.pn) (hd : ∀ pins σ H s, Inv X pins σ H s → ∃ od : Option Obj, PySem.W.InstAt s.heap a oe C od) : CallR X (.builtin "isinstance") (rIsP X.K C a) := by
  intro pins s σ H xs us Q I r h
  obtain ⟨D, b, rfl, e, q⟩ := h
  obtain ⟨u1, u2, rfl, r1, r2⟩ := vals2 r
  cases (show u1 = Value.ref a from r1)
  cases (show u2 = Value.ref D from r2)
  obtain ⟨od, J⟩ := hd pins σ H s I
  exact PySem.W.kia_one (PySem.W.kitx_exc k.cl k.ga k.gg k.ex k.ca k.gn k.tk k.ob) I.kIn J e (fun z => nomatch z) fun tk => ⟨.bl b, H, I.tok tk, rfl, q⟩
/-! ### xs.count(True) of truths -/
theorem mt_countB {X : Cx} : MtR X "list.count" (fun x xs H Q => ∃ (p : Addr) (bs : List Bool), x = .ref p ∧ xs = [.bl true] ∧ SqL X.K H p (bs.map V.bl) ∧ Q (.int (bs.count true : Nat)) H) := by
  intro pins s σ H x xs v us Q I rx rxs h
  obtain ⟨p, bs, rfl, rfl, hs, q⟩ := h
  cases rx
  obtain ⟨u, rfl, ru⟩ := rxs.one
  cases (show u = Value.bool true from ru)
  obtain ⟨its, rv, ⟨⟨cls, dd, data, sl⟩, n, ho, hc, hdn, hd⟩, hlen⟩ := I.list hs
  simp only at hc hd
  subst hc hd
  have key : ∀ (bs : List Bool) (its : List Value), Vals (bs.map V.bl) its → its = bs.map Value.bool := by
    intro bs
    induction bs with
    | nil => intro its r; cases r; rfl
    | cons b bs ih =>
      intro its r
      cases r with
      | cons a r =>
        rename_i u us'
        rw [List.map_cons, ih us' r]
        congr 1
  have ei := key bs its rv
  subst ei
  let g : Value → Bool := fun y => y == .bool true
  refine call_meets PySem.F.slot_list_count ⟨_, ho, rfl⟩ PySem.F.entry_list_count (PySem.F.args_list_count_2 _ _)
    (SeqAt.list_countAt p (bs.map Value.bool).toArray n dd sl (.bool true) g) ⟨ho, fun y hy => ?_, ?_⟩
  · have hy' : y ∈ bs.map Value.bool := by simpa using hy
    obtain ⟨b, _, rfl⟩ := List.mem_map.mp hy'
    have eg : g (.bool b) = eqV (.bl b) (.bl true) := by cases b <;> rfl
    rw [eg]
    exact eqAt_V (y := .bl b) (x := .bl true) rfl rfl rfl rfl
  · have ec : ((bs.map Value.bool).toArray.toList.countP g) = bs.count true := by
      show (bs.map Value.bool).countP g = _
      rw [List.countP_map]
      unfold List.count
      congr 1
      funext b
      cases b <;> rfl
    refine ⟨.int (bs.count true : Nat), H, I.tok _, ⟨s.toks, ?_⟩, q⟩
    show Value.int (((bs.map Value.bool).toArray.toList.countP g : Nat) : Int) s.toks = Value.int ((bs.count true : Nat) : Int) s.toks
    rw [ec]
end Lm

set_option Elab.async false
set_option linter.all false
set_option maxRecDepth 100000
set_option maxHeartbeats 2000000
namespace Lm
open PySem PySem.Spec PyProof.Rows L2 LmR
abbrev oEnum (a : Addr) : Obj := { cls := .type "enumerate", data := .fields #[.none, .bool false, .ref a, rawInt 0, .none, .none] }
/-- enumerate(v): two new cells -/
theorem enum_new1 {v : Value} {o : Obj} {G : Heap → Prop} (B : Begins v o G) :
    Meets (Builtin.«enumerate.__new__» ⟨[.type "enumerate", v], []⟩) (fun _ R s => G s.heap ∧ R (.ok (.ret (.ref (s.heap.push o).objs.size))) { s with heap := (s.heap.push o).push (oEnum s.heap.objs.size) }) :=
  .of_wp fun prog w A R s hh => by
    obtain ⟨hp, g, d, tk, os⟩ := s
    obtain ⟨hG, hR⟩ := hh
    have hsub := sub_enumerate
    have go : ∀ {A' : Around} {E : Value → Shared → Prop} {Q : Value → Shared → Prop}, Q (.ref hp.objs.size) ⟨hp.push o, g, d, tk, os⟩ → wpAny (model prog w) A' (pyIter v) Q E ⟨hp, g, d, tk, os⟩ :=
      fun q => B.iter prog w _ _ _ _ hG q
    wp_walk using go
    refine wpAny_stack_any fun st => wpAny_pure ?_
    split
    · rename_i c _ _ _ _ _
      cases (c == Value.type "enumerate") <;> (wp_walk using go; exact ⟨_, rfl, hR⟩)
    · wp_walk using go
      exact ⟨_, rfl, hR⟩
theorem enum_call1 {prog : Program} {w : World} {A : Around} {E : Value → Shared → Prop} {s : Shared} {v : Value} {o : Obj} {G : Heap → Prop} {Q : Value → Shared → Prop} (B : Begins v o G) (hG : G s.heap)
    (hQ : ∀ h2, IsEnum h2 (s.heap.objs.size + 1) s.heap.objs.size 0 .none → h2.get? s.heap.objs.size = some o → (∀ b ob, s.heap.get? b = some ob → h2.get? b = some ob) → Q (.ref (s.heap.objs.size + 1)) { s with heap := h2 }) :
    wpAny (model prog w) A (call (.type "enumerate") [v]) Q E s := by
  refine callType_new F.called_enumerate (by decide) (F.typeCall_enumerate_1 _) (F.newCall_enumerate_1 _) (fun obj => F.args_object_init_2 obj _) F.entry_enumerate_new (enum_new1 B) ⟨hG, ?_⟩
  have z : (s.heap.push o).objs.size = s.heap.objs.size + 1 := Heap.size_push ..
  show _ ∧ _
  rw [z]
  have he : IsEnum ((s.heap.push o).push (oEnum s.heap.objs.size)) (s.heap.objs.size + 1) s.heap.objs.size 0 .none := by
    have y := Heap.get?_push_size (s.heap.push o) (o := oEnum s.heap.objs.size) rfl
    rw [z] at y
    exact y
  exact ⟨⟨_, he, rfl⟩, hQ _ he (Heap.get?_push_of_some _ (Heap.get?_push_size _ B.free)) fun b ob x => Heap.get?_push_of_some _ (Heap.get?_push_of_some _ x)⟩
theorem enum_over {prog : Program} {w : World} {A : Around} {E : Value → Shared → Prop} {s : Shared} {e it a : Addr} {i : Nat} {items : Array Value} {c : Int} {old : Value} {Q : Option Value → Shared → Prop} (hd : A.handled = none)
    (he : IsEnum s.heap e it c old) (hit : s.heap.IsTupleIter it a i) (ht : s.heap.IsTuple a items) (hx : items[i]? = none) (hQ : ∀ h2, Heap.ExtBut it s.heap h2 → Q none { s with heap := h2 }) : wpAny (model prog w) A (pyNext (.ref e)) Q E s := by
  have D : Draws prog w A.in1 it [it, a] i (fun _ _ => True) (fun j h => j = i ∧ h.IsTupleIter it a i ∧ h.IsTuple a items) :=
    { live := fun _ _ st => by obtain ⟨_, ⟨o, ho, _⟩, _⟩ := st; exact ⟨o, ho⟩
      frame := fun _ _ _ st hk => ⟨st.1, st.2.1.at fun o q => hk it (by simp) o q, st.2.2.at fun o q => hk a (by simp) o q⟩
      item := fun j s Q E hj st _ => absurd st.1 (Nat.ne_of_lt hj)
      done := fun s Q E st hE => wpAny_nextOf_tuple_end (by first | exact hd | (show A.in1.handled = none; exact hd)) st.2.1 st.2.2 hx hE }
  exact wpAny_pyNext_enum_endD D he ⟨rfl, hit, ht⟩ hQ
/-- the tuple at a: each item, its number ahead of it, in a new pair -/
def IteT (K : PySem.W.Frag) (a : Addr) : It :=
  ⟨fun i H => ∃ (xs : List V) (x : V), SqT K H a xs ∧ xs[i]? = some x,
    fun i H v H' => ∃ T x, v = .ref T ∧ H T = none ∧ H' = upd H T (.tup [.int (i : Nat), x]) ∧ ∀ xs, SqT K H a xs → xs[i]? = some x,
    fun i H => ∃ xs : List V, SqT K H a xs ∧ xs.length ≤ i⟩
theorem turn_enumT {P : Program} {w : World} {K : PySem.W.Frag} {elts : List Expr} {kk : Nat} {tpos : Pos} (a e it : Addr) :
    Turn P w K (.Tuple elts kk tpos) (IteT K a) [e, it] e (fun i h => (∃ old, IsEnum h e it ((i : Nat) : Int) old) ∧ h.IsTupleIter it a i ∧ e ≠ it ∧ a ≠ e ∧ a ≠ it) where
  mem := by simp
  obj := fun i h st b hb => by
    obtain ⟨⟨old, he⟩, ⟨o, ho, hc, hd⟩, _⟩ := st
    have e' : b = e ∨ b = it := by simpa using hb
    rcases e' with z | z
    · rw [z]; exact ⟨_, he, fun v q => nomatch q⟩
    · rw [z]; exact ⟨o, ho, fun v q => by rw [hd] at q; cases q⟩
  keep := fun i h h' st k => by
    obtain ⟨⟨old, he⟩, hi, r⟩ := st
    exact ⟨⟨old, k e (by simp) _ he⟩, hi.at fun o q => k it (by simp) o q, r⟩
  item := by
    intro X hP hw hK hc i pins s σ H E I hf st hg
    subst hP hw hK
    obtain ⟨⟨old, he⟩, hit, hne, hae, hai⟩ := st
    obtain ⟨xs, x, hq, hx⟩ := hg
    obtain ⟨its, rv, p, hz⟩ := I.tuple hq
    obtain ⟨u, hu, ru⟩ := rv.get hx
    have ht : s.heap.IsTuple a its.toArray := p
    have hel : e < s.heap.objs.size := Heap.lt_size he
    have hil : it < s.heap.objs.size := by obtain ⟨_, q, _⟩ := hit; exact Heap.lt_size q
    have D := Draws.tuple (prog := X.prog) (w := X.w) (A := X.A.in1) (I.ok.hd hc) it a hai its.toArray
    have hlt : i < its.toArray.size := by
      have z : i < its.length := (List.getElem?_eq_some_iff.mp hu).1
      simpa using z
    refine wpAny_pyNext_enum_itemD D he ⟨hit, ht⟩ hlt hne (by simp [hne, Ne.symm hae]) fun y h' tk hy ho hst hT hsz hk => ?_
    have ey : y = u := by
      have z : its[i]? = some y := by simpa using hy
      rw [hu] at z
      exact (Option.some.inj z).symm
    subst ey
    refine ⟨_, rfl, wpAny_letOwnedTupleGo_enum (s := { s with heap := h', toks := tk + 1 }) ho fun h'' he' sb => ?_⟩
    have hT2 : h''.get? s.heap.objs.size = some { cls := .type "tuple", data := .seq #[.int i tk, y] } := (sb.2 _ (Nat.ne_of_gt hel)).trans hT
    have new : ObjOk X.prog X.w (upd H s.heap.objs.size (.tup [.int (i : Nat), x])) h'' s.heap.objs.size (.tup [.int (i : Nat), x]) :=
      ⟨by show 2 ≤ sizeLine; decide, [.int i tk, y], .cons ⟨_, rfl⟩ (.cons ru .nil), ⟨_, hT2, rfl, _, rfl⟩⟩
    have I1 : Inv X pins σ (upd H s.heap.objs.size (.tup [.int (i : Nat), x])) { s with heap := h'', toks := tk + 1 } :=
      I.turnedNew (ch := [e, it]) (fun b ob hb q => (sb.2 b (fun z => hb (by simp [z]))).trans (hk b ob (fun z => hb (by simp [z])) (fun z => hb (by simp [z])) q)) hf (Nat.le_refl _) new
    have fr : H s.heap.objs.size = none := I.hok.fresh (Nat.le_refl _)
    refine ⟨.ref s.heap.objs.size, _, I1, rfl, ⟨_, x, rfl, fr, rfl, fun ys hy => by rw [I.tuple_inj hy hq]; exact hx⟩, ⟨⟨y, ?_⟩, hst.1.at fun o q => (sb.2 it (Ne.symm hne)).trans q, hne, hae, hai⟩, fun b hb => ?_⟩
    · have e1 : ((i + 1 : Nat) : Int) = (i : Int) + 1 := by omega
      rw [e1]; exact he'
    · have e' : b = e ∨ b = it := by simpa using hb
      have hb' : b < s.heap.objs.size := by rcases e' with z | z <;> rw [z] <;> assumption
      rw [upd_ne (Nat.ne_of_lt hb')]
      exact (hf b hb).1
  done := by
    intro X hP hw hK hc i pins s σ H E I hf st hg
    subst hP hw hK
    obtain ⟨⟨old, he⟩, hit, hne, hae, hai⟩ := st
    obtain ⟨xs, hq, hx⟩ := hg
    obtain ⟨its, rv, p, hz⟩ := I.tuple hq
    have ht : s.heap.IsTuple a its.toArray := p
    obtain ⟨f0, f1, f2, f3, f4, f5⟩ := hf it (by simp)
    have hl := rv.length
    have hT : s.TypeIs (.ref e) "enumerate" := ⟨_, he, rfl⟩
    refine enum_over (I.ok.hd hc) he hit ht (by simp; omega) fun h' eb => ⟨rfl, I.turned (t' := s.toks) (fun b o hb q => eb b o hb q) f0 f1 f3 f4 f5⟩
  self := fun A i s Q E st h => by
    obtain ⟨⟨_, he⟩, _⟩ := st
    exact wpAny_pyIter_enum he h
def iEnumT (K : PySem.W.Frag) (ta : TA) : TI := fun σ H R => ta σ H fun vs H1 => ∃ a xs, vs = [.ref a] ∧ SqT K H1 a xs ∧ R (IteT K a) H1
theorem pi_enumT {X : Cx} {e : Expr} {ta : TA} {p pos tpos : Pos} {elts : List Expr} {kk : Nat} (hg : Gl X "enumerate") (hm : X.mg "enumerate" = none) (ha : PA X [e] ta) (hs : starEach [e] X.env = [(false, eval e X.env)] := by rfl) :
    PI X (.Tuple elts kk tpos) (.Call (.Name "enumerate" p) [e] [] pos) (iEnumT X.K ta) := by
  refine ⟨fun pins s σ H R I h => ?_⟩
  refine Call_ (ld_blt I hg hm boot_enumerate (PyProof.Rows.callWith_type1 (thn (ha.run pos pins s σ H _ I h) fun us s1 ⟨vs, H1, I1, r1, q1⟩ => ?_) hs rfl))
  obtain ⟨a, xs, ex, hq, q⟩ := q1
  subst ex
  cases r1 with
  | cons r rr =>
    cases rr
    cases r
    obtain ⟨its, rv, pt, hz⟩ := I1.tuple hq
    have ht : s1.heap.IsTuple a its.toArray := pt
    have hal : a < s1.heap.objs.size := by obtain ⟨_, q, _⟩ := ht; exact Heap.lt_size q
    refine enum_call1 (begins_tuple a its.toArray) ht fun h2 he hit hk => wpAny_pyIter_enum he ?_
    have I2 : Inv X pins σ H1 { s1 with heap := h2 } := I1.kept (t' := s1.toks) hk
    refine ⟨s1.heap.objs.size + 1, [s1.heap.objs.size + 1, s1.heap.objs.size], _, _, H1, rfl, I2, turn_enumT a (s1.heap.objs.size + 1) s1.heap.objs.size, ⟨⟨.none, he⟩, ⟨_, hit, rfl, rfl⟩, Nat.succ_ne_self _, Nat.ne_of_lt (Nat.lt_succ_of_lt hal), Nat.ne_of_lt hal⟩, fun b hb => ?_, q⟩
    have e' : b = s1.heap.objs.size + 1 ∨ b = s1.heap.objs.size := by simpa using hb
    have hle : s1.heap.objs.size ≤ b := by rcases e' with z | z <;> rw [z] <;> first | exact Nat.le_succ _ | exact Nat.le_refl _
    exact I1.fpOk hle (I1.hok.fresh hle)
end Lm

set_option Elab.async false
set_option linter.all false
set_option maxRecDepth 100000
set_option maxHeartbeats 2000000
namespace Lm
open PySem PySem.Spec PyProof.Rows L2 LmR
/-! ### defs that may refuse -/
def CalX (P : Program) (w : World) (K : PySem.W.Frag) (mg : Str → Option Value) (base : Heap) (k : Nat) (x : Str) (ps : List Str) (sp : Sp) : Prop :=
  ∃ f fd, FnOk P w K mg base (L2.CX P w) k f fd ps sp ∧ mg x = some (.ref f) ∧ PySem.W.keepIn K (.ref f) = true ∧ Binds K fd ps [] ∧ ∃ st, Fun K x x st f fd
section
variable {P : Program} {w : World} {K : PySem.W.Frag} {mg : Str → Option Value} {base : Heap}
theorem calx_of {x : Str} {st : Stmt} {N ps : List Str} {k : Nat} {sp : Sp} (D : DefAt K mg x st ps) (S : FnScope N ps (defScope st)) (len : ∀ vs H Q E, sp vs H Q E → vs.length = ps.length)
    (hbody : ∀ (f : Addr) (cdv : Value) (A : Around) (outer : List Env) (s : Shared) (H : Hp) (vs : List V) (Q : VK) (E : XK), Room k (A.deeper (envOfC x (defScope st) s.heap.objs.size f cdv)) → sp vs H Q E →
      ∃ t, PSs (cxOf (L2.CX P w) P w K mg base N x (defScope st) f cdv A outer s H E) (defBody st) t ∧ t { nx := fun _ H' => Q .non H', rt := Q } (start N vs) H) : CalX P w K mg base (k + 1) x ps sp := by
  obtain ⟨f, fd, F, b, g⟩ := D
  exact ⟨f, fd, F.okX S len (hbody f), g, F.kp, b, _, F⟩
end
theorem pe_calX {X : Cx} {W : WX} {k : Nat} {x : Str} {ps : List Str} {sp : Sp} {e : Expr} {es : List Expr} {t : TA} {p pos : Pos} (C : CalX X.prog X.w X.K X.mg X.base k x ps sp) (tk : Takes X W) (hr : Room k X.A) (hg : Gl X x) (ha : PA X (e :: es) t)
    (hdb : (x == ("__debug__" : Str)) = false := by decide) (he : starEach (e :: es) X.env = (false, eval e X.env) :: starEach es X.env := by rfl) (hpl : (backTo pos (starEach es X.env)).any (·.1) = false := by rfl) :
    PE X (.Call (.Name x p) (e :: es) [] pos) (tCallS sp (WE W) t) := by
  obtain ⟨f, fd, F, g, kp, b, _⟩ := C
  exact pe_callS F hr hg g kp b (fun σ => passAt tk σ) ha hdb he hpl
/-! ### classes of refusals -/
/-- the class x at C, its __init__ (st) keeps the fields fs -/
structure Rf (K : PySem.W.Frag) (mg : Str → Option Value) (x q : Str) (C fI : Addr) (fd : FuncData) (st : Stmt) (fs : List Str) : Prop where
  g : mg x = some (.ref C)
  o : OexC K C
  f : XfC K C
  k : ExK K C
  te : PySem.W.exmOne K (.ref C) (.ref C) = some true
  fld : ∀ n ∈ fs, PySem.W.findIn K (.ref C) n = some none
  iC : PySem.W.findIn K (.ref C) "__init__" = some (some (.ref fI))
  tI : PySem.W.typeIn K (.ref fI) = some (.type "function")
  F : Fun K "__init__" q st fI fd
  b : Binds K fd ("self" :: fs) []
/-- __init__(self, f, g) -/
def spIni2 (C : Addr) (f g : Str) : Sp := fun vs H Q E => ∃ a x y, vs = [.ref a, x, y] ∧ H a = some (exo a C none) ∧
  ∀ (d : Addr) (H' : Hp), H d = none → H' a = some (exo a C (some d)) → H' d = some (exd d [(g, y), (f, x)]) → (∀ b, b ≠ a → b ≠ d → H' b = H b) → Q .non H'
def spIni1 (C : Addr) (f : Str) : Sp := fun vs H Q E => ∃ a x, vs = [.ref a, x] ∧ H a = some (exo a C none) ∧
  ∀ (d : Addr) (H' : Hp), H d = none → H' a = some (exo a C (some d)) → H' d = some (exd d [(f, x)]) → (∀ b, b ≠ a → b ≠ d → H' b = H b) → Q .non H'
/-- what refusing leaves: the fields at d, all else as it was -/
def Raised (H H' : Hp) (d : Addr) (fs : List (Str × V)) : Prop := H d = none ∧ H' d = some (.xd fs) ∧ ∀ b, b ≠ d → H' b = H b
theorem Raised.same {H H' : Hp} {d : Addr} {fs : List (Str × V)} (r : Raised H H' d fs) : Same H H' := fun b o e => by
  have n : b ≠ d := fun z => by rw [z, r.1] at e; cases e
  rw [r.2.2 b n]; exact e
theorem mk_two {C : Addr} {f g : Str} {x y : V} {H : Hp} {Q : XK} (hq : ∀ d H', Raised H H' d [(g, y), (f, x)] → Q (.ref C) (some d) H') :
    [x, y].length ≤ 1000 ∧ ∀ a, H a = none → spIni2 C f g (.ref a :: ([x, y] ++ [])) (upd H a (exo a C none))
      (fun v H2 => v = .non ∧ ∃ (d : Addr) (fs : List (Str × V)), H2 a = some (exo a C (some d)) ∧ H2 d = some (exd d fs) ∧ H d = none ∧ Q (.ref C) (some d) (upd (del H2 a) d (.xd fs))) (fun _ _ _ => False) := by
  refine ⟨by show 2 ≤ 1000; decide, fun a ha => ⟨a, x, y, rfl, upd_same, fun d H' hd h1 h2 h3 => ⟨rfl, d, _, h1, h2, ?_, hq d _ ⟨?_, upd_same, fun b hb => ?_⟩⟩⟩⟩
  all_goals
    have nd : d ≠ a := fun z => by rw [z, upd_same] at hd; cases hd
  · rw [upd_ne nd] at hd; exact hd
  · rw [upd_ne nd] at hd; exact hd
  · rw [upd_ne hb]
    by_cases z : b = a
    · rw [z, del_same, ha]
    · rw [del_ne z, h3 b z hb, upd_ne z]
theorem mk_one {C : Addr} {f : Str} {x : V} {H : Hp} {Q : XK} (hq : ∀ d H', Raised H H' d [(f, x)] → Q (.ref C) (some d) H') :
    [x].length ≤ 1000 ∧ ∀ a, H a = none → spIni1 C f (.ref a :: ([x] ++ [])) (upd H a (exo a C none))
      (fun v H2 => v = .non ∧ ∃ (d : Addr) (fs : List (Str × V)), H2 a = some (exo a C (some d)) ∧ H2 d = some (exd d fs) ∧ H d = none ∧ Q (.ref C) (some d) (upd (del H2 a) d (.xd fs))) (fun _ _ _ => False) := by
  refine ⟨by show 1 ≤ 1000; decide, fun a ha => ⟨a, x, rfl, upd_same, fun d H' hd h1 h2 h3 => ⟨rfl, d, _, h1, h2, ?_, hq d _ ⟨?_, upd_same, fun b hb => ?_⟩⟩⟩⟩
  all_goals
    have nd : d ≠ a := fun z => by rw [z, upd_same] at hd; cases hd
  · rw [upd_ne nd] at hd; exact hd
  · rw [upd_ne nd] at hd; exact hd
  · rw [upd_ne hb]
    by_cases z : b = a
    · rw [z, del_same, ha]
    · rw [del_ne z, h3 b z hb, upd_ne z]
theorem pass_no {X : Cx} : Passes (L2.CX X.prog X.w) X (fun _ _ _ => False) := fun _ _ _ _ _ _ _ c => by
  obtain ⟨_, _, _, _, _, _, _, _, _, _, _, _, z⟩ := c
  exact z.elim
/-- raise x(e, ..) -/
theorem ps_ref {X : Cx} {W : WX} {x q : Str} {C fI : Addr} {fd : FuncData} {st : Stmt} {fs : List Str} {sp : Sp} {k : Nat} {e : Expr} {es : List Expr} {ta : TA} {p pos pos' : Pos} (R : Rf X.K X.mg x q C fI fd st fs) (F : FnOk X.prog X.w X.K X.mg X.base (L2.CX X.prog X.w) k fI fd ("self" :: fs) sp) (hr : Room (k + 1) X.A)
    (hc : X.calm = true) (tk : Takes X W) (hg : Gl X x) (ha : PA X (e :: es) ta)
    (hdb : (x == ("__debug__" : Str)) = false := by decide) (he : starEach (e :: es) X.env = (false, eval e X.env) :: starEach es X.env := by rfl) (hpl : (backTo pos (starEach es X.env)).any (·.1) = false := by rfl) :
    PS X (.Raise (some (.Call (.Name x p) (e :: es) [] pos)) none pos') (fun _ σ H => tMkO C sp [] ta σ H fun cls d H' => W cls d σ H') :=
  ps_raise hc tk (pmk_oex R.o R.iC R.tI F hr R.b .nil pass_no hg R.g ha hdb he hpl)
end Lm
namespace Lm
open PySem PySem.Spec PyProof.Rows L2 LmR
/-! ### x not in a tuple of texts, x any flat data -/
def strIn (ss : List Str) : PyData → Bool
  | .str s => ss.any fun y => y == s
  | _ => false
def rNotInD (K : PySem.W.Frag) : R2 := fun x y H Q => ∃ (p : Addr) (ss : List Str) (d : PyData), y = .ref p ∧ SqT K H p (ss.map V.str) ∧ Fd K H x d ∧ Q (.bl (!strIn ss d)) H
theorem all_str : ∀ ss : List Str, (ss.map V.str).all flatV = true
  | [] => rfl
  | _ :: ss => by rw [List.map_cons, List.all_cons, all_str ss]; rfl
theorem inV_str (ss : List Str) (x : V) (d : PyData) (h : ∀ y : Str, eqV (.str y) x = strIn [y] d) : inV x (ss.map V.str) = strIn ss d := by
  unfold inV
  induction ss with
  | nil => cases d <;> rfl
  | cons s ss ih =>
    rw [List.map_cons, List.any_cons, ih, h s]
    cases d with
    | str z => simp [strIn]
    | _ => rfl
theorem op_notInD {X : Cx} {K : PySem.W.Frag} (hK : X.K = K) (hu : X.A.units + 1 < cLine) : OpR X (compareOp .NotIn) (rNotInD K) := by
  subst hK
  intro pins s σ H x y v u Q I rx ry h
  obtain ⟨p, ss, d, rfl, hq, ⟨fd, hd⟩, q⟩ := h
  by_cases ht : ∃ ds, d = .tuple ds
  · obtain ⟨ds, rfl⟩ := ht
    cases hd with
    | tup qa r =>
      rename_i a vs
      cases rx
      cases ry
      obtain ⟨its, rv, pl, hz⟩ := I.tuple hq
      obtain ⟨itz, rz, plz, hzz⟩ := I.tuple qa
      refine SeqAt.notIn_tupleAt (fun _ => false) pl (fun w hw => ?_) ⟨.bl _, H, I, rfl, ?_⟩
      · have hw' : w ∈ its := by simpa using hw
        have st : ∀ (ss : List Str) (its : List Value), Vals (ss.map V.str) its → ∀ w ∈ its, ∃ b t, w = .str b t := by
          intro ss
          induction ss with
          | nil => intro its r w hw; cases r; cases hw
          | cons z ss ih =>
            intro its r w hw
            cases r with
            | cons ra rb =>
              rcases List.mem_cons.mp hw with e | e
              · obtain ⟨t, et⟩ := ra
                exact ⟨z, t, e.trans et⟩
              · exact ih _ rb w e
        obtain ⟨b, t, rfl⟩ := st ss its rv w hw'
        exact SeqAt.EqAt.str_tuple b t plz (by first | exact hu | (show X.A.units + 1 < cLine; exact hu) | (have := hu; omega))
      · have e : (!(its.toArray.any fun _ => false)) = !strIn ss (.tuple ds) := by simp [strIn]
        rw [e]
        exact q
  · have fx : flatV x = true ∧ ∀ y : Str, eqV (.str y) x = strIn [y] d := by
      cases hd with
      | non => exact ⟨rfl, fun _ => rfl⟩
      | bl b => exact ⟨rfl, fun _ => rfl⟩
      | int i => exact ⟨rfl, fun _ => rfl⟩
      | str z => exact ⟨rfl, fun y => by simp [strIn, eqV]⟩
      | lst q r => simp [flat] at fd
      | tup q r => exact absurd ⟨_, rfl⟩ ht
    refine op_notIn_seq pins s σ H x _ v u Q I rx ry ⟨p, _, rfl, .inr hq, fx.1, all_str ss, ?_⟩
    rw [if_pos rfl, inV_str ss x d fx.2]
    exact q
/-! ### for i, x in enumerate(tuple) -/
theorem for_enumT {K : PySem.W.Frag} {a : Addr} {xs : List V} {g : TG} {tb : TS} {D : Ends} {σ : L2.St} {H : Hp} (Pv : Nat → L2.St → Hp → Prop) (h0 : Pv 0 σ H) (hq : ∀ i σ H, Pv i σ H → SqT K H a xs)
    (hstep : ∀ i x σ H T, xs[i]? = some x → Pv i σ H → H T = none → g (.ref T) σ (upd H T (.tup [.int (i : Nat), x])) fun σ2 H2 => tb { D with nx := Pv (i + 1), ct := Pv (i + 1), bk := D.nx } σ2 H2)
    (hend : ∀ σ H, Pv xs.length σ H → D.nx σ H) :
    ∃ W : Nat → Nat → L2.St → Hp → Prop, (∃ m, W 0 m σ H) ∧ ∀ i m σ H, W i m σ H →
      ((IteT K a).stop i H ∧ D.nx σ H) ∨ ((IteT K a).go i H ∧ ∃ N : L2.St → Hp → Prop, (∀ σ' H', N σ' H' → ∃ m', m' < m ∧ W (i + 1) m' σ' H') ∧ ∀ x H', (IteT K a).yld i H x H' → g x σ H' fun σ2 H2 => tb { D with nx := N, ct := N, bk := D.nx } σ2 H2) := by
  refine ⟨fun i m σ H => i ≤ xs.length ∧ m = xs.length - i ∧ Pv i σ H, ⟨_, Nat.zero_le _, rfl, h0⟩, fun i m σ H ⟨hi, hm, hp⟩ => ?_⟩
  have hs := hq i σ H hp
  rcases Nat.lt_or_ge i xs.length with hlt | hge
  · obtain ⟨x, hx⟩ : ∃ x, xs[i]? = some x := ⟨xs[i], List.getElem?_eq_getElem hlt⟩
    refine .inr ⟨⟨xs, x, hs, hx⟩, Pv (i + 1), fun σ' H' h' => ⟨xs.length - (i + 1), by omega, hlt, rfl, h'⟩, ?_⟩
    rintro y H' ⟨T, z, rfl, hT, rfl, hz⟩
    have e := hz xs hs
    rw [hx] at e
    cases e
    exact hstep i x σ H T hx hp hT
  · have e : i = xs.length := Nat.le_antisymm hi hge
    refine .inl ⟨⟨xs, hs, hge⟩, hend σ H (e ▸ hp)⟩
/-- the defs within a class -/
def clsBody : Stmt → List Stmt
  | .ClassDef _ _ _ b _ _ _ _ _ _ _ => b
  | _ => []
end Lm
namespace Lm
open PySem PySem.Spec PyProof.Rows L2 LmR
/-- isinstance(e, c), e the exception at a, of the class at C, its fields at dd -/
def rIsX (K : PySem.W.Frag) (C a dd : Addr) : List V → Hp → VK → Prop := fun xs H Q => ∃ (D : Addr) (b : Bool), xs = [.ref a, .ref D] ∧ PySem.W.kitOne K (.ref C) (.ref D) = some b ∧ (∃ fs, H dd = some (.xd fs)) ∧ Q (.bl b) H
theorem call_isX {X : Cx} {a C dd : Addr} {oe : Obj} (k : ExK X.K C) (hz : Zc (.ref C) (some dd) oe) (hf : ∃ vs, oe.data = .fields vs) (hp : (a, oe) ∈ X.pn) : CallR X (.builtin "isinstance") (rIsX X.K C a dd) := by
  intro pins s σ H xs us Q I r h
  obtain ⟨D, b, rfl, e, ⟨fs, ea⟩, q⟩ := h
  obtain ⟨u1, u2, rfl, r1, r2⟩ := vals2 r
  cases (show u1 = Value.ref a from r1)
  cases (show u2 = Value.ref D from r2)
  obtain ⟨ha, _⟩ := I.pin (a, oe) (List.mem_append_left _ hp)
  obtain ⟨vs, hd⟩ := hf
  have hx : ObjOk X.prog X.w H s.heap dd (.xd fs) := I.hok dd _ ea
  obtain ⟨mA, hns, hr⟩ := hx
  obtain ⟨od, ho, hl⟩ := lookIn_ns hns
  have J : PySem.W.InstAt s.heap a oe C (some od) := ⟨ha, hz.1, by unfold PySem.W.notCls; rw [hd] <;> rfl, by rw [hz.2]; exact ho⟩
  exact PySem.W.kia_one (PySem.W.kitx_exc k.cl k.ga k.gg k.ex k.ca k.gn k.tk k.ob) I.kIn J e (fun z => nomatch z) fun tk => ⟨.bl b, H, I.tok tk, rfl, q⟩
/-- the twelve classes, and of which of them the class at C is -/
structure Srt (K : PySem.W.Frag) (mg : Str → Option Value) (C : Addr) (c1 c2 c3 c4 c5 c6 c7 c8 c9 c10 c11 c12 : Addr) (b1 b2 b3 b4 b5 b6 b7 b8 b9 b10 b11 b12 : Bool) : Prop where
  g1 : mg "NoHead" = some (.ref c1)
  g2 : mg "NoProgram" = some (.ref c2)
  g3 : mg "NoText" = some (.ref c3)
  g4 : mg "NoStock" = some (.ref c4)
  g5 : mg "NoAnswer" = some (.ref c5)
  g6 : mg "NoInputs" = some (.ref c6)
  g7 : mg "Clash" = some (.ref c7)
  g8 : mg "NoRow" = some (.ref c8)
  g9 : mg "NoQuestion" = some (.ref c9)
  g10 : mg "NoDoer" = some (.ref c10)
  g11 : mg "NotKept" = some (.ref c11)
  g12 : mg "NoName" = some (.ref c12)
  k1 : PySem.W.kitOne K (.ref C) (.ref c1) = some b1
  k2 : PySem.W.kitOne K (.ref C) (.ref c2) = some b2
  k3 : PySem.W.kitOne K (.ref C) (.ref c3) = some b3
  k4 : PySem.W.kitOne K (.ref C) (.ref c4) = some b4
  k5 : PySem.W.kitOne K (.ref C) (.ref c5) = some b5
  k6 : PySem.W.kitOne K (.ref C) (.ref c6) = some b6
  k7 : PySem.W.kitOne K (.ref C) (.ref c7) = some b7
  k8 : PySem.W.kitOne K (.ref C) (.ref c8) = some b8
  k9 : PySem.W.kitOne K (.ref C) (.ref c9) = some b9
  k10 : PySem.W.kitOne K (.ref C) (.ref c10) = some b10
  k11 : PySem.W.kitOne K (.ref C) (.ref c11) = some b11
  k12 : PySem.W.kitOne K (.ref C) (.ref c12) = some b12
def Sorts (K : PySem.W.Frag) (mg : Str → Option Value) (C : Addr) (bs : List Bool) : Prop := ∃ c1 c2 c3 c4 c5 c6 c7 c8 c9 c10 c11 c12 b1 b2 b3 b4 b5 b6 b7 b8 b9 b10 b11 b12,
  Srt K mg C c1 c2 c3 c4 c5 c6 c7 c8 c9 c10 c11 c12 b1 b2 b3 b4 b5 b6 b7 b8 b9 b10 b11 b12 ∧ bs = [b1, b2, b3, b4, b5, b6, b7, b8, b9, b10, b11, b12]
def spSorts (C a : Addr) (cls : Value) (d : Option Addr) (bs : List Bool) : Sp := fun vs H Q _ => vs = [.ref a] ∧ cls = .ref C ∧ ∃ dd fs, d = some dd ∧ H dd = some (.xd fs) ∧ ∀ H' l, Same H H' → H' l = some (.lst (bs.map V.bl)) → Q (.ref l) H'
end Lm

set_option Elab.async false
set_option linter.all false
set_option maxRecDepth 100000
set_option maxHeartbeats 2000000
namespace Lm
open PySem PySem.Spec PyProof.Rows L2 LmR
theorem call_isiK {X : Cx} {K : PySem.W.Frag} (h : X.K = K) : CallR X (.builtin "isinstance") (rIsi K) := h ▸ call_isi
theorem walk_enumT {K : PySem.W.Frag} {a : Addr} {xs : List V} : Walk (IteT K a) xs.length (fun H => SqT K H a xs) (YPair (fun i => some (.int (i : Nat))) (fun i => xs[i]?)) := by
  refine ⟨fun i H hi q => ⟨xs, xs[i], q, by simp [hi]⟩, fun H q => ⟨xs, q, Nat.le_refl _⟩, fun i H x H' hi q y => ?_⟩
  obtain ⟨T, z, h1, h2, h3, h4⟩ := y
  exact ⟨T, _, z, h1, h2, h3, rfl, h4 xs q⟩
end Lm

set_option Elab.async false
set_option linter.all false
set_option maxRecDepth 100000
set_option maxHeartbeats 2000000
namespace Lm
open PySem PySem.Spec PyProof.Rows L2 LmR
/-! ### defs with a parameter that is written by its name, or left out -/
def DefKw (K : PySem.W.Frag) (mg : Str → Option Value) (x : Str) (st : Stmt) (ps : List Str) (n : Nat) (ks : List Str) (dvs : List V) : Prop :=
  ∃ f fd, Fun K x x st f fd ∧ mg x = some (.ref f) ∧ KBn K fd ps n ks (fun us ws => us ++ ws) (fun us ws => us ++ ws) ∧ ∃ ds, Vals dvs ds ∧ Binds K fd ps ds
def CalKw (P : Program) (w : World) (K : PySem.W.Frag) (mg : Str → Option Value) (base : Heap) (k : Nat) (x : Str) (ps : List Str) (n : Nat) (ks : List Str) (dvs : List V) (sp : Sp) : Prop :=
  ∃ f fd, FnOk P w K mg base CX0 k f fd ps sp ∧ mg x = some (.ref f) ∧ PySem.W.keepIn K (.ref f) = true ∧ KBn K fd ps n ks (fun us ws => us ++ ws) (fun us ws => us ++ ws) ∧ (∃ ds, Vals dvs ds ∧ Binds K fd ps ds) ∧ ∃ st, Fun K x x st f fd
section
variable {P : Program} {w : World} {K : PySem.W.Frag} {mg : Str → Option Value} {base : Heap}
theorem CalKw.mono {j k : Nat} {x : Str} {ps : List Str} {n : Nat} {ks : List Str} {dvs : List V} {sp : Sp} (c : CalKw P w K mg base j x ps n ks dvs sp) (h : j ≤ k) : CalKw P w K mg base k x ps n ks dvs sp := by
  obtain ⟨f, fd, F, g⟩ := c
  exact ⟨f, fd, F.mono h, g⟩
theorem calkw_of {x : Str} {st : Stmt} {N ps : List Str} {k n : Nat} {ks : List Str} {dvs : List V} {sp : Sp} (D : DefKw K mg x st ps n ks dvs) (S : FnScope N ps (defScope st)) (len : ∀ vs H Q E, sp vs H Q E → vs.length = ps.length)
    (hbody : ∀ (f : Addr) (cdv : Value) (A : Around) (outer : List Env) (s : Shared) (H : Hp) (vs : List V) (Q : VK) (E : XK), Room k (A.deeper (envOfC x (defScope st) s.heap.objs.size f cdv)) → sp vs H Q E →
      ∃ t, PSs (cxOf CX0 P w K mg base N x (defScope st) f cdv A outer s H E).nox (defBody st) t ∧ t { nx := fun _ H' => Q .non H', rt := Q } (start N vs) H) : CalKw P w K mg base (k + 1) x ps n ks dvs sp := by
  obtain ⟨f, fd, F, g, b⟩ := D
  exact ⟨f, fd, F.ok S len (hbody f), g, F.kp, b.1, b.2, _, F⟩
end
/-- f(e, .., k = v) -/
theorem pe_calK {X : Cx} {k n : Nat} {x : Str} {ps ks : List Str} {dvs : List V} {sp : Sp} {e : Expr} {es : List Expr} {kws : List Keyword} {t tk : TA} {p pos : Pos} (C : CalKw X.prog X.w X.K X.mg X.base k x ps n ks dvs sp) (hr : Room k X.A) (hg : Gl X x) (ha : PA X (e :: es) t) (hkw : PK X kws tk)
    (hall : (backToKw pos (keywordEach kws X.env)).all (·.1.isSome) = true := by rfl) (hks : (backToKw pos (keywordEach kws X.env)).filterMap (·.1) = ks := by rfl) (hdb : (x == ("__debug__" : Str)) = false := by decide) (he : starEach (e :: es) X.env = (false, eval e X.env) :: starEach es X.env := by rfl)
    (hpl : ((backTo pos (starEach (e :: es) X.env)).any (·.1) || (backToKw pos (keywordEach kws X.env)).any (·.1.isNone)) = false := by rfl) :
    PE X (.Call (.Name x p) (e :: es) kws pos) (tCallN n ks.length sp (fun us ws => us ++ ws) (fun _ _ _ => False) t tk) := by
  obtain ⟨f, fd, F, g, kp, b, _⟩ := C
  exact pe_callN F hr hg g kp b pass0 ha hkw hall hks hdb he hpl
/-- f(e, ..), what is written by its name left out -/
theorem pe_calD {X : Cx} {k n : Nat} {x : Str} {ps ks : List Str} {dvs : List V} {sp : Sp} {e : Expr} {es : List Expr} {t : TA} {p pos : Pos} (C : CalKw X.prog X.w X.K X.mg X.base k x ps n ks dvs sp) (hr : Room k X.A) (hg : Gl X x) (ha : PA X (e :: es) t)
    (hdb : (x == ("__debug__" : Str)) = false := by decide) (he : starEach (e :: es) X.env = (false, eval e X.env) :: starEach es X.env := by rfl) (hpl : (backTo pos (starEach es X.env)).any (·.1) = false := by rfl) :
    PE X (.Call (.Name x p) (e :: es) [] pos) (tCall sp dvs (fun _ _ _ => False) t) := by
  obtain ⟨f, fd, F, g, kp, _, ⟨ds, hd, b⟩, _⟩ := C
  exact pe_call F hr hg g kp b hd pass0 ha hdb he hpl
/-- how a def of one parameter and one that may be left out binds -/
theorem defkw_mk {K : PySem.W.Frag} {h : Heap} {mg : Str → Option Value} {x y z : Str} {st : Stmt} {f D : Addr} {oc : Value} {od an : Option Addr} {osl : Array (Option Value)} {doc pm cdv ct u : Value} {v : V} (X : K.In h) (G : h.Ns mainGlobals mg)
    (a : PySem.W.nsIn K mainGlobals x = some (some (.ref f))) (l : K.lookup f = some ⟨oc, od, .func (PySem.W.fnOf x x (defArgs st) (defBody st) (defScope st) .none (.ref D) doc pm an cdv ct), osl⟩) (c : PySem.W.codeIn K cdv x = true) (k : PySem.W.keepIn K (.ref f) = true)
    (d : PySem.W.nsIn K D z = some (some u)) (r : RelV v u)
    (hb : ∀ (doc pm : Value) (an : Option Addr) (cdv ct u w : Value), bindArgs (PySem.W.fnOf x x (defArgs st) (defBody st) (defScope st) .none (.ref D) doc pm an cdv ct) ⟨[u], [(z, w)]⟩ = pure [(y, u), (z, w)])
    (hd : ∀ (doc pm : Value) (an : Option Addr) (cdv ct u w : Value), KwChain D [(z, w)] (bindArgs (PySem.W.fnOf x x (defArgs st) (defBody st) (defScope st) .none (.ref D) doc pm an cdv ct) ⟨[u], []⟩) [(y, u), (z, w)]) : DefKw K mg x st [y, z] 1 [z] [v] := by
  refine ⟨f, _, fun_mk l c k, PySem.W.mg_of X G a, ⟨fun s us ws _ l1 l2 => ?_, fun r1 r2 => r1.append r2⟩, [u], .cons r .nil, fun s us X' hl => ?_⟩
  · match us, ws, l1, l2 with
    | [u'], [w'], _, _ => exact .of_eq (hb _ _ _ _ _ u' w')
  · have l1 : us.length = 1 := by simpa using hl
    match us, l1 with
    | [u'], _ => exact BindsTo.of_looks fun M => KwChain.looks X' (fun q hq => by rw [List.mem_singleton.mp hq]; exact d) (hd _ _ _ _ _ u' u)
end Lm

set_option Elab.async false
set_option linter.all false
namespace Lm
open PySem PySem.Spec PyProof.Rows L2 LmR
/-- a < b of data of a Lean type -/
def rLtDat (α : Type) [DecidableEq α] [PySem.W.DatumOrd α] (K : PySem.W.Frag) : R2 := fun x y H Q => ∃ a b : α, Dp K H x (PySem.W.Datum.toD a) ∧ Dp K H y (PySem.W.Datum.toD b) ∧ Q (.bl (PySem.W.DatumOrd.lt a b)) H
theorem op_ltDat {X : Cx} {α : Type} [DecidableEq α] [PySem.W.DatumOrd α] (hu : X.A.units + PySem.W.Datum.depth α < cLine) : OpR X (compareOp .Lt) (rLtDat α X.K) := by
  intro pins s σ H x y v u Q I rx ry h
  obtain ⟨a, b, ha, hb, q⟩ := h
  exact PySem.W.lt_datum (x := a) (y := b) (Dp.reads I _ x v ha rx) (Dp.reads I _ y u hb ry) hu ⟨.bl _, H, I, rfl, q⟩
end Lm

set_option Elab.async false
set_option linter.all false
set_option maxRecDepth 100000
namespace Lm
open PySem PySem.Spec PyProof.Rows L2 LmR
mutual
theorem dp_same {K : PySem.W.Frag} {H H' : Hp} (s : Same H H') : ∀ (d : PyData) (v : V), Dp K H v d → Dp K H' v d
  | .none, _, h => by cases h; exact .non
  | .bool b, _, h => by cases h; exact .bl b
  | .int i, _, h => by cases h; exact .int i
  | .str x, _, h => by cases h; exact .str x
  | .list ds, _, h => by
    cases h with
    | lst q r => exact .lst (s.seq q) (dps_same s ds _ r)
  | .tuple ds, _, h => by
    cases h with
    | tup q r => exact .tup (Tp.same s _ _ q) (dps_same s ds _ r)
  | .dict ds, _, h => by cases h
theorem dps_same {K : PySem.W.Frag} {H H' : Hp} (s : Same H H') : ∀ (ds : List PyData) (vs : List V), DpAll K H vs ds → DpAll K H' vs ds
  | [], _, h => by cases h; exact .nil
  | d :: ds, _, h => by
    cases h with
    | cons a b => exact .cons (dp_same s d _ a) (dps_same s ds _ b)
end
theorem defkw_mk2 {K : PySem.W.Frag} {h : Heap} {mg : Str → Option Value} {x y1 y2 z : Str} {st : Stmt} {f D : Addr} {oc : Value} {od an : Option Addr} {osl : Array (Option Value)} {doc pm cdv ct u : Value} {v : V} (X : K.In h) (G : h.Ns mainGlobals mg)
    (a : PySem.W.nsIn K mainGlobals x = some (some (.ref f))) (l : K.lookup f = some ⟨oc, od, .func (PySem.W.fnOf x x (defArgs st) (defBody st) (defScope st) .none (.ref D) doc pm an cdv ct), osl⟩) (c : PySem.W.codeIn K cdv x = true) (k : PySem.W.keepIn K (.ref f) = true)
    (d : PySem.W.nsIn K D z = some (some u)) (r : RelV v u)
    (hb : ∀ (doc pm : Value) (an : Option Addr) (cdv ct u1 u2 w : Value), bindArgs (PySem.W.fnOf x x (defArgs st) (defBody st) (defScope st) .none (.ref D) doc pm an cdv ct) ⟨[u1, u2], [(z, w)]⟩ = pure [(y1, u1), (y2, u2), (z, w)])
    (hd : ∀ (doc pm : Value) (an : Option Addr) (cdv ct u1 u2 w : Value), KwChain D [(z, w)] (bindArgs (PySem.W.fnOf x x (defArgs st) (defBody st) (defScope st) .none (.ref D) doc pm an cdv ct) ⟨[u1, u2], []⟩) [(y1, u1), (y2, u2), (z, w)]) : DefKw K mg x st [y1, y2, z] 2 [z] [v] := by
  refine ⟨f, _, fun_mk l c k, PySem.W.mg_of X G a, ⟨fun s us ws _ l1 l2 => ?_, fun r1 r2 => r1.append r2⟩, [u], .cons r .nil, fun s us X' hl => ?_⟩
  · match us, ws, l1, l2 with
    | [u1, u2], [w'], _, _ => exact .of_eq (hb _ _ _ _ _ u1 u2 w')
  · have l1 : us.length = 2 := by simpa using hl
    match us, l1 with
    | [u1, u2], _ => exact BindsTo.of_looks fun M => KwChain.looks X' (fun q hq => by rw [List.mem_singleton.mp hq]; exact d) (hd _ _ _ _ _ u1 u2 u)
end Lm

set_option Elab.async false
set_option linter.all false
set_option maxRecDepth 100000
namespace Lm
open PySem PySem.Spec PyProof.Rows L2 LmR
/-! ### calls by names alone: ks the names as they are written, the parameters the other way about, dvs what is left out -/
def CalN (P : Program) (w : World) (K : PySem.W.Frag) (mg : Str → Option Value) (base : Heap) (k : Nat) (x : Str) (ps ks : List Str) (dvs : List V) (sp : Sp) : Prop :=
  ∃ f fd, FnOk P w K mg base CX0 k f fd ps sp ∧ mg x = some (.ref f) ∧ PySem.W.keepIn K (.ref f) = true ∧ ∃ dus : List Value, KBn K fd ps 0 ks (fun _ ws => ws.reverse ++ dus) (fun _ zs => zs.reverse ++ dvs)
def DefN (K : PySem.W.Frag) (mg : Str → Option Value) (x : Str) (st : Stmt) (ps ks : List Str) (dvs : List V) : Prop :=
  ∃ f fd, Fun K x x st f fd ∧ mg x = some (.ref f) ∧ ∃ dus : List Value, KBn K fd ps 0 ks (fun _ ws => ws.reverse ++ dus) (fun _ zs => zs.reverse ++ dvs)
theorem fun_one {K : PySem.W.Frag} {x q x' q' : Str} {st st' : Stmt} {f : Addr} {fd fd' : FuncData} (F : Fun K x q st f fd) (G : Fun K x' q' st' f fd') : fd = fd' := by
  obtain ⟨oc, od, kV, doc, pm, an, cdv, ct, osl, _, lk, _⟩ := F.ex
  obtain ⟨oc', od', kV', doc', pm', an', cdv', ct', osl', _, lk', _⟩ := G.ex
  rw [lk] at lk'
  have e := Option.some.inj lk'
  injection e with _ _ e _
  injection e
section
variable {P : Program} {w : World} {K : PySem.W.Frag} {mg : Str → Option Value} {base : Heap}
theorem Cal.named {k : Nat} {x : Str} {st : Stmt} {ps ks : List Str} {dvs : List V} {sp : Sp} (C : Cal P w K mg base k x ps sp) (D : DefN K mg x st ps ks dvs) : CalN P w K mg base k x ps ks dvs sp := by
  obtain ⟨f, fd, F, g, kp, b, st', G⟩ := C
  obtain ⟨f', fd', G', g', hk⟩ := D
  rw [g] at g'
  have e : f = f' := by injection g' with e; injection e
  subst e
  have e := fun_one G G'
  subst e
  exact ⟨f, fd, F, g, kp, hk⟩
theorem CalKw.named {k n : Nat} {x : Str} {st : Stmt} {ps ks ks' : List Str} {dvs dvs' : List V} {sp : Sp} (C : CalKw P w K mg base k x ps n ks' dvs' sp) (D : DefN K mg x st ps ks dvs) : CalN P w K mg base k x ps ks dvs sp := by
  obtain ⟨f, fd, F, g, kp, _, _, st', G⟩ := C
  obtain ⟨f', fd', G', g', hk⟩ := D
  rw [g] at g'
  have e : f = f' := by injection g' with e; injection e
  subst e
  have e := fun_one G G'
  subst e
  exact ⟨f, fd, F, g, kp, hk⟩
theorem CalN.mono {j k : Nat} {x : Str} {ps ks : List Str} {dvs : List V} {sp : Sp} (c : CalN P w K mg base j x ps ks dvs sp) (h : j ≤ k) : CalN P w K mg base k x ps ks dvs sp := by
  obtain ⟨f, fd, F, g⟩ := c
  exact ⟨f, fd, F.mono h, g⟩
end
/-- f(k = v, ..) -/
theorem pe_calN {X : Cx} {k : Nat} {x : Str} {ps ks : List Str} {dvs : List V} {sp : Sp} {kws : List Keyword} {tk : TA} {p pos : Pos} (C : CalN X.prog X.w X.K X.mg X.base k x ps ks dvs sp) (hr : Room k X.A) (hg : Gl X x) (hkw : PK X kws tk)
    (hall : (backToKw pos (keywordEach kws X.env)).all (·.1.isSome) = true := by rfl) (hks : (backToKw pos (keywordEach kws X.env)).filterMap (·.1) = ks := by rfl) (hdb : (x == ("__debug__" : Str)) = false := by decide)
    (hpl : ((backTo pos (starEach [] X.env)).any (·.1) || (backToKw pos (keywordEach kws X.env)).any (·.1.isNone)) = false := by rfl) :
    PE X (.Call (.Name x p) [] kws pos) (tCallN 0 ks.length sp (fun _ zs => zs.reverse ++ dvs) (fun _ _ _ => False) tNil tk) := by
  obtain ⟨f, fd, F, g, kp, dus, b⟩ := C
  refine ⟨fun pins s σ H Q I h => ?_⟩
  refine wpAny_Call_Name_kw (ld_glob I hg g ?_ hdb)
  refine PySem.W.callWith_KW0 (h₀ := X.base) I.ok.mod.kin kp hall ?_ hpl
  refine thn (hkw.run pos pins s σ H _ I h) fun ws s2 ⟨zs, H2, I2, rz, l1, l2, q2⟩ => ⟨I2.kIn, ?_⟩
  rw [hks]
  exact run_fnN (us := []) (vs := []) F hr b pass0 I2 .nil rz rfl l2 q2
theorem vals_rev {vs : List V} {us : List Value} (h : Vals vs us) : Vals vs.reverse us.reverse := by
  induction h with
  | nil => exact .nil
  | cons a _ ih => rw [List.reverse_cons, List.reverse_cons]; exact ih.append (.cons a .nil)
theorem defn_mk {K : PySem.W.Frag} {h : Heap} {mg : Str → Option Value} {x : Str} {st : Stmt} {ps ks : List Str} {f : Addr} {oc : Value} {od an : Option Addr} {osl : Array (Option Value)} {kV doc pm cdv ct : Value} (X : K.In h) (G : h.Ns mainGlobals mg)
    (a : PySem.W.nsIn K mainGlobals x = some (some (.ref f))) (l : K.lookup f = some ⟨oc, od, .func (PySem.W.fnOf x x (defArgs st) (defBody st) (defScope st) .none kV doc pm an cdv ct), osl⟩) (c : PySem.W.codeIn K cdv x = true) (k : PySem.W.keepIn K (.ref f) = true)
    (hb : ∀ (kV doc pm : Value) (an : Option Addr) (cdv ct : Value) (ws : List Value), ws.length = ks.length → bindArgs (PySem.W.fnOf x x (defArgs st) (defBody st) (defScope st) .none kV doc pm an cdv ct) ⟨[], ks.zip ws⟩ = pure (ps.zip (ws.reverse ++ []))) : DefN K mg x st ps ks [] := by
  refine ⟨f, _, fun_mk l c k, PySem.W.mg_of X G a, [], ⟨fun s us ws _ l1 l2 => ?_, fun _ r2 => (vals_rev r2).append .nil⟩⟩
  have e : us = [] := List.eq_nil_of_length_eq_zero l1
  subst e
  exact .of_eq (hb _ _ _ _ _ _ ws l2)
theorem defn_mkD {K : PySem.W.Frag} {h : Heap} {mg : Str → Option Value} {x y z : Str} {st : Stmt} {f D : Addr} {oc : Value} {od an : Option Addr} {osl : Array (Option Value)} {doc pm cdv ct u : Value} {v : V} (X : K.In h) (G : h.Ns mainGlobals mg)
    (a : PySem.W.nsIn K mainGlobals x = some (some (.ref f))) (l : K.lookup f = some ⟨oc, od, .func (PySem.W.fnOf x x (defArgs st) (defBody st) (defScope st) .none (.ref D) doc pm an cdv ct), osl⟩) (c : PySem.W.codeIn K cdv x = true) (k : PySem.W.keepIn K (.ref f) = true)
    (d : PySem.W.nsIn K D z = some (some u)) (r : RelV v u)
    (hd : ∀ (doc pm : Value) (an : Option Addr) (cdv ct u w : Value), KwChain D [(z, w)] (bindArgs (PySem.W.fnOf x x (defArgs st) (defBody st) (defScope st) .none (.ref D) doc pm an cdv ct) ⟨[], [(y, u)]⟩) [(y, u), (z, w)]) : DefN K mg x st [y, z] [y] [v] := by
  refine ⟨f, _, fun_mk l c k, PySem.W.mg_of X G a, [u], ⟨fun s us ws X' l1 l2 => ?_, fun _ r2 => (vals_rev r2).append (.cons r .nil)⟩⟩
  have e : us = [] := List.eq_nil_of_length_eq_zero l1
  subst e
  match ws, l2 with
  | [w'], _ => exact BindsTo.of_looks fun M => KwChain.looks X' (fun q hq => by rw [List.mem_singleton.mp hq]; exact d) (hd _ _ _ _ _ w' u)
end Lm

set_option Elab.async false
set_option linter.all false
set_option maxRecDepth 100000
set_option maxHeartbeats 4000000
namespace Lm
open PySem PySem.Spec PyProof.Rows L2 LmR
/-! ### KeyError as a base of own classes -/
abbrev keT : List Value := [.type "KeyError", .type "LookupError",
  .type "Exception", .type "BaseException", .type "object"]
theorem ke_store : StoreFacts "KeyError" keT "object.__setattr__" "object" where
  mro := by kernel_rfl
  slot := PySem.Slot.of (owner := "object") (n := "__setattr__")
    (by rw [typeLookup_type, builtinLookup_eq_fast]; kernel_rfl)
    (by decide +kernel) (by decide +kernel) (by decide +kernel)
    (by first | exact .inl (by decide +kernel) | exact .inr (by decide +kernel)) (by rw [isSubtype_type]; kernel_rfl )
  entry := F.entry_object_sa
  kind := by decide +kernel
  split := by decide +kernel
  hasOwner := by decide +kernel
  args := fun x y z => by unfold argsOk; kernel_rfl
  passes := fun x => by kernel_rfl
/-! ### what makes an exception of an own class -/
structure NewF (B newId initId : String) (bm0 bmB : List Value) : Prop where
  F : ExcBaseFacts B newId initId bm0
  hB : bmB.contains (.type B) = true
  hA : bmB.contains (.type "AttributeError") = false
  hN : bmB.contains (.type "NameError") = false
theorem nf_VE : NewF "ValueError" "ValueError.__new__" "ValueError.__init__" HandSPX.veTail HandSPX.veTail :=
  ⟨F.excBase_ValueError, by decide +kernel, by decide +kernel, by decide +kernel⟩
abbrev leT : List Value := [.type "LookupError", .type "Exception",
  .type "BaseException", .type "object"]
abbrev ieT : List Value := [.type "IndexError", .type "LookupError",
  .type "Exception", .type "BaseException", .type "object"]
theorem nf_LE : NewF "LookupError" "LookupError.__new__" "LookupError.__init__" leT leT :=
  ⟨F.excBase_LookupError, by decide +kernel, by decide +kernel, by decide +kernel⟩
theorem nf_IE : NewF "IndexError" "IndexError.__new__" "IndexError.__init__" ieT ieT :=
  ⟨F.excBase_IndexError, by decide +kernel, by decide +kernel, by decide +kernel⟩
theorem nf_KE : NewF "LookupError" "LookupError.__new__" "LookupError.__init__" leT keT :=
  ⟨F.excBase_LookupError, by decide +kernel, by decide +kernel, by decide +kernel⟩
end Lm
namespace PySem
namespace LmX
open Builtin Builtin.ObjectAttr Lm
section
variable {M : Model} {A : Around} {E : Value → Shared → Prop} {h : Heap} {g : Array GenState} {d : Drawn} {t : Nat} {os : OsState}
variable {nm q : Str} {C N : Addr} {bs bm bm0 bmB : List Value} {hdct : Bool} {sn : List Str} {sub : List Value} {ab : Bool} {col : Option Bool} {dd : Option Addr} {k0 k1 k2 k3 k5 : Option Value} {B newId initId : String} {kws : List (Str × Value)}
theorem ck_newK (f : NewF B newId initId bm0 bmB) (hT : ∀ y : String, bm.contains (.type y) = bmB.contains (.type y)) {rest : List Value} {Q : Unit → Shared → Prop}
    (gC : h.get? C = some (excClassObj nm q C N bs bm hdct sn sub ab col dd k0 k1 k2 k3 k5 newId)) (hq : Q () ⟨h, g, d, t, os⟩) : wpAny M A (checkBuiltinCall newId ⟨.ref C :: rest, kws⟩) Q E ⟨h, g, d, t, os⟩ := by
  have hcont : (Value.ref C :: bm).contains (.type B) = true := by
    rw [List.contains_cons, hT, f.hB, Bool.or_true]
  have hstar := f.F.noStar
  simp only [checkBuiltinCall, f.F.newKind, f.F.newSplit, f.F.newRow]
  repeat (first
    | refine wpAny_loadPart_at gC ?_
    | (refine wpAny_isSubtype_exc gC ?_; rw [hcont])
    | refine wpAny_staticBase_exc gC ?_
    | refine wpAny_madeBy_exc gC ?_
    | simp only [bne_self_eq_false, Bool.false_eq_true, if_false]
    | wp_step)
  exact hq
theorem ck_callK {rest : List Value} {Q : Unit → Shared → Prop} (gC : h.get? C = some (excClassObj nm q C N bs bm hdct sn sub ab col dd k0 k1 k2 k3 k5 newId))
    (hq : Q () ⟨h, g, d, t, os⟩) : wpAny M A (checkBuiltinCall "type.__call__" ⟨.ref C :: rest, kws⟩) Q E ⟨h, g, d, t, os⟩ := by
  have f3 := tc_sub
  have gT : (⟨h, g, d, t, os⟩ : Shared).TypeIs (.ref C) "type" := ⟨_, gC, rfl⟩
  simp only [checkBuiltinCall, tc_kind, tc_split]
  repeat (any_goals (first
    | assumption
    | with_reducible refine wpAny_loadPart_at gC ?_
    | with_reducible refine wpAny_onRaise ?_
    | with_reducible refine wpAny_map ?_
    | wp_step))
end
section
variable {prog : Program} {w : World} {A : Around} {E : Value → Shared → Prop} {R : Result → Shared → Prop} {h : Heap} {g : Array GenState} {d : Drawn} {t : Nat} {os : OsState}
variable {nm q : Str} {C N : Addr} {bs bm bm0 bmB : List Value} {hdct : Bool} {sn : List Str} {sub : List Value} {ab : Bool} {col : Option Bool} {dd : Option Addr} {k0 k1 k2 k3 k5 : Option Value} {B newId initId : String} {kws : List (Str × Value)}
theorem nw_ownK (f : NewF B newId initId bm0 bmB) (hT : ∀ y : String, bm.contains (.type y) = bmB.contains (.type y)) {rest : List Value}
    (gC : h.get? C = some (excClassObj nm q C N bs bm hdct sn sub ab col dd k0 k1 k2 k3 k5 newId))
    (hq : R (.ok (.ret (.ref (h.objs.size + 1)))) ⟨(h.push (W.kdv_tup rest)).push (HandSPX.excO C h.objs.size), g, d, t, os⟩) (hrest : rest.length ≤ sizeLine) :
    codeAny (model prog w) A (.builtin newId ⟨.ref C :: rest, kws⟩) R ⟨h, g, d, t, os⟩ := by
  have hends := f.F.ends
  have b1 : (Value.ref C :: bm).contains (.type B) = true := by
    rw [List.contains_cons, hT, f.hB, Bool.or_true]
  have b2 : (Value.ref C :: bm).contains (.type "AttributeError") = false := by
    rw [List.contains_cons, hT, f.hA]; rfl
  have b3 : (Value.ref C :: bm).contains (.type "NameError") = false := by
    rw [List.contains_cons, hT, f.hN]; rfl
  refine codeAny_builtinAt f.F.entry ?_
  unfold Builtin.«BaseException.__new__»
  refine wpAt_bind ?_
  show wpAt _ _ _ (stack >>= _) _ _ _
  refine wpAt_bind (wpAt_stack fun p below => wpAt_of_wpAny ?_)
  wp_walk
  refine wpAt_of_wpAny ?_
  rw [f.F.owner]
  repeat (first
    | with_reducible refine wpAny_madeHere_exc f.F.canon gC ?_
    | with_reducible refine wpAny_loadPart_at gC ?_
    | (with_reducible refine wpAny_isSubtype_exc gC ?_; first | rw [b1] | rw [b2] | rw [b3])
    | wp_step)
  show R _ _
  rw [Heap.size_push]
  exact hq
theorem tc_ownK (f : NewF B newId initId bm0 bmB) (hT : ∀ y : String, bm.contains (.type y) = bmB.contains (.type y)) {rest : List Value} {fI : Addr} {Q : Fin → Shared → Prop}
    (gC : h.get? C = some (excClassObj nm q C N bs bm hdct sn sub ab col dd k0 k1 k2 k3 k5 newId))
    (hi : W.Looks (model prog w) h (typeLookup (.ref C) "__init__") (some (.ref fI))) (hb : ∀ self, W.Looks (model prog w) h (bindSpecial (.ref fI) self) (.ref fI, [self])) (hrest : rest.length ≤ sizeLine)
    (hq : codeAny (model prog w) A (.call (.ref fI) ⟨.ref (h.objs.size + 1) :: rest, kws⟩)
      (fun r s' => match r with | .ok (.ret v) => v = .none ∧ Q (.done (.ret (.ref (h.objs.size + 1)))) s' | .ok _ => False | .error e => E e s')
      ⟨(h.push (W.kdv_tup rest)).push (HandSPX.excO C h.objs.size), g, d, t, os⟩) :
    wpAny (model prog w) A (Builtin.«type.__call__» ⟨.ref C :: rest, kws⟩) Q E ⟨h, g, d, t, os⟩ := by
  repeat (first
    | with_reducible refine wpAny_loadPart_at gC ?_
    | with_reducible refine wpAny_madeBy_exc gC ?_
    | wp_step)
  refine codeAny_call_builtin_code (Code.quiet_builtin _ f.F.quiet) (ck_newK f hT gC ?_)
  refine nw_ownK f hT gC ?_ hrest
  show wpAny _ _ _ _ _ _
  have k : ∀ b o, h.get? b = some o → ((h.push (W.kdv_tup rest)).push (HandSPX.excO C h.objs.size)).get? b = some o := fun b o e =>
    Heap.get?_push_of_some _ (Heap.get?_push_of_some _ e)
  have gC1 := k _ _ gC
  have gE : ((h.push (W.kdv_tup rest)).push (HandSPX.excO C h.objs.size)).get? (h.objs.size + 1) = some (HandSPX.excO C h.objs.size) := by heap_get
  have cC : (Value.ref C :: bm).contains (.ref C) = true := by simp
  have i1 := hi.keeps k
  have b1 := (hb (.ref (h.objs.size + 1))).keeps k
  unfold isInstance
  repeat (first
    | with_reducible refine wpAny_loadPart_at gE ?_
    | (with_reducible refine wpAny_isSubtype_exc gC1 ?_; rw [cC])
    | wp_step)
  show wpAny _ _ (typeLookup (.ref C) _) _ _ _
  refine i1.at ?_
  refine wpAny_holding (wpAny_bind (b1.at ?_))
  refine wpAny_bind (wpAny_call (codeAny_mono hq fun r s' z => ?_))
  rcases r with e | (v | _ | _ | _) <;> first | exact z | exact z.elim | skip
  obtain ⟨rfl, z⟩ := z
  first
    | exact wpAny_pure (wpAny_pure z)
    | (wp_walk; exact z)
theorem call_ownK (f : NewF B newId initId bm0 bmB) (hT : ∀ y : String, bm.contains (.type y) = bmB.contains (.type y)) {rest : List Value} {fI : Addr}
    (gC : h.get? C = some (excClassObj nm q C N bs bm hdct sn sub ab col dd k0 k1 k2 k3 k5 newId))
    (hi : W.Looks (model prog w) h (typeLookup (.ref C) "__init__") (some (.ref fI))) (hb : ∀ self, W.Looks (model prog w) h (bindSpecial (.ref fI) self) (.ref fI, [self])) (hrest : rest.length ≤ sizeLine)
    (hq : codeAny (model prog w) (A.under (.builtin "type.__call__" ⟨.ref C :: rest, kws⟩)) (.call (.ref fI) ⟨.ref (h.objs.size + 1) :: rest, kws⟩) (W.InitBack (h.objs.size + 1) R)
      ⟨(h.push (W.kdv_tup rest)).push (HandSPX.excO C h.objs.size), g, d, t, os⟩) :
    codeAny (model prog w) A (.call (.ref C) ⟨rest, kws⟩) R ⟨h, g, d, t, os⟩ := by
  have f1 := tc_lookup
  have f2 := tc_bind (.ref C)
  have gT : (⟨h, g, d, t, os⟩ : Shared).TypeIs (.ref C) "type" := ⟨_, gC, rfl⟩
  refine codeAny_of_tree ?_
  show wpAny _ _ (callAny (.ref C) _) _ _ _
  repeat (any_goals (first
    | assumption
    | with_reducible refine wpAny_loadPart_at gC ?_
    | wp_step))
  refine ⟨rfl, ?_⟩
  refine codeAny_call_builtin_at (Code.quiet_builtin _ (by decide +kernel)) entry_typeCall (ck_callK gC (tc_ownK f hT gC hi hb hrest ?_))
  refine codeAny_mono hq fun r s' z => ?_
  rcases r with e | (v | _ | _ | _) <;> exact z
end
end LmX
end PySem

set_option Elab.async false
set_option linter.all false
set_option maxRecDepth 100000
set_option maxHeartbeats 4000000
namespace PySem
namespace LmX
open PySem.W PySem.Calls PyProof.Rows Builtin Builtin.ObjectAttr Lm
section
variable {prog : Program} {w : World} {A : Around} {R : Result → Shared → Prop} {h0 : Heap} {g : Array GenState} {d : Drawn} {t : Nat} {os : OsState}
/-- the first field of an exception of an own class -/
theorem keep_new {K : Frag} {B : String} {bmB : List Value} {name : Str} {tk : Tok} {v : Value} {x C : Addr} {fv : Array Value} {cd : ClassData} (SF : StoreFacts B bmB "object.__setattr__" "object") (KX : K.In h0)
    (gx : h0.get? x = some { cls := .ref C, data := .fields fv }) (ov : excOver K C bmB = true) (gc : clsIn K C = some cd) (gh : cd.hasDict = true) (gt : takerIn K C name = some none)
    (gq : ∀ h' tk' dx, (∀ b o, b ≠ x → h0.get? b = some o → h'.get? b = some o) → h0.objs.size ≤ dx → dx ≠ x → h'.get? x = some { cls := .ref C, dict := some dx, data := .fields fv } →
      h'.Ns1 dx (fun y => if y = name then some v else none) → R (.ok (.ret .none)) ⟨h', g, d, tk', os⟩) :
    codeAny (model prog w) A (.call (.builtin "object.__setattr__") ⟨[.ref x, .str name tk, v], []⟩) R ⟨h0, g, d, t, os⟩ := by
  have J : InstAt h0 x { cls := .ref C, data := .fields fv } C none := ⟨gx, rfl, rfl, trivial⟩
  have ne : x ≠ h0.objs.size := Nat.ne_of_lt (Heap.lt_size gx)
  have look : Looks (model prog w) h0 (classData C) cd := looks_clsIn KX gc
  refine osa_openX SF KX J ov gt fun b => ?_
  show wpAny _ _ (storeInOwnDict (.ref x) (.ref C) (.str name tk) name v b) _ _ _
  obtain ⟨nm, bs, mro, ns, qn, hd, sn, sb, ab, col, del⟩ := cd
  dsimp only at gh
  subst gh
  unfold storeInOwnDict ownDictForStores
  repeat (first
    | with_reducible refine HandSPX.store_in_new ?_ ?_
    | with_reducible refine wpAny_loadPart_at gx ?_
    | with_reducible refine look.at ?_
    | wp_step)
  · exact ⟨_, #[], _, (Heap.get?_update_ne _ _ _ _ ne.symm).trans (Heap.get?_push_at rfl rfl), rfl,
      fun e he => absurd he (by simp), fun _ => rfl⟩
  · intro h' tk' hn' hs
    have gx1 : (h0.push { cls := .type "dict", data := .dict #[] }).get? x = some { cls := .ref C, data := .fields fv } :=
      Heap.get?_push_of_some _ gx
    refine gq h' tk' h0.objs.size (fun b o hb ho => ?_) (Nat.le_refl _) ne.symm ?_ hn'
    · exact (hs.2 b (Nat.ne_of_lt (Heap.lt_size ho))).trans
        ((Heap.get?_update_ne _ _ _ _ hb).trans (Heap.get?_push_of_some _ ho))
    · exact (hs.2 x ne).trans (Heap.get?_update_self _ gx1 rfl)
/-- a further field -/
theorem keep_old {K : Frag} {B : String} {bmB : List Value} {name : Str} {tk : Tok} {v : Value} {x C dx : Addr} {fv : Array Value} {cd : ClassData} {m0 : Str → Option Value} {nl : List Str} (SF : StoreFacts B bmB "object.__setattr__" "object")
    (KX : K.In h0) (gx : h0.get? x = some { cls := .ref C, dict := some dx, data := .fields fv }) (gn : h0.Ns1 dx m0) (gw : Within m0 nl) (gz : nl.length ≤ 1000) (ov : excOver K C bmB = true) (gc : clsIn K C = some cd) (gh : cd.hasDict = true)
    (gt : takerIn K C name = some none)
    (gq : ∀ h' tk', (∀ b o, b ≠ dx → h0.get? b = some o → h'.get? b = some o) → h'.Ns1 dx (fun y => if y = name then some v else m0 y) → R (.ok (.ret .none)) ⟨h', g, d, tk', os⟩) :
    codeAny (model prog w) A (.call (.builtin "object.__setattr__") ⟨[.ref x, .str name tk, v], []⟩) R ⟨h0, g, d, t, os⟩ := by
  obtain ⟨oD, esD, epD, hoD, hdD, _⟩ := gn.count gw
  have J : InstAt h0 x { cls := .ref C, dict := some dx, data := .fields fv } C (some oD) := ⟨gx, rfl, rfl, hoD⟩
  have look : Looks (model prog w) h0 (classData C) cd := looks_clsIn KX gc
  refine osa_openX SF KX J ov gt fun b => ?_
  show wpAny _ _ (storeInOwnDict (.ref x) (.ref C) (.str name tk) name v b) _ _ _
  obtain ⟨nm, bs, mro, ns, qn, hd, sn, sb, ab, col, del⟩ := cd
  dsimp only at gh
  subst gh
  unfold storeInOwnDict ownDictForStores
  repeat (first
    | with_reducible refine PySem.OEX.store_in_old gn gw gz ?_
    | with_reducible refine wpAny_loadPart_at gx ?_
    | with_reducible refine look.at ?_
    | wp_step)
  intro h' tk' hn' hs
  exact gq h' tk' (fun b o hb ho => (hs.2 b hb).trans ho) hn'
end
end LmX
end PySem
namespace Lm
open PySem PySem.Spec PyProof.Rows L2 LmR
/-- what is known of an own class of exceptions, whatever it is over -/
structure OeC (K : PySem.W.Frag) (C : Addr) : Prop where
  ex : ∃ B newId initId bm0 bmB B', NewF B newId initId bm0 bmB ∧ StoreFacts B' bmB "object.__setattr__" "object" ∧ PySem.W.excInitIn K C bmB newId = true ∧ PySem.W.excOver K C bmB = true
  hd : PySem.W.hasDictIn K C = true
  sa : PySem.W.findIn K (.ref C) "__setattr__" = some (some (.builtin "object.__setattr__"))
  kC : PySem.W.keepIn K (.ref C) = true
theorem taker_no {K : PySem.W.Frag} {C : Addr} {f : Str} (h : PySem.W.findIn K (.ref C) f = some none) : PySem.W.takerIn K C f = some none := by
  unfold PySem.W.takerIn
  rw [h]
  rfl
section
variable {X : Cx} {pins : List (Addr × Obj)} {σ : L2.St} {H : Hp} {s : Shared} {a C dx : Addr} {f : Str} {y : V} {u : Value} {fs : List (Str × V)} {Q : Unit → Shared → Prop} {E : Value → Shared → Prop} {A : Around}
theorem ox_new (T : OeC X.K C) (I : Inv X pins σ H s) (e : H a = some (exo a C none)) (hno : PySem.W.findIn X.K (.ref C) f = some none) (ry : RelV y u)
    (h : ∀ dx s', H dx = none → dx ≠ a → Inv X pins σ (upd (upd H dx (exd dx [(f, y)])) a (exo a C (some dx))) s' → Q () s') : wpAny (model X.prog X.w) A (setAttr (.ref a) f u) Q E s := by
  obtain ⟨B, newId, initId, bm0, bmB, B', _, SF, _, ov⟩ := T.ex
  obtain ⟨cd, gc, gh⟩ := PySem.W.any_some T.hd
  obtain ⟨t1, ho⟩ := exo_at I.hok e
  obtain ⟨h0, g, d, t, os⟩ := s
  refine PySem.W.set_plain I.kIn (ox := { cls := .ref C, dict := none, data := .fields #[.ref t1, .none, .none, .none, .bool false, .none] }) (od := none) ⟨ho, rfl, rfl, trivial⟩ T.sa ?_
  refine PySem.LmX.keep_new SF I.kIn ho ov gc gh (taker_no hno) (fun h' tk' dx k dn dne hx hn => ?_)
  have dn' : H dx = none := I.hok.fresh dn
  have nd : ∀ {b : Addr} {o : Obj}, h0.get? b = some o → b ≠ dx := fun {b o} q =>
    Nat.ne_of_lt (Nat.lt_of_lt_of_le (Heap.lt_size q) dn)
  have na : ∀ {b : Addr}, H b = none → b ≠ a := fun {b} n z => by rw [z, e] at n; cases n
  have U : Un X.fs [] H (upd (upd H dx (exd dx [(f, y)])) a (exo a C (some dx))) h0 h' := {
    keep := fun b o q n _ _ => k b o (na n) q
    slot := fun b o q n _ _ => ⟨o.slots, k b o (na n) q⟩
    free := fun b o q n _ => by
      rw [upd_ne (na n), upd_ne (nd q)]
      exact n
    there := fun b o q _ => by
      by_cases hb : b = a
      · exact ⟨_, by rw [hb]; exact hx⟩
      · exact ⟨o, k b o hb q⟩
    tups := fun b xs q => by
      rw [upd_ne (at_ne e q exo_tup), upd_ne (ne_of_none q dn')]
      exact q
    frzs := fun b o v q => by
      rw [upd_ne (at_ne e q exo_frz), upd_ne (ne_of_none q dn')]
      exact q
    tbls := fun b ps q => ⟨#[], by
      rw [upd_ne (at_ne e q exo_tbl), upd_ne (ne_of_none q dn'), q]
      simp⟩ }
  refine h dx _ dn' dne (I.un (t' := tk') U fun b o q => ?_)
  by_cases hb : b = a
  · subst hb
    rw [upd_same] at q
    cases q
    exact exo_ok hx
  · rw [upd_ne hb] at q
    by_cases hd : b = dx
    · subst hd
      rw [upd_same] at q
      cases q
      exact exd_ok hn (relO_put (fs := []) ry fun g => True.intro)
    · rw [upd_ne hd] at q
      refine (I.hok b o q).stay (fun c v hc z => k c v ?_ z) (fun c hc => ?_) fun c xs hc => ?_
      · rcases hc with hc | hc
        · rw [hc]
          exact hb
        · exact at_ne e hc exo_own
      · rw [upd_ne (at_ne e hc exo_own), upd_ne (ne_of_none hc dn')]
        exact hc
      · rw [upd_ne (at_ne e hc exo_tup), upd_ne (ne_of_none hc dn')]
        exact hc
theorem ox_old (T : OeC X.K C) (I : Inv X pins σ H s) (e : H a = some (exo a C (some dx))) (ed : H dx = some (exd dx fs)) (hl : fs.length ≤ 900) (hno : PySem.W.findIn X.K (.ref C) f = some none) (ry : RelV y u)
    (h : ∀ s', Inv X pins σ (upd H dx (exd dx ((f, y) :: fs))) s' → Q () s') : wpAny (model X.prog X.w) A (setAttr (.ref a) f u) Q E s := by
  obtain ⟨B, newId, initId, bm0, bmB, B', _, SF, _, ov⟩ := T.ex
  obtain ⟨cd, gc, gh⟩ := PySem.W.any_some T.hd
  obtain ⟨t1, ho⟩ := exo_at I.hok e
  obtain ⟨mA, hns, rel⟩ := exd_at I.hok ed
  have gw := within_of rel
  obtain ⟨h0, g, d, t, os⟩ := s
  obtain ⟨oD, _, _, hoD, _, _⟩ := hns.count gw
  refine PySem.W.set_plain I.kIn (ox := { cls := .ref C, dict := some dx, data := .fields #[.ref t1, .none, .none, .none, .bool false, .none] }) (od := some oD) ⟨ho, rfl, rfl, hoD⟩ T.sa ?_
  refine PySem.LmX.keep_old SF I.kIn ho hns gw (by rw [List.length_map]; omega) ov gc gh (taker_no hno) (fun h' tk' k hn => ?_)
  have hd : ∃ o, h'.get? dx = some o := by
    obtain ⟨o, _, _, e', _⟩ := hn
    exact ⟨o, e'⟩
  exact h _ (I.write (t' := tk') (x := dx) (e := dx) (o := exd dx ((f, y) :: fs))
    (by rw [ed]; exact True.intro) (.inl rfl) k hd (exd_ok hn (relO_put ry rel)))
end
/-! ### rules -/
/-- self.f = e, self an exception that is being made -/
def tOx (K : PySem.W.Frag) (f : Str) (to te : TE) : TS := fun D σ H => te σ H fun y H1 => to σ H1 fun x H2 => ∃ a C : Addr, x = .ref a ∧ OeC K C ∧ PySem.W.findIn K (.ref C) f = some none ∧
  ((H2 a = some (exo a C none) ∧ ∀ dx, H2 dx = none → dx ≠ a → D.nx σ (upd (upd H2 dx (exd dx [(f, y)])) a (exo a C (some dx)))) ∨
    ∃ (dx : Addr) (fs : List (Str × V)), H2 a = some (exo a C (some dx)) ∧ H2 dx = some (exd dx fs) ∧ fs.length ≤ 900 ∧ D.nx σ (upd H2 dx (exd dx ((f, y) :: fs))))
theorem ps_ox {X : Cx} {o e : Expr} {to te : TE} {f : Str} {p' pos : Pos} (ho : PE X o to) (he : PE X e te) (hs : swapsWith e (some (.Attribute o f p')) pos.line X.env = pure false := by rfl) : PS X (.Assign [.Attribute o f p'] e pos) (tOx X.K f to te) := by
  refine ⟨fun pins s σ H D I h => ?_⟩
  refine plainObj_wpAny_Assign_Attribute (thn (he.run pins s σ H _ I h) fun v s1 ⟨y, H1, I1, r1, q1⟩ =>
    thn (ho.run pins s1 σ H1 _ I1 q1) fun u s2 ⟨x, H2, I2, r2, a, C, ex, T, hno, q⟩ => ?_) hs
  subst ex
  obtain rfl : u = Value.ref a := r2
  rcases q with ⟨ea, q⟩ | ⟨dx, fs, ea, ed, hl, q⟩
  · exact ox_new T I2 ea hno r1 fun dx s' n ne J => ⟨σ, _, J, q dx n ne⟩
  · exact ox_old T I2 ea ed hl hno r1 fun s' J => ⟨σ, _, J, q⟩
/-- C(e, ..) as a value: an exception that is not raised -/
def tMkV (C : Addr) (sp : Sp) (ta : TA) : TE := fun σ H Q => ta σ H fun vs H1 => vs.length ≤ 1000 ∧ ∀ a, H1 a = none → sp (.ref a :: vs) (upd H1 a (exo a C none)) (fun v H2 => v = .non ∧ Q (.ref a) H2) (fun _ _ _ => False)
theorem run_oe {X : Cx} {C fI : Addr} {k : Nat} {fd : FuncData} {ps : List Str} {sp : Sp} (T : OeC X.K C) (iC : PySem.W.findIn X.K (.ref C) "__init__" = some (some (.ref fI))) (tI : PySem.W.typeIn X.K (.ref fI) = some (.type "function"))
    (F1 : FnOk X.prog X.w X.K X.mg X.base CX0 k fI fd ps sp) (hr : Room (k + 1) X.A) {pins : List (Addr × Obj)} {σ : L2.St} {H : Hp} {s : Shared} {Q : VK} {us : List Value} {kws : List (Str × Value)} {zs : Addr → List Value}
    (I : Inv X pins σ H s) (hl : us.length ≤ sizeLine) (h : ∀ a, H a = none → ∃ ws : List V, (∀ s', X.K.In s'.heap → BindsTo s' fd ⟨Value.ref a :: us, kws⟩ (ps.zip (zs a))) ∧ Vals ws (zs a) ∧ sp ws (upd H a (exo a C none)) (fun v H2 => v = .non ∧ Q (.ref a) H2) (fun _ _ _ => False)) :
    wpAny (model X.prog X.w) X.A (call (.ref C) us kws) (EP X pins σ Q) X.xe s := by
  obtain ⟨B, newId, initId, bm0, bmB, B', f, SF, q, ov⟩ := T.ex
  obtain ⟨nm, N, qn, bs, bm, hdct, sn, sub, ab, col, dd, k0, k1, k2, k3, k5, hC, hT⟩ := PySem.W.excInit_of I.kIn q
  obtain ⟨h0, g, dr, tk, os⟩ := s
  have hsz : h0.objs.size ≤ h0.objs.size + 1 := Nat.le_succ _
  have hn : H (h0.objs.size + 1) = none := I.hok.fresh hsz
  obtain ⟨ws, hb, r2, hq⟩ := h (h0.objs.size + 1) hn
  have kk : ∀ b o, h0.get? b = some o → ((h0.push (PySem.W.kdv_tup us)).push (PySem.HandSPX.excO C h0.objs.size)).get? b = some o := fun b o e =>
    Heap.get?_push_of_some _ (Heap.get?_push_of_some _ e)
  have gE : ((h0.push (PySem.W.kdv_tup us)).push (PySem.HandSPX.excO C h0.objs.size)).get? (h0.objs.size + 1) = some (PySem.HandSPX.excO C h0.objs.size) := by heap_get
  have I2 : Inv X pins σ (upd H (h0.objs.size + 1) (exo (h0.objs.size + 1) C none)) ⟨(h0.push (PySem.W.kdv_tup us)).push (PySem.HandSPX.excO C h0.objs.size), g, dr, tk, os⟩ :=
    I.laid (t' := tk) (a := h0.objs.size + 1) (o := exo (h0.objs.size + 1) C none) (h' := (h0.push (PySem.W.kdv_tup us)).push (PySem.HandSPX.excO C h0.objs.size)) kk hsz (exo_ok gE)
  refine wpAny_call (PySem.LmX.call_ownK f hT hC (PySem.W.looks_findIn I.kIn iC) (fun self => PySem.W.bind_fn I.kIn self tI) hl
    (codeAny_mono (F1.run _ X.stack _ _ ⟨Value.ref (h0.objs.size + 1) :: us, kws⟩ (zs (h0.objs.size + 1)) _ _ (fun _ _ _ => False) (hr.make C us kws) (I2.env0.make C us kws) (hb _ I2.kIn) r2 hq) fun r s' hq' => ?_))
  cases r with
  | error er => exact False.elim hq'
  | ok fl =>
    cases fl with
    | ret u =>
      obtain ⟨v, H3, I3, rv, ev, q3⟩ := I2.after hq'
      subst ev
      exact ⟨rv, ⟨V.ref (h0.objs.size + 1), H3, I3, rfl, q3⟩⟩
    | next => exact False.elim hq'
    | brk => exact False.elim hq'
    | cont => exact False.elim hq'
end Lm

set_option Elab.async false
set_option linter.all false
set_option maxRecDepth 100000
set_option maxHeartbeats 4000000
namespace Lm
open PySem PySem.Spec PyProof.Rows L2 LmR
/-- an own class of exceptions with an __init__ (st) that keeps fs -/
structure RfV (K : PySem.W.Frag) (mg : Str → Option Value) (x q : Str) (C fI : Addr) (fd : FuncData) (st : Stmt) (fs : List Str) : Prop where
  g : mg x = some (.ref C)
  o : OeC K C
  f : XfC K C
  k : ExK K C
  fld : ∀ n ∈ fs, PySem.W.findIn K (.ref C) n = some none
  iC : PySem.W.findIn K (.ref C) "__init__" = some (some (.ref fI))
  tI : PySem.W.typeIn K (.ref fI) = some (.type "function")
  F : Fun K "__init__" q st fI fd
  b : Binds K fd ("self" :: fs) []
section
variable {X : Cx} {x q : Str} {C fI : Addr} {fd : FuncData} {st : Stmt} {fs : List Str} {sp : Sp} {k : Nat} {p pos : Pos}
theorem pe_exv {e : Expr} {es : List Expr} {ta : TA} (R : RfV X.K X.mg x q C fI fd st fs) (F1 : FnOk X.prog X.w X.K X.mg X.base CX0 k fI fd ("self" :: fs) sp) (hr : Room (k + 1) X.A) (hg : Gl X x) (ha : PA X (e :: es) ta)
    (hdb : (x == ("__debug__" : Str)) = false := by decide) (he : starEach (e :: es) X.env = (false, eval e X.env) :: starEach es X.env := by rfl) (hpl : (backTo pos (starEach es X.env)).any (·.1) = false := by rfl) :
    PE X (.Call (.Name x p) (e :: es) [] pos) (tMkV C sp ta) := by
  refine ⟨fun pins s σ H Q I h => ?_⟩
  refine wpAny_Call_Name_kw (ld_glob I hg R.g ?_ hdb)
  refine PySem.W.callWith_K (h₀ := X.base) I.ok.mod.kin R.o.kC (thn (ha.run pos pins s σ H _ I h) fun us s1 ⟨vs, H1, I1, r1, hz, q1⟩ => ⟨I1.kIn, ?_⟩) he hpl
  show wpAny _ _ (call (.ref C) us) _ _ _
  have l1 : us.length ≤ sizeLine := by rw [← Paired.length r1, sizeLine_eq]; omega
  refine run_oe R.o R.iC R.tI F1 hr I1 (kws := []) (zs := fun a => .ref a :: us) l1 fun a ha => ⟨.ref a :: vs, fun s' kin => ?_, .cons rfl r1, q1 a ha⟩
  have l2 : (Value.ref a :: us).length = ((("self" : Str) :: fs)).length := by
    have z := F1.len _ _ _ _ (q1 a ha)
    rw [← z, List.length_cons, List.length_cons, Paired.length r1]
  have b := R.b s' (Value.ref a :: us) kin (by rw [List.append_nil]; exact l2)
  rw [List.append_nil] at b
  exact b
/-- C(k = v, ..) -/
def tMkVN (C : Addr) (m : Nat) (sp : Sp) (gV : List V → List V → List V) (tk : TA) : TE := fun σ H Q => tk σ H fun zs H1 => zs.length = m ∧ ∀ a, H1 a = none → sp (gV [.ref a] zs) (upd H1 a (exo a C none)) (fun v H2 => v = .non ∧ Q (.ref a) H2) (fun _ _ _ => False)
theorem pe_exk {ks : List Str} {g : List Value → List Value → List Value} {gV : List V → List V → List V} {kws : List Keyword} {tk : TA} (R : RfV X.K X.mg x q C fI fd st fs) (F1 : FnOk X.prog X.w X.K X.mg X.base CX0 k fI fd ("self" :: fs) sp) (hr : Room (k + 1) X.A) (hb : KBn X.K fd ("self" :: fs) 1 ks g gV) (hg : Gl X x) (hkw : PK X kws tk)
    (hall : (backToKw pos (keywordEach kws X.env)).all (·.1.isSome) = true := by rfl) (hks : (backToKw pos (keywordEach kws X.env)).filterMap (·.1) = ks := by rfl) (hdb : (x == ("__debug__" : Str)) = false := by decide)
    (hpl : ((backTo pos (starEach [] X.env)).any (·.1) || (backToKw pos (keywordEach kws X.env)).any (·.1.isNone)) = false := by rfl) :
    PE X (.Call (.Name x p) [] kws pos) (tMkVN C ks.length sp gV tk) := by
  refine ⟨fun pins s σ H Q I h => ?_⟩
  refine wpAny_Call_Name_kw (ld_glob I hg R.g ?_ hdb)
  refine PySem.W.callWith_KW0 (h₀ := X.base) I.ok.mod.kin R.o.kC hall ?_ hpl
  refine thn (hkw.run pos pins s σ H _ I h) fun ws s2 ⟨zs, H2, I2, rz, l2, q2⟩ => ⟨I2.kIn, ?_⟩
  rw [hks]
  have l3 : ws.length = ks.length := rz.length.symm.trans l2
  exact run_oe R.o R.iC R.tI F1 hr I2 (us := []) (kws := ks.zip ws) (zs := fun a => g [.ref a] ws) (Nat.zero_le _) fun a ha =>
    ⟨gV [.ref a] zs, fun s' kin => hb.to s' [.ref a] ws kin rfl l3, hb.rel (.cons rfl .nil) rz, q2 a ha⟩
theorem kbn_fwd {K : PySem.W.Frag} {ks : List Str} (F : Fun K "__init__" q st fI fd)
    (h : ∀ (kV doc pm : Value) (an : Option Addr) (cdv ct a : Value) (ws : List Value), ws.length = ks.length → bindArgs (PySem.W.fnOf "__init__" q (defArgs st) (defBody st) (defScope st) .none kV doc pm an cdv ct) ⟨[a], ks.zip ws⟩ = pure ((("self" : Str) :: fs).zip (a :: ws))) :
    KBn K fd ("self" :: fs) 1 ks (fun us ws => us ++ ws) (fun vs zs => vs ++ zs) := by
  obtain ⟨oc, od, kV, doc, pm, an, cdv, ct, osl, rfl, _, _⟩ := F.ex
  refine ⟨fun s us ws _ l1 l2 => ?_, fun r1 r2 => r1.append r2⟩
  match us, l1 with
  | [a], _ => exact .of_eq (h _ _ _ _ _ _ a ws l2)
theorem kbn_bwd {K : PySem.W.Frag} {ks : List Str} (F : Fun K "__init__" q st fI fd)
    (h : ∀ (kV doc pm : Value) (an : Option Addr) (cdv ct a : Value) (ws : List Value), ws.length = ks.length → bindArgs (PySem.W.fnOf "__init__" q (defArgs st) (defBody st) (defScope st) .none kV doc pm an cdv ct) ⟨[a], ks.zip ws⟩ = pure ((("self" : Str) :: fs).zip (a :: ws.reverse))) :
    KBn K fd ("self" :: fs) 1 ks (fun us ws => us ++ ws.reverse) (fun vs zs => vs ++ zs.reverse) := by
  obtain ⟨oc, od, kV, doc, pm, an, cdv, ct, osl, rfl, _, _⟩ := F.ex
  refine ⟨fun s us ws _ l1 l2 => ?_, fun r1 r2 => r1.append (vals_rev r2)⟩
  match us, l1 with
  | [a], _ => exact .of_eq (h _ _ _ _ _ _ a ws l2)
/-- C(), C without an own __init__ -/
structure RfN (K : PySem.W.Frag) (mg : Str → Option Value) (x : Str) (C : Addr) : Prop where
  g : mg x = some (.ref C)
  ex : ∃ B newId initId bmB, ExcBaseFacts B newId initId bmB ∧ PySem.W.excIn K C bmB newId = true
  kC : PySem.W.keepIn K (.ref C) = true
  k : ExK K C
theorem pe_ex0 (R : RfN X.K X.mg x C) (hg : Gl X x) (hdb : (x == ("__debug__" : Str)) = false := by decide) :
    PE X (.Call (.Name x p) [] [] pos) (fun σ H Q => ∀ a, H a = none → Q (.ref a) (upd H a (ExO (.ref C) a))) := by
  obtain ⟨B, newId, initId, bmB, F, hq⟩ := R.ex
  refine ⟨fun pins s σ H Q I h => ?_⟩
  refine wpAny_Call_Name_kw (ld_glob I hg R.g ?_ hdb)
  refine PySem.W.callWith_K0 I.kIn R.kC ?_
  show wpAny _ _ (call (.ref C) []) _ _ _
  obtain ⟨bm, N, nm, qn, bs, hdct, sn, sub, ab, col, dd, k0, k1, k2, k3, k5, mN, hC, hN, hni, T⟩ := exc_obj I.kIn hq
  refine wpAny_call_exc_subT F T hC hN hni (fun h' a hm => ?_) (Nat.zero_le _)
  have hn : H a = none := I.hok.gone hm.new
  obtain ⟨t, ht, _, _⟩ := hm.there
  exact ⟨.ref a, upd H a (ExO (.ref C) a), I.laidN hm.keeps hm.new hn (exO_ok ht ⟨rfl, rfl⟩ rfl rfl rfl (show 4 < 6 by decide)), rfl, h a hn⟩
end
/-! ### isinstance, fields -/
/-- an exception of the class at C, not raised -/
def Exn (H : Hp) (e C : Addr) : Prop := (∃ (d : Addr) (fs : List (Str × V)), H e = some (exo e C (some d)) ∧ H d = some (exd d fs)) ∨ H e = some (ExO (.ref C) e)
theorem Exn.same {H H' : Hp} {e C : Addr} (h : Exn H e C) (s : Same H H') : Exn H' e C := by
  rcases h with ⟨d, fs, a, b⟩ | a
  · exact .inl ⟨d, fs, s _ _ a, s _ _ b⟩
  · exact .inr (s _ _ a)
theorem exn_at {X : Cx} {pins : List (Addr × Obj)} {σ : L2.St} {H : Hp} {s : Shared} {e C : Addr} (I : Inv X pins σ H s) (h : Exn H e C) : ∃ oe od, PySem.W.InstAt s.heap e oe C od := by
  rcases h with ⟨d, fs, ea, ed⟩ | ea
  · obtain ⟨t1, ho⟩ := exo_at I.hok ea
    obtain ⟨mA, hns, rel⟩ := exd_at I.hok ed
    obtain ⟨od, hd, _⟩ := lookIn_ns hns
    exact ⟨_, some od, ho, rfl, rfl, hd⟩
  · obtain ⟨⟨oe, vs, ho, hz, hd, _⟩, _, _⟩ := I.hok _ _ ea
    exact ⟨oe, none, ho, hz.1, by unfold PySem.W.notCls; rw [hd] <;> rfl, by rw [hz.2]; trivial⟩
def rIsV (K : PySem.W.Frag) : List V → Hp → VK → Prop := fun xs H Q => ∃ (e C : Addr) (c : V) (cv : Value) (b : Bool), xs = [.ref e, c] ∧ Exn H e C ∧ ExK K C ∧ (∀ u, RelV c u → u = cv) ∧ PySem.W.kitOne K (.ref C) cv = some b ∧ Q (.bl b) H
theorem call_isV {X : Cx} : CallR X (.builtin "isinstance") (rIsV X.K) := by
  intro pins s σ H xs us Q I r h
  obtain ⟨e, C, c, cv, b, rfl, hx, k, hc, hk, q⟩ := h
  obtain ⟨u1, u2, rfl, r1, r2⟩ := vals2 r
  cases (show u1 = Value.ref e from r1)
  obtain rfl := hc _ r2
  obtain ⟨oe, od, J⟩ := exn_at I hx
  exact PySem.W.kia_one (PySem.W.kitx_exc k.cl k.ga k.gg k.ex k.ca k.gn k.tk k.ob) I.kIn J hk (fun z => nomatch z) fun tk => ⟨.bl b, H, I.tok tk, rfl, q⟩
def tFldV (K : PySem.W.Frag) (n : Str) (te : TE) : TE := fun σ H Q => te σ H fun x H1 => ∃ (a C d : Addr) (fs : List (Str × V)) (v : V), x = .ref a ∧ XfC K C ∧ PySem.W.findIn K (.ref C) n = some none ∧ H1 a = some (exo a C (some d)) ∧ H1 d = some (exd d fs) ∧ fs.lookup n = some v ∧ Q v H1
theorem pe_fldV {X : Cx} {e : Expr} {te : TE} {pos : Pos} {n : Str} (he : PE X e te) (hb : attributeBase e n X.env (eval e X.env) = eval e X.env := by rfl) : PE X (.Attribute e n pos) (tFldV X.K n te) := by
  refine ⟨fun pins s σ H Q I h => ?_⟩
  refine attr_of hb (thn (he.run pins s σ H _ I h) fun u s1 hh => ?_)
  obtain ⟨x, H1, I1, rx, a, C, d, fs, v, ex, T, hno, ea, ed, l, q⟩ := hh
  subst ex
  obtain rfl : u = Value.ref a := rx
  obtain ⟨t1, ho⟩ := exo_at I1.hok ea
  obtain ⟨mA, hns, hr⟩ := exd_at I1.hok ed
  obtain ⟨od, hd, hl⟩ := lookIn_ns hns
  obtain ⟨u, hu, ru⟩ := RelO.some_of (v := v) (o := mA n) (by rw [← l]; exact hr n)
  have J : PySem.W.InstAt s1.heap a { cls := .ref C, dict := some d, data := .fields #[.ref t1, .none, .none, .none, .bool false, .none] } C (some od) := ⟨ho, rfl, rfl, hd⟩
  exact HandSPX.exc_get I1.kIn J T.ga T.gg T.exC (PySem.W.findObj_own T.hdC hno rfl (by rw [hl, hu])) (handed_of ru) ⟨v, H1, I1.tok _, ru, q⟩
def kitTab (K : PySem.W.Frag) (cs ds : List Value) (f : Nat → Nat → Bool) : Bool := (List.range cs.length).all fun i => (List.range ds.length).all fun j => match cs[i]?, ds[j]? with
  | some c, some d => PySem.W.kitOne K c d == some (f i j)
  | _, _ => false
theorem kitTab_get {K : PySem.W.Frag} {cs ds : List Value} {f : Nat → Nat → Bool} (h : kitTab K cs ds f = true) {i j : Nat} {c d : Value} (hc : cs[i]? = some c) (hd : ds[j]? = some d) : PySem.W.kitOne K c d = some (f i j) := by
  unfold kitTab at h
  have hi : i < cs.length := (List.getElem?_eq_some_iff.mp hc).1
  have hj : j < ds.length := (List.getElem?_eq_some_iff.mp hd).1
  have h1 := List.all_eq_true.mp h i (List.mem_range.mpr hi)
  have h2 := List.all_eq_true.mp h1 j (List.mem_range.mpr hj)
  rw [hc, hd] at h2
  exact beq_iff_eq.mp h2
def twF (i j : Nat) : Bool := if j < 12 then decide (j = i) else if j < 14 then decide (i < 8) else if j = 14 then !decide (i < 8) else if j = 15 then decide (i = 10) else decide (i = 11)
end Lm

set_option Elab.async false
set_option linter.all false
set_option maxRecDepth 100000
namespace Lm
open PySem PySem.Spec PyProof.Rows L2 LmR
/-! ### a == b, a != b of data without dicts, of any texts -/
def rEqP (K : PySem.W.Frag) : R2 := fun x y H Q => ∃ d e, Dp K H x d ∧ Dp K H y e ∧ d.plain = true ∧ e.plain = true ∧ d.depth ≤ 64 ∧ Q (.bl (PyData.eqv d e)) H
def rNeP (K : PySem.W.Frag) : R2 := fun x y H Q => ∃ d e, Dp K H x d ∧ Dp K H y e ∧ d.plain = true ∧ e.plain = true ∧ d.depth ≤ 64 ∧ Q (.bl (!PyData.eqv d e)) H
theorem op_eqP {X : Cx} (hu : X.A.units + 64 < cLine) : OpR X (compareOp .Eq) (rEqP X.K) := by
  intro pins s σ H x y v u Q I rx ry h
  obtain ⟨d, e, hd, he, sd, se, dd, q⟩ := h
  obtain ⟨as, r1⟩ := Dp.reads I d x v hd rx
  obtain ⟨bs, r2⟩ := Dp.reads I e y u he ry
  exact SeqAt.eq_plain r1 r2 sd se (by omega) ⟨.bl _, H, I, rfl, q⟩
theorem op_neP {X : Cx} (hu : X.A.units + 64 < cLine) : OpR X (compareOp .NotEq) (rNeP X.K) := by
  intro pins s σ H x y v u Q I rx ry h
  obtain ⟨d, e, hd, he, sd, se, dd, q⟩ := h
  obtain ⟨as, r1⟩ := Dp.reads I d x v hd rx
  obtain ⟨bs, r2⟩ := Dp.reads I e y u he ry
  exact SeqAt.ne_plain r1 r2 sd se (by omega) ⟨.bl _, H, I, rfl, q⟩
mutual
theorem plain_flat : ∀ d : PyData, flat d = true → d.plain = true
  | .none, _ => rfl
  | .bool _, _ => rfl
  | .int _, _ => rfl
  | .str _, _ => rfl
  | .list _, h => by simp [flat] at h
  | .tuple xs, h => plains_flat xs h
  | .dict _, h => by simp [flat] at h
theorem plains_flat : ∀ ds : List PyData, flat.flats ds = true → PyData.plainAll ds = true
  | [], _ => rfl
  | d :: ds, h => by
    rw [flat.flats, Bool.and_eq_true] at h
    show (d.plain && PyData.plainAll ds) = true
    rw [plain_flat d h.1, plains_flat ds h.2]; rfl
end
end Lm

set_option Elab.async false
set_option linter.all false
set_option maxRecDepth 100000
set_option maxHeartbeats 2000000
namespace Lm
open PySem PySem.Spec PyProof.Rows L2 LmR
/-! ### flat data: kinds, sizes -/
def tyn : PyData → String
  | .none => "NoneType"
  | .bool _ => "bool"
  | .int _ => "int"
  | .str _ => "str"
  | .list _ => "list"
  | .tuple _ => "tuple"
  | .dict _ => "dict"
theorem tyx_tup {K : PySem.W.Frag} {H : Hp} {a : Addr} {xs : List V} (q : SqT K H a xs) : TyX K H (.ref a) (.type "tuple") := by
  rcases q with (q | ⟨o, q⟩) | ⟨o, its, n, hk, hc, _⟩
  · exact .base (.tup q)
  · exact .fTuple q
  · exact .kTuple hk hc
theorem Fd.ty {K : PySem.W.Frag} {H : Hp} {v : V} {d : PyData} (h : Fd K H v d) : TyX K H v (.type (tyn d)) := by
  obtain ⟨f, h⟩ := h
  cases h with
  | non => exact .base .non
  | bl b => exact .base (.bl b)
  | int i => exact .base (.int i)
  | str x => exact .base (.str x)
  | lst q r => simp [flat] at f
  | tup q r => exact tyx_tup q
def isTup : PyData → Bool
  | .tuple _ => true
  | _ => false
def isBl : PyData → Bool
  | .bool _ => true
  | _ => false
def isStr : PyData → Bool
  | .str _ => true
  | _ => false
def isInt : PyData → Bool
  | .bool _ => true
  | .int _ => true
  | _ => false
theorem kit_tup {K : PySem.W.Frag} (d : PyData) (h : flat d = true) : PySem.W.kitOne K (.type (tyn d)) (.type "tuple") = some (isTup d) := by
  cases d <;> first | (simp [flat] at h; done) | exact kit_ty (a := "NoneType") (r := true) (by decide +kernel) | exact kit_ty (a := "NoneType") (r := false) (by decide +kernel) | exact kit_ty (a := "bool") (r := true) (by decide +kernel) | exact kit_ty (a := "bool") (r := false) (by decide +kernel) | exact kit_ty (a := "int") (r := true) (by decide +kernel) | exact kit_ty (a := "int") (r := false) (by decide +kernel) | exact kit_ty (a := "str") (r := true) (by decide +kernel) | exact kit_ty (a := "str") (r := false) (by decide +kernel) | exact kit_ty (a := "tuple") (r := true) (by decide +kernel) | exact kit_ty (a := "tuple") (r := false) (by decide +kernel)
theorem kit_bl {K : PySem.W.Frag} (d : PyData) (h : flat d = true) : PySem.W.kitOne K (.type (tyn d)) (.type "bool") = some (isBl d) := by
  cases d <;> first | (simp [flat] at h; done) | exact kit_ty (a := "NoneType") (r := true) (by decide +kernel) | exact kit_ty (a := "NoneType") (r := false) (by decide +kernel) | exact kit_ty (a := "bool") (r := true) (by decide +kernel) | exact kit_ty (a := "bool") (r := false) (by decide +kernel) | exact kit_ty (a := "int") (r := true) (by decide +kernel) | exact kit_ty (a := "int") (r := false) (by decide +kernel) | exact kit_ty (a := "str") (r := true) (by decide +kernel) | exact kit_ty (a := "str") (r := false) (by decide +kernel) | exact kit_ty (a := "tuple") (r := true) (by decide +kernel) | exact kit_ty (a := "tuple") (r := false) (by decide +kernel)
theorem kit_str {K : PySem.W.Frag} (d : PyData) (h : flat d = true) : PySem.W.kitOne K (.type (tyn d)) (.type "str") = some (isStr d) := by
  cases d <;> first | (simp [flat] at h; done) | exact kit_ty (a := "NoneType") (r := true) (by decide +kernel) | exact kit_ty (a := "NoneType") (r := false) (by decide +kernel) | exact kit_ty (a := "bool") (r := true) (by decide +kernel) | exact kit_ty (a := "bool") (r := false) (by decide +kernel) | exact kit_ty (a := "int") (r := true) (by decide +kernel) | exact kit_ty (a := "int") (r := false) (by decide +kernel) | exact kit_ty (a := "str") (r := true) (by decide +kernel) | exact kit_ty (a := "str") (r := false) (by decide +kernel) | exact kit_ty (a := "tuple") (r := true) (by decide +kernel) | exact kit_ty (a := "tuple") (r := false) (by decide +kernel)
theorem kit_int {K : PySem.W.Frag} (d : PyData) (h : flat d = true) : PySem.W.kitOne K (.type (tyn d)) (.type "int") = some (isInt d) := by
  cases d <;> first | (simp [flat] at h; done) | exact kit_ty (a := "NoneType") (r := true) (by decide +kernel) | exact kit_ty (a := "NoneType") (r := false) (by decide +kernel) | exact kit_ty (a := "bool") (r := true) (by decide +kernel) | exact kit_ty (a := "bool") (r := false) (by decide +kernel) | exact kit_ty (a := "int") (r := true) (by decide +kernel) | exact kit_ty (a := "int") (r := false) (by decide +kernel) | exact kit_ty (a := "str") (r := true) (by decide +kernel) | exact kit_ty (a := "str") (r := false) (by decide +kernel) | exact kit_ty (a := "tuple") (r := true) (by decide +kernel) | exact kit_ty (a := "tuple") (r := false) (by decide +kernel)
end Lm

set_option Elab.async false
set_option linter.all false
set_option maxRecDepth 100000
set_option maxHeartbeats 2000000
set_option pp.maxSteps 2000
set_option pp.deepTerms.threshold 12
namespace Lm
open PySem PySem.Spec PyProof.Rows L2 LmR
def topS (i : Nat) : Stmt := PySem.Challenge.pw_leastmaker_k01_refusals.main.body.getD i (.Pass ⟨0, 0, 0, 0⟩)
theorem lg80 {m : Int} (h0 : 0 < m) (h1 : m < 2 ^ 80) : m.natAbs.log2 < 9000 := by
  have h : m.natAbs < 2 ^ 80 := by omega
  have h2 : m.natAbs ≠ 0 := by omega
  have := (Nat.log2_lt h2).mpr h
  omega
section
variable {P : Program} {w : World} {K : PySem.W.Frag} {mg : Str → Option Value} {base : Heap}
/-! ### cell, flow, draw -/
abbrev s_l_cell : Stmt := topS 15
theorem sc_l_cell : FnScope ["_law_script", "_law_k", "_law_whole"] ["_law_script", "_law_k"] (defScope s_l_cell) := ⟨rfl, rfl, rfl, by decide +kernel, rfl, by decide +kernel, by decide +kernel⟩
def spCell (K : PySem.W.Frag) : Sp := fun vs H Q _ => ∃ (a : Addr) (ns : List Int) (k : Int), vs = [.ref a, .int k] ∧ SqL K H a (ns.map V.int) ∧ 0 ≤ k ∧ ∀ i, Q (.int i) H
theorem ok_l_cell (B : Bt mg) (D : DefAt K mg "_law_cell" s_l_cell ["_law_script", "_law_k"]) : Cal P w K mg base 1 "_law_cell" ["_law_script", "_law_k"] (spCell K) := by
  refine cal_of D sc_l_cell (fun vs H Q E h => ?_) (fun f cdv A outer s H vs Q E hr h => ?_)
  · obtain ⟨a, ns, k, rfl, _⟩ := h
    rfl
  obtain ⟨a, ns, k, rfl, hS, h0, q⟩ := h
  refine ⟨_, (pss_cons (ps_if (pt_cmpR op_lt (pv 1) (pe_callB call_len_seq (by rfl) B.len PySem.boot_len (pa_cons (pv 0) pa_nil)) (nomark _))
        (pss_one (ps_ret (pe_ix ix_list (pv 0) (pv 1) (fun _ _ => rfl))))
        pss_nil)
      (pss_cons (ps_set (i := 2) sc_l_cell.nd rfl (.inl rfl) (pe_op op_add (pe_op op_mul (pv 1) pe_int) pe_int))
      (pss_cons (ps_if (pt_cmpR op_gt (pe_callB call_len_seq (by rfl) B.len PySem.boot_len (pa_cons (pv 0) pa_nil)) pe_int (nomark _))
        (pss_one (ps_set (i := 2) sc_l_cell.nd rfl (.inl rfl) (pe_op op_add (pe_op op_mul (pe_op op_mod (pe_ix ix_list (pv 0) (pe_op op_mod (pe_op op_mul (pv 1) pe_int) (pe_callB call_len_seq (by rfl) B.len PySem.boot_len (pa_cons (pv 0) pa_nil))) (fun _ _ => rfl)) pe_int) pe_int) (pe_op op_mul (pv 1) pe_int))))
        pss_nil)
      (pss_one (ps_ret (pe_op op_mul (pe_op op_mod (pv 2) pe_int) pe_int)))))), ?_⟩
  have hl : (ns.map V.int).length = ns.length := List.length_map _
  refine ⟨_, rfl, _, rfl, a, _, rfl, .inl hS, _, _, rfl, rfl, _, rfl, ite2 (fun c => ?_) (fun c => ?_)⟩
  · have c' : k < (((ns.map V.int).length : Nat) : Int) := of_decide_eq_true c
    rw [hl] at c'
    have e : (ns.map V.int)[k.toNat]? = some (.int ns[k.toNat]) := by
      rw [List.getElem?_map, List.getElem?_eq_getElem (by omega)]
      rfl
    exact ⟨_, rfl, _, rfl, a, _, _, _, rfl, rfl, hS, at_of (j := k.toNat) (by omega) e, q _⟩
  · refine ⟨_, rfl, _, _, rfl, rfl, .inr ⟨by decide, by decide⟩, _, _, rfl, rfl, ?_⟩
    refine ⟨_, rfl, a, _, rfl, .inl hS, _, _, rfl, rfl, _, rfl, ite2 (fun c2 => ?_) (fun c2 => ?_)⟩
    · have c2' : (((ns.map V.int).length : Nat) : Int) > 0 := of_decide_eq_true c2
      rw [hl] at c2'
      have hp : (0 : Int) < (((ns.map V.int).length : Nat) : Int) := by rw [hl]; omega
      have b1 : 0 ≤ (k * 7) % (((ns.map V.int).length : Nat) : Int) := Int.emod_nonneg _ (by omega)
      have b2 : (k * 7) % (((ns.map V.int).length : Nat) : Int) < (((ns.map V.int).length : Nat) : Int) := Int.emod_lt_of_pos _ hp
      generalize hj : (k * 7) % (((ns.map V.int).length : Nat) : Int) = j at b1 b2
      rw [hl] at b2
      have e : (ns.map V.int)[j.toNat]? = some (.int ns[j.toNat]) := by
        rw [List.getElem?_map, List.getElem?_eq_getElem (by omega)]
        rfl
      have m1 : 0 ≤ ns[j.toNat] % 2147483629 := Int.emod_nonneg _ (by decide)
      have m2 : ns[j.toNat] % 2147483629 < 2147483629 := Int.emod_lt_of_pos _ (by decide)
      refine ⟨_, rfl, _, rfl, _, _, rfl, rfl, .inr ⟨by decide, by decide⟩, _, rfl, a, _, rfl, .inl hS, _, _, rfl, rfl, hp, a, _, _, V.int ns[j.toNat], rfl, rfl, hS, ?_, _, _, rfl, rfl, (by show (0 : Int) < 2147483629; decide), _, _, rfl, rfl, .inl ⟨by omega, by omega⟩, _, rfl, _, _, rfl, rfl, .inr ⟨by decide, by decide⟩, _, _, rfl, rfl, ?_⟩
      · rw [hj]
        exact at_of (j := j.toNat) (by omega) e
      · have n1 := Int.emod_nonneg (ns[j.toNat] % 2147483629 * 48271 + k * 7919) (show (2147483647 : Int) ≠ 0 by decide)
        have n2 := Int.emod_lt_of_pos (ns[j.toNat] % 2147483629 * 48271 + k * 7919) (show (0 : Int) < 2147483647 by decide)
        exact ⟨_, rfl, _, _, rfl, rfl, (by show (0 : Int) < 2147483647; decide), _, _, rfl, rfl, .inr ⟨by decide, by decide⟩, q _⟩
    · exact ⟨_, rfl, _, _, rfl, rfl, (by show (0 : Int) < 2147483647; decide), _, _, rfl, rfl, .inr ⟨by decide, by decide⟩, q _⟩
abbrev s_l_flow : Stmt := topS 16
theorem sc_l_flow : FnScope ["_law_script", "_law_k", "_law_cell_here", "_law_own"] ["_law_script", "_law_k"] (defScope s_l_flow) := ⟨rfl, rfl, rfl, by decide +kernel, rfl, by decide +kernel, by decide +kernel⟩
def spFlow (K : PySem.W.Frag) : Sp := fun vs H Q _ => ∃ (a : Addr) (ns : List Int) (k : Int), vs = [.ref a, .int k] ∧ SqL K H a (ns.map V.int) ∧ 0 ≤ k ∧ k ≤ 63 ∧ ∀ (p : Addr) (o : HO), H p = none → Flow (upd H p o) p → Q (.ref p) (upd H p o)
theorem ok_l_flow (C_l_cell : Cal P w K mg base 1 "_law_cell" ["_law_script", "_law_k"] (spCell K)) (D : DefAt K mg "_law_flow" s_l_flow ["_law_script", "_law_k"]) : Cal P w K mg base 2 "_law_flow" ["_law_script", "_law_k"] (spFlow K) := by
  refine cal_of D sc_l_flow (fun vs H Q E h => ?_) (fun f cdv A outer s H vs Q E hr h => ?_)
  · obtain ⟨a, ns, k, rfl, _⟩ := h
    rfl
  obtain ⟨a, ns, k, rfl, hS, h0, h1, q⟩ := h
  have hr' : Room 1 _ := hr
  refine ⟨_, (pss_cons (ps_set (i := 2) sc_l_flow.nd rfl (.inl rfl) (pe_cal C_l_cell hr' (by rfl) (pa_cons (pv 0) (pa_cons (pv 1) pa_nil))))
      (pss_cons (ps_set (i := 3) sc_l_flow.nd rfl (.inl rfl) pe_int)
      (pss_cons (ps_if (pt_cmpR op_ge (pv 2) (pe_op op_pow pe_int pe_int) (nomark _))
        (pss_one (ps_set (i := 3) sc_l_flow.nd rfl (.inl rfl) (pv 2)))
        pss_nil)
      (pss_one (ps_ret (pe_lst (pa_cons (pv 3) (pa_cons pe_int (pa_cons (pe_op op_add (pe_op op_mod (pv 2) pe_int) (pe_op op_mul pe_int (pv 1))) pa_nil))))))))), ?_⟩
  refine ⟨_, rfl, _, rfl, a, ns, k, rfl, hS, h0, fun i => ?_⟩
  have m1 : 0 ≤ i % 2147483629 := Int.emod_nonneg _ (by decide)
  have m2 : i % 2147483629 < 2147483629 := Int.emod_lt_of_pos _ (by decide)
  have pw : CPow 10 18 := ⟨by decide, by decide, by decide⟩
  refine ⟨_, rfl, _, _, rfl, rfl, pw, _, _, rfl, rfl, _, rfl, ite2 (fun c => ?_) (fun c => ?_)⟩
  · refine ⟨_, rfl, _, rfl, _, rfl, _, _, rfl, rfl, (by show (0 : Int) < 2147483629; decide), _, rfl, _, _, rfl, rfl, .inl ⟨by decide, by decide⟩, _, _, rfl, rfl, (by show 3 ≤ sizeLine; decide), fun p hp => q p _ hp ⟨_, _, _, upd_same, by omega, by omega⟩⟩
  · refine ⟨_, rfl, _, rfl, _, _, rfl, rfl, (by show (0 : Int) < 2147483629; decide), _, rfl, _, _, rfl, rfl, .inl ⟨by decide, by decide⟩, _, _, rfl, rfl, (by show 3 ≤ sizeLine; decide), fun p hp => q p _ hp ⟨_, _, _, upd_same, by omega, by omega⟩⟩
abbrev s_l_draw : Stmt := topS 17
theorem sc_l_draw : FnScope ["_law_flow_here", "_law_many", "_law_whole", "_law_digit"] ["_law_flow_here", "_law_many"] (defScope s_l_draw) := ⟨rfl, rfl, rfl, by decide +kernel, rfl, by decide +kernel, by decide +kernel⟩
def spDraw : Sp := fun vs H Q _ => ∃ (f : Addr) (m : Int), vs = [.ref f, .int m] ∧ Flow H f ∧ 0 < m ∧ m < 2 ^ 80 ∧ ∀ (d : Int) (H' : Hp), 0 ≤ d → d < m → Dr f H H' → Q (.int d) H'
theorem dr_put {f : Addr} {H H0 : Hp} {xs : List V} (o : ∀ b, b ≠ f → H0 b = H b) (fl : Flow (upd H0 f (.lst xs)) f) : Dr f H (upd H0 f (.lst xs)) := ⟨fun b n => by rw [upd_ne n]; exact o b n, fl⟩
theorem ok_l_draw (D : DefAt K mg "_law_draw" s_l_draw ["_law_flow_here", "_law_many"]) : Cal P w K mg base 1 "_law_draw" ["_law_flow_here", "_law_many"] (spDraw) := by
  refine cal_of D sc_l_draw (fun vs H Q E h => ?_) (fun f cdv A outer s H vs Q E hr h => ?_)
  · obtain ⟨a, m, rfl, _⟩ := h
    rfl
  obtain ⟨a, m, rfl, ⟨own, cnt, seed, hf, s0, s1⟩, m0, m1, q⟩ := h
  refine ⟨_, (pss_cons (ps_if (pt_cmpR op_gt (pe_ix ix_list (pv 0) pe_int (fun _ _ => rfl)) pe_int (nomark _))
        (pss_cons (ps_set (i := 3) sc_l_draw.nd rfl (.inl rfl) (pe_op op_mod (pe_ix ix_list (pv 0) pe_int (fun _ _ => rfl)) (pv 1)))
      (pss_cons (ps_asg (pe_op op_fdivW (pe_ix ix_list (pv 0) pe_int (fun _ _ => rfl)) (pv 1)) (pg_sub (pv 0) pe_int set_list))
      (pss_one (ps_ret (pv 3)))))
        pss_nil)
      (pss_cons (ps_asg (pe_op op_add (pe_ix ix_list (pv 0) pe_int (fun _ _ => rfl)) pe_int) (pg_sub (pv 0) pe_int set_list))
      (pss_cons (ps_set (i := 2) sc_l_draw.nd rfl (.inl rfl) (pe_op op_mod (pe_op op_add (pe_op op_add (pe_op op_mul (pe_ix ix_list (pv 0) pe_int (fun _ _ => rfl)) (pe_op op_add pe_int (pe_op op_mul pe_int (pe_ix ix_list (pv 0) pe_int (fun _ _ => rfl))))) (pe_op op_mul pe_int (pe_ix ix_list (pv 0) pe_int (fun _ _ => rfl)))) pe_int) pe_int))
      (pss_cons (ps_set (i := 2) sc_l_draw.nd rfl (.inl rfl) (pe_op op_mod (pe_op op_mul (pv 2) (pv 2)) pe_int))
      (pss_one (ps_ret (pe_op op_mod (pe_op op_fdiv (pe_op op_mod (pe_op op_mul (pe_op op_add (pv 2) pe_int) (pe_op op_add (pv 2) pe_int)) pe_int) pe_int) (pv 1)))))))), ?_⟩
  have L : SqL K H a [.int own, .int cnt, .int seed] := SqL.of hf
  refine ⟨_, rfl, a, _, 0, .int own, rfl, rfl, L, rfl, _, _, rfl, rfl, _, rfl, ite2 (fun c => ?_) (fun c => ?_)⟩
  · have b1 : 0 ≤ own % m := Int.emod_nonneg _ (by omega)
    have b2 : own % m < m := Int.emod_lt_of_pos _ m0
    refine ⟨_, rfl, a, _, 0, .int own, rfl, rfl, L, rfl, _, rfl, _, _, rfl, rfl, m0, ?_⟩
    refine ⟨_, rfl, a, _, 0, .int own, rfl, rfl, L, rfl, _, rfl, _, _, rfl, rfl, ⟨m0, lg80 m0 m1⟩, ?_⟩
    refine ⟨_, rfl, a, _, 0, 0, rfl, rfl, hf, rfl, ?_⟩
    exact ⟨_, rfl, q _ _ b1 b2 (dr_put (fun _ _ => rfl) ⟨_, _, _, upd_same, s0, s1⟩)⟩
  · refine ⟨_, rfl, a, _, 1, .int cnt, rfl, rfl, L, rfl, _, _, rfl, rfl, ?_⟩
    refine ⟨_, rfl, a, _, 1, 1, rfl, rfl, hf, rfl, ?_⟩
    have hf2 : (upd H a (.lst (List.set [.int own, .int cnt, .int seed] 1 (.int (cnt + 1))))) a = some (.lst [.int own, .int (cnt + 1), .int seed]) := upd_same
    generalize hH : upd H a (.lst (List.set [.int own, .int cnt, .int seed] 1 (.int (cnt + 1)))) = H2 at hf2
    have off : ∀ b, b ≠ a → H2 b = H b := fun b n => by
      rw [← hH, upd_ne n]
    have L2' : SqL K H2 a [.int own, .int (cnt + 1), .int seed] := SqL.of hf2
    refine ⟨_, rfl, a, _, 2, .int seed, rfl, rfl, L2', rfl, _, rfl, a, _, 1, .int (cnt + 1), rfl, rfl, L2', rfl, _, _, rfl, rfl, .inl ⟨by decide, by decide⟩, _, _, rfl, rfl, _, _, rfl, rfl, .inl ⟨by omega, by omega⟩, ?_⟩
    refine ⟨_, rfl, a, _, 1, .int (cnt + 1), rfl, rfl, L2', rfl, _, _, rfl, rfl, .inl ⟨by decide, by decide⟩, _, _, rfl, rfl, _, _, rfl, rfl, _, _, rfl, rfl, (by show (0 : Int) < 2147483629; decide), ?_⟩
    have n1 := Int.emod_nonneg (seed * (48271 + 2 * (cnt + 1)) + 7919 * (cnt + 1) + 1) (show (2147483629 : Int) ≠ 0 by decide)
    have n2 := Int.emod_lt_of_pos (seed * (48271 + 2 * (cnt + 1)) + 7919 * (cnt + 1) + 1) (show (0 : Int) < 2147483629 by decide)
    generalize (seed * (48271 + 2 * (cnt + 1)) + 7919 * (cnt + 1) + 1) % 2147483629 = n at n1 n2
    refine ⟨_, rfl, _, rfl, _, _, rfl, rfl, .inl ⟨by omega, by omega⟩, _, _, rfl, rfl, (by show (0 : Int) < 2147483587; decide), ?_⟩
    have k1 := Int.emod_nonneg (n * n) (show (2147483587 : Int) ≠ 0 by decide)
    have k2 := Int.emod_lt_of_pos (n * n) (show (0 : Int) < 2147483587 by decide)
    generalize n * n % 2147483587 = k at k1 k2
    refine ⟨_, rfl, _, _, rfl, rfl, _, rfl, _, _, rfl, rfl, _, _, rfl, rfl, .inl ⟨by omega, by omega⟩, _, _, rfl, rfl, (by show (0 : Int) < 2147483579; decide), _, _, rfl, rfl, ⟨by decide, by decide⟩, _, rfl, _, _, rfl, rfl, m0, ?_⟩
    exact q _ _ (Int.emod_nonneg _ (by omega)) (Int.emod_lt_of_pos _ m0) ⟨off, ⟨_, _, _, hf2, s0, s1⟩⟩
end
end Lm

set_option Elab.async false
set_option linter.all false
set_option maxRecDepth 100000
set_option maxHeartbeats 2000000
set_option pp.maxSteps 2000
set_option pp.deepTerms.threshold 12
namespace Lm
open PySem PySem.Spec PyProof.Rows L2 LmR
/-- how many things are in it -/
def dsz : PyData → Nat
  | .tuple xs => 1 + dszs xs
  | _ => 1
where dszs : List PyData → Nat
  | [] => 0
  | d :: ds => dsz d + dszs ds
theorem dsz_pos (d : PyData) : 1 ≤ dsz d := by cases d <;> simp [dsz]
theorem dszs_len : ∀ ds : List PyData, ds.length ≤ dsz.dszs ds
  | [] => Nat.le_refl _
  | d :: ds => by
    have h1 := dsz_pos d
    have h2 := dszs_len ds
    simp only [dsz.dszs, List.length_cons]
    omega
theorem dszs_app : ∀ ds es : List PyData, dsz.dszs (ds ++ es) = dsz.dszs ds + dsz.dszs es
  | [], es => by simp [dsz.dszs]
  | d :: ds, es => by
    have h := dszs_app ds es
    simp only [List.cons_append, dsz.dszs]
    omega
/-- numbers, texts, truths, none, a list of a number and none, tuples of these -/
def nic : PyData → Bool
  | .none => true
  | .bool _ => true
  | .int _ => true
  | .str _ => true
  | .list [.int _, .none] => true
  | .tuple ds => nics ds
  | _ => false
where nics : List PyData → Bool
  | [] => true
  | d :: ds => nic d && nics ds
theorem nics_get : ∀ {ds : List PyData}, nic.nics ds = true → ∀ (j : Nat) (d : PyData), ds[j]? = some d → nic d = true
  | [], _, j, d, h => by simp at h
  | e :: ds, f, 0, d, h => by
    rw [nic.nics, Bool.and_eq_true] at f
    have e := Option.some.inj h
    subst e
    exact f.1
  | e :: ds, f, j + 1, d, h => by
    rw [nic.nics, Bool.and_eq_true] at f
    exact nics_get f.2 j d h
theorem nic_list {ds : List PyData} (h : nic (.list ds) = true) : ∃ i, ds = [.int i, .none] := by
  match ds, h with
  | [.int i, .none], _ => exact ⟨i, rfl⟩
theorem tyx_lst {K : PySem.W.Frag} {H : Hp} {a : Addr} {xs : List V} (q : SqL K H a xs) : TyX K H (.ref a) (.type "list") := by
  rcases q with (q | ⟨o, q⟩) | ⟨o, its, n, hk, hc, _⟩
  · exact .base (.lst q)
  · exact .base (.frz q)
  · exact .kList hk hc
theorem dp_ty {K : PySem.W.Frag} {H : Hp} {v : V} {d : PyData} (h : Dp K H v d) : TyX K H v (.type (tyn d)) := by
  cases h with
  | non => exact .base .non
  | bl b => exact .base (.bl b)
  | int i => exact .base (.int i)
  | str x => exact .base (.str x)
  | lst q r => exact tyx_lst q
  | tup q r => exact tyx_tup q
theorem kn_tup {K : PySem.W.Frag} (d : PyData) (h : nic d = true) : PySem.W.kitOne K (.type (tyn d)) (.type "tuple") = some (isTup d) := by
  cases d <;> first | (simp [nic] at h; done) | exact kit_tup _ rfl | exact kit_ty (a := "list") (r := false) (by decide +kernel) | exact kit_ty (a := "tuple") (r := true) (by decide +kernel)
theorem kn_bl {K : PySem.W.Frag} (d : PyData) (h : nic d = true) : PySem.W.kitOne K (.type (tyn d)) (.type "bool") = some (isBl d) := by
  cases d <;> first | (simp [nic] at h; done) | exact kit_bl _ rfl | exact kit_ty (a := "list") (r := false) (by decide +kernel) | exact kit_ty (a := "tuple") (r := false) (by decide +kernel)
theorem kn_str {K : PySem.W.Frag} (d : PyData) (h : nic d = true) : PySem.W.kitOne K (.type (tyn d)) (.type "str") = some (isStr d) := by
  cases d <;> first | (simp [nic] at h; done) | exact kit_str _ rfl | exact kit_ty (a := "list") (r := false) (by decide +kernel) | exact kit_ty (a := "tuple") (r := false) (by decide +kernel)
theorem while_m {c : TT} {tb : TS} {D : Ends} {σ : L2.St} {H : Hp} (W : Nat → L2.St → Hp → Prop) (h0 : ∃ m, W m σ H)
    (hs : ∀ m σ H, W m σ H → c σ H fun b H1 => if b = true then ∃ N : L2.St → Hp → Prop, (∀ σ' H', N σ' H' → ∃ m', m' < m ∧ W m' σ' H') ∧ tb { D with nx := N, ct := N, bk := D.nx } σ H1 else D.nx σ H1) : tWhile c tb D σ H := ⟨W, h0, hs⟩
theorem dpall_get {K : PySem.W.Frag} {H : Hp} : ∀ {vs : List V} {ds : List PyData}, DpAll K H vs ds → ∀ (j : Nat) (v : V), vs[j]? = some v → ∃ d, ds[j]? = some d ∧ Dp K H v d
  | _, _, .nil, j, v, h => by simp at h
  | _, _, .cons a b, 0, v, h => by
    have e := Option.some.inj h
    subst e
    exact ⟨_, rfl, a⟩
  | _, _, .cons a b, j + 1, v, h => dpall_get b j v h
theorem dpall_len {K : PySem.W.Frag} {H : Hp} : ∀ {vs : List V} {ds : List PyData}, DpAll K H vs ds → vs.length = ds.length
  | _, _, .nil => rfl
  | _, _, .cons a b => by rw [List.length_cons, List.length_cons, dpall_len b]
section
variable {P : Program} {w : World} {K : PySem.W.Frag} {mg : Str → Option Value} {base : Heap}
abbrev s_l_alike : Stmt := topS 18
theorem sc_l_alike : FnScope ["_law_found", "_law_due", "_law_left", "_law_one", "_law_other"] ["_law_found", "_law_due"] (defScope s_l_alike) := ⟨rfl, rfl, rfl, by decide +kernel, rfl, by decide +kernel, by decide +kernel⟩
def spAlk (K : PySem.W.Frag) : Sp := fun vs H Q _ => ∃ (x y : V) (d : PyData), vs = [x, y] ∧ Dp K H x d ∧ Dp K H y d ∧ nic d = true ∧ dsz d ≤ 90000 ∧ ∀ H', Same H H' → Q (.bl true) H'
theorem ok_l_alike (B : Bt mg) (D : DefAt K mg "_law_alike" s_l_alike ["_law_found", "_law_due"]) : Cal P w K mg base 1 "_law_alike" ["_law_found", "_law_due"] (spAlk K) := by
  refine cal_of D sc_l_alike (fun vs H Q E h => ?_) (fun f cdv A outer s H vs Q E hr h => ?_)
  · obtain ⟨x, y, d, rfl, _⟩ := h
    rfl
  obtain ⟨x, y, d, rfl, hx, hy, hn, hd, q⟩ := h
  refine ⟨_, (pss_cons (ps_set (i := 2) sc_l_alike.nd rfl (.inl rfl) (pe_lst (pa_cons (pe_tup (pa_cons (pv 0) (pa_cons (pv 1) pa_nil))) pa_nil)))
      (pss_cons (ps_while PassesOwn.never (pt_cmpR op_gt (pe_callB call_len_seq (by rfl) B.len PySem.boot_len (pa_cons (pv 2) pa_nil)) pe_int (nomark _))
        (pss_cons (ps_asg (pe_bm0 PySem.F.plainAttrs_list PySem.F.slot_list_pop PySem.F.type_list_pop mt_pop (pv 2)) (pg_tup rfl (pgs_cons (pg_name (i := 3) sc_l_alike.nd rfl (.inl rfl)) (pgs_cons (pg_name (i := 4) sc_l_alike.nd rfl (.inl rfl)) pgs_nil))))
      (pss_cons (ps_if (pt_cmpR op_ne (pe_callB call_isi (by rfl) B.isinstance (by decide +kernel) (pa_cons (pv 3) (pa_cons (pe_bltn (v := .ty "tuple") (by rfl) B.tuple PyProof.Rows.boot_tuple rfl) pa_nil))) (pe_callB call_isi (by rfl) B.isinstance (by decide +kernel) (pa_cons (pv 4) (pa_cons (pe_bltn (v := .ty "tuple") (by rfl) B.tuple PyProof.Rows.boot_tuple rfl) pa_nil))) (nomark _))
        (pss_one (ps_ret pe_bl))
        pss_nil)
      (pss_cons (ps_if (pt_cmpR op_ne (pe_callB call_isi (by rfl) B.isinstance (by decide +kernel) (pa_cons (pv 3) (pa_cons (pe_bltn (v := .ty "bool") (by rfl) B.bool PyProof.Rows.boot_bool rfl) pa_nil))) (pe_callB call_isi (by rfl) B.isinstance (by decide +kernel) (pa_cons (pv 4) (pa_cons (pe_bltn (v := .ty "bool") (by rfl) B.bool PyProof.Rows.boot_bool rfl) pa_nil))) (nomark _))
        (pss_one (ps_ret pe_bl))
        pss_nil)
      (pss_one (ps_if (pt_val (pe_callB call_isi (by rfl) B.isinstance (by decide +kernel) (pa_cons (pv 4) (pa_cons (pe_bltn (v := .ty "tuple") (by rfl) B.tuple PyProof.Rows.boot_tuple rfl) pa_nil))))
        (pss_cons (ps_if (pt_cmpR op_ne (pe_callB call_len_seq (by rfl) B.len PySem.boot_len (pa_cons (pv 3) pa_nil)) (pe_callB call_len_seq (by rfl) B.len PySem.boot_len (pa_cons (pv 4) pa_nil)) (nomark _))
        (pss_one (ps_ret pe_bl))
        pss_nil)
      (pss_one (ps_expr (pe_bm PySem.F.plainAttrs_list PySem.F.slot_list_extend PySem.F.type_list_extend mt_extend (pv 2) (pa_cons (pe_listZip rfl (by rfl) B.list (by rfl) B.zip (pa_cons (pv 3) (pa_cons (pv 4) pa_nil))) pa_nil)))))
        (pss_one (ps_if (PW.pt (pw_or (pt_cmpR op_ne (pe_callB call_isi (by rfl) B.isinstance (by decide +kernel) (pa_cons (pv 3) (pa_cons (pe_bltn (v := .ty "str") (by rfl) B.str PyProof.Rows.boot_str rfl) pa_nil))) (pe_callB call_isi (by rfl) B.isinstance (by decide +kernel) (pa_cons (pv 4) (pa_cons (pe_bltn (v := .ty "str") (by rfl) B.str PyProof.Rows.boot_str rfl) pa_nil))) (nomark _)) (pw_or1 (pt_cmpR (op_neP hr.units) (pv 3) (pv 4) (nomark _)))))
        (pss_one (ps_ret pe_bl))
        pss_nil))))))))
      (pss_one (ps_ret pe_bl)))), ?_⟩
  refine ⟨_, rfl, _, rfl, (by show 2 ≤ sizeLine; decide), fun t ht => ⟨(by show 1 ≤ sizeLine; decide), fun l hl => ?_⟩⟩
  have s1 : Same H (upd H t (.tup [x, y])) := same_new ht
  have s2 : Same (upd H t (.tup [x, y])) (upd (upd H t (.tup [x, y])) l (.lst [.ref t])) := same_new hl
  have hlH : H l = none := s1.free hl
  refine while_m (fun m σ H' => ∃ (ps : List (Addr × PyData)) (y3 y4 : Option V), σ = [some x, some y, some (.ref l), y3, y4] ∧ m = dsz.dszs (ps.map (·.2)) ∧ m ≤ 90000 ∧ Same H H' ∧ H' l = some (.lst (ps.map fun p => V.ref p.1)) ∧
    ∀ p ∈ ps, ∃ a b, H' p.1 = some (.tup [a, b]) ∧ Dp K H a p.2 ∧ Dp K H b p.2 ∧ nic p.2 = true) ?_ ?_
  · refine ⟨_, [(t, d)], none, none, rfl, rfl, ?_, s1.trans s2, upd_same, fun p hp => ?_⟩
    · show dsz d + 0 ≤ 90000
      omega
    · rw [List.mem_singleton.mp hp]
      exact ⟨x, y, s2 _ _ upd_same, hx, hy, hn⟩
  · rintro m σ H' ⟨ps, y3, y4, rfl, rfl, hm, sm, hL, hP⟩
    refine ⟨_, rfl, l, _, rfl, .inl (SqL.of hL), _, _, rfl, rfl, _, rfl, ite2 (fun c => ?_) (fun c => ?_)⟩
    · have c' : (((ps.map fun p => V.ref p.1).length : Nat) : Int) > 0 := of_decide_eq_true c
      rw [List.length_map] at c'
      obtain ⟨qs, ⟨u, e⟩, rfl⟩ : ∃ qs p, ps = qs ++ [p] := by
        rcases List.eq_nil_or_concat ps with h | ⟨qs, p, h⟩
        · rw [h] at c'
          simp at c'
        · exact ⟨qs, p, by rw [h, List.concat_eq_append]⟩
      have hm2 : dsz.dszs ((qs ++ [(u, e)]).map (·.2)) = dsz.dszs (qs.map (·.2)) + dsz e := by
        rw [List.map_append, dszs_app]
        simp [dsz.dszs]
      obtain ⟨a, b, hu, ha, hb, ne⟩ := hP (u, e) (by simp)
      have hLm : H' l = some (.lst ((qs.map fun p => V.ref p.1) ++ [V.ref u])) := by
        rw [hL, List.map_append]
        rfl
      have nu : u ≠ l := fun z => by
        have hu' : H' u = some (.tup [a, b]) := hu
        rw [z, hLm] at hu'
        cases hu'
      refine ⟨fun σ' H2 => ∃ m', m' < dsz.dszs ((qs ++ [(u, e)]).map (·.2)) ∧ ∃ (ps : List (Addr × PyData)) (y3 y4 : Option V), σ' = [some x, some y, some (.ref l), y3, y4] ∧ m' = dsz.dszs (ps.map (·.2)) ∧ m' ≤ 90000 ∧ Same H H2 ∧ H2 l = some (.lst (ps.map fun p => V.ref p.1)) ∧
        ∀ p ∈ ps, ∃ a b, H2 p.1 = some (.tup [a, b]) ∧ Dp K H a p.2 ∧ Dp K H b p.2 ∧ nic p.2 = true, fun σ' H2 h => h, ?_⟩
      refine ⟨_, rfl, .inl ⟨rfl, _, SqL.of hLm⟩, l, _, .ref u, rfl, rfl, hLm, ?_, ?_⟩
      · rw [List.length_append, List.length_singleton, Nat.add_sub_cancel, List.getElem?_append_right (Nat.le_refl _), Nat.sub_self]
        rfl
      rw [List.dropLast_concat]
      have hl2 : (upd H' l (.lst (qs.map fun p => V.ref p.1))) l = some (.lst (qs.map fun p => V.ref p.1)) := upd_same
      have o2 : ∀ b, b ≠ l → (upd H' l (.lst (qs.map fun p => V.ref p.1))) b = H' b := fun b n => upd_ne n
      have sm2 : Same H (upd H' l (.lst (qs.map fun p => V.ref p.1))) := fun c o z => by
        rw [o2 c (ne_of_none z hlH)]
        exact sm c o z
      generalize upd H' l (.lst (qs.map fun p => V.ref p.1)) = H2 at hl2 o2 sm2
      have hP2 : ∀ p ∈ qs, ∃ a b, H2 p.1 = some (.tup [a, b]) ∧ Dp K H a p.2 ∧ Dp K H b p.2 ∧ nic p.2 = true := fun p hp => by
        obtain ⟨a', b', z, r⟩ := hP p (List.mem_append_left _ hp)
        have np : p.1 ≠ l := fun zz => by
          rw [zz, hLm] at z
          cases z
        exact ⟨a', b', by rw [o2 _ np]; exact z, r⟩
      have ha2 := dp_same sm2 _ _ ha
      have hb2 := dp_same sm2 _ _ hb
      have hu2 : H2 u = some (.tup [a, b]) := by
        rw [o2 u nu]
        exact hu
      refine ⟨u, [a, b], rfl, .inl (.inl hu2), rfl, a, [b], rfl, b, [], rfl, rfl, ?_⟩
      refine ⟨_, rfl, a, _, _, _, _, rfl, .ty _, dp_ty ha2, kn_tup e ne, _, rfl, b, _, _, _, _, rfl, .ty _, dp_ty hb2, kn_tup e ne, rfl, _, rfl, iteNS rfl ?_⟩
      refine ⟨_, rfl, a, _, _, _, _, rfl, .ty _, dp_ty ha2, kn_bl e ne, _, rfl, b, _, _, _, _, rfl, .ty _, dp_ty hb2, kn_bl e ne, rfl, _, rfl, iteNS rfl ?_⟩
      refine ⟨_, rfl, b, _, _, _, _, rfl, .ty _, dp_ty hb2, kn_tup e ne, _, rfl, ?_⟩
      by_cases et : isTup e = true
      · cases e with
        | tuple ds =>
          refine iteT ?_
          cases ha with
          | @tup ta xs _ qa' ra' =>
            cases hb with
            | @tup tb ys _ qb' rb' =>
              have qa : SqT K H2 ta xs := Tp.same sm2 _ _ qa'
              have qb : SqT K H2 tb ys := Tp.same sm2 _ _ qb'
              have la := dpall_len ra'
              have lb := dpall_len rb'
              have lab : xs.length = ys.length := by omega
              refine ⟨_, rfl, ta, xs, rfl, .inr qa, _, rfl, tb, ys, rfl, .inr qb, rfl, _, rfl, iteNS (by rw [lab]) ?_⟩
              refine ⟨_, rfl, .inl ⟨rfl, _, SqL.of hl2⟩, _, rfl, _, rfl, ta, tb, xs, ys, rfl, qa, qb, lab, fun H3 p ts s3 pn tn hp3 lt pr => ?_⟩
              have hl3 : H3 l = some (.lst (qs.map fun p => V.ref p.1)) := s3 _ _ hl2
              have hle : ds.length ≤ dsz.dszs ds := dszs_len ds
              have hm3 : dsz (.tuple ds) = 1 + dsz.dszs ds := rfl
              have hq : qs.length ≤ dsz.dszs (qs.map (·.2)) := by
                have z := dszs_len (qs.map (·.2))
                rw [List.length_map] at z
                exact z
              refine ⟨l, p, _, _, rfl, rfl, hl3, hp3, ?_, ?_⟩
              · rw [List.length_map, List.length_map]
                exact small (by omega)
              · have o3 : ∀ b o, b ≠ l → H2 b = some o → (upd H3 l (.lst ((qs.map fun p => V.ref p.1) ++ ts.map V.ref))) b = some o := fun b o n z => by
                  rw [upd_ne n]
                  exact s3 _ _ z
                have ltd : ts.length = ds.length := by omega
                have ez : (ts.zip ds).map (·.2) = ds := by
                  rw [List.map_snd_zip]
                  omega
                have ef : (ts.zip ds).map (·.1) = ts := by
                  rw [List.map_fst_zip]
                  omega
                refine ⟨dsz.dszs ((qs ++ ts.zip ds).map (·.2)), ?_, qs ++ ts.zip ds, some (.ref ta), some (.ref tb), rfl, rfl, ?_, fun c o z => ?_, ?_, fun p' hp' => ?_⟩
                · rw [List.map_append, dszs_app, ez, hm2, hm3]
                  omega
                · rw [List.map_append, dszs_app, ez]
                  rw [hm2, hm3] at hm
                  omega
                · exact o3 c o (ne_of_none z hlH) (sm2 c o z)
                · rw [upd_same, List.map_append]
                  have ev : (ts.zip ds).map (fun p => V.ref p.1) = ts.map V.ref := by
                    rw [← congrArg (List.map V.ref) ef, List.map_map]
                    rfl
                  rw [ev]
                · rcases List.mem_append.mp hp' with z | z
                  · obtain ⟨a', b', zz, r⟩ := hP2 p' z
                    have np : p'.1 ≠ l := fun z => by
                      rw [z, hl2] at zz
                      cases zz
                    exact ⟨a', b', o3 _ _ np zz, r⟩
                  · obtain ⟨j, hj⟩ := List.mem_iff_getElem?.mp z
                    rw [List.getElem?_zip_eq_some] at hj
                    obtain ⟨j1, j2⟩ := hj
                    obtain ⟨x', y', e1, e2, e3⟩ := pr j p'.1 j1
                    obtain ⟨d1, f1, g1⟩ := dpall_get ra' j x' e1
                    obtain ⟨d2, f2, g2⟩ := dpall_get rb' j y' e2
                    rw [j2] at f1 f2
                    have h1 := Option.some.inj f1
                    have h2 := Option.some.inj f2
                    have np : p'.1 ≠ l := fun z => by
                      rw [z, hl3] at e3
                      cases e3
                    exact ⟨x', y', by rw [upd_ne np]; exact e3, by rw [h1]; exact g1, by rw [h2]; exact g2, nics_get ne j _ j2⟩
        | _ => simp [isTup] at et
      · have ef : isTup e = false := by simpa using et
        rw [ef]
        refine iteF ?_
        obtain ⟨pl, dp, ev, d1⟩ : e.plain = true ∧ e.depth ≤ 64 ∧ PyData.eqv e e = true ∧ dsz e = 1 := by
          cases e with
          | tuple ds => simp [isTup] at ef
          | list ds =>
            obtain ⟨i, rfl⟩ := nic_list ne
            have pl : PyData.plain (.list [.int i, .none]) = true := rfl
            exact ⟨pl, by show 1 + 0 ≤ 64; decide, SeqAt.eqv_refl_plain _ pl, rfl⟩
          | dict ds => simp [nic] at ne
          | _ => exact ⟨rfl, by show 0 ≤ 64; decide, SeqAt.eqv_refl_plain _ rfl, rfl⟩
        refine ⟨_, rfl, a, _, _, _, _, rfl, .ty _, dp_ty ha2, kn_str e ne, _, rfl, b, _, _, _, _, rfl, .ty _, dp_ty hb2, kn_str e ne, rfl, _, rfl, ?_⟩
        refine iteNS rfl ⟨_, rfl, _, rfl, e, e, ha2, hb2, pl, pl, dp, ?_⟩
        rw [ev]
        refine ⟨_, rfl, iteF ?_⟩
        refine ⟨dsz.dszs (qs.map (·.2)), by rw [hm2, d1]; show _ < _ + 1; omega, qs, some a, some b, rfl, rfl, by rw [hm2] at hm; omega, sm2, hl2, hP2⟩
    · exact q _ sm
end
end Lm

set_option Elab.async false
set_option linter.all false
set_option maxRecDepth 100000
set_option maxHeartbeats 2000000
set_option pp.maxSteps 20000
set_option pp.deepTerms true
namespace Lm
open PySem PySem.Spec PyProof.Rows L2 LmR
section
variable {P : Program} {w : World} {K : PySem.W.Frag} {mg : Str → Option Value} {base : Heap}
/-- v is the data d, and stays so while what stands at ws changes -/
def DpK (K : PySem.W.Frag) (ws : List Addr) (H : Hp) (v : V) (d : PyData) : Prop := ∀ H', Ex ws H H' → Dp K H' v d
theorem gr_free {f b : Addr} {H H' : Hp} (g : Gr f H H') (n : b ≠ f) (h : H' b = none) : H b = none := by
  cases e : H b with
  | none => rfl
  | some o => rw [g.at e n] at h; cases h
abbrev s_l_thing : Stmt := topS 20
theorem sc_l_thing : FnScope ["_law_flow_here", "_law_whole", "_law_short"] ["_law_flow_here"] (defScope s_l_thing) := ⟨rfl, rfl, rfl, by decide +kernel, rfl, by decide +kernel, by decide +kernel⟩
def spThing (K : PySem.W.Frag) : Sp := fun vs H Q _ => ∃ f, vs = [.ref f] ∧ Flow H f ∧ ∀ v d H', Gr f H H' → (∀ ws : List Addr, (∀ b ∈ ws, H b ≠ none) → DpK K ws H' v d) → nic d = true → dsz d ≤ 3 → Q v H'
theorem ok_l_thing (B : Bt mg) (C_l_draw : Cal P w K mg base 1 "_law_draw" ["_law_flow_here", "_law_many"] (spDraw)) (D : DefAt K mg "_law_thing" s_l_thing ["_law_flow_here"]) : Cal P w K mg base 2 "_law_thing" ["_law_flow_here"] (spThing K) := by
  refine cal_of D sc_l_thing (fun vs H Q E h => ?_) (fun f cdv A outer s H vs Q E hr h => ?_)
  · obtain ⟨f, rfl, _⟩ := h
    rfl
  obtain ⟨f, rfl, fl, q⟩ := h
  have hr' : Room 1 _ := hr
  refine ⟨_, (pss_cons (ps_set (i := 1) sc_l_thing.nd rfl (.inl rfl) (pe_ix ix_list (pe_lst (pa_cons (pe_cal C_l_draw hr' (by rfl) (pa_cons (pv 0) (pa_cons pe_int pa_nil))) (pa_cons (pe_op op_sub pe_int (pe_cal C_l_draw hr' (by rfl) (pa_cons (pv 0) (pa_cons pe_int pa_nil)))) (pa_cons (pe_cal C_l_draw hr' (by rfl) (pa_cons (pv 0) (pa_cons (pe_op op_pow pe_int pe_int) pa_nil))) pa_nil)))) (pe_cal C_l_draw hr' (by rfl) (pa_cons (pv 0) (pa_cons pe_int pa_nil))) (fun _ _ => rfl)))
      (pss_cons (ps_set (i := 2) sc_l_thing.nd rfl (.inl rfl) (pe_slice sl_str (pe_slice sl_str pe_str (po_some (pe_cal C_l_draw hr' (by rfl) (pa_cons (pv 0) (pa_cons pe_int pa_nil)))) po_none) po_none (po_some (pe_cal C_l_draw hr' (by rfl) (pa_cons (pv 0) (pa_cons pe_int pa_nil))))))
      (pss_one (ps_ret (pe_ix ix_list (pe_lst (pa_cons (pv 1) (pa_cons (pv 2) (pa_cons (pe_tup (pa_cons (pv 1) (pa_cons (pv 2) pa_nil))) (pa_cons pe_non (pa_cons (pe_lst (pa_cons (pv 1) (pa_cons pe_non pa_nil))) (pa_cons pe_bl pa_nil))))))) (pe_cal C_l_draw hr' (by rfl) (pa_cons (pv 0) (pa_cons pe_int pa_nil))) (fun _ _ => rfl)))))), ?_⟩
  have pw : CPow 10 20 := ⟨by decide, by decide, by decide⟩
  refine ⟨_, rfl, f, 7, rfl, fl, by decide, by decide, fun d1 H1 a0 a1 dr1 => ⟨_, rfl, f, 9, rfl, dr1.fl, by decide, by decide, fun d2 H2 b0 b1 dr2 => ⟨0, d2, rfl, rfl, ⟨_, rfl, _, _, rfl, rfl, pw, f, _, rfl, dr2.fl, by decide, by decide, fun d3 H3 c0 c1 dr3 => ?_⟩⟩⟩⟩
  have g3 : Gr f H H3 := (dr1.g.trans dr2.g).trans dr3.g
  refine ⟨(by show 3 ≤ sizeLine; decide), fun p hp => ?_⟩
  have np : p ≠ f := fl_ne dr3.fl hp
  have g4 : Gr f H3 (upd H3 p (.lst [.int d1, .int (0 - d2), .int d3])) := Gr.new dr3.fl hp
  refine ⟨_, rfl, f, 3, rfl, g4.fl, by decide, by decide, fun d4 H4 e0 e1 dr4 => ?_⟩
  have hl4 : H4 p = some (.lst [.int d1, .int (0 - d2), .int d3]) := by rw [dr4.off p np, upd_same]
  obtain ⟨i, ei⟩ : ∃ i : Int, ([.int d1, .int (0 - d2), .int d3] : List V)[d4.toNat]? = some (.int i) := by
    have : d4.toNat < 3 := by omega
    match d4.toNat, this with
    | 0, _ => exact ⟨_, rfl⟩
    | 1, _ => exact ⟨_, rfl⟩
    | 2, _ => exact ⟨_, rfl⟩
  refine ⟨p, _, d4, .int i, rfl, rfl, SqL.of hl4, at_of (j := d4.toNat) (by omega) ei, ?_⟩
  have g5 : Gr f H H4 := (g3.trans g4).trans dr4.g
  refine ⟨_, rfl, f, 8, rfl, dr4.fl, by decide, by decide, fun d5 H5 _ _ dr5 => ⟨d5, rfl, _, rfl, (by decide), ?_⟩⟩
  generalize hz : cutS "abcdefgh" (some d5) none = z
  have lz : z.length ≤ sizeLine := by
    rw [← hz]
    exact Nat.le_trans (cutS_length _ _ _) (by decide)
  refine ⟨_, rfl, f, 5, rfl, dr5.fl, by decide, by decide, fun d6 H6 _ _ dr6 => ⟨d6, rfl, z, rfl, lz, ?_⟩⟩
  generalize cutS z none (some d6) = y
  have g6 : Gr f H H6 := (g5.trans dr5.g).trans dr6.g
  refine ⟨_, rfl, _, rfl, _, rfl, _, rfl, (by show 2 ≤ sizeLine; decide), fun t ht => ⟨_, rfl, (by show 2 ≤ sizeLine; decide), fun l hl => ⟨(by show 6 ≤ sizeLine; decide), fun p2 hp2 => ?_⟩⟩⟩
  have gt := Gr.new (o := .tup [.int i, .str y]) dr6.fl ht
  have gl := Gr.new (o := .lst [.int i, .non]) gt.fl hl
  have gp := Gr.new (o := .lst [.int i, .str y, .ref t, .non, .ref l, .bl true]) gl.fl hp2
  have nt : t ≠ f := fl_ne dr6.fl ht
  have nl : l ≠ f := fl_ne gt.fl hl
  have np2 : p2 ≠ f := fl_ne gl.fl hp2
  refine ⟨_, rfl, f, 6, rfl, gp.fl, by decide, by decide, fun d7 H7 _ _ dr7 => ?_⟩
  have e7 : H7 p2 = some (.lst [.int i, .str y, .ref t, .non, .ref l, .bl true]) := by rw [dr7.off p2 np2, upd_same]
  have g7 : Gr f H H7 := (((g6.trans gt).trans gl).trans gp).trans dr7.g
  have t7 : H7 t = some (.tup [.int i, .str y]) := (gl.trans (gp.trans dr7.g)).at upd_same nt
  have l7 : H7 l = some (.lst [.int i, .non]) := (gp.trans dr7.g).at upd_same nl
  have kt : ∀ ws : List Addr, (∀ b ∈ ws, H b ≠ none) → DpK K ws H7 (.ref t) (.tuple [.int i, .str y]) := fun ws hw H' ex =>
    .tup (.inl (.inl (ex t _ t7 (fun z => hw t z (gr_free g6 nt ht))))) (.cons (.int _) (.cons (.str _) .nil))
  have kl : ∀ ws : List Addr, (∀ b ∈ ws, H b ≠ none) → DpK K ws H7 (.ref l) (.list [.int i, .none]) := fun ws hw H' ex =>
    .lst (SqL.of (ex l _ l7 (fun z => hw l z (gr_free (g6.trans gt) nl hl)))) (.cons (.int _) (.cons .non .nil))
  obtain ⟨v, d, ev, kv, nv, sv⟩ : ∃ v d, ([.int i, .str y, .ref t, .non, .ref l, .bl true] : List V)[d7.toNat]? = some v ∧ (∀ ws : List Addr, (∀ b ∈ ws, H b ≠ none) → DpK K ws H7 v d) ∧ nic d = true ∧ dsz d ≤ 3 := by
    have : d7.toNat < 6 := by omega
    match d7.toNat, this with
    | 0, _ => exact ⟨_, .int i, rfl, fun _ _ _ _ => .int _, rfl, by show 1 ≤ 3; decide⟩
    | 1, _ => exact ⟨_, .str y, rfl, fun _ _ _ _ => .str _, rfl, by show 1 ≤ 3; decide⟩
    | 2, _ => exact ⟨_, _, rfl, kt, rfl, by show 1 + (1 + (1 + 0)) ≤ 3; decide⟩
    | 3, _ => exact ⟨_, .none, rfl, fun _ _ _ _ => .non, rfl, by decide⟩
    | 4, _ => exact ⟨_, _, rfl, kl, rfl, by show 1 ≤ 3; decide⟩
    | 5, _ => exact ⟨_, .bool true, rfl, fun _ _ _ _ => .bl _, rfl, by decide⟩
  exact ⟨p2, _, d7, v, rfl, rfl, SqL.of e7, at_of (j := d7.toNat) (by omega) ev, q v d H7 g7 kv nv sv⟩
end
end Lm

set_option Elab.async false
set_option linter.all false
set_option maxRecDepth 100000
set_option maxHeartbeats 2000000
set_option pp.maxSteps 20000
set_option pp.deepTerms true
namespace Lm
open PySem PySem.Spec PyProof.Rows L2 LmR
section
variable {P : Program} {w : World} {K : PySem.W.Frag} {mg : Str → Option Value} {base : Heap}
abbrev s_NoHead : Stmt := (clsBody (topS 2)).getD 0 (.Pass ⟨0, 0, 0, 0⟩)
theorem sc_NoHead : FnScope ["self", "word", "at"] ["self", "word", "at"] (defScope s_NoHead) := ⟨rfl, rfl, rfl, by decide +kernel, rfl, by decide +kernel, by decide +kernel⟩
variable {c_NoHead i_NoHead : Addr} {f_NoHead : FuncData}
theorem ini_NoHead {P : Program} {w : World} {base : Heap} (R : RfV K mg "NoHead" "NoHead.__init__" c_NoHead i_NoHead f_NoHead s_NoHead ["word", "at"]) : FnOk P w K mg base CX0 1 i_NoHead f_NoHead ["self", "word", "at"] (spIni2 c_NoHead "word" "at") := by
  refine R.F.ok sc_NoHead (fun vs H Q E h => ?_) (fun cdv A outer s H vs Q E hr h => ?_)
  · obtain ⟨a, x, y, rfl, _⟩ := h
    rfl
  obtain ⟨a, x, y, rfl, ha, q⟩ := h
  refine ⟨_, pss_cons (ps_ox (pv 0) (pv 1)) (pss_one (ps_ox (pv 0) (pv 2))), ?_⟩
  refine ⟨_, rfl, _, rfl, a, _, rfl, R.o, R.fld _ (by simp), .inl ⟨ha, fun d hd nd => ⟨_, rfl, _, rfl, a, _, rfl, R.o, R.fld _ (by simp), .inr ⟨d, _, upd_same, ?_, by show 1 ≤ 900; decide, q d _ hd ?_ upd_same fun b h1 h2 => ?_⟩⟩⟩⟩
  · rw [upd_ne nd, upd_same]
  · rw [upd_ne (Ne.symm nd), upd_same]
  · rw [upd_ne h2, upd_ne h1, upd_ne h2]
abbrev s_NoProgram : Stmt := (clsBody (topS 3)).getD 0 (.Pass ⟨0, 0, 0, 0⟩)
theorem sc_NoProgram : FnScope ["self", "word", "at"] ["self", "word", "at"] (defScope s_NoProgram) := ⟨rfl, rfl, rfl, by decide +kernel, rfl, by decide +kernel, by decide +kernel⟩
variable {c_NoProgram i_NoProgram : Addr} {f_NoProgram : FuncData}
theorem ini_NoProgram {P : Program} {w : World} {base : Heap} (R : RfV K mg "NoProgram" "NoProgram.__init__" c_NoProgram i_NoProgram f_NoProgram s_NoProgram ["word", "at"]) : FnOk P w K mg base CX0 1 i_NoProgram f_NoProgram ["self", "word", "at"] (spIni2 c_NoProgram "word" "at") := by
  refine R.F.ok sc_NoProgram (fun vs H Q E h => ?_) (fun cdv A outer s H vs Q E hr h => ?_)
  · obtain ⟨a, x, y, rfl, _⟩ := h
    rfl
  obtain ⟨a, x, y, rfl, ha, q⟩ := h
  refine ⟨_, pss_cons (ps_ox (pv 0) (pv 1)) (pss_one (ps_ox (pv 0) (pv 2))), ?_⟩
  refine ⟨_, rfl, _, rfl, a, _, rfl, R.o, R.fld _ (by simp), .inl ⟨ha, fun d hd nd => ⟨_, rfl, _, rfl, a, _, rfl, R.o, R.fld _ (by simp), .inr ⟨d, _, upd_same, ?_, by show 1 ≤ 900; decide, q d _ hd ?_ upd_same fun b h1 h2 => ?_⟩⟩⟩⟩
  · rw [upd_ne nd, upd_same]
  · rw [upd_ne (Ne.symm nd), upd_same]
  · rw [upd_ne h2, upd_ne h1, upd_ne h2]
abbrev s_NoText : Stmt := (clsBody (topS 4)).getD 0 (.Pass ⟨0, 0, 0, 0⟩)
theorem sc_NoText : FnScope ["self", "at"] ["self", "at"] (defScope s_NoText) := ⟨rfl, rfl, rfl, by decide +kernel, rfl, by decide +kernel, by decide +kernel⟩
variable {c_NoText i_NoText : Addr} {f_NoText : FuncData}
theorem ini_NoText {P : Program} {w : World} {base : Heap} (R : RfV K mg "NoText" "NoText.__init__" c_NoText i_NoText f_NoText s_NoText ["at"]) : FnOk P w K mg base CX0 1 i_NoText f_NoText ["self", "at"] (spIni1 c_NoText "at") := by
  refine R.F.ok sc_NoText (fun vs H Q E h => ?_) (fun cdv A outer s H vs Q E hr h => ?_)
  · obtain ⟨a, x, rfl, _⟩ := h
    rfl
  obtain ⟨a, x, rfl, ha, q⟩ := h
  refine ⟨_, pss_one (ps_ox (pv 0) (pv 1)), ?_⟩
  refine ⟨_, rfl, _, rfl, a, _, rfl, R.o, R.fld _ (by simp), .inl ⟨ha, fun d hd nd => q d _ hd upd_same ?_ fun b h1 h2 => ?_⟩⟩
  · rw [upd_ne nd, upd_same]
  · rw [upd_ne h1, upd_ne h2]
abbrev s_NoStock : Stmt := (clsBody (topS 5)).getD 0 (.Pass ⟨0, 0, 0, 0⟩)
theorem sc_NoStock : FnScope ["self", "word", "at"] ["self", "word", "at"] (defScope s_NoStock) := ⟨rfl, rfl, rfl, by decide +kernel, rfl, by decide +kernel, by decide +kernel⟩
variable {c_NoStock i_NoStock : Addr} {f_NoStock : FuncData}
theorem ini_NoStock {P : Program} {w : World} {base : Heap} (R : RfV K mg "NoStock" "NoStock.__init__" c_NoStock i_NoStock f_NoStock s_NoStock ["word", "at"]) : FnOk P w K mg base CX0 1 i_NoStock f_NoStock ["self", "word", "at"] (spIni2 c_NoStock "word" "at") := by
  refine R.F.ok sc_NoStock (fun vs H Q E h => ?_) (fun cdv A outer s H vs Q E hr h => ?_)
  · obtain ⟨a, x, y, rfl, _⟩ := h
    rfl
  obtain ⟨a, x, y, rfl, ha, q⟩ := h
  refine ⟨_, pss_cons (ps_ox (pv 0) (pv 1)) (pss_one (ps_ox (pv 0) (pv 2))), ?_⟩
  refine ⟨_, rfl, _, rfl, a, _, rfl, R.o, R.fld _ (by simp), .inl ⟨ha, fun d hd nd => ⟨_, rfl, _, rfl, a, _, rfl, R.o, R.fld _ (by simp), .inr ⟨d, _, upd_same, ?_, by show 1 ≤ 900; decide, q d _ hd ?_ upd_same fun b h1 h2 => ?_⟩⟩⟩⟩
  · rw [upd_ne nd, upd_same]
  · rw [upd_ne (Ne.symm nd), upd_same]
  · rw [upd_ne h2, upd_ne h1, upd_ne h2]
abbrev s_NoAnswer : Stmt := (clsBody (topS 6)).getD 0 (.Pass ⟨0, 0, 0, 0⟩)
theorem sc_NoAnswer : FnScope ["self", "answer"] ["self", "answer"] (defScope s_NoAnswer) := ⟨rfl, rfl, rfl, by decide +kernel, rfl, by decide +kernel, by decide +kernel⟩
variable {c_NoAnswer i_NoAnswer : Addr} {f_NoAnswer : FuncData}
theorem ini_NoAnswer {P : Program} {w : World} {base : Heap} (R : RfV K mg "NoAnswer" "NoAnswer.__init__" c_NoAnswer i_NoAnswer f_NoAnswer s_NoAnswer ["answer"]) : FnOk P w K mg base CX0 1 i_NoAnswer f_NoAnswer ["self", "answer"] (spIni1 c_NoAnswer "answer") := by
  refine R.F.ok sc_NoAnswer (fun vs H Q E h => ?_) (fun cdv A outer s H vs Q E hr h => ?_)
  · obtain ⟨a, x, rfl, _⟩ := h
    rfl
  obtain ⟨a, x, rfl, ha, q⟩ := h
  refine ⟨_, pss_one (ps_ox (pv 0) (pv 1)), ?_⟩
  refine ⟨_, rfl, _, rfl, a, _, rfl, R.o, R.fld _ (by simp), .inl ⟨ha, fun d hd nd => q d _ hd upd_same ?_ fun b h1 h2 => ?_⟩⟩
  · rw [upd_ne nd, upd_same]
  · rw [upd_ne h1, upd_ne h2]
abbrev s_NoInputs : Stmt := (clsBody (topS 7)).getD 0 (.Pass ⟨0, 0, 0, 0⟩)
theorem sc_NoInputs : FnScope ["self", "at"] ["self", "at"] (defScope s_NoInputs) := ⟨rfl, rfl, rfl, by decide +kernel, rfl, by decide +kernel, by decide +kernel⟩
variable {c_NoInputs i_NoInputs : Addr} {f_NoInputs : FuncData}
theorem ini_NoInputs {P : Program} {w : World} {base : Heap} (R : RfV K mg "NoInputs" "NoInputs.__init__" c_NoInputs i_NoInputs f_NoInputs s_NoInputs ["at"]) : FnOk P w K mg base CX0 1 i_NoInputs f_NoInputs ["self", "at"] (spIni1 c_NoInputs "at") := by
  refine R.F.ok sc_NoInputs (fun vs H Q E h => ?_) (fun cdv A outer s H vs Q E hr h => ?_)
  · obtain ⟨a, x, rfl, _⟩ := h
    rfl
  obtain ⟨a, x, rfl, ha, q⟩ := h
  refine ⟨_, pss_one (ps_ox (pv 0) (pv 1)), ?_⟩
  refine ⟨_, rfl, _, rfl, a, _, rfl, R.o, R.fld _ (by simp), .inl ⟨ha, fun d hd nd => q d _ hd upd_same ?_ fun b h1 h2 => ?_⟩⟩
  · rw [upd_ne nd, upd_same]
  · rw [upd_ne h1, upd_ne h2]
abbrev s_Clash : Stmt := (clsBody (topS 8)).getD 0 (.Pass ⟨0, 0, 0, 0⟩)
theorem sc_Clash : FnScope ["self", "at", "number"] ["self", "at", "number"] (defScope s_Clash) := ⟨rfl, rfl, rfl, by decide +kernel, rfl, by decide +kernel, by decide +kernel⟩
variable {c_Clash i_Clash : Addr} {f_Clash : FuncData}
theorem ini_Clash {P : Program} {w : World} {base : Heap} (R : RfV K mg "Clash" "Clash.__init__" c_Clash i_Clash f_Clash s_Clash ["at", "number"]) : FnOk P w K mg base CX0 1 i_Clash f_Clash ["self", "at", "number"] (spIni2 c_Clash "at" "number") := by
  refine R.F.ok sc_Clash (fun vs H Q E h => ?_) (fun cdv A outer s H vs Q E hr h => ?_)
  · obtain ⟨a, x, y, rfl, _⟩ := h
    rfl
  obtain ⟨a, x, y, rfl, ha, q⟩ := h
  refine ⟨_, pss_cons (ps_ox (pv 0) (pv 1)) (pss_one (ps_ox (pv 0) (pv 2))), ?_⟩
  refine ⟨_, rfl, _, rfl, a, _, rfl, R.o, R.fld _ (by simp), .inl ⟨ha, fun d hd nd => ⟨_, rfl, _, rfl, a, _, rfl, R.o, R.fld _ (by simp), .inr ⟨d, _, upd_same, ?_, by show 1 ≤ 900; decide, q d _ hd ?_ upd_same fun b h1 h2 => ?_⟩⟩⟩⟩
  · rw [upd_ne nd, upd_same]
  · rw [upd_ne (Ne.symm nd), upd_same]
  · rw [upd_ne h2, upd_ne h1, upd_ne h2]
abbrev s_NoDoer : Stmt := (clsBody (topS 11)).getD 0 (.Pass ⟨0, 0, 0, 0⟩)
theorem sc_NoDoer : FnScope ["self", "inputs"] ["self", "inputs"] (defScope s_NoDoer) := ⟨rfl, rfl, rfl, by decide +kernel, rfl, by decide +kernel, by decide +kernel⟩
variable {c_NoDoer i_NoDoer : Addr} {f_NoDoer : FuncData}
theorem ini_NoDoer {P : Program} {w : World} {base : Heap} (R : RfV K mg "NoDoer" "NoDoer.__init__" c_NoDoer i_NoDoer f_NoDoer s_NoDoer ["inputs"]) : FnOk P w K mg base CX0 1 i_NoDoer f_NoDoer ["self", "inputs"] (spIni1 c_NoDoer "inputs") := by
  refine R.F.ok sc_NoDoer (fun vs H Q E h => ?_) (fun cdv A outer s H vs Q E hr h => ?_)
  · obtain ⟨a, x, rfl, _⟩ := h
    rfl
  obtain ⟨a, x, rfl, ha, q⟩ := h
  refine ⟨_, pss_one (ps_ox (pv 0) (pv 1)), ?_⟩
  refine ⟨_, rfl, _, rfl, a, _, rfl, R.o, R.fld _ (by simp), .inl ⟨ha, fun d hd nd => q d _ hd upd_same ?_ fun b h1 h2 => ?_⟩⟩
  · rw [upd_ne nd, upd_same]
  · rw [upd_ne h1, upd_ne h2]
abbrev s_NotKept : Stmt := (clsBody (topS 12)).getD 0 (.Pass ⟨0, 0, 0, 0⟩)
theorem sc_NotKept : FnScope ["self", "number"] ["self", "number"] (defScope s_NotKept) := ⟨rfl, rfl, rfl, by decide +kernel, rfl, by decide +kernel, by decide +kernel⟩
variable {c_NotKept i_NotKept : Addr} {f_NotKept : FuncData}
theorem ini_NotKept {P : Program} {w : World} {base : Heap} (R : RfV K mg "NotKept" "NotKept.__init__" c_NotKept i_NotKept f_NotKept s_NotKept ["number"]) : FnOk P w K mg base CX0 1 i_NotKept f_NotKept ["self", "number"] (spIni1 c_NotKept "number") := by
  refine R.F.ok sc_NotKept (fun vs H Q E h => ?_) (fun cdv A outer s H vs Q E hr h => ?_)
  · obtain ⟨a, x, rfl, _⟩ := h
    rfl
  obtain ⟨a, x, rfl, ha, q⟩ := h
  refine ⟨_, pss_one (ps_ox (pv 0) (pv 1)), ?_⟩
  refine ⟨_, rfl, _, rfl, a, _, rfl, R.o, R.fld _ (by simp), .inl ⟨ha, fun d hd nd => q d _ hd upd_same ?_ fun b h1 h2 => ?_⟩⟩
  · rw [upd_ne nd, upd_same]
  · rw [upd_ne h1, upd_ne h2]
abbrev s_NoName : Stmt := (clsBody (topS 13)).getD 0 (.Pass ⟨0, 0, 0, 0⟩)
theorem sc_NoName : FnScope ["self", "name"] ["self", "name"] (defScope s_NoName) := ⟨rfl, rfl, rfl, by decide +kernel, rfl, by decide +kernel, by decide +kernel⟩
variable {c_NoName i_NoName : Addr} {f_NoName : FuncData}
theorem ini_NoName {P : Program} {w : World} {base : Heap} (R : RfV K mg "NoName" "NoName.__init__" c_NoName i_NoName f_NoName s_NoName ["name"]) : FnOk P w K mg base CX0 1 i_NoName f_NoName ["self", "name"] (spIni1 c_NoName "name") := by
  refine R.F.ok sc_NoName (fun vs H Q E h => ?_) (fun cdv A outer s H vs Q E hr h => ?_)
  · obtain ⟨a, x, rfl, _⟩ := h
    rfl
  obtain ⟨a, x, rfl, ha, q⟩ := h
  refine ⟨_, pss_one (ps_ox (pv 0) (pv 1)), ?_⟩
  refine ⟨_, rfl, _, rfl, a, _, rfl, R.o, R.fld _ (by simp), .inl ⟨ha, fun d hd nd => q d _ hd upd_same ?_ fun b h1 h2 => ?_⟩⟩
  · rw [upd_ne nd, upd_same]
  · rw [upd_ne h1, upd_ne h2]
/-- the twelve refusals and their base, at cs and cM -/
structure Tw (K : PySem.W.Frag) (mg : Str → Option Value) (cs : List Addr) (cM : Addr) : Prop where
  n : ∃ a0 a1 a2 a3 a4 a5 a6 a7 a8 a9 a10 a11, cs = [a0, a1, a2, a3, a4, a5, a6, a7, a8, a9, a10, a11] ∧ mg "NoHead" = some (.ref a0) ∧ mg "NoProgram" = some (.ref a1) ∧ mg "NoText" = some (.ref a2) ∧ mg "NoStock" = some (.ref a3) ∧
    mg "NoAnswer" = some (.ref a4) ∧ mg "NoInputs" = some (.ref a5) ∧ mg "Clash" = some (.ref a6) ∧ mg "NoRow" = some (.ref a7) ∧ mg "NoQuestion" = some (.ref a8) ∧ mg "NoDoer" = some (.ref a9) ∧ mg "NotKept" = some (.ref a10) ∧ mg "NoName" = some (.ref a11)
  m : mg "MakeError" = some (.ref cM)
  v : mg "ValueError" = none ∧ mg "LookupError" = none ∧ mg "IndexError" = none ∧ mg "KeyError" = none
  k : ∀ c ∈ cs, ExK K c
  t : ∀ (i j : Nat) (c d : Addr), cs[i]? = some c → cs[j]? = some d → PySem.W.kitOne K (.ref c) (.ref d) = some (decide (j = i))
  bM : ∀ (i : Nat) (c : Addr), cs[i]? = some c → PySem.W.kitOne K (.ref c) (.ref cM) = some (decide (i < 8))
  bV : ∀ (i : Nat) (c : Addr), cs[i]? = some c → PySem.W.kitOne K (.ref c) (.type "ValueError") = some (decide (i < 8))
  bL : ∀ (i : Nat) (c : Addr), cs[i]? = some c → PySem.W.kitOne K (.ref c) (.type "LookupError") = some (!decide (i < 8))
  bI : ∀ (i : Nat) (c : Addr), cs[i]? = some c → PySem.W.kitOne K (.ref c) (.type "IndexError") = some (decide (i = 10))
  bK : ∀ (i : Nat) (c : Addr), cs[i]? = some c → PySem.W.kitOne K (.ref c) (.type "KeyError") = some (decide (i = 11))
theorem is_ref {e C D : Addr} {b : Bool} {H : Hp} {Q : VK} (hx : Exn H e C) (k : ExK K C) (t : PySem.W.kitOne K (.ref C) (.ref D) = some b) (q : Q (.bl b) H) : rIsV K [.ref e, .ref D] H Q := ⟨e, C, _, _, b, rfl, hx, k, fun _ h => h, t, q⟩
theorem is_ty {e C : Addr} {n : String} {b : Bool} {H : Hp} {Q : VK} (hx : Exn H e C) (k : ExK K C) (t : PySem.W.kitOne K (.ref C) (.type n) = some b) (q : Q (.bl b) H) : rIsV K [.ref e, .ty n] H Q := ⟨e, C, _, _, b, rfl, hx, k, fun _ h => h, t, q⟩
abbrev s_l_sorts : Stmt := topS 19
theorem sc_l_sorts : FnScope ["_law_e", "_law_found"] ["_law_e"] (defScope s_l_sorts) := ⟨rfl, rfl, rfl, by decide +kernel, rfl, by decide +kernel, by decide +kernel⟩
def spSortV (cs : List Addr) : Sp := fun vs H Q _ => ∃ (e c : Addr) (i : Nat), vs = [.ref e] ∧ cs[i]? = some c ∧ Exn H e c ∧ ∀ p H', Same H H' → H' p = some (.lst ((List.range 12).map fun j => V.bl (decide (j = i)))) → Q (.ref p) H'
theorem ok_l_sorts (B : Bt mg) {cs : List Addr} {cM : Addr} (T : Tw K mg cs cM) (D : DefAt K mg "_law_sorts" s_l_sorts ["_law_e"]) : Cal P w K mg base 1 "_law_sorts" ["_law_e"] (spSortV cs) := by
  refine cal_of D sc_l_sorts (fun vs H Q E h => ?_) (fun f cdv A outer s H vs Q E hr h => ?_)
  · obtain ⟨e, c, i, rfl, _⟩ := h
    rfl
  obtain ⟨e, c, i, rfl, hc, hx, q⟩ := h
  obtain ⟨a0, a1, a2, a3, a4, a5, a6, a7, a8, a9, a10, a11, ecs, hNoHead, hNoProgram, hNoText, hNoStock, hNoAnswer, hNoInputs, hClash, hNoRow, hNoQuestion, hNoDoer, hNotKept, hNoName⟩ := T.n
  have k := T.k c (List.mem_iff_getElem?.mpr ⟨i, hc⟩)
  have t := fun (j : Nat) (d : Addr) => T.t i j c d hc
  rw [ecs] at t
  refine ⟨_, (pss_cons (ps_set (i := 1) sc_l_sorts.nd rfl (.inl rfl) (pe_lst (pa_cons (pe_callB call_isV (by rfl) B.isinstance (by decide +kernel) (pa_cons (pv 0) (pa_cons (pe_glob (v := .ref _) (by rfl) hNoHead rfl) pa_nil))) (pa_cons (pe_callB call_isV (by rfl) B.isinstance (by decide +kernel) (pa_cons (pv 0) (pa_cons (pe_glob (v := .ref _) (by rfl) hNoProgram rfl) pa_nil))) (pa_cons (pe_callB call_isV (by rfl) B.isinstance (by decide +kernel) (pa_cons (pv 0) (pa_cons (pe_glob (v := .ref _) (by rfl) hNoText rfl) pa_nil))) (pa_cons (pe_callB call_isV (by rfl) B.isinstance (by decide +kernel) (pa_cons (pv 0) (pa_cons (pe_glob (v := .ref _) (by rfl) hNoStock rfl) pa_nil))) pa_nil))))))
      (pss_cons (ps_set (i := 1) sc_l_sorts.nd rfl (.inl rfl) (pe_op op_cat (pv 1) (pe_lst (pa_cons (pe_callB call_isV (by rfl) B.isinstance (by decide +kernel) (pa_cons (pv 0) (pa_cons (pe_glob (v := .ref _) (by rfl) hNoAnswer rfl) pa_nil))) (pa_cons (pe_callB call_isV (by rfl) B.isinstance (by decide +kernel) (pa_cons (pv 0) (pa_cons (pe_glob (v := .ref _) (by rfl) hNoInputs rfl) pa_nil))) (pa_cons (pe_callB call_isV (by rfl) B.isinstance (by decide +kernel) (pa_cons (pv 0) (pa_cons (pe_glob (v := .ref _) (by rfl) hClash rfl) pa_nil))) (pa_cons (pe_callB call_isV (by rfl) B.isinstance (by decide +kernel) (pa_cons (pv 0) (pa_cons (pe_glob (v := .ref _) (by rfl) hNoRow rfl) pa_nil))) pa_nil)))))))
      (pss_one (ps_ret (pe_op op_cat (pv 1) (pe_lst (pa_cons (pe_callB call_isV (by rfl) B.isinstance (by decide +kernel) (pa_cons (pv 0) (pa_cons (pe_glob (v := .ref _) (by rfl) hNoQuestion rfl) pa_nil))) (pa_cons (pe_callB call_isV (by rfl) B.isinstance (by decide +kernel) (pa_cons (pv 0) (pa_cons (pe_glob (v := .ref _) (by rfl) hNoDoer rfl) pa_nil))) (pa_cons (pe_callB call_isV (by rfl) B.isinstance (by decide +kernel) (pa_cons (pv 0) (pa_cons (pe_glob (v := .ref _) (by rfl) hNotKept rfl) pa_nil))) (pa_cons (pe_callB call_isV (by rfl) B.isinstance (by decide +kernel) (pa_cons (pv 0) (pa_cons (pe_glob (v := .ref _) (by rfl) hNoName rfl) pa_nil))) pa_nil)))))))))), ?_⟩
  refine ⟨_, rfl, e, c, _, _, _, rfl, hx, k, (fun _ h => h), t 0 a0 rfl, _, rfl, e, c, _, _, _, rfl, hx, k, (fun _ h => h), t 1 a1 rfl, _, rfl, e, c, _, _, _, rfl, hx, k, (fun _ h => h), t 2 a2 rfl, _, rfl, e, c, _, _, _, rfl, hx, k, (fun _ h => h), t 3 a3 rfl, (by show 4 ≤ sizeLine; decide), fun l1 h1 => ?_⟩
  have s1 : Same H (upd H l1 (.lst [.bl (decide (0 = i)), .bl (decide (1 = i)), .bl (decide (2 = i)), .bl (decide (3 = i))])) := same_new h1
  have x1 := hx.same s1
  refine ⟨_, rfl, _, rfl, e, c, _, _, _, rfl, x1, k, (fun _ h => h), t 4 a4 rfl, _, rfl, e, c, _, _, _, rfl, x1, k, (fun _ h => h), t 5 a5 rfl, _, rfl, e, c, _, _, _, rfl, x1, k, (fun _ h => h), t 6 a6 rfl, _, rfl, e, c, _, _, _, rfl, x1, k, (fun _ h => h), t 7 a7 rfl, (by show 4 ≤ sizeLine; decide), fun l2 h2 => ?_⟩
  have s2 := same_new (o := .lst [.bl (decide (4 = i)), .bl (decide (5 = i)), .bl (decide (6 = i)), .bl (decide (7 = i))]) h2
  refine ⟨l1, l2, _, _, rfl, rfl, s2 _ _ upd_same, upd_same, (by show 8 ≤ sizeLine; decide), fun l3 h3 => ?_⟩
  have s3 := same_new (o := .lst ([.bl (decide (0 = i)), .bl (decide (1 = i)), .bl (decide (2 = i)), .bl (decide (3 = i))] ++ [.bl (decide (4 = i)), .bl (decide (5 = i)), .bl (decide (6 = i)), .bl (decide (7 = i))])) h3
  have x3 := (x1.same s2).same s3
  refine ⟨_, rfl, _, rfl, e, c, _, _, _, rfl, x3, k, (fun _ h => h), t 8 a8 rfl, _, rfl, e, c, _, _, _, rfl, x3, k, (fun _ h => h), t 9 a9 rfl, _, rfl, e, c, _, _, _, rfl, x3, k, (fun _ h => h), t 10 a10 rfl, _, rfl, e, c, _, _, _, rfl, x3, k, (fun _ h => h), t 11 a11 rfl, (by show 4 ≤ sizeLine; decide), fun l4 h4 => ?_⟩
  have s4 := same_new (o := .lst [.bl (decide (8 = i)), .bl (decide (9 = i)), .bl (decide (10 = i)), .bl (decide (11 = i))]) h4
  refine ⟨l3, l4, _, _, rfl, rfl, s4 _ _ upd_same, upd_same, (by show 12 ≤ sizeLine; decide), fun l5 h5 => ?_⟩
  exact q l5 _ ((((s1.trans s2).trans s3).trans s4).trans (same_new h5)) upd_same
abbrev s_l_bases : Stmt := topS 21
theorem sc_l_bases : FnScope ["_law_e", "_law_found"] ["_law_e"] (defScope s_l_bases) := ⟨rfl, rfl, rfl, by decide +kernel, rfl, by decide +kernel, by decide +kernel⟩
def basV (i : Nat) : List Bool := [decide (i < 8), decide (i < 8), !decide (i < 8), decide (i = 10), decide (i = 11)]
def spBasV (cs : List Addr) : Sp := fun vs H Q _ => ∃ (e c : Addr) (i : Nat), vs = [.ref e] ∧ cs[i]? = some c ∧ Exn H e c ∧ ∀ p H', Same H H' → H' p = some (.lst ((basV i).map V.bl)) → Q (.ref p) H'
theorem ok_l_bases (B : Bt mg) {cs : List Addr} {cM : Addr} (T : Tw K mg cs cM) (D : DefAt K mg "_law_bases" s_l_bases ["_law_e"]) : Cal P w K mg base 1 "_law_bases" ["_law_e"] (spBasV cs) := by
  refine cal_of D sc_l_bases (fun vs H Q E h => ?_) (fun f cdv A outer s H vs Q E hr h => ?_)
  · obtain ⟨e, c, i, rfl, _⟩ := h
    rfl
  obtain ⟨e, c, i, rfl, hc, hx, q⟩ := h
  have hMakeError := T.m
  obtain ⟨v1, v2, v3, v4⟩ := T.v
  have k := T.k c (List.mem_iff_getElem?.mpr ⟨i, hc⟩)
  refine ⟨_, (pss_cons (ps_set (i := 1) sc_l_bases.nd rfl (.inl rfl) (pe_lst (pa_cons (pe_callB call_isV (by rfl) B.isinstance (by decide +kernel) (pa_cons (pv 0) (pa_cons (pe_glob (v := .ref _) (by rfl) hMakeError rfl) pa_nil))) (pa_cons (pe_callB call_isV (by rfl) B.isinstance (by decide +kernel) (pa_cons (pv 0) (pa_cons (pe_bltn (v := .ty "ValueError") (by rfl) v1 (by decide +kernel) rfl) pa_nil))) (pa_cons (pe_callB call_isV (by rfl) B.isinstance (by decide +kernel) (pa_cons (pv 0) (pa_cons (pe_bltn (v := .ty "LookupError") (by rfl) v2 (by decide +kernel) rfl) pa_nil))) pa_nil)))))
      (pss_one (ps_ret (pe_op op_cat (pv 1) (pe_lst (pa_cons (pe_callB call_isV (by rfl) B.isinstance (by decide +kernel) (pa_cons (pv 0) (pa_cons (pe_bltn (v := .ty "IndexError") (by rfl) v3 (by decide +kernel) rfl) pa_nil))) (pa_cons (pe_callB call_isV (by rfl) B.isinstance (by decide +kernel) (pa_cons (pv 0) (pa_cons (pe_bltn (v := .ty "KeyError") (by rfl) v4 (by decide +kernel) rfl) pa_nil))) pa_nil))))))), ?_⟩
  refine ⟨_, rfl, e, c, _, _, _, rfl, hx, k, (fun _ h => h), T.bM i c hc, _, rfl, e, c, _, _, _, rfl, hx, k, (fun _ h => h), T.bV i c hc, _, rfl, e, c, _, _, _, rfl, hx, k, (fun _ h => h), T.bL i c hc, (by show 3 ≤ sizeLine; decide), fun l1 h1 => ?_⟩
  have s1 := same_new (o := .lst [.bl (decide (i < 8)), .bl (decide (i < 8)), .bl (!decide (i < 8))]) h1
  have x1 := hx.same s1
  refine ⟨_, rfl, _, rfl, e, c, _, _, _, rfl, x1, k, (fun _ h => h), T.bI i c hc, _, rfl, e, c, _, _, _, rfl, x1, k, (fun _ h => h), T.bK i c hc, (by show 2 ≤ sizeLine; decide), fun l2 h2 => ?_⟩
  have s2 := same_new (o := .lst [.bl (decide (i = 10)), .bl (decide (i = 11))]) h2
  refine ⟨l1, l2, _, _, rfl, rfl, s2 _ _ upd_same, upd_same, (by show 5 ≤ sizeLine; decide), fun l3 h3 => ?_⟩
  exact q l3 _ ((s1.trans s2).trans (same_new h3)) upd_same
abbrev s_l_bases_due : Stmt := topS 22
theorem sc_l_bases_due : FnScope ["_law_spot"] ["_law_spot"] (defScope s_l_bases_due) := ⟨rfl, rfl, rfl, by decide +kernel, rfl, by decide +kernel, by decide +kernel⟩
def spBasD : Sp := fun vs H Q _ => ∃ (i : Nat), vs = [.int i] ∧ ∀ p, H p = none → Q (.ref p) (upd H p (.lst ((basV i).map V.bl)))
theorem ok_l_bases_due (D : DefAt K mg "_law_bases_due" s_l_bases_due ["_law_spot"]) : Cal P w K mg base 1 "_law_bases_due" ["_law_spot"] (spBasD) := by
  refine cal_of D sc_l_bases_due (fun vs H Q E h => ?_) (fun f cdv A outer s H vs Q E hr h => ?_)
  · obtain ⟨i, rfl, _⟩ := h
    rfl
  obtain ⟨i, rfl, q⟩ := h
  refine ⟨_, (pss_cons (ps_if (pt_cmpR op_lt (pv 0) pe_int (nomark _))
        (pss_one (ps_ret (pe_lst (pa_cons pe_bl (pa_cons pe_bl (pa_cons pe_bl (pa_cons pe_bl (pa_cons pe_bl pa_nil))))))))
        pss_nil)
      (pss_one (ps_ret (pe_lst (pa_cons pe_bl (pa_cons pe_bl (pa_cons pe_bl (pa_cons (pe_cmpR op_eq (pv 0) pe_int (nomark _)) (pa_cons (pe_cmpR op_eq (pv 0) pe_int (nomark _)) pa_nil))))))))), ?_⟩
  refine ⟨_, rfl, _, _, rfl, rfl, _, rfl, ite2 (fun h => ?_) (fun h => ?_)⟩
  · have h' : i < 8 := by have := of_decide_eq_true h; omega
    have e : (basV i).map V.bl = [.bl true, .bl true, .bl false, .bl false, .bl false] := by
      unfold basV
      rw [decide_eq_true h', decide_eq_false (show ¬ i = 10 by omega), decide_eq_false (show ¬ i = 11 by omega)]
      rfl
    exact ⟨(by show 5 ≤ sizeLine; decide), fun p hp => by rw [← e]; exact q p hp⟩
  · have h0 : ¬ ((i : Int) < 8) := fun z => h (decide_eq_true z)
    have h' : ¬ i < 8 := by omega
    have e : (basV i).map V.bl = [.bl false, .bl false, .bl true, .bl (decide (V.int (i : Int) = V.int 10)), .bl (decide (V.int (i : Int) = V.int 11))] := by
      unfold basV
      rw [decide_eq_false h']
      have e1 : decide (V.int (i : Int) = V.int 10) = decide (i = 10) := decide_eq_decide.mpr ⟨fun z => by injection z with z; omega, fun z => by rw [z]; rfl⟩
      have e2 : decide (V.int (i : Int) = V.int 11) = decide (i = 11) := decide_eq_decide.mpr ⟨fun z => by injection z with z; omega, fun z => by rw [z]; rfl⟩
      rw [e1, e2]
      rfl
    exact ⟨_, rfl, rfl, _, rfl, rfl, (by show 5 ≤ sizeLine; decide), fun p hp => by rw [← e]; exact q p hp⟩
end
end Lm

set_option Elab.async false
set_option linter.all false
set_option maxRecDepth 100000
set_option maxHeartbeats 4000000
set_option pp.maxSteps 40000
set_option pp.deepTerms true
namespace Lm
open PySem PySem.Spec PyProof.Rows L2 LmR
section
variable {P : Program} {w : World} {K : PySem.W.Frag} {mg : Str → Option Value} {base : Heap}
variable {c_NoHead i_NoHead c_NoProgram i_NoProgram c_NoText i_NoText c_NoStock i_NoStock c_NoAnswer i_NoAnswer c_NoInputs i_NoInputs c_Clash i_Clash c_NoDoer i_NoDoer c_NotKept i_NotKept c_NoName i_NoName c_NoRow c_NoQuestion : Addr}
variable {f_NoHead f_NoProgram f_NoText f_NoStock f_NoAnswer f_NoInputs f_Clash f_NoDoer f_NotKept f_NoName : FuncData}
theorem for_enumL {K : PySem.W.Frag} {a : Addr} {xs : List V} {g : TG} {tb : TS} {D : Ends} {σ : L2.St} {H : Hp} (Pv : Nat → L2.St → Hp → Prop) (h0 : Pv 0 σ H) (hq : ∀ i σ H, Pv i σ H → SqL K H a xs)
    (hstep : ∀ i x σ H T, xs[i]? = some x → Pv i σ H → H T = none → g (.ref T) σ (upd H T (.tup [.int (i : Nat), x])) fun σ2 H2 => tb { D with nx := Pv (i + 1), ct := Pv (i + 1), bk := D.nx } σ2 H2)
    (hend : ∀ σ H, Pv xs.length σ H → D.nx σ H) :
    ∃ W : Nat → Nat → L2.St → Hp → Prop, (∃ m, W 0 m σ H) ∧ ∀ i m σ H, W i m σ H →
      ((Ite K a).stop i H ∧ D.nx σ H) ∨ ((Ite K a).go i H ∧ ∃ N : L2.St → Hp → Prop, (∀ σ' H', N σ' H' → ∃ m', m' < m ∧ W (i + 1) m' σ' H') ∧ ∀ x H', (Ite K a).yld i H x H' → g x σ H' fun σ2 H2 => tb { D with nx := N, ct := N, bk := D.nx } σ2 H2) := by
  refine ⟨fun i m σ H => i ≤ xs.length ∧ m = xs.length - i ∧ Pv i σ H, ⟨_, Nat.zero_le _, rfl, h0⟩, fun i m σ H ⟨hi, hm, hp⟩ => ?_⟩
  have hs := hq i σ H hp
  rcases Nat.lt_or_ge i xs.length with hlt | hge
  · obtain ⟨x, hx⟩ : ∃ x, xs[i]? = some x := ⟨xs[i], List.getElem?_eq_getElem hlt⟩
    refine .inr ⟨⟨xs, x, hs, hx⟩, Pv (i + 1), fun σ' H' h' => ⟨xs.length - (i + 1), by omega, hlt, rfl, h'⟩, ?_⟩
    rintro y H' ⟨T, z, rfl, hT, rfl, hz⟩
    have e := hz xs hs
    rw [hx] at e
    cases e
    exact hstep i x σ H T hx hp hT
  · have e : i = xs.length := Nat.le_antisymm hi hge
    refine .inl ⟨⟨xs, hs, hge⟩, hend σ H (e ▸ hp)⟩
theorem dp_bls {K : PySem.W.Frag} {H : Hp} : ∀ bs : List Bool, DpAll K H (bs.map V.bl) (bs.map PyData.bool)
  | [] => .nil
  | b :: bs => .cons (.bl b) (dp_bls bs)
theorem flats_bls : ∀ bs : List Bool, flat.flats (bs.map PyData.bool) = true
  | [] => rfl
  | b :: bs => by rw [List.map_cons, flat.flats, flats_bls bs]; rfl
theorem dep_bls : ∀ bs : List Bool, PyData.depthAll (bs.map PyData.bool) = 0
  | [] => rfl
  | b :: bs => by rw [List.map_cons, PyData.depthAll, dep_bls bs]; rfl
/-- two lists of the same truths are not unlike -/
theorem ne_bls {K : PySem.W.Frag} {p q : Addr} {bs : List Bool} {H : Hp} {R : V → Hp → Prop} (hp : SqL K H p (bs.map V.bl)) (hq : SqL K H q (bs.map V.bl)) (r : R (.bl false) H) : rNeP K (.ref p) (.ref q) H R := by
  have pl : PyData.plain (.list (bs.map PyData.bool)) = true := plains_flat _ (flats_bls bs)
  have dp : PyData.depth (.list (bs.map PyData.bool)) ≤ 64 := by show PyData.depthAll _ + 1 ≤ 64; rw [dep_bls]; decide
  refine ⟨_, _, .lst hp (dp_bls bs), .lst hq (dp_bls bs), pl, pl, dp, ?_⟩
  rw [SeqAt.eqv_refl_plain _ pl]
  exact r
/-- an exception with its fields -/
def ExF (H : Hp) (e C : Addr) (fs : List (Str × V)) : Prop := ∃ d, H e = some (exo e C (some d)) ∧ H d = some (exd d fs)
theorem ExF.same {H H' : Hp} {e C : Addr} {fs : List (Str × V)} (h : ExF H e C fs) (s : Same H H') : ExF H' e C fs := by
  obtain ⟨d, a, b⟩ := h
  exact ⟨d, s _ _ a, s _ _ b⟩
theorem ExF.exn {H : Hp} {e C : Addr} {fs : List (Str × V)} (h : ExF H e C fs) : Exn H e C := by
  obtain ⟨d, a, b⟩ := h
  exact .inl ⟨d, fs, a, b⟩
theorem mkv2 {C : Addr} {f g : Str} {x y : V} {H : Hp} {R : Addr → Hp → Prop} (q : ∀ e H', Same H H' → ExF H' e C [(g, y), (f, x)] → R e H') :
    [x, y].length ≤ 1000 ∧ ∀ a, H a = none → spIni2 C f g [.ref a, x, y] (upd H a (exo a C none)) (fun v H2 => v = .non ∧ R a H2) (fun _ _ _ => False) := by
  refine ⟨by show 2 ≤ 1000; decide, fun a ha => ⟨a, x, y, rfl, upd_same, fun d H' hd h1 h2 h3 => ⟨rfl, q a H' (fun b o e => ?_) ⟨d, h1, h2⟩⟩⟩⟩
  have na : b ≠ a := ne_of_none e ha
  have nd : b ≠ d := fun z => by rw [← z, upd_ne na, e] at hd; cases hd
  rw [h3 b na nd, upd_ne na]
  exact e
theorem mkv1 {C : Addr} {f : Str} {x : V} {H : Hp} {R : Addr → Hp → Prop} (q : ∀ e H', Same H H' → ExF H' e C [(f, x)] → R e H') :
    [x].length ≤ 1000 ∧ ∀ a, H a = none → spIni1 C f [.ref a, x] (upd H a (exo a C none)) (fun v H2 => v = .non ∧ R a H2) (fun _ _ _ => False) := by
  refine ⟨by show 1 ≤ 1000; decide, fun a ha => ⟨a, x, rfl, upd_same, fun d H' hd h1 h2 h3 => ⟨rfl, q a H' (fun b o e => ?_) ⟨d, h1, h2⟩⟩⟩⟩
  have na : b ≠ a := ne_of_none e ha
  have nd : b ≠ d := fun z => by rw [← z, upd_ne na, e] at hd; cases hd
  rw [h3 b na nd, upd_ne na]
  exact e
theorem exn_new {C a : Addr} {H : Hp} : Exn (upd H a (ExO (.ref C) a)) a C := .inr upd_same
abbrev s_l_right : Stmt := topS 23
theorem sc_l_right : FnScope ["_law_flow_here", "_law_a", "_law_b", "_law_c", "_law_d", "_law_some", "_law_k", "_law_e", "_law_found", "_law_more", "_law_j"] ["_law_flow_here"] (defScope s_l_right) := ⟨rfl, rfl, rfl, by decide +kernel, rfl, by decide +kernel, by decide +kernel⟩
def spRight (K : PySem.W.Frag) : Sp := fun vs H Q _ => ∃ f, vs = [.ref f] ∧ Flow H f ∧ ∀ H', Gr f H H' → Q (.bl true) H'
theorem ok_l_right (B : Bt mg) {cM : Addr} (C_l_thing : Cal P w K mg base 2 "_law_thing" ["_law_flow_here"] (spThing K)) (C_l_alike : Cal P w K mg base 1 "_law_alike" ["_law_found", "_law_due"] (spAlk K))
    (C_l_sorts : Cal P w K mg base 1 "_law_sorts" ["_law_e"] (spSortV [c_NoHead, c_NoProgram, c_NoText, c_NoStock, c_NoAnswer, c_NoInputs, c_Clash, c_NoRow, c_NoQuestion, c_NoDoer, c_NotKept, c_NoName]))
    (C_l_bases : Cal P w K mg base 1 "_law_bases" ["_law_e"] (spBasV [c_NoHead, c_NoProgram, c_NoText, c_NoStock, c_NoAnswer, c_NoInputs, c_Clash, c_NoRow, c_NoQuestion, c_NoDoer, c_NotKept, c_NoName]))
    (C_l_bases_due : Cal P w K mg base 1 "_law_bases_due" ["_law_spot"] (spBasD))
    (R_NoHead : RfV K mg "NoHead" "NoHead.__init__" c_NoHead i_NoHead f_NoHead s_NoHead ["word", "at"]) (R_NoProgram : RfV K mg "NoProgram" "NoProgram.__init__" c_NoProgram i_NoProgram f_NoProgram s_NoProgram ["word", "at"]) (R_NoText : RfV K mg "NoText" "NoText.__init__" c_NoText i_NoText f_NoText s_NoText ["at"]) (R_NoStock : RfV K mg "NoStock" "NoStock.__init__" c_NoStock i_NoStock f_NoStock s_NoStock ["word", "at"]) (R_NoAnswer : RfV K mg "NoAnswer" "NoAnswer.__init__" c_NoAnswer i_NoAnswer f_NoAnswer s_NoAnswer ["answer"]) (R_NoInputs : RfV K mg "NoInputs" "NoInputs.__init__" c_NoInputs i_NoInputs f_NoInputs s_NoInputs ["at"]) (R_Clash : RfV K mg "Clash" "Clash.__init__" c_Clash i_Clash f_Clash s_Clash ["at", "number"])
    (R_NoDoer : RfV K mg "NoDoer" "NoDoer.__init__" c_NoDoer i_NoDoer f_NoDoer s_NoDoer ["inputs"]) (R_NotKept : RfV K mg "NotKept" "NotKept.__init__" c_NotKept i_NotKept f_NotKept s_NotKept ["number"]) (R_NoName : RfV K mg "NoName" "NoName.__init__" c_NoName i_NoName f_NoName s_NoName ["name"]) (R_NoRow : RfN K mg "NoRow" c_NoRow) (R_NoQuestion : RfN K mg "NoQuestion" c_NoQuestion)
    (KB_NoHead : KBn K f_NoHead ["self", "word", "at"] 1 ["word", "at"] (fun us ws => us ++ ws) (fun vs zs => vs ++ zs))
    (KB_NoStock : KBn K f_NoStock ["self", "word", "at"] 1 ["at", "word"] (fun us ws => us ++ ws.reverse) (fun vs zs => vs ++ zs.reverse))
    (KB_Clash : KBn K f_Clash ["self", "at", "number"] 1 ["number", "at"] (fun us ws => us ++ ws.reverse) (fun vs zs => vs ++ zs.reverse))
    (KB_NoDoer : KBn K f_NoDoer ["self", "inputs"] 1 ["inputs"] (fun us ws => us ++ ws) (fun vs zs => vs ++ zs))
    (D : DefAt K mg "_law_right" s_l_right ["_law_flow_here"]) : Cal P w K mg base 4 "_law_right" ["_law_flow_here"] (spRight K) := by
  have C_l_thing := C_l_thing.mono (k := 3) (by decide)
  have C_l_alike := C_l_alike.mono (k := 3) (by decide)
  have C_l_sorts := C_l_sorts.mono (k := 3) (by decide)
  have C_l_bases := C_l_bases.mono (k := 3) (by decide)
  have C_l_bases_due := C_l_bases_due.mono (k := 3) (by decide)
  refine cal_of D sc_l_right (fun vs H Q E h => ?_) (fun f cdv A outer s H vs Q E hr h => ?_)
  · obtain ⟨f, rfl, _⟩ := h
    rfl
  obtain ⟨f, rfl, fl, q⟩ := h
  have hr' : Room 3 _ := hr
  have hr'' : Room (1 + 1) _ := hr.mono (by decide)
  refine ⟨_, (pss_cons (ps_asg (pe_lc (own := [("_law_k", 6)]) (g := gName 6) rfl sc_l_right.nd (pi_range1 (by rfl) B.range (pa_cons pe_int pa_nil)) (blkOk_by (own := [("_law_k", 6)]) (N := ["_law_flow_here", "_law_a", "_law_b", "_law_c", "_law_d", "_law_some", "_law_k", "_law_e", "_law_found", "_law_more", "_law_j"]) (sc := defScope s_l_right) (by decide +kernel)) (fun _ _ _ _ _ => (pg_name (i := 6) sc_l_right.nd rfl (.inl rfl))) (fun _ _ _ _ _ => pts_nil) (fun _ _ _ _ _ => (pe_cal C_l_thing hr' (by rfl) (pa_cons (pv 0) pa_nil)))) (pg_lst rfl (pgs_cons (pg_name (i := 1) sc_l_right.nd rfl (.inl rfl)) (pgs_cons (pg_name (i := 2) sc_l_right.nd rfl (.inl rfl)) (pgs_cons (pg_name (i := 3) sc_l_right.nd rfl (.inl rfl)) (pgs_cons (pg_name (i := 4) sc_l_right.nd rfl (.inl rfl)) pgs_nil))))))
      (pss_cons (ps_set (i := 5) sc_l_right.nd rfl (.inl rfl) (pe_lst (pa_cons (pe_exv R_NoHead (ini_NoHead R_NoHead) hr'' (by rfl) (pa_cons (pv 1) (pa_cons (pv 2) pa_nil))) (pa_cons (pe_exv R_NoProgram (ini_NoProgram R_NoProgram) hr'' (by rfl) (pa_cons (pv 3) (pa_cons (pv 4) pa_nil))) (pa_cons (pe_exv R_NoText (ini_NoText R_NoText) hr'' (by rfl) (pa_cons (pv 1) pa_nil)) (pa_cons (pe_exv R_NoStock (ini_NoStock R_NoStock) hr'' (by rfl) (pa_cons (pv 2) (pa_cons (pv 3) pa_nil))) (pa_cons (pe_exv R_NoAnswer (ini_NoAnswer R_NoAnswer) hr'' (by rfl) (pa_cons (pv 4) pa_nil)) (pa_cons (pe_exv R_NoInputs (ini_NoInputs R_NoInputs) hr'' (by rfl) (pa_cons (pv 1) pa_nil)) (pa_cons (pe_exv R_Clash (ini_Clash R_Clash) hr'' (by rfl) (pa_cons (pv 2) (pa_cons (pv 4) pa_nil))) (pa_cons (pe_ex0 R_NoRow (by rfl)) pa_nil))))))))))
      (C8.pss_cut (ps_set (i := 5) sc_l_right.nd rfl (.inl rfl) (pe_op op_cat (pv 5) (pe_lst (pa_cons (pe_ex0 R_NoQuestion (by rfl)) (pa_cons (pe_exv R_NoDoer (ini_NoDoer R_NoDoer) hr'' (by rfl) (pa_cons (pv 3) pa_nil)) (pa_cons (pe_exv R_NotKept (ini_NotKept R_NotKept) hr'' (by rfl) (pa_cons (pv 2) pa_nil)) (pa_cons (pe_exv R_NoName (ini_NoName R_NoName) hr'' (by rfl) (pa_cons (pv 4) pa_nil)) pa_nil)))))))
      (pss_cons (ps_for PassesOwn.never rfl (pi_enum (by rfl) B.enumerate (pa_cons (pv 5) pa_nil)) (pg_tup rfl (pgs_cons (pg_name (i := 6) sc_l_right.nd rfl (.inr rfl)) (pgs_cons (pg_name (i := 7) sc_l_right.nd rfl (.inl rfl)) pgs_nil)))
        (pss_one (ps_if (PW.pt (pw_or (pt_cmpR (op_neP hr.units) (pe_cal C_l_sorts hr' (by rfl) (pa_cons (pv 7) pa_nil)) (pe_lc (own := [("_law_j", 10)]) (g := gName 10) rfl sc_l_right.nd (pi_range1 (by rfl) B.range (pa_cons pe_int pa_nil)) (blkOk_by (own := [("_law_j", 10)]) (N := ["_law_flow_here", "_law_a", "_law_b", "_law_c", "_law_d", "_law_some", "_law_k", "_law_e", "_law_found", "_law_more", "_law_j"]) (sc := defScope s_l_right) (by decide +kernel)) (fun _ _ _ _ _ => (pg_name (i := 10) sc_l_right.nd rfl (.inl rfl))) (fun _ _ _ _ _ => pts_nil) (fun _ _ _ _ _ => (pe_cmpR op_eq (pv 10) (pv 6) (nomark _)))) (nomark _)) (pw_or1 (pt_cmpR (op_neP hr.units) (pe_cal C_l_bases hr' (by rfl) (pa_cons (pv 7) pa_nil)) (pe_cal C_l_bases_due hr' (by rfl) (pa_cons (pv 6) pa_nil)) (nomark _)))))
        (pss_one (ps_ret pe_bl))
        pss_nil)))
      (pss_cons (ps_set (i := 8) sc_l_right.nd rfl (.inl rfl) (pe_lst (pa_cons (pe_fldV (pe_ix ix_list (pv 5) pe_int (fun _ _ => rfl))) (pa_cons (pe_fldV (pe_ix ix_list (pv 5) pe_int (fun _ _ => rfl))) (pa_cons (pe_fldV (pe_ix ix_list (pv 5) pe_int (fun _ _ => rfl))) (pa_cons (pe_fldV (pe_ix ix_list (pv 5) pe_int (fun _ _ => rfl))) (pa_cons (pe_fldV (pe_ix ix_list (pv 5) pe_int (fun _ _ => rfl))) (pa_cons (pe_fldV (pe_ix ix_list (pv 5) pe_int (fun _ _ => rfl))) (pa_cons (pe_fldV (pe_ix ix_list (pv 5) pe_int (fun _ _ => rfl))) pa_nil)))))))))
      (pss_cons (ps_set (i := 8) sc_l_right.nd rfl (.inl rfl) (pe_op op_cat (pv 8) (pe_lst (pa_cons (pe_fldV (pe_ix ix_list (pv 5) pe_int (fun _ _ => rfl))) (pa_cons (pe_fldV (pe_ix ix_list (pv 5) pe_int (fun _ _ => rfl))) (pa_cons (pe_fldV (pe_ix ix_list (pv 5) pe_int (fun _ _ => rfl))) (pa_cons (pe_fldV (pe_ix ix_list (pv 5) pe_int (fun _ _ => rfl))) (pa_cons (pe_fldV (pe_ix ix_list (pv 5) pe_int (fun _ _ => rfl))) (pa_cons (pe_fldV (pe_ix ix_list (pv 5) pe_int (fun _ _ => rfl))) pa_nil)))))))))
      (C8.pss_cut (ps_if (pt_not (pt_val (pe_cal C_l_alike hr' (by rfl) (pa_cons (pe_callTy call_tuple_of (by rfl) B.tuple PyProof.Rows.boot_tuple (pa_cons (pe_op op_cat (pv 8) (pe_lst (pa_cons (pe_fldV (pe_ix ix_list (pv 5) pe_int (fun _ _ => rfl))) pa_nil))) pa_nil)) (pa_cons (pe_tup (pa_cons (pv 1) (pa_cons (pv 2) (pa_cons (pv 3) (pa_cons (pv 4) (pa_cons (pv 1) (pa_cons (pv 2) (pa_cons (pv 3) (pa_cons (pv 4) (pa_cons (pv 1) (pa_cons (pv 2) (pa_cons (pv 4) (pa_cons (pv 3) (pa_cons (pv 2) (pa_cons (pv 4) pa_nil))))))))))))))) pa_nil)))))
        (pss_one (ps_ret pe_bl))
        pss_nil)
      (pss_cons (ps_set (i := 9) sc_l_right.nd rfl (.inl rfl) (pe_lst (pa_cons (pe_exk R_NoHead (ini_NoHead R_NoHead) hr'' KB_NoHead (by rfl) (pk_cons (pv 3) (pk_cons (pv 1) pk_nil))) (pa_cons (pe_exk R_NoStock (ini_NoStock R_NoStock) hr'' KB_NoStock (by rfl) (pk_cons (pv 1) (pk_cons (pv 4) pk_nil))) (pa_cons (pe_exk R_Clash (ini_Clash R_Clash) hr'' KB_Clash (by rfl) (pk_cons (pv 1) (pk_cons (pv 3) pk_nil))) (pa_cons (pe_exk R_NoDoer (ini_NoDoer R_NoDoer) hr'' KB_NoDoer (by rfl) (pk_cons (pv 2) pk_nil)) pa_nil))))))
      (pss_cons (ps_set (i := 8) sc_l_right.nd rfl (.inl rfl) (pe_lst (pa_cons (pe_fldV (pe_ix ix_list (pv 9) pe_int (fun _ _ => rfl))) (pa_cons (pe_fldV (pe_ix ix_list (pv 9) pe_int (fun _ _ => rfl))) (pa_cons (pe_fldV (pe_ix ix_list (pv 9) pe_int (fun _ _ => rfl))) (pa_cons (pe_fldV (pe_ix ix_list (pv 9) pe_int (fun _ _ => rfl))) (pa_cons (pe_fldV (pe_ix ix_list (pv 9) pe_int (fun _ _ => rfl))) (pa_cons (pe_fldV (pe_ix ix_list (pv 9) pe_int (fun _ _ => rfl))) (pa_cons (pe_fldV (pe_ix ix_list (pv 9) pe_int (fun _ _ => rfl))) pa_nil)))))))))
      (pss_one (ps_ret (pe_cal C_l_alike hr' (by rfl) (pa_cons (pe_callTy call_tuple_of (by rfl) B.tuple PyProof.Rows.boot_tuple (pa_cons (pv 8) pa_nil)) (pa_cons (pe_tup (pa_cons (pv 3) (pa_cons (pv 1) (pa_cons (pv 4) (pa_cons (pv 1) (pa_cons (pv 3) (pa_cons (pv 1) (pa_cons (pv 2) pa_nil)))))))) pa_nil)))))))))))))), ?_⟩
  refine ⟨4, rfl, by decide, by decide, fun D hD => lc_range (lo := 0) (n := 4) (fun i H' => Gr f H H' ∧ ∃ vs : List V, vs.length = i ∧ H' D = some (.lst vs) ∧ ∀ v ∈ vs, ∃ d, DpK K [f, D] H' v d ∧ nic d = true ∧ dsz d ≤ 3) ?_ ?_ ?_⟩
  · exact ⟨Gr.new fl hD, [], rfl, upd_same, fun v hv => nomatch hv⟩
  · rintro i H' hi ⟨g, us, hl, hA, hd⟩
    have nD : D ≠ f := fl_ne fl hD
    refine ⟨rfl, _, rfl, f, rfl, g.fl, fun v d H2 g2 kd nd sd => ⟨us, g2.at hA nD, smallL (by omega), ?_⟩⟩
    have e2 : Ex [f, D] H2 (upd H2 D (.lst (us ++ [v]))) := fun b o e n => by
      rw [upd_ne (fun z => n (by rw [z]; simp))]
      exact e
    refine ⟨(g.trans g2).put hD nD, us ++ [v], by rw [List.length_append, hl]; rfl, upd_same, fun y hy => ?_⟩
    rcases List.mem_append.mp hy with z | z
    · obtain ⟨e, ke, r⟩ := hd y z
      refine ⟨e, fun H3 x3 => ke H3 (((g2.ex.mono fun b hb => ?_).trans e2).trans x3), r⟩
      rw [List.mem_singleton.mp hb]
      simp
    · rw [List.mem_singleton.mp z]
      obtain ⟨_, ef⟩ := g.fl.lst
      refine ⟨d, fun H3 x3 => kd [f, D] (fun b hb => ?_) H3 (e2.trans x3), nd, sd⟩
      rcases List.mem_cons.mp hb with h | h
      · rw [h, ef]; exact fun z => nomatch z
      · rw [List.mem_singleton.mp h, hA]; exact fun z => nomatch z
  rintro H1 ⟨gr1, us, hl, hA, hd⟩
  obtain ⟨va, vb, vc, vd, rfl⟩ : ∃ va vb vc vd, us = [va, vb, vc, vd] := by
    match us, hl with
    | [a, b, c, d], _ => exact ⟨a, b, c, d, rfl⟩
  obtain ⟨da', ka, na, sa⟩ := hd va (by simp)
  obtain ⟨db', kb, nb, sb⟩ := hd vb (by simp)
  obtain ⟨dc', kc, nc, sc⟩ := hd vc (by simp)
  obtain ⟨dd', kd, nd, sd⟩ := hd vd (by simp)
  have ka := ka H1 (Ex.of_same (Same.refl _))
  have kb := kb H1 (Ex.of_same (Same.refl _))
  have kc := kc H1 (Ex.of_same (Same.refl _))
  have kd := kd H1 (Ex.of_same (Same.refl _))
  clear hd
  refine ⟨D, [va, vb, vc, vd], rfl, SqL.of hA, rfl, va, _, rfl, vb, _, rfl, vc, _, rfl, vd, [], rfl, rfl, ?_⟩
  refine ⟨_, rfl, _, rfl, mkv2 fun e0 h0 s0 x0 => ⟨_, rfl, _, rfl, mkv2 fun e1 h1 s1 x1 => ⟨_, rfl, mkv1 fun e2 h2 s2 x2 => ⟨_, rfl, _, rfl, mkv2 fun e3 h3 s3 x3 => ⟨_, rfl, mkv1 fun e4 h4 s4 x4 => ⟨_, rfl, mkv1 fun e5 h5 s5 x5 => ⟨_, rfl, _, rfl, mkv2 fun e6 h6 s6 x6 =>
    fun e7 n7 => ⟨(by show 8 ≤ sizeLine; decide), fun p1 hp1 => ?_⟩⟩⟩⟩⟩⟩⟩⟩
  refine ⟨fun σ' H2 => ∃ e0 e1 e2 e3 e4 e5 e6 e7 e8 e9 e10 e11 p3 : Addr, σ' = [some (.ref f), some va, some vb, some vc, some vd, some (.ref p3), none, none, none, none, none] ∧ Same H1 H2 ∧
    H2 p3 = some (.lst [.ref e0, .ref e1, .ref e2, .ref e3, .ref e4, .ref e5, .ref e6, .ref e7, .ref e8, .ref e9, .ref e10, .ref e11]) ∧ ExF H2 e0 c_NoHead [("at", vb), ("word", va)] ∧ ExF H2 e1 c_NoProgram [("at", vd), ("word", vc)] ∧ ExF H2 e2 c_NoText [("at", va)] ∧
    ExF H2 e3 c_NoStock [("at", vc), ("word", vb)] ∧ ExF H2 e4 c_NoAnswer [("answer", vd)] ∧ ExF H2 e5 c_NoInputs [("at", va)] ∧ ExF H2 e6 c_Clash [("number", vd), ("at", vb)] ∧ Exn H2 e7 c_NoRow ∧ Exn H2 e8 c_NoQuestion ∧ ExF H2 e9 c_NoDoer [("inputs", vc)] ∧
    ExF H2 e10 c_NotKept [("number", vb)] ∧ ExF H2 e11 c_NoName [("name", vd)], ?_, ?_⟩
  · refine ⟨_, rfl, fun e8 n8 => ⟨_, rfl, mkv1 fun e9 h9 s9 x9 => ⟨_, rfl, mkv1 fun e10 h10 s10 x10 => ⟨_, rfl, mkv1 fun e11 h11 s11 x11 => ⟨(by show 4 ≤ sizeLine; decide), fun p2 hp2 => ?_⟩⟩⟩⟩⟩
    have a7 := same_new (o := ExO (.ref c_NoRow) e7) n7
    have a8 := same_new (o := .lst [.ref e0, .ref e1, .ref e2, .ref e3, .ref e4, .ref e5, .ref e6, .ref e7]) hp1
    have a9 := same_new (o := ExO (.ref c_NoQuestion) e8) n8
    have b1 := same_new (o := .lst [.ref e8, .ref e9, .ref e10, .ref e11]) hp2
    have u11 := s11.trans b1
    have u10 := s10.trans u11
    have u9 := s9.trans u10
    have u8 := a9.trans u9
    refine ⟨p1, p2, _, _, rfl, rfl, u8 _ _ upd_same, upd_same, (by show 12 ≤ sizeLine; decide), fun p3 hp3 => ?_⟩
    have b2 := same_new (o := .lst ([.ref e0, .ref e1, .ref e2, .ref e3, .ref e4, .ref e5, .ref e6, .ref e7] ++ [.ref e8, .ref e9, .ref e10, .ref e11])) hp3
    have t11 := b1.trans b2
    have t10 := s11.trans t11
    have t9 := s10.trans t10
    have t8 := s9.trans t9
    have t7 := a8.trans (a9.trans t8)
    have t6 := a7.trans t7
    have t5 := s6.trans t6
    have t4 := s5.trans t5
    have t3 := s4.trans t4
    have t2 := s3.trans t3
    have t1 := s2.trans t2
    have t0 := s1.trans t1
    exact ⟨e0, e1, e2, e3, e4, e5, e6, e7, e8, e9, e10, e11, p3, rfl, s0.trans t0, upd_same, x0.same t0, x1.same t1, x2.same t2, x3.same t3, x4.same t4, x5.same t5, x6.same t6, exn_new.same t7, exn_new.same t8, x9.same t9, x10.same t10, x11.same t11⟩
  clear s0 x0 s1 x1 s2 x2 s3 x3 s4 x4 s5 x5 s6 x6 n7 hp1
  rintro _ H2 ⟨e0, e1, e2, e3, e4, e5, e6, e7, e8, e9, e10, e11, p3, rfl, sm, hL, y0, y1, y2, y3, y4, y5, y6, y7, y8, y9, y10, y11⟩
  have hex : ∀ (i : Nat) (v : V), ([.ref e0, .ref e1, .ref e2, .ref e3, .ref e4, .ref e5, .ref e6, .ref e7, .ref e8, .ref e9, .ref e10, .ref e11] : List V)[i]? = some v →
      ∃ e c, v = .ref e ∧ [c_NoHead, c_NoProgram, c_NoText, c_NoStock, c_NoAnswer, c_NoInputs, c_Clash, c_NoRow, c_NoQuestion, c_NoDoer, c_NotKept, c_NoName][i]? = some c ∧ Exn H2 e c := fun i v h => by
    match i, h with
    | 0, h => cases h; exact ⟨_, _, rfl, rfl, y0.exn⟩
    | 1, h => cases h; exact ⟨_, _, rfl, rfl, y1.exn⟩
    | 2, h => cases h; exact ⟨_, _, rfl, rfl, y2.exn⟩
    | 3, h => cases h; exact ⟨_, _, rfl, rfl, y3.exn⟩
    | 4, h => cases h; exact ⟨_, _, rfl, rfl, y4.exn⟩
    | 5, h => cases h; exact ⟨_, _, rfl, rfl, y5.exn⟩
    | 6, h => cases h; exact ⟨_, _, rfl, rfl, y6.exn⟩
    | 7, h => cases h; exact ⟨_, _, rfl, rfl, y7⟩
    | 8, h => cases h; exact ⟨_, _, rfl, rfl, y8⟩
    | 9, h => cases h; exact ⟨_, _, rfl, rfl, y9.exn⟩
    | 10, h => cases h; exact ⟨_, _, rfl, rfl, y10.exn⟩
    | 11, h => cases h; exact ⟨_, _, rfl, rfl, y11.exn⟩
    | n + 12, h => cases h
  refine ⟨_, rfl, p3, _, rfl, SqL.of hL, for_enumL (K := K) (xs := [.ref e0, .ref e1, .ref e2, .ref e3, .ref e4, .ref e5, .ref e6, .ref e7, .ref e8, .ref e9, .ref e10, .ref e11])
    (fun i σ H' => (∃ z6 z7 z10 : Option V, σ = [some (.ref f), some va, some vb, some vc, some vd, some (.ref p3), z6, z7, none, none, z10]) ∧ Same H2 H') ?_ ?_ ?_ ?_⟩
  · exact ⟨⟨_, _, _, rfl⟩, Same.refl _⟩
  · rintro i σ H' ⟨_, s'⟩
    exact SqL.of (s' _ _ hL)
  · rintro i x _ H' T hi ⟨⟨z6, z7, z10, rfl⟩, s'⟩ hT
    obtain ⟨e, c, rfl, hc, hx⟩ := hex i x hi
    have sT := s'.trans (same_new (o := .tup [.int (i : Nat), .ref e]) hT)
    refine ⟨T, [_, _], rfl, .inl (.inl upd_same), rfl, _, [_], rfl, _, [], rfl, rfl, ?_⟩
    refine ⟨_, rfl, e, c, i, rfl, hc, hx.same sT, fun q1 H3 s3 hq1 => ?_⟩
    have s4 := sT.trans s3
    refine ⟨12, rfl, by decide, by decide, fun L nL => lc_range (lo := 0) (n := 12) (fun j H' => Same H3 H' ∧ H' L = some (.lst ((List.range j).map fun k => V.bl (decide (k = i))))) ?_ ?_ ?_⟩
    · exact ⟨same_new nL, upd_same⟩
    · rintro j H' hj ⟨s5, hA⟩
      have ej : decide (V.int (0 + (j : Int)) = V.int (i : Int)) = decide (j = i) := decide_eq_decide.mpr ⟨fun z => by injection z with z; omega, fun z => by rw [z, Int.zero_add]⟩
      refine ⟨rfl, _, rfl, _, rfl, rfl, _, hA, by rw [List.length_map, List.length_range]; exact smallL (by omega), ?_⟩
      rw [ej]
      refine ⟨fun b o e => ?_, ?_⟩
      · rw [upd_ne (ne_of_none e nL)]
        exact s5 b o e
      · rw [upd_same, List.range_succ, List.map_append]
        rfl
    · rintro H5 ⟨s5, hA⟩
      have em : (List.range 12).map (fun k => V.bl (decide (k = i))) = ((List.range 12).map (fun k => decide (k = i))).map V.bl := by rw [List.map_map]; rfl
      have hA' : SqL K H5 L (((List.range 12).map (fun k => decide (k = i))).map V.bl) := by rw [← em]; exact SqL.of hA
      have hq' : SqL K H5 q1 (((List.range 12).map (fun k => decide (k = i))).map V.bl) := by rw [← em]; exact SqL.of (s5 _ _ hq1)
      refine ne_bls hq' hA' ⟨_, rfl, iteF ?_⟩
      have s6 := s4.trans s5
      refine ⟨_, rfl, e, c, i, rfl, hc, hx.same s6, fun q2 H6 s7 hq2 => ⟨_, rfl, i, rfl, fun q3 hq3 => ?_⟩⟩
      refine ne_bls (bs := basV i) (SqL.of ((same_new hq3) _ _ hq2)) (SqL.of upd_same) ⟨_, rfl, iteF ?_⟩
      exact ⟨⟨_, _, _, rfl⟩, (s6.trans s7).trans (same_new hq3)⟩
  rintro _ H3 ⟨⟨z6, z7, z10, rfl⟩, s3⟩
  obtain ⟨d0, a0, b0⟩ := y0.same s3
  obtain ⟨d1, a1, b1⟩ := y1.same s3
  obtain ⟨d2, a2, b2⟩ := y2.same s3
  obtain ⟨d3, a3, b3⟩ := y3.same s3
  obtain ⟨d4, a4, b4⟩ := y4.same s3
  obtain ⟨d5, a5, b5⟩ := y5.same s3
  obtain ⟨d6, a6, b6⟩ := y6.same s3
  obtain ⟨d9, a9, b9⟩ := y9.same s3
  obtain ⟨d10, a10, b10⟩ := y10.same s3
  obtain ⟨d11, a11, b11⟩ := y11.same s3
  have hL3 := s3 _ _ hL
  have s3H : Same H1 H3 := sm.trans s3
  have I3 : Same H3 H3 := Same.refl _
  clear y7 y8 hex hL s3
  refine ⟨_, rfl, p3, _, 0, .ref e0, rfl, rfl, SqL.of hL3, rfl, e0, _, d0, _, va, rfl, R_NoHead.f, R_NoHead.fld _ (by simp), I3 _ _ a0, I3 _ _ b0, rfl, _, rfl, p3, _, 0, .ref e0, rfl, rfl, SqL.of hL3, rfl, e0, _, d0, _, vb, rfl, R_NoHead.f, R_NoHead.fld _ (by simp), I3 _ _ a0, I3 _ _ b0, rfl, _, rfl, p3, _, 1, .ref e1, rfl, rfl, SqL.of hL3, rfl, e1, _, d1, _, vc, rfl, R_NoProgram.f, R_NoProgram.fld _ (by simp), I3 _ _ a1, I3 _ _ b1, rfl, _, rfl, p3, _, 1, .ref e1, rfl, rfl, SqL.of hL3, rfl, e1, _, d1, _, vd, rfl, R_NoProgram.f, R_NoProgram.fld _ (by simp), I3 _ _ a1, I3 _ _ b1, rfl, _, rfl, p3, _, 2, .ref e2, rfl, rfl, SqL.of hL3, rfl, e2, _, d2, _, va, rfl, R_NoText.f, R_NoText.fld _ (by simp), I3 _ _ a2, I3 _ _ b2, rfl, _, rfl, p3, _, 3, .ref e3, rfl, rfl, SqL.of hL3, rfl, e3, _, d3, _, vb, rfl, R_NoStock.f, R_NoStock.fld _ (by simp), I3 _ _ a3, I3 _ _ b3, rfl, _, rfl, p3, _, 3, .ref e3, rfl, rfl, SqL.of hL3, rfl, e3, _, d3, _, vc, rfl, R_NoStock.f, R_NoStock.fld _ (by simp), I3 _ _ a3, I3 _ _ b3, rfl, (by show 7 ≤ sizeLine; decide), fun p4 hp4 => ?_⟩
  have s5 := same_new (o := .lst [va, vb, vc, vd, va, vb, vc]) hp4
  refine ⟨_, rfl, _, rfl, p3, _, 4, .ref e4, rfl, rfl, SqL.of (s5 _ _ hL3), rfl, e4, _, d4, _, vd, rfl, R_NoAnswer.f, R_NoAnswer.fld _ (by simp), s5 _ _ a4, s5 _ _ b4, rfl, _, rfl, p3, _, 5, .ref e5, rfl, rfl, SqL.of (s5 _ _ hL3), rfl, e5, _, d5, _, va, rfl, R_NoInputs.f, R_NoInputs.fld _ (by simp), s5 _ _ a5, s5 _ _ b5, rfl, _, rfl, p3, _, 6, .ref e6, rfl, rfl, SqL.of (s5 _ _ hL3), rfl, e6, _, d6, _, vb, rfl, R_Clash.f, R_Clash.fld _ (by simp), s5 _ _ a6, s5 _ _ b6, rfl, _, rfl, p3, _, 6, .ref e6, rfl, rfl, SqL.of (s5 _ _ hL3), rfl, e6, _, d6, _, vd, rfl, R_Clash.f, R_Clash.fld _ (by simp), s5 _ _ a6, s5 _ _ b6, rfl, _, rfl, p3, _, 9, .ref e9, rfl, rfl, SqL.of (s5 _ _ hL3), rfl, e9, _, d9, _, vc, rfl, R_NoDoer.f, R_NoDoer.fld _ (by simp), s5 _ _ a9, s5 _ _ b9, rfl, _, rfl, p3, _, 10, .ref e10, rfl, rfl, SqL.of (s5 _ _ hL3), rfl, e10, _, d10, _, vb, rfl, R_NotKept.f, R_NotKept.fld _ (by simp), s5 _ _ a10, s5 _ _ b10, rfl, (by show 6 ≤ sizeLine; decide), fun p5 hp5 => ?_⟩
  have s6 := same_new (o := .lst [vd, va, vb, vd, vc, vb]) hp5
  refine ⟨p4, p5, _, _, rfl, rfl, s6 _ _ upd_same, upd_same, (by show 13 ≤ sizeLine; decide), fun p6 hp6 => ?_⟩
  have s7 := (s5.trans s6).trans (same_new (o := .lst ([va, vb, vc, vd, va, vb, vc] ++ [vd, va, vb, vd, vc, vb])) hp6)
  refine ⟨fun σ' H' => ∃ z8 : Option V, σ' = [some (.ref f), some va, some vb, some vc, some vd, some (.ref p3), z6, z7, z8, none, z10] ∧ Same H3 H', ?_, ?_⟩
  · refine ⟨_, rfl, _, rfl, p3, _, 11, .ref e11, rfl, rfl, SqL.of (s7 _ _ hL3), rfl, e11, _, d11, _, vd, rfl, R_NoName.f, R_NoName.fld _ (by simp), s7 _ _ a11, s7 _ _ b11, rfl, (by show 1 ≤ sizeLine; decide), fun p7 hp7 => ?_⟩
    have s8 := same_new (o := .lst [vd]) hp7
    refine ⟨p6, p7, _, _, rfl, rfl, s8 _ _ upd_same, upd_same, (by show 14 ≤ sizeLine; decide), fun p8 hp8 => ?_⟩
    have s9 := same_new (o := .lst (([va, vb, vc, vd, va, vb, vc] ++ [vd, va, vb, vd, vc, vb]) ++ [vd])) hp8
    refine ⟨p8, _, rfl, .inl ⟨SqL.of upd_same, fun t1 ht1 => ?_⟩⟩
    have s10 := same_new (o := .tup (([va, vb, vc, vd, va, vb, vc] ++ [vd, va, vb, vd, vc, vb]) ++ [vd])) ht1
    refine ⟨_, rfl, _, rfl, _, rfl, _, rfl, _, rfl, _, rfl, _, rfl, _, rfl, _, rfl, _, rfl, _, rfl, _, rfl, _, rfl, _, rfl, (by show 14 ≤ sizeLine; decide), fun t2 ht2 => ?_⟩
    have s11 := same_new (o := .tup [va, vb, vc, vd, va, vb, vc, vd, va, vb, vd, vc, vb, vd]) ht2
    have sA := (((s7.trans s8).trans s9).trans s10).trans s11
    have sB := s3H.trans sA
    refine ⟨.ref t1, .ref t2, .tuple [da', db', dc', dd', da', db', dc', dd', da', db', dd', dc', db', dd'], rfl, .tup (.inl (.inl (s11 _ _ upd_same))) (.cons (dp_same sB _ _ ka) (.cons (dp_same sB _ _ kb) (.cons (dp_same sB _ _ kc) (.cons (dp_same sB _ _ kd) (.cons (dp_same sB _ _ ka) (.cons (dp_same sB _ _ kb) (.cons (dp_same sB _ _ kc) (.cons (dp_same sB _ _ kd) (.cons (dp_same sB _ _ ka) (.cons (dp_same sB _ _ kb) (.cons (dp_same sB _ _ kd) (.cons (dp_same sB _ _ kc) (.cons (dp_same sB _ _ kb) (.cons (dp_same sB _ _ kd) .nil)))))))))))))), .tup (.inl (.inl upd_same)) (.cons (dp_same sB _ _ ka) (.cons (dp_same sB _ _ kb) (.cons (dp_same sB _ _ kc) (.cons (dp_same sB _ _ kd) (.cons (dp_same sB _ _ ka) (.cons (dp_same sB _ _ kb) (.cons (dp_same sB _ _ kc) (.cons (dp_same sB _ _ kd) (.cons (dp_same sB _ _ ka) (.cons (dp_same sB _ _ kb) (.cons (dp_same sB _ _ kd) (.cons (dp_same sB _ _ kc) (.cons (dp_same sB _ _ kb) (.cons (dp_same sB _ _ kd) .nil)))))))))))))), ?_, ?_, fun H' s' => ?_⟩
    · simp [nic, nic.nics, na, nb, nc, nd]
    · simp only [dsz, dsz.dszs]
      omega
    · exact ⟨_, rfl, iteF ⟨_, rfl, sA.trans s'⟩⟩
  rintro _ H4 ⟨z8, rfl, s4⟩
  refine ⟨_, rfl, _, rfl, rfl, (mkv2 (x := vc) (y := va) fun g0 h0 m0 x0 => ⟨_, rfl, _, rfl, rfl, (mkv2 (x := vd) (y := va) fun g1 h1 m1 x1 => ⟨_, rfl, _, rfl, rfl, (mkv2 (x := vc) (y := va) fun g2 h2 m2 x2 => ⟨_, rfl, rfl, (mkv1 (x := vb) fun g3 h3 m3 x3 => ⟨(by show 4 ≤ sizeLine; decide), fun p9 hp9 => ?_⟩).2⟩).2⟩).2⟩).2⟩
  have w3 := same_new (o := .lst [.ref g0, .ref g1, .ref g2, .ref g3]) hp9
  have w2 := m3.trans w3
  have w1 := m2.trans w2
  have w0 := m1.trans w1
  have wA := m0.trans w0
  obtain ⟨j0, u0, v0⟩ := x0.same w0
  obtain ⟨j1, u1, v1⟩ := x1.same w1
  obtain ⟨j2, u2, v2⟩ := x2.same w2
  obtain ⟨j3, u3, v3⟩ := x3.same w3
  refine ⟨_, rfl, p9, _, 0, .ref g0, rfl, rfl, SqL.of upd_same, rfl, g0, _, j0, _, vc, rfl, R_NoHead.f, R_NoHead.fld _ (by simp), u0, v0, rfl, _, rfl, p9, _, 0, .ref g0, rfl, rfl, SqL.of upd_same, rfl, g0, _, j0, _, va, rfl, R_NoHead.f, R_NoHead.fld _ (by simp), u0, v0, rfl, _, rfl, p9, _, 1, .ref g1, rfl, rfl, SqL.of upd_same, rfl, g1, _, j1, _, vd, rfl, R_NoStock.f, R_NoStock.fld _ (by simp), u1, v1, rfl, _, rfl, p9, _, 1, .ref g1, rfl, rfl, SqL.of upd_same, rfl, g1, _, j1, _, va, rfl, R_NoStock.f, R_NoStock.fld _ (by simp), u1, v1, rfl, _, rfl, p9, _, 2, .ref g2, rfl, rfl, SqL.of upd_same, rfl, g2, _, j2, _, vc, rfl, R_Clash.f, R_Clash.fld _ (by simp), u2, v2, rfl, _, rfl, p9, _, 2, .ref g2, rfl, rfl, SqL.of upd_same, rfl, g2, _, j2, _, va, rfl, R_Clash.f, R_Clash.fld _ (by simp), u2, v2, rfl, _, rfl, p9, _, 3, .ref g3, rfl, rfl, SqL.of upd_same, rfl, g3, _, j3, _, vb, rfl, R_NoDoer.f, R_NoDoer.fld _ (by simp), u3, v3, rfl, (by show 7 ≤ sizeLine; decide), fun q0 hq0 => ?_⟩
  have w4 := same_new (o := .lst [vc, va, vd, va, vc, va, vb]) hq0
  refine ⟨_, rfl, q0, _, rfl, .inl ⟨SqL.of upd_same, fun t1 ht1 => ?_⟩⟩
  have w5 := same_new (o := .tup [vc, va, vd, va, vc, va, vb]) ht1
  refine ⟨_, rfl, _, rfl, _, rfl, _, rfl, _, rfl, _, rfl, _, rfl, (by show 7 ≤ sizeLine; decide), fun t2 ht2 => ?_⟩
  have w6 := same_new (o := .tup [vc, va, vd, va, vc, va, vb]) ht2
  have wB := s3H.trans (s4.trans (((wA.trans w4).trans w5).trans w6))
  refine ⟨.ref t1, .ref t2, .tuple [dc', da', dd', da', dc', da', db'], rfl, .tup (.inl (.inl (w6 _ _ upd_same))) (.cons (dp_same wB _ _ kc) (.cons (dp_same wB _ _ ka) (.cons (dp_same wB _ _ kd) (.cons (dp_same wB _ _ ka) (.cons (dp_same wB _ _ kc) (.cons (dp_same wB _ _ ka) (.cons (dp_same wB _ _ kb) .nil))))))), .tup (.inl (.inl upd_same)) (.cons (dp_same wB _ _ kc) (.cons (dp_same wB _ _ ka) (.cons (dp_same wB _ _ kd) (.cons (dp_same wB _ _ ka) (.cons (dp_same wB _ _ kc) (.cons (dp_same wB _ _ ka) (.cons (dp_same wB _ _ kb) .nil))))))), ?_, ?_, fun H' s' => ?_⟩
  · simp [nic, nic.nics, na, nb, nc, nd]
  · simp only [dsz, dsz.dszs]
    omega
  · exact q H' (gr1.trans (Gr.same gr1.fl (wB.trans s')))
end
end Lm

set_option Elab.async false
set_option linter.all false
set_option maxRecDepth 100000
set_option maxHeartbeats 2000000
set_option pp.maxSteps 20000
set_option pp.deepTerms true
namespace Lm
open PySem PySem.Spec PyProof.Rows L2 LmR
section
variable {P : Program} {w : World} {K : PySem.W.Frag} {mg : Str → Option Value} {base : Heap}
abbrev s_law : Stmt := topS 24
theorem sc_law : FnScope ["_law_script", "_law_k"] ["_law_script"] (defScope s_law) := ⟨rfl, rfl, rfl, by decide +kernel, rfl, by decide +kernel, by decide +kernel⟩
def spLaw (K : PySem.W.Frag) : Sp := fun vs H Q _ => ∃ (a : Addr) (ns : List Int), vs = [.ref a] ∧ SqL K H a (ns.map V.int) ∧ ns.length ≤ 63 ∧ ∀ H', Q (.bl true) H'
theorem ok_law (B : Bt mg) (C_l_flow : Cal P w K mg base 2 "_law_flow" ["_law_script", "_law_k"] (spFlow K)) (C_l_right : Cal P w K mg base 4 "_law_right" ["_law_flow_here"] (spRight K)) {f : Addr} {fd : FuncData} (F : Fun K "law" "law" s_law f fd) : FnOk P w K mg base CX0 5 f fd ["_law_script"] (spLaw K) := by
  refine F.ok sc_law (fun vs H Q E h => ?_) (fun cdv A outer s H vs Q E hr h => ?_)
  · obtain ⟨a, ns, rfl, _⟩ := h
    rfl
  obtain ⟨a, ns, rfl, hS, h63, q⟩ := h
  have hr' : Room 4 _ := hr
  have C_l_flow := C_l_flow.mono (k := 4) (by decide)
  refine ⟨_, (pss_one (ps_ret (pe_callB (cr_all rfl) (by rfl) B.all PyProof.Rows.boot_all (pa_cons (pe_lc (own := [("_law_k", 1)]) (g := gName 1) rfl sc_law.nd (pi_range1 (by rfl) B.range (pa_cons (pe_callB (call_max2 rfl) (by rfl) B.max PyProof.Rows.boot_max (pa_cons pe_int (pa_cons (pe_callB call_len_seq (by rfl) B.len PySem.boot_len (pa_cons (pe_slice sl_list (pv 0) po_none (po_some pe_int)) pa_nil)) pa_nil))) pa_nil)) (blkOk_by (own := [("_law_k", 1)]) (N := ["_law_script", "_law_k"]) (sc := defScope s_law) (by decide +kernel)) (fun _ _ _ _ _ => (pg_name (i := 1) sc_law.nd rfl (.inl rfl))) (fun _ _ _ _ _ => pts_nil) (fun _ _ _ _ _ => (pe_cal C_l_right hr' (by rfl) (pa_cons (pe_cal C_l_flow hr' (by rfl) (pa_cons (pv 0) (pa_cons (pv 1) pa_nil))) pa_nil)))) pa_nil)))), ?_⟩
  refine ⟨_, rfl, 6, rfl, a, _, rfl, hS, fun l hl => ⟨l, _, rfl, .inl (SqL.of upd_same), 2, _, rfl, ?_⟩⟩
  have s1 := same_new (o := .lst (cutV (ns.map V.int) none (some 6))) hl
  have hc : (cutV (ns.map V.int) none (some 6)).length ≤ 63 := Nat.le_trans (cutV_length _ _ _) (by rw [List.length_map]; exact h63)
  obtain ⟨m, em, m0, m63⟩ : ∃ m : Int, (if (((cutV (ns.map V.int) none (some 6)).length : Nat) : Int) > 2 then (((cutV (ns.map V.int) none (some 6)).length : Nat) : Int) else 2) = m ∧ 0 ≤ m ∧ m ≤ 63 := by
    refine ⟨_, rfl, ?_, ?_⟩
    · split <;> omega
    · split <;> omega
  show ∃ n : Int, [V.int (if (((cutV (ns.map V.int) none (some 6)).length : Nat) : Int) > 2 then (((cutV (ns.map V.int) none (some 6)).length : Nat) : Int) else 2)] = [V.int n] ∧ _
  rw [em]
  have hS1 : SqL K (upd H l (.lst (cutV (ns.map V.int) none (some 6)))) a (ns.map V.int) := s1.seq hS
  generalize upd H l (.lst (cutV (ns.map V.int) none (some 6))) = H1 at hS1
  refine ⟨m, rfl, by omega, by omega, fun D hD => lc_range (lo := 0) (n := m.toNat) (fun i H' => Same H1 H' ∧ H' D = some (.lst ((List.replicate i true).map V.bl))) ?_ ?_ ?_⟩
  · exact ⟨same_new hD, upd_same⟩
  · rintro i H' hi ⟨s2, hA⟩
    refine ⟨rfl, _, rfl, _, rfl, a, ns, _, rfl, s2.seq hS1, by omega, by omega, fun f o hf fl => ⟨f, rfl, fl, fun H3 g3 => ?_⟩⟩
    have nD : D ≠ f := ne_of_none hA hf
    refine ⟨_, g3.at (same_new hf _ _ hA) nD, by rw [List.length_map, List.length_replicate]; exact smallL (by omega), ?_, ?_⟩
    · intro b o' e
      have nb : b ≠ f := ne_of_none (s2 _ _ e) hf
      rw [upd_ne (ne_of_none e hD)]
      exact g3.at (same_new hf _ _ (s2 _ _ e)) nb
    · rw [upd_same, List.replicate_succ', List.map_append]
      rfl
  · rintro H3 ⟨s3, hA⟩
    refine ⟨D, _, rfl, SqL.of hA, ?_⟩
    have e : (List.replicate m.toNat true).all id = true := by simp
    rw [e]
    exact q _
end
end Lm

set_option Elab.async false
set_option linter.all false
set_option maxRecDepth 100000
set_option maxHeartbeats 2000000
namespace Lm
open PySem PySem.Spec PyProof.Rows L2 LmR
theorem defAt_mk {K : PySem.W.Frag} {h : Heap} {mg : Str → Option Value} {x : Str} {st : Stmt} {ps : List Str} {f : Addr} {oc : Value} {od an : Option Addr} {osl : Array (Option Value)} {kV doc pm cdv ct : Value} (X : K.In h) (G : h.Ns mainGlobals mg)
    (a : PySem.W.nsIn K mainGlobals x = some (some (.ref f))) (l : K.lookup f = some ⟨oc, od, .func (PySem.W.fnOf x x (defArgs st) (defBody st) (defScope st) .none kV doc pm an cdv ct), osl⟩) (c : PySem.W.codeIn K cdv x = true) (k : PySem.W.keepIn K (.ref f) = true)
    (hb : ∀ (kV doc pm : Value) (an : Option Addr) (cdv ct : Value) (us : List Value), us.length = ps.length → bindArgs (PySem.W.fnOf x x (defArgs st) (defBody st) (defScope st) .none kV doc pm an cdv ct) ⟨us, []⟩ = pure (ps.zip us)) : DefAt K mg x st ps :=
  ⟨f, _, fun_mk l c k, (fun_mk l c k).binds hb, PySem.W.mg_of X G a⟩
theorem all_mk {l : PySem.W.OpenLaw} {w : World} {K : PySem.W.Frag} {h : Heap} {mg : Str → Option Value} {fa : Addr} (X : K.In h) (G : h.Ns mainGlobals mg) (hfa : mg "law" = some (.ref fa))
    {f0 : Addr} {od0 an0 : Option Addr} {sl0 : Array (Option Value)} {oc0 kV0 dc0 pm0 cd0 ct0 : Value} {f1 : Addr} {od1 an1 : Option Addr} {sl1 : Array (Option Value)} {oc1 kV1 dc1 pm1 cd1 ct1 : Value} {f2 : Addr} {od2 an2 : Option Addr} {sl2 : Array (Option Value)} {oc2 kV2 dc2 pm2 cd2 ct2 : Value} {f3 : Addr} {od3 an3 : Option Addr} {sl3 : Array (Option Value)} {oc3 kV3 dc3 pm3 cd3 ct3 : Value} {f4 : Addr} {od4 an4 : Option Addr} {sl4 : Array (Option Value)} {oc4 kV4 dc4 pm4 cd4 ct4 : Value} {f5 : Addr} {od5 an5 : Option Addr} {sl5 : Array (Option Value)} {oc5 kV5 dc5 pm5 cd5 ct5 : Value} {f6 : Addr} {od6 an6 : Option Addr} {sl6 : Array (Option Value)} {oc6 kV6 dc6 pm6 cd6 ct6 : Value} {f7 : Addr} {od7 an7 : Option Addr} {sl7 : Array (Option Value)} {oc7 kV7 dc7 pm7 cd7 ct7 : Value} {f8 : Addr} {od8 an8 : Option Addr} {sl8 : Array (Option Value)} {oc8 kV8 dc8 pm8 cd8 ct8 : Value} {f9 : Addr} {od9 an9 : Option Addr} {sl9 : Array (Option Value)} {oc9 kV9 dc9 pm9 cd9 ct9 : Value} {c_NoHead c_NoProgram c_NoText c_NoStock c_NoAnswer c_NoInputs c_Clash c_NoRow c_NoQuestion c_NoDoer c_NotKept c_NoName cM : Addr} {i_NoHead : Addr} {od_NoHead an_NoHead : Option Addr} {osl_NoHead : Array (Option Value)} {oc_NoHead kV_NoHead doc_NoHead pm_NoHead cdv_NoHead ct_NoHead : Value} {i_NoProgram : Addr} {od_NoProgram an_NoProgram : Option Addr} {osl_NoProgram : Array (Option Value)} {oc_NoProgram kV_NoProgram doc_NoProgram pm_NoProgram cdv_NoProgram ct_NoProgram : Value} {i_NoText : Addr} {od_NoText an_NoText : Option Addr} {osl_NoText : Array (Option Value)} {oc_NoText kV_NoText doc_NoText pm_NoText cdv_NoText ct_NoText : Value} {i_NoStock : Addr} {od_NoStock an_NoStock : Option Addr} {osl_NoStock : Array (Option Value)} {oc_NoStock kV_NoStock doc_NoStock pm_NoStock cdv_NoStock ct_NoStock : Value} {i_NoAnswer : Addr} {od_NoAnswer an_NoAnswer : Option Addr} {osl_NoAnswer : Array (Option Value)} {oc_NoAnswer kV_NoAnswer doc_NoAnswer pm_NoAnswer cdv_NoAnswer ct_NoAnswer : Value} {i_NoInputs : Addr} {od_NoInputs an_NoInputs : Option Addr} {osl_NoInputs : Array (Option Value)} {oc_NoInputs kV_NoInputs doc_NoInputs pm_NoInputs cdv_NoInputs ct_NoInputs : Value} {i_Clash : Addr} {od_Clash an_Clash : Option Addr} {osl_Clash : Array (Option Value)} {oc_Clash kV_Clash doc_Clash pm_Clash cdv_Clash ct_Clash : Value} {i_NoDoer : Addr} {od_NoDoer an_NoDoer : Option Addr} {osl_NoDoer : Array (Option Value)} {oc_NoDoer kV_NoDoer doc_NoDoer pm_NoDoer cdv_NoDoer ct_NoDoer : Value} {i_NotKept : Addr} {od_NotKept an_NotKept : Option Addr} {osl_NotKept : Array (Option Value)} {oc_NotKept kV_NotKept doc_NotKept pm_NotKept cdv_NotKept ct_NotKept : Value} {i_NoName : Addr} {od_NoName an_NoName : Option Addr} {osl_NoName : Array (Option Value)} {oc_NoName kV_NoName doc_NoName pm_NoName cdv_NoName ct_NoName : Value}
    (a0 : PySem.W.nsIn K mainGlobals "_law_cell" = some (some (.ref f0))) (l0 : K.lookup f0 = some ⟨oc0, od0, .func (PySem.W.fnOf "_law_cell" "_law_cell" (defArgs s_l_cell) (defBody s_l_cell) (defScope s_l_cell) .none kV0 dc0 pm0 an0 cd0 ct0), sl0⟩) (c0 : PySem.W.codeIn K cd0 "_law_cell" = true) (k0 : PySem.W.keepIn K (.ref f0) = true)
    (a1 : PySem.W.nsIn K mainGlobals "_law_flow" = some (some (.ref f1))) (l1 : K.lookup f1 = some ⟨oc1, od1, .func (PySem.W.fnOf "_law_flow" "_law_flow" (defArgs s_l_flow) (defBody s_l_flow) (defScope s_l_flow) .none kV1 dc1 pm1 an1 cd1 ct1), sl1⟩) (c1 : PySem.W.codeIn K cd1 "_law_flow" = true) (k1 : PySem.W.keepIn K (.ref f1) = true)
    (a2 : PySem.W.nsIn K mainGlobals "_law_draw" = some (some (.ref f2))) (l2 : K.lookup f2 = some ⟨oc2, od2, .func (PySem.W.fnOf "_law_draw" "_law_draw" (defArgs s_l_draw) (defBody s_l_draw) (defScope s_l_draw) .none kV2 dc2 pm2 an2 cd2 ct2), sl2⟩) (c2 : PySem.W.codeIn K cd2 "_law_draw" = true) (k2 : PySem.W.keepIn K (.ref f2) = true)
    (a3 : PySem.W.nsIn K mainGlobals "_law_alike" = some (some (.ref f3))) (l3 : K.lookup f3 = some ⟨oc3, od3, .func (PySem.W.fnOf "_law_alike" "_law_alike" (defArgs s_l_alike) (defBody s_l_alike) (defScope s_l_alike) .none kV3 dc3 pm3 an3 cd3 ct3), sl3⟩) (c3 : PySem.W.codeIn K cd3 "_law_alike" = true) (k3 : PySem.W.keepIn K (.ref f3) = true)
    (a4 : PySem.W.nsIn K mainGlobals "_law_sorts" = some (some (.ref f4))) (l4 : K.lookup f4 = some ⟨oc4, od4, .func (PySem.W.fnOf "_law_sorts" "_law_sorts" (defArgs s_l_sorts) (defBody s_l_sorts) (defScope s_l_sorts) .none kV4 dc4 pm4 an4 cd4 ct4), sl4⟩) (c4 : PySem.W.codeIn K cd4 "_law_sorts" = true) (k4 : PySem.W.keepIn K (.ref f4) = true)
    (a5 : PySem.W.nsIn K mainGlobals "_law_thing" = some (some (.ref f5))) (l5 : K.lookup f5 = some ⟨oc5, od5, .func (PySem.W.fnOf "_law_thing" "_law_thing" (defArgs s_l_thing) (defBody s_l_thing) (defScope s_l_thing) .none kV5 dc5 pm5 an5 cd5 ct5), sl5⟩) (c5 : PySem.W.codeIn K cd5 "_law_thing" = true) (k5 : PySem.W.keepIn K (.ref f5) = true)
    (a6 : PySem.W.nsIn K mainGlobals "_law_bases" = some (some (.ref f6))) (l6 : K.lookup f6 = some ⟨oc6, od6, .func (PySem.W.fnOf "_law_bases" "_law_bases" (defArgs s_l_bases) (defBody s_l_bases) (defScope s_l_bases) .none kV6 dc6 pm6 an6 cd6 ct6), sl6⟩) (c6 : PySem.W.codeIn K cd6 "_law_bases" = true) (k6 : PySem.W.keepIn K (.ref f6) = true)
    (a7 : PySem.W.nsIn K mainGlobals "_law_bases_due" = some (some (.ref f7))) (l7 : K.lookup f7 = some ⟨oc7, od7, .func (PySem.W.fnOf "_law_bases_due" "_law_bases_due" (defArgs s_l_bases_due) (defBody s_l_bases_due) (defScope s_l_bases_due) .none kV7 dc7 pm7 an7 cd7 ct7), sl7⟩) (c7 : PySem.W.codeIn K cd7 "_law_bases_due" = true) (k7 : PySem.W.keepIn K (.ref f7) = true)
    (a8 : PySem.W.nsIn K mainGlobals "_law_right" = some (some (.ref f8))) (l8 : K.lookup f8 = some ⟨oc8, od8, .func (PySem.W.fnOf "_law_right" "_law_right" (defArgs s_l_right) (defBody s_l_right) (defScope s_l_right) .none kV8 dc8 pm8 an8 cd8 ct8), sl8⟩) (c8 : PySem.W.codeIn K cd8 "_law_right" = true) (k8 : PySem.W.keepIn K (.ref f8) = true)
    (a9 : PySem.W.nsIn K mainGlobals "law" = some (some (.ref f9))) (l9 : K.lookup f9 = some ⟨oc9, od9, .func (PySem.W.fnOf "law" "law" (defArgs s_law) (defBody s_law) (defScope s_law) .none kV9 dc9 pm9 an9 cd9 ct9), sl9⟩) (c9 : PySem.W.codeIn K cd9 "law" = true) (k9 : PySem.W.keepIn K (.ref f9) = true)
    (z0 : PySem.W.nsIn K mainGlobals "len" = some none)
    (z1 : PySem.W.nsIn K mainGlobals "isinstance" = some none)
    (z2 : PySem.W.nsIn K mainGlobals "tuple" = some none)
    (z3 : PySem.W.nsIn K mainGlobals "list" = some none)
    (z4 : PySem.W.nsIn K mainGlobals "str" = some none)
    (z5 : PySem.W.nsIn K mainGlobals "int" = some none)
    (z6 : PySem.W.nsIn K mainGlobals "bool" = some none)
    (z7 : PySem.W.nsIn K mainGlobals "range" = some none)
    (z8 : PySem.W.nsIn K mainGlobals "zip" = some none)
    (z9 : PySem.W.nsIn K mainGlobals "enumerate" = some none)
    (z10 : PySem.W.nsIn K mainGlobals "reversed" = some none)
    (z11 : PySem.W.nsIn K mainGlobals "max" = some none)
    (z12 : PySem.W.nsIn K mainGlobals "all" = some none)
    (z13 : PySem.W.nsIn K mainGlobals "min" = some none)
    (z14 : PySem.W.nsIn K mainGlobals "sum" = some none)
    (z15 : PySem.W.nsIn K mainGlobals "any" = some none)
    (z16 : PySem.W.nsIn K mainGlobals "sorted" = some none)
    (z17 : PySem.W.nsIn K mainGlobals "set" = some none)
    (z18 : PySem.W.nsIn K mainGlobals "repr" = some none)
    (z19 : PySem.W.nsIn K mainGlobals "abs" = some none)
    (a_NoHead : PySem.W.nsIn K mainGlobals "NoHead" = some (some (.ref c_NoHead)))
    (ga_NoHead : PySem.W.findIn K (.ref c_NoHead) "__getattribute__" = some (some (.builtin "BaseException.__getattribute__")))
    (gg_NoHead : PySem.W.findIn K (.ref c_NoHead) "__getattr__" = some none)
    (ca_NoHead : PySem.W.findIn K (.ref c_NoHead) "__class__" = some (some (.builtin "object.__class__")))
    (ex_NoHead : PySem.W.subIn K (.ref c_NoHead) (.type "BaseException") = some true)
    (is_NoHead : PySem.W.isClsIn K c_NoHead = true)
    (gn_NoHead : PySem.W.specialIn K (.builtin "object.__class__") "__get__" = some (some (.builtin "getset_descriptor.__get__")))
    (tk_NoHead : PySem.W.takesIn K (.builtin "object.__class__") = some true)
    (ob_NoHead : PySem.W.mroIn K c_NoHead (.type "object") = some true)
    (kc_NoHead : PySem.W.keepIn K (.ref c_NoHead) = true)
    (iv_NoHead : PySem.W.findIn K (.ref c_NoHead) "__init__" = some (some (.ref i_NoHead)))
    (lv_NoHead : K.lookup i_NoHead = some ⟨oc_NoHead, od_NoHead, .func (PySem.W.fnOf "__init__" "NoHead.__init__" (defArgs s_NoHead) (defBody s_NoHead) (defScope s_NoHead) .none kV_NoHead doc_NoHead pm_NoHead an_NoHead cdv_NoHead ct_NoHead), osl_NoHead⟩)
    (cv_NoHead : PySem.W.codeIn K cdv_NoHead "NoHead.__init__" = true)
    (kf_NoHead : PySem.W.keepIn K (.ref i_NoHead) = true)
    (tv_NoHead : PySem.W.typeIn K (.ref i_NoHead) = some (.type "function"))
    (hd_NoHead : PySem.W.hasDictIn K c_NoHead = true)
    (sa_NoHead : PySem.W.findIn K (.ref c_NoHead) "__setattr__" = some (some (.builtin "object.__setattr__")))
    (DKq_NoHead : PySem.W.excInitIn K c_NoHead HandSPX.veTail "ValueError.__new__" = true)
    (DKo_NoHead : PySem.W.excOver K c_NoHead HandSPX.veTail = true)
    (f0_NoHead : PySem.W.findIn K (.ref c_NoHead) "word" = some none)
    (f1_NoHead : PySem.W.findIn K (.ref c_NoHead) "at" = some none)
    (a_NoProgram : PySem.W.nsIn K mainGlobals "NoProgram" = some (some (.ref c_NoProgram)))
    (ga_NoProgram : PySem.W.findIn K (.ref c_NoProgram) "__getattribute__" = some (some (.builtin "BaseException.__getattribute__")))
    (gg_NoProgram : PySem.W.findIn K (.ref c_NoProgram) "__getattr__" = some none)
    (ca_NoProgram : PySem.W.findIn K (.ref c_NoProgram) "__class__" = some (some (.builtin "object.__class__")))
    (ex_NoProgram : PySem.W.subIn K (.ref c_NoProgram) (.type "BaseException") = some true)
    (is_NoProgram : PySem.W.isClsIn K c_NoProgram = true)
    (gn_NoProgram : PySem.W.specialIn K (.builtin "object.__class__") "__get__" = some (some (.builtin "getset_descriptor.__get__")))
    (tk_NoProgram : PySem.W.takesIn K (.builtin "object.__class__") = some true)
    (ob_NoProgram : PySem.W.mroIn K c_NoProgram (.type "object") = some true)
    (kc_NoProgram : PySem.W.keepIn K (.ref c_NoProgram) = true)
    (iv_NoProgram : PySem.W.findIn K (.ref c_NoProgram) "__init__" = some (some (.ref i_NoProgram)))
    (lv_NoProgram : K.lookup i_NoProgram = some ⟨oc_NoProgram, od_NoProgram, .func (PySem.W.fnOf "__init__" "NoProgram.__init__" (defArgs s_NoProgram) (defBody s_NoProgram) (defScope s_NoProgram) .none kV_NoProgram doc_NoProgram pm_NoProgram an_NoProgram cdv_NoProgram ct_NoProgram), osl_NoProgram⟩)
    (cv_NoProgram : PySem.W.codeIn K cdv_NoProgram "NoProgram.__init__" = true)
    (kf_NoProgram : PySem.W.keepIn K (.ref i_NoProgram) = true)
    (tv_NoProgram : PySem.W.typeIn K (.ref i_NoProgram) = some (.type "function"))
    (hd_NoProgram : PySem.W.hasDictIn K c_NoProgram = true)
    (sa_NoProgram : PySem.W.findIn K (.ref c_NoProgram) "__setattr__" = some (some (.builtin "object.__setattr__")))
    (DKq_NoProgram : PySem.W.excInitIn K c_NoProgram HandSPX.veTail "ValueError.__new__" = true)
    (DKo_NoProgram : PySem.W.excOver K c_NoProgram HandSPX.veTail = true)
    (f0_NoProgram : PySem.W.findIn K (.ref c_NoProgram) "word" = some none)
    (f1_NoProgram : PySem.W.findIn K (.ref c_NoProgram) "at" = some none)
    (a_NoText : PySem.W.nsIn K mainGlobals "NoText" = some (some (.ref c_NoText)))
    (ga_NoText : PySem.W.findIn K (.ref c_NoText) "__getattribute__" = some (some (.builtin "BaseException.__getattribute__")))
    (gg_NoText : PySem.W.findIn K (.ref c_NoText) "__getattr__" = some none)
    (ca_NoText : PySem.W.findIn K (.ref c_NoText) "__class__" = some (some (.builtin "object.__class__")))
    (ex_NoText : PySem.W.subIn K (.ref c_NoText) (.type "BaseException") = some true)
    (is_NoText : PySem.W.isClsIn K c_NoText = true)
    (gn_NoText : PySem.W.specialIn K (.builtin "object.__class__") "__get__" = some (some (.builtin "getset_descriptor.__get__")))
    (tk_NoText : PySem.W.takesIn K (.builtin "object.__class__") = some true)
    (ob_NoText : PySem.W.mroIn K c_NoText (.type "object") = some true)
    (kc_NoText : PySem.W.keepIn K (.ref c_NoText) = true)
    (iv_NoText : PySem.W.findIn K (.ref c_NoText) "__init__" = some (some (.ref i_NoText)))
    (lv_NoText : K.lookup i_NoText = some ⟨oc_NoText, od_NoText, .func (PySem.W.fnOf "__init__" "NoText.__init__" (defArgs s_NoText) (defBody s_NoText) (defScope s_NoText) .none kV_NoText doc_NoText pm_NoText an_NoText cdv_NoText ct_NoText), osl_NoText⟩)
    (cv_NoText : PySem.W.codeIn K cdv_NoText "NoText.__init__" = true)
    (kf_NoText : PySem.W.keepIn K (.ref i_NoText) = true)
    (tv_NoText : PySem.W.typeIn K (.ref i_NoText) = some (.type "function"))
    (hd_NoText : PySem.W.hasDictIn K c_NoText = true)
    (sa_NoText : PySem.W.findIn K (.ref c_NoText) "__setattr__" = some (some (.builtin "object.__setattr__")))
    (DKq_NoText : PySem.W.excInitIn K c_NoText HandSPX.veTail "ValueError.__new__" = true)
    (DKo_NoText : PySem.W.excOver K c_NoText HandSPX.veTail = true)
    (f0_NoText : PySem.W.findIn K (.ref c_NoText) "at" = some none)
    (a_NoStock : PySem.W.nsIn K mainGlobals "NoStock" = some (some (.ref c_NoStock)))
    (ga_NoStock : PySem.W.findIn K (.ref c_NoStock) "__getattribute__" = some (some (.builtin "BaseException.__getattribute__")))
    (gg_NoStock : PySem.W.findIn K (.ref c_NoStock) "__getattr__" = some none)
    (ca_NoStock : PySem.W.findIn K (.ref c_NoStock) "__class__" = some (some (.builtin "object.__class__")))
    (ex_NoStock : PySem.W.subIn K (.ref c_NoStock) (.type "BaseException") = some true)
    (is_NoStock : PySem.W.isClsIn K c_NoStock = true)
    (gn_NoStock : PySem.W.specialIn K (.builtin "object.__class__") "__get__" = some (some (.builtin "getset_descriptor.__get__")))
    (tk_NoStock : PySem.W.takesIn K (.builtin "object.__class__") = some true)
    (ob_NoStock : PySem.W.mroIn K c_NoStock (.type "object") = some true)
    (kc_NoStock : PySem.W.keepIn K (.ref c_NoStock) = true)
    (iv_NoStock : PySem.W.findIn K (.ref c_NoStock) "__init__" = some (some (.ref i_NoStock)))
    (lv_NoStock : K.lookup i_NoStock = some ⟨oc_NoStock, od_NoStock, .func (PySem.W.fnOf "__init__" "NoStock.__init__" (defArgs s_NoStock) (defBody s_NoStock) (defScope s_NoStock) .none kV_NoStock doc_NoStock pm_NoStock an_NoStock cdv_NoStock ct_NoStock), osl_NoStock⟩)
    (cv_NoStock : PySem.W.codeIn K cdv_NoStock "NoStock.__init__" = true)
    (kf_NoStock : PySem.W.keepIn K (.ref i_NoStock) = true)
    (tv_NoStock : PySem.W.typeIn K (.ref i_NoStock) = some (.type "function"))
    (hd_NoStock : PySem.W.hasDictIn K c_NoStock = true)
    (sa_NoStock : PySem.W.findIn K (.ref c_NoStock) "__setattr__" = some (some (.builtin "object.__setattr__")))
    (DKq_NoStock : PySem.W.excInitIn K c_NoStock HandSPX.veTail "ValueError.__new__" = true)
    (DKo_NoStock : PySem.W.excOver K c_NoStock HandSPX.veTail = true)
    (f0_NoStock : PySem.W.findIn K (.ref c_NoStock) "word" = some none)
    (f1_NoStock : PySem.W.findIn K (.ref c_NoStock) "at" = some none)
    (a_NoAnswer : PySem.W.nsIn K mainGlobals "NoAnswer" = some (some (.ref c_NoAnswer)))
    (ga_NoAnswer : PySem.W.findIn K (.ref c_NoAnswer) "__getattribute__" = some (some (.builtin "BaseException.__getattribute__")))
    (gg_NoAnswer : PySem.W.findIn K (.ref c_NoAnswer) "__getattr__" = some none)
    (ca_NoAnswer : PySem.W.findIn K (.ref c_NoAnswer) "__class__" = some (some (.builtin "object.__class__")))
    (ex_NoAnswer : PySem.W.subIn K (.ref c_NoAnswer) (.type "BaseException") = some true)
    (is_NoAnswer : PySem.W.isClsIn K c_NoAnswer = true)
    (gn_NoAnswer : PySem.W.specialIn K (.builtin "object.__class__") "__get__" = some (some (.builtin "getset_descriptor.__get__")))
    (tk_NoAnswer : PySem.W.takesIn K (.builtin "object.__class__") = some true)
    (ob_NoAnswer : PySem.W.mroIn K c_NoAnswer (.type "object") = some true)
    (kc_NoAnswer : PySem.W.keepIn K (.ref c_NoAnswer) = true)
    (iv_NoAnswer : PySem.W.findIn K (.ref c_NoAnswer) "__init__" = some (some (.ref i_NoAnswer)))
    (lv_NoAnswer : K.lookup i_NoAnswer = some ⟨oc_NoAnswer, od_NoAnswer, .func (PySem.W.fnOf "__init__" "NoAnswer.__init__" (defArgs s_NoAnswer) (defBody s_NoAnswer) (defScope s_NoAnswer) .none kV_NoAnswer doc_NoAnswer pm_NoAnswer an_NoAnswer cdv_NoAnswer ct_NoAnswer), osl_NoAnswer⟩)
    (cv_NoAnswer : PySem.W.codeIn K cdv_NoAnswer "NoAnswer.__init__" = true)
    (kf_NoAnswer : PySem.W.keepIn K (.ref i_NoAnswer) = true)
    (tv_NoAnswer : PySem.W.typeIn K (.ref i_NoAnswer) = some (.type "function"))
    (hd_NoAnswer : PySem.W.hasDictIn K c_NoAnswer = true)
    (sa_NoAnswer : PySem.W.findIn K (.ref c_NoAnswer) "__setattr__" = some (some (.builtin "object.__setattr__")))
    (DKq_NoAnswer : PySem.W.excInitIn K c_NoAnswer HandSPX.veTail "ValueError.__new__" = true)
    (DKo_NoAnswer : PySem.W.excOver K c_NoAnswer HandSPX.veTail = true)
    (f0_NoAnswer : PySem.W.findIn K (.ref c_NoAnswer) "answer" = some none)
    (a_NoInputs : PySem.W.nsIn K mainGlobals "NoInputs" = some (some (.ref c_NoInputs)))
    (ga_NoInputs : PySem.W.findIn K (.ref c_NoInputs) "__getattribute__" = some (some (.builtin "BaseException.__getattribute__")))
    (gg_NoInputs : PySem.W.findIn K (.ref c_NoInputs) "__getattr__" = some none)
    (ca_NoInputs : PySem.W.findIn K (.ref c_NoInputs) "__class__" = some (some (.builtin "object.__class__")))
    (ex_NoInputs : PySem.W.subIn K (.ref c_NoInputs) (.type "BaseException") = some true)
    (is_NoInputs : PySem.W.isClsIn K c_NoInputs = true)
    (gn_NoInputs : PySem.W.specialIn K (.builtin "object.__class__") "__get__" = some (some (.builtin "getset_descriptor.__get__")))
    (tk_NoInputs : PySem.W.takesIn K (.builtin "object.__class__") = some true)
    (ob_NoInputs : PySem.W.mroIn K c_NoInputs (.type "object") = some true)
    (kc_NoInputs : PySem.W.keepIn K (.ref c_NoInputs) = true)
    (iv_NoInputs : PySem.W.findIn K (.ref c_NoInputs) "__init__" = some (some (.ref i_NoInputs)))
    (lv_NoInputs : K.lookup i_NoInputs = some ⟨oc_NoInputs, od_NoInputs, .func (PySem.W.fnOf "__init__" "NoInputs.__init__" (defArgs s_NoInputs) (defBody s_NoInputs) (defScope s_NoInputs) .none kV_NoInputs doc_NoInputs pm_NoInputs an_NoInputs cdv_NoInputs ct_NoInputs), osl_NoInputs⟩)
    (cv_NoInputs : PySem.W.codeIn K cdv_NoInputs "NoInputs.__init__" = true)
    (kf_NoInputs : PySem.W.keepIn K (.ref i_NoInputs) = true)
    (tv_NoInputs : PySem.W.typeIn K (.ref i_NoInputs) = some (.type "function"))
    (hd_NoInputs : PySem.W.hasDictIn K c_NoInputs = true)
    (sa_NoInputs : PySem.W.findIn K (.ref c_NoInputs) "__setattr__" = some (some (.builtin "object.__setattr__")))
    (DKq_NoInputs : PySem.W.excInitIn K c_NoInputs HandSPX.veTail "ValueError.__new__" = true)
    (DKo_NoInputs : PySem.W.excOver K c_NoInputs HandSPX.veTail = true)
    (f0_NoInputs : PySem.W.findIn K (.ref c_NoInputs) "at" = some none)
    (a_Clash : PySem.W.nsIn K mainGlobals "Clash" = some (some (.ref c_Clash)))
    (ga_Clash : PySem.W.findIn K (.ref c_Clash) "__getattribute__" = some (some (.builtin "BaseException.__getattribute__")))
    (gg_Clash : PySem.W.findIn K (.ref c_Clash) "__getattr__" = some none)
    (ca_Clash : PySem.W.findIn K (.ref c_Clash) "__class__" = some (some (.builtin "object.__class__")))
    (ex_Clash : PySem.W.subIn K (.ref c_Clash) (.type "BaseException") = some true)
    (is_Clash : PySem.W.isClsIn K c_Clash = true)
    (gn_Clash : PySem.W.specialIn K (.builtin "object.__class__") "__get__" = some (some (.builtin "getset_descriptor.__get__")))
    (tk_Clash : PySem.W.takesIn K (.builtin "object.__class__") = some true)
    (ob_Clash : PySem.W.mroIn K c_Clash (.type "object") = some true)
    (kc_Clash : PySem.W.keepIn K (.ref c_Clash) = true)
    (iv_Clash : PySem.W.findIn K (.ref c_Clash) "__init__" = some (some (.ref i_Clash)))
    (lv_Clash : K.lookup i_Clash = some ⟨oc_Clash, od_Clash, .func (PySem.W.fnOf "__init__" "Clash.__init__" (defArgs s_Clash) (defBody s_Clash) (defScope s_Clash) .none kV_Clash doc_Clash pm_Clash an_Clash cdv_Clash ct_Clash), osl_Clash⟩)
    (cv_Clash : PySem.W.codeIn K cdv_Clash "Clash.__init__" = true)
    (kf_Clash : PySem.W.keepIn K (.ref i_Clash) = true)
    (tv_Clash : PySem.W.typeIn K (.ref i_Clash) = some (.type "function"))
    (hd_Clash : PySem.W.hasDictIn K c_Clash = true)
    (sa_Clash : PySem.W.findIn K (.ref c_Clash) "__setattr__" = some (some (.builtin "object.__setattr__")))
    (DKq_Clash : PySem.W.excInitIn K c_Clash HandSPX.veTail "ValueError.__new__" = true)
    (DKo_Clash : PySem.W.excOver K c_Clash HandSPX.veTail = true)
    (f0_Clash : PySem.W.findIn K (.ref c_Clash) "at" = some none)
    (f1_Clash : PySem.W.findIn K (.ref c_Clash) "number" = some none)
    (a_NoRow : PySem.W.nsIn K mainGlobals "NoRow" = some (some (.ref c_NoRow)))
    (ga_NoRow : PySem.W.findIn K (.ref c_NoRow) "__getattribute__" = some (some (.builtin "BaseException.__getattribute__")))
    (gg_NoRow : PySem.W.findIn K (.ref c_NoRow) "__getattr__" = some none)
    (ca_NoRow : PySem.W.findIn K (.ref c_NoRow) "__class__" = some (some (.builtin "object.__class__")))
    (ex_NoRow : PySem.W.subIn K (.ref c_NoRow) (.type "BaseException") = some true)
    (is_NoRow : PySem.W.isClsIn K c_NoRow = true)
    (gn_NoRow : PySem.W.specialIn K (.builtin "object.__class__") "__get__" = some (some (.builtin "getset_descriptor.__get__")))
    (tk_NoRow : PySem.W.takesIn K (.builtin "object.__class__") = some true)
    (ob_NoRow : PySem.W.mroIn K c_NoRow (.type "object") = some true)
    (kc_NoRow : PySem.W.keepIn K (.ref c_NoRow) = true)
    (DKx_NoRow : PySem.W.excIn K c_NoRow HandSPX.veTail "ValueError.__new__" = true)
    (a_NoQuestion : PySem.W.nsIn K mainGlobals "NoQuestion" = some (some (.ref c_NoQuestion)))
    (ga_NoQuestion : PySem.W.findIn K (.ref c_NoQuestion) "__getattribute__" = some (some (.builtin "BaseException.__getattribute__")))
    (gg_NoQuestion : PySem.W.findIn K (.ref c_NoQuestion) "__getattr__" = some none)
    (ca_NoQuestion : PySem.W.findIn K (.ref c_NoQuestion) "__class__" = some (some (.builtin "object.__class__")))
    (ex_NoQuestion : PySem.W.subIn K (.ref c_NoQuestion) (.type "BaseException") = some true)
    (is_NoQuestion : PySem.W.isClsIn K c_NoQuestion = true)
    (gn_NoQuestion : PySem.W.specialIn K (.builtin "object.__class__") "__get__" = some (some (.builtin "getset_descriptor.__get__")))
    (tk_NoQuestion : PySem.W.takesIn K (.builtin "object.__class__") = some true)
    (ob_NoQuestion : PySem.W.mroIn K c_NoQuestion (.type "object") = some true)
    (kc_NoQuestion : PySem.W.keepIn K (.ref c_NoQuestion) = true)
    (DKx_NoQuestion : PySem.W.excIn K c_NoQuestion leT "LookupError.__new__" = true)
    (a_NoDoer : PySem.W.nsIn K mainGlobals "NoDoer" = some (some (.ref c_NoDoer)))
    (ga_NoDoer : PySem.W.findIn K (.ref c_NoDoer) "__getattribute__" = some (some (.builtin "BaseException.__getattribute__")))
    (gg_NoDoer : PySem.W.findIn K (.ref c_NoDoer) "__getattr__" = some none)
    (ca_NoDoer : PySem.W.findIn K (.ref c_NoDoer) "__class__" = some (some (.builtin "object.__class__")))
    (ex_NoDoer : PySem.W.subIn K (.ref c_NoDoer) (.type "BaseException") = some true)
    (is_NoDoer : PySem.W.isClsIn K c_NoDoer = true)
    (gn_NoDoer : PySem.W.specialIn K (.builtin "object.__class__") "__get__" = some (some (.builtin "getset_descriptor.__get__")))
    (tk_NoDoer : PySem.W.takesIn K (.builtin "object.__class__") = some true)
    (ob_NoDoer : PySem.W.mroIn K c_NoDoer (.type "object") = some true)
    (kc_NoDoer : PySem.W.keepIn K (.ref c_NoDoer) = true)
    (iv_NoDoer : PySem.W.findIn K (.ref c_NoDoer) "__init__" = some (some (.ref i_NoDoer)))
    (lv_NoDoer : K.lookup i_NoDoer = some ⟨oc_NoDoer, od_NoDoer, .func (PySem.W.fnOf "__init__" "NoDoer.__init__" (defArgs s_NoDoer) (defBody s_NoDoer) (defScope s_NoDoer) .none kV_NoDoer doc_NoDoer pm_NoDoer an_NoDoer cdv_NoDoer ct_NoDoer), osl_NoDoer⟩)
    (cv_NoDoer : PySem.W.codeIn K cdv_NoDoer "NoDoer.__init__" = true)
    (kf_NoDoer : PySem.W.keepIn K (.ref i_NoDoer) = true)
    (tv_NoDoer : PySem.W.typeIn K (.ref i_NoDoer) = some (.type "function"))
    (hd_NoDoer : PySem.W.hasDictIn K c_NoDoer = true)
    (sa_NoDoer : PySem.W.findIn K (.ref c_NoDoer) "__setattr__" = some (some (.builtin "object.__setattr__")))
    (DKq_NoDoer : PySem.W.excInitIn K c_NoDoer leT "LookupError.__new__" = true)
    (DKo_NoDoer : PySem.W.excOver K c_NoDoer leT = true)
    (f0_NoDoer : PySem.W.findIn K (.ref c_NoDoer) "inputs" = some none)
    (a_NotKept : PySem.W.nsIn K mainGlobals "NotKept" = some (some (.ref c_NotKept)))
    (ga_NotKept : PySem.W.findIn K (.ref c_NotKept) "__getattribute__" = some (some (.builtin "BaseException.__getattribute__")))
    (gg_NotKept : PySem.W.findIn K (.ref c_NotKept) "__getattr__" = some none)
    (ca_NotKept : PySem.W.findIn K (.ref c_NotKept) "__class__" = some (some (.builtin "object.__class__")))
    (ex_NotKept : PySem.W.subIn K (.ref c_NotKept) (.type "BaseException") = some true)
    (is_NotKept : PySem.W.isClsIn K c_NotKept = true)
    (gn_NotKept : PySem.W.specialIn K (.builtin "object.__class__") "__get__" = some (some (.builtin "getset_descriptor.__get__")))
    (tk_NotKept : PySem.W.takesIn K (.builtin "object.__class__") = some true)
    (ob_NotKept : PySem.W.mroIn K c_NotKept (.type "object") = some true)
    (kc_NotKept : PySem.W.keepIn K (.ref c_NotKept) = true)
    (iv_NotKept : PySem.W.findIn K (.ref c_NotKept) "__init__" = some (some (.ref i_NotKept)))
    (lv_NotKept : K.lookup i_NotKept = some ⟨oc_NotKept, od_NotKept, .func (PySem.W.fnOf "__init__" "NotKept.__init__" (defArgs s_NotKept) (defBody s_NotKept) (defScope s_NotKept) .none kV_NotKept doc_NotKept pm_NotKept an_NotKept cdv_NotKept ct_NotKept), osl_NotKept⟩)
    (cv_NotKept : PySem.W.codeIn K cdv_NotKept "NotKept.__init__" = true)
    (kf_NotKept : PySem.W.keepIn K (.ref i_NotKept) = true)
    (tv_NotKept : PySem.W.typeIn K (.ref i_NotKept) = some (.type "function"))
    (hd_NotKept : PySem.W.hasDictIn K c_NotKept = true)
    (sa_NotKept : PySem.W.findIn K (.ref c_NotKept) "__setattr__" = some (some (.builtin "object.__setattr__")))
    (DKq_NotKept : PySem.W.excInitIn K c_NotKept ieT "IndexError.__new__" = true)
    (DKo_NotKept : PySem.W.excOver K c_NotKept ieT = true)
    (f0_NotKept : PySem.W.findIn K (.ref c_NotKept) "number" = some none)
    (a_NoName : PySem.W.nsIn K mainGlobals "NoName" = some (some (.ref c_NoName)))
    (ga_NoName : PySem.W.findIn K (.ref c_NoName) "__getattribute__" = some (some (.builtin "BaseException.__getattribute__")))
    (gg_NoName : PySem.W.findIn K (.ref c_NoName) "__getattr__" = some none)
    (ca_NoName : PySem.W.findIn K (.ref c_NoName) "__class__" = some (some (.builtin "object.__class__")))
    (ex_NoName : PySem.W.subIn K (.ref c_NoName) (.type "BaseException") = some true)
    (is_NoName : PySem.W.isClsIn K c_NoName = true)
    (gn_NoName : PySem.W.specialIn K (.builtin "object.__class__") "__get__" = some (some (.builtin "getset_descriptor.__get__")))
    (tk_NoName : PySem.W.takesIn K (.builtin "object.__class__") = some true)
    (ob_NoName : PySem.W.mroIn K c_NoName (.type "object") = some true)
    (kc_NoName : PySem.W.keepIn K (.ref c_NoName) = true)
    (iv_NoName : PySem.W.findIn K (.ref c_NoName) "__init__" = some (some (.ref i_NoName)))
    (lv_NoName : K.lookup i_NoName = some ⟨oc_NoName, od_NoName, .func (PySem.W.fnOf "__init__" "NoName.__init__" (defArgs s_NoName) (defBody s_NoName) (defScope s_NoName) .none kV_NoName doc_NoName pm_NoName an_NoName cdv_NoName ct_NoName), osl_NoName⟩)
    (cv_NoName : PySem.W.codeIn K cdv_NoName "NoName.__init__" = true)
    (kf_NoName : PySem.W.keepIn K (.ref i_NoName) = true)
    (tv_NoName : PySem.W.typeIn K (.ref i_NoName) = some (.type "function"))
    (hd_NoName : PySem.W.hasDictIn K c_NoName = true)
    (sa_NoName : PySem.W.findIn K (.ref c_NoName) "__setattr__" = some (some (.builtin "object.__setattr__")))
    (DKq_NoName : PySem.W.excInitIn K c_NoName keT "LookupError.__new__" = true)
    (DKo_NoName : PySem.W.excOver K c_NoName keT = true)
    (f0_NoName : PySem.W.findIn K (.ref c_NoName) "name" = some none)
    (aM : PySem.W.nsIn K mainGlobals "MakeError" = some (some (.ref cM)))
    (zb_ValueError : PySem.W.nsIn K mainGlobals "ValueError" = some none)
    (zb_LookupError : PySem.W.nsIn K mainGlobals "LookupError" = some none)
    (zb_IndexError : PySem.W.nsIn K mainGlobals "IndexError" = some none)
    (zb_KeyError : PySem.W.nsIn K mainGlobals "KeyError" = some none)
    (DKt : kitTab K [.ref c_NoHead, .ref c_NoProgram, .ref c_NoText, .ref c_NoStock, .ref c_NoAnswer, .ref c_NoInputs, .ref c_Clash, .ref c_NoRow, .ref c_NoQuestion, .ref c_NoDoer, .ref c_NotKept, .ref c_NoName] [.ref c_NoHead, .ref c_NoProgram, .ref c_NoText, .ref c_NoStock, .ref c_NoAnswer, .ref c_NoInputs, .ref c_Clash, .ref c_NoRow, .ref c_NoQuestion, .ref c_NoDoer, .ref c_NotKept, .ref c_NoName, .ref cM, .type "ValueError", .type "LookupError", .type "IndexError", .type "KeyError"] twF = true)
    : ∃ fd : FuncData, (∀ (s : Shared) (v : Value), BindsTo s fd ⟨[v], []⟩ [("_law_script", v)]) ∧ ∀ base : Heap, K.In base → base.Ns mainGlobals mg → FnOk l.prog w K mg base CX0 5 fa fd ["_law_script"] (spLaw K) := by
  have e := hfa.symm.trans (PySem.W.mg_of X G a9)
  cases e
  have D_l_cell : DefAt K mg "_law_cell" s_l_cell ["_law_script", "_law_k"] := defAt_mk X G a0 l0 c0 k0 fun _ _ _ _ _ _ us hl => match us, hl with | [_, _], _ => rfl
  have D_l_flow : DefAt K mg "_law_flow" s_l_flow ["_law_script", "_law_k"] := defAt_mk X G a1 l1 c1 k1 fun _ _ _ _ _ _ us hl => match us, hl with | [_, _], _ => rfl
  have D_l_draw : DefAt K mg "_law_draw" s_l_draw ["_law_flow_here", "_law_many"] := defAt_mk X G a2 l2 c2 k2 fun _ _ _ _ _ _ us hl => match us, hl with | [_, _], _ => rfl
  have D_l_alike : DefAt K mg "_law_alike" s_l_alike ["_law_found", "_law_due"] := defAt_mk X G a3 l3 c3 k3 fun _ _ _ _ _ _ us hl => match us, hl with | [_, _], _ => rfl
  have D_l_sorts : DefAt K mg "_law_sorts" s_l_sorts ["_law_e"] := defAt_mk X G a4 l4 c4 k4 fun _ _ _ _ _ _ us hl => match us, hl with | [_], _ => rfl
  have D_l_thing : DefAt K mg "_law_thing" s_l_thing ["_law_flow_here"] := defAt_mk X G a5 l5 c5 k5 fun _ _ _ _ _ _ us hl => match us, hl with | [_], _ => rfl
  have D_l_bases : DefAt K mg "_law_bases" s_l_bases ["_law_e"] := defAt_mk X G a6 l6 c6 k6 fun _ _ _ _ _ _ us hl => match us, hl with | [_], _ => rfl
  have D_l_bases_due : DefAt K mg "_law_bases_due" s_l_bases_due ["_law_spot"] := defAt_mk X G a7 l7 c7 k7 fun _ _ _ _ _ _ us hl => match us, hl with | [_], _ => rfl
  have D_l_right : DefAt K mg "_law_right" s_l_right ["_law_flow_here"] := defAt_mk X G a8 l8 c8 k8 fun _ _ _ _ _ _ us hl => match us, hl with | [_], _ => rfl
  have D_law : DefAt K mg "law" s_law ["_law_script"] := defAt_mk X G a9 l9 c9 k9 fun _ _ _ _ _ _ us hl => match us, hl with | [_], _ => rfl
  have EK_NoHead : ExK K c_NoHead := ⟨is_NoHead, ga_NoHead, gg_NoHead, ex_NoHead, ca_NoHead, gn_NoHead, tk_NoHead, ob_NoHead⟩
  have F_NoHead : Fun K "__init__" "NoHead.__init__" s_NoHead i_NoHead _ := fun_mk lv_NoHead cv_NoHead kf_NoHead
  have R_NoHead : RfV K mg "NoHead" "NoHead.__init__" c_NoHead i_NoHead _ s_NoHead ["word", "at"] := { g := PySem.W.mg_of X G a_NoHead, o := ⟨⟨_, _, _, _, _, _, nf_VE, PySem.F.store_ValueError, DKq_NoHead, DKo_NoHead⟩, hd_NoHead, sa_NoHead, kc_NoHead⟩, f := ⟨ga_NoHead, gg_NoHead, ex_NoHead, hd_NoHead⟩, k := EK_NoHead, fld := fun n hn => by simp only [List.mem_cons, List.not_mem_nil, or_false] at hn; rcases hn with h | h <;> subst h <;> assumption, iC := iv_NoHead, tI := tv_NoHead, F := F_NoHead, b := F_NoHead.binds fun _ _ _ _ _ _ us hl => match us, hl with | [_, _, _], _ => rfl }
  have EK_NoProgram : ExK K c_NoProgram := ⟨is_NoProgram, ga_NoProgram, gg_NoProgram, ex_NoProgram, ca_NoProgram, gn_NoProgram, tk_NoProgram, ob_NoProgram⟩
  have F_NoProgram : Fun K "__init__" "NoProgram.__init__" s_NoProgram i_NoProgram _ := fun_mk lv_NoProgram cv_NoProgram kf_NoProgram
  have R_NoProgram : RfV K mg "NoProgram" "NoProgram.__init__" c_NoProgram i_NoProgram _ s_NoProgram ["word", "at"] := { g := PySem.W.mg_of X G a_NoProgram, o := ⟨⟨_, _, _, _, _, _, nf_VE, PySem.F.store_ValueError, DKq_NoProgram, DKo_NoProgram⟩, hd_NoProgram, sa_NoProgram, kc_NoProgram⟩, f := ⟨ga_NoProgram, gg_NoProgram, ex_NoProgram, hd_NoProgram⟩, k := EK_NoProgram, fld := fun n hn => by simp only [List.mem_cons, List.not_mem_nil, or_false] at hn; rcases hn with h | h <;> subst h <;> assumption, iC := iv_NoProgram, tI := tv_NoProgram, F := F_NoProgram, b := F_NoProgram.binds fun _ _ _ _ _ _ us hl => match us, hl with | [_, _, _], _ => rfl }
  have EK_NoText : ExK K c_NoText := ⟨is_NoText, ga_NoText, gg_NoText, ex_NoText, ca_NoText, gn_NoText, tk_NoText, ob_NoText⟩
  have F_NoText : Fun K "__init__" "NoText.__init__" s_NoText i_NoText _ := fun_mk lv_NoText cv_NoText kf_NoText
  have R_NoText : RfV K mg "NoText" "NoText.__init__" c_NoText i_NoText _ s_NoText ["at"] := { g := PySem.W.mg_of X G a_NoText, o := ⟨⟨_, _, _, _, _, _, nf_VE, PySem.F.store_ValueError, DKq_NoText, DKo_NoText⟩, hd_NoText, sa_NoText, kc_NoText⟩, f := ⟨ga_NoText, gg_NoText, ex_NoText, hd_NoText⟩, k := EK_NoText, fld := fun n hn => by simp only [List.mem_cons, List.not_mem_nil, or_false] at hn; subst hn; assumption, iC := iv_NoText, tI := tv_NoText, F := F_NoText, b := F_NoText.binds fun _ _ _ _ _ _ us hl => match us, hl with | [_, _], _ => rfl }
  have EK_NoStock : ExK K c_NoStock := ⟨is_NoStock, ga_NoStock, gg_NoStock, ex_NoStock, ca_NoStock, gn_NoStock, tk_NoStock, ob_NoStock⟩
  have F_NoStock : Fun K "__init__" "NoStock.__init__" s_NoStock i_NoStock _ := fun_mk lv_NoStock cv_NoStock kf_NoStock
  have R_NoStock : RfV K mg "NoStock" "NoStock.__init__" c_NoStock i_NoStock _ s_NoStock ["word", "at"] := { g := PySem.W.mg_of X G a_NoStock, o := ⟨⟨_, _, _, _, _, _, nf_VE, PySem.F.store_ValueError, DKq_NoStock, DKo_NoStock⟩, hd_NoStock, sa_NoStock, kc_NoStock⟩, f := ⟨ga_NoStock, gg_NoStock, ex_NoStock, hd_NoStock⟩, k := EK_NoStock, fld := fun n hn => by simp only [List.mem_cons, List.not_mem_nil, or_false] at hn; rcases hn with h | h <;> subst h <;> assumption, iC := iv_NoStock, tI := tv_NoStock, F := F_NoStock, b := F_NoStock.binds fun _ _ _ _ _ _ us hl => match us, hl with | [_, _, _], _ => rfl }
  have EK_NoAnswer : ExK K c_NoAnswer := ⟨is_NoAnswer, ga_NoAnswer, gg_NoAnswer, ex_NoAnswer, ca_NoAnswer, gn_NoAnswer, tk_NoAnswer, ob_NoAnswer⟩
  have F_NoAnswer : Fun K "__init__" "NoAnswer.__init__" s_NoAnswer i_NoAnswer _ := fun_mk lv_NoAnswer cv_NoAnswer kf_NoAnswer
  have R_NoAnswer : RfV K mg "NoAnswer" "NoAnswer.__init__" c_NoAnswer i_NoAnswer _ s_NoAnswer ["answer"] := { g := PySem.W.mg_of X G a_NoAnswer, o := ⟨⟨_, _, _, _, _, _, nf_VE, PySem.F.store_ValueError, DKq_NoAnswer, DKo_NoAnswer⟩, hd_NoAnswer, sa_NoAnswer, kc_NoAnswer⟩, f := ⟨ga_NoAnswer, gg_NoAnswer, ex_NoAnswer, hd_NoAnswer⟩, k := EK_NoAnswer, fld := fun n hn => by simp only [List.mem_cons, List.not_mem_nil, or_false] at hn; subst hn; assumption, iC := iv_NoAnswer, tI := tv_NoAnswer, F := F_NoAnswer, b := F_NoAnswer.binds fun _ _ _ _ _ _ us hl => match us, hl with | [_, _], _ => rfl }
  have EK_NoInputs : ExK K c_NoInputs := ⟨is_NoInputs, ga_NoInputs, gg_NoInputs, ex_NoInputs, ca_NoInputs, gn_NoInputs, tk_NoInputs, ob_NoInputs⟩
  have F_NoInputs : Fun K "__init__" "NoInputs.__init__" s_NoInputs i_NoInputs _ := fun_mk lv_NoInputs cv_NoInputs kf_NoInputs
  have R_NoInputs : RfV K mg "NoInputs" "NoInputs.__init__" c_NoInputs i_NoInputs _ s_NoInputs ["at"] := { g := PySem.W.mg_of X G a_NoInputs, o := ⟨⟨_, _, _, _, _, _, nf_VE, PySem.F.store_ValueError, DKq_NoInputs, DKo_NoInputs⟩, hd_NoInputs, sa_NoInputs, kc_NoInputs⟩, f := ⟨ga_NoInputs, gg_NoInputs, ex_NoInputs, hd_NoInputs⟩, k := EK_NoInputs, fld := fun n hn => by simp only [List.mem_cons, List.not_mem_nil, or_false] at hn; subst hn; assumption, iC := iv_NoInputs, tI := tv_NoInputs, F := F_NoInputs, b := F_NoInputs.binds fun _ _ _ _ _ _ us hl => match us, hl with | [_, _], _ => rfl }
  have EK_Clash : ExK K c_Clash := ⟨is_Clash, ga_Clash, gg_Clash, ex_Clash, ca_Clash, gn_Clash, tk_Clash, ob_Clash⟩
  have F_Clash : Fun K "__init__" "Clash.__init__" s_Clash i_Clash _ := fun_mk lv_Clash cv_Clash kf_Clash
  have R_Clash : RfV K mg "Clash" "Clash.__init__" c_Clash i_Clash _ s_Clash ["at", "number"] := { g := PySem.W.mg_of X G a_Clash, o := ⟨⟨_, _, _, _, _, _, nf_VE, PySem.F.store_ValueError, DKq_Clash, DKo_Clash⟩, hd_Clash, sa_Clash, kc_Clash⟩, f := ⟨ga_Clash, gg_Clash, ex_Clash, hd_Clash⟩, k := EK_Clash, fld := fun n hn => by simp only [List.mem_cons, List.not_mem_nil, or_false] at hn; rcases hn with h | h <;> subst h <;> assumption, iC := iv_Clash, tI := tv_Clash, F := F_Clash, b := F_Clash.binds fun _ _ _ _ _ _ us hl => match us, hl with | [_, _, _], _ => rfl }
  have EK_NoRow : ExK K c_NoRow := ⟨is_NoRow, ga_NoRow, gg_NoRow, ex_NoRow, ca_NoRow, gn_NoRow, tk_NoRow, ob_NoRow⟩
  have R_NoRow : RfN K mg "NoRow" c_NoRow := ⟨PySem.W.mg_of X G a_NoRow, ⟨_, _, _, _, nf_VE.F, DKx_NoRow⟩, kc_NoRow, EK_NoRow⟩
  have EK_NoQuestion : ExK K c_NoQuestion := ⟨is_NoQuestion, ga_NoQuestion, gg_NoQuestion, ex_NoQuestion, ca_NoQuestion, gn_NoQuestion, tk_NoQuestion, ob_NoQuestion⟩
  have R_NoQuestion : RfN K mg "NoQuestion" c_NoQuestion := ⟨PySem.W.mg_of X G a_NoQuestion, ⟨_, _, _, _, nf_LE.F, DKx_NoQuestion⟩, kc_NoQuestion, EK_NoQuestion⟩
  have EK_NoDoer : ExK K c_NoDoer := ⟨is_NoDoer, ga_NoDoer, gg_NoDoer, ex_NoDoer, ca_NoDoer, gn_NoDoer, tk_NoDoer, ob_NoDoer⟩
  have F_NoDoer : Fun K "__init__" "NoDoer.__init__" s_NoDoer i_NoDoer _ := fun_mk lv_NoDoer cv_NoDoer kf_NoDoer
  have R_NoDoer : RfV K mg "NoDoer" "NoDoer.__init__" c_NoDoer i_NoDoer _ s_NoDoer ["inputs"] := { g := PySem.W.mg_of X G a_NoDoer, o := ⟨⟨_, _, _, _, _, _, nf_LE, PySem.F.store_LookupError, DKq_NoDoer, DKo_NoDoer⟩, hd_NoDoer, sa_NoDoer, kc_NoDoer⟩, f := ⟨ga_NoDoer, gg_NoDoer, ex_NoDoer, hd_NoDoer⟩, k := EK_NoDoer, fld := fun n hn => by simp only [List.mem_cons, List.not_mem_nil, or_false] at hn; subst hn; assumption, iC := iv_NoDoer, tI := tv_NoDoer, F := F_NoDoer, b := F_NoDoer.binds fun _ _ _ _ _ _ us hl => match us, hl with | [_, _], _ => rfl }
  have EK_NotKept : ExK K c_NotKept := ⟨is_NotKept, ga_NotKept, gg_NotKept, ex_NotKept, ca_NotKept, gn_NotKept, tk_NotKept, ob_NotKept⟩
  have F_NotKept : Fun K "__init__" "NotKept.__init__" s_NotKept i_NotKept _ := fun_mk lv_NotKept cv_NotKept kf_NotKept
  have R_NotKept : RfV K mg "NotKept" "NotKept.__init__" c_NotKept i_NotKept _ s_NotKept ["number"] := { g := PySem.W.mg_of X G a_NotKept, o := ⟨⟨_, _, _, _, _, _, nf_IE, PySem.F.store_IndexError, DKq_NotKept, DKo_NotKept⟩, hd_NotKept, sa_NotKept, kc_NotKept⟩, f := ⟨ga_NotKept, gg_NotKept, ex_NotKept, hd_NotKept⟩, k := EK_NotKept, fld := fun n hn => by simp only [List.mem_cons, List.not_mem_nil, or_false] at hn; subst hn; assumption, iC := iv_NotKept, tI := tv_NotKept, F := F_NotKept, b := F_NotKept.binds fun _ _ _ _ _ _ us hl => match us, hl with | [_, _], _ => rfl }
  have EK_NoName : ExK K c_NoName := ⟨is_NoName, ga_NoName, gg_NoName, ex_NoName, ca_NoName, gn_NoName, tk_NoName, ob_NoName⟩
  have F_NoName : Fun K "__init__" "NoName.__init__" s_NoName i_NoName _ := fun_mk lv_NoName cv_NoName kf_NoName
  have R_NoName : RfV K mg "NoName" "NoName.__init__" c_NoName i_NoName _ s_NoName ["name"] := { g := PySem.W.mg_of X G a_NoName, o := ⟨⟨_, _, _, _, _, _, nf_KE, ke_store, DKq_NoName, DKo_NoName⟩, hd_NoName, sa_NoName, kc_NoName⟩, f := ⟨ga_NoName, gg_NoName, ex_NoName, hd_NoName⟩, k := EK_NoName, fld := fun n hn => by simp only [List.mem_cons, List.not_mem_nil, or_false] at hn; subst hn; assumption, iC := iv_NoName, tI := tv_NoName, F := F_NoName, b := F_NoName.binds fun _ _ _ _ _ _ us hl => match us, hl with | [_, _], _ => rfl }
  have KB_NoHead := kbn_fwd (ks := ["word", "at"]) F_NoHead (fs := ["word", "at"]) fun _ _ _ _ _ _ a ws hl => match ws, hl with | [_, _], _ => rfl
  have KB_NoStock := kbn_bwd (ks := ["at", "word"]) F_NoStock (fs := ["word", "at"]) fun _ _ _ _ _ _ a ws hl => match ws, hl with | [_, _], _ => rfl
  have KB_Clash := kbn_bwd (ks := ["number", "at"]) F_Clash (fs := ["at", "number"]) fun _ _ _ _ _ _ a ws hl => match ws, hl with | [_, _], _ => rfl
  have KB_NoDoer := kbn_fwd (ks := ["inputs"]) F_NoDoer (fs := ["inputs"]) fun _ _ _ _ _ _ a ws hl => match ws, hl with | [_], _ => rfl
  have TT : ∀ (i j : Nat) (c d : Addr), ([c_NoHead, c_NoProgram, c_NoText, c_NoStock, c_NoAnswer, c_NoInputs, c_Clash, c_NoRow, c_NoQuestion, c_NoDoer, c_NotKept, c_NoName] : List Addr)[i]? = some c → ([c_NoHead, c_NoProgram, c_NoText, c_NoStock, c_NoAnswer, c_NoInputs, c_Clash, c_NoRow, c_NoQuestion, c_NoDoer, c_NotKept, c_NoName] : List Addr)[j]? = some d → PySem.W.kitOne K (.ref c) (.ref d) = some (decide (j = i)) := fun i j c d hc hd => by
    have h1 : ([.ref c_NoHead, .ref c_NoProgram, .ref c_NoText, .ref c_NoStock, .ref c_NoAnswer, .ref c_NoInputs, .ref c_Clash, .ref c_NoRow, .ref c_NoQuestion, .ref c_NoDoer, .ref c_NotKept, .ref c_NoName] : List Value)[i]? = some (.ref c) := by rw [show ([.ref c_NoHead, .ref c_NoProgram, .ref c_NoText, .ref c_NoStock, .ref c_NoAnswer, .ref c_NoInputs, .ref c_Clash, .ref c_NoRow, .ref c_NoQuestion, .ref c_NoDoer, .ref c_NotKept, .ref c_NoName] : List Value) = ([c_NoHead, c_NoProgram, c_NoText, c_NoStock, c_NoAnswer, c_NoInputs, c_Clash, c_NoRow, c_NoQuestion, c_NoDoer, c_NotKept, c_NoName] : List Addr).map Value.ref from rfl, List.getElem?_map, hc]; rfl
    have hj : j < 12 := (List.getElem?_eq_some_iff.mp hd).1
    have h2 : ([.ref c_NoHead, .ref c_NoProgram, .ref c_NoText, .ref c_NoStock, .ref c_NoAnswer, .ref c_NoInputs, .ref c_Clash, .ref c_NoRow, .ref c_NoQuestion, .ref c_NoDoer, .ref c_NotKept, .ref c_NoName, .ref cM, .type "ValueError", .type "LookupError", .type "IndexError", .type "KeyError"] : List Value)[j]? = some (.ref d) := by
      rw [show ([.ref c_NoHead, .ref c_NoProgram, .ref c_NoText, .ref c_NoStock, .ref c_NoAnswer, .ref c_NoInputs, .ref c_Clash, .ref c_NoRow, .ref c_NoQuestion, .ref c_NoDoer, .ref c_NotKept, .ref c_NoName, .ref cM, .type "ValueError", .type "LookupError", .type "IndexError", .type "KeyError"] : List Value) = ([c_NoHead, c_NoProgram, c_NoText, c_NoStock, c_NoAnswer, c_NoInputs, c_Clash, c_NoRow, c_NoQuestion, c_NoDoer, c_NotKept, c_NoName] : List Addr).map Value.ref ++ [.ref cM, .type "ValueError", .type "LookupError", .type "IndexError", .type "KeyError"] from rfl, List.getElem?_append_left (by simpa using hj), List.getElem?_map, hd]
      rfl
    have z := kitTab_get DKt h1 h2
    rw [show twF i j = decide (j = i) from if_pos hj] at z
    exact z
  have T : Tw K mg [c_NoHead, c_NoProgram, c_NoText, c_NoStock, c_NoAnswer, c_NoInputs, c_Clash, c_NoRow, c_NoQuestion, c_NoDoer, c_NotKept, c_NoName] cM := { n := ⟨_, _, _, _, _, _, _, _, _, _, _, _, rfl, PySem.W.mg_of X G a_NoHead, PySem.W.mg_of X G a_NoProgram, PySem.W.mg_of X G a_NoText, PySem.W.mg_of X G a_NoStock, PySem.W.mg_of X G a_NoAnswer, PySem.W.mg_of X G a_NoInputs, PySem.W.mg_of X G a_Clash, PySem.W.mg_of X G a_NoRow, PySem.W.mg_of X G a_NoQuestion, PySem.W.mg_of X G a_NoDoer, PySem.W.mg_of X G a_NotKept, PySem.W.mg_of X G a_NoName⟩, m := PySem.W.mg_of X G aM, v := ⟨PySem.W.mg_none_of X G zb_ValueError, PySem.W.mg_none_of X G zb_LookupError, PySem.W.mg_none_of X G zb_IndexError, PySem.W.mg_none_of X G zb_KeyError⟩, k := fun c hc => by simp only [List.mem_cons, List.not_mem_nil, or_false] at hc; rcases hc with h | h | h | h | h | h | h | h | h | h | h | h <;> subst h <;> assumption, t := TT, bM := fun i c hc => kitTab_get DKt (j := 12) (show ([.ref c_NoHead, .ref c_NoProgram, .ref c_NoText, .ref c_NoStock, .ref c_NoAnswer, .ref c_NoInputs, .ref c_Clash, .ref c_NoRow, .ref c_NoQuestion, .ref c_NoDoer, .ref c_NotKept, .ref c_NoName] : List Value)[i]? = some (.ref c) by rw [show ([.ref c_NoHead, .ref c_NoProgram, .ref c_NoText, .ref c_NoStock, .ref c_NoAnswer, .ref c_NoInputs, .ref c_Clash, .ref c_NoRow, .ref c_NoQuestion, .ref c_NoDoer, .ref c_NotKept, .ref c_NoName] : List Value) = ([c_NoHead, c_NoProgram, c_NoText, c_NoStock, c_NoAnswer, c_NoInputs, c_Clash, c_NoRow, c_NoQuestion, c_NoDoer, c_NotKept, c_NoName] : List Addr).map Value.ref from rfl, List.getElem?_map, hc]; rfl) rfl, bV := fun i c hc => kitTab_get DKt (j := 13) (show ([.ref c_NoHead, .ref c_NoProgram, .ref c_NoText, .ref c_NoStock, .ref c_NoAnswer, .ref c_NoInputs, .ref c_Clash, .ref c_NoRow, .ref c_NoQuestion, .ref c_NoDoer, .ref c_NotKept, .ref c_NoName] : List Value)[i]? = some (.ref c) by rw [show ([.ref c_NoHead, .ref c_NoProgram, .ref c_NoText, .ref c_NoStock, .ref c_NoAnswer, .ref c_NoInputs, .ref c_Clash, .ref c_NoRow, .ref c_NoQuestion, .ref c_NoDoer, .ref c_NotKept, .ref c_NoName] : List Value) = ([c_NoHead, c_NoProgram, c_NoText, c_NoStock, c_NoAnswer, c_NoInputs, c_Clash, c_NoRow, c_NoQuestion, c_NoDoer, c_NotKept, c_NoName] : List Addr).map Value.ref from rfl, List.getElem?_map, hc]; rfl) rfl, bL := fun i c hc => kitTab_get DKt (j := 14) (show ([.ref c_NoHead, .ref c_NoProgram, .ref c_NoText, .ref c_NoStock, .ref c_NoAnswer, .ref c_NoInputs, .ref c_Clash, .ref c_NoRow, .ref c_NoQuestion, .ref c_NoDoer, .ref c_NotKept, .ref c_NoName] : List Value)[i]? = some (.ref c) by rw [show ([.ref c_NoHead, .ref c_NoProgram, .ref c_NoText, .ref c_NoStock, .ref c_NoAnswer, .ref c_NoInputs, .ref c_Clash, .ref c_NoRow, .ref c_NoQuestion, .ref c_NoDoer, .ref c_NotKept, .ref c_NoName] : List Value) = ([c_NoHead, c_NoProgram, c_NoText, c_NoStock, c_NoAnswer, c_NoInputs, c_Clash, c_NoRow, c_NoQuestion, c_NoDoer, c_NotKept, c_NoName] : List Addr).map Value.ref from rfl, List.getElem?_map, hc]; rfl) rfl, bI := fun i c hc => kitTab_get DKt (j := 15) (show ([.ref c_NoHead, .ref c_NoProgram, .ref c_NoText, .ref c_NoStock, .ref c_NoAnswer, .ref c_NoInputs, .ref c_Clash, .ref c_NoRow, .ref c_NoQuestion, .ref c_NoDoer, .ref c_NotKept, .ref c_NoName] : List Value)[i]? = some (.ref c) by rw [show ([.ref c_NoHead, .ref c_NoProgram, .ref c_NoText, .ref c_NoStock, .ref c_NoAnswer, .ref c_NoInputs, .ref c_Clash, .ref c_NoRow, .ref c_NoQuestion, .ref c_NoDoer, .ref c_NotKept, .ref c_NoName] : List Value) = ([c_NoHead, c_NoProgram, c_NoText, c_NoStock, c_NoAnswer, c_NoInputs, c_Clash, c_NoRow, c_NoQuestion, c_NoDoer, c_NotKept, c_NoName] : List Addr).map Value.ref from rfl, List.getElem?_map, hc]; rfl) rfl, bK := fun i c hc => kitTab_get DKt (j := 16) (show ([.ref c_NoHead, .ref c_NoProgram, .ref c_NoText, .ref c_NoStock, .ref c_NoAnswer, .ref c_NoInputs, .ref c_Clash, .ref c_NoRow, .ref c_NoQuestion, .ref c_NoDoer, .ref c_NotKept, .ref c_NoName] : List Value)[i]? = some (.ref c) by rw [show ([.ref c_NoHead, .ref c_NoProgram, .ref c_NoText, .ref c_NoStock, .ref c_NoAnswer, .ref c_NoInputs, .ref c_Clash, .ref c_NoRow, .ref c_NoQuestion, .ref c_NoDoer, .ref c_NotKept, .ref c_NoName] : List Value) = ([c_NoHead, c_NoProgram, c_NoText, c_NoStock, c_NoAnswer, c_NoInputs, c_Clash, c_NoRow, c_NoQuestion, c_NoDoer, c_NotKept, c_NoName] : List Addr).map Value.ref from rfl, List.getElem?_map, hc]; rfl) rfl }
  have B : Bt mg := ⟨PySem.W.mg_none_of X G z0, PySem.W.mg_none_of X G z1, PySem.W.mg_none_of X G z2, PySem.W.mg_none_of X G z3, PySem.W.mg_none_of X G z4, PySem.W.mg_none_of X G z5, PySem.W.mg_none_of X G z6, PySem.W.mg_none_of X G z7, PySem.W.mg_none_of X G z8, PySem.W.mg_none_of X G z9, PySem.W.mg_none_of X G z10, PySem.W.mg_none_of X G z11, PySem.W.mg_none_of X G z12, PySem.W.mg_none_of X G z13, PySem.W.mg_none_of X G z14, PySem.W.mg_none_of X G z15, PySem.W.mg_none_of X G z16, PySem.W.mg_none_of X G z17, PySem.W.mg_none_of X G z18, PySem.W.mg_none_of X G z19⟩
  refine ⟨PySem.W.fnOf "law" "law" (defArgs s_law) (defBody s_law) (defScope s_law) .none kV9 dc9 pm9 an9 cd9 ct9, fun s v => .of_eq rfl, fun base _ _ => ?_⟩
  -- EXV
  have C_cell := ok_l_cell (P := l.prog) (w := w) (base := base) B D_l_cell
  have C_flow := ok_l_flow C_cell D_l_flow
  have C_draw := ok_l_draw (P := l.prog) (w := w) (base := base) D_l_draw
  have C_alike := ok_l_alike (P := l.prog) (w := w) (base := base) (K := K) B D_l_alike
  have C_thing := ok_l_thing B C_draw D_l_thing
  have C_sorts := ok_l_sorts (P := l.prog) (w := w) (base := base) B T D_l_sorts
  have C_bases := ok_l_bases (P := l.prog) (w := w) (base := base) B T D_l_bases
  have C_due := ok_l_bases_due (P := l.prog) (w := w) (base := base) (K := K) D_l_bases_due
  have C_right := ok_l_right B (cM := cM) C_thing C_alike C_sorts C_bases C_due R_NoHead R_NoProgram R_NoText R_NoStock R_NoAnswer R_NoInputs R_Clash R_NoDoer R_NotKept R_NoName R_NoRow R_NoQuestion KB_NoHead KB_NoStock KB_Clash KB_NoDoer D_l_right
  exact ok_law B C_flow C_right (fun_mk l9 c9 k9)

end Lm
open PySem PySem.W PyProof.Rows
set_option maxRecDepth 100000 in
set_option maxHeartbeats 0 in
theorem PySem.Challenge.cw_leastmaker_k01_refusals_holds : PySem.Challenge.rw_leastmaker_k01_refusals.Holds := by
  w_on; o_law; k_head; (case hw => w_witness2)
  k_fill
  refine L2.walk_of (l := PySem.Challenge.rw_leastmaker_k01_refusals) (n := 63) (k := 5) (x := "_law_script") (CX := fun _ => L2.CX0) (sp := fun w => Lm.spLaw _) rfl (by decide) rfl ⟨rfl, by decide, by decide⟩ (fun w h Y => PySem.W.kIn_of Y) ?F (fun _ _ a ns hl _ hS => ⟨a, ns, rfl, hS, hl, fun _ => rfl⟩) (fun _ _ _ _ _ h => h)
  case F =>
    intro w mg fa h KX G hmg
    refine' Lm.all_mk KX G hmg ?a0 ?l0 ?c0 ?k0 ?a1 ?l1 ?c1 ?k1 ?a2 ?l2 ?c2 ?k2 ?a3 ?l3 ?c3 ?k3 ?a4 ?l4 ?c4 ?k4 ?a5 ?l5 ?c5 ?k5 ?a6 ?l6 ?c6 ?k6 ?a7 ?l7 ?c7 ?k7 ?a8 ?l8 ?c8 ?k8 ?a9 ?l9 ?c9 ?k9 ?z0 ?z1 ?z2 ?z3 ?z4 ?z5 ?z6 ?z7 ?z8 ?z9 ?z10 ?z11 ?z12 ?z13 ?z14 ?z15 ?z16 ?z17 ?z18 ?z19 ?a_NoHead ?ga_NoHead ?gg_NoHead ?ca_NoHead ?ex_NoHead ?is_NoHead ?gn_NoHead ?tk_NoHead ?ob_NoHead ?kc_NoHead ?iv_NoHead ?lv_NoHead ?cv_NoHead ?kf_NoHead ?tv_NoHead ?hd_NoHead ?sa_NoHead ?DKq_NoHead ?DKo_NoHead ?f0_NoHead ?f1_NoHead ?a_NoProgram ?ga_NoProgram ?gg_NoProgram ?ca_NoProgram ?ex_NoProgram ?is_NoProgram ?gn_NoProgram ?tk_NoProgram ?ob_NoProgram ?kc_NoProgram ?iv_NoProgram ?lv_NoProgram ?cv_NoProgram ?kf_NoProgram ?tv_NoProgram ?hd_NoProgram ?sa_NoProgram ?DKq_NoProgram ?DKo_NoProgram ?f0_NoProgram ?f1_NoProgram ?a_NoText ?ga_NoText ?gg_NoText ?ca_NoText ?ex_NoText ?is_NoText ?gn_NoText ?tk_NoText ?ob_NoText ?kc_NoText ?iv_NoText ?lv_NoText ?cv_NoText ?kf_NoText ?tv_NoText ?hd_NoText ?sa_NoText ?DKq_NoText ?DKo_NoText ?f0_NoText ?a_NoStock ?ga_NoStock ?gg_NoStock ?ca_NoStock ?ex_NoStock ?is_NoStock ?gn_NoStock ?tk_NoStock ?ob_NoStock ?kc_NoStock ?iv_NoStock ?lv_NoStock ?cv_NoStock ?kf_NoStock ?tv_NoStock ?hd_NoStock ?sa_NoStock ?DKq_NoStock ?DKo_NoStock ?f0_NoStock ?f1_NoStock ?a_NoAnswer ?ga_NoAnswer ?gg_NoAnswer ?ca_NoAnswer ?ex_NoAnswer ?is_NoAnswer ?gn_NoAnswer ?tk_NoAnswer ?ob_NoAnswer ?kc_NoAnswer ?iv_NoAnswer ?lv_NoAnswer ?cv_NoAnswer ?kf_NoAnswer ?tv_NoAnswer ?hd_NoAnswer ?sa_NoAnswer ?DKq_NoAnswer ?DKo_NoAnswer ?f0_NoAnswer ?a_NoInputs ?ga_NoInputs ?gg_NoInputs ?ca_NoInputs ?ex_NoInputs ?is_NoInputs ?gn_NoInputs ?tk_NoInputs ?ob_NoInputs ?kc_NoInputs ?iv_NoInputs ?lv_NoInputs ?cv_NoInputs ?kf_NoInputs ?tv_NoInputs ?hd_NoInputs ?sa_NoInputs ?DKq_NoInputs ?DKo_NoInputs ?f0_NoInputs ?a_Clash ?ga_Clash ?gg_Clash ?ca_Clash ?ex_Clash ?is_Clash ?gn_Clash ?tk_Clash ?ob_Clash ?kc_Clash ?iv_Clash ?lv_Clash ?cv_Clash ?kf_Clash ?tv_Clash ?hd_Clash ?sa_Clash ?DKq_Clash ?DKo_Clash ?f0_Clash ?f1_Clash ?a_NoRow ?ga_NoRow ?gg_NoRow ?ca_NoRow ?ex_NoRow ?is_NoRow ?gn_NoRow ?tk_NoRow ?ob_NoRow ?kc_NoRow ?DKx_NoRow ?a_NoQuestion ?ga_NoQuestion ?gg_NoQuestion ?ca_NoQuestion ?ex_NoQuestion ?is_NoQuestion ?gn_NoQuestion ?tk_NoQuestion ?ob_NoQuestion ?kc_NoQuestion ?DKx_NoQuestion ?a_NoDoer ?ga_NoDoer ?gg_NoDoer ?ca_NoDoer ?ex_NoDoer ?is_NoDoer ?gn_NoDoer ?tk_NoDoer ?ob_NoDoer ?kc_NoDoer ?iv_NoDoer ?lv_NoDoer ?cv_NoDoer ?kf_NoDoer ?tv_NoDoer ?hd_NoDoer ?sa_NoDoer ?DKq_NoDoer ?DKo_NoDoer ?f0_NoDoer ?a_NotKept ?ga_NotKept ?gg_NotKept ?ca_NotKept ?ex_NotKept ?is_NotKept ?gn_NotKept ?tk_NotKept ?ob_NotKept ?kc_NotKept ?iv_NotKept ?lv_NotKept ?cv_NotKept ?kf_NotKept ?tv_NotKept ?hd_NotKept ?sa_NotKept ?DKq_NotKept ?DKo_NotKept ?f0_NotKept ?a_NoName ?ga_NoName ?gg_NoName ?ca_NoName ?ex_NoName ?is_NoName ?gn_NoName ?tk_NoName ?ob_NoName ?kc_NoName ?iv_NoName ?lv_NoName ?cv_NoName ?kf_NoName ?tv_NoName ?hd_NoName ?sa_NoName ?DKq_NoName ?DKo_NoName ?f0_NoName ?aM ?zb_ValueError ?zb_LookupError ?zb_IndexError ?zb_KeyError ?DKt
    (case a0 => k_is)
    (case l0 => k_is)
    (case c0 => k_is)
    (case k0 => k_is)
    (case a1 => k_is)
    (case l1 => k_is)
    (case c1 => k_is)
    (case k1 => k_is)
    (case a2 => k_is)
    (case l2 => k_is)
    (case c2 => k_is)
    (case k2 => k_is)
    (case a3 => k_is)
    (case l3 => k_is)
    (case c3 => k_is)
    (case k3 => k_is)
    (case a4 => k_is)
    (case l4 => k_is)
    (case c4 => k_is)
    (case k4 => k_is)
    (case a5 => k_is)
    (case l5 => k_is)
    (case c5 => k_is)
    (case k5 => k_is)
    (case a6 => k_is)
    (case l6 => k_is)
    (case c6 => k_is)
    (case k6 => k_is)
    (case a7 => k_is)
    (case l7 => k_is)
    (case c7 => k_is)
    (case k7 => k_is)
    (case a8 => k_is)
    (case l8 => k_is)
    (case c8 => k_is)
    (case k8 => k_is)
    (case a9 => k_is)
    (case l9 => k_is)
    (case c9 => k_is)
    (case k9 => k_is)
    (case z0 => k_is)
    (case z1 => k_is)
    (case z2 => k_is)
    (case z3 => k_is)
    (case z4 => k_is)
    (case z5 => k_is)
    (case z6 => k_is)
    (case z7 => k_is)
    (case z8 => k_is)
    (case z9 => k_is)
    (case z10 => k_is)
    (case z11 => k_is)
    (case z12 => k_is)
    (case z13 => k_is)
    (case z14 => k_is)
    (case z15 => k_is)
    (case z16 => k_is)
    (case z17 => k_is)
    (case z18 => k_is)
    (case z19 => k_is)
    (case a_NoHead => k_is)
    (case ga_NoHead => k_is)
    (case gg_NoHead => k_is)
    (case ca_NoHead => k_is)
    (case ex_NoHead => k_is)
    (case is_NoHead => k_is)
    (case gn_NoHead => first | rfl | k_is)
    (case tk_NoHead => first | rfl | k_is)
    (case ob_NoHead => first | rfl | k_is)
    (case kc_NoHead => k_is)
    (case iv_NoHead => k_is)
    (case lv_NoHead => k_is)
    (case cv_NoHead => k_is)
    (case kf_NoHead => k_is)
    (case tv_NoHead => k_is)
    (case hd_NoHead => k_is)
    (case sa_NoHead => k_is)
    (case DKq_NoHead => kernel_rfl)
    (case DKo_NoHead => kernel_rfl)
    (case f0_NoHead => k_is)
    (case f1_NoHead => k_is)
    (case a_NoProgram => k_is)
    (case ga_NoProgram => k_is)
    (case gg_NoProgram => k_is)
    (case ca_NoProgram => k_is)
    (case ex_NoProgram => k_is)
    (case is_NoProgram => k_is)
    (case gn_NoProgram => first | rfl | k_is)
    (case tk_NoProgram => first | rfl | k_is)
    (case ob_NoProgram => first | rfl | k_is)
    (case kc_NoProgram => k_is)
    (case iv_NoProgram => k_is)
    (case lv_NoProgram => k_is)
    (case cv_NoProgram => k_is)
    (case kf_NoProgram => k_is)
    (case tv_NoProgram => k_is)
    (case hd_NoProgram => k_is)
    (case sa_NoProgram => k_is)
    (case DKq_NoProgram => kernel_rfl)
    (case DKo_NoProgram => kernel_rfl)
    (case f0_NoProgram => k_is)
    (case f1_NoProgram => k_is)
    (case a_NoText => k_is)
    (case ga_NoText => k_is)
    (case gg_NoText => k_is)
    (case ca_NoText => k_is)
    (case ex_NoText => k_is)
    (case is_NoText => k_is)
    (case gn_NoText => first | rfl | k_is)
    (case tk_NoText => first | rfl | k_is)
    (case ob_NoText => first | rfl | k_is)
    (case kc_NoText => k_is)
    (case iv_NoText => k_is)
    (case lv_NoText => k_is)
    (case cv_NoText => k_is)
    (case kf_NoText => k_is)
    (case tv_NoText => k_is)
    (case hd_NoText => k_is)
    (case sa_NoText => k_is)
    (case DKq_NoText => kernel_rfl)
    (case DKo_NoText => kernel_rfl)
    (case f0_NoText => k_is)
    (case a_NoStock => k_is)
    (case ga_NoStock => k_is)
    (case gg_NoStock => k_is)
    (case ca_NoStock => k_is)
    (case ex_NoStock => k_is)
    (case is_NoStock => k_is)
    (case gn_NoStock => first | rfl | k_is)
    (case tk_NoStock => first | rfl | k_is)
    (case ob_NoStock => first | rfl | k_is)
    (case kc_NoStock => k_is)
    (case iv_NoStock => k_is)
    (case lv_NoStock => k_is)
    (case cv_NoStock => k_is)
    (case kf_NoStock => k_is)
    (case tv_NoStock => k_is)
    (case hd_NoStock => k_is)
    (case sa_NoStock => k_is)
    (case DKq_NoStock => kernel_rfl)
    (case DKo_NoStock => kernel_rfl)
    (case f0_NoStock => k_is)
    (case f1_NoStock => k_is)
    (case a_NoAnswer => k_is)
    (case ga_NoAnswer => k_is)
    (case gg_NoAnswer => k_is)
    (case ca_NoAnswer => k_is)
    (case ex_NoAnswer => k_is)
    (case is_NoAnswer => k_is)
    (case gn_NoAnswer => first | rfl | k_is)
    (case tk_NoAnswer => first | rfl | k_is)
    (case ob_NoAnswer => first | rfl | k_is)
    (case kc_NoAnswer => k_is)
    (case iv_NoAnswer => k_is)
    (case lv_NoAnswer => k_is)
    (case cv_NoAnswer => k_is)
    (case kf_NoAnswer => k_is)
    (case tv_NoAnswer => k_is)
    (case hd_NoAnswer => k_is)
    (case sa_NoAnswer => k_is)
    (case DKq_NoAnswer => kernel_rfl)
    (case DKo_NoAnswer => kernel_rfl)
    (case f0_NoAnswer => k_is)
    (case a_NoInputs => k_is)
    (case ga_NoInputs => k_is)
    (case gg_NoInputs => k_is)
    (case ca_NoInputs => k_is)
    (case ex_NoInputs => k_is)
    (case is_NoInputs => k_is)
    (case gn_NoInputs => first | rfl | k_is)
    (case tk_NoInputs => first | rfl | k_is)
    (case ob_NoInputs => first | rfl | k_is)
    (case kc_NoInputs => k_is)
    (case iv_NoInputs => k_is)
    (case lv_NoInputs => k_is)
    (case cv_NoInputs => k_is)
    (case kf_NoInputs => k_is)
    (case tv_NoInputs => k_is)
    (case hd_NoInputs => k_is)
    (case sa_NoInputs => k_is)
    (case DKq_NoInputs => kernel_rfl)
    (case DKo_NoInputs => kernel_rfl)
    (case f0_NoInputs => k_is)
    (case a_Clash => k_is)
    (case ga_Clash => k_is)
    (case gg_Clash => k_is)
    (case ca_Clash => k_is)
    (case ex_Clash => k_is)
    (case is_Clash => k_is)
    (case gn_Clash => first | rfl | k_is)
    (case tk_Clash => first | rfl | k_is)
    (case ob_Clash => first | rfl | k_is)
    (case kc_Clash => k_is)
    (case iv_Clash => k_is)
    (case lv_Clash => k_is)
    (case cv_Clash => k_is)
    (case kf_Clash => k_is)
    (case tv_Clash => k_is)
    (case hd_Clash => k_is)
    (case sa_Clash => k_is)
    (case DKq_Clash => kernel_rfl)
    (case DKo_Clash => kernel_rfl)
    (case f0_Clash => k_is)
    (case f1_Clash => k_is)
    (case a_NoRow => k_is)
    (case ga_NoRow => k_is)
    (case gg_NoRow => k_is)
    (case ca_NoRow => k_is)
    (case ex_NoRow => k_is)
    (case is_NoRow => k_is)
    (case gn_NoRow => first | rfl | k_is)
    (case tk_NoRow => first | rfl | k_is)
    (case ob_NoRow => first | rfl | k_is)
    (case kc_NoRow => k_is)
    (case DKx_NoRow => kernel_rfl)
    (case a_NoQuestion => k_is)
    (case ga_NoQuestion => k_is)
    (case gg_NoQuestion => k_is)
    (case ca_NoQuestion => k_is)
    (case ex_NoQuestion => k_is)
    (case is_NoQuestion => k_is)
    (case gn_NoQuestion => first | rfl | k_is)
    (case tk_NoQuestion => first | rfl | k_is)
    (case ob_NoQuestion => first | rfl | k_is)
    (case kc_NoQuestion => k_is)
    (case DKx_NoQuestion => kernel_rfl)
    (case a_NoDoer => k_is)
    (case ga_NoDoer => k_is)
    (case gg_NoDoer => k_is)
    (case ca_NoDoer => k_is)
    (case ex_NoDoer => k_is)
    (case is_NoDoer => k_is)
    (case gn_NoDoer => first | rfl | k_is)
    (case tk_NoDoer => first | rfl | k_is)
    (case ob_NoDoer => first | rfl | k_is)
    (case kc_NoDoer => k_is)
    (case iv_NoDoer => k_is)
    (case lv_NoDoer => k_is)
    (case cv_NoDoer => k_is)
    (case kf_NoDoer => k_is)
    (case tv_NoDoer => k_is)
    (case hd_NoDoer => k_is)
    (case sa_NoDoer => k_is)
    (case DKq_NoDoer => kernel_rfl)
    (case DKo_NoDoer => kernel_rfl)
    (case f0_NoDoer => k_is)
    (case a_NotKept => k_is)
    (case ga_NotKept => k_is)
    (case gg_NotKept => k_is)
    (case ca_NotKept => k_is)
    (case ex_NotKept => k_is)
    (case is_NotKept => k_is)
    (case gn_NotKept => first | rfl | k_is)
    (case tk_NotKept => first | rfl | k_is)
    (case ob_NotKept => first | rfl | k_is)
    (case kc_NotKept => k_is)
    (case iv_NotKept => k_is)
    (case lv_NotKept => k_is)
    (case cv_NotKept => k_is)
    (case kf_NotKept => k_is)
    (case tv_NotKept => k_is)
    (case hd_NotKept => k_is)
    (case sa_NotKept => k_is)
    (case DKq_NotKept => kernel_rfl)
    (case DKo_NotKept => kernel_rfl)
    (case f0_NotKept => k_is)
    (case a_NoName => k_is)
    (case ga_NoName => k_is)
    (case gg_NoName => k_is)
    (case ca_NoName => k_is)
    (case ex_NoName => k_is)
    (case is_NoName => k_is)
    (case gn_NoName => first | rfl | k_is)
    (case tk_NoName => first | rfl | k_is)
    (case ob_NoName => first | rfl | k_is)
    (case kc_NoName => k_is)
    (case iv_NoName => k_is)
    (case lv_NoName => k_is)
    (case cv_NoName => k_is)
    (case kf_NoName => k_is)
    (case tv_NoName => k_is)
    (case hd_NoName => k_is)
    (case sa_NoName => k_is)
    (case DKq_NoName => kernel_rfl)
    (case DKo_NoName => kernel_rfl)
    (case f0_NoName => k_is)
    (case aM => k_is)
    (case zb_ValueError => k_is)
    (case zb_LookupError => k_is)
    (case zb_IndexError => k_is)
    (case zb_KeyError => k_is)
    (case DKt => kernel_rfl)

