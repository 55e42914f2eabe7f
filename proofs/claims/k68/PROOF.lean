import PyProof.Rows.All
import Wide.All
import OpenK.AllK
import Wide.FinOn
import HandS.ForMost
import HandS.IsInst
import HandS.TupAny
import HandS.Flow
import HandS.Style
import HandS.RevRange
import HandS.Conv
import HandS.More
import HandS.Zip
import KE.KDictZip
import KE.KDictList
import KE.KRevSl
import HandS.Codes
import HandS.ForExc
import HandS.ExcInit
import HandS.ExcField
import HandS.HotCalls
import HandS.SetFor
import KE.KExcIs
import KE.GoesEnum
import KE.GoesMore
import HandS.Star
import HandS.ExcOwn
import HandS.WordsExc
import HandS.Defaults
import HandS.Walk
import HandS.List
import HandS.Deep
import KE.DatumOrd
import KE.KExcInit
import HandS.ExcValue
import HandS.MakeKw
import KE.KWithOwn
import HandS.Finally
import KE.DataEq
import HandS.Dict
import HandS.DictEq
import HandS.Iter
import HandS.ListItems
import HandS.WordsDict
import HandS.MakeKwOnly
import OpenK.KOps
import HandS.FStr
import HandS.TryMany
import HandS.Small
import HandS.DictTup
import HandS.TupLe
import PySem.Challenge.RW_leastmaker_k68_refused_in_the_middle
set_option Elab.async false
set_option linter.all false
set_option maxRecDepth 100000
set_option maxHeartbeats 2000000
namespace LmR
open PySem PySem.Spec PyProof.Rows L2
/-! ### t[::-1] of a tuple -/
section
variable {prog : Program} {w : World} {A : Around} {E : Value → Shared → Prop} {s : Shared}
theorem pick_rev (xs : Array Value) : ((List.range xs.size).filterMap fun (m : Nat) => xs[(((xs.size : Int) - 1) + (m : Int) * (-1)).toNat]?).toArray = xs.toList.reverse.toArray := by
  congr 1
  have e : ∀ n, n ≤ xs.size → ((List.range n).filterMap fun (m : Nat) => xs[(((xs.size : Int) - 1) + (m : Int) * (-1)).toNat]?) = (xs.toList.reverse).take n := by
    intro n
    induction n with
    | zero => intro _; rfl
    | succ n ih =>
      intro h
      rw [List.range_succ, List.filterMap_append, ih (by omega), List.take_add_one]
      congr 1
      have e1 : (((xs.size : Int) - 1) + (n : Int) * (-1)).toNat = xs.size - 1 - n := by omega
      have e2 : xs.toList.reverse[n]? = xs[xs.size - 1 - n]? := by
        rw [List.getElem?_reverse (by rw [Array.length_toList]; omega), Array.length_toList, Array.getElem?_toList]
      rw [e2]
      have hlt : xs.size - 1 - n < xs.size := by omega
      simp only [List.filterMap_cons, List.filterMap_nil]
      rw [e1, Array.getElem?_eq_getElem hlt]
      rfl
  rw [e xs.size (Nat.le_refl _)]
  exact List.take_of_length_le (by rw [List.length_reverse, Array.length_toList]; exact Nat.le_refl _)
theorem rev_applied {sl : Addr} {vl vu vs : Value} {n : Nat} {Q : Int × Int × Nat → Shared → Prop} (hs : s.heap.IsSliceOf sl vl vu vs) (pl : IsPart vl none) (pu : IsPart vu none) (ps : IsPart vs (some (-1)))
    (h : Q ((n : Int) - 1, -1, n) s) : wpAny (model prog w) A (Builtin.Slice.sliceApplied (.ref sl) (pure (n : Int))) Q E s := by
  obtain ⟨os, hos, hcs, hds⟩ := id hs
  unfold Builtin.Slice.sliceApplied Builtin.Slice.sliceFields
  refine wpAny_bind (wpAny_bind (wpAny_field hos hds (x := vl) rfl (wpAny_bind (wpAny_field hos hds (x := vu) rfl (wpAny_bind (wpAny_field hos hds (x := vs) rfl (wpAny_pure ?_)))))))
  refine wpAny_bind (HT.slicePart_ ps ?_)
  show wpAny _ _ (if ((-1 : Int) == 0) = true then _ else _) _ _ s
  rw [if_neg (by decide)]
  refine wpAny_bind (HT.slicePart_ pl (wpAny_bind (HT.slicePart_ pu (wpAny_bind (wpAny_pure ?_)))))
  have e : Builtin.Slice.sliceAdjust none none (-1) (n : Int) = ((n : Int) - 1, -1) := by
    simp [Builtin.Slice.sliceAdjust]
  have e2 : Builtin.Slice.slicePlaces ((n : Int) - 1) (-1) (-1) = n := by
    unfold Builtin.Slice.slicePlaces
    simp
    omega
  show wpAny _ _ (match Builtin.Slice.sliceAdjust none none (-1) (n : Int) with | (lo, hi) => pure (lo, (-1 : Int), Builtin.Slice.slicePlaces lo hi (-1))) _ _ s
  rw [e]
  show wpAny _ _ (pure ((n : Int) - 1, (-1 : Int), Builtin.Slice.slicePlaces ((n : Int) - 1) (-1) (-1))) _ _ s
  rw [e2]
  exact wpAny_pure h
theorem getItem_tuple_rev {t sl : Addr} {items : Array Value} {vl vu vs : Value} {Q : Value → Shared → Prop} (ht : IsTup s.heap t items) (hs : s.heap.IsSliceOf sl vl vu vs) (pl : IsPart vl none) (pu : IsPart vu none) (ps : IsPart vs (some (-1)))
    (h : Q (.ref s.heap.objs.size) { s with heap := s.heap.push { cls := .type "tuple", data := .seq items.toList.reverse.toArray } })
    (hsz : items.size ≤ sizeLine) : wpAny (model prog w) A (getItem (.ref t) (.ref sl)) Q E s := by
  have htake : sizeOk (.seq items.toList.reverse.toArray) := by
    show (items.toList.reverse).toArray.size ≤ sizeLine
    rw [List.size_toArray, List.length_reverse, Array.length_toList]
    omega
  obtain ⟨os, hos, hcs, hds⟩ := id hs
  have hTs : s.TypeIs (.ref sl) "slice" := ⟨os, hos, hcs⟩
  unfold getItem
  try with_reducible refine wpAny_holding ?_
  first | refine wpAny_bind (wpAny_pure ?_) | skip
  refine wpAny_bind (wpAny_sequenceKey ht.typeIs (by decide) ?_)
  refine wpAny_bind (wpAny_callSpecial?_slot (name := Str.ofString "__getitem__") ht.typeIs PyProof.Rows.slot_tuple_getitem
    (wpAny_call_entry PyProof.Rows.slot_tuple_getitem ht.typeIs PyProof.Rows.entry_tuple_getitem ?_ (PyProof.Rows.args_tuple_getitem _ _)))
  show wpAny _ _ (Builtin.Tuple.tupleItemsOf (.ref t) >>= _) _ _ s
  refine wpAny_bind (PyProof.Rows.tupleItemsOf_ ht ?_)
  refine wpAny_bind (wpAny_typeOf hTs ?_)
  rw [if_pos (by decide)]
  refine wpAny_bind (rev_applied hs pl pu ps ?_)
  have hno : ¬ (((items.size : Int) - 1 == 0 && (-1 : Int) == 1 && items.size == items.size) = true) := by
    intro q
    rw [Bool.and_eq_true, Bool.and_eq_true] at q
    exact absurd q.1.2 (by decide)
  show wpAny _ _ (if ((items.size : Int) - 1 == 0 && (-1 : Int) == 1 && items.size == items.size) = true then _ else _) _ _ s
  rw [if_neg hno, pick_rev]
  first
    | exact wpAny_bind (m := Builtin.Tuple.tupleExact _) (wpAny_newObj_type (wpAny_pure ⟨_, rfl, wpAny_pure h⟩) htake)
    | exact wpAny_bind (m := Builtin.Tuple.tupleExact _) (wpAny_newObj_type (wpAny_bind (wpAny_pure (wpAny_pure ⟨_, rfl, wpAny_pure h⟩))) htake)
    | exact wpAny_bind (wpAny_bind (m := Builtin.Tuple.tupleExact _) (wpAny_newObj_type (wpAny_pure (wpAny_pure ⟨_, rfl, wpAny_pure h⟩)) htake))
    | exact wpAny_bind (wpAny_bind (m := Builtin.Tuple.tupleExact _) (wpAny_newObj_type (wpAny_pure ⟨_, rfl, wpAny_pure h⟩) htake))
end
def tRevT (K : PySem.W.Frag) (te : TE) : TE := fun σ H Q => te σ H fun x H1 => ∃ a xs, x = .ref a ∧ SqT K H1 a xs ∧ ∀ p, H1 p = none → Q (.ref p) (upd H1 p (.tup xs.reverse))
section
variable {X : Cx}
theorem pe_revT {e : Expr} {te : TE} {k : Nat} {p1 p2 p3 pos : Pos} (he : PE X e te) : PE X (.Subscript e (.Slice none none (some (.UnaryOp .USub (.Constant (.int 1) k p1) p2)) p3) pos) (tRevT X.K te) := by
  refine ⟨fun pins s σ H Q I h => ?_⟩
  refine Subscript_ (thn (he.run pins s σ H _ I h) fun v s1 ⟨x, H1, I1, r1, q1⟩ => ?_)
  obtain ⟨a, xs, ex, hx, q⟩ := q1
  subst ex
  cases r1
  have hst : PO X (some (.UnaryOp .USub (.Constant (.int 1) k p1) p2)) (tPart (tUn (rU fun i => .int (-i)) (tC (.int 1)))) := po_some (pe_un un_neg pe_int)
  refine wpAny_Slice (thn (po_none.run pins s1 σ H1 (fun o H2 => o = none ∧ H2 = H1) I1 ⟨rfl, rfl⟩) fun vl s2 ⟨l, H2, I2, pl, el, e2⟩ => ?_)
  subst el e2
  refine thn (po_none.run pins s2 σ H2 (fun o H3 => o = none ∧ H3 = H2) I2 ⟨rfl, rfl⟩) fun vu s3 ⟨u, H3, I3, pu, eu, e3⟩ => ?_
  subst eu e3
  refine thn (hst.run pins s3 σ H3 (fun o H4 => o = some (-1) ∧ H4 = H3) I3 ⟨1, rfl, -1, rfl, rfl, rfl⟩) fun vs s4 ⟨o, H4, I4, ps, eo, e4⟩ => ?_
  subst eo e4
  have I5 : Inv X pins σ H4 { s4 with heap := s4.heap.push { cls := .type "slice", data := .fields #[vl, vu, vs] } } := I4.kept (t' := s4.toks) fun b ob q => Heap.get?_push_of_some _ q
  obtain ⟨its, r, ht, hz⟩ := I5.tuple hx
  have hlen := r.length
  show wpAny (model X.prog X.w) X.A (subscriptTail e (.Slice none none (some (.UnaryOp .USub (.Constant (.int 1) k p1) p2)) p3) (.ref a) (.ref s4.heap.objs.size)) (EP X pins σ Q) X.xe { s4 with heap := s4.heap.push { cls := .type "slice", data := .fields #[vl, vu, vs] } }
  refine tail_any (ops := [.ref a, .ref s4.heap.objs.size]) ht.typeIs (PyProof.Rows.slot_tuple_getitem.lookup) ?_ (by with_unfolding_all rfl)
  refine getItem_tuple_rev ht (Heap.IsSliceOf.new _ vl vu vs) pl pu ps ?_ (by rw [List.size_toArray]; omega)
  refine ⟨.ref _, _, I5.laid (t' := s4.toks) (o := .tup xs.reverse) (fun b ob q => Heap.get?_push_of_some _ q) (Nat.le_refl _) ?_, rfl, q _ (I5.hok.fresh (Nat.le_refl _))⟩
  exact ⟨by rw [List.length_reverse]; exact hz, its.reverse, r.reverse, ⟨_, Heap.get?_push_size _ rfl, rfl, _, rfl⟩⟩
end
/-! ### l.extend(t), t a tuple -/
theorem extend_tuple (l : Addr) (items : Array Value) (n : Nat) (b : Addr) (items2 : Array Value) (n2 : Nat) (dd : Option Addr) (sl : Array (Option Value)) (hs0 : ¬(!items.isEmpty && Builtin.List.listTooLong (items.size + items2.size)) = true) (hs1 : items.size ≤ sizeLine) (hs2 : items.size + items2.size ≤ sizeLine + 1 := by seq_fits) :
    Meets (Builtin.«list.extend» ⟨[.ref l, .ref b], []⟩) (fun _ R s => s.heap.get? l = some { cls := .type "list", dict := none, data := .seq items n, slots := #[] } ∧ s.heap.get? b = some { cls := .type "tuple", dict := dd, data := .seq items2 n2, slots := sl } ∧ R (.ok (.ret Value.none)) { s with heap := s.heap.update l (Obj.mapSeq fun x => x ++ items2), toks := s.toks }) :=
  .of_wp fun prog w A R s h => by
    obtain ⟨hp, g, d, tk, os⟩ := s; obtain ⟨hl, hb, h⟩ := h; have f1 := AutoSeq1.idx_int; have f2 := AutoSeq1.sub_tuple_tuple; have f3 := AutoSeq1.sub_list_list; have f4 := AutoSeq1.sub_tuple_list; have f5 := AutoSeq1.sub_list_tuple;
    have hz' : (items ++ items2).size ≤ sizeLine + 1 := by rw [Array.size_append]; exact hs2
    wp_walk using (wpAny_updateSeq hl rfl (hz := hs1) (_hz' := hz')), wpAny_loadPart' hl, wpAny_loadPart' hb; exact ⟨_, rfl, h⟩
def rExtT (K : PySem.W.Frag) : V → List V → Hp → VK → Prop := fun x vs H Q => ∃ l b xs zs, x = .ref l ∧ vs = [.ref b] ∧ H l = some (.lst xs) ∧ SqT K H b zs ∧ xs.length + zs.length ≤ sizeLine ∧ Q .non (upd H l (.lst (xs ++ zs)))
theorem mt_extendT {X : Cx} : MtM X "list.extend" (rExtT X.K) := by
  intro pins s σ H x vs v us Q I rx rv h
  obtain ⟨l, b, xs, zs, rfl, rfl, hH, hB, hz, q⟩ := h
  cases rx
  obtain ⟨u, rfl, ru⟩ := rv.one
  cases ru
  obtain ⟨z, its, n, r, hl, e⟩ := I.lstM hH
  obtain ⟨its2, r2, ⟨⟨cls, dd, dt, sl⟩, ho, hc, n2, hd⟩, _⟩ := I.tuple hB
  simp only at hc hd
  subst hc hd
  have hl2 := r2.length
  have hsz : its.toArray.size + its2.toArray.size ≤ sizeLine := by rw [List.size_toArray, List.size_toArray]; omega
  have hlong : ¬ (!its.toArray.isEmpty && Builtin.List.listTooLong (its.toArray.size + its2.toArray.size)) = true := by
    rw [notLongL hsz, Bool.and_false]
    exact Bool.false_ne_true
  refine call_meets F.slot_list_extend ⟨_, e, rfl⟩ F.entry_list_extend (F.args_list_extend_2 _ _)
    (extend_tuple l its.toArray n b its2.toArray n2 dd sl hlong (by rw [List.size_toArray]; omega) (by omega)) ⟨e, ho, ?_⟩
  refine ⟨.non, _, I.lset (its' := its ++ its2) hH e (by simp) (r.append r2) ?_, rfl, q⟩
  rw [List.length_append]
  omega
end LmR

set_option Elab.async false
set_option linter.all false
set_option maxRecDepth 100000
set_option maxHeartbeats 2000000
namespace LmR
open PySem PySem.Spec PyProof.Rows L2 RZ
theorem zip_no_len : typeLookup (.type "zip") "__len__" = pure none := by rw [typeLookup_type, builtinLookup_eq_fast]; kernel_rfl
theorem zip_no_hint : typeLookup (.type "zip") "__length_hint__" = pure none := by rw [typeLookup_type, builtinLookup_eq_fast]; kernel_rfl
section
variable {prog : Program} {w : World} {A : Around} {E : Value → Shared → Prop} {s : Shared}
theorem zipT_item_held {z TI TO T i1 i2 l1 l2 : Addr} {f : Bool} {oT : Obj} {k1 k2 : Nat} {xs ys : Array Value} {x y : Value} {Q : Value → Shared → Prop} (D : ZipApart z TI TO i1 i2 l1 l2)
    (hz : IsZipHeld s.heap z TI TO T f) (hT : s.heap.get? T = some oT) (hTI : IsPair s.heap TI (.ref i1) (.ref i2))
    (h1 : s.heap.IsTupleIter i1 l1 k1) (h2 : s.heap.IsTupleIter i2 l2 k2) (hl1 : s.heap.IsTuple l1 xs) (hl2 : s.heap.IsTuple l2 ys) (hx : xs[k1]? = some x) (hy : ys[k2]? = some y)
    (hQ : ∀ h', IsZipHeld h' z TI TO T true → h'.IsTupleIter i1 l1 (k1 + 1) → h'.IsTupleIter i2 l2 (k2 + 1) → IsPair h' s.heap.objs.size x y → h'.objs.size = s.heap.objs.size + 1 →
      (∀ c o, c ≠ z → c ≠ i1 → c ≠ i2 → s.heap.get? c = some o → h'.get? c = some o) → Q (.ref s.heap.objs.size) { s with heap := h' }) :
    wpAny (model prog w) A (Builtin.«zip.__next__» ⟨[.ref z], []⟩) (fun fin s' => ∃ v, fin = .done (.ret v) ∧ Q v s') E s := by
  show wpAny _ _ (field (.ref z) 2 >>= _) _ _ _
  refine wpAny_bind (wpAny_field hz rfl (x := .bool false) rfl ?_)
  show wpAny _ _ (field (.ref z) 3 >>= _) _ _ _
  refine wpAny_bind (wpAny_field hz rfl (x := .ref TI) rfl ?_)
  refine wpAny_bind (wpAny_seqItems hTI rfl ?_)
  show wpAny _ _ (Builtin.SmallTypes.ownedTupleIsFree (.ref z) >>= _) _ _ _
  refine wpAny_bind (wpAny_tupleHeld_zip hz hT fun h₁ hz₁ hs₁ => ?_)
  simp only [Bool.false_eq_true, if_false]
  refine wpAny_bind ?_
  rw [← Array.forIn_toList]
  simp only [List.forIn_cons, List.forIn_nil]
  refine wpAny_bind (wpAny_bind (wpAny_holding ?_))
  show wpAny _ _ (Builtin.SmallTypes.nextOf (.ref i1) >>= _) _ _ _
  refine wpAny_bind (nextOf_tuple_item (s := { s with heap := h₁ }) (h1.extBut hs₁.extBut D.i1z) (hl1.extBut hs₁.extBut D.l1z) hx fun h₂ h1₂ hs₂ => wpAny_pure ?_)
  refine wpAny_pure ?_
  refine wpAny_bind (wpAny_bind (wpAny_holding ?_))
  show wpAny _ _ (Builtin.SmallTypes.nextOf (.ref i2) >>= _) _ _ _
  refine wpAny_bind (nextOf_tuple_item (s := { s with heap := h₂ }) ((h2.extBut hs₁.extBut D.i2z).extBut hs₂.extBut D.i12.symm) ((hl2.extBut hs₁.extBut D.l2z).extBut hs₂.extBut D.l2i1) hy fun h₃ h2₃ hs₃ => wpAny_pure ?_)
  refine wpAny_pure (wpAny_pure ?_)
  show wpAny _ _ (newTuple [x, y] >>= _) _ _ _
  refine wpAny_bind (wpAny_newTuple ?_)
  have hsz : h₃.objs.size = s.heap.objs.size := by rw [hs₃.1, hs₂.1, hs₁.1]
  have hz₃ : IsZipHeld h₃ z TI TO T true := hs₃.extBut _ _ D.i2z.symm (hs₂.extBut _ _ D.i1z.symm hz₁)
  have hk : ∀ c o, c ≠ z → c ≠ i1 → c ≠ i2 → s.heap.get? c = some o → h₃.get? c = some o := fun c o c1 c2 c3 e => hs₃.extBut _ _ c3 (hs₂.extBut _ _ c2 (hs₁.extBut _ _ c1 e))
  have h1₃ : h₃.IsTupleIter i1 l1 (k1 + 1) := h1₂.extBut hs₃.extBut D.i12
  refine wpAny_pure ⟨_, rfl, ?_⟩
  show Q (.ref h₃.objs.size) _
  have hp : IsPair (h₃.push { cls := .type "tuple", data := .seq #[x, y] }) h₃.objs.size x y := Heap.get?_push_size _ rfl
  have hz4 : (h₃.push { cls := .type "tuple", data := .seq #[x, y] }).objs.size = h₃.objs.size + 1 := Heap.size_push ..
  rw [hsz] at hp hz4 ⊢
  exact hQ _ (Heap.get?_push_of_some _ hz₃) (h1₃.at fun o e => Heap.get?_push_of_some _ e) (h2₃.at fun o e => Heap.get?_push_of_some _ e) hp hz4 fun c o c1 c2 c3 e => Heap.get?_push_of_some _ (hk c o c1 c2 c3 e)
theorem zipT_end_held {z TI TO T i1 i2 l1 l2 : Addr} {f : Bool} {oT : Obj} {k1 k2 : Nat} {xs ys : Array Value} {Q : Fin → Shared → Prop} (hh : A.handled = none) (D : ZipApart z TI TO i1 i2 l1 l2)
    (hz : IsZipHeld s.heap z TI TO T f) (hT : s.heap.get? T = some oT) (hTI : IsPair s.heap TI (.ref i1) (.ref i2))
    (h1 : s.heap.IsTupleIter i1 l1 k1) (h2 : s.heap.IsTupleIter i2 l2 k2) (hl1 : s.heap.IsTuple l1 xs) (hl2 : s.heap.IsTuple l2 ys) (hx : xs[k1]? = none)
    (hE : ∀ h' e, (∀ c o, c ≠ z → c ≠ i1 → c ≠ i2 → s.heap.get? c = some o → h'.get? c = some o) → (∃ o, h'.get? e = some o ∧ o.cls = .type "StopIteration") → E (.ref e) { s with heap := h' }) :
    wpAny (model prog w) A (Builtin.«zip.__next__» ⟨[.ref z], []⟩) Q E s := by
  show wpAny _ _ (field (.ref z) 2 >>= _) _ _ _
  refine wpAny_bind (wpAny_field hz rfl (x := .bool false) rfl ?_)
  show wpAny _ _ (field (.ref z) 3 >>= _) _ _ _
  refine wpAny_bind (wpAny_field hz rfl (x := .ref TI) rfl ?_)
  refine wpAny_bind (wpAny_seqItems hTI rfl ?_)
  show wpAny _ _ (Builtin.SmallTypes.ownedTupleIsFree (.ref z) >>= _) _ _ _
  refine wpAny_bind (wpAny_tupleHeld_zip hz hT fun h₁ hz₁ hs₁ => ?_)
  simp only [Bool.false_eq_true, if_false]
  refine wpAny_bind ?_
  rw [← Array.forIn_toList]
  simp only [List.forIn_cons, List.forIn_nil]
  refine wpAny_bind (wpAny_bind (wpAny_holding ?_))
  show wpAny _ _ (Builtin.SmallTypes.nextOf (.ref i1) >>= _) _ _ _
  refine wpAny_bind (nextOf_tuple_end (s := { s with heap := h₁ }) hh (h1.extBut hs₁.extBut D.i1z) (hl1.extBut hs₁.extBut D.l1z) hx fun h₂ e hs₂ he => ?_)
  exact hE h₂ e (fun c o c1 c2 _ x => hs₂ _ _ c2 (hs₁.extBut _ _ c1 x)) he
/-- a zip of two tuples between two turns of list(..) -/
structure ZSt (h : Heap) (z TI TO i1 i2 l1 l2 S lo : Addr) (xs ys : Array Value) (i : Nat) : Prop where
  zip : (i = 0 ∧ IsZip h z TI TO .none ∧ ∃ a b, IsPair h TO a b) ∨ ∃ T f oT, IsZipHeld h z TI TO T f ∧ h.get? T = some oT ∧ lo ≤ T
  ti : IsPair h TI (.ref i1) (.ref i2)
  h1 : h.IsTupleIter i1 l1 i
  h2 : h.IsTupleIter i2 l2 i
  l1' : h.IsTuple l1 xs
  l2' : h.IsTuple l2 ys
/-- the addresses that are there ahead of the pairs -/
structure ZLo (z TI TO i1 i2 l1 l2 S lo : Addr) : Prop where
  z' : z < lo
  TI' : TI < lo
  TO' : TO < lo
  i1' : i1 < lo
  i2' : i2 < lo
  l1' : l1 < lo
  l2' : l2 < lo
  S' : S < lo
  Sz : S ≠ z
  STI : S ≠ TI
  STO : S ≠ TO
  Si1 : S ≠ i1
  Si2 : S ≠ i2
  Sl1 : S ≠ l1
  Sl2 : S ≠ l2
variable {z TI TO i1 i2 l1 l2 S lo : Addr} {xs ys : Array Value}
theorem ZSt.upd {h h' : Heap} {i : Nat} (L : ZLo z TI TO i1 i2 l1 l2 S lo) (st : ZSt h z TI TO i1 i2 l1 l2 S lo xs ys i) (k : ∀ b o, b ≠ S → h.get? b = some o → h'.get? b = some o) : ZSt h' z TI TO i1 i2 l1 l2 S lo xs ys i where
  zip := by
    rcases st.zip with ⟨e, hz, a, b, ht⟩ | ⟨T, f, oT, hz, hT, hl⟩
    · exact .inl ⟨e, k _ _ L.Sz.symm hz, a, b, k _ _ L.STO.symm ht⟩
    · exact .inr ⟨T, f, oT, k _ _ L.Sz.symm hz, k _ _ (fun e => by have := L.S'; rw [e] at hl; exact absurd hl (Nat.not_le.mpr this)) hT, hl⟩
  ti := k _ _ L.STI.symm st.ti
  h1 := st.h1.at fun o e => k _ _ L.Si1.symm e
  h2 := st.h2.at fun o e => k _ _ L.Si2.symm e
  l1' := by
    obtain ⟨o, ho, r⟩ := st.l1'
    exact ⟨o, k _ _ L.Sl1.symm ho, r⟩
  l2' := by
    obtain ⟨o, ho, r⟩ := st.l2'
    exact ⟨o, k _ _ L.Sl2.symm ho, r⟩
theorem tup_keep {h h' : Heap} {l : Addr} {its : Array Value} (t : h.IsTuple l its) (k : ∀ o, h.get? l = some o → h'.get? l = some o) : h'.IsTuple l its := by
  obtain ⟨o, ho, r⟩ := t
  exact ⟨o, k o ho, r⟩
theorem zst_item {i : Nat} {x y : Value} {Q : Option Value → Shared → Prop} (D : ZipApart z TI TO i1 i2 l1 l2) (L : ZLo z TI TO i1 i2 l1 l2 S lo) (hlo : lo ≤ s.heap.objs.size) (st : ZSt s.heap z TI TO i1 i2 l1 l2 S lo xs ys i) (hx : xs[i]? = some x) (hy : ys[i]? = some y)
    (hQ : ∀ h', ZSt h' z TI TO i1 i2 l1 l2 S lo xs ys (i + 1) → IsPair h' s.heap.objs.size x y → h'.objs.size = s.heap.objs.size + 1 →
      (∀ c o, c ≠ z → c ≠ TO → c ≠ i1 → c ≠ i2 → s.heap.get? c = some o → h'.get? c = some o) → Q (some (.ref s.heap.objs.size)) { s with heap := h' }) :
    wpAny (model prog w) A (pyNext (.ref z)) Q E s := by
  rcases st.zip with ⟨e, hz, a, b, ht⟩ | ⟨T, f, oT, hz, hT, hl⟩
  · refine pyNext_zipT_item D hz st.ti ht st.h1 st.h2 st.l1' st.l2' hx hy fun h' z' to' a1 a2 pr sz k => hQ h' ⟨.inr ⟨s.heap.objs.size, false, _, z', pr, hlo⟩, ?_, a1, a2, ?_, ?_⟩ pr sz k
    · exact k _ _ D.TIz D.TITO D.TIi1 D.TIi2 st.ti
    · exact tup_keep st.l1' fun o q => k _ _ D.l1z D.l1TO D.l1i1 D.l1i2 q
    · exact tup_keep st.l2' fun o q => k _ _ D.l2z D.l2TO D.l2i1 D.l2i2 q
  · have hTy : s.TypeIs (.ref z) "zip" := ⟨_, hz, rfl⟩
    unfold pyNext
    refine wpAny_bind (wpAny_attempt (wpAny_callSpecial?_slot (name := Str.ofString "__next__") hTy F.slot_zip_next
      (wpAny_call_entry F.slot_zip_next hTy F.entry_zip_next
        (zipT_item_held D hz hT st.ti st.h1 st.h2 st.l1' st.l2' hx hy fun h' z' a1 a2 pr sz k => wpAny_pure (hQ h' ⟨.inr ⟨T, true, oT, z', ?_, hl⟩, ?_, a1, a2, ?_, ?_⟩ pr sz fun c o c1 _ c3 c4 q => k c o c1 c3 c4 q)) (F.args_zip_next_1 _))))
    · exact k _ _ (fun e => by rw [e] at hl; exact absurd hl (Nat.not_le.mpr L.z')) (fun e => by rw [e] at hl; exact absurd hl (Nat.not_le.mpr L.i1')) (fun e => by rw [e] at hl; exact absurd hl (Nat.not_le.mpr L.i2')) hT
    · exact k _ _ D.TIz D.TIi1 D.TIi2 st.ti
    · exact tup_keep st.l1' fun o q => k _ _ D.l1z D.l1i1 D.l1i2 q
    · exact tup_keep st.l2' fun o q => k _ _ D.l2z D.l2i1 D.l2i2 q
theorem zst_done {i : Nat} {Q : Option Value → Shared → Prop} (hh : A.handled = none) (D : ZipApart z TI TO i1 i2 l1 l2) (st : ZSt s.heap z TI TO i1 i2 l1 l2 S lo xs ys i) (hx : xs[i]? = none)
    (hQ : ∀ h', (∀ c o, c ≠ z → c ≠ TO → c ≠ i1 → c ≠ i2 → s.heap.get? c = some o → h'.get? c = some o) → Q none { s with heap := h' }) : wpAny (model prog w) A (pyNext (.ref z)) Q E s := by
  rcases st.zip with ⟨e, hz, a, b, ht⟩ | ⟨T, f, oT, hz, hT, hl⟩
  · exact pyNext_zipT_end hh D hz st.ti ht st.h1 st.h2 st.l1' st.l2' (.inl hx) hQ
  · have hTy : s.TypeIs (.ref z) "zip" := ⟨_, hz, rfl⟩
    unfold pyNext
    refine wpAny_bind (wpAny_attempt (wpAny_callSpecial?_slot (name := Str.ofString "__next__") hTy F.slot_zip_next
      (wpAny_call_entry F.slot_zip_next hTy F.entry_zip_next (zipT_end_held hh D hz hT st.ti st.h1 st.h2 st.l1' st.l2' hx fun h' e hk he => ?_) (F.args_zip_next_1 _))))
    obtain ⟨o, ho, hc⟩ := he
    refine wpAny_bind (wpAny_isInstance (T := "StopIteration") (b := true) ⟨o, ho, hc⟩ isSubtype_stop ?_)
    exact wpAny_pure (hQ _ fun c o c1 _ c3 c4 q => hk c o c1 c3 c4 q)
/-- the pairs made so far -/
structure ZG (xs ys : Array Value) (lo : Addr) (h : Heap) (as : List Addr) : Prop where
  rise : as.Pairwise (· < ·)
  above : ∀ a ∈ as, lo ≤ a
  pairs : ∀ (j : Nat) (a : Addr), as[j]? = some a → ∃ x y, xs[j]? = some x ∧ ys[j]? = some y ∧ IsPair h a x y
theorem ZG.there {h : Heap} {as : List Addr} (g : ZG xs ys lo h as) {a : Addr} (ha : a ∈ as) : a < h.objs.size := by
  obtain ⟨j, hj⟩ := List.mem_iff_getElem?.mp ha
  obtain ⟨_, _, _, _, e⟩ := g.pairs j a hj
  exact Heap.lt_size e
theorem zl_loop {R : Result → Shared → Prop} (hh : A.handled = none) (D : ZipApart z TI TO i1 i2 l1 l2) (L : ZLo z TI TO i1 i2 l1 l2 S lo) (hl : xs.size = ys.size) (hn : xs.size ≤ sizeLine) (res : Value) {h₁ : Heap}
    (hR : ∀ h' tk acc c as, (∀ b o, b ≠ S → b ≠ z → b ≠ TO → b ≠ i1 → b ≠ i2 → h₁.get? b = some o → h'.get? b = some o) → h'.get? S = some { cls := .type "list", dict := none, data := .seq acc c, slots := #[] } → as.length = xs.size → ZG xs ys lo h' as →
      acc.toList = as.map Value.ref → R (.ok (.ret res)) { s with heap := h', toks := tk }) :
    ∀ (k i : Nat) (h : Heap) (tk c : Nat) (acc : Array Value) (as : List Addr), xs.size - i = k → i ≤ xs.size → ZSt h z TI TO i1 i2 l1 l2 S lo xs ys i → (∀ b o, b ≠ S → b ≠ z → b ≠ TO → b ≠ i1 → b ≠ i2 → h₁.get? b = some o → h.get? b = some o) →
      h.get? S = some { cls := .type "list", dict := none, data := .seq acc c, slots := #[] } → acc.toList = as.map Value.ref → as.length = i → ZG xs ys lo h as → lo ≤ h.objs.size →
      codeAny (model prog w) A (.builtin "list.extend.loop" ⟨[.ref S, .ref z, res], []⟩) R { s with heap := h, toks := tk } := by
  intro k
  induction k with
  | zero =>
    intro i h tk c acc as hk hi st hkeep hS hacc hal hG hlo
    have hin : i = xs.size := by omega
    refine codeAny_builtin PySem.F.entry_extend_loop ?_
    rw [Around.under_plainId PySem.F.plain_extend_loop _]
    show wpAny _ A.in1 (pyNext (.ref z) >>= _) _ _ _
    refine wpAny_bind (zst_done (s := { s with heap := h, toks := tk }) (A := A.in1) hh D st (Array.getElem?_eq_none (by omega)) fun h' he => ?_)
    refine wpAny_pure (hR h' tk acc c as (fun b o h1 h2 h3 h4 h5 e => he b o h2 h3 h4 h5 (hkeep b o h1 h2 h3 h4 h5 e)) (he S _ L.Sz L.STO L.Si1 L.Si2 hS) (by omega) ⟨hG.rise, hG.above, fun j a hj => ?_⟩ hacc)
    obtain ⟨x, y, e1, e2, e3⟩ := hG.pairs j a hj
    have ha := hG.above a (List.mem_of_getElem? hj)
    exact ⟨x, y, e1, e2, he a _ (Nat.ne_of_gt (Nat.lt_of_lt_of_le L.z' ha)) (Nat.ne_of_gt (Nat.lt_of_lt_of_le L.TO' ha)) (Nat.ne_of_gt (Nat.lt_of_lt_of_le L.i1' ha)) (Nat.ne_of_gt (Nat.lt_of_lt_of_le L.i2' ha)) e3⟩
  | succ k ih =>
    intro i h tk c acc as hk hi st hkeep hS hacc hal hG hlo
    have hlt : i < xs.size := by omega
    have hx : xs[i]? = some xs[i] := Array.getElem?_eq_getElem hlt
    have hlt2 : i < ys.size := by omega
    have hy : ys[i]? = some ys[i] := Array.getElem?_eq_getElem hlt2
    have hsz : acc.size = i := by rw [← Array.length_toList, hacc, List.length_map, hal]
    refine codeAny_builtin PySem.F.entry_extend_loop ?_
    rw [Around.under_plainId PySem.F.plain_extend_loop _]
    show wpAny _ A.in1 (pyNext (.ref z) >>= _) _ _ _
    refine wpAny_bind (zst_item (s := { s with heap := h, toks := tk }) (A := A.in1) D L hlo st hx hy fun h' st' ht hz hkp => ?_)
    dsimp only at ht hz hkp ⊢
    have hS' := hkp S _ L.Sz L.STO L.Si1 L.Si2 hS
    have up : ∀ b o, b ≠ S → h'.get? b = some o → (h'.update S (Obj.mapSeq (·.push (Value.ref h.objs.size)))).get? b = some o := fun b o hb e => (Heap.get?_update_other _ _ (Ne.symm hb)).trans e
    have hSl : S < h.objs.size := Heap.lt_size hS
    show wpAny _ A.in1 (updateSeq S (·.push (Value.ref h.objs.size)) >>= _) _ _ _
    refine wpAny_bind ?_
    refine wpAny_updateSeq hS' rfl (wpAny_pure ⟨plainId_quiet PySem.F.plain_extend_loop _, ih (i + 1) _ tk _ (acc.push (Value.ref h.objs.size)) (as ++ [h.objs.size]) (by omega) hlt (st'.upd L up)
      (fun b o h1 h2 h3 h4 h5 e => up b o h1 (hkp b o h2 h3 h4 h5 (hkeep b o h1 h2 h3 h4 h5 e))) (Heap.get?_update_self _ hS' rfl) (by rw [Array.toList_push, hacc, List.map_append]; rfl) (by rw [List.length_append, hal]; rfl) ⟨?_, ?_, ?_⟩ ?_⟩) (by rw [hsz]; omega) (by show (acc.push (Value.ref h.objs.size)).size ≤ sizeLine + 1; rw [Array.size_push, hsz]; omega)
    · refine List.pairwise_append.mpr ⟨hG.rise, List.pairwise_singleton _ _, fun a ha b hb => ?_⟩
      rw [List.mem_singleton.mp hb]
      exact hG.there ha
    · intro a ha
      rcases List.mem_append.mp ha with ha | ha
      · exact hG.above a ha
      · rw [List.mem_singleton.mp ha]; exact hlo
    · intro j b hj
      rcases Nat.lt_trichotomy j as.length with h1 | h1 | h1
      · rw [List.getElem?_append_left h1] at hj
        obtain ⟨x', y', e1, e2, e3⟩ := hG.pairs j b hj
        have hb := hG.above b (List.mem_of_getElem? hj)
        exact ⟨x', y', e1, e2, up b _ (Nat.ne_of_gt (Nat.lt_of_lt_of_le L.S' hb)) (hkp b _ (Nat.ne_of_gt (Nat.lt_of_lt_of_le L.z' hb)) (Nat.ne_of_gt (Nat.lt_of_lt_of_le L.TO' hb)) (Nat.ne_of_gt (Nat.lt_of_lt_of_le L.i1' hb)) (Nat.ne_of_gt (Nat.lt_of_lt_of_le L.i2' hb)) e3)⟩
      · subst h1
        have hb : h.objs.size = b := by simpa using hj
        subst hb
        exact ⟨xs[i], ys[i], by rw [hal]; exact hx, by rw [hal]; exact hy, up _ _ (Nat.ne_of_gt hSl) ht⟩
      · have hnone : (as ++ [h.objs.size])[j]? = none := List.getElem?_eq_none (by rw [List.length_append, List.length_singleton]; omega)
        rw [hnone] at hj; cases hj
    · have e : (h'.update S (Obj.mapSeq (·.push (Value.ref h.objs.size)))).get? h.objs.size = _ := up _ _ (Nat.ne_of_gt hSl) ht
      exact Nat.le_trans hlo (Nat.le_of_lt (Heap.lt_size e))
end
end LmR

set_option Elab.async false
set_option linter.all false
set_option maxRecDepth 100000
set_option maxHeartbeats 2000000
namespace LmR
open PySem PySem.Spec PyProof.Rows L2 RZ
section
variable {prog : Program} {w : World} {A : Around} {E : Value → Shared → Prop} {s : Shared}
variable {z TI TO i1 i2 l1 l2 S lo : Addr} {xs ys : Array Value}
theorem zl_extend {R : Result → Shared → Prop} (hh : A.handled = none) (D : ZipApart z TI TO i1 i2 l1 l2) (L : ZLo z TI TO i1 i2 l1 l2 S lo) (hl : xs.size = ys.size) (hn : xs.size ≤ sizeLine) (res : Value) (c₀ : Nat) (hlo : lo ≤ s.heap.objs.size)
    (st : ZSt s.heap z TI TO i1 i2 l1 l2 S lo xs ys 0) (hz : IsZip s.heap z TI TO .none) (hS : s.heap.get? S = some { cls := .type "list", data := .seq #[] c₀ })
    (hR : ∀ h' tk acc c as, (∀ b o, b ≠ S → b ≠ z → b ≠ TO → b ≠ i1 → b ≠ i2 → s.heap.get? b = some o → h'.get? b = some o) → h'.get? S = some { cls := .type "list", dict := none, data := .seq acc c, slots := #[] } → as.length = xs.size → ZG xs ys lo h' as →
      acc.toList = as.map Value.ref → R (.ok (.ret res)) { s with heap := h', toks := tk }) :
    wpAny (model prog w) A.in1 (Builtin.List.listExtendWith (.ref S) (.ref z) res)
      (fun fin s' => match fin with | .done f => R (.ok f) s' | .again c' => c'.quiet = true ∧ codeAny (model prog w) A c' R s') (fun e s' => R (.error e) s') s := by
  have hT : s.TypeIs (.ref z) "zip" := ⟨_, hz, rfl⟩
  unfold Builtin.List.listExtendWith
  refine wpAny_bind (wpAny_typeOf hT ?_)
  have h1 : Builtin.List.listSameRef (.ref S) (.ref z) = false := by simp [Builtin.List.listSameRef, L.Sz]
  have h2 : (Value.type "zip" == Value.type "list") = false := by decide
  have h3 : (Value.type "zip" == Value.type "tuple") = false := by decide
  simp only [h1, h2, h3, Bool.or_false, Bool.false_eq_true, if_false]
  refine wpAny_bind (wpAny_pyIter_zip hz ?_)
  refine wpAny_bind (wpAny_holding ?_)
  unfold Builtin.List.listLengthHint
  refine wpAny_bind (wpAny_specialOf hT zip_no_len ?_)
  show wpAny _ A.in1 (specialOf (Value.ref z) (Str.ofString "__length_hint__") >>= _) _ _ _
  refine wpAny_bind (wpAny_specialOf hT zip_no_hint ?_)
  refine wpAny_pure ?_
  show wpAny _ A.in1 (rule "list.extend.makes-room" >>= fun _ => Builtin.List.listTouch (.ref S) >>= fun _ =>
    again (.builtin "list.extend.loop" ⟨[.ref S, .ref z, res], []⟩)) _ _ _
  refine wpAny_bind (wpAny_rule ?_)
  refine wpAny_bind ?_
  show wpAny _ A.in1 (updateSeq S (·.push .none) >>= fun _ => updateSeq S (·.pop)) _ _ _
  refine wpAny_bind (wpAny_updateSeq hS rfl ?_)
  have hS₂ := Heap.get?_update_self (Obj.mapSeq (·.push Value.none)) hS rfl
  refine wpAny_updateSeq (hz := by seq_fits) hS₂ rfl ?_
  have hS₃ := Heap.get?_update_self (Obj.mapSeq (·.pop)) hS₂ rfl
  have oth : ∀ b o, b ≠ S → s.heap.get? b = some o → ((s.heap.update S (Obj.mapSeq (·.push Value.none))).update S (Obj.mapSeq (·.pop))).get? b = some o :=
    fun b o hb e => (Heap.get?_update_other _ _ (Ne.symm hb)).trans ((Heap.get?_update_other _ _ (Ne.symm hb)).trans e)
  refine wpAny_pure ⟨plainId_quiet PySem.F.plain_extend_loop _, zl_loop (s := s) (h₁ := s.heap) hh D L hl hn res hR xs.size 0 _ s.toks _ #[] [] (Nat.sub_zero _) (Nat.zero_le _) (st.upd L oth) (fun b o h1 _ _ _ _ e => oth b o h1 e) hS₃ rfl rfl ⟨List.Pairwise.nil, (fun _ ha => nomatch ha), (fun j a hj => by simp at hj)⟩ ?_⟩
  have zz := oth z _ L.Sz.symm hz
  have e1 : ((s.heap.update S (Obj.mapSeq (·.push Value.none))).update S (Obj.mapSeq (·.pop))).objs.size = s.heap.objs.size := by
    first
      | (rw [Heap.size_update, Heap.size_update])
      | (simp [Heap.update])
  rw [e1]
  exact hlo
theorem zl_init {R : Result → Shared → Prop} (hh : A.handled = none) (D : ZipApart z TI TO i1 i2 l1 l2) (L : ZLo z TI TO i1 i2 l1 l2 S lo) (hl : xs.size = ys.size) (hn : xs.size ≤ sizeLine) (hlo : lo ≤ s.heap.objs.size)
    (st : ZSt s.heap z TI TO i1 i2 l1 l2 S lo xs ys 0) (hz : IsZip s.heap z TI TO .none) (hS : s.heap.get? S = some { cls := .type "list", data := .seq #[] })
    (hR : ∀ h' tk acc c as, (∀ b o, b ≠ S → b ≠ z → b ≠ TO → b ≠ i1 → b ≠ i2 → s.heap.get? b = some o → h'.get? b = some o) → h'.get? S = some { cls := .type "list", dict := none, data := .seq acc c, slots := #[] } → as.length = xs.size → ZG xs ys lo h' as →
      acc.toList = as.map Value.ref → R (.ok (.ret .none)) { s with heap := h', toks := tk }) :
    wpAny (model prog w) A.in1 (Builtin.«list.__init__» ⟨[.ref S, .ref z], []⟩)
      (fun fin s' => match fin with | .done f => R (.ok f) s' | .again c' => c'.quiet = true ∧ codeAny (model prog w) A c' R s') (fun e s' => R (.error e) s') s := by
  show wpAny _ _ (do let old ← Builtin.List.listItems (.ref S); Builtin.List.listUpdate (.ref S) (fun _ => #[]); letGo old.toList.reverse; Builtin.List.listExtendWith (.ref S) (.ref z) .none) _ _ s
  refine wpAny_bind ?_
  unfold Builtin.List.listItems
  refine wpAny_bind (wpAny_seqItems hS rfl (wpAny_pure ?_))
  show wpAny _ _ (updateSeq S (fun _ => #[]) >>= fun _ => letGo (#[] : Array Value).toList.reverse >>= fun _ => Builtin.List.listExtendWith (.ref S) (.ref z) .none) _ _ s
  refine wpAny_bind (wpAny_updateSeq hS rfl ?_)
  have hS₂ := Heap.get?_update_self (Obj.mapSeq (fun _ => (#[] : Array Value))) hS rfl
  have oth : ∀ b o, b ≠ S → s.heap.get? b = some o → (s.heap.update S (Obj.mapSeq (fun _ => (#[] : Array Value)))).get? b = some o :=
    fun b o hb e => (Heap.get?_update_other _ _ (Ne.symm hb)).trans e
  refine wpAny_bind (wpAny_letGo ?_)
  have e1 : (s.heap.update S (Obj.mapSeq (fun _ => (#[] : Array Value)))).objs.size = s.heap.objs.size := by
    first
      | (rw [Heap.size_update])
      | (simp [Heap.update])
  refine zl_extend hh D L hl hn .none _ (by show lo ≤ (s.heap.update S _).objs.size; rw [e1]; exact hlo) (st.upd L oth) (oth z _ L.Sz.symm hz) hS₂ (fun h' tk acc c as hk hS' hl' hG hacc => ?_)
  exact hR h' tk acc c as (fun b o h1 h2 h3 h4 h5 e => hk b o h1 h2 h3 h4 h5 (oth b o h1 e)) hS' hl' hG hacc
theorem zl_call {Q : Value → Shared → Prop} (hh : A.handled = none) (D : ZipApart z TI TO i1 i2 l1 l2) (hl : xs.size = ys.size) (hn : xs.size ≤ sizeLine)
    (hz : IsZip s.heap z TI TO .none) (hTI : IsPair s.heap TI (.ref i1) (.ref i2)) (hTO : ∃ a b, IsPair s.heap TO a b) (h1 : s.heap.IsTupleIter i1 l1 0) (h2 : s.heap.IsTupleIter i2 l2 0) (hl1 : s.heap.IsTuple l1 xs) (hl2 : s.heap.IsTuple l2 ys)
    (hQ : ∀ h' tk acc c as, (∀ b o, b ≠ z → b ≠ TO → b ≠ i1 → b ≠ i2 → s.heap.get? b = some o → h'.get? b = some o) → h'.get? s.heap.objs.size = some { cls := .type "list", dict := none, data := .seq acc c, slots := #[] } → as.length = xs.size → ZG xs ys (s.heap.objs.size + 1) h' as →
      acc.toList = as.map Value.ref → Q (.ref s.heap.objs.size) { s with heap := h', toks := tk }) :
    wpAny (model prog w) A (call (.type "list") [.ref z]) Q E s := by
  refine callType_codes (Q₁ := fun obj s₁ => obj = .ref s.heap.objs.size ∧ s₁ = { s with heap := s.heap.push { cls := .type "list", data := .seq #[] } }) PySem.F.called_list (PySem.F.typeCall_list_1 _) PySem.F.entry_list_init
    (code_list_new _ ⟨rfl, rfl⟩) fun obj s₁ h₁ => ?_
  obtain ⟨rfl, rfl⟩ := h₁
  have hS : (s.heap.push { cls := .type "list", data := .seq #[] }).get? s.heap.objs.size = some { cls := .type "list", data := .seq #[] } := Heap.get?_push_size _ rfl
  have kp : ∀ b o, s.heap.get? b = some o → (s.heap.push { cls := .type "list", data := .seq #[] }).get? b = some o := fun b o e => Heap.get?_push_of_some _ e
  have lz := Heap.lt_size hz
  have lTI := Heap.lt_size hTI
  obtain ⟨ta, tb, hTO'⟩ := hTO
  have lTO := Heap.lt_size hTO'
  have li1 : i1 < s.heap.objs.size := let ⟨_, e, _⟩ := h1; Heap.lt_size e
  have li2 : i2 < s.heap.objs.size := let ⟨_, e, _⟩ := h2; Heap.lt_size e
  have ll1 : l1 < s.heap.objs.size := let ⟨_, e, _⟩ := hl1; Heap.lt_size e
  have ll2 : l2 < s.heap.objs.size := let ⟨_, e, _⟩ := hl2; Heap.lt_size e
  have L : ZLo z TI TO i1 i2 l1 l2 s.heap.objs.size (s.heap.objs.size + 1) := ⟨Nat.lt_succ_of_lt lz, Nat.lt_succ_of_lt lTI, Nat.lt_succ_of_lt lTO, Nat.lt_succ_of_lt li1, Nat.lt_succ_of_lt li2, Nat.lt_succ_of_lt ll1, Nat.lt_succ_of_lt ll2, Nat.lt_succ_self _,
    Nat.ne_of_gt lz, Nat.ne_of_gt lTI, Nat.ne_of_gt lTO, Nat.ne_of_gt li1, Nat.ne_of_gt li2, Nat.ne_of_gt ll1, Nat.ne_of_gt ll2⟩
  have st : ZSt (s.heap.push { cls := .type "list", data := .seq #[] }) z TI TO i1 i2 l1 l2 s.heap.objs.size (s.heap.objs.size + 1) xs ys 0 :=
    ⟨.inl ⟨rfl, kp _ _ hz, ta, tb, kp _ _ hTO'⟩, kp _ _ hTI, h1.at fun o e => kp _ _ e, h2.at fun o e => kp _ _ e, tup_keep hl1 fun o e => kp _ _ e, tup_keep hl2 fun o e => kp _ _ e⟩
  refine ⟨⟨_, hS, rfl⟩, PySem.F.args_list_init_2 _ _, zl_init (A := A.in1) hh D L hl hn (by show s.heap.objs.size + 1 ≤ (s.heap.push _).objs.size; rw [Heap.size_push]; exact Nat.le_refl _) st (kp _ _ hz) hS (fun h' tk acc c as hk hS' hl' hG hacc => ?_)⟩
  exact ⟨rfl, hQ h' tk acc c as (fun b o c1 c2 c3 c4 e => hk b o (Nat.ne_of_lt (Heap.lt_size e)) c1 c2 c3 c4 (kp b o e)) hS' hl' hG hacc⟩
end
/-! ### the rule -/
/-- pairs tracked at their addresses -/
def putZ : Hp → List Addr → List (V × V) → Hp
  | H, a :: as, p :: ps => putZ (upd H a (.tup [p.1, p.2])) as ps
  | H, _, _ => H
theorem putZ_off {b : Addr} : ∀ (as : List Addr) (ps : List (V × V)) (H : Hp), b ∉ as → putZ H as ps b = H b
  | [], _, _, _ => rfl
  | _ :: _, [], _, _ => rfl
  | a :: as, p :: ps, H, h => by
    show putZ (upd H a (.tup [p.1, p.2])) as ps b = H b
    rw [putZ_off as ps _ (fun z => h (List.mem_cons_of_mem _ z)), upd_ne (fun z => h (by rw [z]; exact List.mem_cons_self))]
theorem putZ_at : ∀ (as : List Addr) (ps : List (V × V)) (H : Hp) (j : Nat) (a : Addr) (p : V × V), as.Nodup → as[j]? = some a → ps[j]? = some p → putZ H as ps a = some (.tup [p.1, p.2])
  | [], _, _, j, _, _, _, h, _ => by simp at h
  | _ :: _, [], _, j, _, _, _, _, h => by simp at h
  | a :: as, p :: ps, H, 0, b, q, nd, h1, h2 => by
    have e1 : a = b := Option.some.inj h1
    have e2 : p = q := Option.some.inj h2
    subst e1 e2
    show putZ (upd H a (.tup [p.1, p.2])) as ps a = some (.tup [p.1, p.2])
    rw [putZ_off as ps _ (List.nodup_cons.mp nd).1, upd_same]
  | a :: as, p :: ps, H, j + 1, b, q, nd, h1, h2 => putZ_at as ps _ j b q (List.nodup_cons.mp nd).2 h1 h2
/-- list(zip(t, u)) of two tuples of one length -/
def tListZip (K : PySem.W.Frag) (ta : TA) : TE := fun σ H Q => ta σ H fun vs H1 => ∃ (a b : Addr) (xs ys : List V), vs = [.ref a, .ref b] ∧ SqT K H1 a xs ∧ SqT K H1 b ys ∧ xs.length = ys.length ∧
  ∀ (H' : Hp) (p : Addr) (ts : List Addr), Same H1 H' → H1 p = none → (∀ t ∈ ts, H1 t = none) → H' p = some (.lst (ts.map V.ref)) → ts.length = xs.length →
    (∀ (j : Nat) (t : Addr), ts[j]? = some t → ∃ x y, xs[j]? = some x ∧ ys[j]? = some y ∧ H' t = some (.tup [x, y])) → Q (.ref p) H'
section
variable {X : Cx}
theorem pe_listZip {e e2 : Expr} {ta : TA} {p p2 pos pos2 : Pos} (hc : X.calm = true) (hgl : Gl X "list") (hml : X.mg "list" = none) (hgz : Gl X "zip") (hmz : X.mg "zip" = none) (ha : PA X [e, e2] ta)
    (hs : starEach [e, e2] X.env = (false, eval e X.env) :: starEach [e2] X.env := by rfl) (hpl : (backTo pos2 (starEach [e2] X.env)).any (·.1) = false := by rfl)
    (hs2 : starEach [.Call (.Name "zip" p2) [e, e2] [] pos2] X.env = (false, eval (.Call (.Name "zip" p2) [e, e2] [] pos2) X.env) :: starEach [] X.env := by rfl) :
    PE X (.Call (.Name "list" p) [.Call (.Name "zip" p2) [e, e2] [] pos2] [] pos) (tListZip X.K ta) := by
  refine ⟨fun pins s σ H Q I h => ?_⟩
  refine wpAny_Call_Name_kw (ld_blt I hgl hml PyProof.Rows.boot_list ?_)
  refine PyProof.Rows.callWith_type1 ?_ hs2 rfl
  rw [hs2]
  show wpAny _ _ (spliced ((false, eval (.Call (.Name "zip" p2) [e, e2] [] pos2) X.env) :: backTo pos (starEach [] X.env))) _ _ s
  refine Calls.spliced_cons ?_
  refine Call_ (ld_blt I hgz hmz PyProof.Rows.boot_zip (PyProof.Rows.callWith_type1 (thn (ha.run pos2 pins s σ H _ I h) fun us s1 ⟨vs, H1, I1, r1, q1⟩ => ?_) hs hpl))
  obtain ⟨a, b, xs, ys, ex, hqx, hqy, hxy, q⟩ := q1
  subst ex
  cases r1 with
  | cons r rr =>
    cases rr with
    | cons r' rr =>
      cases rr
      cases r
      cases r'
      obtain ⟨its, rv, p1, hz1⟩ := I1.tuple hqx
      obtain ⟨its2, rv2, p2', _⟩ := I1.tuple hqy
      obtain ⟨o1, ho1, _⟩ := id p1
      obtain ⟨o2, ho2, _⟩ := id p2'
      have e1 := rv.length
      have e2 := rv2.length
      refine call_zipT (show s1.heap.IsTuple a its.toArray from p1) (show s1.heap.IsTuple b its2.toArray from p2') fun h' hz hTI hTO h1 h2 hsz hk => ?_
      refine Calls.spliced_nil ?_
      have D := PySem.W.ktu_apart s1.heap.objs.size a b (Heap.lt_size ho1) (Heap.lt_size ho2)
      refine zl_call (s := { s1 with heap := h' }) (xs := its.toArray) (ys := its2.toArray) (I1.ok.hd hc) D (by rw [List.size_toArray, List.size_toArray]; omega) (by rw [List.size_toArray]; omega) hz hTI ⟨_, _, hTO⟩ h1 h2 (tup_keep p1 fun o q => hk _ _ q) (tup_keep p2' fun o q => hk _ _ q) fun h2' tk acc c as hkk hS hl hG hacc => ?_
      have lo : ∀ b o, s1.heap.get? b = some o → h2'.get? b = some o := fun b o q => by
        have lb := Heap.lt_size q
        exact hkk b o (fun z => by rw [z] at lb; exact absurd lb (Nat.not_lt.mpr (Nat.le_add_right _ _))) (fun z => by rw [z] at lb; exact absurd lb (Nat.not_lt.mpr (Nat.le_add_right _ _))) (fun z => by rw [z] at lb; exact absurd lb (Nat.lt_irrefl _)) (fun z => by rw [z] at lb; exact absurd lb (Nat.not_lt.mpr (Nat.le_add_right _ _))) (hk b o q)
      have hsz' : h'.objs.size = s1.heap.objs.size + 5 := hsz
      have hal : as.length = xs.length := by
        rw [hl, List.size_toArray]
        omega
      have nd : as.Nodup := List.Pairwise.imp (fun {a b} (h : a < b) => Nat.ne_of_lt h) hG.rise
      have big : ∀ t ∈ as, h'.objs.size < t := fun t ht => hG.above t ht
      have hSn : h'.objs.size ∉ as := fun z => Nat.lt_irrefl _ (big _ z)
      have new : ∀ t ∈ as, H1 t = none := fun t ht => I1.hok.fresh (by have := big t ht; rw [hsz'] at this; exact Nat.le_of_lt (Nat.lt_of_le_of_lt (Nat.le_add_right _ _) this))
      have newS : H1 h'.objs.size = none := I1.hok.fresh (by rw [hsz']; exact Nat.le_add_right _ _)
      have lk : ∀ b o, s1.heap.get? b = some o → b ∉ as ∧ b ≠ h'.objs.size := fun b o q => by
        have lb := Heap.lt_size q
        refine ⟨fun z => ?_, fun z => ?_⟩
        · have := big b z
          rw [hsz'] at this
          exact absurd lb (Nat.not_lt.mpr (Nat.le_trans (Nat.le_add_right _ 5) (Nat.le_of_lt this)))
        · rw [z, hsz'] at lb
          exact absurd lb (Nat.not_lt.mpr (Nat.le_add_right _ _))
      have off : ∀ b, b ∉ as → b ≠ h'.objs.size → putZ (upd H1 h'.objs.size (.lst (as.map V.ref))) as (xs.zip ys) b = H1 b := fun b h1 h2 => by rw [putZ_off as _ _ h1, upd_ne h2]
      have kp : ∀ b u, H1 b = some u → putZ (upd H1 h'.objs.size (.lst (as.map V.ref))) as (xs.zip ys) b = some u := fun b u e => by
        rw [off b (fun z => by rw [new b z] at e; cases e) (fun z => by rw [z, newS] at e; cases e)]
        exact e
      have eS : putZ (upd H1 h'.objs.size (.lst (as.map V.ref))) as (xs.zip ys) h'.objs.size = some (.lst (as.map V.ref)) := by rw [putZ_off as _ _ hSn, upd_same]
      have prs : ∀ (j : Nat) (t : Addr), as[j]? = some t → ∃ x y u1 u2, xs[j]? = some x ∧ ys[j]? = some y ∧ RelV x u1 ∧ RelV y u2 ∧ IsPair h2' t u1 u2 ∧ putZ (upd H1 h'.objs.size (.lst (as.map V.ref))) as (xs.zip ys) t = some (.tup [x, y]) := fun j t ht => by
        obtain ⟨u1, u2, f1, f2, f3⟩ := hG.pairs j t ht
        have hj : j < xs.length := by
          have := (List.getElem?_eq_some_iff.mp ht).1
          omega
        have hj2 : j < ys.length := by omega
        have g1 : xs[j]? = some xs[j] := List.getElem?_eq_getElem hj
        have g2 : ys[j]? = some ys[j] := List.getElem?_eq_getElem hj2
        obtain ⟨w1, k1, r1⟩ := rv.get g1
        obtain ⟨w2, k2, r2⟩ := rv2.get g2
        have m1 : u1 = w1 := by
          rw [List.getElem?_toArray, k1] at f1
          exact (Option.some.inj f1).symm
        have m2 : u2 = w2 := by
          rw [List.getElem?_toArray, k2] at f2
          exact (Option.some.inj f2).symm
        subst m1 m2
        refine ⟨xs[j], ys[j], u1, u2, g1, g2, r1, r2, f3, ?_⟩
        exact putZ_at as (xs.zip ys) _ j t (xs[j], ys[j]) nd ht (by rw [List.getElem?_zip_eq_some]; exact ⟨g1, g2⟩)
      refine ⟨.ref _, putZ (upd H1 h'.objs.size (.lst (as.map V.ref))) as (xs.zip ys), ?_, rfl, q _ _ as kp newS new eS hal fun j t ht => ?_⟩
      · have Ik : Inv X pins σ H1 { s1 with heap := h2', toks := tk } := I1.kept (t' := tk) lo
        refine I1.call' (ch := []) rfl ⟨fun b o q _ _ _ => lo b o q, fun b o q _ _ _ => ⟨o.slots, lo b o q⟩, fun b o q n _ => ?_, fun b o q _ => ⟨o, lo b o q⟩, fun b zs q => kp b _ q, fun b o u q => kp b _ q, fun b ps q => ⟨#[], by rw [kp b _ q]; simp⟩⟩ (fun b u q => ?_) I1.bare fun b z => by simp at z
        · obtain ⟨z1, z2⟩ := lk b o q
          rw [off b z1 z2]
          exact n
        · by_cases hb : b ∈ as
          · obtain ⟨j, hj⟩ := List.mem_iff_getElem?.mp hb
            obtain ⟨x, y, u1, u2, _, _, r1, r2, f3, e⟩ := prs j b hj
            rw [e] at q
            cases q
            exact ⟨by show 2 ≤ sizeLine; decide, [u1, u2], .cons r1 (.cons r2 .nil), ⟨_, f3, rfl, _, rfl⟩⟩
          · by_cases hb2 : b = h'.objs.size
            · rw [hb2] at q ⊢
              rw [eS] at q
              cases q
              refine ⟨by rw [List.length_map]; omega, acc.toList, c, by rw [hacc]; exact (let rec go : ∀ as : List Addr, Vals (as.map V.ref) (as.map Value.ref) | [] => .nil | _ :: as => .cons rfl (go as); go as), ?_⟩
              rw [Array.toArray_toList]
              exact hS
            · rw [off b hb hb2] at q
              exact (I1.hok b u q).stay (fun d v _ y => lo d v y) (fun d y => kp d _ y) fun d xs y => kp d _ y
      · obtain ⟨x, y, _, _, g1, g2, _, _, _, e⟩ := prs j t ht
        exact ⟨x, y, g1, g2, e⟩
end
end LmR

set_option Elab.async false
set_option linter.all false
set_option maxRecDepth 100000
set_option maxHeartbeats 2000000
namespace Lm
open PySem PySem.Spec PyProof.Rows L2 LmR
/-! ### defs of the text, callable -/
/-- the def st stands in the text under the name x -/
def DefAt (K : PySem.W.Frag) (mg : Str → Option Value) (x : Str) (st : Stmt) (ps : List Str) : Prop := ∃ f fd, Fun K x x st f fd ∧ Binds K fd ps [] ∧ mg x = some (.ref f)
/-- what stands under the name x keeps sp, by at most level k -/
def Cal (P : Program) (w : World) (K : PySem.W.Frag) (mg : Str → Option Value) (base : Heap) (k : Nat) (x : Str) (ps : List Str) (sp : Sp) : Prop :=
  ∃ f fd, FnOk P w K mg base CX0 k f fd ps sp ∧ mg x = some (.ref f) ∧ PySem.W.keepIn K (.ref f) = true ∧ Binds K fd ps [] ∧ ∃ st, Fun K x x st f fd
section
variable {P : Program} {w : World} {K : PySem.W.Frag} {mg : Str → Option Value} {base : Heap}
theorem Cal.mono {j k : Nat} {x : Str} {ps : List Str} {sp : Sp} (c : Cal P w K mg base j x ps sp) (h : j ≤ k) : Cal P w K mg base k x ps sp := by
  obtain ⟨f, fd, F, g, kp, b⟩ := c
  exact ⟨f, fd, F.mono h, g, kp, b⟩
theorem Cal.weak {k : Nat} {x : Str} {ps : List Str} {sp sp' : Sp} (c : Cal P w K mg base k x ps sp) (h : ∀ vs H Q E, sp' vs H Q E → sp vs H Q E) : Cal P w K mg base k x ps sp' := by
  obtain ⟨f, fd, F, g, kp, b⟩ := c
  exact ⟨f, fd, ⟨fun vs H Q E z => F.len vs H Q E (h vs H Q E z), fun A outer s H args us vs Q E r e b v z => F.run A outer s H args us vs Q E r e b v (h vs H Q E z)⟩, g, kp, b⟩
theorem cal_of {x : Str} {st : Stmt} {N ps : List Str} {k : Nat} {sp : Sp} (D : DefAt K mg x st ps) (S : FnScope N ps (defScope st)) (len : ∀ vs H Q E, sp vs H Q E → vs.length = ps.length)
    (hbody : ∀ (f : Addr) (cdv : Value) (A : Around) (outer : List Env) (s : Shared) (H : Hp) (vs : List V) (Q : VK) (E : XK), Room k (A.deeper (envOfC x (defScope st) s.heap.objs.size f cdv)) → sp vs H Q E →
      ∃ t, PSs (cxOf CX0 P w K mg base N x (defScope st) f cdv A outer s H E).nox (defBody st) t ∧ t { nx := fun _ H' => Q .non H', rt := Q } (start N vs) H) : Cal P w K mg base (k + 1) x ps sp := by
  obtain ⟨f, fd, F, b, g⟩ := D
  exact ⟨f, fd, F.ok S len (hbody f), g, F.kp, b, _, F⟩
/-- nothing is asked: no call is allowed -/
theorem cal_no {x : Str} {st : Stmt} {ps : List Str} {sp : Sp} (D : DefAt K mg x st ps) (no : ∀ vs H Q E, ¬ sp vs H Q E) {k : Nat} : Cal P w K mg base k x ps sp := by
  obtain ⟨f, fd, F, b, g⟩ := D
  exact ⟨f, fd, ⟨fun vs H Q E h => absurd h (no vs H Q E), fun A outer s H args us vs Q E _ _ _ _ h => absurd h (no vs H Q E)⟩, g, F.kp, b, _, F⟩
end
/-- f(e, ..) -/
theorem pe_cal {X : Cx} {k : Nat} {x : Str} {ps : List Str} {sp : Sp} {e : Expr} {es : List Expr} {t : TA} {p pos : Pos} (C : Cal X.prog X.w X.K X.mg X.base k x ps sp) (hr : Room k X.A) (hg : Gl X x) (ha : PA X (e :: es) t)
    (hdb : (x == ("__debug__" : Str)) = false := by decide) (he : starEach (e :: es) X.env = (false, eval e X.env) :: starEach es X.env := by rfl) (hpl : (backTo pos (starEach es X.env)).any (·.1) = false := by rfl) :
    PE X (.Call (.Name x p) (e :: es) [] pos) (tCall sp [] (fun _ _ _ => False) t) := by
  obtain ⟨f, fd, F, g, kp, b, _⟩ := C
  exact pe_call F hr hg g kp b .nil pass0 ha hdb he hpl
/-- the built-ins that the text names and no one has rebound -/
structure Bt (mg : Str → Option Value) : Prop where
  len : mg "len" = none
  isinstance : mg "isinstance" = none
  tuple : mg "tuple" = none
  list : mg "list" = none
  str : mg "str" = none
  int : mg "int" = none
  bool : mg "bool" = none
  range : mg "range" = none
  zip : mg "zip" = none
  enumerate : mg "enumerate" = none
  reversed : mg "reversed" = none
  max : mg "max" = none
  all : mg "all" = none
  min : mg "min" = none
  sum : mg "sum" = none
  any : mg "any" = none
  sorted : mg "sorted" = none
  set : mg "set" = none
  repr : mg "repr" = none
  abs : mg "abs" = none
/-! ### heaps -/
/-- all that was tracked is as it was, but what stands at ws -/
def Ex (ws : List Addr) (H H' : Hp) : Prop := ∀ b o, H b = some o → b ∉ ws → H' b = some o
theorem Ex.refl (ws : List Addr) (H : Hp) : Ex ws H H := fun _ _ h _ => h
theorem Ex.trans {ws : List Addr} {H H1 H2 : Hp} (a : Ex ws H H1) (b : Ex ws H1 H2) : Ex ws H H2 := fun c o h n => b c o (a c o h n) n
theorem Ex.mono {ws us : List Addr} {H H' : Hp} (a : Ex ws H H') (h : ∀ b ∈ ws, b ∈ us) : Ex us H H' := fun c o e n => a c o e fun m => n (h c m)
theorem Ex.of_same {ws : List Addr} {H H' : Hp} (a : Same H H') : Ex ws H H' := fun c o e _ => a c o e
theorem Ex.same {H H' : Hp} (a : Ex [] H H') : Same H H' := fun c o e => a c o e (by simp)
theorem Ex.new {ws : List Addr} {H : Hp} {p : Addr} {o : HO} (h : H p = none) : Ex ws H (upd H p o) := fun b u q _ => by rw [upd_ne (ne_of_none q h)]; exact q
theorem Ex.at {ws : List Addr} {H : Hp} {p : Addr} {o : HO} (h : p ∈ ws) : Ex ws H (upd H p o) := fun b u q n => by rw [upd_ne (fun z => n (by rw [z]; exact h))]; exact q
theorem same_new {H : Hp} {p : Addr} {o : HO} (h : H p = none) : Same H (upd H p o) := fun b u q => by rw [upd_ne (ne_of_none q h)]; exact q
theorem Ex.free {ws : List Addr} {H H' : Hp} (a : Ex ws H H') {p : Addr} (h : H' p = none) (n : p ∉ ws) : H p = none := by
  cases q : H p with
  | none => rfl
  | some o =>
    rw [a p o q n] at h
    cases h
theorem Ex.ne {ws : List Addr} {H H' : Hp} (a : Ex ws H H') {p q : Addr} {o : HO} (h : H q = some o) (hq : q ∉ ws) (hp : H' p = none) : q ≠ p := fun z => by
  rw [← z, a q o h hq] at hp
  cases hp
theorem small {n : Nat} (h : n ≤ 100000) : n ≤ sizeLine := Nat.le_trans h (by decide)
theorem smallL {n : Nat} (h : n ≤ 100000) : n < sizeLine := Nat.lt_of_le_of_lt h (by decide)
/-! ### data: None, truths, ints, texts, tuples of these -/
/-- without lists and dicts -/
def flat : PyData → Bool
  | .none => true
  | .bool _ => true
  | .int _ => true
  | .str _ => true
  | .list _ => false
  | .tuple xs => flats xs
  | .dict _ => false
where flats : List PyData → Bool
  | [] => true
  | d :: ds => flat d && flats ds
/-- the tuples that were there are there -/
def Tp (K : PySem.W.Frag) (H H' : Hp) : Prop := ∀ a xs, SqT K H a xs → SqT K H' a xs
theorem Ex.tp {K : PySem.W.Frag} {ws : List Addr} {H H' : Hp} (a : Ex ws H H') (h : ∀ b ∈ ws, ∀ xs, ¬ Rd H b (.tup xs)) : Tp K H H' := fun b xs q => by
  rcases q with (q | ⟨o, q⟩) | q
  · exact .inl (.inl (a b _ q fun m => h b m xs (.inl q)))
  · exact .inl (.inr ⟨o, a b _ q fun m => h b m xs (.inr ⟨o, q⟩)⟩)
  · exact .inr q
theorem Tp.refl (K : PySem.W.Frag) (H : Hp) : Tp K H H := fun _ _ h => h
theorem Tp.trans {K : PySem.W.Frag} {H H1 H2 : Hp} (a : Tp K H H1) (b : Tp K H1 H2) : Tp K H H2 := fun c xs h => b c xs (a c xs h)
theorem Tp.same {K : PySem.W.Frag} {H H' : Hp} (a : Same H H') : Tp K H H' := fun b xs q => by
  rcases q with (q | ⟨o, q⟩) | q
  · exact .inl (.inl (a b _ q))
  · exact .inl (.inr ⟨o, a b _ q⟩)
  · exact .inr q
/-- a list (or dict) that is written -/
theorem Tp.put {K : PySem.W.Frag} {H : Hp} {p : Addr} {o o' : HO} (h : H p = some o) (n1 : ∀ xs, o ≠ .tup xs) (n2 : ∀ u v, o ≠ .frz u v) : Tp K H (upd H p o') := fun b xs q => by
  rcases q with (q | ⟨u, q⟩) | q
  · have nb : b ≠ p := fun z => by
      rw [z, h] at q
      exact n1 xs (Option.some.inj q)
    exact .inl (.inl (by rw [upd_ne nb]; exact q))
  · have nb : b ≠ p := fun z => by
      rw [z, h] at q
      exact n2 _ _ (Option.some.inj q)
    exact .inl (.inr ⟨u, by rw [upd_ne nb]; exact q⟩)
  · exact .inr q
theorem Tp.lst {K : PySem.W.Frag} {H : Hp} {p : Addr} {xs : List V} {o' : HO} (h : H p = some (.lst xs)) : Tp K H (upd H p o') := Tp.put h (fun _ z => nomatch z) (fun _ _ z => nomatch z)
theorem Tp.dct {K : PySem.W.Frag} {H : Hp} {p : Addr} {xs : List (Key × V)} {o' : HO} (h : H p = some (.dK xs)) : Tp K H (upd H p o') := Tp.put h (fun _ z => nomatch z) (fun _ _ z => nomatch z)
theorem Tp.new {K : PySem.W.Frag} {H : Hp} {p : Addr} {o : HO} (h : H p = none) : Tp K H (upd H p o) := Tp.same (same_new h)
mutual
theorem dp_keep {K : PySem.W.Frag} {H H' : Hp} (t : Tp K H H') : ∀ (d : PyData) (v : V), flat d = true → Dp K H v d → Dp K H' v d
  | .none, _, _, h => by cases h; exact .non
  | .bool b, _, _, h => by cases h; exact .bl b
  | .int i, _, _, h => by cases h; exact .int i
  | .str x, _, _, h => by cases h; exact .str x
  | .list ds, _, f, _ => by simp [flat] at f
  | .tuple ds, _, f, h => by
    cases h with
    | tup q r => exact .tup (t _ _ q) (dps_keep t ds _ f r)
  | .dict ds, _, f, _ => by simp [flat] at f
theorem dps_keep {K : PySem.W.Frag} {H H' : Hp} (t : Tp K H H') : ∀ (ds : List PyData) (vs : List V), flat.flats ds = true → DpAll K H vs ds → DpAll K H' vs ds
  | [], _, _, h => by cases h; exact .nil
  | d :: ds, _, f, h => by
    rw [flat.flats, Bool.and_eq_true] at f
    cases h with
    | cons a b => exact .cons (dp_keep t d _ f.1 a) (dps_keep t ds _ f.2 b)
end
/-- flat data at v -/
def Fd (K : PySem.W.Frag) (H : Hp) (v : V) (d : PyData) : Prop := flat d = true ∧ Dp K H v d
theorem Fd.keep {K : PySem.W.Frag} {H H' : Hp} {v : V} {d : PyData} (h : Fd K H v d) (t : Tp K H H') : Fd K H' v d := ⟨h.1, dp_keep t d v h.1 h.2⟩
/-! ### rules within a comprehension: the written part by its name -/
section
variable {X : Cx} {K : PySem.W.Frag}
theorem ix_tupK (h : X.K = K) : IxR X (rIxT K) := h ▸ ix_tup
theorem ix_listK (h : X.K = K) : IxR X (rIxL K) := h ▸ ix_list
def rLenK (K : PySem.W.Frag) : List V → Hp → VK → Prop := fun xs H Q => ∃ p ys, xs = [.ref p] ∧ (SqL K H p ys ∨ SqT K H p ys) ∧ Q (.int ys.length) H
theorem call_len_seqK (h : X.K = K) : CallR X (.builtin "len") (rLenK K) := h ▸ call_len_seq
theorem pe_bm0K {T : String} {name : Str} {id : String} {r : V → List V → Hp → VK → Prop} {o : Expr} {to : TE} {apos cpos : Pos} (h : X.K = K) (pa : PlainAttrs T) (slot : Slot T name id) (hty : typeOf (.builtin id) = pure (.type "method_descriptor")) (hm : MtR X id r) (ho : PE X o to)
    (hbase : attributeBase o name X.env (eval o X.env) = eval o X.env := by rfl) (hline : (apos.endLine == cpos.line) = true := by rfl) : PE X (.Call (.Attribute o name apos) [] [] cpos) (tBM0 K T r to) := h ▸ pe_bm0 pa slot hty hm ho hbase hline
end
end Lm

set_option Elab.async false
set_option linter.all false
set_option maxRecDepth 100000
set_option maxHeartbeats 2000000
namespace Lm
open PySem PySem.Spec PyProof.Rows L2 LmR
def topS (i : Nat) : Stmt := PySem.Challenge.pw_leastmaker_k68_refused_in_the_middle.main.body.getD i (.Pass ⟨0, 0, 0, 0⟩)
section
variable {P : Program} {w : World} {K : PySem.W.Frag} {mg : Str → Option Value} {base : Heap}
/-! ### cell, flow, draw -/
abbrev s_l_cell : Stmt := topS 48
theorem sc_l_cell : FnScope ["_law_script", "_law_k", "_law_number"] ["_law_script", "_law_k"] (defScope s_l_cell) := ⟨rfl, rfl, rfl, by decide +kernel, rfl, by decide +kernel, by decide +kernel⟩
def spCell (K : PySem.W.Frag) : Sp := fun vs H Q _ => ∃ (a : Addr) (ns : List Int) (k : Int), vs = [.ref a, .int k] ∧ SqL K H a (ns.map V.int) ∧ 0 ≤ k ∧ ∀ i, Q (.int i) H
theorem ok_l_cell (B : Bt mg) (D : DefAt K mg "_law_cell" s_l_cell ["_law_script", "_law_k"]) : Cal P w K mg base 1 "_law_cell" ["_law_script", "_law_k"] (spCell K) := by
  refine cal_of D sc_l_cell (fun vs H Q E h => ?_) (fun f cdv A outer s H vs Q E hr h => ?_)
  · obtain ⟨a, ns, k, rfl, _⟩ := h
    rfl
  obtain ⟨a, ns, k, rfl, hS, h0, q⟩ := h
  refine ⟨_, (pss_cons (ps_if (pt_cmpR op_lt (pv 1) (pe_callB call_len_seq (by rfl) B.len PySem.boot_len (pa_cons (pv 0) pa_nil)) (nomark _))
        (pss_one (ps_ret (pe_ix ix_list (pv 0) (pv 1) (fun _ _ => rfl))))
        pss_nil)
      (pss_cons (ps_set (i := 2) sc_l_cell.nd rfl (.inl rfl) (pe_op op_add (pe_op op_mul (pv 1) pe_int) pe_int))
      (pss_cons (ps_if (pt_cmpR op_gt (pe_callB call_len_seq (by rfl) B.len PySem.boot_len (pa_cons (pv 0) pa_nil)) pe_int (nomark _))
        (pss_one (ps_set (i := 2) sc_l_cell.nd rfl (.inl rfl) (pe_op op_add (pe_op op_mul (pe_op op_mod (pe_ix ix_list (pv 0) (pe_op op_mod (pe_op op_mul (pv 1) pe_int) (pe_callB call_len_seq (by rfl) B.len PySem.boot_len (pa_cons (pv 0) pa_nil))) (fun _ _ => rfl)) pe_int) pe_int) (pe_op op_mul (pv 1) pe_int))))
        pss_nil)
      (pss_one (ps_ret (pe_op op_mul (pe_op op_mod (pv 2) pe_int) pe_int)))))), ?_⟩
  have hl : (ns.map V.int).length = ns.length := List.length_map _
  refine ⟨_, rfl, _, rfl, a, _, rfl, .inl hS, _, _, rfl, rfl, _, rfl, ite2 (fun c => ?_) (fun c => ?_)⟩
  · have c' : k < (((ns.map V.int).length : Nat) : Int) := of_decide_eq_true c
    rw [hl] at c'
    have e : (ns.map V.int)[k.toNat]? = some (.int ns[k.toNat]) := by
      rw [List.getElem?_map, List.getElem?_eq_getElem (by omega)]
      rfl
    exact ⟨_, rfl, _, rfl, a, _, _, _, rfl, rfl, hS, at_of (j := k.toNat) (by omega) e, q _⟩
  · refine ⟨_, rfl, _, _, rfl, rfl, .inr ⟨by decide, by decide⟩, _, _, rfl, rfl, ?_⟩
    refine ⟨_, rfl, a, _, rfl, .inl hS, _, _, rfl, rfl, _, rfl, ite2 (fun c2 => ?_) (fun c2 => ?_)⟩
    · have c2' : (((ns.map V.int).length : Nat) : Int) > 0 := of_decide_eq_true c2
      rw [hl] at c2'
      have hp : (0 : Int) < (((ns.map V.int).length : Nat) : Int) := by rw [hl]; omega
      have b1 : 0 ≤ (k * 7) % (((ns.map V.int).length : Nat) : Int) := Int.emod_nonneg _ (by omega)
      have b2 : (k * 7) % (((ns.map V.int).length : Nat) : Int) < (((ns.map V.int).length : Nat) : Int) := Int.emod_lt_of_pos _ hp
      generalize hj : (k * 7) % (((ns.map V.int).length : Nat) : Int) = j at b1 b2
      rw [hl] at b2
      have e : (ns.map V.int)[j.toNat]? = some (.int ns[j.toNat]) := by
        rw [List.getElem?_map, List.getElem?_eq_getElem (by omega)]
        rfl
      have m1 : 0 ≤ ns[j.toNat] % 2147483629 := Int.emod_nonneg _ (by decide)
      have m2 : ns[j.toNat] % 2147483629 < 2147483629 := Int.emod_lt_of_pos _ (by decide)
      refine ⟨_, rfl, _, rfl, _, _, rfl, rfl, .inr ⟨by decide, by decide⟩, _, rfl, a, _, rfl, .inl hS, _, _, rfl, rfl, hp, a, _, _, V.int ns[j.toNat], rfl, rfl, hS, ?_, _, _, rfl, rfl, (by show (0 : Int) < 2147483629; decide), _, _, rfl, rfl, .inl ⟨by omega, by omega⟩, _, rfl, _, _, rfl, rfl, .inr ⟨by decide, by decide⟩, _, _, rfl, rfl, ?_⟩
      · rw [hj]
        exact at_of (j := j.toNat) (by omega) e
      · have n1 := Int.emod_nonneg (ns[j.toNat] % 2147483629 * 48271 + k * 7919) (show (2147483647 : Int) ≠ 0 by decide)
        have n2 := Int.emod_lt_of_pos (ns[j.toNat] % 2147483629 * 48271 + k * 7919) (show (0 : Int) < 2147483647 by decide)
        exact ⟨_, rfl, _, _, rfl, rfl, (by show (0 : Int) < 2147483647; decide), _, _, rfl, rfl, .inr ⟨by decide, by decide⟩, q _⟩
    · exact ⟨_, rfl, _, _, rfl, rfl, (by show (0 : Int) < 2147483647; decide), _, _, rfl, rfl, .inr ⟨by decide, by decide⟩, q _⟩
/-! the flow that is drawn from -/
def Flow (H : Hp) (f : Addr) : Prop := ∃ own cnt seed : Int, H f = some (.lst [.int own, .int cnt, .int seed]) ∧ 0 ≤ seed ∧ seed < 2 ^ 40
abbrev s_l_flow : Stmt := topS 49
theorem sc_l_flow : FnScope ["_law_script", "_law_k", "_law_cell_here", "_law_own_here"] ["_law_script", "_law_k"] (defScope s_l_flow) := ⟨rfl, rfl, rfl, by decide +kernel, rfl, by decide +kernel, by decide +kernel⟩
def spFlow (K : PySem.W.Frag) : Sp := fun vs H Q _ => ∃ (a : Addr) (ns : List Int) (k : Int), vs = [.ref a, .int k] ∧ SqL K H a (ns.map V.int) ∧ 0 ≤ k ∧ k ≤ 63 ∧ ∀ (p : Addr) (o : HO), H p = none → Flow (upd H p o) p → Q (.ref p) (upd H p o)
theorem ok_l_flow (C_l_cell : Cal P w K mg base 1 "_law_cell" ["_law_script", "_law_k"] (spCell K)) (D : DefAt K mg "_law_flow" s_l_flow ["_law_script", "_law_k"]) : Cal P w K mg base 2 "_law_flow" ["_law_script", "_law_k"] (spFlow K) := by
  refine cal_of D sc_l_flow (fun vs H Q E h => ?_) (fun f cdv A outer s H vs Q E hr h => ?_)
  · obtain ⟨a, ns, k, rfl, _⟩ := h
    rfl
  obtain ⟨a, ns, k, rfl, hS, h0, h1, q⟩ := h
  have hr' : Room 1 _ := hr
  refine ⟨_, (pss_cons (ps_set (i := 2) sc_l_flow.nd rfl (.inl rfl) (pe_cal C_l_cell hr' (by rfl) (pa_cons (pv 0) (pa_cons (pv 1) pa_nil))))
      (pss_cons (ps_set (i := 3) sc_l_flow.nd rfl (.inl rfl) pe_int)
      (pss_cons (ps_if (pt_cmpR op_ge (pv 2) (pe_op op_pow pe_int pe_int) (nomark _))
        (pss_one (ps_set (i := 3) sc_l_flow.nd rfl (.inl rfl) (pv 2)))
        pss_nil)
      (pss_one (ps_ret (pe_lst (pa_cons (pv 3) (pa_cons pe_int (pa_cons (pe_op op_add (pe_op op_mod (pv 2) pe_int) (pe_op op_mul pe_int (pv 1))) pa_nil))))))))), ?_⟩
  refine ⟨_, rfl, _, rfl, a, ns, k, rfl, hS, h0, fun i => ?_⟩
  have m1 : 0 ≤ i % 2147483629 := Int.emod_nonneg _ (by decide)
  have m2 : i % 2147483629 < 2147483629 := Int.emod_lt_of_pos _ (by decide)
  have pw : CPow 10 18 := ⟨by decide, by decide, by decide⟩
  refine ⟨_, rfl, _, _, rfl, rfl, pw, _, _, rfl, rfl, _, rfl, ite2 (fun c => ?_) (fun c => ?_)⟩
  · refine ⟨_, rfl, _, rfl, _, rfl, _, _, rfl, rfl, (by show (0 : Int) < 2147483629; decide), _, rfl, _, _, rfl, rfl, .inl ⟨by decide, by decide⟩, _, _, rfl, rfl, (by show 3 ≤ sizeLine; decide), fun p hp => q p _ hp ⟨_, _, _, upd_same, by omega, by omega⟩⟩
  · refine ⟨_, rfl, _, rfl, _, _, rfl, rfl, (by show (0 : Int) < 2147483629; decide), _, rfl, _, _, rfl, rfl, .inl ⟨by decide, by decide⟩, _, _, rfl, rfl, (by show 3 ≤ sizeLine; decide), fun p hp => q p _ hp ⟨_, _, _, upd_same, by omega, by omega⟩⟩
/-- the flow at f was drawn from, nothing else changed -/
structure Dr (f : Addr) (H H' : Hp) : Prop where
  off : ∀ b, b ≠ f → H' b = H b
  fl : Flow H' f
theorem Flow.lst {H : Hp} {f : Addr} (h : Flow H f) : ∃ xs, H f = some (.lst xs) := by
  obtain ⟨a, b, c, e, _⟩ := h
  exact ⟨_, e⟩
theorem Dr.ex {f : Addr} {H H' : Hp} (d : Dr f H H') : Ex [f] H H' := fun b o h n => by
  rw [d.off b (fun z => n (by rw [z]; simp))]
  exact h
theorem Dr.trans {f : Addr} {H H1 H2 : Hp} (a : Dr f H H1) (b : Dr f H1 H2) : Dr f H H2 := ⟨fun c n => (b.off c n).trans (a.off c n), b.fl⟩
theorem Dr.tp {f : Addr} {H H' : Hp} (d : Dr f H H') (h : Flow H f) : Tp K H H' := by
  obtain ⟨xs, e⟩ := h.lst
  refine d.ex.tp fun b hb ys q => ?_
  rw [List.mem_singleton.mp hb] at q
  rcases q with q | ⟨o, q⟩
  · rw [e] at q; cases q
  · rw [e] at q; cases q
abbrev s_l_draw : Stmt := topS 50
theorem sc_l_draw : FnScope ["_law_flow_here", "_law_many", "_law_number", "_law_digit"] ["_law_flow_here", "_law_many"] (defScope s_l_draw) := ⟨rfl, rfl, rfl, by decide +kernel, rfl, by decide +kernel, by decide +kernel⟩
def spDraw : Sp := fun vs H Q _ => ∃ (f : Addr) (m : Int), vs = [.ref f, .int m] ∧ Flow H f ∧ 0 < m ∧ m < 1073741824 ∧ ∀ (d : Int) (H' : Hp), 0 ≤ d → d < m → Dr f H H' → Q (.int d) H'
theorem dr_put {f : Addr} {H H0 : Hp} {xs : List V} (o : ∀ b, b ≠ f → H0 b = H b) (fl : Flow (upd H0 f (.lst xs)) f) : Dr f H (upd H0 f (.lst xs)) := ⟨fun b n => by rw [upd_ne n]; exact o b n, fl⟩
theorem ok_l_draw (D : DefAt K mg "_law_draw" s_l_draw ["_law_flow_here", "_law_many"]) : Cal P w K mg base 1 "_law_draw" ["_law_flow_here", "_law_many"] (spDraw) := by
  refine cal_of D sc_l_draw (fun vs H Q E h => ?_) (fun f cdv A outer s H vs Q E hr h => ?_)
  · obtain ⟨a, m, rfl, _⟩ := h
    rfl
  obtain ⟨a, m, rfl, ⟨own, cnt, seed, hf, s0, s1⟩, m0, m1, q⟩ := h
  refine ⟨_, (pss_cons (ps_if (pt_cmpR op_gt (pe_ix ix_list (pv 0) pe_int (fun _ _ => rfl)) pe_int (nomark _))
        (pss_cons (ps_set (i := 3) sc_l_draw.nd rfl (.inl rfl) (pe_op op_mod (pe_ix ix_list (pv 0) pe_int (fun _ _ => rfl)) (pv 1)))
      (pss_cons (ps_asg (pe_op op_fdiv (pe_ix ix_list (pv 0) pe_int (fun _ _ => rfl)) (pv 1)) (pg_sub (pv 0) pe_int set_list))
      (pss_one (ps_ret (pv 3)))))
        pss_nil)
      (pss_cons (ps_asg (pe_op op_add (pe_ix ix_list (pv 0) pe_int (fun _ _ => rfl)) pe_int) (pg_sub (pv 0) pe_int set_list))
      (pss_cons (ps_set (i := 2) sc_l_draw.nd rfl (.inl rfl) (pe_op op_mod (pe_op op_add (pe_op op_add (pe_op op_mul (pe_ix ix_list (pv 0) pe_int (fun _ _ => rfl)) (pe_op op_add pe_int (pe_op op_mul pe_int (pe_ix ix_list (pv 0) pe_int (fun _ _ => rfl))))) (pe_op op_mul pe_int (pe_ix ix_list (pv 0) pe_int (fun _ _ => rfl)))) pe_int) pe_int))
      (pss_cons (ps_set (i := 2) sc_l_draw.nd rfl (.inl rfl) (pe_op op_mod (pe_op op_mul (pv 2) (pv 2)) pe_int))
      (pss_one (ps_ret (pe_op op_mod (pe_op op_fdiv (pe_op op_mod (pe_op op_mul (pe_op op_add (pv 2) pe_int) (pe_op op_add (pv 2) pe_int)) pe_int) pe_int) (pv 1)))))))), ?_⟩
  have L : SqL K H a [.int own, .int cnt, .int seed] := SqL.of hf
  refine ⟨_, rfl, a, _, 0, .int own, rfl, rfl, L, rfl, _, _, rfl, rfl, _, rfl, ite2 (fun c => ?_) (fun c => ?_)⟩
  · have b1 : 0 ≤ own % m := Int.emod_nonneg _ (by omega)
    have b2 : own % m < m := Int.emod_lt_of_pos _ m0
    refine ⟨_, rfl, a, _, 0, .int own, rfl, rfl, L, rfl, _, rfl, _, _, rfl, rfl, m0, ?_⟩
    refine ⟨_, rfl, a, _, 0, .int own, rfl, rfl, L, rfl, _, rfl, _, _, rfl, rfl, ⟨m0, m1⟩, ?_⟩
    refine ⟨_, rfl, a, _, 0, 0, rfl, rfl, hf, rfl, ?_⟩
    exact ⟨_, rfl, q _ _ b1 b2 (dr_put (fun _ _ => rfl) ⟨_, _, _, upd_same, s0, s1⟩)⟩
  · refine ⟨_, rfl, a, _, 1, .int cnt, rfl, rfl, L, rfl, _, _, rfl, rfl, ?_⟩
    refine ⟨_, rfl, a, _, 1, 1, rfl, rfl, hf, rfl, ?_⟩
    have hf2 : (upd H a (.lst (List.set [.int own, .int cnt, .int seed] 1 (.int (cnt + 1))))) a = some (.lst [.int own, .int (cnt + 1), .int seed]) := upd_same
    generalize hH : upd H a (.lst (List.set [.int own, .int cnt, .int seed] 1 (.int (cnt + 1)))) = H2 at hf2
    have off : ∀ b, b ≠ a → H2 b = H b := fun b n => by
      rw [← hH, upd_ne n]
    have L2' : SqL K H2 a [.int own, .int (cnt + 1), .int seed] := SqL.of hf2
    refine ⟨_, rfl, a, _, 2, .int seed, rfl, rfl, L2', rfl, _, rfl, a, _, 1, .int (cnt + 1), rfl, rfl, L2', rfl, _, _, rfl, rfl, .inl ⟨by decide, by decide⟩, _, _, rfl, rfl, _, _, rfl, rfl, .inl ⟨by omega, by omega⟩, ?_⟩
    refine ⟨_, rfl, a, _, 1, .int (cnt + 1), rfl, rfl, L2', rfl, _, _, rfl, rfl, .inl ⟨by decide, by decide⟩, _, _, rfl, rfl, _, _, rfl, rfl, _, _, rfl, rfl, (by show (0 : Int) < 2147483629; decide), ?_⟩
    have n1 := Int.emod_nonneg (seed * (48271 + 2 * (cnt + 1)) + 7919 * (cnt + 1) + 1) (show (2147483629 : Int) ≠ 0 by decide)
    have n2 := Int.emod_lt_of_pos (seed * (48271 + 2 * (cnt + 1)) + 7919 * (cnt + 1) + 1) (show (0 : Int) < 2147483629 by decide)
    generalize (seed * (48271 + 2 * (cnt + 1)) + 7919 * (cnt + 1) + 1) % 2147483629 = n at n1 n2
    refine ⟨_, rfl, _, rfl, _, _, rfl, rfl, .inl ⟨by omega, by omega⟩, _, _, rfl, rfl, (by show (0 : Int) < 2147483587; decide), ?_⟩
    have k1 := Int.emod_nonneg (n * n) (show (2147483587 : Int) ≠ 0 by decide)
    have k2 := Int.emod_lt_of_pos (n * n) (show (0 : Int) < 2147483587 by decide)
    generalize n * n % 2147483587 = k at k1 k2
    refine ⟨_, rfl, _, _, rfl, rfl, _, rfl, _, _, rfl, rfl, _, _, rfl, rfl, .inl ⟨by omega, by omega⟩, _, _, rfl, rfl, (by show (0 : Int) < 2147483579; decide), _, _, rfl, rfl, ⟨by decide, by decide⟩, _, rfl, _, _, rfl, rfl, m0, ?_⟩
    exact q _ _ (Int.emod_nonneg _ (by omega)) (Int.emod_lt_of_pos _ m0) ⟨off, ⟨_, _, _, hf2, s0, s1⟩⟩
end
end Lm

set_option Elab.async false
set_option linter.all false
set_option maxRecDepth 100000
set_option maxHeartbeats 2000000
namespace Lm
open PySem PySem.Spec PyProof.Rows L2 LmR
/-! ### flat data: kinds, sizes -/
def tyn : PyData → String
  | .none => "NoneType"
  | .bool _ => "bool"
  | .int _ => "int"
  | .str _ => "str"
  | .list _ => "list"
  | .tuple _ => "tuple"
  | .dict _ => "dict"
theorem tyx_tup {K : PySem.W.Frag} {H : Hp} {a : Addr} {xs : List V} (q : SqT K H a xs) : TyX K H (.ref a) (.type "tuple") := by
  rcases q with (q | ⟨o, q⟩) | ⟨o, its, n, hk, hc, _⟩
  · exact .base (.tup q)
  · exact .fTuple q
  · exact .kTuple hk hc
theorem Fd.ty {K : PySem.W.Frag} {H : Hp} {v : V} {d : PyData} (h : Fd K H v d) : TyX K H v (.type (tyn d)) := by
  obtain ⟨f, h⟩ := h
  cases h with
  | non => exact .base .non
  | bl b => exact .base (.bl b)
  | int i => exact .base (.int i)
  | str x => exact .base (.str x)
  | lst q r => simp [flat] at f
  | tup q r => exact tyx_tup q
def isTup : PyData → Bool
  | .tuple _ => true
  | _ => false
def isBl : PyData → Bool
  | .bool _ => true
  | _ => false
def isStr : PyData → Bool
  | .str _ => true
  | _ => false
def isInt : PyData → Bool
  | .bool _ => true
  | .int _ => true
  | _ => false
theorem kit_tup {K : PySem.W.Frag} (d : PyData) (h : flat d = true) : PySem.W.kitOne K (.type (tyn d)) (.type "tuple") = some (isTup d) := by
  cases d <;> first | (simp [flat] at h; done) | exact kit_ty (a := "NoneType") (r := true) (by decide +kernel) | exact kit_ty (a := "NoneType") (r := false) (by decide +kernel) | exact kit_ty (a := "bool") (r := true) (by decide +kernel) | exact kit_ty (a := "bool") (r := false) (by decide +kernel) | exact kit_ty (a := "int") (r := true) (by decide +kernel) | exact kit_ty (a := "int") (r := false) (by decide +kernel) | exact kit_ty (a := "str") (r := true) (by decide +kernel) | exact kit_ty (a := "str") (r := false) (by decide +kernel) | exact kit_ty (a := "tuple") (r := true) (by decide +kernel) | exact kit_ty (a := "tuple") (r := false) (by decide +kernel)
theorem kit_bl {K : PySem.W.Frag} (d : PyData) (h : flat d = true) : PySem.W.kitOne K (.type (tyn d)) (.type "bool") = some (isBl d) := by
  cases d <;> first | (simp [flat] at h; done) | exact kit_ty (a := "NoneType") (r := true) (by decide +kernel) | exact kit_ty (a := "NoneType") (r := false) (by decide +kernel) | exact kit_ty (a := "bool") (r := true) (by decide +kernel) | exact kit_ty (a := "bool") (r := false) (by decide +kernel) | exact kit_ty (a := "int") (r := true) (by decide +kernel) | exact kit_ty (a := "int") (r := false) (by decide +kernel) | exact kit_ty (a := "str") (r := true) (by decide +kernel) | exact kit_ty (a := "str") (r := false) (by decide +kernel) | exact kit_ty (a := "tuple") (r := true) (by decide +kernel) | exact kit_ty (a := "tuple") (r := false) (by decide +kernel)
theorem kit_str {K : PySem.W.Frag} (d : PyData) (h : flat d = true) : PySem.W.kitOne K (.type (tyn d)) (.type "str") = some (isStr d) := by
  cases d <;> first | (simp [flat] at h; done) | exact kit_ty (a := "NoneType") (r := true) (by decide +kernel) | exact kit_ty (a := "NoneType") (r := false) (by decide +kernel) | exact kit_ty (a := "bool") (r := true) (by decide +kernel) | exact kit_ty (a := "bool") (r := false) (by decide +kernel) | exact kit_ty (a := "int") (r := true) (by decide +kernel) | exact kit_ty (a := "int") (r := false) (by decide +kernel) | exact kit_ty (a := "str") (r := true) (by decide +kernel) | exact kit_ty (a := "str") (r := false) (by decide +kernel) | exact kit_ty (a := "tuple") (r := true) (by decide +kernel) | exact kit_ty (a := "tuple") (r := false) (by decide +kernel)
theorem kit_int {K : PySem.W.Frag} (d : PyData) (h : flat d = true) : PySem.W.kitOne K (.type (tyn d)) (.type "int") = some (isInt d) := by
  cases d <;> first | (simp [flat] at h; done) | exact kit_ty (a := "NoneType") (r := true) (by decide +kernel) | exact kit_ty (a := "NoneType") (r := false) (by decide +kernel) | exact kit_ty (a := "bool") (r := true) (by decide +kernel) | exact kit_ty (a := "bool") (r := false) (by decide +kernel) | exact kit_ty (a := "int") (r := true) (by decide +kernel) | exact kit_ty (a := "int") (r := false) (by decide +kernel) | exact kit_ty (a := "str") (r := true) (by decide +kernel) | exact kit_ty (a := "str") (r := false) (by decide +kernel) | exact kit_ty (a := "tuple") (r := true) (by decide +kernel) | exact kit_ty (a := "tuple") (r := false) (by decide +kernel)
end Lm

set_option Elab.async false
set_option linter.all false
set_option maxRecDepth 100000
set_option maxHeartbeats 2000000
namespace Lm
open PySem PySem.Spec PyProof.Rows L2 LmR
/-- how many things are in it -/
def dsz : PyData → Nat
  | .tuple xs => 1 + dszs xs
  | _ => 1
where dszs : List PyData → Nat
  | [] => 0
  | d :: ds => dsz d + dszs ds
theorem dsz_pos (d : PyData) : 1 ≤ dsz d := by cases d <;> simp [dsz]
theorem dszs_len : ∀ ds : List PyData, ds.length ≤ dsz.dszs ds
  | [] => Nat.le_refl _
  | d :: ds => by
    have h1 := dsz_pos d
    have h2 := dszs_len ds
    simp only [dsz.dszs, List.length_cons]
    omega
theorem dszs_app : ∀ ds es : List PyData, dsz.dszs (ds ++ es) = dsz.dszs ds + dsz.dszs es
  | [], es => by simp [dsz.dszs]
  | d :: ds, es => by
    have h := dszs_app ds es
    simp only [List.cons_append, dsz.dszs]
    omega
/-- a pair of two things alike -/
def Pr (K : PySem.W.Frag) (H : Hp) (t : Addr) (d : PyData) : Prop := ∃ x y, H t = some (.tup [x, y]) ∧ Fd K H x d ∧ Fd K H y d
theorem Pr.keep {K : PySem.W.Frag} {H H' : Hp} {t : Addr} {d : PyData} (h : Pr K H t d) (s : ∀ xs, H t = some (.tup xs) → H' t = some (.tup xs)) (t' : Tp K H H') : Pr K H' t d := by
  obtain ⟨x, y, e, a, b⟩ := h
  exact ⟨x, y, s _ e, a.keep t', b.keep t'⟩
theorem while_m {c : TT} {tb : TS} {D : Ends} {σ : L2.St} {H : Hp} (W : Nat → L2.St → Hp → Prop) (h0 : ∃ m, W m σ H)
    (hs : ∀ m σ H, W m σ H → c σ H fun b H1 => if b = true then ∃ N : L2.St → Hp → Prop, (∀ σ' H', N σ' H' → ∃ m', m' < m ∧ W m' σ' H') ∧ tb { D with nx := N, ct := N, bk := D.nx } σ H1 else D.nx σ H1) : tWhile c tb D σ H := ⟨W, h0, hs⟩
theorem dpall_get {K : PySem.W.Frag} {H : Hp} : ∀ {vs : List V} {ds : List PyData}, DpAll K H vs ds → ∀ (j : Nat) (v : V), vs[j]? = some v → ∃ d, ds[j]? = some d ∧ Dp K H v d
  | _, _, .nil, j, v, h => by simp at h
  | _, _, .cons a b, 0, v, h => by
    have e := Option.some.inj h
    subst e
    exact ⟨_, rfl, a⟩
  | _, _, .cons a b, j + 1, v, h => dpall_get b j v h
theorem dpall_len {K : PySem.W.Frag} {H : Hp} : ∀ {vs : List V} {ds : List PyData}, DpAll K H vs ds → vs.length = ds.length
  | _, _, .nil => rfl
  | _, _, .cons a b => by rw [List.length_cons, List.length_cons, dpall_len b]
theorem flats_get : ∀ {ds : List PyData}, flat.flats ds = true → ∀ (j : Nat) (d : PyData), ds[j]? = some d → flat d = true
  | [], _, j, d, h => by simp at h
  | e :: ds, f, 0, d, h => by
    rw [flat.flats, Bool.and_eq_true] at f
    have e := Option.some.inj h
    subst e
    exact f.1
  | e :: ds, f, j + 1, d, h => by
    rw [flat.flats, Bool.and_eq_true] at f
    exact flats_get f.2 j d h
section
variable {P : Program} {w : World} {K : PySem.W.Frag} {mg : Str → Option Value} {base : Heap}
abbrev s_l_alike : Stmt := topS 59
theorem sc_l_alike : FnScope ["_law_found", "_law_due", "_law_left", "_law_one", "_law_other"] ["_law_found", "_law_due"] (defScope s_l_alike) := ⟨rfl, rfl, rfl, by decide +kernel, rfl, by decide +kernel, by decide +kernel⟩
def spAlike (K : PySem.W.Frag) : Sp := fun vs H Q _ => ∃ (x y : V) (d : PyData), vs = [x, y] ∧ Fd K H x d ∧ Fd K H y d ∧ dsz d ≤ 90000 ∧ ∀ H', Same H H' → Q (.bl true) H'
theorem ok_l_alike (B : Bt mg) (D : DefAt K mg "_law_alike" s_l_alike ["_law_found", "_law_due"]) : Cal P w K mg base 1 "_law_alike" ["_law_found", "_law_due"] (spAlike K) := by
  refine cal_of D sc_l_alike (fun vs H Q E h => ?_) (fun f cdv A outer s H vs Q E hr h => ?_)
  · obtain ⟨x, y, d, rfl, _⟩ := h
    rfl
  obtain ⟨x, y, d, rfl, hx, hy, hd, q⟩ := h
  refine ⟨_, (pss_cons (ps_set (i := 2) sc_l_alike.nd rfl (.inl rfl) (pe_lst (pa_cons (pe_tup (pa_cons (pv 0) (pa_cons (pv 1) pa_nil))) pa_nil)))
      (pss_cons (ps_while PassesOwn.never (pt_cmpR op_gt (pe_callB call_len_seq (by rfl) B.len PySem.boot_len (pa_cons (pv 2) pa_nil)) pe_int (nomark _))
        (pss_cons (ps_asg (pe_bm0 PySem.F.plainAttrs_list PySem.F.slot_list_pop PySem.F.type_list_pop mt_pop (pv 2)) (pg_tup rfl (pgs_cons (pg_name (i := 3) sc_l_alike.nd rfl (.inl rfl)) (pgs_cons (pg_name (i := 4) sc_l_alike.nd rfl (.inl rfl)) pgs_nil))))
      (pss_cons (ps_if (pt_cmpR op_ne (pe_callB call_isi (by rfl) B.isinstance (by decide +kernel) (pa_cons (pv 3) (pa_cons (pe_bltn (v := .ty "tuple") (by rfl) B.tuple PyProof.Rows.boot_tuple rfl) pa_nil))) (pe_callB call_isi (by rfl) B.isinstance (by decide +kernel) (pa_cons (pv 4) (pa_cons (pe_bltn (v := .ty "tuple") (by rfl) B.tuple PyProof.Rows.boot_tuple rfl) pa_nil))) (nomark _))
        (pss_one (ps_ret pe_bl))
        pss_nil)
      (pss_cons (ps_if (pt_cmpR op_ne (pe_callB call_isi (by rfl) B.isinstance (by decide +kernel) (pa_cons (pv 3) (pa_cons (pe_bltn (v := .ty "bool") (by rfl) B.bool PyProof.Rows.boot_bool rfl) pa_nil))) (pe_callB call_isi (by rfl) B.isinstance (by decide +kernel) (pa_cons (pv 4) (pa_cons (pe_bltn (v := .ty "bool") (by rfl) B.bool PyProof.Rows.boot_bool rfl) pa_nil))) (nomark _))
        (pss_one (ps_ret pe_bl))
        pss_nil)
      (pss_one (ps_if (pt_val (pe_callB call_isi (by rfl) B.isinstance (by decide +kernel) (pa_cons (pv 4) (pa_cons (pe_bltn (v := .ty "tuple") (by rfl) B.tuple PyProof.Rows.boot_tuple rfl) pa_nil))))
        (pss_cons (ps_if (pt_cmpR op_ne (pe_callB call_len_seq (by rfl) B.len PySem.boot_len (pa_cons (pv 3) pa_nil)) (pe_callB call_len_seq (by rfl) B.len PySem.boot_len (pa_cons (pv 4) pa_nil)) (nomark _))
        (pss_one (ps_ret pe_bl))
        pss_nil)
      (pss_one (ps_expr (pe_bm PySem.F.plainAttrs_list PySem.F.slot_list_extend PySem.F.type_list_extend mt_extend (pv 2) (pa_cons (pe_listZip rfl (by rfl) B.list (by rfl) B.zip (pa_cons (pv 3) (pa_cons (pv 4) pa_nil))) pa_nil)))))
        (pss_one (ps_if (PW.pt (pw_or (pt_cmpR op_ne (pe_callB call_isi (by rfl) B.isinstance (by decide +kernel) (pa_cons (pv 3) (pa_cons (pe_bltn (v := .ty "str") (by rfl) B.str PyProof.Rows.boot_str rfl) pa_nil))) (pe_callB call_isi (by rfl) B.isinstance (by decide +kernel) (pa_cons (pv 4) (pa_cons (pe_bltn (v := .ty "str") (by rfl) B.str PyProof.Rows.boot_str rfl) pa_nil))) (nomark _)) (pw_or1 (pt_cmpR op_ne (pv 3) (pv 4) (nomark _)))))
        (pss_one (ps_ret pe_bl))
        pss_nil))))))))
      (pss_one (ps_ret pe_bl)))), ?_⟩
  refine ⟨_, rfl, _, rfl, (by show 2 ≤ sizeLine; decide), fun t ht => ⟨(by show 1 ≤ sizeLine; decide), fun l hl => ?_⟩⟩
  have s1 : Same H (upd H t (.tup [x, y])) := same_new ht
  have s2 : Same (upd H t (.tup [x, y])) (upd (upd H t (.tup [x, y])) l (.lst [.ref t])) := same_new hl
  have hlH : H l = none := s1.free hl
  refine while_m (fun m σ H' => ∃ (ps : List (Addr × PyData)) (y3 y4 : Option V), σ = [some x, some y, some (.ref l), y3, y4] ∧ m = dsz.dszs (ps.map (·.2)) ∧ m ≤ 90000 ∧ Same H H' ∧ H' l = some (.lst (ps.map fun p => V.ref p.1)) ∧ ∀ p ∈ ps, Pr K H' p.1 p.2) ?_ ?_
  · refine ⟨_, [(t, d)], none, none, rfl, rfl, ?_, s1.trans s2, upd_same, fun p hp => ?_⟩
    · show dsz d + 0 ≤ 90000
      omega
    · rw [List.mem_singleton.mp hp]
      exact ⟨x, y, s2 _ _ upd_same, hx.keep (Tp.same (s1.trans s2)), hy.keep (Tp.same (s1.trans s2))⟩
  · rintro m σ H' ⟨ps, y3, y4, rfl, rfl, hm, sm, hL, hP⟩
    refine ⟨_, rfl, l, _, rfl, .inl (SqL.of hL), _, _, rfl, rfl, _, rfl, ite2 (fun c => ?_) (fun c => ?_)⟩
    · have c' : (((ps.map fun p => V.ref p.1).length : Nat) : Int) > 0 := of_decide_eq_true c
      rw [List.length_map] at c'
      obtain ⟨qs, ⟨u, e⟩, rfl⟩ : ∃ qs p, ps = qs ++ [p] := by
        rcases List.eq_nil_or_concat ps with h | ⟨qs, p, h⟩
        · rw [h] at c'
          simp at c'
        · exact ⟨qs, p, by rw [h, List.concat_eq_append]⟩
      have hm2 : dsz.dszs ((qs ++ [(u, e)]).map (·.2)) = dsz.dszs (qs.map (·.2)) + dsz e := by
        rw [List.map_append, dszs_app]
        simp [dsz.dszs]
      obtain ⟨a, b, hu, ha, hb⟩ := hP (u, e) (by simp)
      have hLm : H' l = some (.lst ((qs.map fun p => V.ref p.1) ++ [V.ref u])) := by
        rw [hL, List.map_append]
        rfl
      have nu : u ≠ l := fun z => by
        have hu' : H' u = some (.tup [a, b]) := hu
        rw [z, hLm] at hu'
        cases hu'
      -- what was popped
      refine ⟨fun σ' H2 => ∃ m', m' < dsz.dszs ((qs ++ [(u, e)]).map (·.2)) ∧ ∃ (ps : List (Addr × PyData)) (y3 y4 : Option V), σ' = [some x, some y, some (.ref l), y3, y4] ∧ m' = dsz.dszs (ps.map (·.2)) ∧ m' ≤ 90000 ∧ Same H H2 ∧ H2 l = some (.lst (ps.map fun p => V.ref p.1)) ∧ ∀ p ∈ ps, Pr K H2 p.1 p.2, fun σ' H2 h => h, ?_⟩
      refine ⟨_, rfl, .inl ⟨rfl, _, SqL.of hLm⟩, l, _, .ref u, rfl, rfl, hLm, ?_, ?_⟩
      · rw [List.length_append, List.length_singleton, Nat.add_sub_cancel, List.getElem?_append_right (Nat.le_refl _), Nat.sub_self]
        rfl
      rw [List.dropLast_concat]
      have hl2 : (upd H' l (.lst (qs.map fun p => V.ref p.1))) l = some (.lst (qs.map fun p => V.ref p.1)) := upd_same
      have o2 : ∀ b, b ≠ l → (upd H' l (.lst (qs.map fun p => V.ref p.1))) b = H' b := fun b n => upd_ne n
      have t2 : Tp K H' (upd H' l (.lst (qs.map fun p => V.ref p.1))) := Tp.lst hLm
      have sm2 : Same H (upd H' l (.lst (qs.map fun p => V.ref p.1))) := fun c o z => by
        rw [o2 c (ne_of_none z hlH)]
        exact sm c o z
      generalize upd H' l (.lst (qs.map fun p => V.ref p.1)) = H2 at hl2 o2 t2 sm2
      have hP2 : ∀ p ∈ qs, Pr K H2 p.1 p.2 := fun p hp => by
        have z := hP p (List.mem_append_left _ hp)
        refine z.keep (fun xs h => ?_) t2
        have np : p.1 ≠ l := fun z => by
          rw [z, hLm] at h
          cases h
        rw [o2 _ np]
        exact h
      have ha2 := ha.keep t2
      have hb2 := hb.keep t2
      have hu2 : H2 u = some (.tup [a, b]) := by
        rw [o2 u nu]
        exact hu
      refine ⟨u, [a, b], rfl, .inl (.inl hu2), rfl, a, [b], rfl, b, [], rfl, rfl, ?_⟩
      have fe := ha2.1
      refine ⟨_, rfl, a, _, _, _, _, rfl, .ty _, ha2.ty, kit_tup e fe, _, rfl, b, _, _, _, _, rfl, .ty _, hb2.ty, kit_tup e fe, rfl, _, rfl, iteNS rfl ?_⟩
      refine ⟨_, rfl, a, _, _, _, _, rfl, .ty _, ha2.ty, kit_bl e fe, _, rfl, b, _, _, _, _, rfl, .ty _, hb2.ty, kit_bl e fe, rfl, _, rfl, iteNS rfl ?_⟩
      refine ⟨_, rfl, b, _, _, _, _, rfl, .ty _, hb2.ty, kit_tup e fe, _, rfl, ?_⟩
      cases e with
      | list ds => simp [flat] at fe
      | dict ds => simp [flat] at fe
      | tuple ds =>
        refine iteT ?_
        obtain ⟨_, da⟩ := ha2
        obtain ⟨_, db⟩ := hb2
        cases da with
        | @tup ta xs _ qa ra =>
          cases db with
          | @tup tb ys _ qb rb =>
            have la := dpall_len ra
            have lb := dpall_len rb
            have lab : xs.length = ys.length := by omega
            refine ⟨_, rfl, ta, xs, rfl, .inr qa, _, rfl, tb, ys, rfl, .inr qb, rfl, _, rfl, iteNS (by rw [lab]) ?_⟩
            refine ⟨_, rfl, .inl ⟨rfl, _, SqL.of hl2⟩, _, rfl, _, rfl, ta, tb, xs, ys, rfl, qa, qb, lab, fun H3 p ts s3 pn tn hp3 lt pr => ?_⟩
            have hl3 : H3 l = some (.lst (qs.map fun p => V.ref p.1)) := s3 _ _ hl2
            have hle : ds.length ≤ dsz.dszs ds := dszs_len ds
            have hm3 : dsz (.tuple ds) = 1 + dsz.dszs ds := rfl
            have hq : qs.length ≤ dsz.dszs (qs.map (·.2)) := by
              have z := dszs_len (qs.map (·.2))
              rw [List.length_map] at z
              exact z
            refine ⟨l, p, _, _, rfl, rfl, hl3, hp3, ?_, ?_⟩
            · rw [List.length_map, List.length_map]
              exact small (by omega)
            · have t3 : Tp K H2 (upd H3 l (.lst ((qs.map fun p => V.ref p.1) ++ ts.map V.ref))) := (Tp.same s3).trans (Tp.lst hl3)
              have o3 : ∀ b o, b ≠ l → H2 b = some o → (upd H3 l (.lst ((qs.map fun p => V.ref p.1) ++ ts.map V.ref))) b = some o := fun b o n z => by
                rw [upd_ne n]
                exact s3 _ _ z
              have ltd : ts.length = ds.length := by omega
              have ez : (ts.zip ds).map (·.2) = ds := by
                rw [List.map_snd_zip]
                omega
              have ef : (ts.zip ds).map (·.1) = ts := by
                rw [List.map_fst_zip]
                omega
              refine ⟨dsz.dszs ((qs ++ ts.zip ds).map (·.2)), ?_, qs ++ ts.zip ds, some (.ref ta), some (.ref tb), rfl, rfl, ?_, fun c o z => ?_, ?_, fun p' hp' => ?_⟩
              · rw [List.map_append, dszs_app, ez, hm2, hm3]
                omega
              · rw [List.map_append, dszs_app, ez]
                rw [hm2, hm3] at hm
                omega
              · exact o3 c o (ne_of_none z hlH) (sm2 c o z)
              · rw [upd_same, List.map_append]
                have ev : (ts.zip ds).map (fun p => V.ref p.1) = ts.map V.ref := by
                  rw [← congrArg (List.map V.ref) ef, List.map_map]
                  rfl
                rw [ev]
              · rcases List.mem_append.mp hp' with z | z
                · have zz := hP2 p' z
                  refine zz.keep (fun xs h => ?_) t3
                  have np : p'.1 ≠ l := fun z => by
                    rw [z, hl2] at h
                    cases h
                  exact o3 _ _ np h
                · obtain ⟨j, hj⟩ := List.mem_iff_getElem?.mp z
                  rw [List.getElem?_zip_eq_some] at hj
                  obtain ⟨j1, j2⟩ := hj
                  obtain ⟨x', y', e1, e2, e3⟩ := pr j p'.1 j1
                  obtain ⟨d1, f1, g1⟩ := dpall_get ra j x' e1
                  obtain ⟨d2, f2, g2⟩ := dpall_get rb j y' e2
                  rw [j2] at f1 f2
                  have h1 := Option.some.inj f1
                  have h2 := Option.some.inj f2
                  have np : p'.1 ≠ l := fun z => by
                    rw [z, hl3] at e3
                    cases e3
                  have fj := flats_get fe j _ j2
                  refine ⟨x', y', by rw [upd_ne np]; exact e3, ?_, ?_⟩
                  · exact Fd.keep ⟨fj, by rw [h1]; exact g1⟩ t3
                  · exact Fd.keep ⟨fj, by rw [h2]; exact g2⟩ t3
      | none =>
        refine iteF ?_
        obtain ⟨_, da⟩ := ha2
        obtain ⟨_, db⟩ := hb2
        cases da
        cases db
        refine ⟨_, rfl, _, _, _, _, _, rfl, .ty _, .base .non, kit_str .none rfl, _, rfl, _, _, _, _, _, rfl, .ty _, .base .non, kit_str .none rfl, rfl, _, rfl, ?_⟩
        refine iteF ⟨_, rfl, _, rfl, rfl, _, rfl, iteF ?_⟩
        refine ⟨dsz.dszs (qs.map (·.2)), by rw [hm2]; show _ < _ + 1; omega, qs, some .non, some .non, rfl, rfl, by rw [hm2] at hm; omega, sm2, hl2, hP2⟩
      | bool v =>
        refine iteF ?_
        obtain ⟨_, da⟩ := ha2
        obtain ⟨_, db⟩ := hb2
        cases da
        cases db
        refine ⟨_, rfl, _, _, _, _, _, rfl, .ty _, .base (.bl v), kit_str (.bool v) rfl, _, rfl, _, _, _, _, _, rfl, .ty _, .base (.bl v), kit_str (.bool v) rfl, rfl, _, rfl, ?_⟩
        refine iteF ⟨_, rfl, _, rfl, rfl, _, rfl, iteNS rfl ?_⟩
        refine ⟨dsz.dszs (qs.map (·.2)), by rw [hm2]; show _ < _ + 1; omega, qs, some (.bl v), some (.bl v), rfl, rfl, by rw [hm2] at hm; omega, sm2, hl2, hP2⟩
      | int v =>
        refine iteF ?_
        obtain ⟨_, da⟩ := ha2
        obtain ⟨_, db⟩ := hb2
        cases da
        cases db
        refine ⟨_, rfl, _, _, _, _, _, rfl, .ty _, .base (.int v), kit_str (.int v) rfl, _, rfl, _, _, _, _, _, rfl, .ty _, .base (.int v), kit_str (.int v) rfl, rfl, _, rfl, ?_⟩
        refine iteF ⟨_, rfl, _, rfl, rfl, _, rfl, iteNS rfl ?_⟩
        refine ⟨dsz.dszs (qs.map (·.2)), by rw [hm2]; show _ < _ + 1; omega, qs, some (.int v), some (.int v), rfl, rfl, by rw [hm2] at hm; omega, sm2, hl2, hP2⟩
      | str v =>
        refine iteF ?_
        obtain ⟨_, da⟩ := ha2
        obtain ⟨_, db⟩ := hb2
        cases da
        cases db
        refine ⟨_, rfl, _, _, _, _, _, rfl, .ty _, .base (.str v), kit_str (.str v) rfl, _, rfl, _, _, _, _, _, rfl, .ty _, .base (.str v), kit_str (.str v) rfl, rfl, _, rfl, ?_⟩
        refine iteF ⟨_, rfl, _, rfl, rfl, _, rfl, iteNS rfl ?_⟩
        refine ⟨dsz.dszs (qs.map (·.2)), by rw [hm2]; show _ < _ + 1; omega, qs, some (.str v), some (.str v), rfl, rfl, by rw [hm2] at hm; omega, sm2, hl2, hP2⟩
    · exact q _ sm
end
end Lm

set_option Elab.async false
set_option linter.all false
set_option maxRecDepth 100000
set_option maxHeartbeats 2000000
namespace Lm
open PySem PySem.Spec PyProof.Rows L2 LmR
/-! ### programs -/
inductive Bw where
  | least
  | most
  | atmost
  | both
  | either
def Bw.str : Bw → Str
  | .least => "least"
  | .most => "most"
  | .atmost => "atmost"
  | .both => "both"
  | .either => "either"
/-- the kind due to its parts; its own (true: truth) -/
def Bw.arg : Bw → Bool
  | .least => false
  | .most => false
  | .atmost => false
  | .both => true
  | .either => true
def Bw.own : Bw → Bool
  | .least => false
  | .most => false
  | .atmost => true
  | .both => true
  | .either => true
inductive Pg where
  | inp (k : Nat)
  | num (c : Int)
  | tr (b : Bool)
  | plus (c : Int) (a : Pg)
  | bin (w : Bw) (a b : Pg)
  | neg (a : Pg)
  | ite (p a b : Pg)
def trS : Bool → Str
  | true => "yes"
  | false => "no"
def kS : Bool → Str
  | true => "truth"
  | false => "num"
def word : Pg → Str
  | .inp _ => "in"
  | .num _ => "num"
  | .tr b => trS b
  | .plus _ _ => "plus"
  | .bin w _ _ => w.str
  | .neg _ => "not"
  | .ite _ _ _ => "if"
def enc : Pg → PyData
  | .inp k => .tuple [.str "in", .int k]
  | .num c => .tuple [.str "num", .int c]
  | .tr b => .tuple [.str (trS b)]
  | .plus c a => .tuple [.str "plus", .int c, enc a]
  | .bin w a b => .tuple [.str w.str, enc a, enc b]
  | .neg a => .tuple [.str "not", enc a]
  | .ite p a b => .tuple [.str "if", enc p, enc a, enc b]
theorem flat_enc : ∀ p : Pg, flat (enc p) = true
  | .inp _ => rfl
  | .num _ => rfl
  | .tr _ => rfl
  | .plus c a => by simp [enc, flat, flat.flats, flat_enc a]
  | .bin w a b => by simp [enc, flat, flat.flats, flat_enc a, flat_enc b]
  | .neg a => by simp [enc, flat, flat.flats, flat_enc a]
  | .ite p a b => by simp [enc, flat, flat.flats, flat_enc a, flat_enc b, flat_enc p]
/-- its kind by itself -/
def own (ks : List Bool) : Pg → Bool
  | .inp k => ks.getD k false
  | .num _ => false
  | .tr _ => true
  | .plus _ _ => false
  | .bin w _ _ => w.own
  | .neg _ => true
  | .ite _ a _ => own ks a
/-- it is let by -/
def Wk (ks : List Bool) : Pg → Prop
  | .inp k => k < ks.length
  | .num _ => True
  | .tr _ => True
  | .plus _ a => Wk ks a ∧ own ks a = false
  | .bin w a b => Wk ks a ∧ Wk ks b ∧ own ks a = w.arg ∧ own ks b = w.arg
  | .neg a => Wk ks a ∧ own ks a = true
  | .ite p a b => Wk ks p ∧ Wk ks a ∧ Wk ks b ∧ own ks p = true ∧ own ks b = own ks a
def parts : Pg → List Pg
  | .inp _ => []
  | .num _ => []
  | .tr _ => []
  | .plus _ a => [a]
  | .bin _ a b => [a, b]
  | .neg a => [a]
  | .ite p a b => [p, a, b]
def psz : Pg → Nat
  | .inp _ => 1
  | .num _ => 1
  | .tr _ => 1
  | .plus _ a => psz a + 1
  | .bin _ a b => psz a + psz b + 1
  | .neg a => psz a + 1
  | .ite p a b => psz p + psz a + psz b + 1
def dep : Pg → Nat
  | .inp _ => 1
  | .num _ => 1
  | .tr _ => 1
  | .plus _ a => dep a + 1
  | .bin _ a b => max (dep a) (dep b) + 1
  | .neg a => dep a + 1
  | .ite p a b => max (dep p) (max (dep a) (dep b)) + 1
def kn : Pg → List Pg
  | .inp k => [.inp k]
  | .num c => [.num c]
  | .tr b => [.tr b]
  | .plus c a => .plus c a :: kn a
  | .bin w a b => .bin w a b :: (kn a ++ kn b)
  | .neg a => .neg a :: kn a
  | .ite p a b => .ite p a b :: (kn p ++ (kn a ++ kn b))
theorem kn_len : ∀ p : Pg, (kn p).length = psz p
  | .inp _ => rfl
  | .num _ => rfl
  | .tr _ => rfl
  | .plus c a => by simp [kn, psz, kn_len a]
  | .bin w a b => by simp [kn, psz, kn_len a, kn_len b]
  | .neg a => by simp [kn, psz, kn_len a]
  | .ite p a b => by simp [kn, psz, kn_len a, kn_len b, kn_len p]; omega
theorem psz_pos (p : Pg) : 1 ≤ psz p := by cases p <;> simp [psz]
theorem dep_pos (p : Pg) : 1 ≤ dep p := by cases p <;> simp [dep]
theorem dep_le : ∀ p : Pg, dep p ≤ psz p
  | .inp _ => Nat.le_refl _
  | .num _ => Nat.le_refl _
  | .tr _ => Nat.le_refl _
  | .plus c a => by have := dep_le a; simp only [dep, psz]; omega
  | .bin w a b => by have := dep_le a; have := dep_le b; simp only [dep, psz]; omega
  | .neg a => by have := dep_le a; simp only [dep, psz]; omega
  | .ite p a b => by have := dep_le a; have := dep_le b; have := dep_le p; simp only [dep, psz]; omega
theorem kn_eq (p : Pg) : kn p = p :: (parts p).flatMap kn := by cases p <;> simp [kn, parts]
theorem psz_eq (p : Pg) : psz p = 1 + ((parts p).map psz).sum := by cases p <;> simp [psz, parts] <;> omega
/-- the things behind its word, as they stand in the tuple -/
def front : Pg → List V
  | .inp k => [.str "in", .int k]
  | .num c => [.str "num", .int c]
  | .tr b => [.str (trS b)]
  | .plus c _ => [.str "plus", .int c]
  | .bin w _ _ => [.str w.str]
  | .neg _ => [.str "not"]
  | .ite _ _ _ => [.str "if"]
/-- the program p stands at v -/
def At (K : PySem.W.Frag) (H : Hp) (v : V) (p : Pg) : Prop := Dp K H v (enc p)
def Ats (K : PySem.W.Frag) (H : Hp) (vs : List V) (ps : List Pg) : Prop := DpAll K H vs (ps.map enc)
theorem At.fd {K : PySem.W.Frag} {H : Hp} {v : V} {p : Pg} (h : At K H v p) : Fd K H v (enc p) := ⟨flat_enc p, h⟩
theorem At.keep {K : PySem.W.Frag} {H H' : Hp} {v : V} {p : Pg} (h : At K H v p) (t : Tp K H H') : At K H' v p := dp_keep t _ _ (flat_enc p) h
theorem flats_encs : ∀ ps : List Pg, flat.flats (ps.map enc) = true
  | [] => rfl
  | p :: ps => by simp [flat.flats, flat_enc p, flats_encs ps]
theorem Ats.keep {K : PySem.W.Frag} {H H' : Hp} {vs : List V} {ps : List Pg} (h : Ats K H vs ps) (t : Tp K H H') : Ats K H' vs ps := dps_keep t _ _ (flats_encs ps) h
theorem Ats.nil {K : PySem.W.Frag} {H : Hp} : Ats K H [] [] := DpAll.nil
theorem Ats.cons {K : PySem.W.Frag} {H : Hp} {v : V} {vs : List V} {p : Pg} {ps : List Pg} (h : At K H v p) (t : Ats K H vs ps) : Ats K H (v :: vs) (p :: ps) := DpAll.cons h t
theorem Ats.app {K : PySem.W.Frag} {H : Hp} : ∀ {vs us : List V} {ps qs : List Pg}, Ats K H vs ps → Ats K H us qs → Ats K H (vs ++ us) (ps ++ qs)
  | [], _, [], _, _, b => b
  | v :: vs, _, p :: ps, _, a, b => by
    cases a with
    | cons h t => exact Ats.cons h (Ats.app (vs := vs) (ps := ps) t b)
  | [], _, p :: ps, _, a, _ => by cases a
  | v :: vs, _, [], _, a, _ => by cases a
theorem Ats.len {K : PySem.W.Frag} {H : Hp} : ∀ {vs : List V} {ps : List Pg}, Ats K H vs ps → vs.length = ps.length
  | [], [], _ => rfl
  | v :: vs, p :: ps, a => by
    cases a with
    | cons h t => rw [List.length_cons, List.length_cons, Ats.len (vs := vs) (ps := ps) t]
  | [], p :: ps, a => by cases a
  | v :: vs, [], a => by cases a
theorem Ats.get {K : PySem.W.Frag} {H : Hp} : ∀ {vs : List V} {ps : List Pg}, Ats K H vs ps → ∀ (j : Nat) (v : V), vs[j]? = some v → ∃ p, ps[j]? = some p ∧ At K H v p
  | [], [], _, j, v, h => by simp at h
  | u :: vs, p :: ps, a, 0, v, h => by
    cases a with
    | cons x t =>
      have e := Option.some.inj h
      subst e
      exact ⟨p, rfl, x⟩
  | u :: vs, p :: ps, a, j + 1, v, h => by
    cases a with
    | cons x t => exact Ats.get (vs := vs) (ps := ps) t j v h
  | [], p :: ps, a, _, _, _ => by cases a
  | v :: vs, [], a, _, _, _ => by cases a
/-- the tuple that it is -/
theorem At.open {K : PySem.W.Frag} {H : Hp} {v : V} {p : Pg} (h : At K H v p) : ∃ (a : Addr) (vs : List V), v = .ref a ∧ SqT K H a (front p ++ vs) ∧ Ats K H vs (parts p) := by
  cases p with
  | inp k =>
    cases h with
    | tup q r =>
      cases r with
      | cons r1 r =>
        cases r with
        | cons r2 r =>
          cases r
          cases r1
          cases r2
          exact ⟨_, [], rfl, q, .nil⟩
  | num c =>
    cases h with
    | tup q r =>
      cases r with
      | cons r1 r =>
        cases r with
        | cons r2 r =>
          cases r
          cases r1
          cases r2
          exact ⟨_, [], rfl, q, .nil⟩
  | tr b =>
    cases h with
    | tup q r =>
      cases r with
      | cons r1 r =>
        cases r
        cases r1
        exact ⟨_, [], rfl, q, .nil⟩
  | plus c a =>
    cases h with
    | tup q r =>
      cases r with
      | cons r1 r =>
        cases r with
        | cons r2 r =>
          cases r1
          cases r2
          exact ⟨_, _, rfl, q, r⟩
  | bin w a b =>
    cases h with
    | tup q r =>
      cases r with
      | cons r1 r =>
        cases r1
        exact ⟨_, _, rfl, q, r⟩
  | neg a =>
    cases h with
    | tup q r =>
      cases r with
      | cons r1 r =>
        cases r1
        exact ⟨_, _, rfl, q, r⟩
  | ite p a b =>
    cases h with
    | tup q r =>
      cases r with
      | cons r1 r =>
        cases r1
        exact ⟨_, _, rfl, q, r⟩
theorem At.make {K : PySem.W.Frag} {H : Hp} {a : Addr} {vs : List V} {p : Pg} (h : SqT K H a (front p ++ vs)) (b : Ats K H vs (parts p)) : At K H (.ref a) p := by
  cases p with
  | inp k => cases b; exact .tup h (.cons (.str _) (.cons (.int _) .nil))
  | num k => cases b; exact .tup h (.cons (.str _) (.cons (.int _) .nil))
  | tr k => cases b; exact .tup h (.cons (.str _) .nil)
  | plus c a => exact .tup h (.cons (.str _) (.cons (.int _) b))
  | bin w a c => exact .tup h (.cons (.str _) b)
  | neg a => exact .tup h (.cons (.str _) b)
  | ite p a c => exact .tup h (.cons (.str _) b)
theorem Ats.one {K : PySem.W.Frag} {H : Hp} {vs : List V} {p : Pg} (h : Ats K H vs [p]) : ∃ v, vs = [v] ∧ At K H v p := by
  cases h with
  | cons a r =>
    cases r
    exact ⟨_, rfl, a⟩
theorem Ats.two {K : PySem.W.Frag} {H : Hp} {vs : List V} {p q : Pg} (h : Ats K H vs [p, q]) : ∃ u v, vs = [u, v] ∧ At K H u p ∧ At K H v q := by
  cases h with
  | cons a r =>
    cases r with
    | cons b r =>
      cases r
      exact ⟨_, _, rfl, a, b⟩
theorem Ats.three {K : PySem.W.Frag} {H : Hp} {vs : List V} {p q r : Pg} (h : Ats K H vs [p, q, r]) : ∃ u v w, vs = [u, v, w] ∧ At K H u p ∧ At K H v q ∧ At K H w r := by
  cases h with
  | cons a t =>
    cases t with
    | cons b t =>
      cases t with
      | cons c t =>
        cases t
        exact ⟨_, _, _, rfl, a, b, c⟩
/-! ### sums of sizes -/
theorem kn_le : ∀ (p q : Pg), q ∈ kn p → psz q ≤ psz p
  | .inp _, q, h => by simp [kn] at h; rw [h]; exact Nat.le_refl _
  | .num _, q, h => by simp [kn] at h; rw [h]; exact Nat.le_refl _
  | .tr _, q, h => by simp [kn] at h; rw [h]; exact Nat.le_refl _
  | .plus c a, q, h => by
    simp only [kn, List.mem_cons] at h
    rcases h with h | h
    · rw [h]; exact Nat.le_refl _
    · have := kn_le a q h; simp only [psz]; omega
  | .bin w a b, q, h => by
    simp only [kn, List.mem_cons, List.mem_append] at h
    rcases h with h | h | h
    · rw [h]; exact Nat.le_refl _
    · have := kn_le a q h; simp only [psz]; omega
    · have := kn_le b q h; simp only [psz]; omega
  | .neg a, q, h => by
    simp only [kn, List.mem_cons] at h
    rcases h with h | h
    · rw [h]; exact Nat.le_refl _
    · have := kn_le a q h; simp only [psz]; omega
  | .ite p a b, q, h => by
    simp only [kn, List.mem_cons, List.mem_append] at h
    rcases h with h | h | h | h
    · rw [h]; exact Nat.le_refl _
    · have := kn_le p q h; simp only [psz]; omega
    · have := kn_le a q h; simp only [psz]; omega
    · have := kn_le b q h; simp only [psz]; omega
theorem kn_wk (ks : List Bool) : ∀ (p q : Pg), Wk ks p → q ∈ kn p → Wk ks q
  | .inp _, q, w, h => by simp [kn] at h; rw [h]; exact w
  | .num _, q, w, h => by simp [kn] at h; rw [h]; exact w
  | .tr _, q, w, h => by simp [kn] at h; rw [h]; exact w
  | .plus c a, q, w, h => by
    simp only [kn, List.mem_cons] at h
    rcases h with h | h
    · rw [h]; exact w
    · exact kn_wk ks a q w.1 h
  | .bin _ a b, q, w, h => by
    simp only [kn, List.mem_cons, List.mem_append] at h
    rcases h with h | h | h
    · rw [h]; exact w
    · exact kn_wk ks a q w.1 h
    · exact kn_wk ks b q w.2.1 h
  | .neg a, q, w, h => by
    simp only [kn, List.mem_cons] at h
    rcases h with h | h
    · rw [h]; exact w
    · exact kn_wk ks a q w.1 h
  | .ite p a b, q, w, h => by
    simp only [kn, List.mem_cons, List.mem_append] at h
    rcases h with h | h | h | h
    · rw [h]; exact w
    · exact kn_wk ks p q w.1 h
    · exact kn_wk ks a q w.2.1 h
    · exact kn_wk ks b q w.2.2.1 h
end Lm

set_option Elab.async false
set_option linter.all false
set_option maxRecDepth 100000
set_option maxHeartbeats 2000000
namespace Lm
open PySem PySem.Spec PyProof.Rows L2 LmR
section
variable {P : Program} {w : World} {K : PySem.W.Frag} {mg : Str → Option Value} {base : Heap}
/-- the flow was drawn from, what else stands at ws may have changed, things were made -/
structure Gr (ws : List Addr) (f : Addr) (H H' : Hp) : Prop where
  ex : Ex (f :: ws) H H'
  fl : Flow H' f
theorem Dr.gr {f : Addr} {H H' : Hp} {ws : List Addr} (d : Dr f H H') : Gr ws f H H' := ⟨d.ex.mono fun b hb => by rw [List.mem_singleton.mp hb]; exact List.mem_cons_self, d.fl⟩
theorem Gr.trans {ws : List Addr} {f : Addr} {H H1 H2 : Hp} (a : Gr ws f H H1) (b : Gr ws f H1 H2) : Gr ws f H H2 := ⟨a.ex.trans b.ex, b.fl⟩
theorem Gr.mono {ws us : List Addr} {f : Addr} {H H' : Hp} (a : Gr ws f H H') (h : ∀ b ∈ ws, b ∈ us) : Gr us f H H' := ⟨a.ex.mono fun b hb => by
  rcases List.mem_cons.mp hb with z | z
  · rw [z]; exact List.mem_cons_self
  · exact List.mem_cons_of_mem _ (h b z), a.fl⟩
theorem Gr.new {ws : List Addr} {f : Addr} {H : Hp} {p : Addr} {o : HO} (fl : Flow H f) (h : H p = none) : Gr ws f H (upd H p o) := by
  refine ⟨Ex.new h, ?_⟩
  obtain ⟨a, b, c, e, r⟩ := fl
  exact ⟨a, b, c, by rw [upd_ne (ne_of_none e h)]; exact e, r⟩
theorem Gr.tp {f : Addr} {H H' : Hp} (a : Gr [] f H H') (h : Flow H f) : Tp K H H' := by
  obtain ⟨xs, e⟩ := h.lst
  refine a.ex.tp fun b hb ys q => ?_
  rw [List.mem_singleton.mp hb] at q
  rcases q with q | ⟨o, q⟩
  · rw [e] at q; cases q
  · rw [e] at q; cases q
def kVs (ks : List Bool) : List V := ks.map fun b => V.str (kS b)
def wKV (ka : Addr) (c i n : Int) : List (Key × V) := [(Sum.inr "kinds", .ref ka), (Sum.inr "cmp", .int c), (Sum.inr "if", .int i), (Sum.inr "any", .int n)]
def Wld (H : Hp) (wd ka : Addr) : Prop := ∃ c i n : Int, H wd = some (.dK (wKV ka c i n))
theorem wv_kinds (ka : Addr) (c i n : Int) : valV (wKV ka c i n) (Sum.inr "kinds") = some (.ref ka) := rfl
theorem wv_cmp (ka : Addr) (c i n : Int) : valV (wKV ka c i n) (Sum.inr "cmp") = some (.int c) := rfl
theorem wv_if (ka : Addr) (c i n : Int) : valV (wKV ka c i n) (Sum.inr "if") = some (.int i) := rfl
theorem wv_any (ka : Addr) (c i n : Int) : valV (wKV ka c i n) (Sum.inr "any") = some (.int n) := rfl
theorem wp_cmp (ka : Addr) (c i n z : Int) : putK (wKV ka c i n) (Sum.inr "cmp") (.int z) = wKV ka z i n := rfl
theorem wp_if (ka : Addr) (c i n z : Int) : putK (wKV ka c i n) (Sum.inr "if") (.int z) = wKV ka c z n := rfl
theorem wp_any (ka : Addr) (c i n z : Int) : putK (wKV ka c i n) (Sum.inr "any") (.int z) = wKV ka c i z := rfl
/-- a dict with the kinds -/
def Kin (H : Hp) (wd ka : Addr) : Prop := ∃ kvs, H wd = some (.dK kvs) ∧ valV kvs (Sum.inr "kinds") = some (.ref ka)
theorem Wld.kin {H : Hp} {wd ka : Addr} (h : Wld H wd ka) : Kin H wd ka := by
  obtain ⟨c, i, n, e⟩ := h
  exact ⟨_, e, rfl⟩
/-- its numbers are from -1000 to 1000 -/
def Nb : Pg → Prop
  | .inp _ => True
  | .num c => -1000 ≤ c ∧ c ≤ 1000
  | .tr _ => True
  | .plus c a => (-1000 ≤ c ∧ c ≤ 1000) ∧ Nb a
  | .bin _ a b => Nb a ∧ Nb b
  | .neg a => Nb a
  | .ite p a b => Nb p ∧ Nb a ∧ Nb b
def Wn (ks : List Bool) (p : Pg) : Prop := Wk ks p ∧ Nb p
abbrev s_l_numeral : Stmt := topS 51
theorem sc_l_numeral : FnScope ["_law_flow_here"] ["_law_flow_here"] (defScope s_l_numeral) := ⟨rfl, rfl, rfl, by decide +kernel, rfl, by decide +kernel, by decide +kernel⟩
def spNumeral : Sp := fun vs H Q _ => ∃ f : Addr, vs = [.ref f] ∧ Flow H f ∧ ∀ (i : Int) (H' : Hp), -1000 ≤ i → i ≤ 1000 → Gr [] f H H' → Q (.int i) H'
theorem ok_l_numeral (C_l_draw : Cal P w K mg base 1 "_law_draw" ["_law_flow_here", "_law_many"] (spDraw)) (D : DefAt K mg "_law_numeral" s_l_numeral ["_law_flow_here"]) : Cal P w K mg base 2 "_law_numeral" ["_law_flow_here"] (spNumeral) := by
  refine cal_of D sc_l_numeral (fun vs H Q E h => ?_) (fun f cdv A outer s H vs Q E hr h => ?_)
  · obtain ⟨a, rfl, _⟩ := h
    rfl
  obtain ⟨a, rfl, fl, q⟩ := h
  have hr' : Room 1 _ := hr
  refine ⟨_, (pss_one (ps_ret (pe_ix ix_list (pe_lst (pa_cons (pe_cal C_l_draw hr' (by rfl) (pa_cons (pv 0) (pa_cons pe_int pa_nil))) (pa_cons (pe_op op_sub pe_int (pe_cal C_l_draw hr' (by rfl) (pa_cons (pv 0) (pa_cons pe_int pa_nil)))) (pa_cons (pe_op op_sub (pe_cal C_l_draw hr' (by rfl) (pa_cons (pv 0) (pa_cons pe_int pa_nil))) pe_int) pa_nil)))) (pe_cal C_l_draw hr' (by rfl) (pa_cons (pv 0) (pa_cons pe_int pa_nil))) (fun _ _ => rfl)))), ?_⟩
  refine ⟨_, rfl, a, 4, rfl, fl, by decide, by decide, fun d1 H1 x1 y1 r1 => ?_⟩
  refine ⟨_, rfl, a, 4, rfl, r1.fl, by decide, by decide, fun d2 H2 x2 y2 r2 => ⟨_, _, rfl, rfl, ?_⟩⟩
  refine ⟨_, rfl, a, 2001, rfl, r2.fl, by decide, by decide, fun d3 H3 x3 y3 r3 => ⟨_, _, rfl, rfl, ?_⟩⟩
  refine ⟨(by show 3 ≤ sizeLine; decide), fun p hp => ?_⟩
  have g3 : Gr [] a H (upd H3 p (.lst [.int d1, .int (0 - d2), .int (d3 - 1000)])) := (((r1.trans r2).trans r3).gr).trans (Gr.new r3.fl hp)
  refine ⟨_, rfl, a, 3, rfl, g3.fl, by decide, by decide, fun d4 H4 x4 y4 r4 => ?_⟩
  have npa : p ≠ a := fun z => by
    obtain ⟨xs, e⟩ := r3.fl.lst
    rw [z, e] at hp
    cases hp
  have e4 : H4 p = some (.lst [.int d1, .int (0 - d2), .int (d3 - 1000)]) := by
    rw [r4.off p npa]
    exact upd_same
  have g4 := g3.trans r4.gr
  rcases (show d4 = 0 ∨ d4 = 1 ∨ d4 = 2 by omega) with z | z | z
  · subst z
    exact ⟨p, _, 0, .int d1, rfl, rfl, SqL.of e4, rfl, q _ _ (by omega) (by omega) g4⟩
  · subst z
    exact ⟨p, _, 1, .int (0 - d2), rfl, rfl, SqL.of e4, rfl, q _ _ (by omega) (by omega) g4⟩
  · subst z
    exact ⟨p, _, 2, .int (d3 - 1000), rfl, rfl, SqL.of e4, rfl, q _ _ (by omega) (by omega) g4⟩
/-! ### the world: the kinds of the inputs and what may still be used -/
abbrev s_l_leaf : Stmt := topS 52
theorem sc_l_leaf : FnScope ["_law_flow_here", "_law_world", "_law_kind", "_law_some", "_law_number", "_law_form", "_law_k"] ["_law_flow_here", "_law_world", "_law_kind"] (defScope s_l_leaf) := ⟨rfl, rfl, rfl, by decide +kernel, rfl, by decide +kernel, by decide +kernel⟩
def spLeaf (K : PySem.W.Frag) : Sp := fun vs H Q _ => ∃ (f wd ka : Addr) (ks : List Bool) (k : Bool), vs = [.ref f, .ref wd, .str (kS k)] ∧ Flow H f ∧ Kin H wd ka ∧ SqT K H ka (kVs ks) ∧ ks.length ≤ 3 ∧
  ∀ (v : V) (p : Pg) (H' : Hp), Gr [] f H H' → At K H' v p → Wn ks p → own ks p = k → psz p = 1 → Q v H'
theorem ok_l_leaf (B : Bt mg) (C_l_draw : Cal P w K mg base 1 "_law_draw" ["_law_flow_here", "_law_many"] (spDraw)) (C_l_numeral : Cal P w K mg base 2 "_law_numeral" ["_law_flow_here"] (spNumeral)) (D : DefAt K mg "_law_leaf" s_l_leaf ["_law_flow_here", "_law_world", "_law_kind"]) : Cal P w K mg base 3 "_law_leaf" ["_law_flow_here", "_law_world", "_law_kind"] (spLeaf K) := by
  refine cal_of D sc_l_leaf (fun vs H Q E h => ?_) (fun f cdv A outer s H vs Q E hr h => ?_)
  · obtain ⟨f, wd, ka, ks, k, rfl, _⟩ := h
    rfl
  obtain ⟨f, wd, ka, ks, k, rfl, fl, ⟨kvs, hw, ekv⟩, hk, hk3, q⟩ := h
  have C_l_draw := C_l_draw.mono (k := 2) (by decide)
  have hr' : Room 2 _ := hr
  refine ⟨_, (pss_cons (ps_setLc (i := 3) (own := [("_law_k", 6)]) (g := gName 6) rfl sc_l_leaf.nd rfl rfl (sw_true rfl rfl rfl (by decide +kernel)) (pi_range1 (by rfl) B.range (pa_cons (pe_callB call_len_seq (by rfl) B.len PySem.boot_len (pa_cons (pe_dget (hu_of hr) (pv 1) pe_str (fun _ _ => rfl)) pa_nil)) pa_nil)) (blkOk_by (own := [("_law_k", 6)]) (N := ["_law_flow_here", "_law_world", "_law_kind", "_law_some", "_law_number", "_law_form", "_law_k"]) (sc := defScope s_l_leaf) (by decide +kernel)) (fun _ _ _ _ _ => (pg_name (i := 6) sc_l_leaf.nd rfl (.inl rfl))) (fun _ _ _ _ _ => (pts_one (pt_cmpR op_eq (pe_ix (ix_tupK (K := K) rfl) (pe_dget (hu_of hr) (pv 1) pe_str (fun _ _ => rfl)) (pv 6) (fun _ _ => rfl)) (pv 2) (nomark _)))) (fun _ _ _ _ _ => (pe_tup (pa_cons pe_str (pa_cons (pv 6) pa_nil)))))
      (pss_cons (ps_par (i := 4) (j := 5) rfl sc_l_leaf.nd rfl rfl (by decide) rfl rfl (pa_cons (pe_cal C_l_numeral hr' (by rfl) (pa_cons (pv 0) pa_nil)) (pa_cons (pe_cal C_l_draw hr' (by rfl) (pa_cons (pv 0) (pa_cons pe_int pa_nil))) pa_nil)) rfl)
      (pss_cons (ps_if (PW.pt (pw_and (pt_cmpR op_gt (pe_callB call_len_seq (by rfl) B.len PySem.boot_len (pa_cons (pv 3) pa_nil)) pe_int (nomark _)) (pw_and1 (pt_cmpR op_gt (pv 5) pe_int (nomark _)))))
        (pss_one (ps_ret (pe_ix ix_list (pv 3) (pe_cal C_l_draw hr' (by rfl) (pa_cons (pv 0) (pa_cons (pe_callB call_len_seq (by rfl) B.len PySem.boot_len (pa_cons (pv 3) pa_nil)) pa_nil))) (fun _ _ => rfl))))
        pss_nil)
      (pss_cons (ps_if (pt_cmpR op_eq (pv 2) pe_str (nomark _))
        (pss_one (ps_ret (pe_tup (pa_cons pe_str (pa_cons (pv 4) pa_nil)))))
        pss_nil)
      (pss_one (ps_ret (pe_ix ix_list (pe_lst (pa_cons (pe_tup (pa_cons pe_str pa_nil)) (pa_cons (pe_tup (pa_cons pe_str pa_nil)) pa_nil))) (pe_cal C_l_draw hr' (by rfl) (pa_cons (pv 0) (pa_cons pe_int pa_nil))) (fun _ _ => rfl)))))))), ?_⟩
  have dg : ∀ {H' : Hp}, H' wd = some (.dK kvs) → DGet H' wd (kV (Sum.inr "kinds")) (some (.ref ka)) := fun h => ekv ▸ DGet.k h
  have nwf : wd ≠ f := fun z => by
    obtain ⟨xs, e⟩ := fl.lst
    rw [z, e] at hw
    cases hw
  refine ⟨_, rfl, wd, .ref ka, rfl, dg hw, ka, _, rfl, .inr hk, (((kVs ks).length : Nat) : Int), rfl, by have := hk3; unfold kVs; rw [List.length_map]; omega, by unfold kVs; rw [List.length_map]; omega, fun D hD => lc_range (lo := 0) (n := (((kVs ks).length : Nat) : Int).toNat) (fun i H' => Same H H' ∧ ∃ acc, H' D = some (.lst acc) ∧ acc.length ≤ i ∧ ∀ v ∈ acc, ∃ j, ks[j]? = some k ∧ At K H' v (.inp j)) ?_ ?_ ?_⟩
  · exact ⟨same_new hD, [], upd_same, Nat.le_refl _, fun v hv => nomatch hv⟩
  · rintro i H' hi ⟨sm, acc, hA, hl, hP⟩
    have hi' : i < ks.length := by
      unfold kVs at hi
      rw [List.length_map] at hi
      omega
    have ek : (kVs ks)[i]? = some (.str (kS ks[i])) := by
      unfold kVs
      rw [List.getElem?_map, List.getElem?_eq_getElem hi']
      rfl
    refine ⟨rfl, _, rfl, wd, .ref ka, rfl, dg (sm _ _ hw), _, rfl, ka, _, _, _, rfl, rfl, Tp.same sm _ _ hk, at_of (j := i) (by omega) ek, _, rfl, rfl, _, rfl, ite2 (fun c => ?_) (fun c => ?_)⟩
    · have c' : V.str (kS ks[i]) = V.str (kS k) := of_decide_eq_true c
      have c2 : ks[i] = k := by
        generalize ks[i] = b at c'
        cases b <;> cases k <;> first | rfl | (exact absurd c' (by decide +kernel))
      refine ⟨_, rfl, (by show 2 ≤ sizeLine; decide), fun p hp => ⟨acc, ?_, smallL (by omega), ?_⟩⟩
      · rw [upd_ne (ne_of_none hA hp)]
        exact hA
      · have sp : Same H' (upd H' p (.tup [.str "in", .int (0 + (i : Int))])) := same_new hp
        have hD' : (upd H' p (.tup [.str "in", .int (0 + (i : Int))])) D = some (.lst acc) := sp _ _ hA
        have tp : Tp K H' (upd (upd H' p (.tup [.str "in", .int (0 + (i : Int))])) D (.lst (acc ++ [.ref p]))) := (Tp.same sp).trans (Tp.lst hD')
        refine ⟨fun b o z => ?_, acc ++ [.ref p], upd_same, by rw [List.length_append, List.length_singleton]; omega, fun v hv => ?_⟩
        · rw [upd_ne (ne_of_none z hD)]
          exact sp _ _ (sm _ _ z)
        · rcases List.mem_append.mp hv with z | z
          · obtain ⟨j, e1, e2⟩ := hP v z
            exact ⟨j, e1, e2.keep tp⟩
          · rw [List.mem_singleton.mp z]
            refine ⟨i, by rw [List.getElem?_eq_getElem hi', c2], ?_⟩
            have npD : p ≠ D := fun z => by
              rw [z, hA] at hp
              cases hp
            have ep : (upd (upd H' p (.tup [.str "in", .int (0 + (i : Int))])) D (.lst (acc ++ [.ref p]))) p = some (.tup [.str "in", .int (i : Int)]) := by
              rw [upd_ne npD, upd_same, Int.zero_add]
            exact .tup (.inl (.inl ep)) (.cons (.str _) (.cons (.int _) .nil))
    · exact ⟨sm, acc, hA, by omega, hP⟩
  · rintro H1 ⟨sm, acc, hA, hl, hP⟩
    have fl1 : Flow H1 f := by
      obtain ⟨x, y, z, e, r⟩ := fl
      exact ⟨x, y, z, sm _ _ e, r⟩
    have g1 : Gr [] f H H1 := ⟨Ex.of_same sm, fl1⟩
    have nDf : D ≠ f := fun z => by
      obtain ⟨xs, e⟩ := fl.lst
      rw [z, e] at hD
      cases hD
    refine ⟨_, rfl, f, rfl, fl1, fun num H2 n0 n1 g2 => ?_⟩
    refine ⟨_, rfl, f, 3, rfl, g2.fl, by decide, by decide, fun d H3 d0 d1 r3 => ⟨_, _, rfl, ?_⟩⟩
    have g3 : Gr [] f H1 H3 := g2.trans r3.gr
    have gH3 := g1.trans g3
    have hA3 : H3 D = some (.lst acc) := g3.ex D _ hA (by simp [nDf])
    have tp3 : Tp K H1 H3 := g3.tp fl1
    refine ⟨_, rfl, D, acc, rfl, .inl (SqL.of hA3), _, _, rfl, rfl, _, rfl, ?_⟩
    have last : (tSeq (tIfS (tTest (tOp rEq (tVar 2) (tC (V.str (Str.ofString "num"))))) (tRet (tTup (tCons (tC (V.str (Str.ofString "num"))) (tCons (tVar 4) tNil)))) tNext)
          (tRet (tOp (rIxL K) (tLst (tCons (tTup (tCons (tC (V.str (Str.ofString "yes"))) tNil)) (tCons (tTup (tCons (tC (V.str (Str.ofString "no"))) tNil)) tNil))) (tCall spDraw [] (fun x x_1 x_2 => False) (tCons (tVar 0) (tCons (tC (V.int 2)) tNil))))))
        { nx := fun x H' => Q V.non H', rt := Q } [some (.ref f), some (.ref wd), some (.str (kS k)), some (.ref D), some (.int num), some (.int d), none] H3 := by
      refine ⟨_, rfl, rfl, _, rfl, ite2 (fun c => ?_) (fun c => ?_)⟩
      · have c' : V.str (kS k) = V.str "num" := of_decide_eq_true c
        have ek : k = false := by
          cases k
          · rfl
          · exact absurd c' (by decide +kernel)
        subst ek
        refine ⟨_, rfl, (by show 2 ≤ sizeLine; decide), fun p hp => ?_⟩
        exact q _ (.num num) _ (gH3.trans (Gr.new gH3.fl hp)) (.tup (.inl (.inl upd_same)) (.cons (.str _) (.cons (.int _) .nil))) ⟨True.intro, n0, n1⟩ rfl rfl
      · have ek : k = true := by
          cases k
          · exact absurd (decide_eq_true rfl) c
          · rfl
        subst ek
        refine ⟨(by show 1 ≤ sizeLine; decide), fun p hp => ⟨(by show 1 ≤ sizeLine; decide), fun p2 hp2 => ⟨(by show 2 ≤ sizeLine; decide), fun l hl => ?_⟩⟩⟩
        have e1 : Gr [] f H (upd H3 p (.tup [.str "yes"])) := gH3.trans (Gr.new gH3.fl hp)
        have e2 := e1.trans (Gr.new (o := .tup [.str "no"]) e1.fl hp2)
        have e3 := e2.trans (Gr.new (o := .lst [.ref p, .ref p2]) e2.fl hl)
        have s2 : Same (upd H3 p (.tup [.str "yes"])) (upd (upd (upd H3 p (.tup [.str "yes"])) p2 (.tup [.str "no"])) l (.lst [.ref p, .ref p2])) := (same_new hp2).trans (same_new hl)
        have s3 : Same (upd (upd H3 p (.tup [.str "yes"])) p2 (.tup [.str "no"])) (upd (upd (upd H3 p (.tup [.str "yes"])) p2 (.tup [.str "no"])) l (.lst [.ref p, .ref p2])) := same_new hl
        refine ⟨_, rfl, f, 2, rfl, e3.fl, by decide, by decide, fun b H4 b0 b1 r4 => ?_⟩
        have e4 := e3.trans r4.gr
        have nlf : l ≠ f := fun z => by
          obtain ⟨xs, e⟩ := e2.fl.lst
          rw [z, e] at hl
          cases hl
        have hl4 : H4 l = some (.lst [.ref p, .ref p2]) := by
          rw [r4.off l nlf]
          exact upd_same
        have tp4 : Tp K _ H4 := r4.tp e3.fl
        rcases (show b = 0 ∨ b = 1 by omega) with z | z
        · subst z
          refine ⟨l, _, 0, .ref p, rfl, rfl, SqL.of hl4, rfl, q _ (.tr true) _ e4 ?_ ⟨True.intro, True.intro⟩ rfl rfl⟩
          exact .tup (tp4 _ _ (.inl (.inl (s2 _ _ upd_same)))) (.cons (.str _) .nil)
        · subst z
          refine ⟨l, _, 1, .ref p2, rfl, rfl, SqL.of hl4, rfl, q _ (.tr false) _ e4 ?_ ⟨True.intro, True.intro⟩ rfl rfl⟩
          exact .tup (tp4 _ _ (.inl (.inl (s3 _ _ upd_same)))) (.cons (.str _) .nil)
    refine ite2 (fun c => ?_) (fun c => ?_)
    · have c' : ((acc.length : Nat) : Int) > 0 := of_decide_eq_true c
      refine ⟨_, rfl, _, _, rfl, rfl, _, rfl, ite2 (fun c2 => ?_) (fun c2 => last)⟩
      refine ⟨_, rfl, _, rfl, _, rfl, D, acc, rfl, .inl (SqL.of hA3), f, _, rfl, g3.fl, c', ?_, fun j H4 j0 j1 r4 => ?_⟩
      · have : acc.length ≤ 3 := by
          unfold kVs at hl
          rw [List.length_map] at hl
          omega
        omega
      · have hA4 : H4 D = some (.lst acc) := by
          rw [r4.off D nDf]
          exact hA3
        have hj : j.toNat < acc.length := by omega
        obtain ⟨i, e1, e2⟩ := hP acc[j.toNat] (List.getElem_mem hj)
        refine ⟨D, acc, j, acc[j.toNat], rfl, rfl, SqL.of hA4, at_of (j := j.toNat) (by omega) (List.getElem?_eq_getElem hj), q _ (.inp i) _ (gH3.trans r4.gr) ((e2.keep tp3).keep (r4.tp g3.fl)) ?_ ?_ rfl⟩
        · exact ⟨(List.getElem?_eq_some_iff.mp e1).1, True.intro⟩
        · show ks.getD i false = k
          rw [List.getD_eq_getElem?_getD, e1]
          rfl
    · exact last
end
end Lm

set_option Elab.async false
set_option linter.all false
set_option maxRecDepth 100000
set_option maxHeartbeats 2000000
namespace Lm
open PySem PySem.Spec PyProof.Rows L2 LmR
/-- a loop over enumerate(list) -/
theorem for_enum {K : PySem.W.Frag} {a : Addr} {xs : List V} {g : TG} {tb : TS} {D : Ends} {σ : L2.St} {H : Hp} (Pv : Nat → L2.St → Hp → Prop) (h0 : Pv 0 σ H) (hq : ∀ i σ H, Pv i σ H → SqL K H a xs)
    (hs : ∀ (i : Nat) (x : V) (T : Addr) (σ : L2.St) (H : Hp), xs[i]? = some x → Pv i σ H → H T = none → g (.ref T) σ (upd H T (.tup [.int (i : Nat), x])) fun σ2 H2 => tb { D with nx := Pv (i + 1), ct := Pv (i + 1), bk := D.nx } σ2 H2) (hd : ∀ σ H, Pv xs.length σ H → D.nx σ H) :
    ∃ W : Nat → Nat → L2.St → Hp → Prop, (∃ m, W 0 m σ H) ∧ ∀ i m σ H, W i m σ H →
      ((Ite K a).stop i H ∧ D.nx σ H) ∨ ((Ite K a).go i H ∧ ∃ N : L2.St → Hp → Prop, (∀ σ' H', N σ' H' → ∃ m', m' < m ∧ W (i + 1) m' σ' H') ∧ ∀ v H', (Ite K a).yld i H v H' → g v σ H' fun σ2 H2 => tb { D with nx := N, ct := N, bk := D.nx } σ2 H2) := by
  refine ⟨fun i m σ H => m = xs.length - i ∧ i ≤ xs.length ∧ Pv i σ H, ⟨xs.length, rfl, Nat.zero_le _, h0⟩, ?_⟩
  rintro i m σ H ⟨rfl, hi, p⟩
  have qx := hq i σ H p
  by_cases hlt : i < xs.length
  · have hx : xs[i]? = some xs[i] := List.getElem?_eq_getElem hlt
    refine .inr ⟨⟨xs, _, qx, hx⟩, Pv (i + 1), fun σ' H' p' => ⟨xs.length - (i + 1), by omega, rfl, hlt, p'⟩, fun v H' y => ?_⟩
    obtain ⟨T, x', rfl, hT, rfl, f1⟩ := y
    exact hs i x' T σ H (f1 xs qx) p hT
  · have e : i = xs.length := by omega
    subst e
    exact .inl ⟨⟨xs, qx, Nat.le_refl _⟩, hd σ H p⟩
/-! ### the words that a program may be made with -/
inductive Ch where
  | plus
  | bin (w : Bw)
  | neg
  | ite
def Ch.str : Ch → Str
  | .plus => "plus"
  | .bin w => w.str
  | .neg => "not"
  | .ite => "if"
def Ch.fits (k : Bool) : Ch → Prop
  | .plus => k = false
  | .bin w => w.own = k
  | .neg => k = true
  | .ite => True
def Ch.ps (k : Bool) : Ch → List Bool
  | .plus => [false]
  | .bin w => [w.arg, w.arg]
  | .neg => [true]
  | .ite => [true, k, k]
def Ch.front (num : Int) : Ch → List V
  | .plus => [.str "plus", .int num]
  | .bin w => [.str w.str]
  | .neg => [.str "not"]
  | .ite => [.str "if"]
def Ch.sort : Ch → Str
  | .bin .least => "cmp"
  | .bin .most => "cmp"
  | .bin .atmost => "cmp"
  | .ite => "if"
  | _ => "any"
theorem map1 {α β : Type} {f : α → β} {l : List α} {x : β} (h : l.map f = [x]) : ∃ a, l = [a] ∧ f a = x := by
  match l, h with
  | [a], h => exact ⟨a, rfl, by simpa using h⟩
  | [], h => simp at h
  | a :: b :: r, h => simp at h
theorem map2 {α β : Type} {f : α → β} {l : List α} {x y : β} (h : l.map f = [x, y]) : ∃ a b, l = [a, b] ∧ f a = x ∧ f b = y := by
  match l, h with
  | [a, b], h => exact ⟨a, b, rfl, by simpa using h⟩
  | [], h => simp at h
  | [a], h => simp at h
  | a :: b :: c :: r, h => simp at h
theorem map3 {α β : Type} {f : α → β} {l : List α} {x y z : β} (h : l.map f = [x, y, z]) : ∃ a b c, l = [a, b, c] ∧ f a = x ∧ f b = y ∧ f c = z := by
  match l, h with
  | [a, b, c], h => exact ⟨a, b, c, rfl, by simpa using h⟩
  | [], h => simp at h
  | [a], h => simp at h
  | [a, b], h => simp at h
  | a :: b :: c :: d :: r, h => simp at h
/-- what is made of parts of the kinds due -/
theorem Ch.make {K : PySem.W.Frag} {H : Hp} {ks : List Bool} {k : Bool} {num : Int} (c : Ch) (hf : c.fits k) {t : Addr} {vs : List V} {ps : List Pg} (ha : Ats K H vs ps) (hw : ∀ p ∈ ps, Wn ks p) (hn : -1000 ≤ num ∧ num ≤ 1000) (hk : ps.map (own ks) = c.ps k)
    (ht : H t = some (.tup (c.front num ++ vs))) :
    ∃ p, At K H (.ref t) p ∧ Wn ks p ∧ own ks p = k ∧ psz p = 1 + (ps.map psz).sum := by
  cases c with
  | plus =>
    obtain ⟨a, rfl, e⟩ := map1 hk
    obtain ⟨v, rfl, h⟩ := ha.one
    exact ⟨.plus num a, .tup (.inl (.inl ht)) (.cons (.str _) (.cons (.int _) (.cons h .nil))), ⟨⟨(hw a (by simp)).1, e⟩, hn, (hw a (by simp)).2⟩, hf.symm, by simp [psz]; omega⟩
  | bin w =>
    obtain ⟨a, b, rfl, e1, e2⟩ := map2 hk
    obtain ⟨u, v, rfl, h1, h2⟩ := ha.two
    exact ⟨.bin w a b, .tup (.inl (.inl ht)) (.cons (.str _) (.cons h1 (.cons h2 .nil))), ⟨⟨(hw a (by simp)).1, (hw b (by simp)).1, e1, e2⟩, (hw a (by simp)).2, (hw b (by simp)).2⟩, hf, by simp [psz]; omega⟩
  | neg =>
    obtain ⟨a, rfl, e⟩ := map1 hk
    obtain ⟨v, rfl, h⟩ := ha.one
    exact ⟨.neg a, .tup (.inl (.inl ht)) (.cons (.str _) (.cons h .nil)), ⟨⟨(hw a (by simp)).1, e⟩, (hw a (by simp)).2⟩, hf.symm, by simp [psz]; omega⟩
  | ite =>
    obtain ⟨p, a, b, rfl, e1, e2, e3⟩ := map3 hk
    obtain ⟨u, v, z, rfl, h1, h2, h3⟩ := ha.three
    exact ⟨.ite p a b, .tup (.inl (.inl ht)) (.cons (.str _) (.cons h1 (.cons h2 (.cons h3 .nil)))), ⟨⟨(hw p (by simp)).1, (hw a (by simp)).1, (hw b (by simp)).1, e1, by rw [e2, e3]⟩, (hw p (by simp)).2, (hw a (by simp)).2, (hw b (by simp)).2⟩, e2, by simp [psz]; omega⟩
theorem Gr.put {ws : List Addr} {f : Addr} {H H' : Hp} {p : Addr} {o : HO} (g : Gr ws f H H') (h : H p = none) (n : p ≠ f) : Gr ws f H (upd H' p o) := by
  refine ⟨fun b u hb nb => ?_, ?_⟩
  · rw [upd_ne (ne_of_none hb h)]
    exact g.ex b u hb nb
  · obtain ⟨x, y, z, e, r⟩ := g.fl
    exact ⟨x, y, z, by rw [upd_ne n.symm]; exact e, r⟩
section
variable {P : Program} {w : World} {K : PySem.W.Frag} {mg : Str → Option Value} {base : Heap}
abbrev s_l_made : Stmt := topS 53
theorem sc_l_made : FnScope ["_law_flow_here", "_law_world", "_law_kind", "_law_room", "_law_down", "_law_words", "_law_word", "_law_parts_here", "_law_sort", "_law_left", "_law_found", "_law_k", "_law_one", "_law_share"] ["_law_flow_here", "_law_world", "_law_kind", "_law_room", "_law_down"] (defScope s_l_made) := ⟨rfl, rfl, rfl, by decide +kernel, rfl, by decide +kernel, by decide +kernel⟩
def spMade (K : PySem.W.Frag) (n : Nat) : Sp := fun vs H Q _ => ∃ (f wd ka : Addr) (ks : List Bool) (k : Bool) (room down : Int), vs = [.ref f, .ref wd, .str (kS k), .int room, .int down] ∧ Flow H f ∧ Wld H wd ka ∧ SqT K H ka (kVs ks) ∧ ks.length ≤ 3 ∧ 1 ≤ room ∧ room ≤ 24 ∧ 0 ≤ down ∧ down < n ∧
  ∀ (v : V) (p : Pg) (H' : Hp), Gr [wd] f H H' → Wld H' wd ka → At K H' v p → Wn ks p → own ks p = k → (psz p : Int) ≤ room → Q v H'
theorem ok_l_made1 {n : Nat} (B : Bt mg) (C_l_draw : Cal P w K mg base 1 "_law_draw" ["_law_flow_here", "_law_many"] (spDraw)) (C_l_numeral : Cal P w K mg base 2 "_law_numeral" ["_law_flow_here"] (spNumeral)) (C_l_leaf : Cal P w K mg base 3 "_law_leaf" ["_law_flow_here", "_law_world", "_law_kind"] (spLeaf K)) (C_l_made : Cal P w K mg base (n + 3) "_law_made" ["_law_flow_here", "_law_world", "_law_kind", "_law_room", "_law_down"] (spMade K n)) (D : DefAt K mg "_law_made" s_l_made ["_law_flow_here", "_law_world", "_law_kind", "_law_room", "_law_down"]) : Cal P w K mg base (n + 3 + 1) "_law_made" ["_law_flow_here", "_law_world", "_law_kind", "_law_room", "_law_down"] (spMade K (n + 1)) := by
  refine cal_of D sc_l_made (fun vs H Q E h => ?_) (fun f cdv A outer s H vs Q E hr h => ?_)
  · obtain ⟨f, wd, ka, ks, k, room, down, rfl, _⟩ := h
    rfl
  obtain ⟨f, wd, ka, ks, k, room, down, rfl, fl, wl, hk, hk3, r1, r2, d0, d1, q⟩ := h
  have C_l_draw := C_l_draw.mono (k := n + 3) (by omega)
  have C_l_numeral := C_l_numeral.mono (k := n + 3) (by omega)
  have C_l_leaf := C_l_leaf.mono (k := n + 3) (by omega)
  have hr' : Room (n + 3) _ := hr
  refine ⟨_, (pss_cons (ps_set (i := 5) sc_l_made.nd rfl (.inl rfl) (pe_lst (pa_cons pe_str (pa_cons pe_str (pa_cons pe_str (pa_cons pe_str (pa_cons pe_str pa_nil)))))))
      (C8.pss_cut (ps_if (pt_cmpR op_eq (pv 2) pe_str (nomark _))
        (pss_one (ps_set (i := 5) sc_l_made.nd rfl (.inl rfl) (pe_lst (pa_cons pe_str (pa_cons pe_str (pa_cons pe_str (pa_cons pe_str (pa_cons pe_str (pa_cons pe_str pa_nil)))))))))
        pss_nil)
      (pss_cons (ps_set (i := 6) sc_l_made.nd rfl (.inl rfl) (pe_ix ix_list (pv 5) (pe_cal C_l_draw hr' (by rfl) (pa_cons (pv 0) (pa_cons (pe_callB call_len_seq (by rfl) B.len PySem.boot_len (pa_cons (pv 5) pa_nil)) pa_nil))) (fun _ _ => rfl)))
      (pss_cons (ps_set (i := 7) sc_l_made.nd rfl (.inl rfl) (pe_dget1 (hu_of hr) (pe_disp (pps_cons pe_str (pe_lst (pa_cons pe_str pa_nil)) (pps_cons pe_str (pe_lst (pa_cons pe_str pa_nil)) (pps_cons pe_str (pe_lst (pa_cons pe_str (pa_cons pe_str pa_nil))) (pps_cons pe_str (pe_lst (pa_cons pe_str (pa_cons pe_str pa_nil))) pps_nil)))) (by rfl) (by rfl) (fun z => by cases z) (by decide)) (pv 6) (by constructor <;> rfl)))
      (C8.pss_cut (ps_if (pt_cmpR op_isN (pv 7) pe_non (nomark _))
        (pss_one (ps_set (i := 7) sc_l_made.nd rfl (.inl rfl) (pe_lst (pa_cons pe_str (pa_cons pe_str pa_nil)))))
        pss_nil)
      (C8.pss_cut (ps_if (pt_cmpR op_eq (pv 6) pe_str (nomark _))
        (pss_one (ps_set (i := 7) sc_l_made.nd rfl (.inl rfl) (pe_lst (pa_cons pe_str (pa_cons (pv 2) (pa_cons (pv 2) pa_nil))))))
        pss_nil)
      (pss_cons (ps_set (i := 8) sc_l_made.nd rfl (.inl rfl) (pe_dget2 (hu_of hr) (pe_disp (pps_cons pe_str pe_str (pps_cons pe_str pe_str (pps_cons pe_str pe_str (pps_cons pe_str pe_str pps_nil)))) (by rfl) (by rfl) (fun z => by cases z) (by decide)) (pv 6) pe_str (by constructor <;> rfl)))
      (pss_cons (ps_if (PW.pt (pw_or (pt_cmpR op_le (pv 3) (pe_callB call_len_seq (by rfl) B.len PySem.boot_len (pa_cons (pv 7) pa_nil)) (nomark _)) (pw_or (pt_cmpR op_eq (pv 4) pe_int (nomark _)) (pw_or (pt_cmpR op_eq (pe_dget (hu_of hr) (pv 1) (pv 8) (fun _ _ => rfl)) pe_int (nomark _)) (pw_or1 (pt_cmpR op_eq (pe_cal C_l_draw hr' (by rfl) (pa_cons (pv 0) (pa_cons (pe_op op_add pe_int (pv 3)) pa_nil))) pe_int (nomark _)))))))
        (pss_one (ps_ret (pe_cal C_l_leaf hr' (by rfl) (pa_cons (pv 0) (pa_cons (pv 1) (pa_cons (pv 2) pa_nil))))))
        pss_nil)
      (pss_cons (ps_dput (hu_of hr) (pv 1) (pv 8) (pe_op op_sub (pe_dget (hu_of hr) (pv 1) (pv 8) (fun _ _ => rfl)) pe_int) rfl)
      (pss_cons (ps_par (i := 9) (j := 10) rfl sc_l_made.nd rfl rfl (by decide) rfl rfl (pa_cons (pe_op op_sub (pv 3) pe_int) (pa_cons (pe_lst (pa_cons (pv 6) pa_nil)) pa_nil)) rfl)
      (C8.pss_cut (ps_if (pt_cmpR op_eq (pv 6) pe_str (nomark _))
        (pss_one (ps_expr (pe_bm PySem.F.plainAttrs_list PySem.F.slot_list_append PySem.F.type_list_append mt_append (pv 10) (pa_cons (pe_cal C_l_numeral hr' (by rfl) (pa_cons (pv 0) pa_nil)) pa_nil))))
        pss_nil)
      (pss_cons (ps_for PassesOwn.never rfl (pi_enum (by rfl) B.enumerate (pa_cons (pv 7) pa_nil)) (pg_tup rfl (pgs_cons (pg_name (i := 11) sc_l_made.nd rfl (.inl rfl)) (pgs_cons (pg_name (i := 12) sc_l_made.nd rfl (.inl rfl)) pgs_nil)))
        (pss_cons (ps_set (i := 13) sc_l_made.nd rfl (.inl rfl) (pe_op op_add pe_int (pe_cal C_l_draw hr' (by rfl) (pa_cons (pv 0) (pa_cons (pe_op op_sub (pv 9) (pe_op op_sub (pe_op op_sub (pe_callB call_len_seq (by rfl) B.len PySem.boot_len (pa_cons (pv 7) pa_nil)) (pv 11)) pe_int)) pa_nil)))))
      (pss_cons (ps_set (i := 9) sc_l_made.nd rfl (.inl rfl) (pe_op op_sub (pv 9) (pv 13)))
      (pss_one (ps_expr (pe_bm PySem.F.plainAttrs_list PySem.F.slot_list_append PySem.F.type_list_append mt_append (pv 10) (pa_cons (pe_cal C_l_made hr' (by rfl) (pa_cons (pv 0) (pa_cons (pv 1) (pa_cons (pv 12) (pa_cons (pv 13) (pa_cons (pe_op op_sub (pv 4) pe_int) pa_nil)))))) pa_nil)))))))
      (pss_one (ps_ret (pe_callTy call_tuple_of (by rfl) B.tuple PyProof.Rows.boot_tuple (pa_cons (pv 10) pa_nil)))))))))))))))), ?_⟩
  obtain ⟨wc, wi, wn, hw⟩ := wl
  have nwf : wd ≠ f := fun z => by
    obtain ⟨xs, e⟩ := fl.lst
    rw [z, e] at hw
    cases hw
  -- words
  refine ⟨(by show 5 ≤ sizeLine; decide), fun l1 hl1 => ?_⟩
  refine ⟨fun σ' H' => ∃ (l : Addr) (ws : List V), σ' = [some (.ref f), some (.ref wd), some (.str (kS k)), some (.int room), some (.int down), some (.ref l), none, none, none, none, none, none, none, none] ∧ Same H H' ∧ H l = none ∧ H' l = some (.lst ws) ∧ 5 ≤ ws.length ∧ ws.length ≤ 6 ∧ ∀ v ∈ ws, ∃ c : Ch, c.fits k ∧ v = .str c.str, ?_, ?_⟩
  · refine ⟨_, rfl, rfl, _, rfl, ite2 (fun c => ?_) (fun c => ?_)⟩
    · have c' : V.str (kS k) = V.str "truth" := of_decide_eq_true c
      have ek : k = true := by
        cases k
        · exact absurd c' (by decide +kernel)
        · rfl
      subst ek
      refine ⟨(by show 6 ≤ sizeLine; decide), fun l2 hl2 => ?_⟩
      refine ⟨l2, _, rfl, (same_new hl1).trans (same_new hl2), (same_new hl1).free hl2, upd_same, (by show 5 ≤ 6; decide), (by show 6 ≤ 6; decide), fun v hv => ?_⟩
      simp only [List.mem_cons, List.not_mem_nil, or_false] at hv
      rcases hv with rfl | rfl | rfl | rfl | rfl | rfl
      · exact ⟨.bin .atmost, rfl, rfl⟩
      · exact ⟨.neg, rfl, rfl⟩
      · exact ⟨.bin .both, rfl, rfl⟩
      · exact ⟨.bin .either, rfl, rfl⟩
      · exact ⟨.bin .atmost, rfl, rfl⟩
      · exact ⟨.ite, True.intro, rfl⟩
    · have ek : k = false := by
        cases k
        · rfl
        · exact absurd (decide_eq_true rfl) c
      subst ek
      refine ⟨l1, _, rfl, same_new hl1, hl1, upd_same, (by show 5 ≤ 5; decide), (by show 5 ≤ 6; decide), fun v hv => ?_⟩
      simp only [List.mem_cons, List.not_mem_nil, or_false] at hv
      rcases hv with rfl | rfl | rfl | rfl | rfl
      · exact ⟨.plus, rfl, rfl⟩
      · exact ⟨.bin .least, rfl, rfl⟩
      · exact ⟨.bin .most, rfl, rfl⟩
      · exact ⟨.plus, rfl, rfl⟩
      · exact ⟨.ite, True.intro, rfl⟩
  rintro _ H1 ⟨l, ws, rfl, sm1, hl0, hl, len5, len6, hws⟩
  have fl1 : Flow H1 f := by
    obtain ⟨x, y, z, e, r⟩ := fl
    exact ⟨x, y, z, sm1 _ _ e, r⟩
  have nlf : l ≠ f := fun z => by
    obtain ⟨xs, e⟩ := fl.lst
    rw [z, e] at hl0
    cases hl0
  -- word
  refine ⟨_, rfl, _, rfl, _, rfl, l, ws, rfl, .inl (SqL.of hl), f, _, rfl, fl1, by omega, by omega, fun j H2 j0 j1 dr2 => ?_⟩
  have hj : j.toNat < ws.length := by omega
  obtain ⟨c, hc, ec⟩ := hws ws[j.toNat] (List.getElem_mem hj)
  refine ⟨l, ws, j, .str c.str, rfl, rfl, SqL.of (by rw [dr2.off l nlf]; exact hl), at_of (j := j.toNat) (by omega) (by rw [← ec]; exact List.getElem?_eq_getElem hj), ?_⟩
  have g2 : Gr [] f H H2 := (⟨Ex.of_same sm1, fl1⟩ : Gr [] f H H1).trans dr2.gr
  have hw2 : H2 wd = some (.dK (wKV ka wc wi wn)) := by
    rw [dr2.off wd nwf]
    exact sm1 _ _ hw
  have hk2 : SqT K H2 ka (kVs ks) := g2.tp fl _ _ hk
  clear dr2 hws
  -- parts
  refine fun dd hdd => ?_
  have sA : Same H2 (upd H2 dd (.dK [])) := same_new hdd
  refine ⟨(by show 1 ≤ sizeLine; decide), fun p1 hp1 => ⟨(by show 1 ≤ sizeLine; decide), fun p2 hp2 => ⟨(by show 2 ≤ sizeLine; decide), fun p3 hp3 => ⟨(by show 2 ≤ sizeLine; decide), fun p4 hp4 => ?_⟩⟩⟩⟩
  have sB := same_new (o := .lst [V.str (Str.ofString "num")]) hp1
  have sC := same_new (o := .lst [V.str (Str.ofString "truth")]) hp2
  have sD := same_new (o := .lst [V.str (Str.ofString "truth"), V.str (Str.ofString "truth")]) hp3
  have sE := same_new (o := .lst [V.str (Str.ofString "truth"), V.str (Str.ofString "truth")]) hp4
  have e1 := (sC.trans (sD.trans sE)) p1 _ upd_same
  have e2 := (sD.trans sE) p2 _ upd_same
  have e3 := sE p3 _ upd_same
  have e4 : (upd _ p4 (HO.lst [V.str (Str.ofString "truth"), V.str (Str.ofString "truth")])) p4 = _ := upd_same (H := (upd (upd (upd (upd H2 dd (HO.dK [])) p1 (HO.lst [V.str (Str.ofString "num")])) p2 (HO.lst [V.str (Str.ofString "truth")])) p3 (HO.lst [V.str (Str.ofString "truth"), V.str (Str.ofString "truth")])))
  have eD := (sB.trans (sC.trans (sD.trans sE))) dd _ upd_same
  have sM := sA.trans (sB.trans (sC.trans (sD.trans sE)))
  generalize upd (upd (upd (upd (upd H2 dd (HO.dK [])) p1 (HO.lst [V.str (Str.ofString "num")])) p2 (HO.lst [V.str (Str.ofString "truth")])) p3 (HO.lst [V.str (Str.ofString "truth"), V.str (Str.ofString "truth")])) p4 (HO.lst [V.str (Str.ofString "truth"), V.str (Str.ofString "truth")]) = H3 at e1 e2 e3 e4 eD sM
  clear sB sC sD sE hp1 hp2 hp3 hp4 sA
  refine ⟨eD, [(Sum.inr "plus", .ref p1), (Sum.inr "not", .ref p2), (Sum.inr "both", .ref p3), (Sum.inr "either", .ref p4)], rfl, (by show 4 ≤ 15; decide), ?_⟩
  have nd1 : p1 ≠ dd := fun z => by rw [z, eD] at e1; cases e1
  have nd2 : p2 ≠ dd := fun z => by rw [z, eD] at e2; cases e2
  have nd3 : p3 ≠ dd := fun z => by rw [z, eD] at e3; cases e3
  have nd4 : p4 ≠ dd := fun z => by rw [z, eD] at e4; cases e4
  have sN : Same H2 (upd H3 dd (.dK (mergeK [] [(Sum.inr "plus", .ref p1), (Sum.inr "not", .ref p2), (Sum.inr "both", .ref p3), (Sum.inr "either", .ref p4)]))) := fun b o z => by
    rw [upd_ne (ne_of_none z hdd)]
    exact sM b o z
  have f1 : (upd H3 dd (.dK (mergeK [] [(Sum.inr "plus", .ref p1), (Sum.inr "not", .ref p2), (Sum.inr "both", .ref p3), (Sum.inr "either", .ref p4)]))) p1 = some (.lst [V.str (Str.ofString "num")]) := by rw [upd_ne nd1]; exact e1
  have f2 : (upd H3 dd (.dK (mergeK [] [(Sum.inr "plus", .ref p1), (Sum.inr "not", .ref p2), (Sum.inr "both", .ref p3), (Sum.inr "either", .ref p4)]))) p2 = some (.lst [V.str (Str.ofString "truth")]) := by rw [upd_ne nd2]; exact e2
  have f3 : (upd H3 dd (.dK (mergeK [] [(Sum.inr "plus", .ref p1), (Sum.inr "not", .ref p2), (Sum.inr "both", .ref p3), (Sum.inr "either", .ref p4)]))) p3 = some (.lst [V.str (Str.ofString "truth"), V.str (Str.ofString "truth")]) := by rw [upd_ne nd3]; exact e3
  have f4 : (upd H3 dd (.dK (mergeK [] [(Sum.inr "plus", .ref p1), (Sum.inr "not", .ref p2), (Sum.inr "both", .ref p3), (Sum.inr "either", .ref p4)]))) p4 = some (.lst [V.str (Str.ofString "truth"), V.str (Str.ofString "truth")]) := by rw [upd_ne nd4]; exact e4
  have fD : (upd H3 dd (.dK (mergeK [] [(Sum.inr "plus", .ref p1), (Sum.inr "not", .ref p2), (Sum.inr "both", .ref p3), (Sum.inr "either", .ref p4)]))) dd = some (.dK (mergeK [] [(Sum.inr "plus", .ref p1), (Sum.inr "not", .ref p2), (Sum.inr "both", .ref p3), (Sum.inr "either", .ref p4)])) := upd_same
  generalize upd H3 dd (.dK (mergeK [] [(Sum.inr "plus", .ref p1), (Sum.inr "not", .ref p2), (Sum.inr "both", .ref p3), (Sum.inr "either", .ref p4)])) = H4 at sN f1 f2 f3 f4 fD
  clear e1 e2 e3 e4 eD sM nd1 nd2 nd3 nd4 hdd
  refine ⟨dd, rfl, .inl ⟨_, .inl fD⟩, _, rfl, _, DGet.k (k := Sum.inr c.str) fD, ?_⟩
  refine ⟨fun σ' H' => ∃ pl : Addr, σ' = [some (V.ref f), some (.ref wd), some (.str (kS k)), some (.int room), some (.int down), some (.ref l), some (.str c.str), some (.ref pl), none, none, none, none, none, none] ∧ Same H4 H' ∧ (c.str ≠ "if" → H' pl = some (.lst ((c.ps k).map fun b => V.str (kS b)))), ?_, ?_⟩
  · have non : ∀ a : Addr, decide (V.ref a = V.non) = true → False := fun a z => nomatch (of_decide_eq_true z)
    have mk2 : ∀ (Q' : L2.St → Hp → Prop), True := fun _ => True.intro
    cases c with
    | plus => exact ⟨_, rfl, rfl, _, rfl, ite2 (fun z => (non p1 z).elim) (fun _ => ⟨p1, rfl, Same.refl _, fun _ => f1⟩)⟩
    | neg => exact ⟨_, rfl, rfl, _, rfl, ite2 (fun z => (non p2 z).elim) (fun _ => ⟨p2, rfl, Same.refl _, fun _ => f2⟩)⟩
    | ite => exact ⟨_, rfl, rfl, _, rfl, ite2 (fun _ => ⟨(by show 2 ≤ sizeLine; decide), fun p hp => ⟨p, rfl, same_new hp, fun z => absurd rfl z⟩⟩) (fun z => absurd (decide_eq_true rfl) z)⟩
    | bin w =>
      cases w with
      | both => exact ⟨_, rfl, rfl, _, rfl, ite2 (fun z => (non p3 z).elim) (fun _ => ⟨p3, rfl, Same.refl _, fun _ => f3⟩)⟩
      | either => exact ⟨_, rfl, rfl, _, rfl, ite2 (fun z => (non p4 z).elim) (fun _ => ⟨p4, rfl, Same.refl _, fun _ => f4⟩)⟩
      | least => exact ⟨_, rfl, rfl, _, rfl, ite2 (fun _ => ⟨(by show 2 ≤ sizeLine; decide), fun p hp => ⟨p, rfl, same_new hp, fun _ => upd_same⟩⟩) (fun z => absurd (decide_eq_true rfl) z)⟩
      | most => exact ⟨_, rfl, rfl, _, rfl, ite2 (fun _ => ⟨(by show 2 ≤ sizeLine; decide), fun p hp => ⟨p, rfl, same_new hp, fun _ => upd_same⟩⟩) (fun z => absurd (decide_eq_true rfl) z)⟩
      | atmost => exact ⟨_, rfl, rfl, _, rfl, ite2 (fun _ => ⟨(by show 2 ≤ sizeLine; decide), fun p hp => ⟨p, rfl, same_new hp, fun _ => upd_same⟩⟩) (fun z => absurd (decide_eq_true rfl) z)⟩
  rintro _ H5 ⟨pl, rfl, s5, hpl⟩
  refine ⟨fun σ' H' => ∃ pl : Addr, σ' = [some (V.ref f), some (.ref wd), some (.str (kS k)), some (.int room), some (.int down), some (.ref l), some (.str c.str), some (.ref pl), none, none, none, none, none, none] ∧ Same H4 H' ∧ H' pl = some (.lst ((c.ps k).map fun b => V.str (kS b))), ?_, ?_⟩
  · refine ⟨_, rfl, rfl, _, rfl, ite2 (fun z => ?_) (fun z => ?_)⟩
    · have z' : V.str c.str = V.str "if" := of_decide_eq_true z
      have ec : c = .ite := by
        cases c with
        | plus => exact absurd z' (by decide +kernel)
        | neg => exact absurd z' (by decide +kernel)
        | ite => rfl
        | bin w => cases w <;> exact absurd z' (by decide +kernel)
      subst ec
      exact ⟨_, rfl, _, rfl, (by show 3 ≤ sizeLine; decide), fun p hp => ⟨p, rfl, s5.trans (same_new hp), upd_same⟩⟩
    · exact ⟨pl, rfl, s5, hpl fun e => z (decide_eq_true (by rw [e]))⟩
  clear hpl s5 f1 f2 f3 f4 fD
  rintro _ H6 ⟨pl', rfl, s6, hpl⟩
  have sH : Same H2 H6 := sN.trans s6
  have g6 : Gr [] f H H6 := g2.trans ⟨Ex.of_same sH, by
    obtain ⟨x, y, z, e, r⟩ := g2.fl
    exact ⟨x, y, z, sH _ _ e, r⟩⟩
  have hw6 := sH _ _ hw2
  have hk6 : SqT K H6 ka (kVs ks) := Tp.same sH _ _ hk2
  clear sN s6 sH hk2 hw2 g2 hl
  -- sort
  refine fun de hde => ⟨upd_same, [(Sum.inr "least", .str "cmp"), (Sum.inr "most", .str "cmp"), (Sum.inr "atmost", .str "cmp"), (Sum.inr "if", .str "if")], rfl, (by show 4 ≤ 15; decide), ?_⟩
  have s7 : Same H6 (upd (upd H6 de (.dK [])) de (.dK (mergeK [] [(Sum.inr "least", .str "cmp"), (Sum.inr "most", .str "cmp"), (Sum.inr "atmost", .str "cmp"), (Sum.inr "if", .str "if")]))) := fun b o z => by
    rw [upd_ne (ne_of_none z hde), upd_ne (ne_of_none z hde)]
    exact z
  refine ⟨de, rfl, .inl ⟨_, .inl upd_same⟩, _, rfl, _, DGet.k (k := Sum.inr c.str) upd_same, ?_⟩
  have esort : (Option.getD (valV (mergeK [] [(Sum.inr "least", V.str "cmp"), (Sum.inr "most", .str "cmp"), (Sum.inr "atmost", .str "cmp"), (Sum.inr "if", .str "if")]) (Sum.inr c.str)) (V.str "any")) = .str c.sort := by
    cases c with
    | plus => rfl
    | neg => rfl
    | ite => rfl
    | bin w => cases w <;> rfl
  rw [esort]
  generalize upd (upd H6 de (.dK [])) de (.dK (mergeK [] [(Sum.inr "least", .str "cmp"), (Sum.inr "most", .str "cmp"), (Sum.inr "atmost", .str "cmp"), (Sum.inr "if", .str "if")])) = H7 at s7
  have g7 : Gr [] f H H7 := g6.trans ⟨Ex.of_same s7, by
    obtain ⟨x, y, z, e, r⟩ := g6.fl
    exact ⟨x, y, z, s7 _ _ e, r⟩⟩
  have hw7 := s7 _ _ hw6
  have hk7 : SqT K H7 ka (kVs ks) := Tp.same s7 _ _ hk6
  have hp7 := s7 _ _ hpl
  clear s7 hk6 hw6 g6 hpl esort hde
  obtain ⟨wz, ewz⟩ : ∃ z : Int, valV (wKV ka wc wi wn) (Sum.inr c.sort) = some (.int z) := by
    cases c with
    | plus => exact ⟨_, rfl⟩
    | neg => exact ⟨_, rfl⟩
    | ite => exact ⟨_, rfl⟩
    | bin w => cases w <;> exact ⟨_, rfl⟩
  have gw7 : DGet H7 wd (.str c.sort) (some (.int wz)) := ewz ▸ DGet.k (k := Sum.inr c.sort) hw7
  -- a leaf, from wherever it is asked
  have hlen : ((c.ps k).map fun b => V.str (kS b)).length = (c.ps k).length := List.length_map _
  have lf : ∀ H8 : Hp, Gr [] f H H8 → H8 wd = some (.dK (wKV ka wc wi wn)) → SqT K H8 ka (kVs ks) → spLeaf K [.ref f, .ref wd, .str (kS k)] H8 Q (fun _ _ _ => False) := fun H8 g8 w8 k8 =>
    ⟨f, wd, ka, ks, k, rfl, g8.fl, ⟨_, w8, rfl⟩, k8, hk3, fun v p H' g a wk ow sz => q v p H' ((g8.trans g).mono fun b hb => nomatch hb) ⟨_, _, _, g.ex wd _ w8 (by simp [nwf])⟩ a wk ow (by rw [sz]; omega)⟩
  refine ⟨_, rfl, _, rfl, pl', _, rfl, .inl (SqL.of hp7), _, _, rfl, rfl, _, rfl, ite2 (fun _ => ⟨_, rfl, _, rfl, _, rfl, lf H7 g7 hw7 hk7⟩) (fun t1 => ?_)⟩
  refine ⟨_, rfl, rfl, _, rfl, ite2 (fun _ => ⟨_, rfl, _, rfl, _, rfl, lf H7 g7 hw7 hk7⟩) (fun t2 => ?_)⟩
  refine ⟨_, rfl, _, rfl, wd, .int wz, rfl, gw7, rfl, _, rfl, ite2 (fun _ => ⟨_, rfl, _, rfl, _, rfl, lf H7 g7 hw7 hk7⟩) (fun t3 => ?_)⟩
  refine ⟨_, rfl, _, rfl, _, _, rfl, rfl, f, 5 + room, rfl, g7.fl, by omega, by omega, fun d8 H8 _ _ dr8 => ?_⟩
  have g8 : Gr [] f H H8 := g7.trans dr8.gr
  have hw8 : H8 wd = some (.dK (wKV ka wc wi wn)) := by rw [dr8.off wd nwf]; exact hw7
  have hk8 : SqT K H8 ka (kVs ks) := dr8.tp g7.fl _ _ hk7
  have npf : pl' ≠ f := fun z => by
    obtain ⟨xs, e⟩ := g7.fl
    obtain ⟨_, _, e, _⟩ := e
    rw [z, e] at hp7
    have := congrArg (fun o => match o with | some (HO.lst (V.int _ :: _)) => true | _ => false) hp7
    cases c with
    | plus => exact absurd this (by simp [Ch.ps])
    | neg => exact absurd this (by simp [Ch.ps])
    | ite => exact absurd this (by simp [Ch.ps])
    | bin w => exact absurd this (by simp [Ch.ps])
  have npw : pl' ≠ wd := fun z => by
    rw [z, hw7] at hp7
    cases hp7
  have hp8 : H8 pl' = some (.lst ((c.ps k).map fun b => V.str (kS b))) := by rw [dr8.off pl' npf]; exact hp7
  refine ⟨rfl, _, rfl, ite2 (fun _ => ⟨_, rfl, _, rfl, _, rfl, lf H8 g8 hw8 hk8⟩) (fun t4 => ?_)⟩
  have room1 : ((c.ps k).length : Int) < room := by
    have z := of_decide_eq_false (Bool.eq_false_iff.mpr t1)
    rw [hlen] at z
    omega
  have down1 : down ≠ 0 := fun z => t2 (decide_eq_true (by rw [z]))
  clear t1 t2 t3 t4 gw7 hp7 hk7 hw7 lf
  -- world[sort] -= 1
  have gw8 : DGet H8 wd (.str c.sort) (some (.int wz)) := ewz ▸ DGet.k (k := Sum.inr c.sort) hw8
  refine ⟨_, rfl, _, rfl, wd, .int wz, rfl, gw8, _, _, rfl, rfl, _, rfl, _, rfl, wd, _, rfl, DPut.k (k := Sum.inr c.sort) hw8 (by show 4 < sizeLine; decide), ?_⟩
  obtain ⟨c9, i9, n9, e9⟩ : ∃ c9 i9 n9 : Int, putK (wKV ka wc wi wn) (Sum.inr c.sort) (.int (wz - 1)) = wKV ka c9 i9 n9 := by
    cases c with
    | plus => exact ⟨_, _, _, wp_any ..⟩
    | neg => exact ⟨_, _, _, wp_any ..⟩
    | ite => exact ⟨_, _, _, wp_if ..⟩
    | bin w =>
      cases w with
      | least => exact ⟨_, _, _, wp_cmp ..⟩
      | most => exact ⟨_, _, _, wp_cmp ..⟩
      | atmost => exact ⟨_, _, _, wp_cmp ..⟩
      | both => exact ⟨_, _, _, wp_any ..⟩
      | either => exact ⟨_, _, _, wp_any ..⟩
  rw [e9]
  have hw9 : (upd H8 wd (.dK (wKV ka c9 i9 n9))) wd = some (.dK (wKV ka c9 i9 n9)) := upd_same
  have g9 : Gr [wd] f H (upd H8 wd (.dK (wKV ka c9 i9 n9))) := by
    refine (g8.mono fun b hb => nomatch hb).trans ⟨Ex.at (by simp), ?_⟩
    obtain ⟨x, y, z, e, r⟩ := g8.fl
    exact ⟨x, y, z, by rw [upd_ne nwf.symm]; exact e, r⟩
  have hk9 : SqT K (upd H8 wd (.dK (wKV ka c9 i9 n9))) ka (kVs ks) := Tp.dct hw8 _ _ hk8
  have hp9 : (upd H8 wd (.dK (wKV ka c9 i9 n9))) pl' = some (.lst ((c.ps k).map fun b => V.str (kS b))) := by rw [upd_ne npw]; exact hp8
  generalize upd H8 wd (.dK (wKV ka c9 i9 n9)) = H9 at hw9 g9 hk9 hp9
  clear e9 gw8 hw8 hk8 hp8 dr8 ewz g8
  -- left, found
  refine ⟨_, rfl, _, _, rfl, rfl, _, rfl, (by show 1 ≤ sizeLine; decide), fun fo hfo => ⟨_, _, rfl, ?_⟩⟩
  have s10 : Same H9 (upd H9 fo (.lst [V.str c.str])) := same_new hfo
  have nfo : fo ≠ f ∧ fo ≠ wd ∧ fo ≠ pl' := by
    obtain ⟨xs, e⟩ := g9.fl.lst
    exact ⟨(ne_of_none e hfo).symm, (ne_of_none hw9 hfo).symm, (ne_of_none hp9 hfo).symm⟩
  have fo0 : H fo = none := g9.ex.free hfo (by simp [nfo.1, nfo.2.1])
  have fo10 : (upd H9 fo (.lst [V.str c.str])) fo = some (.lst [V.str c.str]) := upd_same
  have g10 : Gr [wd] f H (upd H9 fo (.lst [V.str c.str])) := g9.trans (Gr.new g9.fl hfo)
  have hw10 := s10 _ _ hw9
  have hk10 : SqT K _ ka (kVs ks) := Tp.same s10 _ _ hk9
  have hp10 := s10 _ _ hp9
  generalize upd H9 fo (.lst [V.str c.str]) = H10 at fo10 g10 hw10 hk10 hp10
  clear hfo s10 hw9 hk9 hp9 g9
  refine ⟨fun σ' H' => ∃ num : Int, (-1000 ≤ num ∧ num ≤ 1000) ∧ σ' = [some (V.ref f), some (.ref wd), some (.str (kS k)), some (.int room), some (.int down), some (.ref l), some (.str c.str), some (.ref pl'), some (.str c.sort), some (.int (room - 1)), some (.ref fo), none, none, none] ∧ Gr [wd] f H H' ∧ Wld H' wd ka ∧ SqT K H' ka (kVs ks) ∧ H' pl' = some (.lst ((c.ps k).map fun b => V.str (kS b))) ∧ H' fo = some (.lst (c.front num)), ?_, ?_⟩
  · refine ⟨_, rfl, rfl, _, rfl, ite2 (fun z => ?_) (fun z => ?_)⟩
    · have z' : V.str c.str = V.str "plus" := of_decide_eq_true z
      have ec : c = .plus := by
        cases c with
        | plus => rfl
        | neg => exact absurd z' (by decide +kernel)
        | ite => exact absurd z' (by decide +kernel)
        | bin w => cases w <;> exact absurd z' (by decide +kernel)
      subst ec
      refine ⟨_, rfl, .inl ⟨rfl, _, SqL.of fo10⟩, _, rfl, f, rfl, g10.fl, fun num H11 nb0 nb1 g11 => ?_⟩
      have fo11 : H11 fo = some (.lst [V.str Ch.plus.str]) := g11.ex _ _ fo10 (by simp [nfo.1])
      have hw11 := g11.ex _ _ hw10 (by simp [nwf])
      have hp11 := g11.ex _ _ hp10 (by simp [npf])
      have hk11 : SqT K H11 ka (kVs ks) := g11.tp g10.fl _ _ hk10
      refine ⟨fo, _, _, rfl, rfl, fo11, (by show 1 < sizeLine; decide), num, ⟨nb0, nb1⟩, rfl, (g10.trans (g11.mono fun b hb => nomatch hb)).put fo0 nfo.1, ⟨_, _, _, by rw [upd_ne nfo.2.1.symm]; exact hw11⟩, Tp.lst fo11 _ _ hk11, by rw [upd_ne nfo.2.2.symm]; exact hp11, upd_same⟩
    · refine ⟨0, ⟨by decide, by decide⟩, rfl, g10, ⟨_, _, _, hw10⟩, hk10, hp10, ?_⟩
      rw [fo10]
      cases c with
      | plus => exact absurd (decide_eq_true rfl) z
      | neg => rfl
      | ite => rfl
      | bin w => rfl
  clear fo10 g10 hw10 hk10 hp10
  rintro _ H11 ⟨num, hnum, rfl, g11, wl11, hk11, hp11, fo11⟩
  have flen : (c.front num).length ≤ 2 := by cases c <;> simp [Ch.front]
  have plen : (c.ps k).length ≤ 3 := by cases c <;> simp [Ch.ps]
  have gfo : ∀ {H' H'' : Hp} {vs : List V}, Gr [wd] f H' H'' → H' fo = some (.lst vs) → H'' fo = some (.lst vs) := fun g e => g.ex _ _ e (by simp [nfo.1, nfo.2.1])
  refine ⟨_, rfl, pl', _, rfl, SqL.of hp11, for_enum (K := K) (a := pl') (xs := (c.ps k).map fun b => V.str (kS b)) (fun i σ' H' => ∃ (left : Int) (vs : List V) (ps : List Pg) (y1 y2 y3 : Option V), σ' = [some (V.ref f), some (.ref wd), some (.str (kS k)), some (.int room), some (.int down), some (.ref l), some (.str c.str), some (.ref pl'), some (.str c.sort), some (.int left), some (.ref fo), y1, y2, y3] ∧
      Gr [wd] f H H' ∧ Wld H' wd ka ∧ SqT K H' ka (kVs ks) ∧ H' pl' = some (.lst ((c.ps k).map fun b => V.str (kS b))) ∧ H' fo = some (.lst (c.front num ++ vs)) ∧ Ats K H' vs ps ∧ ps.length = i ∧ (∀ p ∈ ps, Wn ks p) ∧ ps.map (own ks) = (c.ps k).take i ∧ ((c.ps k).length : Int) - i ≤ left ∧ ((ps.map psz).sum : Int) + left ≤ room - 1) ?_ ?_ ?_ ?_⟩
  · refine ⟨room - 1, [], [], none, none, none, rfl, g11, wl11, hk11, hp11, by rw [List.append_nil]; exact fo11, .nil, rfl, fun p hp => absurd hp (by simp), by simp, by omega, by simp⟩
  · rintro i σ' H' ⟨left, vs, ps, y1, y2, y3, rfl, g, wl, hk', hp', fo', _⟩
    exact SqL.of hp'
  · rintro i x T σ' H' hx ⟨left, vs, ps, y1, y2, y3, rfl, g, wl, hk', hp', fo', ha, hl, hwk, hown, hleft, hsum⟩ hT
    obtain ⟨b, hb, rfl⟩ : ∃ b, (c.ps k)[i]? = some b ∧ x = V.str (kS b) := by
      rw [List.getElem?_map] at hx
      cases e : (c.ps k)[i]? with
      | none => rw [e] at hx; cases hx
      | some b => rw [e] at hx; exact ⟨b, rfl, (Option.some.inj hx).symm⟩
    have hi : i < (c.ps k).length := (List.getElem?_eq_some_iff.mp hb).1
    have sT : Same H' (upd H' T (.tup [.int (i : Nat), V.str (kS b)])) := same_new hT
    have gT : Gr [wd] f H (upd H' T (.tup [.int (i : Nat), V.str (kS b)])) := g.trans (Gr.new g.fl hT)
    refine ⟨T, _, rfl, .inl (.inl upd_same), rfl, _, _, rfl, _, [], rfl, rfl, ?_⟩
    have wlT : Wld (upd H' T (.tup [.int (i : Nat), V.str (kS b)])) wd ka := by
      obtain ⟨x, y, z, e⟩ := wl
      exact ⟨x, y, z, sT _ _ e⟩
    have hkT : SqT K (upd H' T (.tup [.int (i : Nat), V.str (kS b)])) ka (kVs ks) := Tp.same sT _ _ hk'
    have hpT := sT _ _ hp'
    have foT := sT _ _ fo'
    have haT : Ats K (upd H' T (.tup [.int (i : Nat), V.str (kS b)])) vs ps := ha.keep (Tp.same sT)
    generalize upd H' T (.tup [.int (i : Nat), V.str (kS b)]) = HT at gT wlT hkT hpT foT haT
    -- share
    refine ⟨_, rfl, _, rfl, _, rfl, pl', _, rfl, .inl (SqL.of hpT), _, rfl, _, _, rfl, rfl, _, _, rfl, rfl, _, _, rfl, rfl, f, _, rfl, gT.fl, ?_, ?_, fun d Hd dd0 dd1 drd => ⟨_, _, rfl, rfl, ?_⟩⟩
    · rw [hlen]; omega
    · rw [hlen]
      have : 0 ≤ ((ps.map psz).sum : Int) := by omega
      omega
    rw [hlen] at dd1
    have gd : Gr [wd] f H Hd := gT.trans drd.gr
    have wld : Wld Hd wd ka := by
      obtain ⟨x, y, z, e⟩ := wlT
      exact ⟨x, y, z, by rw [drd.off wd nwf]; exact e⟩
    have hkd : SqT K Hd ka (kVs ks) := drd.tp gT.fl _ _ hkT
    have hpd : Hd pl' = _ := (drd.off pl' npf).trans hpT
    have fod : Hd fo = _ := (drd.off fo nfo.1).trans foT
    have had : Ats K Hd vs ps := haT.keep (drd.tp gT.fl)
    have sum0 : 0 ≤ ((ps.map psz).sum : Int) := by omega
    -- left, then the part
    refine ⟨_, rfl, _, rfl, _, _, rfl, rfl, ?_⟩
    refine ⟨_, rfl, .inl ⟨rfl, _, SqL.of fod⟩, _, rfl, _, rfl, _, rfl, _, rfl, _, rfl, _, _, rfl, rfl, ?_⟩
    refine ⟨f, wd, ka, ks, b, 1 + d, down - 1, rfl, gd.fl, wld, hkd, hk3, by omega, by omega, by omega, by omega, fun v p He ge wle ae wke owe sze => ?_⟩
    have foe := gfo ge fod
    have npe : pl' ∉ [f, wd] := by simp [npf, npw]
    have hpe := ge.ex _ _ hpd npe
    have tpe : Tp K Hd He := by
      refine ge.ex.tp fun b hb ys q => ?_
      rcases List.mem_cons.mp hb with z | z
      · rw [z] at q
        obtain ⟨xs, e⟩ := gd.fl.lst
        rcases q with q | ⟨o, q⟩
        · rw [e] at q; cases q
        · rw [e] at q; cases q
      · rw [List.mem_singleton.mp z] at q
        obtain ⟨_, _, _, e⟩ := wld
        rcases q with q | ⟨o, q⟩
        · rw [e] at q; cases q
        · rw [e] at q; cases q
    have hke := tpe _ _ hkd
    have hae := had.keep tpe
    have vlen : vs.length = i := by rw [hae.len, hl]
    have tpf : Tp K He (upd He fo (.lst (c.front num ++ vs ++ [v]))) := Tp.lst foe
    refine ⟨fo, _, _, rfl, rfl, foe, by rw [List.length_append]; exact smallL (by omega), left - (1 + d), vs ++ [v], ps ++ [p], _, _, _, rfl, (gd.trans ge).put fo0 nfo.1, ?_, tpf _ _ hke, by rw [upd_ne nfo.2.2.symm]; exact hpe, by rw [upd_same, List.append_assoc], (hae.keep tpf).app (.cons (ae.keep tpf) .nil), by rw [List.length_append, hl]; rfl, ?_, ?_, by omega, ?_⟩
    · obtain ⟨x, y, z, e⟩ := wle
      exact ⟨x, y, z, by rw [upd_ne nfo.2.1.symm]; exact e⟩
    · intro p' hp'
      rcases List.mem_append.mp hp' with z | z
      · exact hwk p' z
      · rw [List.mem_singleton.mp z]
        exact wke
    · rw [List.map_append, hown, List.take_add_one, hb]
      simp [owe]
    · rw [List.map_append, List.sum_append]
      simp only [List.map_cons, List.map_nil, List.sum_cons, List.sum_nil]
      omega
  · rintro σ' H' ⟨left, vs, ps, y1, y2, y3, rfl, g, wl, hk', hp', fo', ha, hl, hwk, hown, hleft, hsum⟩
    refine ⟨_, rfl, fo, _, rfl, .inl ⟨SqL.of fo', fun t ht => ?_⟩⟩
    have st : Same H' (upd H' t (.tup (c.front num ++ vs))) := same_new ht
    rw [hlen, List.take_length] at hown
    obtain ⟨p, ap, wp, op, sp⟩ := c.make (num := num) hc (ha.keep (Tp.same st)) hwk hnum hown upd_same
    refine q _ p _ (g.trans (Gr.new g.fl ht)) ?_ ap wp op ?_
    · obtain ⟨x, y, z, e⟩ := wl
      exact ⟨x, y, z, st _ _ e⟩
    · rw [hlen] at hleft
      rw [sp]
      omega
end
end Lm

set_option Elab.async false
set_option linter.all false
set_option maxRecDepth 100000
set_option maxHeartbeats 2000000
namespace Lm
open PySem PySem.Spec PyProof.Rows L2 LmR
section
variable {P : Program} {w : World} {K : PySem.W.Frag} {mg : Str → Option Value} {base : Heap}
theorem ok_l_made (B : Bt mg) (C_l_draw : Cal P w K mg base 1 "_law_draw" ["_law_flow_here", "_law_many"] (spDraw)) (C_l_numeral : Cal P w K mg base 2 "_law_numeral" ["_law_flow_here"] (spNumeral)) (C_l_leaf : Cal P w K mg base 3 "_law_leaf" ["_law_flow_here", "_law_world", "_law_kind"] (spLeaf K)) (D : DefAt K mg "_law_made" s_l_made ["_law_flow_here", "_law_world", "_law_kind", "_law_room", "_law_down"]) : ∀ n : Nat, Cal P w K mg base (n + 3) "_law_made" ["_law_flow_here", "_law_world", "_law_kind", "_law_room", "_law_down"] (spMade K n)
  | 0 => cal_no D fun vs H Q E h => by
    obtain ⟨f, wd, ka, ks, k, room, down, _, _, _, _, _, _, _, h1, h2, _⟩ := h
    omega
  | n + 1 => ok_l_made1 B C_l_draw C_l_numeral C_l_leaf (ok_l_made B C_l_draw C_l_numeral C_l_leaf D n) D
end
end Lm

set_option Elab.async false
set_option linter.all false
set_option maxRecDepth 100000
set_option maxHeartbeats 2000000
namespace Lm
open PySem PySem.Spec PyProof.Rows L2 LmR
section
variable {P : Program} {w : World} {K : PySem.W.Frag} {mg : Str → Option Value} {base : Heap}
abbrev s_taken : Stmt := topS 27
theorem sc_taken : FnScope ["pile", "many", "turn"] ["pile", "many"] (defScope s_taken) := ⟨rfl, rfl, rfl, by decide +kernel, rfl, by decide +kernel, by decide +kernel⟩
def spTaken : Sp := fun vs H Q _ => ∃ (l : Addr) (xs ys : List V), vs = [.ref l, .int (ys.length : Nat)] ∧ H l = some (.lst (xs ++ ys.reverse)) ∧ ys.length ≤ 1000 ∧ ∀ (t : Addr) (H' : Hp), Ex [l] H H' → H' l = some (.lst xs) → H' t = some (.tup ys) → Q (.ref t) H'
theorem ok_taken (B : Bt mg) (D : DefAt K mg "taken" s_taken ["pile", "many"]) : Cal P w K mg base 1 "taken" ["pile", "many"] (spTaken) := by
  refine cal_of D sc_taken (fun vs H Q E h => ?_) (fun f cdv A outer s H vs Q E hr h => ?_)
  · obtain ⟨l, xs, ys, rfl, _⟩ := h
    rfl
  obtain ⟨l, xs, ys, rfl, hL, hlen, q⟩ := h
  refine ⟨_, (pss_one (ps_ret (pe_callTy call_tuple_of (by rfl) B.tuple PyProof.Rows.boot_tuple (pa_cons (pe_lc (own := [("turn", 2)]) (g := gName 2) rfl sc_taken.nd (pi_range1 (by rfl) B.range (pa_cons (pv 1) pa_nil)) (blkOk_by (own := [("turn", 2)]) (N := ["pile", "many", "turn"]) (sc := defScope s_taken) (by decide +kernel)) (fun _ _ _ _ _ => (pg_name (i := 2) sc_taken.nd rfl (.inl rfl))) (fun _ _ _ _ _ => pts_nil) (fun _ _ _ _ _ => (pe_bm0K (K := K) rfl PySem.F.plainAttrs_list PySem.F.slot_list_pop PySem.F.type_list_pop mt_pop (pv 0)))) pa_nil)))), ?_⟩
  refine ⟨_, rfl, _, rfl, by omega, by omega, fun D hD => lc_range (lo := 0) (n := ((ys.length : Nat) : Int).toNat) (fun i H' => Ex [l] H H' ∧ H' l = some (.lst (xs ++ (ys.drop i).reverse)) ∧ H' D = some (.lst (ys.take i))) ?_ ?_ ?_⟩
  · have n1 : l ≠ D := ne_of_none hL hD
    exact ⟨Ex.new hD, by rw [upd_ne n1, List.drop_zero]; exact hL, upd_same⟩
  · rintro i H' hi ⟨ex, h1, h2⟩
    have n1 : l ≠ D := ne_of_none hL hD
    have hi' : i < ys.length := by omega
    have ed : ys.drop i = ys[i] :: ys.drop (i + 1) := List.drop_eq_getElem_cons hi'
    rw [ed, List.reverse_cons, ← List.append_assoc] at h1
    refine ⟨rfl, _, rfl, .inl ⟨rfl, _, SqL.of h1⟩, l, _, ys[i], rfl, rfl, h1, ?_, ?_⟩
    · rw [List.length_append, List.length_singleton, Nat.add_sub_cancel, List.getElem?_append_right (Nat.le_refl _), Nat.sub_self]
      rfl
    rw [List.dropLast_concat]
    refine ⟨ys.take i, by rw [upd_ne n1.symm]; exact h2, by rw [List.length_take]; exact smallL (by omega), ?_, ?_, ?_⟩
    · intro b o hb nb
      have nbl : b ≠ l := fun z => nb (by rw [z]; simp)
      rw [upd_ne (ne_of_none hb hD), upd_ne nbl]
      exact ex b o hb nb
    · rw [upd_ne n1, upd_same]
    · rw [upd_same, List.take_add_one, List.getElem?_eq_getElem hi']
      rfl
  · rintro H' ⟨ex, h1, h2⟩
    have n1 : l ≠ D := ne_of_none hL hD
    have et : ((ys.length : Nat) : Int).toNat = ys.length := Int.toNat_natCast _
    rw [et, List.drop_length, List.reverse_nil, List.append_nil] at h1
    rw [et, List.take_length] at h2
    refine ⟨D, _, rfl, .inl ⟨SqL.of h2, fun t ht => q t _ (ex.trans (Ex.new ht)) ?_ upd_same⟩⟩
    rw [upd_ne (ne_of_none h1 ht)]
    exact h1
end
end Lm

set_option Elab.async false
set_option linter.all false
set_option maxRecDepth 100000
set_option maxHeartbeats 2000000
namespace Lm
open PySem PySem.Spec PyProof.Rows L2 LmR
theorem pe_gr {X : Cx} {x : Str} {a : Addr} {pos : Pos} (hg : Gl X x) (hm : X.mg x = some (.ref a)) (hd : (x == ("__debug__" : Str)) = false := by decide) : PE X (.Name x pos) (tC (.ref a)) := pe_glob (v := .ref a) hg hm rfl hd
/-! ### the table of forms -/
def nn : Pg → Nat
  | .inp _ => 1
  | .num _ => 1
  | .tr _ => 0
  | .plus _ _ => 1
  | .bin _ _ _ => 0
  | .neg _ => 0
  | .ite _ _ _ => 0
def due : Pg → List V
  | .inp _ => []
  | .num _ => []
  | .tr _ => []
  | .plus _ _ => [.str (kS false)]
  | .bin w _ _ => [.str (kS w.arg), .str (kS w.arg)]
  | .neg _ => [.str (kS true)]
  | .ite _ _ _ => [.str (kS true), .non, .non]
def ownV : Pg → V
  | .inp _ => .non
  | .num _ => .str (kS false)
  | .tr _ => .str (kS true)
  | .plus _ _ => .str (kS false)
  | .bin w _ _ => .str (kS w.own)
  | .neg _ => .str (kS true)
  | .ite _ _ _ => .non
/-- a tuple of the written part -/
def KTup (K : PySem.W.Frag) (a : Addr) (xs : List V) : Prop := ∃ (o : Obj) (its : Array Value) (n : Nat), K.lookup a = some o ∧ o.cls = .type "tuple" ∧ o.data = .seq its n ∧ its.size ≤ sizeLine ∧ Vals xs its.toList
theorem KTup.sq {K : PySem.W.Frag} {a : Addr} {xs : List V} (h : KTup K a xs) (H : Hp) : SqT K H a xs := .inr h
/-- FORMS stands at d -/
structure Forms (K : PySem.W.Frag) (w : World) (mg : Str → Option Value) (d : Addr) : Prop where
  g : mg "FORMS" = some (.ref d)
  k : ∃ es n, KDict K w d es n
  e : ∀ p : Pg, ∃ t u : Addr, PySem.W.nsIn K d (word p) = some (some (.ref t)) ∧ KTup K t [.int (nn p), .ref u, ownV p] ∧ KTup K u (due p)
theorem Forms.at {K : PySem.W.Frag} {w : World} {mg : Str → Option Value} {d : Addr} (F : Forms K w mg d) (p : Pg) : ∃ t u : Addr, KDct K w d (word p) (.ref t) ∧ KTup K t [.int (nn p), .ref u, ownV p] ∧ KTup K u (due p) := by
  obtain ⟨t, u, e, a, b⟩ := F.e p
  obtain ⟨es, n, D⟩ := F.k
  exact ⟨t, u, ⟨es, n, .ref t, D.at_, D.lit, e, rfl⟩, a, b⟩
theorem due_len (p : Pg) : (due p).length = (parts p).length := by cases p <;> rfl
theorem front_len (p : Pg) : (front p).length = 1 + nn p := by cases p <;> rfl
theorem at_word (p : Pg) (vs : List V) : atI (front p ++ vs) 0 = some (.str (word p)) := at_of (j := 0) rfl (by cases p <;> rfl)
theorem at_num (p : Pg) (vs : List V) (h : nn p ≠ 0) : ∃ i, atI (front p ++ vs) 1 = some (.int i) := by
  cases p <;> first | exact absurd rfl h | exact ⟨_, at_of (j := 1) rfl rfl⟩
theorem kTT {K : PySem.W.Frag} : PySem.W.kitOne K (.type "tuple") (.type "tuple") = some true := kit_ty (by decide +kernel)
theorem kSS {K : PySem.W.Frag} : PySem.W.kitOne K (.type "str") (.type "str") = some true := kit_ty (by decide +kernel)
section
variable {P : Program} {w : World} {K : PySem.W.Frag} {mg : Str → Option Value} {base : Heap}
abbrev s_is_whole : Stmt := topS 21
theorem sc_is_whole : FnScope ["thing"] ["thing"] (defScope s_is_whole) := ⟨rfl, rfl, rfl, by decide +kernel, rfl, by decide +kernel, by decide +kernel⟩
def spWhole (K : PySem.W.Frag) : Sp := fun vs H Q _ => ∃ (v : V) (d : PyData), vs = [v] ∧ Fd K H v d ∧ Q (.bl (isInt d && !isBl d)) H
theorem ok_is_whole (B : Bt mg) (D : DefAt K mg "is_whole" s_is_whole ["thing"]) : Cal P w K mg base 1 "is_whole" ["thing"] (spWhole K) := by
  refine cal_of D sc_is_whole (fun vs H Q E h => ?_) (fun f cdv A outer s H vs Q E hr h => ?_)
  · obtain ⟨v, d, rfl, _⟩ := h
    rfl
  obtain ⟨v, d, rfl, hv, q⟩ := h
  refine ⟨_, (pss_one (ps_ret (pe_and (pe_callB call_isi (by rfl) B.isinstance (by decide +kernel) (pa_cons (pv 0) (pa_cons (pe_bltn (v := .ty "int") (by rfl) B.int PyProof.Rows.boot_int rfl) pa_nil))) (pe_one (pe_not (pe_callB call_isi (by rfl) B.isinstance (by decide +kernel) (pa_cons (pv 0) (pa_cons (pe_bltn (v := .ty "bool") (by rfl) B.bool PyProof.Rows.boot_bool rfl) pa_nil)))))))), ?_⟩
  refine ⟨_, rfl, v, _, _, _, _, rfl, .ty _, hv.ty, kit_int d hv.1, _, rfl, ite2 (fun c => ?_) (fun c => ?_)⟩
  · rw [c] at q
    exact ⟨_, rfl, v, _, _, _, _, rfl, .ty _, hv.ty, kit_bl d hv.1, _, rfl, q⟩
  · rw [Bool.eq_false_iff.mpr c] at q
    exact q
abbrev s_many_numbers : Stmt := topS 24
theorem sc_many_numbers : FnScope ["word"] ["word"] (defScope s_many_numbers) := ⟨rfl, rfl, rfl, by decide +kernel, rfl, by decide +kernel, by decide +kernel⟩
def spMN : Sp := fun vs H Q _ => ∃ p : Pg, vs = [.str (word p)] ∧ Q (.int (nn p)) H
theorem ok_many_numbers {d : Addr} (F : Forms K w mg d) (D : DefAt K mg "many_numbers" s_many_numbers ["word"]) : Cal P w K mg base 1 "many_numbers" ["word"] (spMN) := by
  refine cal_of D sc_many_numbers (fun vs H Q E h => ?_) (fun f cdv A outer s H vs Q E hr h => ?_)
  · obtain ⟨p, rfl, _⟩ := h
    rfl
  obtain ⟨p, rfl, q⟩ := h
  have hFORMS := F.g
  refine ⟨_, (pss_one (ps_ret (pe_ix ix_tup (pe_ix ix_kdict (pe_gr (by rfl) hFORMS) (pv 0) (fun _ _ => rfl)) pe_int (fun _ _ => rfl)))), ?_⟩
  obtain ⟨t, u, e, a, b⟩ := F.at p
  exact ⟨_, rfl, d, word p, .ref t, rfl, rfl, e, t, _, 0, .int (nn p), rfl, rfl, a.sq _, rfl, q⟩
abbrev s_many_parts : Stmt := topS 25
theorem sc_many_parts : FnScope ["word"] ["word"] (defScope s_many_parts) := ⟨rfl, rfl, rfl, by decide +kernel, rfl, by decide +kernel, by decide +kernel⟩
def spMP : Sp := fun vs H Q _ => ∃ p : Pg, vs = [.str (word p)] ∧ Q (.int ((parts p).length : Nat)) H
theorem ok_many_parts {d : Addr} (B : Bt mg) (F : Forms K w mg d) (D : DefAt K mg "many_parts" s_many_parts ["word"]) : Cal P w K mg base 1 "many_parts" ["word"] (spMP) := by
  refine cal_of D sc_many_parts (fun vs H Q E h => ?_) (fun f cdv A outer s H vs Q E hr h => ?_)
  · obtain ⟨p, rfl, _⟩ := h
    rfl
  obtain ⟨p, rfl, q⟩ := h
  have hFORMS := F.g
  refine ⟨_, (pss_one (ps_ret (pe_callB call_len_seq (by rfl) B.len PySem.boot_len (pa_cons (pe_ix ix_tup (pe_ix ix_kdict (pe_gr (by rfl) hFORMS) (pv 0) (fun _ _ => rfl)) pe_int (fun _ _ => rfl)) pa_nil)))), ?_⟩
  obtain ⟨t, u, e, a, b⟩ := F.at p
  rw [← due_len] at q
  exact ⟨_, rfl, d, word p, .ref t, rfl, rfl, e, t, _, 1, .ref u, rfl, rfl, a.sq _, rfl, u, _, rfl, .inr (b.sq _), q⟩
abbrev s_has_form : Stmt := topS 23
theorem sc_has_form : FnScope ["thing", "word"] ["thing"] (defScope s_has_form) := ⟨rfl, rfl, rfl, by decide +kernel, rfl, by decide +kernel, by decide +kernel⟩
def spHF (K : PySem.W.Frag) : Sp := fun vs H Q _ => ∃ (v : V) (p : Pg), vs = [v] ∧ At K H v p ∧ Q (.bl true) H
theorem ok_has_form {d : Addr} (B : Bt mg) (F : Forms K w mg d) (C_is_whole : Cal P w K mg base 1 "is_whole" ["thing"] (spWhole K)) (C_many_numbers : Cal P w K mg base 1 "many_numbers" ["word"] (spMN)) (C_many_parts : Cal P w K mg base 1 "many_parts" ["word"] (spMP)) (D : DefAt K mg "has_form" s_has_form ["thing"]) : Cal P w K mg base 2 "has_form" ["thing"] (spHF K) := by
  refine cal_of D sc_has_form (fun vs H Q E h => ?_) (fun f cdv A outer s H vs Q E hr h => ?_)
  · obtain ⟨v, p, rfl, _⟩ := h
    rfl
  obtain ⟨v, p, rfl, hv, q⟩ := h
  have hFORMS := F.g
  obtain ⟨es, n, kd⟩ := F.k
  have hr' : Room 1 _ := hr
  refine ⟨_, (pss_cons (ps_if (PW.pt (pw_or (pt_not (pt_val (pe_callB call_isi (by rfl) B.isinstance (by decide +kernel) (pa_cons (pv 0) (pa_cons (pe_bltn (v := .ty "tuple") (by rfl) B.tuple PyProof.Rows.boot_tuple rfl) pa_nil))))) (pw_or (pt_cmpR op_eq (pe_callB call_len_seq (by rfl) B.len PySem.boot_len (pa_cons (pv 0) pa_nil)) pe_int (nomark _)) (pw_or1 (pt_not (pt_val (pe_callB call_isi (by rfl) B.isinstance (by decide +kernel) (pa_cons (pe_ix ix_tup (pv 0) pe_int (fun _ _ => rfl)) (pa_cons (pe_bltn (v := .ty "str") (by rfl) B.str PyProof.Rows.boot_str rfl) pa_nil)))))))))
        (pss_one (ps_ret pe_bl))
        pss_nil)
      (pss_cons (ps_set (i := 1) sc_has_form.nd rfl (.inl rfl) (pe_ix ix_tup (pv 0) pe_int (fun _ _ => rfl)))
      (pss_cons (ps_if (PW.pt (pw_or (pt_cmpR (op_notIn_kd kd) (pv 1) (pe_gr (by rfl) hFORMS) rfl) (pw_or1 (pt_cmpR op_ne (pe_callB call_len_seq (by rfl) B.len PySem.boot_len (pa_cons (pv 0) pa_nil)) (pe_op op_add (pe_op op_add pe_int (pe_cal C_many_numbers hr' (by rfl) (pa_cons (pv 1) pa_nil))) (pe_cal C_many_parts hr' (by rfl) (pa_cons (pv 1) pa_nil))) (nomark _)))))
        (pss_one (ps_ret pe_bl))
        pss_nil)
      (pss_one (ps_ret (pe_or (pe_cmpR op_eq (pe_cal C_many_numbers hr' (by rfl) (pa_cons (pv 1) pa_nil)) pe_int (nomark _)) (pe_one (pe_cal C_is_whole hr' (by rfl) (pa_cons (pe_ix ix_tup (pv 0) pe_int (fun _ _ => rfl)) pa_nil))))))))), ?_⟩
  obtain ⟨a, vs, rfl, ha, hvs⟩ := hv.open
  obtain ⟨t, u, e, _, _⟩ := F.e p
  have hl : (front p ++ vs).length = 1 + nn p + (parts p).length := by rw [List.length_append, front_len, hvs.len]
  refine ⟨_, rfl, _, _, _, _, _, rfl, .ty _, tyx_tup ha, kTT, _, rfl, ?_⟩
  refine ⟨_, rfl, a, _, rfl, .inr ha, rfl, _, rfl, ite2 (fun z => ?_) (fun _ => ?_)⟩
  · have z' : V.int (((front p ++ vs).length : Nat) : Int) = V.int 0 := of_decide_eq_true z
    have z2 := V.int.inj z'
    omega
  refine ⟨_, rfl, a, _, 0, _, rfl, rfl, ha, at_word p vs, _, _, _, _, _, rfl, .ty _, .base (.str _), kSS, _, rfl, ?_⟩
  refine ⟨_, rfl, a, _, 0, _, rfl, rfl, ha, at_word p vs, ?_⟩
  refine ⟨_, rfl, word p, _, rfl, rfl, e, _, rfl, ?_⟩
  refine ⟨_, rfl, a, _, rfl, .inr ha, _, rfl, p, rfl, _, _, rfl, rfl, _, rfl, p, rfl, _, _, rfl, rfl, rfl, _, rfl, iteNS ?_ ?_⟩
  · rw [hl]
    exact congrArg V.int (by omega)
  refine ⟨_, rfl, p, rfl, rfl, _, rfl, ite2 (fun _ => q) (fun z => ?_)⟩
  have hn : nn p ≠ 0 := fun y => z (decide_eq_true (by rw [y]; rfl))
  obtain ⟨i, ei⟩ := at_num p vs hn
  exact ⟨_, rfl, a, _, 1, _, rfl, rfl, ha, ei, .int i, .int i, rfl, ⟨rfl, .int i⟩, q⟩
theorem cut_from (n : Nat) (xs ys : List V) (h : xs.length = n) : cutV (xs ++ ys) (some (n : Int)) none = ys := by
  unfold cutV
  rw [show HT.sIx (xs ++ ys).length 0 (some (n : Int)) = min n (xs ++ ys).length from HT.sIx_nat _ 0 n, HT.sIx_none]
  have e : min n (xs ++ ys).length = n := by rw [List.length_append]; omega
  rw [e, ← h, List.drop_left, List.length_append, Nat.add_sub_cancel_left, List.take_length]
abbrev s_parts_of : Stmt := topS 26
theorem sc_parts_of : FnScope ["knot"] ["knot"] (defScope s_parts_of) := ⟨rfl, rfl, rfl, by decide +kernel, rfl, by decide +kernel, by decide +kernel⟩
def spPO (K : PySem.W.Frag) : Sp := fun vs H Q _ => ∃ (v : V) (p : Pg), vs = [v] ∧ At K H v p ∧ ∀ (t : Addr) (us : List V), H t = none → Ats K H us (parts p) → Q (.ref t) (upd H t (.tup us))
theorem ok_parts_of (C_many_numbers : Cal P w K mg base 1 "many_numbers" ["word"] (spMN)) (D : DefAt K mg "parts_of" s_parts_of ["knot"]) : Cal P w K mg base 2 "parts_of" ["knot"] (spPO K) := by
  refine cal_of D sc_parts_of (fun vs H Q E h => ?_) (fun f cdv A outer s H vs Q E hr h => ?_)
  · obtain ⟨v, p, rfl, _⟩ := h
    rfl
  obtain ⟨v, p, rfl, hv, q⟩ := h
  have hr' : Room 1 _ := hr
  refine ⟨_, (pss_one (ps_ret (pe_slice sl_tup (pv 0) (po_some (pe_op op_add pe_int (pe_cal C_many_numbers hr' (by rfl) (pa_cons (pe_ix ix_tup (pv 0) pe_int (fun _ _ => rfl)) pa_nil)))) po_none))), ?_⟩
  obtain ⟨a, vs, rfl, ha, hvs⟩ := hv.open
  have e1 : (1 : Int) + (nn p : Int) = ((1 + nn p : Nat) : Int) := by omega
  refine ⟨_, rfl, _, rfl, a, _, 0, _, rfl, rfl, ha, at_word p vs, p, rfl, _, _, rfl, rfl, _, rfl, a, _, rfl, ha, ?_, fun t ht => ?_⟩
  · rintro ⟨z, _⟩
    rw [e1, show HT.sIx (front p ++ vs).length 0 (some ((1 + nn p : Nat) : Int)) = min (1 + nn p) (front p ++ vs).length from HT.sIx_nat _ 0 _, List.length_append, front_len] at z
    omega
  · rw [e1, cut_from _ _ _ (front_len p)]
    exact q t vs ht hvs
end
end Lm

set_option Elab.async false
set_option linter.all false
set_option maxRecDepth 100000
set_option maxHeartbeats 2000000
namespace Lm
open PySem PySem.Spec PyProof.Rows L2 LmR
/-! ### forests -/
def knf (fs : List Pg) : List Pg := fs.flatMap kn
theorem knf_cons (q : Pg) (fs : List Pg) : knf (q :: fs) = q :: knf (parts q ++ fs) := by
  unfold knf
  rw [List.flatMap_cons, kn_eq, List.flatMap_append, List.cons_append]
theorem knf_one (p : Pg) : knf [p] = kn p := by simp [knf]
theorem knf_drop : ∀ (j : Nat) (fs : List Pg), ∃ gs, (knf fs).drop j = knf gs
  | 0, fs => ⟨fs, rfl⟩
  | j + 1, [] => ⟨[], by simp [knf]⟩
  | j + 1, q :: fs => by
    rw [knf_cons, List.drop_succ_cons]
    exact knf_drop j _
theorem knf_inj : ∀ (n : Nat) (fs gs : List Pg), (knf fs).length ≤ n → knf fs = knf gs → fs = gs
  | n, [], [], _, _ => rfl
  | n, [], q :: gs, _, h => by rw [knf_cons] at h; simp [knf] at h
  | n, q :: fs, [], _, h => by rw [knf_cons] at h; simp [knf] at h
  | 0, q :: fs, r :: gs, l, _ => by rw [knf_cons] at l; simp at l
  | n + 1, q :: fs, r :: gs, l, h => by
    rw [knf_cons, knf_cons] at h
    rw [knf_cons, List.length_cons] at l
    obtain ⟨rfl, h⟩ := List.cons.inj h
    have e := knf_inj n _ _ (by omega) h
    rw [List.append_cancel_left e]
/-- one knot more from the end -/
theorem knf_step {p : Pg} {j : Nat} {x : Pg} {fs : List Pg} (hx : (kn p)[j]? = some x) (hf : (kn p).drop (j + 1) = knf fs) : ∃ rest, fs = parts x ++ rest ∧ (kn p).drop j = knf (x :: rest) := by
  obtain ⟨gs, hg⟩ := knf_drop j [p]
  rw [knf_one] at hg
  obtain ⟨hj, ex⟩ := List.getElem?_eq_some_iff.mp hx
  have e : (kn p).drop j = x :: (kn p).drop (j + 1) := by rw [List.drop_eq_getElem_cons hj, ex]
  rw [e, hf] at hg
  cases gs with
  | nil => simp [knf] at hg
  | cons q rest =>
    rw [knf_cons] at hg
    obtain ⟨rfl, h⟩ := List.cons.inj hg
    refine ⟨rest, knf_inj _ _ _ (Nat.le_refl _) h, ?_⟩
    rw [e, hf, knf_cons, h]
/-! ### which word it is -/
theorem word_in {p : Pg} (h : V.str (word p) = V.str "in") : ∃ k, p = .inp k := by
  cases p with
  | inp k => exact ⟨k, rfl⟩
  | tr b => cases b <;> first | exact absurd h (show ¬ V.str ("num" : Str) = V.str "in" by decide +kernel) | exact absurd h (show ¬ V.str ("yes" : Str) = V.str "in" by decide +kernel) | exact absurd h (show ¬ V.str ("no" : Str) = V.str "in" by decide +kernel) | exact absurd h (show ¬ V.str ("plus" : Str) = V.str "in" by decide +kernel) | exact absurd h (show ¬ V.str ("least" : Str) = V.str "in" by decide +kernel) | exact absurd h (show ¬ V.str ("most" : Str) = V.str "in" by decide +kernel) | exact absurd h (show ¬ V.str ("atmost" : Str) = V.str "in" by decide +kernel) | exact absurd h (show ¬ V.str ("both" : Str) = V.str "in" by decide +kernel) | exact absurd h (show ¬ V.str ("either" : Str) = V.str "in" by decide +kernel) | exact absurd h (show ¬ V.str ("not" : Str) = V.str "in" by decide +kernel) | exact absurd h (show ¬ V.str ("if" : Str) = V.str "in" by decide +kernel)
  | bin w a b => cases w <;> first | exact absurd h (show ¬ V.str ("num" : Str) = V.str "in" by decide +kernel) | exact absurd h (show ¬ V.str ("yes" : Str) = V.str "in" by decide +kernel) | exact absurd h (show ¬ V.str ("no" : Str) = V.str "in" by decide +kernel) | exact absurd h (show ¬ V.str ("plus" : Str) = V.str "in" by decide +kernel) | exact absurd h (show ¬ V.str ("least" : Str) = V.str "in" by decide +kernel) | exact absurd h (show ¬ V.str ("most" : Str) = V.str "in" by decide +kernel) | exact absurd h (show ¬ V.str ("atmost" : Str) = V.str "in" by decide +kernel) | exact absurd h (show ¬ V.str ("both" : Str) = V.str "in" by decide +kernel) | exact absurd h (show ¬ V.str ("either" : Str) = V.str "in" by decide +kernel) | exact absurd h (show ¬ V.str ("not" : Str) = V.str "in" by decide +kernel) | exact absurd h (show ¬ V.str ("if" : Str) = V.str "in" by decide +kernel)
  | _ => first | exact absurd h (show ¬ V.str ("num" : Str) = V.str "in" by decide +kernel) | exact absurd h (show ¬ V.str ("yes" : Str) = V.str "in" by decide +kernel) | exact absurd h (show ¬ V.str ("no" : Str) = V.str "in" by decide +kernel) | exact absurd h (show ¬ V.str ("plus" : Str) = V.str "in" by decide +kernel) | exact absurd h (show ¬ V.str ("least" : Str) = V.str "in" by decide +kernel) | exact absurd h (show ¬ V.str ("most" : Str) = V.str "in" by decide +kernel) | exact absurd h (show ¬ V.str ("atmost" : Str) = V.str "in" by decide +kernel) | exact absurd h (show ¬ V.str ("both" : Str) = V.str "in" by decide +kernel) | exact absurd h (show ¬ V.str ("either" : Str) = V.str "in" by decide +kernel) | exact absurd h (show ¬ V.str ("not" : Str) = V.str "in" by decide +kernel) | exact absurd h (show ¬ V.str ("if" : Str) = V.str "in" by decide +kernel)
theorem word_if {p : Pg} (h : V.str (word p) = V.str "if") : ∃ q a b, p = .ite q a b := by
  cases p with
  | ite q a b => exact ⟨q, a, b, rfl⟩
  | tr b => cases b <;> first | exact absurd h (show ¬ V.str ("in" : Str) = V.str "if" by decide +kernel) | exact absurd h (show ¬ V.str ("num" : Str) = V.str "if" by decide +kernel) | exact absurd h (show ¬ V.str ("yes" : Str) = V.str "if" by decide +kernel) | exact absurd h (show ¬ V.str ("no" : Str) = V.str "if" by decide +kernel) | exact absurd h (show ¬ V.str ("plus" : Str) = V.str "if" by decide +kernel) | exact absurd h (show ¬ V.str ("least" : Str) = V.str "if" by decide +kernel) | exact absurd h (show ¬ V.str ("most" : Str) = V.str "if" by decide +kernel) | exact absurd h (show ¬ V.str ("atmost" : Str) = V.str "if" by decide +kernel) | exact absurd h (show ¬ V.str ("both" : Str) = V.str "if" by decide +kernel) | exact absurd h (show ¬ V.str ("either" : Str) = V.str "if" by decide +kernel) | exact absurd h (show ¬ V.str ("not" : Str) = V.str "if" by decide +kernel)
  | bin w a b => cases w <;> first | exact absurd h (show ¬ V.str ("in" : Str) = V.str "if" by decide +kernel) | exact absurd h (show ¬ V.str ("num" : Str) = V.str "if" by decide +kernel) | exact absurd h (show ¬ V.str ("yes" : Str) = V.str "if" by decide +kernel) | exact absurd h (show ¬ V.str ("no" : Str) = V.str "if" by decide +kernel) | exact absurd h (show ¬ V.str ("plus" : Str) = V.str "if" by decide +kernel) | exact absurd h (show ¬ V.str ("least" : Str) = V.str "if" by decide +kernel) | exact absurd h (show ¬ V.str ("most" : Str) = V.str "if" by decide +kernel) | exact absurd h (show ¬ V.str ("atmost" : Str) = V.str "if" by decide +kernel) | exact absurd h (show ¬ V.str ("both" : Str) = V.str "if" by decide +kernel) | exact absurd h (show ¬ V.str ("either" : Str) = V.str "if" by decide +kernel) | exact absurd h (show ¬ V.str ("not" : Str) = V.str "if" by decide +kernel)
  | _ => first | exact absurd h (show ¬ V.str ("in" : Str) = V.str "if" by decide +kernel) | exact absurd h (show ¬ V.str ("num" : Str) = V.str "if" by decide +kernel) | exact absurd h (show ¬ V.str ("yes" : Str) = V.str "if" by decide +kernel) | exact absurd h (show ¬ V.str ("no" : Str) = V.str "if" by decide +kernel) | exact absurd h (show ¬ V.str ("plus" : Str) = V.str "if" by decide +kernel) | exact absurd h (show ¬ V.str ("least" : Str) = V.str "if" by decide +kernel) | exact absurd h (show ¬ V.str ("most" : Str) = V.str "if" by decide +kernel) | exact absurd h (show ¬ V.str ("atmost" : Str) = V.str "if" by decide +kernel) | exact absurd h (show ¬ V.str ("both" : Str) = V.str "if" by decide +kernel) | exact absurd h (show ¬ V.str ("either" : Str) = V.str "if" by decide +kernel) | exact absurd h (show ¬ V.str ("not" : Str) = V.str "if" by decide +kernel)
theorem word_plus {p : Pg} (h : V.str (word p) = V.str "plus") : ∃ c a, p = .plus c a := by
  cases p with
  | plus c a => exact ⟨c, a, rfl⟩
  | tr b => cases b <;> first | exact absurd h (show ¬ V.str ("in" : Str) = V.str "plus" by decide +kernel) | exact absurd h (show ¬ V.str ("num" : Str) = V.str "plus" by decide +kernel) | exact absurd h (show ¬ V.str ("yes" : Str) = V.str "plus" by decide +kernel) | exact absurd h (show ¬ V.str ("no" : Str) = V.str "plus" by decide +kernel) | exact absurd h (show ¬ V.str ("least" : Str) = V.str "plus" by decide +kernel) | exact absurd h (show ¬ V.str ("most" : Str) = V.str "plus" by decide +kernel) | exact absurd h (show ¬ V.str ("atmost" : Str) = V.str "plus" by decide +kernel) | exact absurd h (show ¬ V.str ("both" : Str) = V.str "plus" by decide +kernel) | exact absurd h (show ¬ V.str ("either" : Str) = V.str "plus" by decide +kernel) | exact absurd h (show ¬ V.str ("not" : Str) = V.str "plus" by decide +kernel) | exact absurd h (show ¬ V.str ("if" : Str) = V.str "plus" by decide +kernel)
  | bin w a b => cases w <;> first | exact absurd h (show ¬ V.str ("in" : Str) = V.str "plus" by decide +kernel) | exact absurd h (show ¬ V.str ("num" : Str) = V.str "plus" by decide +kernel) | exact absurd h (show ¬ V.str ("yes" : Str) = V.str "plus" by decide +kernel) | exact absurd h (show ¬ V.str ("no" : Str) = V.str "plus" by decide +kernel) | exact absurd h (show ¬ V.str ("least" : Str) = V.str "plus" by decide +kernel) | exact absurd h (show ¬ V.str ("most" : Str) = V.str "plus" by decide +kernel) | exact absurd h (show ¬ V.str ("atmost" : Str) = V.str "plus" by decide +kernel) | exact absurd h (show ¬ V.str ("both" : Str) = V.str "plus" by decide +kernel) | exact absurd h (show ¬ V.str ("either" : Str) = V.str "plus" by decide +kernel) | exact absurd h (show ¬ V.str ("not" : Str) = V.str "plus" by decide +kernel) | exact absurd h (show ¬ V.str ("if" : Str) = V.str "plus" by decide +kernel)
  | _ => first | exact absurd h (show ¬ V.str ("in" : Str) = V.str "plus" by decide +kernel) | exact absurd h (show ¬ V.str ("num" : Str) = V.str "plus" by decide +kernel) | exact absurd h (show ¬ V.str ("yes" : Str) = V.str "plus" by decide +kernel) | exact absurd h (show ¬ V.str ("no" : Str) = V.str "plus" by decide +kernel) | exact absurd h (show ¬ V.str ("least" : Str) = V.str "plus" by decide +kernel) | exact absurd h (show ¬ V.str ("most" : Str) = V.str "plus" by decide +kernel) | exact absurd h (show ¬ V.str ("atmost" : Str) = V.str "plus" by decide +kernel) | exact absurd h (show ¬ V.str ("both" : Str) = V.str "plus" by decide +kernel) | exact absurd h (show ¬ V.str ("either" : Str) = V.str "plus" by decide +kernel) | exact absurd h (show ¬ V.str ("not" : Str) = V.str "plus" by decide +kernel) | exact absurd h (show ¬ V.str ("if" : Str) = V.str "plus" by decide +kernel)
theorem word_num {p : Pg} (h : V.str (word p) = V.str "num") : ∃ c, p = .num c := by
  cases p with
  | num c => exact ⟨c, rfl⟩
  | tr b => cases b <;> first | exact absurd h (show ¬ V.str ("in" : Str) = V.str "num" by decide +kernel) | exact absurd h (show ¬ V.str ("yes" : Str) = V.str "num" by decide +kernel) | exact absurd h (show ¬ V.str ("no" : Str) = V.str "num" by decide +kernel) | exact absurd h (show ¬ V.str ("plus" : Str) = V.str "num" by decide +kernel) | exact absurd h (show ¬ V.str ("least" : Str) = V.str "num" by decide +kernel) | exact absurd h (show ¬ V.str ("most" : Str) = V.str "num" by decide +kernel) | exact absurd h (show ¬ V.str ("atmost" : Str) = V.str "num" by decide +kernel) | exact absurd h (show ¬ V.str ("both" : Str) = V.str "num" by decide +kernel) | exact absurd h (show ¬ V.str ("either" : Str) = V.str "num" by decide +kernel) | exact absurd h (show ¬ V.str ("not" : Str) = V.str "num" by decide +kernel) | exact absurd h (show ¬ V.str ("if" : Str) = V.str "num" by decide +kernel)
  | bin w a b => cases w <;> first | exact absurd h (show ¬ V.str ("in" : Str) = V.str "num" by decide +kernel) | exact absurd h (show ¬ V.str ("yes" : Str) = V.str "num" by decide +kernel) | exact absurd h (show ¬ V.str ("no" : Str) = V.str "num" by decide +kernel) | exact absurd h (show ¬ V.str ("plus" : Str) = V.str "num" by decide +kernel) | exact absurd h (show ¬ V.str ("least" : Str) = V.str "num" by decide +kernel) | exact absurd h (show ¬ V.str ("most" : Str) = V.str "num" by decide +kernel) | exact absurd h (show ¬ V.str ("atmost" : Str) = V.str "num" by decide +kernel) | exact absurd h (show ¬ V.str ("both" : Str) = V.str "num" by decide +kernel) | exact absurd h (show ¬ V.str ("either" : Str) = V.str "num" by decide +kernel) | exact absurd h (show ¬ V.str ("not" : Str) = V.str "num" by decide +kernel) | exact absurd h (show ¬ V.str ("if" : Str) = V.str "num" by decide +kernel)
  | _ => first | exact absurd h (show ¬ V.str ("in" : Str) = V.str "num" by decide +kernel) | exact absurd h (show ¬ V.str ("yes" : Str) = V.str "num" by decide +kernel) | exact absurd h (show ¬ V.str ("no" : Str) = V.str "num" by decide +kernel) | exact absurd h (show ¬ V.str ("plus" : Str) = V.str "num" by decide +kernel) | exact absurd h (show ¬ V.str ("least" : Str) = V.str "num" by decide +kernel) | exact absurd h (show ¬ V.str ("most" : Str) = V.str "num" by decide +kernel) | exact absurd h (show ¬ V.str ("atmost" : Str) = V.str "num" by decide +kernel) | exact absurd h (show ¬ V.str ("both" : Str) = V.str "num" by decide +kernel) | exact absurd h (show ¬ V.str ("either" : Str) = V.str "num" by decide +kernel) | exact absurd h (show ¬ V.str ("not" : Str) = V.str "num" by decide +kernel) | exact absurd h (show ¬ V.str ("if" : Str) = V.str "num" by decide +kernel)
section
variable {P : Program} {w : World} {K : PySem.W.Frag} {mg : Str → Option Value} {base : Heap}
abbrev s_refuse_forms : Stmt := topS 28
theorem sc_refuse_forms : FnScope ["every", "at", "knot"] ["every"] (defScope s_refuse_forms) := ⟨rfl, rfl, rfl, by decide +kernel, rfl, by decide +kernel, by decide +kernel⟩
def spRF (K : PySem.W.Frag) : Sp := fun vs H Q _ => ∃ (l : Addr) (us : List V) (ps : List Pg), vs = [.ref l] ∧ H l = some (.lst us) ∧ Ats K H us ps ∧ ∀ H', Same H H' → Q .non H'
theorem ok_refuse_forms (B : Bt mg) (C_has_form : Cal P w K mg base 2 "has_form" ["thing"] (spHF K)) (D : DefAt K mg "refuse_forms" s_refuse_forms ["every"]) : Cal P w K mg base 3 "refuse_forms" ["every"] (spRF K) := by
  refine cal_of D sc_refuse_forms (fun vs H Q E h => ?_) (fun f cdv A outer s H vs Q E hr h => ?_)
  · obtain ⟨l, us, ps, rfl, _⟩ := h
    rfl
  obtain ⟨l, us, ps, rfl, hL, ha, q⟩ := h
  have hr' : Room 2 _ := hr
  refine ⟨_, (pss_one (ps_for PassesOwn.never rfl (pi_enum (by rfl) B.enumerate (pa_cons (pv 0) pa_nil)) (pg_tup rfl (pgs_cons (pg_name (i := 1) sc_refuse_forms.nd rfl (.inl rfl)) (pgs_cons (pg_name (i := 2) sc_refuse_forms.nd rfl (.inl rfl)) pgs_nil)))
        (pss_one (ps_if (pt_not (pt_val (pe_cal C_has_form hr' (by rfl) (pa_cons (pv 2) pa_nil))))
        (pss_one ps_never)
        pss_nil)))), ?_⟩
  refine ⟨_, rfl, l, _, rfl, SqL.of hL, for_enum (K := K) (a := l) (xs := us) (fun i σ' H' => ∃ y1 y2 : Option V, σ' = [some (.ref l), y1, y2] ∧ Same H H') ⟨none, none, rfl, Same.refl _⟩ ?_ ?_ ?_⟩
  · rintro i σ' H' ⟨y1, y2, rfl, sm⟩
    exact SqL.of (sm _ _ hL)
  · rintro i x T σ' H' hx ⟨y1, y2, rfl, sm⟩ hT
    obtain ⟨p, _, hp⟩ := ha.get i x hx
    have sT := sm.trans (same_new (o := .tup [.int (i : Nat), x]) hT)
    refine ⟨T, _, rfl, .inl (.inl upd_same), rfl, _, _, rfl, _, [], rfl, rfl, ?_⟩
    exact ⟨_, rfl, x, p, rfl, hp.keep (Tp.same sT), _, rfl, _, _, rfl, sT⟩
  · rintro σ' H' ⟨y1, y2, rfl, sm⟩
    exact q H' sm
abbrev s_refuse_inputs : Stmt := topS 29
theorem sc_refuse_inputs : FnScope ["every", "many", "at", "knot"] ["every", "many"] (defScope s_refuse_inputs) := ⟨rfl, rfl, rfl, by decide +kernel, rfl, by decide +kernel, by decide +kernel⟩
def spRI (K : PySem.W.Frag) : Sp := fun vs H Q _ => ∃ (l : Addr) (us : List V) (ps : List Pg) (ks : List Bool), vs = [.ref l, .int (ks.length : Nat)] ∧ H l = some (.lst us) ∧ Ats K H us ps ∧ (∀ p ∈ ps, Wk ks p) ∧ ∀ H', Same H H' → Q .non H'
theorem ok_refuse_inputs (B : Bt mg) (D : DefAt K mg "refuse_inputs" s_refuse_inputs ["every", "many"]) : Cal P w K mg base 1 "refuse_inputs" ["every", "many"] (spRI K) := by
  refine cal_of D sc_refuse_inputs (fun vs H Q E h => ?_) (fun f cdv A outer s H vs Q E hr h => ?_)
  · obtain ⟨l, us, ps, ks, rfl, _⟩ := h
    rfl
  obtain ⟨l, us, ps, ks, rfl, hL, ha, hw, q⟩ := h
  refine ⟨_, (pss_one (ps_for PassesOwn.never rfl (pi_enum (by rfl) B.enumerate (pa_cons (pv 0) pa_nil)) (pg_tup rfl (pgs_cons (pg_name (i := 2) sc_refuse_inputs.nd rfl (.inl rfl)) (pgs_cons (pg_name (i := 3) sc_refuse_inputs.nd rfl (.inl rfl)) pgs_nil)))
        (pss_one (ps_if (PW.pt (pw_and (pt_cmpR op_eq (pe_ix ix_tup (pv 3) pe_int (fun _ _ => rfl)) pe_str (nomark _)) (pw_and1 (pt_not (pt_chain op_le op_lt pe_int (pe_ix ix_tup (pv 3) pe_int (fun _ _ => rfl)) (pv 1))))))
        (pss_one ps_never)
        pss_nil)))), ?_⟩
  refine ⟨_, rfl, l, _, rfl, SqL.of hL, for_enum (K := K) (a := l) (xs := us) (fun i σ' H' => ∃ y1 y2 : Option V, σ' = [some (.ref l), some (.int (ks.length : Nat)), y1, y2] ∧ Same H H') ⟨none, none, rfl, Same.refl _⟩ ?_ ?_ ?_⟩
  · rintro i σ' H' ⟨y1, y2, rfl, sm⟩
    exact SqL.of (sm _ _ hL)
  · rintro i x T σ' H' hx ⟨y1, y2, rfl, sm⟩ hT
    obtain ⟨p, hpi, hp⟩ := ha.get i x hx
    have hwp := hw p (List.mem_of_getElem? hpi)
    have sT := sm.trans (same_new (o := .tup [.int (i : Nat), x]) hT)
    refine ⟨T, _, rfl, .inl (.inl upd_same), rfl, _, _, rfl, _, [], rfl, rfl, ?_⟩
    obtain ⟨a, vs, rfl, hA, hvs⟩ := (hp.keep (Tp.same sT)).open
    refine ⟨_, rfl, a, _, 0, _, rfl, rfl, hA, at_word p vs, rfl, _, rfl, ite2 (fun z => ?_) (fun z => ?_)⟩
    · have z' : V.str (word p) = V.str "in" := of_decide_eq_true z
      obtain ⟨k, rfl⟩ := word_in z'
      have hk : k < ks.length := hwp
      refine ⟨_, rfl, a, _, 1, .int k, rfl, rfl, hA, at_of (j := 1) rfl rfl, _, _, rfl, rfl, _, rfl, ite2 (fun _ => ?_) (fun y => ?_)⟩
      · refine ⟨_, rfl, _, _, rfl, rfl, _, rfl, ite2 (fun y => ?_) (fun y => ?_)⟩
        · have : decide ((k : Int) < ((ks.length : Nat) : Int)) = true := decide_eq_true (by omega)
          rw [this] at y
          cases y
        · exact ⟨_, _, rfl, sT⟩
      · exact absurd (decide_eq_true (by omega)) y
    · exact ⟨_, _, rfl, sT⟩
  · rintro σ' H' ⟨y1, y2, rfl, sm⟩
    exact q H' sm
end
end Lm

set_option Elab.async false
set_option linter.all false
set_option maxRecDepth 100000
set_option maxHeartbeats 2000000
namespace Lm
open PySem PySem.Spec PyProof.Rows L2 LmR
def kD (b : Bool) : PyData := .str (kS b)
theorem sh0 : SeqAt.shaped (.tuple []) = true := by decide +kernel
theorem sh1 (a : Bool) : SeqAt.shaped (.tuple [kD a]) = true := by revert a; decide +kernel
theorem sh2 (a b : Bool) : SeqAt.shaped (.tuple [kD a, kD b]) = true := by revert a b; decide +kernel
theorem sh3 (a b c : Bool) : SeqAt.shaped (.tuple [kD a, kD b, kD c]) = true := by revert a b c; decide +kernel
theorem eqv_sh {d : PyData} (h : SeqAt.shaped d = true) : PyData.eqv d d = true := by
  unfold SeqAt.shaped at h
  rw [Bool.and_eq_true] at h
  exact SeqAt.eqv_refl d h.1
/-- the kinds of some programs -/
def kids (ks : List Bool) (ps : List Pg) : List V := ps.map fun p => V.str (kS (own ks p))
section
variable {P : Program} {w : World} {K : PySem.W.Frag} {mg : Str → Option Value} {base : Heap}
abbrev s_parts_fit : Stmt := topS 30
theorem sc_parts_fit : FnScope ["word", "told", "due"] ["word", "told"] (defScope s_parts_fit) := ⟨rfl, rfl, rfl, by decide +kernel, rfl, by decide +kernel, by decide +kernel⟩
def spPF (K : PySem.W.Frag) : Sp := fun vs H Q _ => ∃ (p : Pg) (ks : List Bool) (t : Addr), vs = [.str (word p), .ref t] ∧ SqT K H t (kids ks (parts p)) ∧ Wk ks p ∧ ∀ H', Same H H' → Q (.bl true) H'
theorem ok_parts_fit {d : Addr} (F : Forms K w mg d) (D : DefAt K mg "parts_fit" s_parts_fit ["word", "told"]) : Cal P w K mg base 1 "parts_fit" ["word", "told"] (spPF K) := by
  refine cal_of D sc_parts_fit (fun vs H Q E h => ?_) (fun f cdv A outer s H vs Q E hr h => ?_)
  · obtain ⟨p, ks, t, rfl, _⟩ := h
    rfl
  obtain ⟨p, ks, t, rfl, ht, hw, q⟩ := h
  have hFORMS := F.g
  refine ⟨_, (pss_cons (ps_set (i := 2) sc_parts_fit.nd rfl (.inl rfl) (pe_ix ix_tup (pe_ix ix_kdict (pe_gr (by rfl) hFORMS) (pv 0) (fun _ _ => rfl)) pe_int (fun _ _ => rfl)))
      (pss_cons (ps_if (pt_cmpR op_eq (pv 0) pe_str (nomark _))
        (pss_one (ps_ret (pe_cmpR (op_eqD hr.units) (pv 1) (pe_tup (pa_cons (pe_ix ix_tup (pv 2) pe_int (fun _ _ => rfl)) (pa_cons (pe_ix ix_tup (pv 1) pe_int (fun _ _ => rfl)) (pa_cons (pe_ix ix_tup (pv 1) pe_int (fun _ _ => rfl)) pa_nil)))) (nomark _))))
        pss_nil)
      (pss_one (ps_ret (pe_cmpR (op_eqD hr.units) (pv 1) (pv 2) (nomark _)))))), ?_⟩
  obtain ⟨ft, fu, e, fa, fb⟩ := F.at p
  refine ⟨_, rfl, d, word p, .ref ft, rfl, rfl, e, ft, _, 1, .ref fu, rfl, rfl, fa.sq _, rfl, ?_⟩
  refine ⟨_, rfl, rfl, _, rfl, ite2 (fun z => ?_) (fun z => ?_)⟩
  · have z' : V.str (word p) = V.str "if" := of_decide_eq_true z
    obtain ⟨r, x, y, rfl⟩ := word_if z'
    obtain ⟨_, _, _, h1, h2⟩ := hw
    refine ⟨_, rfl, _, rfl, fu, _, 0, _, rfl, rfl, fb.sq _, rfl, _, rfl, t, _, 1, _, rfl, rfl, ht, rfl, _, rfl, t, _, 1, _, rfl, rfl, ht, rfl, (by show 3 ≤ sizeLine; decide), fun n hn => ?_⟩
    have sn : Same H (upd H n (.tup [.str (kS true), .str (kS (own ks x)), .str (kS (own ks x))])) := same_new hn
    refine ⟨.tuple [kD true, kD (own ks x), kD (own ks x)], .tuple [kD true, kD (own ks x), kD (own ks x)], ?_, .tup (.inl (.inl upd_same)) (.cons (.str _) (.cons (.str _) (.cons (.str _) .nil))), sh3 _ _ _, sh3 _ _ _, ?_⟩
    · have e2 : kids ks (parts (.ite r x y)) = [.str (kS true), .str (kS (own ks x)), .str (kS (own ks x))] := by
        show [V.str (kS (own ks r)), V.str (kS (own ks x)), V.str (kS (own ks y))] = _
        rw [h1, h2]
      rw [e2] at ht
      exact .tup (Tp.same sn _ _ ht) (.cons (.str _) (.cons (.str _) (.cons (.str _) .nil)))
    · rw [eqv_sh (sh3 _ _ _)]
      exact q _ sn
  · have fin : ∀ ds : List PyData, DpAll K H (kids ks (parts p)) ds → DpAll K H (due p) ds → SeqAt.shaped (.tuple ds) = true → ∃ d e, Dp K H (.ref t) d ∧ Dp K H (.ref fu) e ∧ SeqAt.shaped d = true ∧ SeqAt.shaped e = true ∧ Q (.bl (PyData.eqv d e)) H := fun ds h1 h2 h3 => ⟨_, _, .tup ht h1, .tup (fb.sq _) h2, h3, h3, by rw [eqv_sh h3]; exact q _ (Same.refl _)⟩
    refine ⟨_, rfl, _, rfl, ?_⟩
    cases p with
    | inp k => exact fin [] .nil .nil sh0
    | num k => exact fin [] .nil .nil sh0
    | tr k => exact fin [] .nil .nil sh0
    | plus c a =>
      obtain ⟨_, h⟩ := hw
      refine fin [kD false] ?_ (.cons (.str _) .nil) (sh1 _)
      show DpAll K H [V.str (kS (own ks a))] _
      rw [h]
      exact .cons (.str _) .nil
    | bin w a b =>
      obtain ⟨_, _, h1, h2⟩ := hw
      refine fin [kD w.arg, kD w.arg] ?_ (.cons (.str _) (.cons (.str _) .nil)) (sh2 _ _)
      show DpAll K H [V.str (kS (own ks a)), V.str (kS (own ks b))] _
      rw [h1, h2]
      exact .cons (.str _) (.cons (.str _) .nil)
    | neg a =>
      obtain ⟨_, h⟩ := hw
      refine fin [kD true] ?_ (.cons (.str _) .nil) (sh1 _)
      show DpAll K H [V.str (kS (own ks a))] _
      rw [h]
      exact .cons (.str _) .nil
    | ite r x y => exact absurd (decide_eq_true rfl) z
abbrev s_own_kind : Stmt := topS 31
theorem sc_own_kind : FnScope ["kinds", "knot", "told"] ["kinds", "knot", "told"] (defScope s_own_kind) := ⟨rfl, rfl, rfl, by decide +kernel, rfl, by decide +kernel, by decide +kernel⟩
def spOK (K : PySem.W.Frag) : Sp := fun vs H Q _ => ∃ (p : Pg) (ks : List Bool) (ka t : Addr) (v : V), vs = [.ref ka, v, .ref t] ∧ SqT K H ka (kVs ks) ∧ At K H v p ∧ SqT K H t (kids ks (parts p)) ∧ Wk ks p ∧ Q (.str (kS (own ks p))) H
theorem ok_own_kind {d : Addr} (F : Forms K w mg d) (D : DefAt K mg "own_kind" s_own_kind ["kinds", "knot", "told"]) : Cal P w K mg base 1 "own_kind" ["kinds", "knot", "told"] (spOK K) := by
  refine cal_of D sc_own_kind (fun vs H Q E h => ?_) (fun f cdv A outer s H vs Q E hr h => ?_)
  · obtain ⟨p, ks, ka, t, v, rfl, _⟩ := h
    rfl
  obtain ⟨p, ks, ka, t, v, rfl, hk, hv, ht, hw, q⟩ := h
  have hFORMS := F.g
  refine ⟨_, (pss_cons (ps_if (pt_cmpR op_eq (pe_ix ix_tup (pv 1) pe_int (fun _ _ => rfl)) pe_str (nomark _))
        (pss_one (ps_ret (pe_ix ix_tup (pv 0) (pe_ix ix_tup (pv 1) pe_int (fun _ _ => rfl)) (fun _ _ => rfl))))
        pss_nil)
      (pss_cons (ps_if (pt_cmpR op_eq (pe_ix ix_tup (pv 1) pe_int (fun _ _ => rfl)) pe_str (nomark _))
        (pss_one (ps_ret (pe_ix ix_tup (pv 2) pe_int (fun _ _ => rfl))))
        pss_nil)
      (pss_one (ps_ret (pe_ix ix_tup (pe_ix ix_kdict (pe_gr (by rfl) hFORMS) (pe_ix ix_tup (pv 1) pe_int (fun _ _ => rfl)) (fun _ _ => rfl)) pe_int (fun _ _ => rfl)))))), ?_⟩
  obtain ⟨a, vs, rfl, ha, hvs⟩ := hv.open
  obtain ⟨ft, fu, e, a', b⟩ := F.at p
  refine ⟨_, rfl, a, _, 0, _, rfl, rfl, ha, at_word p vs, rfl, _, rfl, ite2 (fun z => ?_) (fun z => ?_)⟩
  · have z' : V.str (word p) = V.str "in" := of_decide_eq_true z
    obtain ⟨k, rfl⟩ := word_in z'
    have hk' : k < ks.length := hw
    have ek : (kVs ks)[k]? = some (.str (kS (own ks (.inp k)))) := by
      unfold kVs
      rw [List.getElem?_map, List.getElem?_eq_getElem hk']
      show some (V.str (kS ks[k])) = some (V.str (kS (ks.getD k false)))
      rw [List.getD_eq_getElem?_getD, List.getElem?_eq_getElem hk']
      rfl
    exact ⟨_, rfl, _, rfl, a, _, 1, .int k, rfl, rfl, ha, at_of (j := 1) rfl rfl, ka, _, _, _, rfl, rfl, hk, at_of (j := k) rfl ek, q⟩
  refine ⟨_, rfl, a, _, 0, _, rfl, rfl, ha, at_word p vs, rfl, _, rfl, ite2 (fun y => ?_) (fun y => ?_)⟩
  · have y' : V.str (word p) = V.str "if" := of_decide_eq_true y
    obtain ⟨r, x, u, rfl⟩ := word_if y'
    exact ⟨_, rfl, t, _, 1, .str (kS (own ks x)), rfl, rfl, ht, rfl, q⟩
  · have eo : ownV p = .str (kS (own ks p)) := by
      cases p with
      | inp k => exact absurd (decide_eq_true rfl) z
      | ite r x u => exact absurd (decide_eq_true rfl) y
      | _ => rfl
    rw [eo] at a'
    exact ⟨_, rfl, a, _, 0, _, rfl, rfl, ha, at_word p vs, d, word p, .ref ft, rfl, rfl, e, ft, _, 2, _, rfl, rfl, a'.sq _, rfl, q⟩
theorem knf_len : ∀ fs : List Pg, fs.length ≤ (knf fs).length
  | [] => Nat.le_refl _
  | q :: fs => by
    have := knf_len fs
    have h : knf (q :: fs) = kn q ++ knf fs := by simp [knf]
    rw [h, List.length_append, kn_len, List.length_cons]
    have := psz_pos q
    omega
abbrev s_knots : Stmt := topS 20
theorem sc_knots : FnScope ["program", "told", "waiting", "knot"] ["program"] (defScope s_knots) := ⟨rfl, rfl, rfl, by decide +kernel, rfl, by decide +kernel, by decide +kernel⟩
def spKnots (K : PySem.W.Frag) : Sp := fun vs H Q _ => ∃ (v : V) (p : Pg), vs = [v] ∧ At K H v p ∧ psz p ≤ 10000 ∧ ∀ (l : Addr) (us : List V) (H' : Hp), Same H H' → H l = none → H' l = some (.lst us) → Ats K H' us (kn p) → Q (.ref l) H'
theorem ok_knots (C_has_form : Cal P w K mg base 2 "has_form" ["thing"] (spHF K)) (C_parts_of : Cal P w K mg base 2 "parts_of" ["knot"] (spPO K)) (D : DefAt K mg "knots" s_knots ["program"]) : Cal P w K mg base 3 "knots" ["program"] (spKnots K) := by
  refine cal_of D sc_knots (fun vs H Q E h => ?_) (fun f cdv A outer s H vs Q E hr h => ?_)
  · obtain ⟨v, p, rfl, _⟩ := h
    rfl
  obtain ⟨v, p, rfl, hv, hsz, q⟩ := h
  have hr' : Room 2 _ := hr
  refine ⟨_, (pss_cons (ps_set (i := 1) sc_knots.nd rfl (.inl rfl) (pe_lst pa_nil))
      (pss_cons (ps_set (i := 2) sc_knots.nd rfl (.inl rfl) (pe_lst (pa_cons (pv 0) pa_nil)))
      (pss_cons (ps_while PassesOwn.never (pt_truth (pv 2) (by intro _; rfl))
        (pss_cons (ps_set (i := 3) sc_knots.nd rfl (.inl rfl) (pe_bm0 PySem.F.plainAttrs_list PySem.F.slot_list_pop PySem.F.type_list_pop mt_pop (pv 2)))
      (pss_cons (ps_expr (pe_bm PySem.F.plainAttrs_list PySem.F.slot_list_append PySem.F.type_list_append mt_append (pv 1) (pa_cons (pv 3) pa_nil)))
      (pss_one (ps_if (pt_val (pe_cal C_has_form hr' (by rfl) (pa_cons (pv 3) pa_nil)))
        (pss_one (ps_expr (pe_bm PySem.F.plainAttrs_list PySem.F.slot_list_extend PySem.F.type_list_extend mt_extendT (pv 2) (pa_cons (pe_revT (pe_cal C_parts_of hr' (by rfl) (pa_cons (pv 3) pa_nil))) pa_nil))))
        pss_nil)))))
      (pss_one (ps_ret (pv 1)))))), ?_⟩
  refine ⟨(by show 0 ≤ sizeLine; decide), fun lt hlt => ⟨_, rfl, (by show 1 ≤ sizeLine; decide), fun lw hlw => ?_⟩⟩
  have s1 : Same H (upd H lt (.lst [])) := same_new hlt
  have s2 : Same (upd H lt (.lst [])) (upd (upd H lt (.lst [])) lw (.lst [v])) := same_new hlw
  have lw0 : H lw = none := s1.free hlw
  have ntw : lt ≠ lw := fun z => by rw [← z, upd_same] at hlw; cases hlw
  refine ⟨fun m σ H' => ∃ (fs done : List Pg) (us ws : List V) (y3 : Option V), σ = [some v, some (.ref lt), some (.ref lw), y3] ∧ m = (knf fs).length ∧ Same H H' ∧ H' lt = some (.lst us) ∧ H' lw = some (.lst ws.reverse) ∧ Ats K H' ws fs ∧ Ats K H' us done ∧ done ++ knf fs = kn p, ?_, ?_⟩
  · refine ⟨_, [p], [], [], [v], none, rfl, rfl, s1.trans s2, s2 _ _ upd_same, upd_same, .cons (hv.keep (Tp.same (s1.trans s2))) .nil, .nil, by rw [knf_one]; rfl⟩
  · rintro m σ H' ⟨fs, done, us, ws, y3, rfl, rfl, sm, ht, hw, aw, au, ek⟩
    have lk : done.length + (knf fs).length = psz p := by rw [← kn_len, ← ek, List.length_append]
    refine ⟨_, rfl, _, .inl ⟨_, SqL.of hw, rfl⟩, ite2 (fun c => ?_) (fun c => ?_)⟩
    · cases ws with
      | nil => simp at c
      | cons x ws =>
        cases fs with
        | nil => cases aw
        | cons r fs =>
          obtain ⟨ax, aws⟩ : At K H' x r ∧ Ats K H' ws fs := by
            cases aw with
            | cons a b => exact ⟨a, b⟩
          rw [List.reverse_cons] at hw
          rw [knf_cons] at ek lk ⊢
          rw [List.length_cons] at lk ⊢
          refine ⟨fun σ' H2 => ∃ m', m' < (knf (parts r ++ fs)).length + 1 ∧ ∃ (fs done : List Pg) (us ws : List V) (y3 : Option V), σ' = [some v, some (.ref lt), some (.ref lw), y3] ∧ m' = (knf fs).length ∧ Same H H2 ∧ H2 lt = some (.lst us) ∧ H2 lw = some (.lst ws.reverse) ∧ Ats K H2 ws fs ∧ Ats K H2 us done ∧ done ++ knf fs = kn p, fun σ' H2 h => h, ?_⟩
          refine ⟨_, rfl, .inl ⟨rfl, _, SqL.of hw⟩, lw, _, x, rfl, rfl, hw, ?_, ?_⟩
          · rw [List.length_append, List.length_singleton, Nat.add_sub_cancel, List.getElem?_append_right (Nat.le_refl _), Nat.sub_self]
            rfl
          rw [List.dropLast_concat]
          have t2 : Tp K H' (upd H' lw (.lst ws.reverse)) := Tp.lst hw
          have hw2 : (upd H' lw (.lst ws.reverse)) lw = some (.lst ws.reverse) := upd_same
          have ht2 : (upd H' lw (.lst ws.reverse)) lt = some (.lst us) := by rw [upd_ne ntw]; exact ht
          have sm2 : Same H (upd H' lw (.lst ws.reverse)) := fun b o z => by
            rw [upd_ne (ne_of_none z lw0)]
            exact sm b o z
          generalize upd H' lw (.lst ws.reverse) = H2 at t2 hw2 ht2 sm2
          have ul : us.length = done.length := au.len
          refine ⟨_, rfl, .inl ⟨rfl, _, SqL.of ht2⟩, _, rfl, lt, _, _, rfl, rfl, ht2, smallL (by omega), ?_⟩
          have t3 : Tp K H2 (upd H2 lt (.lst (us ++ [x]))) := Tp.lst ht2
          have hw3 : (upd H2 lt (.lst (us ++ [x]))) lw = some (.lst ws.reverse) := by rw [upd_ne ntw.symm]; exact hw2
          have ht3 : (upd H2 lt (.lst (us ++ [x]))) lt = some (.lst (us ++ [x])) := upd_same
          have sm3 : Same H (upd H2 lt (.lst (us ++ [x]))) := fun b o z => by
            rw [upd_ne (ne_of_none z hlt)]
            exact sm2 b o z
          generalize upd H2 lt (.lst (us ++ [x])) = H3 at t3 hw3 ht3 sm3
          have t13 := t2.trans t3
          have ax3 := ax.keep t13
          refine ⟨_, rfl, x, r, rfl, ax3, _, rfl, ?_⟩
          refine ⟨_, rfl, .inl ⟨rfl, _, SqL.of hw3⟩, _, rfl, x, r, rfl, ax3, fun t vs ht' hvs => ?_⟩
          have s4 : Same H3 (upd H3 t (.tup vs)) := same_new ht'
          refine ⟨t, vs, rfl, .inl (.inl upd_same), fun t2' ht2' => ?_⟩
          have s5 : Same (upd H3 t (.tup vs)) (upd (upd H3 t (.tup vs)) t2' (.tup vs.reverse)) := same_new ht2'
          have s35 := s4.trans s5
          have hw5 := s35 _ _ hw3
          have ht5 := s35 _ _ ht3
          have vl := hvs.len
          have wl := aws.len
          have kl := knf_len (parts r ++ fs)
          rw [List.length_append] at kl
          refine ⟨lw, t2', _, _, rfl, rfl, hw5, .inl (.inl upd_same), by rw [List.length_reverse, List.length_reverse]; exact small (by omega), ?_⟩
          have t6 : Tp K H3 (upd (upd (upd H3 t (.tup vs)) t2' (.tup vs.reverse)) lw (.lst (ws.reverse ++ vs.reverse))) := (Tp.same s35).trans (Tp.lst hw5)
          refine ⟨(knf (parts r ++ fs)).length, Nat.lt_succ_self _, parts r ++ fs, done ++ [r], us ++ [x], vs ++ ws, some x, rfl, rfl, ?_, by rw [upd_ne ntw]; exact ht5, by rw [upd_same, List.reverse_append], (hvs.keep t6).app ((aws.keep t13).keep t6), ((au.keep t13).keep t6).app (.cons (ax3.keep t6) .nil), by rw [← ek, List.append_assoc]; rfl⟩
          intro b o z
          rw [upd_ne (ne_of_none z lw0)]
          exact s35 _ _ (sm3 b o z)
    · cases ws with
      | cons x ws => exact absurd (by simp) c
      | nil =>
        cases fs with
        | cons r fs => cases aw
        | nil =>
          have ed : done = kn p := by rw [← ek]; simp [knf]
          rw [ed] at au
          exact ⟨_, rfl, q lt us H' sm hlt ht au⟩
end
end Lm

set_option Elab.async false
set_option linter.all false
set_option maxRecDepth 100000
set_option maxHeartbeats 2000000
namespace Lm
open PySem PySem.Spec PyProof.Rows L2 LmR
/-! ### a def called within an except suite, handed the exception -/
structure FnP (P : Program) (w : World) (K : PySem.W.Frag) (mg : Str → Option Value) (base : Heap) (p : Addr × Obj) (k : Nat) (f : Addr) (fd : FuncData) (ps : List Str) (sp : Sp) : Prop where
  len : ∀ vs H Q E, sp vs H Q E → vs.length = ps.length
  run : ∀ (A : Around) (outer : List Env) (s : Shared) (H : Hp) (args : Args) (us : List Value) (vs : List V) (Q : VK) (E : XK), L2H.RoomH k A → L2H.PinOk outer H s p → Env0 P w K mg base A outer s H → BindsTo s fd args (ps.zip us) → Vals vs us → sp vs H Q E →
    codeAny (model P w) A (.call (.ref f) args) (CR CX0 outer P w H s Q E) s
theorem fn_ofP {P : Program} {w : World} {K : PySem.W.Frag} {mg : Str → Option Value} {base : Heap} {k : Nat} {x : Str} {st : Stmt} {f : Addr} {fd : FuncData} {N ps : List Str} {sp : Sp} {p : Addr × Obj} (F : Fun K x x st f fd) (S : FnScope N ps (defScope st))
    (len : ∀ vs H Q E, sp vs H Q E → vs.length = ps.length)
    (hbody : ∀ (cdv : Value) (A : Around) (outer : List Env) (s : Shared) (H : Hp) (vs : List V) (Q : VK) (E : XK), L2H.RoomH k (A.deeper (envOfC x (defScope st) s.heap.objs.size f cdv)) → sp vs H Q E →
      ∃ t, PSs (L2H.cxH CX0 P w K mg base N x (defScope st) f cdv A outer s H E p) (defBody st) t ∧ t { nx := fun _ H' => Q .non H', rt := Q } (L2.start N vs) H) : FnP P w K mg base p (k + 1) f fd ps sp := by
  obtain ⟨oc, od, kV, doc, pm, an, cdv, ct, osl, rfl, lk, hcd⟩ := F.ex
  refine ⟨len, fun A outer s H args us vs Q E hr hpin e0 hb r hsp => ?_⟩
  have hl := len _ _ _ _ hsp
  have KX : K.In s.heap := e0.mod.kin.keeps fun b o e => (e0.bs b o e).1
  have lim : s.heap.NoLimit := e0.mod.nolimit.keeps fun b o e => (e0.bs b o e).1
  have hkind : ∀ y ∈ ps.zip us, (defScope st).names.lookup y.1 = some .local ∨ ((defScope st).names.lookup y.1 = some .cell ∧ ((cellsFrom (s.heap.objs.size + 1) (defScope st).names []).lookup y.1).isSome = true) := fun ⟨n, v⟩ hy => by
    rcases S.par n (List.of_mem_zip hy).1 with q | q
    · exact .inl q
    · exact .inr ⟨q, PySem.W.cellsFrom_some _ _ _ (.inl q)⟩
  refine codeAny_call_function hr.depth (KX _ _ lk) rfl S.co S.gen rfl (PySem.W.codeRec_of KX hcd) (hb _ _ _ _ ?_)
  refine wpAny_newFunctionEnv_cells S.kind hkind fun env he s1 y => ?_
  subst he
  refine ⟨lim.keeps y.toInCall.keep, codeAny_func ?_⟩
  obtain ⟨t, ht, hq⟩ := hbody cdv A outer s H vs Q E (hr.deeper _) hsp
  have I : Inv (L2H.cxH CX0 P w K mg base N x (defScope st) f cdv A outer s H E p) [] (L2.start N vs) H s1 := L2H.inv_startH S hpin e0 hl r y
  refine wpAny_mono (ht.run [] s1 (L2.start N vs) H _ I hq) (fun fl s' hs => ?_) fun e s' hs => hs
  have fin : ∀ {σ' : L2.St} {H' : Hp} {v : V} {u : Value}, Inv (L2H.cxH CX0 P w K mg base N x (defScope st) f cdv A outer s H E p) [] σ' H' s' → RelV v u → Q v H' → CE outer P w H s Q u s' :=
    fun {σ' H' v u} J rv q => ⟨v, H', J.os, J.bare, J.base, J.hok, rv, q⟩
  cases fl with
  | ret u =>
    obtain ⟨v, σ', H', J, rv, q⟩ := hs
    exact fin J rv q
  | next =>
    obtain ⟨σ', H', J, q⟩ := hs
    exact fin (v := V.non) (u := Value.none) J rfl q
  | brk =>
    obtain ⟨_, _, _, q⟩ := hs
    exact False.elim q
  | cont =>
    obtain ⟨_, _, _, q⟩ := hs
    exact False.elim q
theorem pe_callP {X : Cx} {k : Nat} {f : Addr} {fd : FuncData} {ps : List Str} {sp : Sp} {x : Str} {q pos : Pos} {e : Expr} {es : List Expr} {t : TA} {p : Addr × Obj} (F : FnP X.prog X.w X.K X.mg X.base p k f fd ps sp) (hr : L2H.RoomH k X.A) (hp : p ∈ X.pn) (hg : Gl X x) (hm : X.mg x = some (.ref f)) (hk : PySem.W.keepIn X.K (.ref f) = true) (hb : Binds X.K fd ps [])
    (ha : PA X (e :: es) t) (hdb : (x == ("__debug__" : Str)) = false := by decide) (he : starEach (e :: es) X.env = (false, eval e X.env) :: starEach es X.env := by rfl) (hpl : (backTo pos (starEach es X.env)).any (·.1) = false := by rfl) :
    PE X (.Call (.Name x q) (e :: es) [] pos) (tCall sp [] (fun _ _ _ => False) t) := by
  refine ⟨fun pins s σ H Q I h => ?_⟩
  refine wpAny_Call_Name_kw (ld_glob I hg hm ?_ hdb)
  refine PySem.W.callWith_K (h₀ := X.base) I.ok.mod.kin hk (thn (ha.run pos pins s σ H _ I h) fun us s1 ⟨vs, H1, I1, r, q⟩ => ⟨I1.kIn, ?_⟩) he hpl
  have q : sp vs H1 Q (fun _ _ _ => False) := by
    have z : sp (vs ++ []) H1 Q (fun _ _ _ => False) := q
    rw [List.append_nil] at z
    exact z
  have hl : us.length = ps.length := by rw [← r.length]; exact F.len _ _ _ _ q
  have b := hb s1 us I1.kIn (by rw [List.append_nil]; exact hl)
  rw [List.append_nil] at b
  have P1 := I1.pin p (List.mem_append_left _ hp)
  have hpin : L2H.PinOk X.stack H1 s1 p := ⟨P1.1, P1.2.1, fun hm => (List.mem_cons.mp (I1.stkSub p.1 hm)).elim P1.2.2.1 P1.2.2.2.1, P1.2.2.2.2⟩
  refine wpAny_call (codeAny_mono (F.run X.A X.stack s1 H1 ⟨us, []⟩ us vs Q (fun _ _ _ => False) hr hpin I1.env0 b r q) fun r s' hq => ?_)
  cases r with
  | error e => exact hq.elim
  | ok fl =>
    cases fl with
    | ret u => exact I1.after hq
    | next => exact False.elim hq
    | brk => exact False.elim hq
    | cont => exact False.elim hq
/-! ### isinstance of an exception that is pinned -/
structure ExK (K : PySem.W.Frag) (C : Addr) : Prop where
  cl : (PySem.W.clsIn K C).isSome = true
  ga : PySem.W.findIn K (.ref C) "__getattribute__" = some (some (.builtin "BaseException.__getattribute__"))
  gg : PySem.W.findIn K (.ref C) "__getattr__" = some none
  ex : PySem.W.subIn K (.ref C) (.type "BaseException") = some true
  ca : PySem.W.findIn K (.ref C) "__class__" = some (some (.builtin "object.__class__"))
  gn : PySem.W.specialIn K (.builtin "object.__class__") "__get__" = some (some (.builtin "getset_descriptor.__get__"))
  tk : PySem.W.takesIn K (.builtin "object.__class__") = some true
  ob : PySem.W.mroIn K C (.type "object") = some true
/-- isinstance(e, c), e the exception at a of the class at C -/
def rIsP (K : PySem.W.Frag) (C a : Addr) : List V → Hp → VK → Prop := fun xs H Q => ∃ (D : Addr) (b : Bool), xs = [.ref a, .ref D] ∧ PySem.W.kitOne K (.ref C) (.ref D) = some b ∧ Q (.bl b) H
theorem call_isP {X : Cx} {a C : Addr} {oe : Obj} {dct : Option Addr} (k : ExK X.K C) (hz : Zc (.ref C) dct oe) (hf : ∃ vs, oe.data = .fields vs) (hp : (a, oe) ∈ X.pn) (hd : ∀ pins σ H s, Inv X pins σ H s → ∃ od : Option Obj, PySem.W.InstAt s.heap a oe C od) : CallR X (.builtin "isinstance") (rIsP X.K C a) := by
  intro pins s σ H xs us Q I r h
  obtain ⟨D, b, rfl, e, q⟩ := h
  obtain ⟨u1, u2, rfl, r1, r2⟩ := vals2 r
  cases (show u1 = Value.ref a from r1)
  cases (show u2 = Value.ref D from r2)
  obtain ⟨od, J⟩ := hd pins σ H s I
  exact PySem.W.kia_one (PySem.W.kitx_exc k.cl k.ga k.gg k.ex k.ca k.gn k.tk k.ob) I.kIn J e (fun z => nomatch z) fun tk => ⟨.bl b, H, I.tok tk, rfl, q⟩
/-! ### xs.count(True) of truths -/
theorem mt_countB {X : Cx} : MtR X "list.count" (fun x xs H Q => ∃ (p : Addr) (bs : List Bool), x = .ref p ∧ xs = [.bl true] ∧ SqL X.K H p (bs.map V.bl) ∧ Q (.int (bs.count true : Nat)) H) := by
  intro pins s σ H x xs v us Q I rx rxs h
  obtain ⟨p, bs, rfl, rfl, hs, q⟩ := h
  cases rx
  obtain ⟨u, rfl, ru⟩ := rxs.one
  cases (show u = Value.bool true from ru)
  obtain ⟨its, rv, ⟨⟨cls, dd, data, sl⟩, n, ho, hc, hdn, hd⟩, hlen⟩ := I.list hs
  simp only at hc hd
  subst hc hd
  have key : ∀ (bs : List Bool) (its : List Value), Vals (bs.map V.bl) its → its = bs.map Value.bool := by
    intro bs
    induction bs with
    | nil => intro its r; cases r; rfl
    | cons b bs ih =>
      intro its r
      cases r with
      | cons a r =>
        rename_i u us'
        rw [List.map_cons, ih us' r]
        congr 1
  have ei := key bs its rv
  subst ei
  let g : Value → Bool := fun y => y == .bool true
  refine call_meets PySem.F.slot_list_count ⟨_, ho, rfl⟩ PySem.F.entry_list_count (PySem.F.args_list_count_2 _ _)
    (SeqAt.list_countAt p (bs.map Value.bool).toArray n dd sl (.bool true) g) ⟨ho, fun y hy => ?_, ?_⟩
  · have hy' : y ∈ bs.map Value.bool := by simpa using hy
    obtain ⟨b, _, rfl⟩ := List.mem_map.mp hy'
    have eg : g (.bool b) = eqV (.bl b) (.bl true) := by cases b <;> rfl
    rw [eg]
    exact eqAt_V (y := .bl b) (x := .bl true) rfl rfl rfl rfl
  · have ec : ((bs.map Value.bool).toArray.toList.countP g) = bs.count true := by
      show (bs.map Value.bool).countP g = _
      rw [List.countP_map]
      unfold List.count
      congr 1
      funext b
      cases b <;> rfl
    refine ⟨.int (bs.count true : Nat), H, I.tok _, ⟨s.toks, ?_⟩, q⟩
    show Value.int (((bs.map Value.bool).toArray.toList.countP g : Nat) : Int) s.toks = Value.int ((bs.count true : Nat) : Int) s.toks
    rw [ec]
end Lm

set_option Elab.async false
set_option linter.all false
set_option maxRecDepth 100000
set_option maxHeartbeats 2000000
namespace Lm
open PySem PySem.Spec PyProof.Rows L2 LmR
abbrev oEnum (a : Addr) : Obj := { cls := .type "enumerate", data := .fields #[.none, .bool false, .ref a, rawInt 0, .none, .none] }
/-- enumerate(v): two new cells -/
theorem enum_new1 {v : Value} {o : Obj} {G : Heap → Prop} (B : Begins v o G) :
    Meets (Builtin.«enumerate.__new__» ⟨[.type "enumerate", v], []⟩) (fun _ R s => G s.heap ∧ R (.ok (.ret (.ref (s.heap.push o).objs.size))) { s with heap := (s.heap.push o).push (oEnum s.heap.objs.size) }) :=
  .of_wp fun prog w A R s hh => by
    obtain ⟨hp, g, d, tk, os⟩ := s
    obtain ⟨hG, hR⟩ := hh
    have hsub := sub_enumerate
    have go : ∀ {A' : Around} {E : Value → Shared → Prop} {Q : Value → Shared → Prop}, Q (.ref hp.objs.size) ⟨hp.push o, g, d, tk, os⟩ → wpAny (model prog w) A' (pyIter v) Q E ⟨hp, g, d, tk, os⟩ :=
      fun q => B.iter prog w _ _ _ _ hG q
    wp_walk using go
    refine wpAny_stack_any fun st => wpAny_pure ?_
    split
    · rename_i c _ _ _ _ _
      cases (c == Value.type "enumerate") <;> (wp_walk using go; exact ⟨_, rfl, hR⟩)
    · wp_walk using go
      exact ⟨_, rfl, hR⟩
theorem enum_call1 {prog : Program} {w : World} {A : Around} {E : Value → Shared → Prop} {s : Shared} {v : Value} {o : Obj} {G : Heap → Prop} {Q : Value → Shared → Prop} (B : Begins v o G) (hG : G s.heap)
    (hQ : ∀ h2, IsEnum h2 (s.heap.objs.size + 1) s.heap.objs.size 0 .none → h2.get? s.heap.objs.size = some o → (∀ b ob, s.heap.get? b = some ob → h2.get? b = some ob) → Q (.ref (s.heap.objs.size + 1)) { s with heap := h2 }) :
    wpAny (model prog w) A (call (.type "enumerate") [v]) Q E s := by
  refine callType_new F.called_enumerate (by decide) (F.typeCall_enumerate_1 _) (F.newCall_enumerate_1 _) (fun obj => F.args_object_init_2 obj _) F.entry_enumerate_new (enum_new1 B) ⟨hG, ?_⟩
  have z : (s.heap.push o).objs.size = s.heap.objs.size + 1 := Heap.size_push ..
  show _ ∧ _
  rw [z]
  have he : IsEnum ((s.heap.push o).push (oEnum s.heap.objs.size)) (s.heap.objs.size + 1) s.heap.objs.size 0 .none := by
    have y := Heap.get?_push_size (s.heap.push o) (o := oEnum s.heap.objs.size) rfl
    rw [z] at y
    exact y
  exact ⟨⟨_, he, rfl⟩, hQ _ he (Heap.get?_push_of_some _ (Heap.get?_push_size _ B.free)) fun b ob x => Heap.get?_push_of_some _ (Heap.get?_push_of_some _ x)⟩
theorem enum_over {prog : Program} {w : World} {A : Around} {E : Value → Shared → Prop} {s : Shared} {e it a : Addr} {i : Nat} {items : Array Value} {c : Int} {old : Value} {Q : Option Value → Shared → Prop} (hd : A.handled = none)
    (he : IsEnum s.heap e it c old) (hit : s.heap.IsTupleIter it a i) (ht : s.heap.IsTuple a items) (hx : items[i]? = none) (hQ : ∀ h2, Heap.ExtBut it s.heap h2 → Q none { s with heap := h2 }) : wpAny (model prog w) A (pyNext (.ref e)) Q E s := by
  have D : Draws prog w A.in1 it [it, a] i (fun _ _ => True) (fun j h => j = i ∧ h.IsTupleIter it a i ∧ h.IsTuple a items) :=
    { live := fun _ _ st => by obtain ⟨_, ⟨o, ho, _⟩, _⟩ := st; exact ⟨o, ho⟩
      frame := fun _ _ _ st hk => ⟨st.1, st.2.1.at fun o q => hk it (by simp) o q, st.2.2.at fun o q => hk a (by simp) o q⟩
      item := fun j s Q E hj st _ => absurd st.1 (Nat.ne_of_lt hj)
      done := fun s Q E st hE => wpAny_nextOf_tuple_end (by first | exact hd | (show A.in1.handled = none; exact hd)) st.2.1 st.2.2 hx hE }
  exact wpAny_pyNext_enum_endD D he ⟨rfl, hit, ht⟩ hQ
/-- the tuple at a: each item, its number ahead of it, in a new pair -/
def IteT (K : PySem.W.Frag) (a : Addr) : It :=
  ⟨fun i H => ∃ (xs : List V) (x : V), SqT K H a xs ∧ xs[i]? = some x,
    fun i H v H' => ∃ T x, v = .ref T ∧ H T = none ∧ H' = upd H T (.tup [.int (i : Nat), x]) ∧ ∀ xs, SqT K H a xs → xs[i]? = some x,
    fun i H => ∃ xs : List V, SqT K H a xs ∧ xs.length ≤ i⟩
theorem turn_enumT {P : Program} {w : World} {K : PySem.W.Frag} {elts : List Expr} {kk : Nat} {tpos : Pos} (a e it : Addr) :
    Turn P w K (.Tuple elts kk tpos) (IteT K a) [e, it] e (fun i h => (∃ old, IsEnum h e it ((i : Nat) : Int) old) ∧ h.IsTupleIter it a i ∧ e ≠ it ∧ a ≠ e ∧ a ≠ it) where
  mem := by simp
  obj := fun i h st b hb => by
    obtain ⟨⟨old, he⟩, ⟨o, ho, hc, hd⟩, _⟩ := st
    have e' : b = e ∨ b = it := by simpa using hb
    rcases e' with z | z
    · rw [z]; exact ⟨_, he, fun v q => nomatch q⟩
    · rw [z]; exact ⟨o, ho, fun v q => by rw [hd] at q; cases q⟩
  keep := fun i h h' st k => by
    obtain ⟨⟨old, he⟩, hi, r⟩ := st
    exact ⟨⟨old, k e (by simp) _ he⟩, hi.at fun o q => k it (by simp) o q, r⟩
  item := by
    intro X hP hw hK hc i pins s σ H E I hf st hg
    subst hP hw hK
    obtain ⟨⟨old, he⟩, hit, hne, hae, hai⟩ := st
    obtain ⟨xs, x, hq, hx⟩ := hg
    obtain ⟨its, rv, p, hz⟩ := I.tuple hq
    obtain ⟨u, hu, ru⟩ := rv.get hx
    have ht : s.heap.IsTuple a its.toArray := p
    have hel : e < s.heap.objs.size := Heap.lt_size he
    have hil : it < s.heap.objs.size := by obtain ⟨_, q, _⟩ := hit; exact Heap.lt_size q
    have D := Draws.tuple (prog := X.prog) (w := X.w) (A := X.A.in1) (I.ok.hd hc) it a hai its.toArray
    have hlt : i < its.toArray.size := by
      have z : i < its.length := (List.getElem?_eq_some_iff.mp hu).1
      simpa using z
    refine wpAny_pyNext_enum_itemD D he ⟨hit, ht⟩ hlt hne (by simp [hne, Ne.symm hae]) fun y h' tk hy ho hst hT hsz hk => ?_
    have ey : y = u := by
      have z : its[i]? = some y := by simpa using hy
      rw [hu] at z
      exact (Option.some.inj z).symm
    subst ey
    refine ⟨_, rfl, wpAny_letOwnedTupleGo_enum (s := { s with heap := h', toks := tk + 1 }) ho fun h'' he' sb => ?_⟩
    have hT2 : h''.get? s.heap.objs.size = some { cls := .type "tuple", data := .seq #[.int i tk, y] } := (sb.2 _ (Nat.ne_of_gt hel)).trans hT
    have new : ObjOk X.prog X.w (upd H s.heap.objs.size (.tup [.int (i : Nat), x])) h'' s.heap.objs.size (.tup [.int (i : Nat), x]) :=
      ⟨by show 2 ≤ sizeLine; decide, [.int i tk, y], .cons ⟨_, rfl⟩ (.cons ru .nil), ⟨_, hT2, rfl, _, rfl⟩⟩
    have I1 : Inv X pins σ (upd H s.heap.objs.size (.tup [.int (i : Nat), x])) { s with heap := h'', toks := tk + 1 } :=
      I.turnedNew (ch := [e, it]) (fun b ob hb q => (sb.2 b (fun z => hb (by simp [z]))).trans (hk b ob (fun z => hb (by simp [z])) (fun z => hb (by simp [z])) q)) hf (Nat.le_refl _) new
    have fr : H s.heap.objs.size = none := I.hok.fresh (Nat.le_refl _)
    refine ⟨.ref s.heap.objs.size, _, I1, rfl, ⟨_, x, rfl, fr, rfl, fun ys hy => by rw [I.tuple_inj hy hq]; exact hx⟩, ⟨⟨y, ?_⟩, hst.1.at fun o q => (sb.2 it (Ne.symm hne)).trans q, hne, hae, hai⟩, fun b hb => ?_⟩
    · have e1 : ((i + 1 : Nat) : Int) = (i : Int) + 1 := by omega
      rw [e1]; exact he'
    · have e' : b = e ∨ b = it := by simpa using hb
      have hb' : b < s.heap.objs.size := by rcases e' with z | z <;> rw [z] <;> assumption
      rw [upd_ne (Nat.ne_of_lt hb')]
      exact (hf b hb).1
  done := by
    intro X hP hw hK hc i pins s σ H E I hf st hg
    subst hP hw hK
    obtain ⟨⟨old, he⟩, hit, hne, hae, hai⟩ := st
    obtain ⟨xs, hq, hx⟩ := hg
    obtain ⟨its, rv, p, hz⟩ := I.tuple hq
    have ht : s.heap.IsTuple a its.toArray := p
    obtain ⟨f0, f1, f2, f3, f4, f5⟩ := hf it (by simp)
    have hl := rv.length
    have hT : s.TypeIs (.ref e) "enumerate" := ⟨_, he, rfl⟩
    refine enum_over (I.ok.hd hc) he hit ht (by simp; omega) fun h' eb => ⟨rfl, I.turned (t' := s.toks) (fun b o hb q => eb b o hb q) f0 f1 f3 f4 f5⟩
  self := fun A i s Q E st h => by
    obtain ⟨⟨_, he⟩, _⟩ := st
    exact wpAny_pyIter_enum he h
def iEnumT (K : PySem.W.Frag) (ta : TA) : TI := fun σ H R => ta σ H fun vs H1 => ∃ a xs, vs = [.ref a] ∧ SqT K H1 a xs ∧ R (IteT K a) H1
theorem pi_enumT {X : Cx} {e : Expr} {ta : TA} {p pos tpos : Pos} {elts : List Expr} {kk : Nat} (hg : Gl X "enumerate") (hm : X.mg "enumerate" = none) (ha : PA X [e] ta) (hs : starEach [e] X.env = [(false, eval e X.env)] := by rfl) :
    PI X (.Tuple elts kk tpos) (.Call (.Name "enumerate" p) [e] [] pos) (iEnumT X.K ta) := by
  refine ⟨fun pins s σ H R I h => ?_⟩
  refine Call_ (ld_blt I hg hm boot_enumerate (PyProof.Rows.callWith_type1 (thn (ha.run pos pins s σ H _ I h) fun us s1 ⟨vs, H1, I1, r1, q1⟩ => ?_) hs rfl))
  obtain ⟨a, xs, ex, hq, q⟩ := q1
  subst ex
  cases r1 with
  | cons r rr =>
    cases rr
    cases r
    obtain ⟨its, rv, pt, hz⟩ := I1.tuple hq
    have ht : s1.heap.IsTuple a its.toArray := pt
    have hal : a < s1.heap.objs.size := by obtain ⟨_, q, _⟩ := ht; exact Heap.lt_size q
    refine enum_call1 (begins_tuple a its.toArray) ht fun h2 he hit hk => wpAny_pyIter_enum he ?_
    have I2 : Inv X pins σ H1 { s1 with heap := h2 } := I1.kept (t' := s1.toks) hk
    refine ⟨s1.heap.objs.size + 1, [s1.heap.objs.size + 1, s1.heap.objs.size], _, _, H1, rfl, I2, turn_enumT a (s1.heap.objs.size + 1) s1.heap.objs.size, ⟨⟨.none, he⟩, ⟨_, hit, rfl, rfl⟩, Nat.succ_ne_self _, Nat.ne_of_lt (Nat.lt_succ_of_lt hal), Nat.ne_of_lt hal⟩, fun b hb => ?_, q⟩
    have e' : b = s1.heap.objs.size + 1 ∨ b = s1.heap.objs.size := by simpa using hb
    have hle : s1.heap.objs.size ≤ b := by rcases e' with z | z <;> rw [z] <;> first | exact Nat.le_succ _ | exact Nat.le_refl _
    exact I1.fpOk hle (I1.hok.fresh hle)
end Lm

set_option Elab.async false
set_option linter.all false
set_option maxRecDepth 100000
set_option maxHeartbeats 2000000
namespace Lm
open PySem PySem.Spec PyProof.Rows L2 LmR
/-! ### defs that may refuse -/
def CalX (P : Program) (w : World) (K : PySem.W.Frag) (mg : Str → Option Value) (base : Heap) (k : Nat) (x : Str) (ps : List Str) (sp : Sp) : Prop :=
  ∃ f fd, FnOk P w K mg base (L2.CX P w) k f fd ps sp ∧ mg x = some (.ref f) ∧ PySem.W.keepIn K (.ref f) = true ∧ Binds K fd ps [] ∧ ∃ st, Fun K x x st f fd
section
variable {P : Program} {w : World} {K : PySem.W.Frag} {mg : Str → Option Value} {base : Heap}
theorem calx_of {x : Str} {st : Stmt} {N ps : List Str} {k : Nat} {sp : Sp} (D : DefAt K mg x st ps) (S : FnScope N ps (defScope st)) (len : ∀ vs H Q E, sp vs H Q E → vs.length = ps.length)
    (hbody : ∀ (f : Addr) (cdv : Value) (A : Around) (outer : List Env) (s : Shared) (H : Hp) (vs : List V) (Q : VK) (E : XK), Room k (A.deeper (envOfC x (defScope st) s.heap.objs.size f cdv)) → sp vs H Q E →
      ∃ t, PSs (cxOf (L2.CX P w) P w K mg base N x (defScope st) f cdv A outer s H E) (defBody st) t ∧ t { nx := fun _ H' => Q .non H', rt := Q } (start N vs) H) : CalX P w K mg base (k + 1) x ps sp := by
  obtain ⟨f, fd, F, b, g⟩ := D
  exact ⟨f, fd, F.okX S len (hbody f), g, F.kp, b, _, F⟩
end
theorem pe_calX {X : Cx} {W : WX} {k : Nat} {x : Str} {ps : List Str} {sp : Sp} {e : Expr} {es : List Expr} {t : TA} {p pos : Pos} (C : CalX X.prog X.w X.K X.mg X.base k x ps sp) (tk : Takes X W) (hr : Room k X.A) (hg : Gl X x) (ha : PA X (e :: es) t)
    (hdb : (x == ("__debug__" : Str)) = false := by decide) (he : starEach (e :: es) X.env = (false, eval e X.env) :: starEach es X.env := by rfl) (hpl : (backTo pos (starEach es X.env)).any (·.1) = false := by rfl) :
    PE X (.Call (.Name x p) (e :: es) [] pos) (tCallS sp (WE W) t) := by
  obtain ⟨f, fd, F, g, kp, b, _⟩ := C
  exact pe_callS F hr hg g kp b (fun σ => passAt tk σ) ha hdb he hpl
/-! ### classes of refusals -/
/-- the class x at C, its __init__ (st) keeps the fields fs -/
structure Rf (K : PySem.W.Frag) (mg : Str → Option Value) (x q : Str) (C fI : Addr) (fd : FuncData) (st : Stmt) (fs : List Str) : Prop where
  g : mg x = some (.ref C)
  o : OexC K C
  f : XfC K C
  k : ExK K C
  te : PySem.W.exmOne K (.ref C) (.ref C) = some true
  fld : ∀ n ∈ fs, PySem.W.findIn K (.ref C) n = some none
  iC : PySem.W.findIn K (.ref C) "__init__" = some (some (.ref fI))
  tI : PySem.W.typeIn K (.ref fI) = some (.type "function")
  F : Fun K "__init__" q st fI fd
  b : Binds K fd ("self" :: fs) []
/-- __init__(self, f, g) -/
def spIni2 (C : Addr) (f g : Str) : Sp := fun vs H Q E => ∃ a x y, vs = [.ref a, x, y] ∧ H a = some (exo a C none) ∧
  ∀ (d : Addr) (H' : Hp), H d = none → H' a = some (exo a C (some d)) → H' d = some (exd d [(g, y), (f, x)]) → (∀ b, b ≠ a → b ≠ d → H' b = H b) → Q .non H'
def spIni1 (C : Addr) (f : Str) : Sp := fun vs H Q E => ∃ a x, vs = [.ref a, x] ∧ H a = some (exo a C none) ∧
  ∀ (d : Addr) (H' : Hp), H d = none → H' a = some (exo a C (some d)) → H' d = some (exd d [(f, x)]) → (∀ b, b ≠ a → b ≠ d → H' b = H b) → Q .non H'
/-- what refusing leaves: the fields at d, all else as it was -/
def Raised (H H' : Hp) (d : Addr) (fs : List (Str × V)) : Prop := H d = none ∧ H' d = some (.xd fs) ∧ ∀ b, b ≠ d → H' b = H b
theorem Raised.same {H H' : Hp} {d : Addr} {fs : List (Str × V)} (r : Raised H H' d fs) : Same H H' := fun b o e => by
  have n : b ≠ d := fun z => by rw [z, r.1] at e; cases e
  rw [r.2.2 b n]; exact e
theorem mk_two {C : Addr} {f g : Str} {x y : V} {H : Hp} {Q : XK} (hq : ∀ d H', Raised H H' d [(g, y), (f, x)] → Q (.ref C) (some d) H') :
    [x, y].length ≤ 1000 ∧ ∀ a, H a = none → spIni2 C f g (.ref a :: ([x, y] ++ [])) (upd H a (exo a C none))
      (fun v H2 => v = .non ∧ ∃ (d : Addr) (fs : List (Str × V)), H2 a = some (exo a C (some d)) ∧ H2 d = some (exd d fs) ∧ H d = none ∧ Q (.ref C) (some d) (upd (del H2 a) d (.xd fs))) (fun _ _ _ => False) := by
  refine ⟨by show 2 ≤ 1000; decide, fun a ha => ⟨a, x, y, rfl, upd_same, fun d H' hd h1 h2 h3 => ⟨rfl, d, _, h1, h2, ?_, hq d _ ⟨?_, upd_same, fun b hb => ?_⟩⟩⟩⟩
  all_goals
    have nd : d ≠ a := fun z => by rw [z, upd_same] at hd; cases hd
  · rw [upd_ne nd] at hd; exact hd
  · rw [upd_ne nd] at hd; exact hd
  · rw [upd_ne hb]
    by_cases z : b = a
    · rw [z, del_same, ha]
    · rw [del_ne z, h3 b z hb, upd_ne z]
theorem mk_one {C : Addr} {f : Str} {x : V} {H : Hp} {Q : XK} (hq : ∀ d H', Raised H H' d [(f, x)] → Q (.ref C) (some d) H') :
    [x].length ≤ 1000 ∧ ∀ a, H a = none → spIni1 C f (.ref a :: ([x] ++ [])) (upd H a (exo a C none))
      (fun v H2 => v = .non ∧ ∃ (d : Addr) (fs : List (Str × V)), H2 a = some (exo a C (some d)) ∧ H2 d = some (exd d fs) ∧ H d = none ∧ Q (.ref C) (some d) (upd (del H2 a) d (.xd fs))) (fun _ _ _ => False) := by
  refine ⟨by show 1 ≤ 1000; decide, fun a ha => ⟨a, x, rfl, upd_same, fun d H' hd h1 h2 h3 => ⟨rfl, d, _, h1, h2, ?_, hq d _ ⟨?_, upd_same, fun b hb => ?_⟩⟩⟩⟩
  all_goals
    have nd : d ≠ a := fun z => by rw [z, upd_same] at hd; cases hd
  · rw [upd_ne nd] at hd; exact hd
  · rw [upd_ne nd] at hd; exact hd
  · rw [upd_ne hb]
    by_cases z : b = a
    · rw [z, del_same, ha]
    · rw [del_ne z, h3 b z hb, upd_ne z]
theorem pass_no {X : Cx} : Passes (L2.CX X.prog X.w) X (fun _ _ _ => False) := fun _ _ _ _ _ _ _ c => by
  obtain ⟨_, _, _, _, _, _, _, _, _, _, _, _, z⟩ := c
  exact z.elim
/-- raise x(e, ..) -/
theorem ps_ref {X : Cx} {W : WX} {x q : Str} {C fI : Addr} {fd : FuncData} {st : Stmt} {fs : List Str} {sp : Sp} {k : Nat} {e : Expr} {es : List Expr} {ta : TA} {p pos pos' : Pos} (R : Rf X.K X.mg x q C fI fd st fs) (F : FnOk X.prog X.w X.K X.mg X.base (L2.CX X.prog X.w) k fI fd ("self" :: fs) sp) (hr : Room (k + 1) X.A)
    (hc : X.calm = true) (tk : Takes X W) (hg : Gl X x) (ha : PA X (e :: es) ta)
    (hdb : (x == ("__debug__" : Str)) = false := by decide) (he : starEach (e :: es) X.env = (false, eval e X.env) :: starEach es X.env := by rfl) (hpl : (backTo pos (starEach es X.env)).any (·.1) = false := by rfl) :
    PS X (.Raise (some (.Call (.Name x p) (e :: es) [] pos)) none pos') (fun _ σ H => tMkO C sp [] ta σ H fun cls d H' => W cls d σ H') :=
  ps_raise hc tk (pmk_oex R.o R.iC R.tI F hr R.b .nil pass_no hg R.g ha hdb he hpl)
end Lm
namespace Lm
open PySem PySem.Spec PyProof.Rows L2 LmR
/-! ### x not in a tuple of texts, x any flat data -/
def strIn (ss : List Str) : PyData → Bool
  | .str s => ss.any fun y => y == s
  | _ => false
def rNotInD (K : PySem.W.Frag) : R2 := fun x y H Q => ∃ (p : Addr) (ss : List Str) (d : PyData), y = .ref p ∧ SqT K H p (ss.map V.str) ∧ Fd K H x d ∧ Q (.bl (!strIn ss d)) H
theorem all_str : ∀ ss : List Str, (ss.map V.str).all flatV = true
  | [] => rfl
  | _ :: ss => by rw [List.map_cons, List.all_cons, all_str ss]; rfl
theorem inV_str (ss : List Str) (x : V) (d : PyData) (h : ∀ y : Str, eqV (.str y) x = strIn [y] d) : inV x (ss.map V.str) = strIn ss d := by
  unfold inV
  induction ss with
  | nil => cases d <;> rfl
  | cons s ss ih =>
    rw [List.map_cons, List.any_cons, ih, h s]
    cases d with
    | str z => simp [strIn]
    | _ => rfl
theorem op_notInD {X : Cx} {K : PySem.W.Frag} (hK : X.K = K) (hu : X.A.units + 1 < cLine) : OpR X (compareOp .NotIn) (rNotInD K) := by
  subst hK
  intro pins s σ H x y v u Q I rx ry h
  obtain ⟨p, ss, d, rfl, hq, ⟨fd, hd⟩, q⟩ := h
  by_cases ht : ∃ ds, d = .tuple ds
  · obtain ⟨ds, rfl⟩ := ht
    cases hd with
    | tup qa r =>
      rename_i a vs
      cases rx
      cases ry
      obtain ⟨its, rv, pl, hz⟩ := I.tuple hq
      obtain ⟨itz, rz, plz, hzz⟩ := I.tuple qa
      refine SeqAt.notIn_tupleAt (fun _ => false) pl (fun w hw => ?_) ⟨.bl _, H, I, rfl, ?_⟩
      · have hw' : w ∈ its := by simpa using hw
        have st : ∀ (ss : List Str) (its : List Value), Vals (ss.map V.str) its → ∀ w ∈ its, ∃ b t, w = .str b t := by
          intro ss
          induction ss with
          | nil => intro its r w hw; cases r; cases hw
          | cons z ss ih =>
            intro its r w hw
            cases r with
            | cons ra rb =>
              rcases List.mem_cons.mp hw with e | e
              · obtain ⟨t, et⟩ := ra
                exact ⟨z, t, e.trans et⟩
              · exact ih _ rb w e
        obtain ⟨b, t, rfl⟩ := st ss its rv w hw'
        exact SeqAt.EqAt.str_tuple b t plz (by first | exact hu | (show X.A.units + 1 < cLine; exact hu) | (have := hu; omega))
      · have e : (!(its.toArray.any fun _ => false)) = !strIn ss (.tuple ds) := by simp [strIn]
        rw [e]
        exact q
  · have fx : flatV x = true ∧ ∀ y : Str, eqV (.str y) x = strIn [y] d := by
      cases hd with
      | non => exact ⟨rfl, fun _ => rfl⟩
      | bl b => exact ⟨rfl, fun _ => rfl⟩
      | int i => exact ⟨rfl, fun _ => rfl⟩
      | str z => exact ⟨rfl, fun y => by simp [strIn, eqV]⟩
      | lst q r => simp [flat] at fd
      | tup q r => exact absurd ⟨_, rfl⟩ ht
    refine op_notIn_seq pins s σ H x _ v u Q I rx ry ⟨p, _, rfl, .inr hq, fx.1, all_str ss, ?_⟩
    rw [if_pos rfl, inV_str ss x d fx.2]
    exact q
/-! ### for i, x in enumerate(tuple) -/
theorem for_enumT {K : PySem.W.Frag} {a : Addr} {xs : List V} {g : TG} {tb : TS} {D : Ends} {σ : L2.St} {H : Hp} (Pv : Nat → L2.St → Hp → Prop) (h0 : Pv 0 σ H) (hq : ∀ i σ H, Pv i σ H → SqT K H a xs)
    (hstep : ∀ i x σ H T, xs[i]? = some x → Pv i σ H → H T = none → g (.ref T) σ (upd H T (.tup [.int (i : Nat), x])) fun σ2 H2 => tb { D with nx := Pv (i + 1), ct := Pv (i + 1), bk := D.nx } σ2 H2)
    (hend : ∀ σ H, Pv xs.length σ H → D.nx σ H) :
    ∃ W : Nat → Nat → L2.St → Hp → Prop, (∃ m, W 0 m σ H) ∧ ∀ i m σ H, W i m σ H →
      ((IteT K a).stop i H ∧ D.nx σ H) ∨ ((IteT K a).go i H ∧ ∃ N : L2.St → Hp → Prop, (∀ σ' H', N σ' H' → ∃ m', m' < m ∧ W (i + 1) m' σ' H') ∧ ∀ x H', (IteT K a).yld i H x H' → g x σ H' fun σ2 H2 => tb { D with nx := N, ct := N, bk := D.nx } σ2 H2) := by
  refine ⟨fun i m σ H => i ≤ xs.length ∧ m = xs.length - i ∧ Pv i σ H, ⟨_, Nat.zero_le _, rfl, h0⟩, fun i m σ H ⟨hi, hm, hp⟩ => ?_⟩
  have hs := hq i σ H hp
  rcases Nat.lt_or_ge i xs.length with hlt | hge
  · obtain ⟨x, hx⟩ : ∃ x, xs[i]? = some x := ⟨xs[i], List.getElem?_eq_getElem hlt⟩
    refine .inr ⟨⟨xs, x, hs, hx⟩, Pv (i + 1), fun σ' H' h' => ⟨xs.length - (i + 1), by omega, hlt, rfl, h'⟩, ?_⟩
    rintro y H' ⟨T, z, rfl, hT, rfl, hz⟩
    have e := hz xs hs
    rw [hx] at e
    cases e
    exact hstep i x σ H T hx hp hT
  · have e : i = xs.length := Nat.le_antisymm hi hge
    refine .inl ⟨⟨xs, hs, hge⟩, hend σ H (e ▸ hp)⟩
/-- the defs within a class -/
def clsBody : Stmt → List Stmt
  | .ClassDef _ _ _ b _ _ _ _ _ _ _ => b
  | _ => []
end Lm
namespace Lm
open PySem PySem.Spec PyProof.Rows L2 LmR
/-- isinstance(e, c), e the exception at a, of the class at C, its fields at dd -/
def rIsX (K : PySem.W.Frag) (C a dd : Addr) : List V → Hp → VK → Prop := fun xs H Q => ∃ (D : Addr) (b : Bool), xs = [.ref a, .ref D] ∧ PySem.W.kitOne K (.ref C) (.ref D) = some b ∧ (∃ fs, H dd = some (.xd fs)) ∧ Q (.bl b) H
theorem call_isX {X : Cx} {a C dd : Addr} {oe : Obj} (k : ExK X.K C) (hz : Zc (.ref C) (some dd) oe) (hf : ∃ vs, oe.data = .fields vs) (hp : (a, oe) ∈ X.pn) : CallR X (.builtin "isinstance") (rIsX X.K C a dd) := by
  intro pins s σ H xs us Q I r h
  obtain ⟨D, b, rfl, e, ⟨fs, ea⟩, q⟩ := h
  obtain ⟨u1, u2, rfl, r1, r2⟩ := vals2 r
  cases (show u1 = Value.ref a from r1)
  cases (show u2 = Value.ref D from r2)
  obtain ⟨ha, _⟩ := I.pin (a, oe) (List.mem_append_left _ hp)
  obtain ⟨vs, hd⟩ := hf
  have hx : ObjOk X.prog X.w H s.heap dd (.xd fs) := I.hok dd _ ea
  obtain ⟨mA, hns, hr⟩ := hx
  obtain ⟨od, ho, hl⟩ := lookIn_ns hns
  have J : PySem.W.InstAt s.heap a oe C (some od) := ⟨ha, hz.1, by unfold PySem.W.notCls; rw [hd] <;> rfl, by rw [hz.2]; exact ho⟩
  exact PySem.W.kia_one (PySem.W.kitx_exc k.cl k.ga k.gg k.ex k.ca k.gn k.tk k.ob) I.kIn J e (fun z => nomatch z) fun tk => ⟨.bl b, H, I.tok tk, rfl, q⟩
/-- the twelve classes, and of which of them the class at C is -/
structure Srt (K : PySem.W.Frag) (mg : Str → Option Value) (C : Addr) (c1 c2 c3 c4 c5 c6 c7 c8 c9 c10 c11 c12 : Addr) (b1 b2 b3 b4 b5 b6 b7 b8 b9 b10 b11 b12 : Bool) : Prop where
  g1 : mg "NoHead" = some (.ref c1)
  g2 : mg "NoProgram" = some (.ref c2)
  g3 : mg "NoText" = some (.ref c3)
  g4 : mg "NoStock" = some (.ref c4)
  g5 : mg "NoAnswer" = some (.ref c5)
  g6 : mg "NoInputs" = some (.ref c6)
  g7 : mg "Clash" = some (.ref c7)
  g8 : mg "NoRow" = some (.ref c8)
  g9 : mg "NoQuestion" = some (.ref c9)
  g10 : mg "NoDoer" = some (.ref c10)
  g11 : mg "NotKept" = some (.ref c11)
  g12 : mg "NoName" = some (.ref c12)
  k1 : PySem.W.kitOne K (.ref C) (.ref c1) = some b1
  k2 : PySem.W.kitOne K (.ref C) (.ref c2) = some b2
  k3 : PySem.W.kitOne K (.ref C) (.ref c3) = some b3
  k4 : PySem.W.kitOne K (.ref C) (.ref c4) = some b4
  k5 : PySem.W.kitOne K (.ref C) (.ref c5) = some b5
  k6 : PySem.W.kitOne K (.ref C) (.ref c6) = some b6
  k7 : PySem.W.kitOne K (.ref C) (.ref c7) = some b7
  k8 : PySem.W.kitOne K (.ref C) (.ref c8) = some b8
  k9 : PySem.W.kitOne K (.ref C) (.ref c9) = some b9
  k10 : PySem.W.kitOne K (.ref C) (.ref c10) = some b10
  k11 : PySem.W.kitOne K (.ref C) (.ref c11) = some b11
  k12 : PySem.W.kitOne K (.ref C) (.ref c12) = some b12
def Sorts (K : PySem.W.Frag) (mg : Str → Option Value) (C : Addr) (bs : List Bool) : Prop := ∃ c1 c2 c3 c4 c5 c6 c7 c8 c9 c10 c11 c12 b1 b2 b3 b4 b5 b6 b7 b8 b9 b10 b11 b12,
  Srt K mg C c1 c2 c3 c4 c5 c6 c7 c8 c9 c10 c11 c12 b1 b2 b3 b4 b5 b6 b7 b8 b9 b10 b11 b12 ∧ bs = [b1, b2, b3, b4, b5, b6, b7, b8, b9, b10, b11, b12]
def spSorts (C a : Addr) (cls : Value) (d : Option Addr) (bs : List Bool) : Sp := fun vs H Q _ => vs = [.ref a] ∧ cls = .ref C ∧ ∃ dd fs, d = some dd ∧ H dd = some (.xd fs) ∧ ∀ H' l, Same H H' → H' l = some (.lst (bs.map V.bl)) → Q (.ref l) H'
end Lm

set_option Elab.async false
set_option linter.all false
set_option maxRecDepth 100000
set_option maxHeartbeats 2000000
namespace Lm
open PySem PySem.Spec PyProof.Rows L2 LmR
/-! ### programs as data, whatever they are -/
theorem dpall_app {K : PySem.W.Frag} {H : Hp} : ∀ {xs ys : List V} {ds es : List PyData}, DpAll K H xs ds → DpAll K H ys es → DpAll K H (xs ++ ys) (ds ++ es)
  | [], _, _, _, .nil, b => b
  | _ :: _, _, _, _, .cons a r, b => .cons a (dpall_app r b)
theorem flats_app : ∀ ds es : List PyData, flat.flats ds = true → flat.flats es = true → flat.flats (ds ++ es) = true
  | [], _, _, b => b
  | d :: ds, es, a, b => by
    rw [flat.flats, Bool.and_eq_true] at a
    rw [List.cons_append, flat.flats, a.1, flats_app ds es a.2 b]
    rfl
theorem flats_nth : ∀ ds : List PyData, flat.flats ds = true → ∀ (i : Nat) (d : PyData), ds[i]? = some d → flat d = true
  | [], _, _, _, h => by simp at h
  | d :: ds, a, i, e, h => by
    rw [flat.flats, Bool.and_eq_true] at a
    cases i with
    | zero => simp at h; rw [← h]; exact a.1
    | succ i => exact flats_nth ds a.2 i e (by simpa using h)
theorem iteY {c : Prop} [Decidable c] {A B : Prop} (h : c) (a : A) : if c then A else B := by rw [if_pos h]; exact a
/-- how many numbers and parts stand behind a word -/
def nnW (w : Str) : Option (Nat × Nat) :=
  if w = "in" ∨ w = "num" then some (1, 0) else if w = "plus" then some (1, 1) else if w = "yes" ∨ w = "no" then some (0, 0) else if w = "not" then some (0, 1) else if w = "if" then some (0, 3)
  else if w = "least" ∨ w = "most" ∨ w = "atmost" ∨ w = "both" ∨ w = "either" then some (0, 2) else none
/-- each word is a program's -/
theorem nnW_pg {w : Str} {n m : Nat} (h : nnW w = some (n, m)) : ∃ p : Pg, word p = w ∧ nn p = n ∧ (parts p).length = m := by
  unfold nnW at h
  split at h
  · rename_i c
    cases h
    rcases c with rfl | rfl
    · exact ⟨.inp 0, rfl, rfl, rfl⟩
    · exact ⟨.num 0, rfl, rfl, rfl⟩
  split at h
  · rename_i c
    cases h
    subst c
    exact ⟨.plus 0 (.num 0), rfl, rfl, rfl⟩
  split at h
  · rename_i c
    cases h
    rcases c with rfl | rfl
    · exact ⟨.tr true, rfl, rfl, rfl⟩
    · exact ⟨.tr false, rfl, rfl, rfl⟩
  split at h
  · rename_i c
    cases h
    subst c
    exact ⟨.neg (.num 0), rfl, rfl, rfl⟩
  split at h
  · rename_i c
    cases h
    subst c
    exact ⟨.ite (.num 0) (.num 0) (.num 0), rfl, rfl, rfl⟩
  split at h
  · rename_i c
    cases h
    rcases c with rfl | rfl | rfl | rfl | rfl
    · exact ⟨.bin .least (.num 0) (.num 0), rfl, rfl, rfl⟩
    · exact ⟨.bin .most (.num 0) (.num 0), rfl, rfl, rfl⟩
    · exact ⟨.bin .atmost (.num 0) (.num 0), rfl, rfl, rfl⟩
    · exact ⟨.bin .both (.num 0) (.num 0), rfl, rfl, rfl⟩
    · exact ⟨.bin .either (.num 0) (.num 0), rfl, rfl, rfl⟩
  · cases h
def whole (d : PyData) : Bool := isInt d && !isBl d
/-- whether a thing has a knot's form -/
def hasF : PyData → Bool
  | .tuple (.str w :: r) => match nnW w with
    | some (n, m) => (r.length == n + m) && (n == 0 || (r.head?.map whole).getD false)
    | none => false
  | _ => false
/-- the word ahead is one of these, or a program's -/
def wordOk (bad : List Str) : PyData → Prop
  | .tuple (.str w :: _) => (nnW w).isSome = true ∨ w ∈ bad
  | _ => True
/-- FORMS has none of these words -/
def NoForms (K : PySem.W.Frag) (d : Addr) (bad : List Str) : Prop := ∀ x ∈ bad, PySem.W.nsIn K d x = some none ∧ nnW x = none
section
variable {P : Program} {w : World} {K : PySem.W.Frag} {mg : Str → Option Value} {base : Heap}
def spHFD (K : PySem.W.Frag) (bad : List Str) : Sp := fun vs H Q _ => ∃ (v : V) (d : PyData), vs = [v] ∧ Fd K H v d ∧ wordOk bad d ∧ dsz d ≤ 90000 ∧ Q (.bl (hasF d)) H
theorem ok_has_formD {d : Addr} {bad : List Str} (B : Bt mg) (F : Forms K w mg d) (nof : NoForms K d bad) (C_is_whole : Cal P w K mg base 1 "is_whole" ["thing"] (spWhole K)) (C_many_numbers : Cal P w K mg base 1 "many_numbers" ["word"] (spMN)) (C_many_parts : Cal P w K mg base 1 "many_parts" ["word"] (spMP)) (D : DefAt K mg "has_form" s_has_form ["thing"]) : Cal P w K mg base 2 "has_form" ["thing"] (spHFD K bad) := by
  refine cal_of D sc_has_form (fun vs H Q E h => ?_) (fun f cdv A outer s H vs Q E hr h => ?_)
  · obtain ⟨v, p, rfl, _⟩ := h
    rfl
  obtain ⟨v, dd, rfl, hv, hw, hz, q⟩ := h
  have hFORMS := F.g
  obtain ⟨es, n, kd⟩ := F.k
  have hr' : Room 1 _ := hr
  refine ⟨_, (pss_cons (ps_if (PW.pt (pw_or (pt_not (pt_val (pe_callB call_isi (by rfl) B.isinstance (by decide +kernel) (pa_cons (pv 0) (pa_cons (pe_bltn (v := .ty "tuple") (by rfl) B.tuple PyProof.Rows.boot_tuple rfl) pa_nil))))) (pw_or (pt_cmpR op_eq (pe_callB call_len_seq (by rfl) B.len PySem.boot_len (pa_cons (pv 0) pa_nil)) pe_int (nomark _)) (pw_or1 (pt_not (pt_val (pe_callB call_isi (by rfl) B.isinstance (by decide +kernel) (pa_cons (pe_ix ix_tup (pv 0) pe_int (fun _ _ => rfl)) (pa_cons (pe_bltn (v := .ty "str") (by rfl) B.str PyProof.Rows.boot_str rfl) pa_nil)))))))))
        (pss_one (ps_ret pe_bl))
        pss_nil)
      (pss_cons (ps_set (i := 1) sc_has_form.nd rfl (.inl rfl) (pe_ix ix_tup (pv 0) pe_int (fun _ _ => rfl)))
      (pss_cons (ps_if (PW.pt (pw_or (pt_cmpR (op_notIn_kd kd) (pv 1) (pe_gr (by rfl) hFORMS) rfl) (pw_or1 (pt_cmpR op_ne (pe_callB call_len_seq (by rfl) B.len PySem.boot_len (pa_cons (pv 0) pa_nil)) (pe_op op_add (pe_op op_add pe_int (pe_cal C_many_numbers hr' (by rfl) (pa_cons (pv 1) pa_nil))) (pe_cal C_many_parts hr' (by rfl) (pa_cons (pv 1) pa_nil))) (nomark _)))))
        (pss_one (ps_ret pe_bl))
        pss_nil)
      (pss_one (ps_ret (pe_or (pe_cmpR op_eq (pe_cal C_many_numbers hr' (by rfl) (pa_cons (pv 1) pa_nil)) pe_int (nomark _)) (pe_one (pe_cal C_is_whole hr' (by rfl) (pa_cons (pe_ix ix_tup (pv 0) pe_int (fun _ _ => rfl)) pa_nil))))))))), ?_⟩
  refine ⟨_, rfl, v, _, _, _, _, rfl, .ty _, hv.ty, kit_tup dd hv.1, _, rfl, ite2 (fun c => ?_) (fun c => ?_)⟩
  · have e : hasF dd = false := by
      cases dd <;> first | rfl | (simp [isTup] at c; done)
    rw [e] at q
    exact iteY rfl q
  have it : isTup dd = true := by simpa using c
  obtain ⟨ds, rfl⟩ : ∃ ds, dd = .tuple ds := by cases dd <;> first | exact ⟨_, rfl⟩ | (simp [isTup] at it; done)
  obtain ⟨a, xs, rfl, qa, r⟩ : ∃ a xs, v = .ref a ∧ SqT K H a xs ∧ DpAll K H xs ds := by
    cases hv.2 with
    | tup qa r => exact ⟨_, _, rfl, qa, r⟩
  have hl := dpall_len r
  refine ⟨_, rfl, a, xs, rfl, .inr qa, rfl, _, rfl, ite2 (fun c2 => ?_) (fun c2 => ?_)⟩
  · have e : hasF (.tuple ds) = false := by
      have n2 : ds = [] := by
        have z : ((xs.length : Nat) : Int) = 0 := by simpa using c2
        exact List.length_eq_zero_iff.mp (by omega)
      rw [n2]
      rfl
    rw [e] at q
    exact iteY rfl q
  obtain ⟨d0, rs, rfl⟩ : ∃ d0 rs, ds = d0 :: rs := by
    cases ds with
    | nil =>
      have z : xs = [] := List.length_eq_zero_iff.mp hl
      subst z
      exact absurd rfl c2
    | cons d0 rs => exact ⟨_, _, rfl⟩
  obtain ⟨v0, ys, rfl, r0, rr⟩ : ∃ v0 ys, xs = v0 :: ys ∧ Dp K H v0 d0 ∧ DpAll K H ys rs := by
    cases r with
    | cons r1 r => exact ⟨_, _, rfl, r1, r⟩
  have f0 : flat d0 = true ∧ flat.flats rs = true := by
    simpa [flat, flat.flats] using hv.1
  have h0 : Fd K H v0 d0 := ⟨f0.1, r0⟩
  refine ⟨_, rfl, a, _, 0, _, rfl, rfl, qa, at_of (j := 0) rfl rfl, _, _, _, _, _, rfl, .ty _, h0.ty, kit_str d0 f0.1, _, rfl, ite2 (fun c3 => ?_) (fun c3 => ?_)⟩
  · have e : hasF (.tuple (d0 :: rs)) = false := by
      cases d0 <;> first | rfl | (simp [isStr] at c3; done)
    rw [e] at q
    exact q
  obtain ⟨wd, rfl⟩ : ∃ wd, d0 = .str wd := by
    have z : isStr d0 = true := by simpa using c3
    cases d0 <;> first | exact ⟨_, rfl⟩ | (simp [isStr] at z; done)
  cases r0
  refine ⟨_, rfl, a, _, 0, _, rfl, rfl, qa, at_of (j := 0) rfl rfl, ?_⟩
  rcases (show (nnW wd).isSome = true ∨ wd ∈ bad from hw) with hs | hb
  · obtain ⟨⟨n1, m1⟩, hnm⟩ := Option.isSome_iff_exists.mp hs
    obtain ⟨p, rfl, e1, e2⟩ := nnW_pg hnm
    obtain ⟨t, u, e, _, _⟩ := F.e p
    have hF : hasF (.tuple (.str (word p) :: rs)) = ((rs.length == n1 + m1) && (n1 == 0 || (rs.head?.map whole).getD false)) := by
      show (match nnW (word p) with | some (n, m) => _ | none => false) = _
      rw [hnm]
    refine ⟨_, rfl, word p, _, rfl, rfl, e, _, rfl, ?_⟩
    refine ⟨_, rfl, a, _, rfl, .inr qa, _, rfl, p, rfl, _, _, rfl, rfl, _, rfl, p, rfl, _, _, rfl, rfl, rfl, _, rfl, ite2 (fun c4 => ?_) (fun c4 => ?_)⟩
    · have ne : rs.length ≠ n1 + m1 := fun z => by
        have y : (!decide (V.int (((V.str (word p) :: ys).length : Nat) : Int) = V.int (1 + (nn p : Int) + ((parts p).length : Nat)))) = true := c4
        rw [e1, e2, List.length_cons, dpall_len rr, z] at y
        have x : (((n1 + m1 + 1 : Nat)) : Int) = 1 + (n1 : Int) + (m1 : Nat) := by omega
        rw [x] at y
        simp at y
      have hF2 : hasF (.tuple (.str (word p) :: rs)) = false := by
        rw [hF, beq_false_of_ne ne]
        rfl
      rw [hF2] at q
      exact q
    · have eq : rs.length = n1 + m1 := by
        have y : ¬ (!decide (V.int (((V.str (word p) :: ys).length : Nat) : Int) = V.int (1 + (nn p : Int) + ((parts p).length : Nat)))) = true := c4
        have x : V.int (((V.str (word p) :: ys).length : Nat) : Int) = V.int (1 + (nn p : Int) + ((parts p).length : Nat)) := by simpa using y
        have x2 := V.int.inj x
        rw [e1, e2, List.length_cons, dpall_len rr] at x2
        omega
      have hF2 : hasF (.tuple (.str (word p) :: rs)) = (n1 == 0 || (rs.head?.map whole).getD false) := by
        rw [hF, eq, beq_self_eq_true, Bool.true_and]
      rw [hF2] at q
      refine ⟨_, rfl, p, rfl, rfl, _, rfl, ite2 (fun c5 => ?_) (fun c5 => ?_)⟩
      · have z : n1 = 0 := by
          have y : V.int (nn p : Int) = V.int 0 := of_decide_eq_true c5
          have x := V.int.inj y
          omega
        rw [z] at q
        exact q
      · have z : n1 ≠ 0 := fun y => c5 (decide_eq_true (by rw [e1, y]; rfl))
        have zb : (n1 == 0) = false := beq_false_of_ne z
        rw [zb, Bool.false_or] at q
        obtain ⟨dx, rs', rfl⟩ : ∃ dx rs', rs = dx :: rs' := by
          cases rs with
          | nil => simp at eq; omega
          | cons x y => exact ⟨_, _, rfl⟩
        obtain ⟨vx, ys', rfl, rx, _⟩ : ∃ v0 ys', ys = v0 :: ys' ∧ Dp K H v0 dx ∧ DpAll K H ys' rs' := by
          cases rr with
          | cons r1 r => exact ⟨_, _, rfl, r1, r⟩
        have fx : flat dx = true := by
          have z := f0.2
          rw [flat.flats, Bool.and_eq_true] at z
          exact z.1
        exact ⟨_, rfl, a, _, 1, _, rfl, rfl, qa, at_of (j := 1) rfl rfl, vx, dx, rfl, ⟨fx, rx⟩, q⟩
  · obtain ⟨e, hno⟩ := nof wd hb
    have hF : hasF (.tuple (.str wd :: rs)) = false := by
      show (match nnW wd with | some (n, m) => _ | none => false) = _
      rw [hno]
    rw [hF] at q
    exact ⟨_, rfl, wd, _, rfl, rfl, e, _, rfl, iteY rfl q⟩
end
end Lm

set_option Elab.async false
set_option linter.all false
set_option maxRecDepth 100000
set_option maxHeartbeats 2000000
namespace Lm
open PySem PySem.Spec PyProof.Rows L2 LmR
/-! ### rows of data -/
def Fds (K : PySem.W.Frag) (H : Hp) (vs : List V) (ds : List PyData) : Prop := flat.flats ds = true ∧ DpAll K H vs ds
theorem Fds.keep {K : PySem.W.Frag} {H H' : Hp} {vs : List V} {ds : List PyData} (h : Fds K H vs ds) (t : Tp K H H') : Fds K H' vs ds := ⟨h.1, dps_keep t ds vs h.1 h.2⟩
theorem Fds.nil {K : PySem.W.Frag} {H : Hp} : Fds K H [] [] := ⟨rfl, .nil⟩
theorem Fds.cons {K : PySem.W.Frag} {H : Hp} {v : V} {d : PyData} {vs : List V} {ds : List PyData} (a : Fd K H v d) (b : Fds K H vs ds) : Fds K H (v :: vs) (d :: ds) := ⟨by rw [flat.flats, a.1, b.1]; rfl, .cons a.2 b.2⟩
theorem Fds.app {K : PySem.W.Frag} {H : Hp} {vs ws : List V} {ds es : List PyData} (a : Fds K H vs ds) (b : Fds K H ws es) : Fds K H (vs ++ ws) (ds ++ es) := ⟨flats_app ds es a.1 b.1, dpall_app a.2 b.2⟩
theorem Fds.len {K : PySem.W.Frag} {H : Hp} {vs : List V} {ds : List PyData} (a : Fds K H vs ds) : vs.length = ds.length := dpall_len a.2
theorem Fds.two {K : PySem.W.Frag} {H : Hp} {v : V} {d : PyData} {vs : List V} {ds : List PyData} (h : Fds K H (v :: vs) (d :: ds)) : Fd K H v d ∧ Fds K H vs ds := by
  obtain ⟨f, r⟩ := h
  rw [flat.flats, Bool.and_eq_true] at f
  cases r with
  | cons a b => exact ⟨⟨f.1, a⟩, f.2, b⟩
theorem Fds.drop {K : PySem.W.Frag} {H : Hp} : ∀ (n : Nat) {vs : List V} {ds : List PyData}, Fds K H vs ds → Fds K H (vs.drop n) (ds.drop n)
  | 0, _, _, h => h
  | n + 1, [], [], h => h
  | n + 1, _ :: _, _ :: _, h => Fds.drop n h.two.2
  | n + 1, [], _ :: _, h => by cases h.2
  | n + 1, _ :: _, [], h => by cases h.2
/-! ### the parts and the knots of data -/
def skipD : List PyData → Nat
  | .str w :: _ => 1 + ((nnW w).map (·.1)).getD 0
  | _ => 0
def partsD : PyData → List PyData
  | .tuple xs => xs.drop (skipD xs)
  | _ => []
def knD : PyData → List PyData
  | .tuple xs => .tuple xs :: (if hasF (.tuple xs) then knL xs (skipD xs) else [])
  | d => [d]
where knL : List PyData → Nat → List PyData
  | [], _ => []
  | _ :: ds, n + 1 => knL ds n
  | d :: ds, 0 => knD d ++ knL ds 0
def knDs (ds : List PyData) : List PyData := (ds.map knD).flatten
theorem knL_eq : ∀ (xs : List PyData) (n : Nat), knD.knL xs n = knDs (xs.drop n)
  | [], n => by cases n <;> simp [knD.knL, knDs]
  | _ :: ds, n + 1 => by
    rw [knD.knL, knL_eq ds n]
    rfl
  | d :: ds, 0 => by
    rw [knD.knL, knL_eq ds 0]
    simp [knDs]
theorem knDs_cons (d : PyData) (ds : List PyData) : knDs (d :: ds) = d :: knDs ((if hasF d then partsD d else []) ++ ds) := by
  have e : knD d = d :: knDs (if hasF d then partsD d else []) := by
    cases d with
    | tuple xs =>
      rw [knD, knL_eq]
      by_cases h : hasF (.tuple xs) = true
      · rw [if_pos h, if_pos h]
        rfl
      · rw [if_neg h, if_neg h]
        rfl
    | _ => rfl
  show knD d ++ knDs ds = _
  rw [e]
  simp [knDs]
theorem knDs_len : ∀ ds : List PyData, ds.length ≤ (knDs ds).length
  | [] => Nat.le_refl _
  | d :: ds => by
    rw [knDs_cons]
    have := knDs_len ds
    have e : knDs ((if hasF d then partsD d else []) ++ ds) = knDs (if hasF d then partsD d else []) ++ knDs ds := by simp [knDs]
    rw [e, List.length_cons, List.length_cons, List.length_append]
    omega
section
variable {P : Program} {w : World} {K : PySem.W.Frag} {mg : Str → Option Value} {base : Heap}
/-! ### parts_of, knots -/
def spPOD (K : PySem.W.Frag) : Sp := fun vs H Q _ => ∃ (v : V) (d : PyData), vs = [v] ∧ Fd K H v d ∧ hasF d = true ∧ ∀ (t : Addr) (us : List V), H t = none → Fds K H us (partsD d) → Q (.ref t) (upd H t (.tup us))
theorem ok_parts_ofD (C_many_numbers : Cal P w K mg base 1 "many_numbers" ["word"] (spMN)) (D : DefAt K mg "parts_of" s_parts_of ["knot"]) : Cal P w K mg base 2 "parts_of" ["knot"] (spPOD K) := by
  refine cal_of D sc_parts_of (fun vs H Q E h => ?_) (fun f cdv A outer s H vs Q E hr h => ?_)
  · obtain ⟨v, p, rfl, _⟩ := h
    rfl
  obtain ⟨v, d, rfl, hv, hf, q⟩ := h
  have hr' : Room 1 _ := hr
  refine ⟨_, (pss_one (ps_ret (pe_slice sl_tup (pv 0) (po_some (pe_op op_add pe_int (pe_cal C_many_numbers hr' (by rfl) (pa_cons (pe_ix ix_tup (pv 0) pe_int (fun _ _ => rfl)) pa_nil)))) po_none))), ?_⟩
  obtain ⟨wd, rs, n, m, rfl, hnm⟩ : ∃ wd rs n m, d = .tuple (.str wd :: rs) ∧ nnW wd = some (n, m) := by
    cases d with
    | tuple xs =>
      cases xs with
      | nil => cases hf
      | cons x xs =>
        cases x with
        | str wd =>
          cases e : nnW wd with
          | none =>
            have z : hasF (.tuple (.str wd :: xs)) = false := by
              show (match nnW wd with | some (n, m) => _ | none => false) = _
              rw [e]
            rw [z] at hf
            cases hf
          | some nm => exact ⟨wd, xs, nm.1, nm.2, rfl, e⟩
        | _ => cases hf
    | _ => cases hf
  obtain ⟨a, xs, rfl, qa, r⟩ : ∃ a xs, v = .ref a ∧ SqT K H a xs ∧ DpAll K H xs (.str wd :: rs) := by
    cases hv.2 with
    | tup qa r => exact ⟨_, _, rfl, qa, r⟩
  have hall : Fds K H xs (.str wd :: rs) := ⟨hv.1, r⟩
  obtain ⟨ys, rfl⟩ : ∃ ys, xs = .str wd :: ys := by
    cases r with
    | cons r0 rr => cases r0; exact ⟨_, rfl⟩
  obtain ⟨p, rfl, e1, e2⟩ := nnW_pg hnm
  have e3 : (1 : Int) + (nn p : Int) = ((1 + nn p : Nat) : Int) := by omega
  have sk : skipD (.str (word p) :: rs) = 1 + nn p := by
    show 1 + ((nnW (word p)).map (·.1)).getD 0 = _
    rw [hnm, e1]
    rfl
  refine ⟨_, rfl, _, rfl, a, _, 0, _, rfl, rfl, qa, at_of (j := 0) rfl rfl, p, rfl, _, _, rfl, rfl, _, rfl, a, _, rfl, qa, ?_, fun t ht => ?_⟩
  · rintro ⟨z, _⟩
    rw [e3, show HT.sIx (V.str (word p) :: ys).length 0 (some ((1 + nn p : Nat) : Int)) = min (1 + nn p) (V.str (word p) :: ys).length from HT.sIx_nat _ 0 _, List.length_cons] at z
    omega
  · have ec : cutV (V.str (word p) :: ys) (some ((1 : Int) + (nn p : Int))) none = (V.str (word p) :: ys).drop (1 + nn p) := by
      unfold cutV
      rw [e3, show HT.sIx (V.str (word p) :: ys).length 0 (some ((1 + nn p : Nat) : Int)) = min (1 + nn p) (V.str (word p) :: ys).length from HT.sIx_nat _ 0 _, HT.sIx_none]
      by_cases h : 1 + nn p ≤ (V.str (word p) :: ys).length
      · rw [Nat.min_eq_left h]
        exact List.take_of_length_le (by rw [List.length_drop]; exact Nat.le_refl _)
      · rw [Nat.min_eq_right (by omega), List.drop_eq_nil_of_le (Nat.le_refl _), List.drop_eq_nil_of_le (by omega), List.take_nil]
    rw [ec]
    refine q t _ ht ?_
    show Fds K H _ ((PyData.str (word p) :: rs).drop (skipD (.str (word p) :: rs)))
    rw [sk]
    exact hall.drop _
def spKnD (K : PySem.W.Frag) (bad : List Str) : Sp := fun vs H Q _ => ∃ (v : V) (d : PyData), vs = [v] ∧ Fd K H v d ∧ (knD d).length ≤ 10000 ∧ (∀ x ∈ knD d, wordOk bad x ∧ dsz x ≤ 90000) ∧ ∀ (l : Addr) (us : List V) (H' : Hp), Same H H' → H l = none → H' l = some (.lst us) → Fds K H' us (knD d) → Q (.ref l) H'
theorem ok_knotsD {bad : List Str} (C_has_form : Cal P w K mg base 2 "has_form" ["thing"] (spHFD K bad)) (C_parts_of : Cal P w K mg base 2 "parts_of" ["knot"] (spPOD K)) (D : DefAt K mg "knots" s_knots ["program"]) : Cal P w K mg base 3 "knots" ["program"] (spKnD K bad) := by
  refine cal_of D sc_knots (fun vs H Q E h => ?_) (fun f cdv A outer s H vs Q E hr h => ?_)
  · obtain ⟨v, p, rfl, _⟩ := h
    rfl
  obtain ⟨v, d, rfl, hv, hsz, hwk, q⟩ := h
  have hr' : Room 2 _ := hr
  refine ⟨_, (pss_cons (ps_set (i := 1) sc_knots.nd rfl (.inl rfl) (pe_lst pa_nil))
      (pss_cons (ps_set (i := 2) sc_knots.nd rfl (.inl rfl) (pe_lst (pa_cons (pv 0) pa_nil)))
      (pss_cons (ps_while PassesOwn.never (pt_truth (pv 2) (by intro _; rfl))
        (pss_cons (ps_set (i := 3) sc_knots.nd rfl (.inl rfl) (pe_bm0 PySem.F.plainAttrs_list PySem.F.slot_list_pop PySem.F.type_list_pop mt_pop (pv 2)))
      (pss_cons (ps_expr (pe_bm PySem.F.plainAttrs_list PySem.F.slot_list_append PySem.F.type_list_append mt_append (pv 1) (pa_cons (pv 3) pa_nil)))
      (pss_one (ps_if (pt_val (pe_cal C_has_form hr' (by rfl) (pa_cons (pv 3) pa_nil)))
        (pss_one (ps_expr (pe_bm PySem.F.plainAttrs_list PySem.F.slot_list_extend PySem.F.type_list_extend mt_extendT (pv 2) (pa_cons (pe_revT (pe_cal C_parts_of hr' (by rfl) (pa_cons (pv 3) pa_nil))) pa_nil))))
        pss_nil)))))
      (pss_one (ps_ret (pv 1)))))), ?_⟩
  refine ⟨(by show 0 ≤ sizeLine; decide), fun lt hlt => ⟨_, rfl, (by show 1 ≤ sizeLine; decide), fun lw hlw => ?_⟩⟩
  have s1 : Same H (upd H lt (.lst [])) := same_new hlt
  have s2 : Same (upd H lt (.lst [])) (upd (upd H lt (.lst [])) lw (.lst [v])) := same_new hlw
  have lw0 : H lw = none := s1.free hlw
  have ntw : lt ≠ lw := fun z => by rw [← z, upd_same] at hlw; cases hlw
  have one : knDs [d] = knD d := by simp [knDs]
  refine ⟨fun m σ H' => ∃ (fs done : List PyData) (us ws : List V) (y3 : Option V), σ = [some v, some (.ref lt), some (.ref lw), y3] ∧ m = (knDs fs).length ∧ Same H H' ∧ H' lt = some (.lst us) ∧ H' lw = some (.lst ws.reverse) ∧ Fds K H' ws fs ∧ Fds K H' us done ∧ done ++ knDs fs = knD d, ?_, ?_⟩
  · refine ⟨_, [d], [], [], [v], none, rfl, rfl, s1.trans s2, s2 _ _ upd_same, upd_same, .cons (hv.keep (Tp.same (s1.trans s2))) .nil, .nil, one⟩
  · rintro m σ H' ⟨fs, done, us, ws, y3, rfl, rfl, sm, ht, hw, aw, au, ek⟩
    have lk : done.length + (knDs fs).length = (knD d).length := by rw [← ek, List.length_append]
    refine ⟨_, rfl, _, .inl ⟨_, SqL.of hw, rfl⟩, ite2 (fun c => ?_) (fun c => ?_)⟩
    · cases ws with
      | nil => simp at c
      | cons x ws =>
        cases fs with
        | nil => cases aw.2
        | cons r fs =>
          obtain ⟨ax, aws⟩ := aw.two
          rw [List.reverse_cons] at hw
          have hr0 : wordOk bad r ∧ dsz r ≤ 90000 := hwk r (by rw [← ek, knDs_cons]; simp)
          rw [knDs_cons] at ek lk ⊢
          rw [List.length_cons] at lk ⊢
          refine ⟨fun σ' H2 => ∃ m', m' < (knDs ((if hasF r then partsD r else []) ++ fs)).length + 1 ∧ ∃ (fs done : List PyData) (us ws : List V) (y3 : Option V), σ' = [some v, some (.ref lt), some (.ref lw), y3] ∧ m' = (knDs fs).length ∧ Same H H2 ∧ H2 lt = some (.lst us) ∧ H2 lw = some (.lst ws.reverse) ∧ Fds K H2 ws fs ∧ Fds K H2 us done ∧ done ++ knDs fs = knD d, fun σ' H2 h => h, ?_⟩
          refine ⟨_, rfl, .inl ⟨rfl, _, SqL.of hw⟩, lw, _, x, rfl, rfl, hw, ?_, ?_⟩
          · rw [List.length_append, List.length_singleton, Nat.add_sub_cancel, List.getElem?_append_right (Nat.le_refl _), Nat.sub_self]
            rfl
          rw [List.dropLast_concat]
          have t2 : Tp K H' (upd H' lw (.lst ws.reverse)) := Tp.lst hw
          have hw2 : (upd H' lw (.lst ws.reverse)) lw = some (.lst ws.reverse) := upd_same
          have ht2 : (upd H' lw (.lst ws.reverse)) lt = some (.lst us) := by rw [upd_ne ntw]; exact ht
          have sm2 : Same H (upd H' lw (.lst ws.reverse)) := fun b o z => by
            rw [upd_ne (ne_of_none z lw0)]
            exact sm b o z
          generalize upd H' lw (.lst ws.reverse) = H2 at t2 hw2 ht2 sm2
          have ul : us.length = done.length := au.len
          refine ⟨_, rfl, .inl ⟨rfl, _, SqL.of ht2⟩, _, rfl, lt, _, _, rfl, rfl, ht2, smallL (by omega), ?_⟩
          have t3 : Tp K H2 (upd H2 lt (.lst (us ++ [x]))) := Tp.lst ht2
          have hw3 : (upd H2 lt (.lst (us ++ [x]))) lw = some (.lst ws.reverse) := by rw [upd_ne ntw.symm]; exact hw2
          have ht3 : (upd H2 lt (.lst (us ++ [x]))) lt = some (.lst (us ++ [x])) := upd_same
          have sm3 : Same H (upd H2 lt (.lst (us ++ [x]))) := fun b o z => by
            rw [upd_ne (ne_of_none z hlt)]
            exact sm2 b o z
          generalize upd H2 lt (.lst (us ++ [x])) = H3 at t3 hw3 ht3 sm3
          have t13 := t2.trans t3
          have ax3 := ax.keep t13
          refine ⟨_, rfl, x, r, rfl, ax3, hr0.1, hr0.2, _, rfl, ite2 (fun cf => ?_) (fun cf => ?_)⟩
          · rw [if_pos cf] at ek lk ⊢
            refine ⟨_, rfl, .inl ⟨rfl, _, SqL.of hw3⟩, _, rfl, x, r, rfl, ax3, cf, fun t vs ht' hvs => ?_⟩
            have s4 : Same H3 (upd H3 t (.tup vs)) := same_new ht'
            refine ⟨t, vs, rfl, .inl (.inl upd_same), fun t2' ht2' => ?_⟩
            have s5 : Same (upd H3 t (.tup vs)) (upd (upd H3 t (.tup vs)) t2' (.tup vs.reverse)) := same_new ht2'
            have s35 := s4.trans s5
            have hw5 := s35 _ _ hw3
            have ht5 := s35 _ _ ht3
            have vl := hvs.len
            have wl := aws.len
            have kl := knDs_len (partsD r ++ fs)
            rw [List.length_append] at kl
            refine ⟨lw, t2', _, _, rfl, rfl, hw5, .inl (.inl upd_same), by rw [List.length_reverse, List.length_reverse]; exact small (by omega), ?_⟩
            have t6 : Tp K H3 (upd (upd (upd H3 t (.tup vs)) t2' (.tup vs.reverse)) lw (.lst (ws.reverse ++ vs.reverse))) := (Tp.same s35).trans (Tp.lst hw5)
            refine ⟨(knDs (partsD r ++ fs)).length, Nat.lt_succ_self _, partsD r ++ fs, done ++ [r], us ++ [x], vs ++ ws, some x, rfl, rfl, ?_, by rw [upd_ne ntw]; exact ht5, by rw [upd_same, List.reverse_append], (hvs.keep t6).app ((aws.keep t13).keep t6), ((au.keep t13).keep t6).app (.cons (ax3.keep t6) .nil), by rw [← ek, List.append_assoc]; rfl⟩
            intro b o z
            rw [upd_ne (ne_of_none z lw0)]
            exact s35 _ _ (sm3 b o z)
          · rw [if_neg cf] at ek lk ⊢
            exact ⟨_, Nat.lt_succ_self _, fs, done ++ [r], us ++ [x], ws, some x, rfl, rfl, sm3, ht3, hw3, aws.keep t13, (au.keep t13).app (.cons ax3 .nil), by rw [← ek, List.append_assoc]; rfl⟩
    · cases ws with
      | cons x ws => exact absurd (by simp) c
      | nil =>
        cases fs with
        | cons r fs => cases aw.2
        | nil =>
          have ed : done = knD d := by rw [← ek]; simp [knDs]
          rw [ed] at au
          exact ⟨_, rfl, q lt us H' sm hlt ht au⟩
end
end Lm

set_option Elab.async false
set_option linter.all false
set_option maxRecDepth 100000
set_option maxHeartbeats 2000000
namespace Lm
open PySem PySem.Spec PyProof.Rows L2 LmR
theorem for_enumL {K : PySem.W.Frag} {a : Addr} {xs : List V} {g : TG} {tb : TS} {D : Ends} {σ : L2.St} {H : Hp} (Pv : Nat → L2.St → Hp → Prop) (h0 : Pv 0 σ H) (hq : ∀ i σ H, Pv i σ H → SqL K H a xs)
    (hstep : ∀ i x σ H T, xs[i]? = some x → Pv i σ H → H T = none → g (.ref T) σ (upd H T (.tup [.int (i : Nat), x])) fun σ2 H2 => tb { D with nx := Pv (i + 1), ct := Pv (i + 1), bk := D.nx } σ2 H2)
    (hend : ∀ σ H, Pv xs.length σ H → D.nx σ H) :
    ∃ W : Nat → Nat → L2.St → Hp → Prop, (∃ m, W 0 m σ H) ∧ ∀ i m σ H, W i m σ H →
      ((Ite K a).stop i H ∧ D.nx σ H) ∨ ((Ite K a).go i H ∧ ∃ N : L2.St → Hp → Prop, (∀ σ' H', N σ' H' → ∃ m', m' < m ∧ W (i + 1) m' σ' H') ∧ ∀ x H', (Ite K a).yld i H x H' → g x σ H' fun σ2 H2 => tb { D with nx := N, ct := N, bk := D.nx } σ2 H2) := by
  refine ⟨fun i m σ H => i ≤ xs.length ∧ m = xs.length - i ∧ Pv i σ H, ⟨_, Nat.zero_le _, rfl, h0⟩, fun i m σ H ⟨hi, hm, hp⟩ => ?_⟩
  have hs := hq i σ H hp
  rcases Nat.lt_or_ge i xs.length with hlt | hge
  · obtain ⟨x, hx⟩ : ∃ x, xs[i]? = some x := ⟨xs[i], List.getElem?_eq_getElem hlt⟩
    refine .inr ⟨⟨xs, x, hs, hx⟩, Pv (i + 1), fun σ' H' h' => ⟨xs.length - (i + 1), by omega, hlt, rfl, h'⟩, ?_⟩
    rintro y H' ⟨T, z, rfl, hT, rfl, hz⟩
    have e := hz xs hs
    rw [hx] at e
    cases e
    exact hstep i x σ H T hx hp hT
  · have e : i = xs.length := Nat.le_antisymm hi hge
    refine .inl ⟨⟨xs, hs, hge⟩, hend σ H (e ▸ hp)⟩
/-- the first one amiss, from the n-th on -/
def firstBad (f : PyData → Bool) : List PyData → Nat → Option Nat
  | [], _ => none
  | d :: ds, n => if f d then firstBad f ds (n + 1) else some n
theorem firstBad_step {f : PyData → Bool} {ds : List PyData} {i : Nat} {d : PyData} (h : ds[i]? = some d) : firstBad f (ds.drop i) i = if f d then firstBad f (ds.drop (i + 1)) (i + 1) else some i := by
  obtain ⟨hi, e⟩ := List.getElem?_eq_some_iff.mp h
  rw [List.drop_eq_getElem_cons hi, e]
  rfl
theorem Fds.nth {K : PySem.W.Frag} {H : Hp} {vs : List V} {ds : List PyData} (h : Fds K H vs ds) {i : Nat} {v : V} (e : vs[i]? = some v) : ∃ d, ds[i]? = some d ∧ Fd K H v d := by
  obtain ⟨d, hd, hD⟩ := dpall_get h.2 i v e
  exact ⟨d, hd, flats_nth ds h.1 i d hd, hD⟩
section
variable {P : Program} {w : World} {K : PySem.W.Frag} {mg : Str → Option Value} {base : Heap}
abbrev s_NoProgram : Stmt := (clsBody (topS 6)).getD 0 (.Pass ⟨0, 0, 0, 0⟩)
theorem sc_NoProgram : FnScope ["self", "word", "at"] ["self", "word", "at"] (defScope s_NoProgram) := ⟨rfl, rfl, rfl, by decide +kernel, rfl, by decide +kernel, by decide +kernel⟩
variable {c_NoProgram i_NoProgram : Addr} {f_NoProgram : FuncData}
theorem ini_NoProgram {P : Program} {w : World} {base : Heap} (R : Rf K mg "NoProgram" "NoProgram.__init__" c_NoProgram i_NoProgram f_NoProgram s_NoProgram ["word", "at"]) : FnOk P w K mg base (L2.CX P w) 1 i_NoProgram f_NoProgram ["self", "word", "at"] (spIni2 c_NoProgram "word" "at") := by
  refine R.F.okX sc_NoProgram (fun vs H Q E h => ?_) (fun cdv A outer s H vs Q E hr h => ?_)
  · obtain ⟨a, x, y, rfl, _⟩ := h
    rfl
  obtain ⟨a, x, y, rfl, ha, q⟩ := h
  refine ⟨_, pss_cons (ps_ost (pv 0) (pv 1)) (pss_one (ps_ost (pv 0) (pv 2))), ?_⟩
  refine ⟨_, rfl, _, rfl, a, _, rfl, R.o, R.fld _ (by simp), .inl ⟨ha, fun d hd nd => ⟨_, rfl, _, rfl, a, _, rfl, R.o, R.fld _ (by simp), .inr ⟨d, _, upd_same, ?_, by show 1 ≤ 900; decide, q d _ hd ?_ upd_same fun b h1 h2 => ?_⟩⟩⟩⟩
  · rw [upd_ne nd, upd_same]
  · rw [upd_ne (Ne.symm nd), upd_same]
  · rw [upd_ne h2, upd_ne h1, upd_ne h2]
def spRFD (K : PySem.W.Frag) (C : Addr) (bad : List Str) : Sp := fun vs H Q E => ∃ (l : Addr) (us : List V) (ds : List PyData), vs = [.ref l] ∧ SqL K H l us ∧ Fds K H us ds ∧ (∀ x ∈ ds, wordOk bad x ∧ dsz x ≤ 90000) ∧
  (firstBad hasF ds 0 = none → ∀ H', Same H H' → Q .non H') ∧ ∀ n, firstBad hasF ds 0 = some n → ∀ a H', Same H H' → H' a = some (.xd [("at", .int (n : Nat)), ("word", .str "form")]) → E (.ref C) (some a) H'
theorem ok_refuse_formsD {bad : List Str} (B : Bt mg) (R_NoProgram : Rf K mg "NoProgram" "NoProgram.__init__" c_NoProgram i_NoProgram f_NoProgram s_NoProgram ["word", "at"]) (C_has_form : Cal P w K mg base 2 "has_form" ["thing"] (spHFD K bad)) (D : DefAt K mg "refuse_forms" s_refuse_forms ["every"]) : CalX P w K mg base 3 "refuse_forms" ["every"] (spRFD K c_NoProgram bad) := by
  refine calx_of D sc_refuse_forms (fun vs H Q E h => ?_) (fun f cdv A outer s H vs Q E hr h => ?_)
  · obtain ⟨l, us, ds, rfl, _⟩ := h
    rfl
  obtain ⟨l, us, ds, rfl, hl, hus, hwk, q, qe⟩ := h
  have hr' : Room 2 _ := hr
  refine ⟨_, (pss_one (ps_for (passes_of rfl) rfl (pi_enum (by rfl) B.enumerate (pa_cons (pv 0) pa_nil)) (pg_tup rfl (pgs_cons (pg_name (i := 1) sc_refuse_forms.nd rfl (.inl rfl)) (pgs_cons (pg_name (i := 2) sc_refuse_forms.nd rfl (.inl rfl)) pgs_nil)))
        (pss_one (ps_if (pt_not (pt_val (pe_cal C_has_form hr' (by rfl) (pa_cons (pv 2) pa_nil))))
        (pss_one (ps_ref R_NoProgram (ini_NoProgram R_NoProgram) (hr.mono (by decide)) rfl (takes_of rfl rfl rfl rfl) (by rfl) (pa_cons pe_str (pa_cons (pv 1) pa_nil))))
        pss_nil)))), ?_⟩
  refine ⟨_, rfl, l, us, rfl, hl, for_enumL (K := K) (xs := us) (fun i σ H' => (∃ y1 y2 : Option V, σ = [some (V.ref l), y1, y2]) ∧ Same H H' ∧ firstBad hasF ds 0 = firstBad hasF (ds.drop i) i) ?_ ?_ ?_ ?_⟩
  · exact ⟨⟨_, _, rfl⟩, fun _ _ h => h, by rw [List.drop_zero]⟩
  · rintro i σ H' ⟨_, sm, _⟩
    exact sm.seq hl
  · rintro i x σ H' T hx ⟨⟨y1, y2, rfl⟩, sm, hbd⟩ hT
    have sm2 := sm.trans (same_new (o := .tup [.int (i : Nat), x]) hT)
    refine ⟨T, _, rfl, .inl (.inl upd_same), rfl, _, _, rfl, _, _, rfl, rfl, ?_⟩
    obtain ⟨dx, hdx, hDx⟩ := hus.nth hx
    rw [firstBad_step hdx] at hbd
    have fx := hDx.keep (Tp.same sm2)
    have hw := hwk dx (List.mem_of_getElem? hdx)
    refine ⟨_, rfl, x, dx, rfl, fx, hw.1, hw.2, _, rfl, ite2 (fun c => ?_) (fun c => ?_)⟩
    · have nk : hasF dx = false := by simpa using c
      rw [nk] at hbd
      exact ⟨_, rfl, mk_two fun a' H2 r => qe i hbd a' H2 (sm2.trans r.same) r.2.1⟩
    · have nk : hasF dx = true := by simpa using c
      rw [nk] at hbd
      exact ⟨⟨_, _, rfl⟩, sm2, hbd⟩
  · rintro σ H' ⟨_, sm, hbd⟩
    refine q ?_ H' sm
    rw [hbd, List.drop_eq_nil_of_le (by rw [hus.len]; exact Nat.le_refl _)]
    rfl
/-- no input, or one that is there -/
def inOk (many : Int) : PyData → Bool
  | .tuple (.str w :: .int i :: _) => if w = "in" then decide (0 ≤ i ∧ i < many) else true
  | _ => true
def spRID (K : PySem.W.Frag) (C : Addr) : Sp := fun vs H Q E => ∃ (l : Addr) (us : List V) (ds : List PyData) (many : Int), vs = [.ref l, .int many] ∧ SqL K H l us ∧ Fds K H us ds ∧ (∀ x ∈ ds, hasF x = true) ∧
  (firstBad (inOk many) ds 0 = none → ∀ H', Same H H' → Q .non H') ∧ ∀ n, firstBad (inOk many) ds 0 = some n → ∀ a H', Same H H' → H' a = some (.xd [("at", .int (n : Nat)), ("word", .str "input")]) → E (.ref C) (some a) H'
theorem hasF_open {d : PyData} (h : hasF d = true) : ∃ w rs n m, d = .tuple (.str w :: rs) ∧ nnW w = some (n, m) ∧ rs.length = n + m ∧ (n ≠ 0 → ∃ i rs', rs = .int i :: rs') := by
  cases d with
  | tuple xs =>
    cases xs with
    | nil => cases h
    | cons x xs =>
      cases x with
      | str w =>
        cases e : nnW w with
        | none =>
          have z : hasF (.tuple (.str w :: xs)) = false := by
            show (match nnW w with | some (n, m) => _ | none => false) = _
            rw [e]
          rw [z] at h
          cases h
        | some nm =>
          obtain ⟨n, m⟩ := nm
          have z : hasF (.tuple (.str w :: xs)) = ((xs.length == n + m) && (n == 0 || (xs.head?.map whole).getD false)) := by
            show (match nnW w with | some (n, m) => _ | none => false) = _
            rw [e]
          rw [z, Bool.and_eq_true] at h
          refine ⟨w, xs, n, m, rfl, e, by simpa using h.1, fun hn => ?_⟩
          have y := h.2
          rw [beq_false_of_ne hn, Bool.false_or] at y
          cases xs with
          | nil => cases y
          | cons a b =>
            cases a with
            | int i => exact ⟨i, b, rfl⟩
            | _ => cases y
      | _ => cases h
  | _ => cases h
theorem nn_in {n m : Nat} (h : nnW "in" = some (n, m)) : n = 1 := by
  have z : nnW "in" = some (1, 0) := rfl
  rw [z] at h
  cases h
  rfl
theorem ok_refuse_inputsD (B : Bt mg) (R_NoProgram : Rf K mg "NoProgram" "NoProgram.__init__" c_NoProgram i_NoProgram f_NoProgram s_NoProgram ["word", "at"]) (D : DefAt K mg "refuse_inputs" s_refuse_inputs ["every", "many"]) : CalX P w K mg base 3 "refuse_inputs" ["every", "many"] (spRID K c_NoProgram) := by
  refine calx_of D sc_refuse_inputs (fun vs H Q E h => ?_) (fun f cdv A outer s H vs Q E hr h => ?_)
  · obtain ⟨l, us, ds, many, rfl, _⟩ := h
    rfl
  obtain ⟨l, us, ds, many, rfl, hl, hus, hwk, q, qe⟩ := h
  have hr' : Room 2 _ := hr
  refine ⟨_, (pss_one (ps_for (passes_of rfl) rfl (pi_enum (by rfl) B.enumerate (pa_cons (pv 0) pa_nil)) (pg_tup rfl (pgs_cons (pg_name (i := 2) sc_refuse_inputs.nd rfl (.inl rfl)) (pgs_cons (pg_name (i := 3) sc_refuse_inputs.nd rfl (.inl rfl)) pgs_nil)))
        (pss_one (ps_if (PW.pt (pw_and (pt_cmpR op_eq (pe_ix ix_tup (pv 3) pe_int (fun _ _ => rfl)) pe_str (nomark _)) (pw_and1 (pt_not (pt_chain op_le op_lt pe_int (pe_ix ix_tup (pv 3) pe_int (fun _ _ => rfl)) (pv 1))))))
        (pss_one (ps_ref R_NoProgram (ini_NoProgram R_NoProgram) (hr.mono (by decide)) rfl (takes_of rfl rfl rfl rfl) (by rfl) (pa_cons pe_str (pa_cons (pv 2) pa_nil))))
        pss_nil)))), ?_⟩
  refine ⟨_, rfl, l, us, rfl, hl, for_enumL (K := K) (xs := us) (fun i σ H' => (∃ y1 y2 : Option V, σ = [some (V.ref l), some (.int many), y1, y2]) ∧ Same H H' ∧ firstBad (inOk many) ds 0 = firstBad (inOk many) (ds.drop i) i) ?_ ?_ ?_ ?_⟩
  · exact ⟨⟨_, _, rfl⟩, fun _ _ h => h, by rw [List.drop_zero]⟩
  · rintro i σ H' ⟨_, sm, _⟩
    exact sm.seq hl
  · rintro i x σ H' T hx ⟨⟨y1, y2, rfl⟩, sm, hbd⟩ hT
    have sm2 := sm.trans (same_new (o := .tup [.int (i : Nat), x]) hT)
    refine ⟨T, _, rfl, .inl (.inl upd_same), rfl, _, _, rfl, _, _, rfl, rfl, ?_⟩
    obtain ⟨dx, hdx, hDx⟩ := hus.nth hx
    rw [firstBad_step hdx] at hbd
    have fx := hDx.keep (Tp.same sm2)
    have hf := hwk dx (List.mem_of_getElem? hdx)
    clear hDx hdx hx
    generalize upd H' T (.tup [.int (i : Nat), x]) = H2 at sm2 fx
    have pass : inOk many dx = true → (∃ y1 y2 : Option V, [some (V.ref l), some (.int many), some (V.int (i : Nat)), some x] = [some (V.ref l), some (.int many), y1, y2]) ∧ Same H H2 ∧ firstBad (inOk many) ds 0 = firstBad (inOk many) (ds.drop (i + 1)) (i + 1) := fun nk => by
      rw [nk] at hbd
      exact ⟨⟨_, _, rfl⟩, sm2, hbd⟩
    have fail : inOk many dx = false → ∀ σ : L2.St, σ[2]? = some (some (.int (i : Nat))) → tMkO c_NoProgram (spIni2 c_NoProgram "word" "at") [] (tCons (tC (V.str "input")) (tCons (tVar 2) tNil)) σ H2 fun cls d H' => E cls d H' := fun nk σ hσ => by
      rw [nk] at hbd
      exact ⟨_, hσ, mk_two fun a' H3 r => qe i hbd a' H3 (sm2.trans r.same) r.2.1⟩
    obtain ⟨wd, rs, n, m, rfl, hnm, hlen, hnum⟩ := hasF_open hf
    obtain ⟨a, xs, rfl, qa, r⟩ : ∃ a xs, x = .ref a ∧ SqT K H2 a xs ∧ DpAll K H2 xs (.str wd :: rs) := by
      cases fx.2 with
      | tup qa r => exact ⟨_, _, rfl, qa, r⟩
    obtain ⟨ys, rfl, rr⟩ : ∃ ys, xs = .str wd :: ys ∧ DpAll K H2 ys rs := by
      cases r with
      | cons r0 rr => cases r0; exact ⟨_, rfl, rr⟩
    refine ⟨_, rfl, a, _, 0, _, rfl, rfl, qa, at_of (j := 0) rfl rfl, rfl, _, rfl, ite2 (fun c => ?_) (fun c => ?_)⟩
    · have ew : wd = "in" := V.str.inj (of_decide_eq_true c)
      subst ew
      obtain ⟨k, rs', rfl⟩ := hnum (by rw [nn_in hnm]; decide)
      obtain ⟨ys', rfl⟩ : ∃ ys', ys = .int k :: ys' := by
        cases rr with
        | cons r0 rr => cases r0; exact ⟨_, rfl⟩
      have hio : inOk many (.tuple (.str "in" :: .int k :: rs')) = decide (0 ≤ k ∧ k < many) := by simp [inOk]
      refine ⟨_, rfl, a, _, 1, .int k, rfl, rfl, qa, at_of (j := 1) rfl rfl, _, _, rfl, rfl, _, rfl, ite2 (fun c1 => ?_) (fun c1 => ?_)⟩
      · have k0 : 0 ≤ k := of_decide_eq_true c1
        refine ⟨_, rfl, _, _, rfl, rfl, _, rfl, ite2 (fun c2 => ?_) (fun c2 => ?_)⟩
        · refine fail ?_ _ rfl
          rw [hio]
          have z : (!decide (k < many)) = true := c2
          have y : ¬ k < many := by simpa using z
          exact decide_eq_false fun x => y x.2
        · refine pass ?_
          rw [hio]
          have z : ¬ (!decide (k < many)) = true := c2
          have y : k < many := by simpa using z
          exact decide_eq_true ⟨k0, y⟩
      · refine ⟨_, rfl, iteY rfl (fail ?_ _ rfl)⟩
        rw [hio]
        exact decide_eq_false fun x => c1 (decide_eq_true x.1)
    · have nw : ¬ wd = "in" := fun z => c (decide_eq_true (by rw [z]))
      refine iteF (pass ?_)
      cases rs with
      | nil => rfl
      | cons a b =>
        cases a with
        | int k => exact if_neg nw
        | _ => rfl
  · rintro σ H' ⟨_, sm, hbd⟩
    refine q ?_ H' sm
    rw [hbd, List.drop_eq_nil_of_le (by rw [hus.len]; exact Nat.le_refl _)]
    rfl
end
end Lm

set_option Elab.async false
set_option linter.all false
set_option maxRecDepth 100000
set_option maxHeartbeats 2000000
namespace Lm
open PySem PySem.Spec PyProof.Rows L2 LmR
section
variable {P : Program} {w : World} {K : PySem.W.Frag} {mg : Str → Option Value} {base : Heap}
abbrev s_kind_of : Stmt := topS 19
theorem sc_kind_of : FnScope ["kinds", "program", "every", "wrong", "ready", "at", "word", "told"] ["kinds", "program"] (defScope s_kind_of) := ⟨rfl, rfl, rfl, by decide +kernel, rfl, by decide +kernel, by decide +kernel⟩
def spKO (K : PySem.W.Frag) : Sp := fun vs H Q _ => ∃ (ka : Addr) (ks : List Bool) (v : V) (p : Pg), vs = [.ref ka, v] ∧ SqT K H ka (kVs ks) ∧ At K H v p ∧ Wk ks p ∧ psz p ≤ 10000 ∧ ∀ H', Same H H' → Q (.str (kS (own ks p))) H'
theorem ok_kind_of (B : Bt mg) (C_knots : Cal P w K mg base 3 "knots" ["program"] (spKnots K)) (C_refuse_forms : Cal P w K mg base 3 "refuse_forms" ["every"] (spRF K)) (C_refuse_inputs : Cal P w K mg base 1 "refuse_inputs" ["every", "many"] (spRI K)) (C_taken : Cal P w K mg base 1 "taken" ["pile", "many"] (spTaken)) (C_many_parts : Cal P w K mg base 1 "many_parts" ["word"] (spMP)) (C_parts_fit : Cal P w K mg base 1 "parts_fit" ["word", "told"] (spPF K)) (C_own_kind : Cal P w K mg base 1 "own_kind" ["kinds", "knot", "told"] (spOK K)) (D : DefAt K mg "kind_of" s_kind_of ["kinds", "program"]) : Cal P w K mg base 4 "kind_of" ["kinds", "program"] (spKO K) := by
  refine cal_of D sc_kind_of (fun vs H Q E h => ?_) (fun f cdv A outer s H vs Q E hr h => ?_)
  · obtain ⟨ka, ks, v, p, rfl, _⟩ := h
    rfl
  obtain ⟨ka, ks, v, p, rfl, hk, hv, hw, hsz, q⟩ := h
  have C_refuse_inputs := C_refuse_inputs.mono (k := 3) (by decide)
  have C_taken := C_taken.mono (k := 3) (by decide)
  have C_many_parts := C_many_parts.mono (k := 3) (by decide)
  have C_parts_fit := C_parts_fit.mono (k := 3) (by decide)
  have C_own_kind := C_own_kind.mono (k := 3) (by decide)
  have hr' : Room 3 _ := hr
  refine ⟨_, (pss_cons (ps_set (i := 2) sc_kind_of.nd rfl (.inl rfl) (pe_cal C_knots hr' (by rfl) (pa_cons (pv 1) pa_nil)))
      (pss_cons (ps_expr (pe_cal C_refuse_forms hr' (by rfl) (pa_cons (pv 2) pa_nil)))
      (pss_cons (ps_expr (pe_cal C_refuse_inputs hr' (by rfl) (pa_cons (pv 2) (pa_cons (pe_callB call_len_seq (by rfl) B.len PySem.boot_len (pa_cons (pv 0) pa_nil)) pa_nil))))
      (pss_cons (ps_set (i := 3) sc_kind_of.nd rfl (.inl rfl) pe_non)
      (pss_cons (ps_set (i := 4) sc_kind_of.nd rfl (.inl rfl) (pe_lst pa_nil))
      (pss_cons (ps_for PassesOwn.never rfl (pi_revR (by rfl) B.reversed (prg_1 (by rfl) B.range (pe_callB call_len_seq (by rfl) B.len PySem.boot_len (pa_cons (pv 2) pa_nil)))) (pg_name (i := 5) sc_kind_of.nd rfl (.inl rfl))
        (pss_cons (ps_set (i := 6) sc_kind_of.nd rfl (.inl rfl) (pe_ix ix_tup (pe_ix ix_list (pv 2) (pv 5) (fun _ _ => rfl)) pe_int (fun _ _ => rfl)))
      (pss_cons (ps_set (i := 7) sc_kind_of.nd rfl (.inl rfl) (pe_cal C_taken hr' (by rfl) (pa_cons (pv 4) (pa_cons (pe_cal C_many_parts hr' (by rfl) (pa_cons (pv 6) pa_nil)) pa_nil))))
      (pss_cons (ps_if (pt_not (pt_val (pe_cal C_parts_fit hr' (by rfl) (pa_cons (pv 6) (pa_cons (pv 7) pa_nil)))))
        (pss_one (ps_set (i := 3) sc_kind_of.nd rfl (.inl rfl) (pv 5)))
        pss_nil)
      (pss_one (ps_expr (pe_bm PySem.F.plainAttrs_list PySem.F.slot_list_append PySem.F.type_list_append mt_append (pv 4) (pa_cons (pe_cal C_own_kind hr' (by rfl) (pa_cons (pv 0) (pa_cons (pe_ix ix_list (pv 2) (pv 5) (fun _ _ => rfl)) (pa_cons (pv 7) pa_nil)))) pa_nil))))))))
      (pss_cons (ps_if (pt_cmpR op_notN (pv 3) pe_non (nomark _))
        (pss_one ps_never)
        pss_nil)
      (pss_one (ps_ret (pe_ix ix_list (pv 4) pe_int (fun _ _ => rfl))))))))))), ?_⟩
  refine ⟨_, rfl, v, p, rfl, hv, hsz, fun le us H1 s1 le0 hle hus => ?_⟩
  refine ⟨_, rfl, le, us, kn p, rfl, hle, hus, fun H2 s2 => ?_⟩
  have klen : (kVs ks).length = ks.length := List.length_map _
  have hk2 : SqT K H2 ka (kVs ks) := Tp.same (s1.trans s2) _ _ hk
  refine ⟨_, rfl, _, rfl, ka, _, rfl, .inr hk2, le, us, kn p, ks, by rw [klen]; rfl, s2 _ _ hle, hus.keep (Tp.same s2), fun q' hq' => kn_wk ks p q' hw hq', fun H3 s3 => ?_⟩
  refine ⟨(by show 0 ≤ sizeLine; decide), fun lr hlr => ?_⟩
  have s4 : Same H3 (upd H3 lr (.lst [])) := same_new hlr
  have s03 : Same H H3 := s1.trans (s2.trans s3)
  have lr0 : H lr = none := s03.free hlr
  have hle4 : (upd H3 lr (.lst [])) le = some (.lst us) := (s2.trans (s3.trans s4)) _ _ hle
  have hus4 : Ats K (upd H3 lr (.lst [])) us (kn p) := hus.keep (Tp.same (s2.trans (s3.trans s4)))
  have hk4 : SqT K (upd H3 lr (.lst [])) ka (kVs ks) := Tp.same (s03.trans s4) _ _ hk
  have hlr4 : (upd H3 lr (.lst [])) lr = some (.lst []) := upd_same
  have s04 := s03.trans s4
  have nler : le ≠ lr := fun z => by
    rw [← z, (s2.trans s3) _ _ hle] at hlr
    cases hlr
  generalize upd H3 lr (.lst []) = H4 at hle4 hus4 hk4 hlr4 s04
  have ul : us.length = (kn p).length := hus.len
  have kl := kn_len p
  refine ⟨_, rfl, le, us, rfl, .inl (SqL.of hle4), _, rfl, by omega, by omega, by omega, by omega, for_rangeC (n := (((us.length : Nat) : Int) - 0).toNat) (fun i σ' H' => ∃ (fs : List Pg) (y5 y6 y7 : Option V), σ' = [some (.ref ka), some v, some (.ref le), some .non, some (.ref lr), y5, y6, y7] ∧ Same H H' ∧ H' le = some (.lst us) ∧ Ats K H' us (kn p) ∧ SqT K H' ka (kVs ks) ∧ (kn p).drop (us.length - i) = knf fs ∧ H' lr = some (.lst (kids ks fs).reverse)) ?_ ?_ ?_⟩
  · exact ⟨[], none, none, none, rfl, s04, hle4, hus4, hk4, by rw [ul, Nat.sub_zero, List.drop_length]; rfl, hlr4⟩
  · rintro i σ' H' hi ⟨fs, y5, y6, y7, rfl, sm, hle', hus', hk', hdrop, hlr'⟩
    have hi' : i < us.length := by omega
    obtain ⟨x, hx⟩ : ∃ x, (kn p)[us.length - (i + 1)]? = some x := ⟨_, List.getElem?_eq_getElem (by omega)⟩
    have hu : us[us.length - (i + 1)]? = some us[us.length - (i + 1)] := List.getElem?_eq_getElem (by omega)
    obtain ⟨x', hx', hax⟩ := hus'.get _ _ hu
    rw [hx] at hx'
    have ex := Option.some.inj hx'
    subst ex
    generalize us[us.length - (i + 1)] = xv at hu hax
    have e1 : us.length - (i + 1) + 1 = us.length - i := by omega
    obtain ⟨rest, rfl, hdr⟩ := knf_step hx (by rw [e1]; exact hdrop)
    have hwx : Wk ks x := kn_wk ks p x hw (List.mem_of_getElem? hx)
    have eidx : (0 : Int) + ((((us.length : Nat) : Int) - 0).toNat : Int) - 1 + (i : Int) * (-1) = ((us.length - (i + 1) : Nat) : Int) := by omega
    obtain ⟨a, vs, rfl, ha, hvs⟩ := hax.open
    refine ⟨_, rfl, _, rfl, le, us, _, _, rfl, rfl, SqL.of hle', at_of (j := us.length - (i + 1)) eidx hu, a, _, 0, _, rfl, rfl, ha, at_word x vs, ?_⟩
    have ekids : kids ks (parts x ++ rest) = kids ks (parts x) ++ kids ks rest := List.map_append ..
    have elen : (kids ks (parts x)).length = (parts x).length := List.length_map _
    have plen : (parts x).length ≤ 3 := by cases x <;> simp [parts]
    rw [ekids, List.reverse_append] at hlr'
    refine ⟨_, rfl, _, rfl, x, rfl, lr, (kids ks rest).reverse, kids ks (parts x), by rw [elen]; rfl, hlr', by omega, fun t H5 ex5 hlr5 ht5 => ?_⟩
    have nar : ∀ {o : HO}, ∀ b, H b = some o → b ∉ [lr] := fun b hb => by simp [ne_of_none hb lr0]
    have sm5 : Same H H5 := fun b o hb => ex5 b o (sm b o hb) (nar b hb)
    have tp5 : Tp K H' H5 := ex5.tp fun b hb ys z => by
      rw [List.mem_singleton.mp hb] at z
      rcases z with z | ⟨o, z⟩
      · rw [hlr'] at z; cases z
      · rw [hlr'] at z; cases z
    have hle5 := ex5 _ _ hle' (by simp [nler])
    have hus5 := hus'.keep tp5
    have hk5 := tp5 _ _ hk'
    refine ⟨_, rfl, _, rfl, x, ks, t, rfl, .inl (.inl ht5), hwx, fun H6 s6 => ⟨_, rfl, ?_⟩⟩
    have hlr6 := s6 _ _ hlr5
    have hle6 := s6 _ _ hle5
    have hax6 : At K H6 (.ref a) x := (hax.keep tp5).keep (Tp.same s6)
    refine ⟨_, rfl, .inl ⟨rfl, _, SqL.of hlr6⟩, _, rfl, _, rfl, _, rfl, le, us, _, _, rfl, rfl, SqL.of hle6, at_of (j := us.length - (i + 1)) eidx hu, _, rfl, ?_⟩
    refine ⟨x, ks, ka, t, .ref a, rfl, Tp.same s6 _ _ hk5, hax6, .inl (.inl (s6 _ _ ht5)), hwx, ?_⟩
    have rl : (kids ks rest).length ≤ 10000 := by
      have z := knf_len rest
      have z2 : (kn p).length - (us.length - (i + 1)) = (knf (x :: rest)).length := by rw [← hdr, List.length_drop]
      rw [knf_cons, List.length_cons] at z2
      have z3 : knf (parts x ++ rest) = knf (parts x) ++ knf rest := by simp [knf]
      rw [z3, List.length_append] at z2
      rw [show (kids ks rest).length = rest.length from List.length_map _]
      omega
    have t7 : Tp K H6 (upd H6 lr (.lst ((kids ks rest).reverse ++ [V.str (kS (own ks x))]))) := Tp.lst hlr6
    refine ⟨lr, _, _, rfl, rfl, hlr6, by rw [List.length_reverse]; exact smallL (by omega), x :: rest, _, _, _, rfl, fun b o hb => ?_, by rw [upd_ne nler]; exact hle6, (hus5.keep (Tp.same s6)).keep t7, t7 _ _ (Tp.same s6 _ _ hk5), hdr, ?_⟩
    · rw [upd_ne (ne_of_none hb lr0)]
      exact s6 _ _ (sm5 b o hb)
    · rw [upd_same]
      show _ = some (HO.lst (V.str (kS (own ks x)) :: kids ks rest).reverse)
      rw [List.reverse_cons]
  · rintro σ' H' ⟨fs, y5, y6, y7, rfl, sm, hle', hus', hk', hdrop, hlr'⟩
    have e0 : us.length - (((us.length : Nat) : Int) - 0).toNat = 0 := by omega
    rw [e0, List.drop_zero, ← knf_one] at hdrop
    have ef := knf_inj _ _ _ (Nat.le_refl _) hdrop
    subst ef
    exact ⟨_, rfl, rfl, _, rfl, _, rfl, lr, _, 0, _, rfl, rfl, SqL.of hlr', rfl, q _ sm⟩
end
end Lm

set_option Elab.async false
set_option linter.all false
set_option maxRecDepth 100000
set_option maxHeartbeats 2000000
namespace Lm
open PySem PySem.Spec PyProof.Rows L2 LmR
theorem in_nums (p : Pg) : inV (.str (word p)) [.str "in", .str "num", .str "plus"] = decide (nn p = 1) := by
  cases p with
  | tr b => cases b <;> rfl
  | bin w a b => cases w <;> rfl
  | _ => rfl
theorem in_words (p : Pg) : inV (.str (word p)) [.str "yes", .str "no", .str "not", .str "if", .str "least", .str "most", .str "atmost", .str "both", .str "either"] = decide (nn p = 0) := by
  cases p with
  | tr b => cases b <;> rfl
  | bin w a b => cases w <;> rfl
  | _ => rfl
theorem in_leaf (p : Pg) : inV (.str (word p)) [.str "in", .str "num"] = decide (nn p = 1 ∧ parts p = []) := by
  cases p with
  | tr b => cases b <;> rfl
  | bin w a b => cases w <;> rfl
  | plus c a => exact (show false = decide (1 = 1 ∧ [a] = []) by simp)
  | inp k => exact (show true = decide (1 = 1 ∧ ([] : List Pg) = []) by simp)
  | num k => exact (show true = decide (1 = 1 ∧ ([] : List Pg) = []) by simp)
  | neg a => rfl
  | ite p a b => rfl
def manyL : List (Key × V) := [(Sum.inr "in", .int 0), (Sum.inr "num", .int 0), (Sum.inr "yes", .int 0), (Sum.inr "no", .int 0), (Sum.inr "plus", .int 1), (Sum.inr "not", .int 1), (Sum.inr "if", .int 3)]
def manyKV : List (Key × V) := mergeK [] manyL
theorem many_get (p : Pg) : (valV manyKV (Sum.inr (word p))).getD (.int 2) = .int ((parts p).length : Nat) := by
  cases p with
  | tr b => cases b <;> rfl
  | bin w a b => cases w <;> rfl
  | _ => rfl
theorem kII {K : PySem.W.Frag} : PySem.W.kitOne K (.type "int") (.type "int") = some true := kit_ty (by decide +kernel)
theorem kIB {K : PySem.W.Frag} : PySem.W.kitOne K (.type "int") (.type "bool") = some false := kit_ty (by decide +kernel)
theorem fl_str {x : Str} : flatV (.str x) = true := rfl
section
variable {P : Program} {w : World} {K : PySem.W.Frag} {mg : Str → Option Value} {base : Heap}
abbrev s_l_has_form : Stmt := topS 54
theorem sc_l_has_form : FnScope ["_law_knot", "_law_many", "_law_words"] ["_law_knot"] (defScope s_l_has_form) := ⟨rfl, rfl, rfl, by decide +kernel, rfl, by decide +kernel, by decide +kernel⟩
def spLHF (K : PySem.W.Frag) : Sp := fun vs H Q _ => ∃ (v : V) (p : Pg), vs = [v] ∧ At K H v p ∧ ∀ H', Same H H' → Q (.bl true) H'
theorem ok_l_has_form (B : Bt mg) (D : DefAt K mg "_law_has_form" s_l_has_form ["_law_knot"]) : Cal P w K mg base 1 "_law_has_form" ["_law_knot"] (spLHF K) := by
  refine cal_of D sc_l_has_form (fun vs H Q E h => ?_) (fun f cdv A outer s H vs Q E hr h => ?_)
  · obtain ⟨v, p, rfl, _⟩ := h
    rfl
  obtain ⟨v, p, rfl, hv, q⟩ := h
  refine ⟨_, (pss_cons (ps_if (PW.pt (pw_or (pt_not (pt_val (pe_callB call_isi (by rfl) B.isinstance (by decide +kernel) (pa_cons (pv 0) (pa_cons (pe_bltn (v := .ty "tuple") (by rfl) B.tuple PyProof.Rows.boot_tuple rfl) pa_nil))))) (pw_or (pt_cmpR op_eq (pe_callB call_len_seq (by rfl) B.len PySem.boot_len (pa_cons (pv 0) pa_nil)) pe_int (nomark _)) (pw_or1 (pt_not (pt_val (pe_callB call_isi (by rfl) B.isinstance (by decide +kernel) (pa_cons (pe_ix ix_tup (pv 0) pe_int (fun _ _ => rfl)) (pa_cons (pe_bltn (v := .ty "str") (by rfl) B.str PyProof.Rows.boot_str rfl) pa_nil)))))))))
        (pss_one (ps_ret pe_bl))
        pss_nil)
      (pss_cons (ps_set (i := 1) sc_l_has_form.nd rfl (.inl rfl) (pe_dget2 (hu_of hr) (pe_disp (pps_cons pe_str pe_int (pps_cons pe_str pe_int (pps_cons pe_str pe_int (pps_cons pe_str pe_int (pps_cons pe_str pe_int (pps_cons pe_str pe_int (pps_cons pe_str pe_int pps_nil))))))) (by rfl) (by rfl) (fun z => by cases z) (by decide)) (pe_ix ix_tup (pv 0) pe_int (fun _ _ => rfl)) pe_int (by constructor <;> rfl)))
      (pss_cons (ps_if (pt_cmpR op_in_seq (pe_ix ix_tup (pv 0) pe_int (fun _ _ => rfl)) (pe_tup (pa_cons pe_str (pa_cons pe_str (pa_cons pe_str pa_nil)))) rfl)
        (pss_one (ps_ret (pe_and (pe_cmpR op_eq (pe_callB call_len_seq (by rfl) B.len PySem.boot_len (pa_cons (pv 0) pa_nil)) (pe_op op_add (pv 1) pe_int) (nomark _)) (pe_and (pe_callB call_isi (by rfl) B.isinstance (by decide +kernel) (pa_cons (pe_ix ix_tup (pv 0) pe_int (fun _ _ => rfl)) (pa_cons (pe_bltn (v := .ty "int") (by rfl) B.int PyProof.Rows.boot_int rfl) pa_nil))) (pe_one (pe_not (pe_callB call_isi (by rfl) B.isinstance (by decide +kernel) (pa_cons (pe_ix ix_tup (pv 0) pe_int (fun _ _ => rfl)) (pa_cons (pe_bltn (v := .ty "bool") (by rfl) B.bool PyProof.Rows.boot_bool rfl) pa_nil)))))))))
        pss_nil)
      (pss_cons (ps_set (i := 2) sc_l_has_form.nd rfl (.inl rfl) (pe_tup (pa_cons pe_str (pa_cons pe_str (pa_cons pe_str (pa_cons pe_str (pa_cons pe_str (pa_cons pe_str (pa_cons pe_str (pa_cons pe_str (pa_cons pe_str pa_nil)))))))))))
      (pss_one (ps_ret (pe_and (pe_cmpR op_in_seq (pe_ix ix_tup (pv 0) pe_int (fun _ _ => rfl)) (pv 2) rfl) (pe_one (pe_cmpR op_eq (pe_callB call_len_seq (by rfl) B.len PySem.boot_len (pa_cons (pv 0) pa_nil)) (pe_op op_add (pv 1) pe_int) (nomark _)))))))))), ?_⟩
  obtain ⟨a, vs, rfl, ha, hvs⟩ := hv.open
  have hl : (front p ++ vs).length = 1 + nn p + (parts p).length := by rw [List.length_append, front_len, hvs.len]
  refine ⟨_, rfl, _, _, _, _, _, rfl, .ty _, tyx_tup ha, kTT, _, rfl, ?_⟩
  refine ⟨_, rfl, a, _, rfl, .inr ha, rfl, _, rfl, ite2 (fun z => ?_) (fun _ => ?_)⟩
  · have z' : V.int (((front p ++ vs).length : Nat) : Int) = V.int 0 := of_decide_eq_true z
    have z2 := V.int.inj z'
    omega
  refine ⟨_, rfl, a, _, 0, _, rfl, rfl, ha, at_word p vs, _, _, _, _, _, rfl, .ty _, .base (.str _), kSS, _, rfl, ?_⟩
  -- many
  refine fun d hd => ⟨upd_same, manyL, rfl, (by show 7 ≤ 15; decide), ?_⟩
  refine ⟨d, rfl, .inl ⟨_, .inl upd_same⟩, ?_⟩
  have s1 : Same H (upd (upd H d (.dK [])) d (.dK manyKV)) := fun b o z => by
    rw [upd_ne (ne_of_none z hd), upd_ne (ne_of_none z hd)]
    exact z
  have e1 : (upd (upd H d (.dK [])) d (.dK manyKV)) d = some (.dK manyKV) := upd_same
  show (tOp (rIxT K) (tVar 0) (tC (V.int 0))) _ (upd (upd H d (.dK [])) d (.dK manyKV)) _
  generalize upd (upd H d (.dK [])) d (.dK manyKV) = H1 at s1 e1
  have ha1 := Tp.same (K := K) s1 _ _ ha
  refine ⟨_, rfl, a, _, 0, _, rfl, rfl, ha1, at_word p vs, _, DGet.k (k := Sum.inr (word p)) e1, ?_⟩
  rw [many_get]
  refine ⟨_, rfl, a, _, 0, _, rfl, rfl, ha1, at_word p vs, (by show 3 ≤ sizeLine; decide), fun t ht => ?_⟩
  have s2 : Same H1 (upd H1 t (.tup [.str "in", .str "num", .str "plus"])) := same_new ht
  have ha2 := Tp.same (K := K) s2 _ _ ha1
  have q2 := q _ (s1.trans s2)
  refine ⟨t, _, rfl, .inr (.inl (.inl upd_same)), rfl, rfl, _, rfl, ?_⟩
  show if inV (.str (word p)) [.str "in", .str "num", .str "plus"] = true then _ else _
  rw [in_nums]
  generalize upd H1 t (.tup [.str "in", .str "num", .str "plus"]) = H2 at s2 ha2 q2
  refine ite2 (fun z => ?_) (fun z => ?_)
  · have hn : nn p = 1 := of_decide_eq_true z
    obtain ⟨i, ei⟩ := at_num p vs (by omega)
    refine ⟨_, rfl, a, _, rfl, .inr ha2, _, rfl, _, _, rfl, rfl, rfl, _, rfl, ?_⟩
    rw [hl, show decide (V.int (((1 + nn p + (parts p).length : Nat)) : Int) = V.int (((parts p).length : Nat) + 2)) = true from decide_eq_true (congrArg V.int (by omega))]
    refine ⟨_, rfl, a, _, 1, _, rfl, rfl, ha2, ei, _, _, _, _, _, rfl, .ty _, .base (.int i), kII, _, rfl, ?_⟩
    exact ⟨_, rfl, a, _, 1, _, rfl, rfl, ha2, ei, _, _, _, _, _, rfl, .ty _, .base (.int i), kIB, _, rfl, q2⟩
  · have hn : nn p = 0 := by
      have hz : nn p ≠ 1 := fun y => z (decide_eq_true y)
      cases p <;> first | rfl | exact absurd rfl hz
    refine ⟨(by show 9 ≤ sizeLine; decide), fun t2 ht2 => ?_⟩
    have s3 : Same H2 (upd H2 t2 (.tup [.str "yes", .str "no", .str "not", .str "if", .str "least", .str "most", .str "atmost", .str "both", .str "either"])) := same_new ht2
    have ha3 := Tp.same (K := K) s3 _ _ ha2
    refine ⟨_, rfl, a, _, 0, _, rfl, rfl, ha3, at_word p vs, _, rfl, t2, _, rfl, .inr (.inl (.inl upd_same)), rfl, rfl, _, rfl, ?_⟩
    show if inV (.str (word p)) [.str "yes", .str "no", .str "not", .str "if", .str "least", .str "most", .str "atmost", .str "both", .str "either"] = true then _ else _
    rw [in_words, decide_eq_true hn]
    refine ⟨_, rfl, a, _, rfl, .inr ha3, _, rfl, _, _, rfl, rfl, rfl, ?_⟩
    rw [hl, show decide (V.int (((1 + nn p + (parts p).length : Nat)) : Int) = V.int (((parts p).length : Nat) + 1)) = true from decide_eq_true (congrArg V.int (by omega))]
    exact q _ (s1.trans (s2.trans s3))
abbrev s_l_parts : Stmt := topS 55
theorem sc_l_parts : FnScope ["_law_knot"] ["_law_knot"] (defScope s_l_parts) := ⟨rfl, rfl, rfl, by decide +kernel, rfl, by decide +kernel, by decide +kernel⟩
def spLP (K : PySem.W.Frag) : Sp := fun vs H Q _ => ∃ (v : V) (p : Pg), vs = [v] ∧ At K H v p ∧ ∀ (t : Addr) (us : List V) (H' : Hp), Same H H' → H' t = some (.tup us) → Ats K H' us (parts p) → Q (.ref t) H'
theorem ok_l_parts (B : Bt mg) (D : DefAt K mg "_law_parts" s_l_parts ["_law_knot"]) : Cal P w K mg base 1 "_law_parts" ["_law_knot"] (spLP K) := by
  refine cal_of D sc_l_parts (fun vs H Q E h => ?_) (fun f cdv A outer s H vs Q E hr h => ?_)
  · obtain ⟨v, p, rfl, _⟩ := h
    rfl
  obtain ⟨v, p, rfl, hv, q⟩ := h
  refine ⟨_, (pss_cons (ps_if (pt_cmpR op_in_seq (pe_ix ix_tup (pv 0) pe_int (fun _ _ => rfl)) (pe_tup (pa_cons pe_str (pa_cons pe_str pa_nil))) rfl)
        (pss_one (ps_ret (pe_tup pa_nil)))
        pss_nil)
      (pss_one (ps_ret (pe_slice sl_tup (pv 0) (po_some (pe_op op_add pe_int (pe_callTy call_int1 (by rfl) B.int PyProof.Rows.boot_int (pa_cons (pe_cmpR op_eq (pe_ix ix_tup (pv 0) pe_int (fun _ _ => rfl)) pe_str (nomark _)) pa_nil)))) po_none)))), ?_⟩
  obtain ⟨a, vs, rfl, ha, hvs⟩ := hv.open
  refine ⟨_, rfl, a, _, 0, _, rfl, rfl, ha, at_word p vs, (by show 2 ≤ sizeLine; decide), fun t ht => ?_⟩
  have s2 : Same H (upd H t (.tup [.str "in", .str "num"])) := same_new ht
  have ha2 := Tp.same (K := K) s2 _ _ ha
  refine ⟨t, _, rfl, .inr (.inl (.inl upd_same)), rfl, rfl, _, rfl, ?_⟩
  show if inV (.str (word p)) [.str "in", .str "num"] = true then _ else _
  rw [in_leaf]
  generalize upd H t (.tup [.str "in", .str "num"]) = H2 at s2 ha2
  refine ite2 (fun z => ?_) (fun z => ?_)
  · obtain ⟨_, hp⟩ := of_decide_eq_true z
    exact ⟨(by show 0 ≤ sizeLine; decide), fun t2 ht2 => q t2 [] _ (s2.trans (same_new ht2)) upd_same (by rw [hp]; exact .nil)⟩
  · have e1 : (1 : Int) + (if (decide (V.str (word p) = V.str "plus")) = true then (1 : Int) else 0) = ((1 + nn p : Nat) : Int) := by
      have hz : ¬ (nn p = 1 ∧ parts p = []) := fun y => z (decide_eq_true y)
      cases p with
      | inp k => exact absurd ⟨rfl, rfl⟩ hz
      | num k => exact absurd ⟨rfl, rfl⟩ hz
      | tr b => cases b <;> rfl
      | plus c a => rfl
      | bin w a b => cases w <;> rfl
      | neg a => rfl
      | ite p a b => rfl
    refine ⟨_, rfl, _, rfl, a, _, 0, _, rfl, rfl, ha2, at_word p vs, rfl, .inr ⟨_, rfl, _, _, rfl, rfl, _, rfl, a, _, rfl, ha2, ?_, fun t2 ht2 => ?_⟩⟩
    · rintro ⟨y, _⟩
      have y' : HT.sIx (front p ++ vs).length 0 (some ((1 : Int) + (if (decide (V.str (word p) = V.str "plus")) = true then (1 : Int) else 0))) = 0 := y
      rw [e1, show HT.sIx (front p ++ vs).length 0 (some ((1 + nn p : Nat) : Int)) = min (1 + nn p) (front p ++ vs).length from HT.sIx_nat _ 0 _, List.length_append, front_len] at y'
      omega
    · have ec : cutV (front p ++ vs) (some ((1 : Int) + (if (decide (V.str (word p) = V.str "plus")) = true then (1 : Int) else 0))) none = vs := by rw [e1]; exact cut_from _ _ _ (front_len p)
      have st : Same H2 (upd H2 t2 (.tup vs)) := same_new ht2
      show Q (.ref t2) (upd H2 t2 (.tup (cutV (front p ++ vs) (some ((1 : Int) + (if (decide (V.str (word p) = V.str "plus")) = true then (1 : Int) else 0))) none)))
      rw [ec]
      exact q t2 vs _ (s2.trans st) upd_same (hvs.keep (Tp.same (s2.trans st)))
end
end Lm

set_option Elab.async false
set_option linter.all false
set_option maxRecDepth 100000
set_option maxHeartbeats 2000000
namespace Lm
open PySem PySem.Spec PyProof.Rows L2 LmR
/-! ### own classes: their methods, their making -/
structure ClsAt (K : PySem.W.Frag) (mg : Str → Option Value) (x : Str) (C : Addr) (fs : List Str) : Prop where
  g : mg x = some (.ref C)
  c : Cls K C
  n : ∀ f ∈ fs, NoAttr K C f
def DefM (K : PySem.W.Frag) (C : Addr) (m q : Str) (st : Stmt) (ps : List Str) : Prop := ∃ f fd, Fun K m q st f fd ∧ Meth K C m f ∧ Binds K fd ps []
def CalM (P : Program) (w : World) (K : PySem.W.Frag) (mg : Str → Option Value) (base : Heap) (k : Nat) (C : Addr) (m : Str) (ps : List Str) (sp : Sp) : Prop :=
  ∃ f fd, FnOk P w K mg base CX0 k f fd ps sp ∧ Meth K C m f ∧ Binds K fd ps []
section
variable {P : Program} {w : World} {K : PySem.W.Frag} {mg : Str → Option Value} {base : Heap}
theorem CalM.mono {j k : Nat} {C : Addr} {m : Str} {ps : List Str} {sp : Sp} (c : CalM P w K mg base j C m ps sp) (h : j ≤ k) : CalM P w K mg base k C m ps sp := by
  obtain ⟨f, fd, F, g⟩ := c
  exact ⟨f, fd, F.mono h, g⟩
theorem calm_of {C : Addr} {m q : Str} {st : Stmt} {N ps : List Str} {k : Nat} {sp : Sp} (D : DefM K C m q st ps) (S : FnScope N ps (defScope st)) (len : ∀ vs H Q E, sp vs H Q E → vs.length = ps.length)
    (hbody : ∀ (f : Addr) (cdv : Value) (A : Around) (outer : List Env) (s : Shared) (H : Hp) (vs : List V) (Q : VK) (E : XK), Room k (A.deeper (envOfC q (defScope st) s.heap.objs.size f cdv)) → sp vs H Q E →
      ∃ t, PSs (cxOf CX0 P w K mg base N q (defScope st) f cdv A outer s H E).nox (defBody st) t ∧ t { nx := fun _ H' => Q .non H', rt := Q } (start N vs) H) : CalM P w K mg base (k + 1) C m ps sp := by
  obtain ⟨f, fd, F, g, b⟩ := D
  exact ⟨f, fd, F.ok S len (hbody f), g, b⟩
end
section
variable {X : Cx}
theorem pe_calM {k : Nat} {C : Addr} {m : Str} {ps : List Str} {sp : Sp} {o e : Expr} {es : List Expr} {to : TE} {t : TA} {apos pos : Pos} {pl : Sem Bool} (C' : CalM X.prog X.w X.K X.mg X.base k C m ps sp) (c : Cls X.K C) (hr : Room k X.A) (ho : PE X o to) (ha : PA X (e :: es) t)
    (ht : eval (.Call (.Attribute o m apos) (e :: es) [] pos) X.env = (do
      let ov ← eval o X.env
      standAt apos.atName
      let (f, first) ← holding [ov] (getMethod ov m pl)
      callWith pos f first (backTo pos (starEach (e :: es) X.env)) (backToKw pos (keywordEach [] X.env))) := by rfl)
    (he : starEach (e :: es) X.env = (false, eval e X.env) :: starEach es X.env := by rfl) (hpl : (backTo pos (starEach es X.env)).any (·.1) = false := by rfl) :
    PE X (.Call (.Attribute o m apos) (e :: es) [] pos) (tMeth C m sp [] (fun _ _ _ => False) to t) := by
  obtain ⟨f, fd, F, g, b⟩ := C'
  exact pe_meth ho c g F hr b .nil pass0 ha he hpl ht
theorem pe_calM0 {k : Nat} {C : Addr} {m : Str} {ps : List Str} {sp : Sp} {o : Expr} {to : TE} {apos pos : Pos} {pl : Sem Bool} (C' : CalM X.prog X.w X.K X.mg X.base k C m ps sp) (c : Cls X.K C) (hr : Room k X.A) (ho : PE X o to)
    (ht : eval (.Call (.Attribute o m apos) [] [] pos) X.env = (do
      let ov ← eval o X.env
      standAt apos.atName
      let (f, first) ← holding [ov] (getMethod ov m pl)
      callWith pos f first (backTo pos (starEach [] X.env)) (backToKw pos (keywordEach [] X.env))) := by rfl) :
    PE X (.Call (.Attribute o m apos) [] [] pos) (tMeth C m sp [] (fun _ _ _ => False) to tNil) := by
  obtain ⟨f, fd, F, g, b⟩ := C'
  exact pe_meth0 ho c g F hr b .nil pass0 ht
end
/-! ### C(e, ..), __init__ with a default behind -/
/-- n values (self among them) are written, ds fill up -/
def DefI (K : PySem.W.Frag) (mg : Str → Option Value) (C : Addr) (x q : Str) (st : Stmt) (ps : List Str) (dvs : List V) (n : Nat) : Prop :=
  ∃ f fd, FunD K "__init__" q (defArgs st) (defBody st) (defScope st) dvs [] f fd ∧ Mk K C f ∧ mg x = some (.ref C) ∧ ∃ ds, Vals (dvs.drop n) ds ∧ Binds K fd ps ds
def CalI (P : Program) (w : World) (K : PySem.W.Frag) (mg : Str → Option Value) (base : Heap) (k : Nat) (C : Addr) (x : Str) (ps : List Str) (dvs : List V) (n : Nat) (sp : Sp) : Prop :=
  ∃ f fd, FnOk P w K mg base CX0 k f fd ps sp ∧ Mk K C f ∧ mg x = some (.ref C) ∧ (∃ ds, Vals (dvs.drop n) ds ∧ Binds K fd ps ds) ∧ ∃ q pa bo sc, FunD K "__init__" q pa bo sc dvs [] f fd
section
variable {P : Program} {w : World} {K : PySem.W.Frag} {mg : Str → Option Value} {base : Heap}
theorem CalI.mono {j k n : Nat} {C : Addr} {x : Str} {ps : List Str} {dvs : List V} {sp : Sp} (c : CalI P w K mg base j C x ps dvs n sp) (h : j ≤ k) : CalI P w K mg base k C x ps dvs n sp := by
  obtain ⟨f, fd, F, g⟩ := c
  exact ⟨f, fd, F.mono h, g⟩
theorem cali_of {C : Addr} {x q : Str} {st : Stmt} {N ps : List Str} {k n : Nat} {dvs : List V} {sp : Sp} (D : DefI K mg C x q st ps dvs n) (S : FnScope N ps (defScope st)) (len : ∀ vs H Q E, sp vs H Q E → vs.length = ps.length)
    (hbody : ∀ (f : Addr) (cdv : Value) (A : Around) (outer : List Env) (s : Shared) (H : Hp) (vs : List V) (Q : VK) (E : XK), Room k (A.deeper (envOfC q (defScope st) s.heap.objs.size f cdv)) → sp vs H Q E →
      ∃ t, PSs (cxOf CX0 P w K mg base N q (defScope st) f cdv A outer s H E).nox (defBody st) t ∧ t { nx := fun _ H' => Q .non H', rt := Q } (start N vs) H) : CalI P w K mg base (k + 1) C x ps dvs n sp := by
  obtain ⟨f, fd, F, g1, g2, g3⟩ := D
  refine ⟨f, fd, F.ok S len (fun cdv A outer s H vs Q E hr hsp => ?_), g1, g2, g3, _, _, _, _, F⟩
  obtain ⟨t, h, q⟩ := hbody f cdv A outer s H vs Q E hr hsp
  exact ⟨t, h.nox, q⟩
end
theorem pe_calI {X : Cx} {k n : Nat} {C : Addr} {x : Str} {ps : List Str} {dvs : List V} {sp : Sp} {e : Expr} {es : List Expr} {t : TA} {p pos : Pos} (C' : CalI X.prog X.w X.K X.mg X.base k C x ps dvs n sp) (hr : Room (k + 1) X.A) (hg : Gl X x) (ha : PA X (e :: es) t)
    (hdb : (x == ("__debug__" : Str)) = false := by decide) (he : starEach (e :: es) X.env = (false, eval e X.env) :: starEach es X.env := by rfl) (hpl : (backTo pos (starEach es X.env)).any (·.1) = false := by rfl) :
    PE X (.Call (.Name x p) (e :: es) [] pos) (tMake C sp (dvs.drop n) (fun _ _ _ => False) t) := by
  obtain ⟨f, fd, F, M, g, ⟨ds, hd, b⟩, _⟩ := C'
  exact pe_make M F hr hg g b hd pass0 ha hdb he hpl
def rTupK (K : PySem.W.Frag) : List V → Hp → VK → Prop := fun xs H Q => ∃ p ys, xs = [.ref p] ∧ ((SqL K H p ys ∧ ∀ l, H l = none → Q (.ref l) (upd H l (.tup ys))) ∨ (SqT K H p ys ∧ Q (.ref p) H))
theorem call_tuple_ofK {X : Cx} {K : PySem.W.Frag} (h : X.K = K) : CallR X (.type "tuple") (rTupK K) := h ▸ call_tuple_of
theorem pi_listK {X : Cx} {K : PySem.W.Frag} {tg l : Expr} {tl : TE} (h : X.K = K) (hl : PE X l tl) : PI X tg l (iList K tl) := h ▸ pi_list hl
theorem pi_tupK {X : Cx} {K : PySem.W.Frag} {tg l : Expr} {tl : TE} (h : X.K = K) (hl : PE X l tl) : PI X tg l (iTup K tl) := h ▸ pi_tup hl
theorem walk_zipT {K : PySem.W.Frag} {a b : Addr} {xs ys : List V} {n : Nat} (hn : n = min xs.length ys.length) : Walk (RZ.ItzT K a b) n (fun H => SqT K H a xs ∧ SqT K H b ys) (YPair (fun i => xs[i]?) (fun i => ys[i]?)) := by
  subst hn
  refine ⟨fun i _ hi q => ?_, fun _ q => ⟨xs, ys, q.1, q.2, by omega⟩, fun i H v H' _ q y => ?_⟩
  · have h1 : i < xs.length := by omega
    have h2 : i < ys.length := by omega
    exact ⟨xs, ys, xs[i], ys[i], q.1, q.2, by simp [h1], by simp [h2]⟩
  · obtain ⟨T, x, z, h1, h2, h3, h4, h5⟩ := y
    exact ⟨T, x, z, h1, h2, h3, h4 xs q.1, h5 ys q.2⟩
theorem pg_tupK {X : Cx} {K : PySem.W.Frag} {es : List Expr} {k : Nat} {t : TGs} {n : Nat} {pos : Pos} (hK : X.K = K) (hc : X.calm = true) (h : PGs X es t)
    (hn : (assignEach es X.env).length = n := by rfl) (hst : (assignEach es X.env).findIdx? (·.1) = none := by rfl) : PG X (.Tuple es k pos) (gTup K n t) := hK ▸ pg_tup hc h hn hst
theorem cr_minQ {X : Cx} {K : PySem.W.Frag} (h : X.K = K) (hc : X.calm = true) : CallR X (.builtin "min") (rMin K) := h ▸ cr_min hc
/-! ### for x in e, e a list or a tuple -/
section
variable {X : Cx} {tg : Expr}
def iLT (K : PySem.W.Frag) (tl : TE) : TI := fun σ H R => tl σ H fun x H1 => ∃ a, x = .ref a ∧ (((∃ xs, SqL K H1 a xs) ∧ R (Itl K a) H1) ∨ ((∃ xs, SqT K H1 a xs) ∧ R (Itt K a) H1))
theorem pi_lt {l : Expr} {tl : TE} (hl : PE X l tl) : PI X tg l (iLT X.K tl) := by
  refine ⟨fun pins s σ H R I h => ?_⟩
  refine thn (hl.run pins s σ H _ I h) fun v s1 ⟨x, H1, I1, r1, q1⟩ => ?_
  obtain ⟨a, e, q⟩ := q1
  subst e
  cases r1
  rcases q with ⟨⟨xs, hq⟩, q⟩ | ⟨⟨xs, hq⟩, q⟩
  · obtain ⟨its, rv, p, hz⟩ := I1.list hq
    refine wpAny_pyIter_list p.isList ?_
    refine ⟨s1.heap.objs.size, [s1.heap.objs.size], _, _, H1, rfl, I1.kept (t' := s1.toks) fun b o e => Heap.get?_push_of_some _ e, turn_list a _, ⟨_, Heap.get?_push_size _ rfl, rfl, rfl⟩, fun b hb => ?_, q⟩
    have e : b = s1.heap.objs.size := by simpa using hb
    subst e
    exact I1.fpOk (Nat.le_refl _) (I1.hok.fresh (Nat.le_refl _))
  · obtain ⟨its, rv, p, hz⟩ := I1.tuple hq
    refine wpAny_pyIter_tuple (show s1.heap.IsTuple a its.toArray from p) ?_
    refine ⟨s1.heap.objs.size, [s1.heap.objs.size], _, _, H1, rfl, I1.kept (t' := s1.toks) fun b o e => Heap.get?_push_of_some _ e, turn_tuple a _, ⟨_, Heap.get?_push_size _ rfl, rfl, rfl⟩, fun b hb => ?_, q⟩
    have e : b = s1.heap.objs.size := by simpa using hb
    subst e
    exact I1.fpOk (Nat.le_refl _) (I1.hok.fresh (Nat.le_refl _))
end
end Lm

set_option Elab.async false
set_option linter.all false
set_option maxRecDepth 100000
set_option maxHeartbeats 2000000
namespace Lm
open PySem PySem.Spec PyProof.Rows L2 LmR
theorem dep_part (p q : Pg) (h : q ∈ parts p) : dep q + 1 ≤ dep p := by
  cases p with
  | inp k => simp [parts] at h
  | num k => simp [parts] at h
  | tr k => simp [parts] at h
  | plus c a => simp only [parts, List.mem_singleton] at h; subst h; simp only [dep]; omega
  | bin w a b =>
    simp only [parts, List.mem_cons, List.not_mem_nil, or_false] at h
    rcases h with rfl | rfl <;> (simp only [dep]; omega)
  | neg a => simp only [parts, List.mem_singleton] at h; subst h; simp only [dep]; omega
  | ite r a b =>
    simp only [parts, List.mem_cons, List.not_mem_nil, or_false] at h
    rcases h with rfl | rfl | rfl <;> (simp only [dep]; omega)
theorem psz_part (p q : Pg) (h : q ∈ parts p) : psz q + 1 ≤ psz p := by
  cases p with
  | inp k => simp [parts] at h
  | num k => simp [parts] at h
  | tr k => simp [parts] at h
  | plus c a => simp only [parts, List.mem_singleton] at h; subst h; simp only [psz]; omega
  | bin w a b =>
    simp only [parts, List.mem_cons, List.not_mem_nil, or_false] at h
    rcases h with rfl | rfl <;> (simp only [psz]; omega)
  | neg a => simp only [parts, List.mem_singleton] at h; subst h; simp only [psz]; omega
  | ite r a b =>
    simp only [parts, List.mem_cons, List.not_mem_nil, or_false] at h
    rcases h with rfl | rfl | rfl <;> (simp only [psz]; omega)
theorem dsz_enc : ∀ p : Pg, dsz (enc p) ≤ 4 * psz p
  | .inp _ => by simp [enc, dsz, dsz.dszs, psz]
  | .num _ => by simp [enc, dsz, dsz.dszs, psz]
  | .tr _ => by simp [enc, dsz, dsz.dszs, psz]
  | .plus c a => by have := dsz_enc a; simp [enc, dsz, dsz.dszs, psz]; omega
  | .bin w a b => by have := dsz_enc a; have := dsz_enc b; simp [enc, dsz, dsz.dszs, psz]; omega
  | .neg a => by have := dsz_enc a; simp [enc, dsz, dsz.dszs, psz]; omega
  | .ite p a b => by have := dsz_enc a; have := dsz_enc b; have := dsz_enc p; simp [enc, dsz, dsz.dszs, psz]; omega
theorem dszs_le (m : Nat) : ∀ ps : List Pg, (∀ p ∈ ps, psz p ≤ m) → dsz.dszs (ps.map enc) ≤ ps.length * (4 * m)
  | [], _ => by simp [dsz.dszs]
  | p :: ps, h => by
    have h1 := dszs_le m ps fun q hq => h q (List.mem_cons_of_mem _ hq)
    have h2 := dsz_enc p
    have h3 := h p List.mem_cons_self
    simp only [List.map_cons, dsz.dszs, List.length_cons, Nat.add_mul]
    omega
/-- the data of some programs in a tuple -/
theorem fd_knots {K : PySem.W.Frag} {H : Hp} {t : Addr} {us : List V} {ps : List Pg} (h : H t = some (.tup us)) (a : Ats K H us ps) : Fd K H (.ref t) (.tuple (ps.map enc)) := ⟨by simp [flat, flats_encs], .tup (.inl (.inl h)) a⟩
theorem kLL {K : PySem.W.Frag} : PySem.W.kitOne K (.type "list") (.type "list") = some true := kit_ty (by decide +kernel)
section
variable {P : Program} {w : World} {K : PySem.W.Frag} {mg : Str → Option Value} {base : Heap}
abbrev s_l_knots : Stmt := topS 56
theorem sc_l_knots : FnScope ["_law_program", "_law_found", "_law_part"] ["_law_program"] (defScope s_l_knots) := ⟨rfl, rfl, rfl, by decide +kernel, rfl, by decide +kernel, by decide +kernel⟩
def spLK (K : PySem.W.Frag) (n : Nat) : Sp := fun vs H Q _ => ∃ (v : V) (p : Pg), vs = [v] ∧ At K H v p ∧ dep p ≤ n ∧ psz p ≤ 10000 ∧ ∀ (l : Addr) (us : List V) (H' : Hp), Same H H' → H l = none → H' l = some (.lst us) → Ats K H' us (kn p) → Q (.ref l) H'
theorem ok_l_knots1 {n : Nat} (C_l_has_form : Cal P w K mg base 1 "_law_has_form" ["_law_knot"] (spLHF K)) (C_l_parts : Cal P w K mg base 1 "_law_parts" ["_law_knot"] (spLP K)) (C_l_knots : Cal P w K mg base (n + 1) "_law_knots" ["_law_program"] (spLK K n)) (D : DefAt K mg "_law_knots" s_l_knots ["_law_program"]) : Cal P w K mg base (n + 1 + 1) "_law_knots" ["_law_program"] (spLK K (n + 1)) := by
  refine cal_of D sc_l_knots (fun vs H Q E h => ?_) (fun f cdv A outer s H vs Q E hr h => ?_)
  · obtain ⟨v, p, rfl, _⟩ := h
    rfl
  obtain ⟨v, p, rfl, hv, hdep, hsz, q⟩ := h
  have C_l_has_form := C_l_has_form.mono (k := n + 1) (by omega)
  have C_l_parts := C_l_parts.mono (k := n + 1) (by omega)
  have hr' : Room (n + 1) _ := hr
  refine ⟨_, (pss_cons (ps_set (i := 1) sc_l_knots.nd rfl (.inl rfl) (pe_lst (pa_cons (pv 0) pa_nil)))
      (pss_cons (ps_if (pt_val (pe_cal C_l_has_form hr' (by rfl) (pa_cons (pv 0) pa_nil)))
        (pss_one (ps_for PassesOwn.never rfl (pi_tup (pe_cal C_l_parts hr' (by rfl) (pa_cons (pv 0) pa_nil))) (pg_name (i := 2) sc_l_knots.nd rfl (.inl rfl))
        (pss_one (ps_expr (pe_bm PySem.F.plainAttrs_list PySem.F.slot_list_extend PySem.F.type_list_extend mt_extend (pv 1) (pa_cons (pe_cal C_l_knots hr' (by rfl) (pa_cons (pv 2) pa_nil)) pa_nil))))))
        pss_nil)
      (pss_one (ps_ret (pv 1))))), ?_⟩
  refine ⟨_, rfl, (by show 1 ≤ sizeLine; decide), fun l hl => ?_⟩
  have s1 : Same H (upd H l (.lst [v])) := same_new hl
  have l1 : (upd H l (.lst [v])) l = some (.lst [v]) := upd_same
  generalize upd H l (.lst [v]) = H1 at s1 l1
  have hv1 := hv.keep (Tp.same s1)
  refine ⟨_, rfl, v, p, rfl, hv1, fun H2 s2 => ⟨_, rfl, ?_⟩⟩
  have hv2 := hv1.keep (Tp.same s2)
  refine ⟨_, rfl, v, p, rfl, hv2, fun t vs H3 s3 ht hvs => ?_⟩
  have s13 := s2.trans s3
  refine ⟨t, rfl, ⟨_, .inl (.inl ht)⟩, for_tup (K := K) (a := t) (xs := vs) (fun i σ' H' => ∃ (us : List V) (y2 : Option V), σ' = [some v, some (.ref l), y2] ∧ Same H H' ∧ H' t = some (.tup vs) ∧ Ats K H' vs (parts p) ∧ H' l = some (.lst us) ∧ Ats K H' us (p :: knf ((parts p).take i))) ?_ ?_ ?_ ?_⟩
  · exact ⟨[v], none, rfl, s1.trans s13, ht, hvs, s13 _ _ l1, .cons (hv.keep (Tp.same (s1.trans s13))) (by simp [knf]; exact .nil)⟩
  · rintro i σ' H' _ ⟨us, y2, rfl, sm, ht', _⟩
    exact .inl (.inl ht')
  · rintro i x σ' H' hx ⟨us, y2, rfl, sm, ht', hvs', hl', hus⟩
    obtain ⟨r, hr1, har⟩ := hvs'.get i x hx
    have hmem := List.mem_of_getElem? hr1
    have d1 := dep_part p r hmem
    have z1 := psz_part p r hmem
    refine ⟨_, rfl, .inl ⟨rfl, _, SqL.of hl'⟩, _, rfl, x, r, rfl, har, by omega, by omega, fun l2 us2 H4 s4 l20 hl2 hus2 => ?_⟩
    have hl4 := s4 _ _ hl'
    have nl : l ≠ l2 := fun z => by
      rw [← z, hl'] at l20
      cases l20
    have e1 : us.length = 1 + (knf ((parts p).take i)).length := by rw [hus.len, List.length_cons]; omega
    have e2 : us2.length = psz r := by rw [hus2.len, kn_len]
    have e3 : (knf ((parts p).take (i + 1))) = knf ((parts p).take i) ++ kn r := by
      rw [List.take_add_one, hr1]
      simp [knf]
    have e4 : (knf ((parts p).take (i + 1))).length ≤ psz p := by
      have z : knf (parts p) = knf ((parts p).take (i + 1)) ++ knf ((parts p).drop (i + 1)) := by
        unfold knf
        rw [← List.flatMap_append, List.take_append_drop]
      have z2 : psz p = 1 + (knf (parts p)).length := by
        rw [← kn_len, kn_eq]
        simp [knf]
        omega
      rw [z, List.length_append] at z2
      omega
    rw [e3, List.length_append, kn_len] at e4
    refine ⟨l, l2, us, us2, rfl, rfl, hl4, hl2, small (by omega), us ++ us2, _, rfl, fun b o z => ?_, ?_, ?_, upd_same, ?_⟩
    · rw [upd_ne (ne_of_none z hl)]
      exact s4 _ _ (sm b o z)
    · rw [upd_ne (fun z => by rw [z, hl'] at ht'; cases ht')]
      exact s4 _ _ ht'
    · exact (hvs'.keep (Tp.same s4)).keep (Tp.lst hl4)
    · have t5 : Tp K H4 (upd H4 l (.lst (us ++ us2))) := Tp.lst hl4
      have z := ((hus.keep (Tp.same s4)).keep t5).app (hus2.keep t5)
      rw [e3]
      exact z
  · rintro σ' H' ⟨us, y2, rfl, sm, ht', hvs', hl', hus⟩
    rw [hvs.len, List.take_length] at hus
    refine ⟨_, rfl, q l us H' sm hl hl' ?_⟩
    rw [kn_eq]
    exact hus
theorem ok_l_knots (C_l_has_form : Cal P w K mg base 1 "_law_has_form" ["_law_knot"] (spLHF K)) (C_l_parts : Cal P w K mg base 1 "_law_parts" ["_law_knot"] (spLP K)) (D : DefAt K mg "_law_knots" s_l_knots ["_law_program"]) : ∀ n : Nat, Cal P w K mg base (n + 1) "_law_knots" ["_law_program"] (spLK K n)
  | 0 => cal_no D fun vs H Q E h => by
    obtain ⟨v, p, _, _, h1, _⟩ := h
    have := dep_pos p
    omega
  | n + 1 => ok_l_knots1 C_l_has_form C_l_parts (ok_l_knots C_l_has_form C_l_parts D n) D
abbrev s_l_own : Stmt := topS 57
theorem sc_l_own : FnScope ["_law_kinds", "_law_knot"] ["_law_kinds", "_law_knot"] (defScope s_l_own) := ⟨rfl, rfl, rfl, by decide +kernel, rfl, by decide +kernel, by decide +kernel⟩
def spLO (K : PySem.W.Frag) (n : Nat) : Sp := fun vs H Q _ => ∃ (ka : Addr) (ks : List Bool) (v : V) (p : Pg), vs = [.ref ka, v] ∧ SqT K H ka (kVs ks) ∧ At K H v p ∧ Wk ks p ∧ dep p ≤ n ∧ ∀ H', Same H H' → Q (.str (kS (own ks p))) H'
theorem in_num4 (p : Pg) (h1 : ∀ k, p ≠ .inp k) (h2 : ∀ q a b, p ≠ .ite q a b) (ks : List Bool) : inV (.str (word p)) [.str "num", .str "plus", .str "least", .str "most"] = !(own ks p) := by
  cases p with
  | tr b => cases b <;> rfl
  | bin w a b => cases w <;> rfl
  | inp k => exact absurd rfl (h1 k)
  | ite q a b => exact absurd rfl (h2 q a b)
  | _ => rfl
theorem ok_l_own1 {n : Nat} (B : Bt mg) (C_l_own : Cal P w K mg base (n + 1) "_law_own" ["_law_kinds", "_law_knot"] (spLO K n)) (D : DefAt K mg "_law_own" s_l_own ["_law_kinds", "_law_knot"]) : Cal P w K mg base (n + 1 + 1) "_law_own" ["_law_kinds", "_law_knot"] (spLO K (n + 1)) := by
  refine cal_of D sc_l_own (fun vs H Q E h => ?_) (fun f cdv A outer s H vs Q E hr h => ?_)
  · obtain ⟨ka, ks, v, p, rfl, _⟩ := h
    rfl
  obtain ⟨ka, ks, v, p, rfl, hk, hv, hw, hdep, q⟩ := h
  have hr' : Room (n + 1) _ := hr
  refine ⟨_, (pss_cons (ps_if (pt_cmpR op_eq (pe_ix ix_tup (pv 1) pe_int (fun _ _ => rfl)) pe_str (nomark _))
        (pss_one (ps_ret (pe_cal C_l_own hr' (by rfl) (pa_cons (pv 0) (pa_cons (pe_ix ix_tup (pv 1) pe_int (fun _ _ => rfl)) pa_nil)))))
        pss_nil)
      (pss_cons (ps_if (pt_cmpR op_eq (pe_ix ix_tup (pv 1) pe_int (fun _ _ => rfl)) pe_str (nomark _))
        (pss_one (ps_ret (pe_ix ix_tup (pv 0) (pe_ix ix_tup (pv 1) pe_int (fun _ _ => rfl)) (fun _ _ => rfl))))
        pss_nil)
      (pss_one (ps_ret (pe_ix ix_list (pe_lst (pa_cons pe_str (pa_cons pe_str pa_nil))) (pe_callTy call_int1 (by rfl) B.int PyProof.Rows.boot_int (pa_cons (pe_cmpR op_in_seq (pe_ix ix_tup (pv 1) pe_int (fun _ _ => rfl)) (pe_tup (pa_cons pe_str (pa_cons pe_str (pa_cons pe_str (pa_cons pe_str pa_nil))))) rfl) pa_nil)) (fun _ _ => rfl)))))), ?_⟩
  obtain ⟨a, vs, rfl, ha, hvs⟩ := hv.open
  refine ⟨_, rfl, a, _, 0, _, rfl, rfl, ha, at_word p vs, rfl, _, rfl, ite2 (fun z => ?_) (fun z => ?_)⟩
  · have z' : V.str (word p) = V.str "if" := of_decide_eq_true z
    obtain ⟨r, x, y, rfl⟩ := word_if z'
    obtain ⟨u1, u2, u3, rfl, a1, a2, a3⟩ := hvs.three
    have d1 := dep_part (.ite r x y) x (by simp [parts])
    exact ⟨_, rfl, _, rfl, a, _, 2, u2, rfl, rfl, ha, rfl, ka, ks, u2, x, rfl, hk, a2, hw.2.1, by omega, q⟩
  refine ⟨_, rfl, a, _, 0, _, rfl, rfl, ha, at_word p vs, rfl, _, rfl, ite2 (fun y => ?_) (fun y => ?_)⟩
  · have y' : V.str (word p) = V.str "in" := of_decide_eq_true y
    obtain ⟨k, rfl⟩ := word_in y'
    have hk' : k < ks.length := hw
    have ek : (kVs ks)[k]? = some (.str (kS (own ks (.inp k)))) := by
      unfold kVs
      rw [List.getElem?_map, List.getElem?_eq_getElem hk']
      show some (V.str (kS ks[k])) = some (V.str (kS (ks.getD k false)))
      rw [List.getD_eq_getElem?_getD, List.getElem?_eq_getElem hk']
      rfl
    exact ⟨_, rfl, _, rfl, a, _, 1, .int k, rfl, rfl, ha, at_of (j := 1) rfl rfl, ka, _, _, _, rfl, rfl, hk, at_of (j := k) rfl ek, q _ (Same.refl _)⟩
  · have h1 : ∀ k, p ≠ .inp k := fun k e => y (decide_eq_true (by rw [e]; rfl))
    have h2 : ∀ r x u, p ≠ .ite r x u := fun r x u e => z (decide_eq_true (by rw [e]; rfl))
    refine ⟨(by show 2 ≤ sizeLine; decide), fun l hl => ?_⟩
    have s1 : Same H (upd H l (.lst [.str "truth", .str "num"])) := same_new hl
    have ha1 := Tp.same (K := K) s1 _ _ ha
    refine ⟨_, rfl, a, _, 0, _, rfl, rfl, ha1, at_word p vs, (by show 4 ≤ sizeLine; decide), fun t ht => ?_⟩
    have s2 := same_new (o := .tup [.str "num", .str "plus", .str "least", .str "most"]) ht
    refine ⟨t, _, rfl, .inr (.inl (.inl upd_same)), rfl, rfl, .inr ⟨_, rfl, ?_⟩⟩
    have hl2 := s2 _ _ (upd_same (H := H) (a := l) (o := .lst [.str "truth", .str "num"]))
    show (rIxL K) (.ref l) (.int (if inV (.str (word p)) [.str "num", .str "plus", .str "least", .str "most"] = true then 1 else 0)) _ _
    rw [in_num4 p h1 h2 ks]
    have qq := q _ (s1.trans s2)
    revert qq
    cases own ks p with
    | true => intro qq; exact ⟨l, _, 0, .str "truth", rfl, rfl, SqL.of hl2, rfl, qq⟩
    | false => intro qq; exact ⟨l, _, 1, .str "num", rfl, rfl, SqL.of hl2, rfl, qq⟩
theorem ok_l_own (B : Bt mg) (D : DefAt K mg "_law_own" s_l_own ["_law_kinds", "_law_knot"]) : ∀ n : Nat, Cal P w K mg base (n + 1) "_law_own" ["_law_kinds", "_law_knot"] (spLO K n)
  | 0 => cal_no D fun vs H Q E h => by
    obtain ⟨ka, ks, v, p, _, _, _, _, h1, _⟩ := h
    have := dep_pos p
    omega
  | n + 1 => ok_l_own1 B (ok_l_own B D n) D
end
end Lm

set_option Elab.async false
set_option linter.all false
set_option maxRecDepth 100000
set_option maxHeartbeats 2000000
namespace Lm
open PySem PySem.Spec PyProof.Rows L2 LmR
/-- whether the parts of a knot have the kinds due -/
def fits (ks : List Bool) : Pg → Bool
  | .inp _ => true
  | .num _ => true
  | .tr _ => true
  | .plus _ a => own ks a == false
  | .bin w a b => (own ks a == w.arg) && (own ks b == w.arg)
  | .neg a => own ks a == true
  | .ite p a b => (own ks p == true) && (own ks b == own ks a)
/-- its own input, if it is one, is there -/
def In0 (n : Nat) : Pg → Prop
  | .inp k => k < n
  | _ => True
theorem eqv0 : PyData.eqv (.tuple []) (.tuple []) = true := by decide +kernel
theorem eqv1 (a b : Bool) : PyData.eqv (.tuple [kD a]) (.tuple [kD b]) = (a == b) := by revert a b; decide +kernel
theorem eqv2 (a b c d : Bool) : PyData.eqv (.tuple [kD a, kD b]) (.tuple [kD c, kD d]) = ((a == c) && (b == d)) := by revert a b c d; decide +kernel
theorem eqv3 (a b c : Bool) : PyData.eqv (.tuple [kD a, kD b, kD c]) (.tuple [kD true, kD b, kD b]) = ((a == true) && (c == b)) := by revert a b c; decide +kernel
section
variable {P : Program} {w : World} {K : PySem.W.Frag} {mg : Str → Option Value} {base : Heap}
def spPFA (K : PySem.W.Frag) : Sp := fun vs H Q _ => ∃ (p : Pg) (ks : List Bool) (t : Addr), vs = [.str (word p), .ref t] ∧ SqT K H t (kids ks (parts p)) ∧ ∀ H', Same H H' → Q (.bl (fits ks p)) H'
theorem ok_parts_fitA {d : Addr} (F : Forms K w mg d) (D : DefAt K mg "parts_fit" s_parts_fit ["word", "told"]) : Cal P w K mg base 1 "parts_fit" ["word", "told"] (spPFA K) := by
  refine cal_of D sc_parts_fit (fun vs H Q E h => ?_) (fun f cdv A outer s H vs Q E hr h => ?_)
  · obtain ⟨p, ks, t, rfl, _⟩ := h
    rfl
  obtain ⟨p, ks, t, rfl, ht, q⟩ := h
  have hFORMS := F.g
  refine ⟨_, (pss_cons (ps_set (i := 2) sc_parts_fit.nd rfl (.inl rfl) (pe_ix ix_tup (pe_ix ix_kdict (pe_gr (by rfl) hFORMS) (pv 0) (fun _ _ => rfl)) pe_int (fun _ _ => rfl)))
      (pss_cons (ps_if (pt_cmpR op_eq (pv 0) pe_str (nomark _))
        (pss_one (ps_ret (pe_cmpR (op_eqD hr.units) (pv 1) (pe_tup (pa_cons (pe_ix ix_tup (pv 2) pe_int (fun _ _ => rfl)) (pa_cons (pe_ix ix_tup (pv 1) pe_int (fun _ _ => rfl)) (pa_cons (pe_ix ix_tup (pv 1) pe_int (fun _ _ => rfl)) pa_nil)))) (nomark _))))
        pss_nil)
      (pss_one (ps_ret (pe_cmpR (op_eqD hr.units) (pv 1) (pv 2) (nomark _)))))), ?_⟩
  obtain ⟨ft, fu, e, fa, fb⟩ := F.at p
  refine ⟨_, rfl, d, word p, .ref ft, rfl, rfl, e, ft, _, 1, .ref fu, rfl, rfl, fa.sq _, rfl, ?_⟩
  refine ⟨_, rfl, rfl, _, rfl, ite2 (fun z => ?_) (fun z => ?_)⟩
  · have z' : V.str (word p) = V.str "if" := of_decide_eq_true z
    obtain ⟨r, x, y, rfl⟩ := word_if z'
    refine ⟨_, rfl, _, rfl, fu, _, 0, _, rfl, rfl, fb.sq _, rfl, _, rfl, t, _, 1, _, rfl, rfl, ht, rfl, _, rfl, t, _, 1, _, rfl, rfl, ht, rfl, (by show 3 ≤ sizeLine; decide), fun n hn => ?_⟩
    have sn : Same H (upd H n (.tup [.str (kS true), .str (kS (own ks x)), .str (kS (own ks x))])) := same_new hn
    refine ⟨.tuple [kD (own ks r), kD (own ks x), kD (own ks y)], .tuple [kD true, kD (own ks x), kD (own ks x)], .tup (Tp.same sn _ _ ht) (.cons (.str _) (.cons (.str _) (.cons (.str _) .nil))), .tup (.inl (.inl upd_same)) (.cons (.str _) (.cons (.str _) (.cons (.str _) .nil))), sh3 _ _ _, sh3 _ _ _, ?_⟩
    rw [eqv3]
    exact q _ sn
  · refine ⟨_, rfl, _, rfl, ?_⟩
    have fin : ∀ ds es : List PyData, DpAll K H (kids ks (parts p)) ds → DpAll K H (due p) es → SeqAt.shaped (.tuple ds) = true → SeqAt.shaped (.tuple es) = true → PyData.eqv (.tuple ds) (.tuple es) = fits ks p → ∃ d e, Dp K H (.ref t) d ∧ Dp K H (.ref fu) e ∧ SeqAt.shaped d = true ∧ SeqAt.shaped e = true ∧ Q (.bl (PyData.eqv d e)) H := fun ds es h1 h2 h3 h4 h5 => ⟨_, _, .tup ht h1, .tup (fb.sq _) h2, h3, h4, by rw [h5]; exact q H (Same.refl _)⟩
    cases p with
    | inp k => exact fin [] [] .nil .nil sh0 sh0 eqv0
    | num k => exact fin [] [] .nil .nil sh0 sh0 eqv0
    | tr k => exact fin [] [] .nil .nil sh0 sh0 eqv0
    | plus c a => exact fin [kD (own ks a)] [kD false] (.cons (.str _) .nil) (.cons (.str _) .nil) (sh1 _) (sh1 _) (eqv1 _ _)
    | bin w a b => exact fin [kD (own ks a), kD (own ks b)] [kD w.arg, kD w.arg] (.cons (.str _) (.cons (.str _) .nil)) (.cons (.str _) (.cons (.str _) .nil)) (sh2 _ _) (sh2 _ _) (eqv2 _ _ _ _)
    | neg a => exact fin [kD (own ks a)] [kD true] (.cons (.str _) .nil) (.cons (.str _) .nil) (sh1 _) (sh1 _) (eqv1 _ _)
    | ite r x y => exact absurd (decide_eq_true rfl) z
def spOKA (K : PySem.W.Frag) : Sp := fun vs H Q _ => ∃ (p : Pg) (ks : List Bool) (ka t : Addr) (v : V), vs = [.ref ka, v, .ref t] ∧ SqT K H ka (kVs ks) ∧ At K H v p ∧ SqT K H t (kids ks (parts p)) ∧ In0 ks.length p ∧ Q (.str (kS (own ks p))) H
theorem ok_own_kindA {d : Addr} (F : Forms K w mg d) (D : DefAt K mg "own_kind" s_own_kind ["kinds", "knot", "told"]) : Cal P w K mg base 1 "own_kind" ["kinds", "knot", "told"] (spOKA K) := by
  refine cal_of D sc_own_kind (fun vs H Q E h => ?_) (fun f cdv A outer s H vs Q E hr h => ?_)
  · obtain ⟨p, ks, ka, t, v, rfl, _⟩ := h
    rfl
  obtain ⟨p, ks, ka, t, v, rfl, hk, hv, ht, hw, q⟩ := h
  have hFORMS := F.g
  refine ⟨_, (pss_cons (ps_if (pt_cmpR op_eq (pe_ix ix_tup (pv 1) pe_int (fun _ _ => rfl)) pe_str (nomark _))
        (pss_one (ps_ret (pe_ix ix_tup (pv 0) (pe_ix ix_tup (pv 1) pe_int (fun _ _ => rfl)) (fun _ _ => rfl))))
        pss_nil)
      (pss_cons (ps_if (pt_cmpR op_eq (pe_ix ix_tup (pv 1) pe_int (fun _ _ => rfl)) pe_str (nomark _))
        (pss_one (ps_ret (pe_ix ix_tup (pv 2) pe_int (fun _ _ => rfl))))
        pss_nil)
      (pss_one (ps_ret (pe_ix ix_tup (pe_ix ix_kdict (pe_gr (by rfl) hFORMS) (pe_ix ix_tup (pv 1) pe_int (fun _ _ => rfl)) (fun _ _ => rfl)) pe_int (fun _ _ => rfl)))))), ?_⟩
  obtain ⟨a, vs, rfl, ha, hvs⟩ := hv.open
  obtain ⟨ft, fu, e, a', b⟩ := F.at p
  refine ⟨_, rfl, a, _, 0, _, rfl, rfl, ha, at_word p vs, rfl, _, rfl, ite2 (fun z => ?_) (fun z => ?_)⟩
  · have z' : V.str (word p) = V.str "in" := of_decide_eq_true z
    obtain ⟨k, rfl⟩ := word_in z'
    have hk' : k < ks.length := hw
    have ek : (kVs ks)[k]? = some (.str (kS (own ks (.inp k)))) := by
      unfold kVs
      rw [List.getElem?_map, List.getElem?_eq_getElem hk']
      show some (V.str (kS ks[k])) = some (V.str (kS (ks.getD k false)))
      rw [List.getD_eq_getElem?_getD, List.getElem?_eq_getElem hk']
      rfl
    exact ⟨_, rfl, _, rfl, a, _, 1, .int k, rfl, rfl, ha, at_of (j := 1) rfl rfl, ka, _, _, _, rfl, rfl, hk, at_of (j := k) rfl ek, q⟩
  refine ⟨_, rfl, a, _, 0, _, rfl, rfl, ha, at_word p vs, rfl, _, rfl, ite2 (fun y => ?_) (fun y => ?_)⟩
  · have y' : V.str (word p) = V.str "if" := of_decide_eq_true y
    obtain ⟨r, x, u, rfl⟩ := word_if y'
    exact ⟨_, rfl, t, _, 1, .str (kS (own ks x)), rfl, rfl, ht, rfl, q⟩
  · have eo : ownV p = .str (kS (own ks p)) := by
      cases p with
      | inp k => exact absurd (decide_eq_true rfl) z
      | ite r x u => exact absurd (decide_eq_true rfl) y
      | _ => rfl
    rw [eo] at a'
    exact ⟨_, rfl, a, _, 0, _, rfl, rfl, ha, at_word p vs, d, word p, .ref ft, rfl, rfl, e, ft, _, 2, _, rfl, rfl, a'.sq _, rfl, q⟩
end
/-! ### data whose knots all have forms, and inputs that are there, is a program -/
theorem dsz_mem : ∀ (ds : List PyData) (d : PyData), d ∈ ds → dsz d ≤ dsz.dszs ds
  | e :: ds, d, h => by
    simp only [dsz.dszs]
    rcases List.mem_cons.mp h with z | z
    · rw [z]; omega
    · have := dsz_mem ds d z
      omega
theorem pow_nat {n : Int} (h : 0 ≤ n) : ∃ k : Nat, n = k := ⟨n.toNat, by omega⟩
theorem dec_pg (n : Nat) : ∀ (N : Nat) (d : PyData), dsz d ≤ N → (∀ x ∈ knD d, hasF x = true) → (∀ x ∈ knD d, inOk n x = true) → ∃ p : Pg, d = enc p
  | 0, d, hz, _, _ => absurd (dsz_pos d) (by omega)
  | N + 1, d, hz, hf, hi => by
    have hd : d ∈ knD d := by cases d <;> simp [knD]
    have hfd := hf d hd
    obtain ⟨wd, rs, a, b, rfl, hnm, hlen, hnum⟩ := hasF_open hfd
    have ek : knD (.tuple (.str wd :: rs)) = .tuple (.str wd :: rs) :: knDs ((PyData.str wd :: rs).drop (1 + a)) := by
      have sk : skipD (.str wd :: rs) = 1 + a := by
        show 1 + ((nnW wd).map (·.1)).getD 0 = _
        rw [hnm]
        rfl
      rw [knD, if_pos hfd, knL_eq, sk]
    have sub : ∀ x ∈ rs.drop a, ∃ p : Pg, x = enc p := fun x hx => by
      have hx' : x ∈ (PyData.str wd :: rs).drop (1 + a) := by rw [Nat.add_comm]; exact hx
      have mem : ∀ y ∈ knD x, y ∈ knD (.tuple (.str wd :: rs)) := fun y hy => by
        rw [ek]
        refine List.mem_cons_of_mem _ ?_
        unfold knDs
        exact List.mem_flatten.mpr ⟨knD x, List.mem_map.mpr ⟨x, hx', rfl⟩, hy⟩
      have sz : dsz x ≤ N := by
        have z := dsz_mem _ _ (List.mem_of_mem_drop hx)
        simp only [dsz, dsz.dszs] at hz
        omega
      exact dec_pg n N x sz (fun y hy => hf y (mem y hy)) fun y hy => hi y (mem y hy)
    have hin := hi _ hd
    unfold nnW at hnm
    split at hnm
    · rename_i c
      cases hnm
      obtain ⟨i, rs', rfl⟩ := hnum (by decide)
      have er : rs' = [] := List.length_eq_zero_iff.mp (by simpa using hlen)
      subst er
      rcases c with rfl | rfl
      · have z : decide (0 ≤ i ∧ i < (n : Int)) = true := by simpa [inOk] using hin
        obtain ⟨k, rfl⟩ := pow_nat (of_decide_eq_true z).1
        exact ⟨.inp k, rfl⟩
      · exact ⟨.num i, rfl⟩
    split at hnm
    · rename_i c
      cases hnm
      subst c
      obtain ⟨i, rs', rfl⟩ := hnum (by decide)
      match rs', hlen with
      | [x], _ =>
        obtain ⟨p, rfl⟩ := sub x (by simp)
        exact ⟨.plus i p, rfl⟩
    split at hnm
    · rename_i c
      cases hnm
      have er : rs = [] := List.length_eq_zero_iff.mp (by simpa using hlen)
      subst er
      rcases c with rfl | rfl
      · exact ⟨.tr true, rfl⟩
      · exact ⟨.tr false, rfl⟩
    split at hnm
    · rename_i c
      cases hnm
      subst c
      match rs, hlen with
      | [x], _ =>
        obtain ⟨p, rfl⟩ := sub x (by simp)
        exact ⟨.neg p, rfl⟩
    split at hnm
    · rename_i c
      cases hnm
      subst c
      match rs, hlen with
      | [x, y, z], _ =>
        obtain ⟨p, rfl⟩ := sub x (by simp)
        obtain ⟨q, rfl⟩ := sub y (by simp)
        obtain ⟨r, rfl⟩ := sub z (by simp)
        exact ⟨.ite p q r, rfl⟩
    split at hnm
    · rename_i c
      cases hnm
      match rs, hlen with
      | [x, y], _ =>
        obtain ⟨p, rfl⟩ := sub x (by simp)
        obtain ⟨q, rfl⟩ := sub y (by simp)
        rcases c with rfl | rfl | rfl | rfl | rfl
        · exact ⟨.bin .least p q, rfl⟩
        · exact ⟨.bin .most p q, rfl⟩
        · exact ⟨.bin .atmost p q, rfl⟩
        · exact ⟨.bin .both p q, rfl⟩
        · exact ⟨.bin .either p q, rfl⟩
    · cases hnm
end Lm

set_option Elab.async false
set_option linter.all false
set_option maxRecDepth 100000
set_option maxHeartbeats 2000000
namespace Lm
open PySem PySem.Spec PyProof.Rows L2 LmR
def fbP (f : Pg → Bool) : List Pg → Nat → Option Nat
  | [], _ => none
  | d :: ds, n => if f d then fbP f ds (n + 1) else some n
theorem hasF_enc (p : Pg) : hasF (enc p) = true := by
  cases p with
  | tr b => cases b <;> rfl
  | bin w a b => cases w <;> rfl
  | _ => rfl
theorem knD_enc : ∀ p : Pg, knD (enc p) = (kn p).map enc
  | .inp _ => rfl
  | .num _ => rfl
  | .tr b => by cases b <;> rfl
  | .plus c a => by
    show enc (.plus c a) :: (knD (enc a) ++ []) = _
    rw [knD_enc a]
    simp [kn]
  | .bin w a b => by
    have e : knD (enc (.bin w a b)) = enc (.bin w a b) :: (knD (enc a) ++ (knD (enc b) ++ [])) := by cases w <;> rfl
    rw [e, knD_enc a, knD_enc b]
    simp [kn]
  | .neg a => by
    show enc (.neg a) :: (knD (enc a) ++ []) = _
    rw [knD_enc a]
    simp [kn]
  | .ite p a b => by
    show enc (.ite p a b) :: (knD (enc p) ++ (knD (enc a) ++ (knD (enc b) ++ []))) = _
    rw [knD_enc p, knD_enc a, knD_enc b]
    simp [kn]
noncomputable def pgOf (d : PyData) : Pg := open Classical in if h : ∃ p, d = enc p then Classical.choose h else .num 0
theorem pg_spec {d : PyData} (h : ∃ p, d = enc p) : d = enc (pgOf d) := by
  unfold pgOf
  rw [dif_pos h]
  exact Classical.choose_spec h
theorem firstBad_none {f : PyData → Bool} : ∀ {ds : List PyData} {n : Nat}, firstBad f ds n = none → ∀ x ∈ ds, f x = true
  | d :: ds, n, h, x, hx => by
    unfold firstBad at h
    by_cases c : f d = true
    · rw [if_pos c] at h
      rcases List.mem_cons.mp hx with e | e
      · rw [e]; exact c
      · exact firstBad_none h x e
    · rw [if_neg c] at h
      cases h
/-- what is amiss with a program, whatever it is -/
noncomputable def wrongD (ks : List Bool) (d : PyData) : Option (Str × Nat) := match firstBad hasF (knD d) 0 with
  | some n => some ("form", n)
  | none => match firstBad (inOk (ks.length : Nat)) (knD d) 0 with
    | some n => some ("input", n)
    | none => (fbP (fits ks) (kn (pgOf d)) 0).map fun n => ("kind", n)
theorem wrong_form {ks : List Bool} {d : PyData} {n : Nat} (h : firstBad hasF (knD d) 0 = some n) : wrongD ks d = some (("form" : Str), n) := by
  unfold wrongD
  rw [h]
theorem wrong_input {ks : List Bool} {d : PyData} {n : Nat} (h0 : firstBad hasF (knD d) 0 = none) (h : firstBad (inOk (ks.length : Nat)) (knD d) 0 = some n) : wrongD ks d = some (("input" : Str), n) := by
  unfold wrongD
  rw [h0]
  show (match firstBad (inOk (ks.length : Nat)) (knD d) 0 with | some n => some (("input" : Str), n) | none => _) = _
  rw [h]
theorem wrong_kind {ks : List Bool} {d : PyData} (h0 : firstBad hasF (knD d) 0 = none) (h : firstBad (inOk (ks.length : Nat)) (knD d) 0 = none) : wrongD ks d = (fbP (fits ks) (kn (pgOf d)) 0).map fun n => (("kind" : Str), n) := by
  unfold wrongD
  rw [h0]
  show (match firstBad (inOk (ks.length : Nat)) (knD d) 0 with | some n => some (("input" : Str), n) | none => _) = _
  rw [h]
theorem is_pg {ks : List Bool} {d : PyData} (h0 : firstBad hasF (knD d) 0 = none) (h : firstBad (inOk (ks.length : Nat)) (knD d) 0 = none) : d = enc (pgOf d) ∧ ∀ x ∈ kn (pgOf d), In0 ks.length x := by
  have e := pg_spec (dec_pg ks.length _ d (Nat.le_refl _) (firstBad_none h0) (firstBad_none h))
  refine ⟨e, fun x hx => ?_⟩
  have z := firstBad_none h (enc x) (by rw [e, knD_enc]; exact List.mem_map.mpr ⟨x, hx, rfl⟩)
  cases x with
  | inp k =>
    have y : decide (0 ≤ (k : Int) ∧ (k : Int) < (ks.length : Nat)) = true := by simpa [inOk, enc] using z
    have w := (of_decide_eq_true y).2
    show k < ks.length
    omega
  | _ => trivial
section
variable {P : Program} {w : World} {K : PySem.W.Frag} {mg : Str → Option Value} {base : Heap}
def wV : Option Nat → V
  | none => .non
  | some n => .int (n : Nat)
def spKOD (K : PySem.W.Frag) (C : Addr) (bad : List Str) : Sp := fun vs H Q E => ∃ (ka : Addr) (ks : List Bool) (v : V) (d : PyData), vs = [.ref ka, v] ∧ SqT K H ka (kVs ks) ∧ Fd K H v d ∧ (knD d).length ≤ 10000 ∧ (∀ x ∈ knD d, wordOk bad x ∧ dsz x ≤ 90000) ∧
  (wrongD ks d = none → ∀ H', Same H H' → Q (.str (kS (own ks (pgOf d)))) H') ∧ ∀ x n, wrongD ks d = some (x, n) → ∀ a H', Same H H' → H' a = some (.xd [("at", .int (n : Nat)), ("word", .str x)]) → E (.ref C) (some a) H'
theorem ok_kind_ofD {bad : List Str} (B : Bt mg) (R_NoProgram : Rf K mg "NoProgram" "NoProgram.__init__" c_NoProgram i_NoProgram f_NoProgram s_NoProgram ["word", "at"]) (C_knots : Cal P w K mg base 3 "knots" ["program"] (spKnD K bad)) (C_refuse_forms : CalX P w K mg base 3 "refuse_forms" ["every"] (spRFD K c_NoProgram bad)) (C_refuse_inputs : CalX P w K mg base 3 "refuse_inputs" ["every", "many"] (spRID K c_NoProgram)) (C_taken : Cal P w K mg base 1 "taken" ["pile", "many"] (spTaken)) (C_many_parts : Cal P w K mg base 1 "many_parts" ["word"] (spMP)) (C_parts_fit : Cal P w K mg base 1 "parts_fit" ["word", "told"] (spPFA K)) (C_own_kind : Cal P w K mg base 1 "own_kind" ["kinds", "knot", "told"] (spOKA K)) (D : DefAt K mg "kind_of" s_kind_of ["kinds", "program"]) : CalX P w K mg base 4 "kind_of" ["kinds", "program"] (spKOD K c_NoProgram bad) := by
  refine calx_of D sc_kind_of (fun vs H Q E h => ?_) (fun f cdv A outer s H vs Q E hr h => ?_)
  · obtain ⟨ka, ks, v, p, rfl, _⟩ := h
    rfl
  obtain ⟨ka, ks, v, d, rfl, hk, hv, hsz, hwk, q, qe⟩ := h
  have C_taken := C_taken.mono (k := 3) (by decide)
  have C_many_parts := C_many_parts.mono (k := 3) (by decide)
  have C_parts_fit := C_parts_fit.mono (k := 3) (by decide)
  have C_own_kind := C_own_kind.mono (k := 3) (by decide)
  have hr' : Room 3 _ := hr
  have hr := hr'.mono (show 2 ≤ 3 by decide)
  refine ⟨_, (pss_cons (ps_set (i := 2) sc_kind_of.nd rfl (.inl rfl) (pe_cal C_knots hr' (by rfl) (pa_cons (pv 1) pa_nil)))
      (pss_cons (ps_expr (pe_calX C_refuse_forms (takes_of rfl rfl rfl rfl) hr' (by rfl) (pa_cons (pv 2) pa_nil)))
      (pss_cons (ps_expr (pe_calX C_refuse_inputs (takes_of rfl rfl rfl rfl) hr' (by rfl) (pa_cons (pv 2) (pa_cons (pe_callB call_len_seq (by rfl) B.len PySem.boot_len (pa_cons (pv 0) pa_nil)) pa_nil))))
      (pss_cons (ps_set (i := 3) sc_kind_of.nd rfl (.inl rfl) pe_non)
      (pss_cons (ps_set (i := 4) sc_kind_of.nd rfl (.inl rfl) (pe_lst pa_nil))
      (pss_cons (ps_for (passes_of rfl) rfl (pi_revR (by rfl) B.reversed (prg_1 (by rfl) B.range (pe_callB call_len_seq (by rfl) B.len PySem.boot_len (pa_cons (pv 2) pa_nil)))) (pg_name (i := 5) sc_kind_of.nd rfl (.inl rfl))
        (pss_cons (ps_set (i := 6) sc_kind_of.nd rfl (.inl rfl) (pe_ix ix_tup (pe_ix ix_list (pv 2) (pv 5) (fun _ _ => rfl)) pe_int (fun _ _ => rfl)))
      (pss_cons (ps_set (i := 7) sc_kind_of.nd rfl (.inl rfl) (pe_cal C_taken hr' (by rfl) (pa_cons (pv 4) (pa_cons (pe_cal C_many_parts hr' (by rfl) (pa_cons (pv 6) pa_nil)) pa_nil))))
      (pss_cons (ps_if (pt_not (pt_val (pe_cal C_parts_fit hr' (by rfl) (pa_cons (pv 6) (pa_cons (pv 7) pa_nil)))))
        (pss_one (ps_set (i := 3) sc_kind_of.nd rfl (.inl rfl) (pv 5)))
        pss_nil)
      (pss_one (ps_expr (pe_bm PySem.F.plainAttrs_list PySem.F.slot_list_append PySem.F.type_list_append mt_append (pv 4) (pa_cons (pe_cal C_own_kind hr' (by rfl) (pa_cons (pv 0) (pa_cons (pe_ix ix_list (pv 2) (pv 5) (fun _ _ => rfl)) (pa_cons (pv 7) pa_nil)))) pa_nil))))))))
      (pss_cons (ps_if (pt_cmpR op_notN (pv 3) pe_non (nomark _))
        (pss_one (ps_ref R_NoProgram (ini_NoProgram R_NoProgram) (hr.mono (by decide)) rfl (takes_of rfl rfl rfl rfl) (by rfl) (pa_cons pe_str (pa_cons (pv 3) pa_nil))))
        pss_nil)
      (pss_one (ps_ret (pe_ix ix_list (pv 4) pe_int (fun _ _ => rfl))))))))))), ?_⟩
  refine ⟨_, rfl, v, d, rfl, hv, hsz, hwk, fun le us H1 s1 le0 hle hus => ?_⟩
  refine ⟨_, rfl, le, us, knD d, rfl, SqL.of hle, hus, hwk, fun n0 H2 s2 => ?_, fun n hn a' H' sm hx => qe _ n (wrong_form hn) a' H' (s1.trans sm) hx⟩
  have klen : (kVs ks).length = ks.length := List.length_map _
  have hk2 : SqT K H2 ka (kVs ks) := Tp.same (s1.trans s2) _ _ hk
  refine ⟨_, rfl, _, rfl, ka, _, rfl, .inr hk2, le, us, knD d, (ks.length : Nat), by rw [klen], SqL.of (s2 _ _ hle), hus.keep (Tp.same s2), firstBad_none n0, fun n1 H3 s3 => ?_, fun n hn a' H' sm hx => qe _ n (wrong_input n0 hn) a' H' ((s1.trans s2).trans sm) hx⟩
  obtain ⟨ed, hin⟩ := is_pg n0 n1
  have wk := wrong_kind n0 n1
  have ek : knD d = (kn (pgOf d)).map enc := by
    have z := knD_enc (pgOf d)
    rw [← ed] at z
    exact z
  have hus : Ats K H1 us (kn (pgOf d)) := by
    have z := hus.2
    rw [ek] at z
    exact z
  have hsz : psz (pgOf d) ≤ 10000 := by
    rw [← kn_len]
    rw [ek, List.length_map] at hsz
    exact hsz
  generalize pgOf d = p at wk hin hus hsz q
  refine ⟨(by show 0 ≤ sizeLine; decide), fun lr hlr => ?_⟩
  have s4 : Same H3 (upd H3 lr (.lst [])) := same_new hlr
  have s03 : Same H H3 := s1.trans (s2.trans s3)
  have lr0 : H lr = none := s03.free hlr
  have hle4 : (upd H3 lr (.lst [])) le = some (.lst us) := (s2.trans (s3.trans s4)) _ _ hle
  have hus4 : Ats K (upd H3 lr (.lst [])) us (kn p) := hus.keep (Tp.same (s2.trans (s3.trans s4)))
  have hk4 : SqT K (upd H3 lr (.lst [])) ka (kVs ks) := Tp.same (s03.trans s4) _ _ hk
  have hlr4 : (upd H3 lr (.lst [])) lr = some (.lst []) := upd_same
  have s04 := s03.trans s4
  have nler : le ≠ lr := fun z => by
    rw [← z, (s2.trans s3) _ _ hle] at hlr
    cases hlr
  generalize upd H3 lr (.lst []) = H4 at hle4 hus4 hk4 hlr4 s04
  have ul : us.length = (kn p).length := hus.len
  have kl := kn_len p
  refine ⟨_, rfl, le, us, rfl, .inl (SqL.of hle4), _, rfl, by omega, by omega, by omega, by omega, for_rangeC (n := (((us.length : Nat) : Int) - 0).toNat) (fun i σ' H' => ∃ (fs : List Pg) (y5 y6 y7 : Option V), σ' = [some (.ref ka), some v, some (.ref le), some (wV (fbP (fits ks) ((kn p).drop (us.length - i)) (us.length - i))), some (.ref lr), y5, y6, y7] ∧ Same H H' ∧ H' le = some (.lst us) ∧ Ats K H' us (kn p) ∧ SqT K H' ka (kVs ks) ∧ (kn p).drop (us.length - i) = knf fs ∧ H' lr = some (.lst (kids ks fs).reverse)) ?_ ?_ ?_⟩
  · refine ⟨[], none, none, none, ?_, s04, hle4, hus4, hk4, by rw [ul, Nat.sub_zero, List.drop_length]; rfl, hlr4⟩
    rw [Nat.sub_zero, ul, List.drop_length]
    rfl
  · rintro i σ' H' hi ⟨fs, y5, y6, y7, rfl, sm, hle', hus', hk', hdrop, hlr'⟩
    have hi' : i < us.length := by omega
    obtain ⟨x, hx⟩ : ∃ x, (kn p)[us.length - (i + 1)]? = some x := ⟨_, List.getElem?_eq_getElem (by omega)⟩
    have hu : us[us.length - (i + 1)]? = some us[us.length - (i + 1)] := List.getElem?_eq_getElem (by omega)
    obtain ⟨x', hx', hax⟩ := hus'.get _ _ hu
    rw [hx] at hx'
    have ex := Option.some.inj hx'
    subst ex
    generalize us[us.length - (i + 1)] = xv at hu hax
    have e1 : us.length - (i + 1) + 1 = us.length - i := by omega
    have hfb : fbP (fits ks) ((kn p).drop (us.length - (i + 1))) (us.length - (i + 1)) = if fits ks x then fbP (fits ks) ((kn p).drop (us.length - i)) (us.length - i) else some (us.length - (i + 1)) := by
      obtain ⟨hlt, e⟩ := List.getElem?_eq_some_iff.mp hx
      rw [List.drop_eq_getElem_cons hlt, e, e1]
      show (if fits ks x then fbP (fits ks) _ (us.length - (i + 1) + 1) else _) = _
      rw [e1]
    obtain ⟨rest, rfl, hdr⟩ := knf_step hx (by rw [e1]; exact hdrop)
    have hwx : In0 ks.length x := hin x (List.mem_of_getElem? hx)
    have eidx : (0 : Int) + ((((us.length : Nat) : Int) - 0).toNat : Int) - 1 + (i : Int) * (-1) = ((us.length - (i + 1) : Nat) : Int) := by omega
    obtain ⟨a, vs, rfl, ha, hvs⟩ := hax.open
    refine ⟨_, rfl, _, rfl, le, us, _, _, rfl, rfl, SqL.of hle', at_of (j := us.length - (i + 1)) eidx hu, a, _, 0, _, rfl, rfl, ha, at_word x vs, ?_⟩
    have ekids : kids ks (parts x ++ rest) = kids ks (parts x) ++ kids ks rest := List.map_append ..
    have elen : (kids ks (parts x)).length = (parts x).length := List.length_map _
    have plen : (parts x).length ≤ 3 := by cases x <;> simp [parts]
    rw [ekids, List.reverse_append] at hlr'
    refine ⟨_, rfl, _, rfl, x, rfl, lr, (kids ks rest).reverse, kids ks (parts x), by rw [elen]; rfl, hlr', by omega, fun t H5 ex5 hlr5 ht5 => ?_⟩
    have nar : ∀ {o : HO}, ∀ b, H b = some o → b ∉ [lr] := fun b hb => by simp [ne_of_none hb lr0]
    have sm5 : Same H H5 := fun b o hb => ex5 b o (sm b o hb) (nar b hb)
    have tp5 : Tp K H' H5 := ex5.tp fun b hb ys z => by
      rw [List.mem_singleton.mp hb] at z
      rcases z with z | ⟨o, z⟩
      · rw [hlr'] at z; cases z
      · rw [hlr'] at z; cases z
    have hle5 := ex5 _ _ hle' (by simp [nler])
    have hus5 := hus'.keep tp5
    have hk5 := tp5 _ _ hk'
    have rl : (kids ks rest).length ≤ 10000 := by
      have z := knf_len rest
      have z2 : (kn p).length - (us.length - (i + 1)) = (knf (x :: rest)).length := by rw [← hdr, List.length_drop]
      rw [knf_cons, List.length_cons] at z2
      have z3 : knf (parts x ++ rest) = knf (parts x) ++ knf rest := by simp [knf]
      rw [z3, List.length_append] at z2
      rw [show (kids ks rest).length = rest.length from List.length_map _]
      omega
    refine ⟨_, rfl, _, rfl, x, ks, t, rfl, .inl (.inl ht5), fun H6 s6 => ⟨_, rfl, ?_⟩⟩
    have hlr6 := s6 _ _ hlr5
    have hle6 := s6 _ _ hle5
    have hax6 : At K H6 (.ref a) x := (hax.keep tp5).keep (Tp.same s6)
    have t7 : Tp K H6 (upd H6 lr (.lst ((kids ks rest).reverse ++ [V.str (kS (own ks x))]))) := Tp.lst hlr6
    have last : upd H6 lr (.lst ((kids ks rest).reverse ++ [V.str (kS (own ks x))])) lr = some (.lst (kids ks (x :: rest)).reverse) := by
      rw [upd_same]
      show _ = some (HO.lst (V.str (kS (own ks x)) :: kids ks rest).reverse)
      rw [List.reverse_cons]
    have same7 : Same H (upd H6 lr (.lst ((kids ks rest).reverse ++ [V.str (kS (own ks x))]))) := fun b o hb => by
      rw [upd_ne (ne_of_none hb lr0)]
      exact s6 _ _ (sm5 b o hb)
    refine ite2 (fun c => ⟨_, rfl, ?_⟩) (fun c => ?_)
    · have nk : fits ks x = false := by simpa using c
      rw [nk] at hfb
      refine ⟨_, rfl, .inl ⟨rfl, _, SqL.of hlr6⟩, _, rfl, _, rfl, _, rfl, le, us, _, _, rfl, rfl, SqL.of hle6, at_of (j := us.length - (i + 1)) eidx hu, _, rfl, ?_⟩
      refine ⟨x, ks, ka, t, .ref a, rfl, Tp.same s6 _ _ hk5, hax6, .inl (.inl (s6 _ _ ht5)), hwx, ?_⟩
      refine ⟨lr, _, _, rfl, rfl, hlr6, by rw [List.length_reverse]; exact smallL (by omega), x :: rest, ?y5, ?y6, ?y7, ?eq, same7, by rw [upd_ne nler]; exact hle6, (hus5.keep (Tp.same s6)).keep t7, t7 _ _ (Tp.same s6 _ _ hk5), hdr, last⟩
      case eq =>
        rw [hfb, eidx]
        rfl
    · have nk : fits ks x = true := by simpa using c
      rw [nk] at hfb
      refine ⟨_, rfl, .inl ⟨rfl, _, SqL.of hlr6⟩, _, rfl, _, rfl, _, rfl, le, us, _, _, rfl, rfl, SqL.of hle6, at_of (j := us.length - (i + 1)) eidx hu, _, rfl, ?_⟩
      refine ⟨x, ks, ka, t, .ref a, rfl, Tp.same s6 _ _ hk5, hax6, .inl (.inl (s6 _ _ ht5)), hwx, ?_⟩
      refine ⟨lr, _, _, rfl, rfl, hlr6, by rw [List.length_reverse]; exact smallL (by omega), x :: rest, ?z5, ?z6, ?z7, ?eq2, same7, by rw [upd_ne nler]; exact hle6, (hus5.keep (Tp.same s6)).keep t7, t7 _ _ (Tp.same s6 _ _ hk5), hdr, last⟩
      case eq2 =>
        rw [hfb]
        rfl
  · rintro σ' H' ⟨fs, y5, y6, y7, rfl, sm, hle', hus', hk', hdrop, hlr'⟩
    have e0 : us.length - (((us.length : Nat) : Int) - 0).toNat = 0 := by omega
    rw [e0, List.drop_zero, ← knf_one] at hdrop
    have ef := knf_inj _ _ _ (Nat.le_refl _) hdrop
    subst ef
    rw [e0, List.drop_zero]
    cases ew : fbP (fits ks) (kn p) 0 with
    | none =>
      rw [ew] at wk
      refine ⟨_, rfl, rfl, _, rfl, ite2 (fun c => ?_) (fun _ => ⟨_, rfl, lr, _, 0, _, rfl, rfl, SqL.of hlr', rfl, q wk _ sm⟩)⟩
      simp [wV] at c
    | some n =>
      rw [ew] at wk
      refine ⟨_, rfl, rfl, _, rfl, ite2 (fun _ => ⟨_, rfl, mk_two fun a' H2 r => qe _ n wk a' H2 (sm.trans r.same) r.2.1⟩) (fun c => ?_)⟩
      simp [wV] at c
end
end Lm

set_option Elab.async false
set_option linter.all false
set_option maxRecDepth 100000
set_option maxHeartbeats 2000000
namespace Lm
open PySem PySem.Spec PyProof.Rows L2 LmR
theorem fd_tup {K : PySem.W.Frag} {H : Hp} {t : Addr} {vs : List V} {ds : List PyData} (h : H t = some (.tup vs)) (r : DpAll K H vs ds) (f : flat.flats ds = true) : Fd K H (.ref t) (.tuple ds) := ⟨f, .tup (.inl (.inl h)) r⟩
section
variable {P : Program} {w : World} {K : PySem.W.Frag} {mg : Str → Option Value} {base : Heap}
abbrev s_l_sorts : Stmt := topS 60
theorem sc_l_sorts : FnScope ["_law_e", "_law_found"] ["_law_e"] (defScope s_l_sorts) := ⟨rfl, rfl, rfl, by decide +kernel, rfl, by decide +kernel, by decide +kernel⟩
theorem ok_l_sorts (B : Bt mg) {C : Addr} {bs : List Bool} (S : Sorts K mg C bs) (k : ExK K C) {f : Addr} {fd : FuncData} (F : Fun K "_law_sorts" "_law_sorts" s_l_sorts f fd) (a : Addr) (oe : Obj) (cls : Value) (d : Option Addr) (hz : Zc cls d oe) (hf : ∃ vs, oe.data = .fields vs) :
    FnP P w K mg base (a, oe) 1 f fd ["_law_e"] (spSorts C a cls d bs) := by
  refine fn_ofP F sc_l_sorts (fun vs H Q E h => ?_) (fun cdv A outer s H vs Q E hr h => ?_)
  · obtain ⟨rfl, _⟩ := h
    rfl
  obtain ⟨rfl, rfl, dd, fs, rfl, hx, q⟩ := h
  obtain ⟨c1, c2, c3, c4, c5, c6, c7, c8, c9, c10, c11, c12, b1, b2, b3, b4, b5, b6, b7, b8, b9, b10, b11, b12, S, rfl⟩ := S
  have hNoHead := S.g1
  have hNoProgram := S.g2
  have hNoText := S.g3
  have hNoStock := S.g4
  have hNoAnswer := S.g5
  have hNoInputs := S.g6
  have hClash := S.g7
  have hNoRow := S.g8
  have hNoQuestion := S.g9
  have hNoDoer := S.g10
  have hNotKept := S.g11
  have hNoName := S.g12
  refine ⟨_, (pss_cons (ps_set (i := 1) sc_l_sorts.nd rfl (.inl rfl) (pe_lst (pa_cons (pe_callB (call_isX k hz hf (List.mem_singleton.mpr rfl)) (by rfl) B.isinstance (by decide +kernel) (pa_cons (pv 0) (pa_cons (pe_glob (v := .ref _) (by rfl) hNoHead rfl) pa_nil))) (pa_cons (pe_callB (call_isX k hz hf (List.mem_singleton.mpr rfl)) (by rfl) B.isinstance (by decide +kernel) (pa_cons (pv 0) (pa_cons (pe_glob (v := .ref _) (by rfl) hNoProgram rfl) pa_nil))) (pa_cons (pe_callB (call_isX k hz hf (List.mem_singleton.mpr rfl)) (by rfl) B.isinstance (by decide +kernel) (pa_cons (pv 0) (pa_cons (pe_glob (v := .ref _) (by rfl) hNoText rfl) pa_nil))) (pa_cons (pe_callB (call_isX k hz hf (List.mem_singleton.mpr rfl)) (by rfl) B.isinstance (by decide +kernel) (pa_cons (pv 0) (pa_cons (pe_glob (v := .ref _) (by rfl) hNoStock rfl) pa_nil))) pa_nil))))))
      (pss_cons (ps_set (i := 1) sc_l_sorts.nd rfl (.inl rfl) (pe_op op_cat (pv 1) (pe_lst (pa_cons (pe_callB (call_isX k hz hf (List.mem_singleton.mpr rfl)) (by rfl) B.isinstance (by decide +kernel) (pa_cons (pv 0) (pa_cons (pe_glob (v := .ref _) (by rfl) hNoAnswer rfl) pa_nil))) (pa_cons (pe_callB (call_isX k hz hf (List.mem_singleton.mpr rfl)) (by rfl) B.isinstance (by decide +kernel) (pa_cons (pv 0) (pa_cons (pe_glob (v := .ref _) (by rfl) hNoInputs rfl) pa_nil))) (pa_cons (pe_callB (call_isX k hz hf (List.mem_singleton.mpr rfl)) (by rfl) B.isinstance (by decide +kernel) (pa_cons (pv 0) (pa_cons (pe_glob (v := .ref _) (by rfl) hClash rfl) pa_nil))) (pa_cons (pe_callB (call_isX k hz hf (List.mem_singleton.mpr rfl)) (by rfl) B.isinstance (by decide +kernel) (pa_cons (pv 0) (pa_cons (pe_glob (v := .ref _) (by rfl) hNoRow rfl) pa_nil))) pa_nil)))))))
      (pss_one (ps_ret (pe_op op_cat (pv 1) (pe_lst (pa_cons (pe_callB (call_isX k hz hf (List.mem_singleton.mpr rfl)) (by rfl) B.isinstance (by decide +kernel) (pa_cons (pv 0) (pa_cons (pe_glob (v := .ref _) (by rfl) hNoQuestion rfl) pa_nil))) (pa_cons (pe_callB (call_isX k hz hf (List.mem_singleton.mpr rfl)) (by rfl) B.isinstance (by decide +kernel) (pa_cons (pv 0) (pa_cons (pe_glob (v := .ref _) (by rfl) hNoDoer rfl) pa_nil))) (pa_cons (pe_callB (call_isX k hz hf (List.mem_singleton.mpr rfl)) (by rfl) B.isinstance (by decide +kernel) (pa_cons (pv 0) (pa_cons (pe_glob (v := .ref _) (by rfl) hNotKept rfl) pa_nil))) (pa_cons (pe_callB (call_isX k hz hf (List.mem_singleton.mpr rfl)) (by rfl) B.isinstance (by decide +kernel) (pa_cons (pv 0) (pa_cons (pe_glob (v := .ref _) (by rfl) hNoName rfl) pa_nil))) pa_nil)))))))))), ?_⟩
  refine ⟨_, rfl, _, _, rfl, S.k1, ⟨_, hx⟩, _, rfl, _, _, rfl, S.k2, ⟨_, hx⟩, _, rfl, _, _, rfl, S.k3, ⟨_, hx⟩, _, rfl, _, _, rfl, S.k4, ⟨_, hx⟩, (by show 4 ≤ sizeLine; decide), fun l1 h1 => ?_⟩
  have s1 : Same H (upd H l1 (.lst [.bl b1, .bl b2, .bl b3, .bl b4])) := same_new h1
  have e1 : upd H l1 (.lst [.bl b1, .bl b2, .bl b3, .bl b4]) l1 = some (.lst [.bl b1, .bl b2, .bl b3, .bl b4]) := upd_same
  have x1 := s1 _ _ hx
  refine ⟨_, rfl, _, rfl, _, _, rfl, S.k5, ⟨_, x1⟩, _, rfl, _, _, rfl, S.k6, ⟨_, x1⟩, _, rfl, _, _, rfl, S.k7, ⟨_, x1⟩, _, rfl, _, _, rfl, S.k8, ⟨_, x1⟩, (by show 4 ≤ sizeLine; decide), fun l2 h2 => ?_⟩
  have s2 := same_new (o := .lst [.bl b5, .bl b6, .bl b7, .bl b8]) h2
  refine ⟨l1, l2, _, _, rfl, rfl, s2 _ _ e1, upd_same, (by show 8 ≤ sizeLine; decide), fun l3 h3 => ?_⟩
  have s3 := same_new (o := .lst ([.bl b1, .bl b2, .bl b3, .bl b4] ++ [.bl b5, .bl b6, .bl b7, .bl b8])) h3
  have x3 := s3 _ _ (s2 _ _ x1)
  refine ⟨_, rfl, _, rfl, _, _, rfl, S.k9, ⟨_, x3⟩, _, rfl, _, _, rfl, S.k10, ⟨_, x3⟩, _, rfl, _, _, rfl, S.k11, ⟨_, x3⟩, _, rfl, _, _, rfl, S.k12, ⟨_, x3⟩, (by show 4 ≤ sizeLine; decide), fun l4 h4 => ?_⟩
  have s4 := same_new (o := .lst [.bl b9, .bl b10, .bl b11, .bl b12]) h4
  refine ⟨l3, l4, _, _, rfl, rfl, s4 _ _ upd_same, upd_same, (by show 12 ≤ sizeLine; decide), fun l5 h5 => ?_⟩
  exact q _ l5 ((((s1.trans s2).trans s3).trans s4).trans (same_new h5)) upd_same
/-! ### refused -/
noncomputable def dueD (ks : List Bool) (d : PyData) : PyData := match wrongD ks d with
  | none => .tuple [.str "kind", .str (kS (own ks (pgOf d)))]
  | some (x, n) => .tuple [.str "no program", .str x, .int (n : Nat)]
theorem due_none {ks : List Bool} {d : PyData} (h : wrongD ks d = none) : dueD ks d = .tuple [.str "kind", .str (kS (own ks (pgOf d)))] := by
  unfold dueD
  rw [h]
theorem due_some {ks : List Bool} {d : PyData} {x : Str} {n : Nat} (h : wrongD ks d = some (x, n)) : dueD ks d = .tuple [.str "no program", .str x, .int (n : Nat)] := by
  unfold dueD
  rw [h]
def spRefused (K : PySem.W.Frag) (bad : List Str) : Sp := fun vs H Q _ => ∃ (ka : Addr) (ks : List Bool) (v : V) (d : PyData), vs = [.ref ka, v] ∧ SqT K H ka (kVs ks) ∧ Fd K H v d ∧ (knD d).length ≤ 10000 ∧ (∀ x ∈ knD d, wordOk bad x ∧ dsz x ≤ 90000) ∧ ∀ u H', Same H H' → Fd K H' u (dueD ks d) → Q u H'
def rCountB (K : PySem.W.Frag) : V → List V → Hp → VK → Prop := fun x xs H Q => ∃ (p : Addr) (bs : List Bool), x = .ref p ∧ xs = [.bl true] ∧ SqL K H p (bs.map V.bl) ∧ Q (.int (bs.count true : Nat)) H
def tSuite (K : PySem.W.Frag) (C : Addr) (bs : List Bool) (a : Addr) (cls : Value) (d : Option Addr) : TS :=
  tIfS (tTest (tOp rEq (tBM K "list" (rCountB K) (tCall (spSorts C a cls d bs) [] (fun _ _ _ => False) (tCons (tVar 3) tNil)) (tCons (tC (.bl true)) tNil)) (tC (.int 1))))
    (tAsg (tTup (tCons (tC (.str "no program")) (tCons (tXf a cls d C "word" (tVar 3)) (tCons (tXf a cls d C "at" (tVar 3)) tNil)))) (gName 2)) tNext
theorem roomH_mark4 {A : Around} (r : Room 4 A) (m : Option Value) : L2H.RoomH 1 (A.mark m) := by
  have h1 := r.dp
  have h2 := r.un
  refine ⟨?_, ?_⟩
  · show A.depth + 3 * 1 + 5 < recursionLimit
    omega
  · show A.units + 16 * 1 + 200 < cLine
    omega
end
end Lm

set_option Elab.async false
set_option linter.all false
set_option maxRecDepth 100000
set_option maxHeartbeats 2000000
namespace Lm
open PySem PySem.Spec PyProof.Rows L2 LmR
def numsV : List V := [.str "in", .str "num", .str "plus"]
def wordsV : List V := [.str "yes", .str "no", .str "not", .str "if", .str "least", .str "most", .str "atmost", .str "both", .str "either"]
/-- none of these words is a program's -/
def BadW (bad : List Str) : Prop := ∀ x ∈ bad, (valV manyKV (Sum.inr x)).getD (.int 2) = .int 2 ∧ inV (.str x) numsV = false ∧ inV (.str x) wordsV = false ∧ nnW x = none
section
variable {P : Program} {w : World} {K : PySem.W.Frag} {mg : Str → Option Value} {base : Heap}
def spLHFD (K : PySem.W.Frag) (bad : List Str) : Sp := fun vs H Q _ => ∃ (v : V) (d : PyData), vs = [v] ∧ Fd K H v d ∧ wordOk bad d ∧ dsz d ≤ 90000 ∧ ∀ H', Same H H' → Q (.bl (hasF d)) H'
theorem ok_l_has_formD {bad : List Str} (B : Bt mg) (hbad : BadW bad) (D : DefAt K mg "_law_has_form" s_l_has_form ["_law_knot"]) : Cal P w K mg base 1 "_law_has_form" ["_law_knot"] (spLHFD K bad) := by
  refine cal_of D sc_l_has_form (fun vs H Q E h => ?_) (fun f cdv A outer s H vs Q E hr h => ?_)
  · obtain ⟨v, p, rfl, _⟩ := h
    rfl
  obtain ⟨v, dd, rfl, hv, hw, hz, q⟩ := h
  refine ⟨_, (pss_cons (ps_if (PW.pt (pw_or (pt_not (pt_val (pe_callB call_isi (by rfl) B.isinstance (by decide +kernel) (pa_cons (pv 0) (pa_cons (pe_bltn (v := .ty "tuple") (by rfl) B.tuple PyProof.Rows.boot_tuple rfl) pa_nil))))) (pw_or (pt_cmpR op_eq (pe_callB call_len_seq (by rfl) B.len PySem.boot_len (pa_cons (pv 0) pa_nil)) pe_int (nomark _)) (pw_or1 (pt_not (pt_val (pe_callB call_isi (by rfl) B.isinstance (by decide +kernel) (pa_cons (pe_ix ix_tup (pv 0) pe_int (fun _ _ => rfl)) (pa_cons (pe_bltn (v := .ty "str") (by rfl) B.str PyProof.Rows.boot_str rfl) pa_nil)))))))))
        (pss_one (ps_ret pe_bl))
        pss_nil)
      (pss_cons (ps_set (i := 1) sc_l_has_form.nd rfl (.inl rfl) (pe_dget2 (hu_of hr) (pe_disp (pps_cons pe_str pe_int (pps_cons pe_str pe_int (pps_cons pe_str pe_int (pps_cons pe_str pe_int (pps_cons pe_str pe_int (pps_cons pe_str pe_int (pps_cons pe_str pe_int pps_nil))))))) (by rfl) (by rfl) (fun z => by cases z) (by decide)) (pe_ix ix_tup (pv 0) pe_int (fun _ _ => rfl)) pe_int (by constructor <;> rfl)))
      (pss_cons (ps_if (pt_cmpR op_in_seq (pe_ix ix_tup (pv 0) pe_int (fun _ _ => rfl)) (pe_tup (pa_cons pe_str (pa_cons pe_str (pa_cons pe_str pa_nil)))) rfl)
        (pss_one (ps_ret (pe_and (pe_cmpR op_eq (pe_callB call_len_seq (by rfl) B.len PySem.boot_len (pa_cons (pv 0) pa_nil)) (pe_op op_add (pv 1) pe_int) (nomark _)) (pe_and (pe_callB call_isi (by rfl) B.isinstance (by decide +kernel) (pa_cons (pe_ix ix_tup (pv 0) pe_int (fun _ _ => rfl)) (pa_cons (pe_bltn (v := .ty "int") (by rfl) B.int PyProof.Rows.boot_int rfl) pa_nil))) (pe_one (pe_not (pe_callB call_isi (by rfl) B.isinstance (by decide +kernel) (pa_cons (pe_ix ix_tup (pv 0) pe_int (fun _ _ => rfl)) (pa_cons (pe_bltn (v := .ty "bool") (by rfl) B.bool PyProof.Rows.boot_bool rfl) pa_nil)))))))))
        pss_nil)
      (pss_cons (ps_set (i := 2) sc_l_has_form.nd rfl (.inl rfl) (pe_tup (pa_cons pe_str (pa_cons pe_str (pa_cons pe_str (pa_cons pe_str (pa_cons pe_str (pa_cons pe_str (pa_cons pe_str (pa_cons pe_str (pa_cons pe_str pa_nil)))))))))))
      (pss_one (ps_ret (pe_and (pe_cmpR op_in_seq (pe_ix ix_tup (pv 0) pe_int (fun _ _ => rfl)) (pv 2) rfl) (pe_one (pe_cmpR op_eq (pe_callB call_len_seq (by rfl) B.len PySem.boot_len (pa_cons (pv 0) pa_nil)) (pe_op op_add (pv 1) pe_int) (nomark _)))))))))), ?_⟩
  refine ⟨_, rfl, v, _, _, _, _, rfl, .ty _, hv.ty, kit_tup dd hv.1, _, rfl, ite2 (fun c => ?_) (fun c => ?_)⟩
  · have e : hasF dd = false := by
      cases dd <;> first | rfl | (simp [isTup] at c; done)
    rw [e] at q
    exact iteY rfl (q H (Same.refl _))
  have it : isTup dd = true := by simpa using c
  obtain ⟨ds, rfl⟩ : ∃ ds, dd = .tuple ds := by cases dd <;> first | exact ⟨_, rfl⟩ | (simp [isTup] at it; done)
  obtain ⟨a, xs, rfl, qa, r⟩ : ∃ a xs, v = .ref a ∧ SqT K H a xs ∧ DpAll K H xs ds := by
    cases hv.2 with
    | tup qa r => exact ⟨_, _, rfl, qa, r⟩
  have hl := dpall_len r
  refine ⟨_, rfl, a, xs, rfl, .inr qa, rfl, _, rfl, ite2 (fun c2 => ?_) (fun c2 => ?_)⟩
  · have e : hasF (.tuple ds) = false := by
      have n2 : ds = [] := by
        have z : ((xs.length : Nat) : Int) = 0 := by simpa using c2
        exact List.length_eq_zero_iff.mp (by omega)
      rw [n2]
      rfl
    rw [e] at q
    exact iteY rfl (q H (Same.refl _))
  obtain ⟨d0, rs, rfl⟩ : ∃ d0 rs, ds = d0 :: rs := by
    cases ds with
    | nil =>
      have z : xs = [] := List.length_eq_zero_iff.mp hl
      subst z
      exact absurd rfl c2
    | cons d0 rs => exact ⟨_, _, rfl⟩
  obtain ⟨v0, ys, rfl, r0, rr⟩ : ∃ v0 ys, xs = v0 :: ys ∧ Dp K H v0 d0 ∧ DpAll K H ys rs := by
    cases r with
    | cons r1 r => exact ⟨_, _, rfl, r1, r⟩
  have f0 : flat d0 = true ∧ flat.flats rs = true := by
    simpa [flat, flat.flats] using hv.1
  have h0 : Fd K H v0 d0 := ⟨f0.1, r0⟩
  refine ⟨_, rfl, a, _, 0, _, rfl, rfl, qa, at_of (j := 0) rfl rfl, _, _, _, _, _, rfl, .ty _, h0.ty, kit_str d0 f0.1, _, rfl, ite2 (fun c3 => ?_) (fun c3 => ?_)⟩
  · have e : hasF (.tuple (d0 :: rs)) = false := by
      cases d0 <;> first | rfl | (simp [isStr] at c3; done)
    rw [e] at q
    exact q H (Same.refl _)
  obtain ⟨wd, rfl⟩ : ∃ wd, d0 = .str wd := by
    have z : isStr d0 = true := by simpa using c3
    cases d0 <;> first | exact ⟨_, rfl⟩ | (simp [isStr] at z; done)
  cases r0
  have ylen := dpall_len rr
  -- many
  refine fun d hd => ⟨upd_same, manyL, rfl, (by show 7 ≤ 15; decide), ?_⟩
  refine ⟨d, rfl, .inl ⟨_, .inl upd_same⟩, ?_⟩
  have s1 : Same H (upd (upd H d (.dK [])) d (.dK manyKV)) := fun b o z => by
    rw [upd_ne (ne_of_none z hd), upd_ne (ne_of_none z hd)]
    exact z
  have e1 : (upd (upd H d (.dK [])) d (.dK manyKV)) d = some (.dK manyKV) := upd_same
  show (tOp (rIxT K) (tVar 0) (tC (V.int 0))) _ (upd (upd H d (.dK [])) d (.dK manyKV)) _
  generalize upd (upd H d (.dK [])) d (.dK manyKV) = H1 at s1 e1
  have ha1 := Tp.same (K := K) s1 _ _ qa
  refine ⟨_, rfl, a, _, 0, _, rfl, rfl, ha1, at_of (j := 0) rfl rfl, _, DGet.k (k := Sum.inr wd) e1, ?_⟩
  obtain ⟨mv, emv⟩ : ∃ mv : Int, (valV manyKV (Sum.inr wd)).getD (.int 2) = .int mv := by
    rcases (show (nnW wd).isSome = true ∨ wd ∈ bad from hw) with hs | hb
    · obtain ⟨⟨n1, m1⟩, hnm⟩ := Option.isSome_iff_exists.mp hs
      obtain ⟨p, rfl, _, _⟩ := nnW_pg hnm
      exact ⟨_, many_get p⟩
    · exact ⟨_, (hbad wd hb).1⟩
  rw [emv]
  refine ⟨_, rfl, a, _, 0, _, rfl, rfl, ha1, at_of (j := 0) rfl rfl, (by show 3 ≤ sizeLine; decide), fun t ht => ?_⟩
  have s2 : Same H1 (upd H1 t (.tup [.str "in", .str "num", .str "plus"])) := same_new ht
  have ha2 := Tp.same (K := K) s2 _ _ ha1
  have q2 := q _ (s1.trans s2)
  refine ⟨t, _, rfl, .inr (.inl (.inl upd_same)), rfl, rfl, _, rfl, ?_⟩
  show if inV (.str wd) numsV = true then _ else _
  have rr2 := dps_keep (Tp.same (K := K) (s1.trans s2)) rs ys f0.2 rr
  generalize upd H1 t (.tup [.str "in", .str "num", .str "plus"]) = H2 at s2 ha2 q2 rr2
  have words : ∀ (nk : inV (.str wd) wordsV = false) (hF : hasF (.tuple (.str wd :: rs)) = false), True := fun _ _ => trivial
  rcases (show (nnW wd).isSome = true ∨ wd ∈ bad from hw) with hs | hb
  · obtain ⟨⟨n1, m1⟩, hnm⟩ := Option.isSome_iff_exists.mp hs
    obtain ⟨p, rfl, en, em⟩ := nnW_pg hnm
    have hF : hasF (.tuple (.str (word p) :: rs)) = ((rs.length == n1 + m1) && (n1 == 0 || (rs.head?.map whole).getD false)) := by
      show (match nnW (word p) with | some (n, m) => _ | none => false) = _
      rw [hnm]
    have emv2 : mv = ((parts p).length : Nat) := by
      rw [many_get] at emv
      exact (V.int.inj emv).symm
    subst emv2
    rw [show inV (.str (word p)) numsV = decide (nn p = 1) from in_nums p]
    refine ite2 (fun z => ?_) (fun z => ?_)
    · have hn : nn p = 1 := of_decide_eq_true z
      refine ⟨_, rfl, a, _, rfl, .inr ha2, _, rfl, _, _, rfl, rfl, rfl, _, rfl, ite2 (fun c4 => ?_) (fun c4 => ?_)⟩
      · have x := V.int.inj (of_decide_eq_true c4)
        have eq : rs.length = n1 + m1 := by
          rw [List.length_cons, ylen] at x
          omega
        obtain ⟨dx, rs', rfl⟩ : ∃ dx rs', rs = dx :: rs' := by
          cases rs with
          | nil => simp at eq; omega
          | cons x y => exact ⟨_, _, rfl⟩
        obtain ⟨vx, ys', rfl, rx⟩ : ∃ v0 ys', ys = v0 :: ys' ∧ Dp K H2 v0 dx := by
          cases rr2 with
          | cons r1 r => exact ⟨_, _, rfl, r1⟩
        have fx : flat dx = true := by
          have z := f0.2
          rw [flat.flats, Bool.and_eq_true] at z
          exact z.1
        have hx : Fd K H2 vx dx := ⟨fx, rx⟩
        have n0 : (n1 == 0) = false := beq_false_of_ne (by omega)
        have hF2 : hasF (.tuple (.str (word p) :: dx :: rs')) = (isInt dx && !isBl dx) := by
          rw [hF, eq, beq_self_eq_true, Bool.true_and, n0, Bool.false_or]
          rfl
        rw [hF2] at q2
        refine ⟨_, rfl, a, _, 1, _, rfl, rfl, ha2, at_of (j := 1) rfl rfl, _, _, _, _, _, rfl, .ty _, hx.ty, kit_int dx fx, _, rfl, ite2 (fun c5 => ?_) (fun c5 => ?_)⟩
        · rw [c5, Bool.true_and] at q2
          exact ⟨_, rfl, a, _, 1, _, rfl, rfl, ha2, at_of (j := 1) rfl rfl, _, _, _, _, _, rfl, .ty _, hx.ty, kit_bl dx fx, _, rfl, q2⟩
        · rw [Bool.eq_false_iff.mpr c5, Bool.false_and] at q2
          exact q2
      · have ne : rs.length ≠ n1 + m1 := fun y => c4 (decide_eq_true (congrArg V.int (by rw [List.length_cons, ylen, y]; omega)))
        rw [hF, beq_false_of_ne ne, Bool.false_and] at q2
        exact q2
    · have hn : nn p = 0 := by
        have hz : nn p ≠ 1 := fun y => z (decide_eq_true y)
        cases p <;> first | rfl | exact absurd rfl hz
      refine ⟨(by show 9 ≤ sizeLine; decide), fun t2 ht2 => ?_⟩
      have s3 : Same H2 (upd H2 t2 (.tup wordsV)) := same_new ht2
      have ha3 := Tp.same (K := K) s3 _ _ ha2
      refine ⟨_, rfl, a, _, 0, _, rfl, rfl, ha3, at_of (j := 0) rfl rfl, _, rfl, t2, _, rfl, .inr (.inl (.inl upd_same)), rfl, rfl, _, rfl, ?_⟩
      show if inV (.str (word p)) wordsV = true then _ else _
      rw [show inV (.str (word p)) wordsV = decide (nn p = 0) from in_words p, decide_eq_true hn]
      refine ⟨_, rfl, a, _, rfl, .inr ha3, _, rfl, _, _, rfl, rfl, rfl, ?_⟩
      have q3 := q _ (s1.trans (s2.trans s3))
      have n0 : (n1 == 0) = true := by
        have : n1 = 0 := by omega
        rw [this]
        rfl
      rw [hF, n0, Bool.true_or, Bool.and_true] at q3
      have eb : decide (V.int (((V.str (word p) :: ys).length : Nat) : Int) = V.int (((parts p).length : Nat) + 1)) = (rs.length == n1 + m1) := by
        rw [List.length_cons, ylen]
        by_cases y : rs.length = n1 + m1
        · rw [y, beq_self_eq_true]
          exact decide_eq_true (congrArg V.int (by omega))
        · rw [beq_false_of_ne y]
          exact decide_eq_false fun x => y (by have := V.int.inj x; omega)
      rw [← eb] at q3
      exact q3
  · obtain ⟨_, b1, b2, b3⟩ := hbad wd hb
    have hF : hasF (.tuple (.str wd :: rs)) = false := by
      show (match nnW wd with | some (n, m) => _ | none => false) = _
      rw [b3]
    rw [b1]
    refine iteF ⟨(by show 9 ≤ sizeLine; decide), fun t2 ht2 => ?_⟩
    have s3 : Same H2 (upd H2 t2 (.tup wordsV)) := same_new ht2
    have ha3 := Tp.same (K := K) s3 _ _ ha2
    refine ⟨_, rfl, a, _, 0, _, rfl, rfl, ha3, at_of (j := 0) rfl rfl, _, rfl, t2, _, rfl, .inr (.inl (.inl upd_same)), rfl, rfl, _, rfl, ?_⟩
    show if inV (.str wd) wordsV = true then _ else _
    rw [b2]
    have q3 := q _ (s1.trans (s2.trans s3))
    rw [hF] at q3
    exact iteF q3
end
end Lm

set_option Elab.async false
set_option linter.all false
set_option maxRecDepth 100000
set_option maxHeartbeats 2000000
namespace Lm
open PySem PySem.Spec PyProof.Rows L2 LmR
def depD : PyData → Nat
  | .tuple xs => 1 + depL xs
  | _ => 1
where depL : List PyData → Nat
  | [] => 0
  | d :: ds => max (depD d) (depL ds)
theorem depD_pos (d : PyData) : 1 ≤ depD d := by cases d <;> simp [depD]
theorem depL_mem : ∀ (ds : List PyData) (d : PyData), d ∈ ds → depD d ≤ depD.depL ds
  | e :: ds, d, h => by
    rw [depD.depL]
    rcases List.mem_cons.mp h with z | z
    · rw [z]; exact Nat.le_max_left _ _
    · exact Nat.le_trans (depL_mem ds d z) (Nat.le_max_right _ _)
theorem dep_partD {d x : PyData} (h : x ∈ partsD d) : depD x < depD d := by
  cases d with
  | tuple xs =>
    have z := depL_mem xs x (List.mem_of_mem_drop h)
    show depD x < 1 + depD.depL xs
    omega
  | _ => cases h
theorem knD_eq {d : PyData} (h : hasF d = true) : knD d = d :: knDs (partsD d) := by
  have z := knDs_cons d []
  rw [if_pos h, List.append_nil] at z
  rw [← z]
  simp [knDs]
theorem knD_ne {d : PyData} (h : ¬ hasF d = true) : knD d = [d] := by
  have z := knDs_cons d []
  rw [if_neg h] at z
  rw [show knD d = knDs [d] by simp [knDs], z]
  rfl
section
variable {P : Program} {w : World} {K : PySem.W.Frag} {mg : Str → Option Value} {base : Heap}
def spLPD (K : PySem.W.Frag) : Sp := fun vs H Q _ => ∃ (v : V) (d : PyData), vs = [v] ∧ Fd K H v d ∧ hasF d = true ∧ ∀ (t : Addr) (us : List V) (H' : Hp), Same H H' → H' t = some (.tup us) → Fds K H' us (partsD d) → Q (.ref t) H'
theorem ok_l_partsD (B : Bt mg) (D : DefAt K mg "_law_parts" s_l_parts ["_law_knot"]) : Cal P w K mg base 1 "_law_parts" ["_law_knot"] (spLPD K) := by
  refine cal_of D sc_l_parts (fun vs H Q E h => ?_) (fun f cdv A outer s H vs Q E hr h => ?_)
  · obtain ⟨v, p, rfl, _⟩ := h
    rfl
  obtain ⟨v, d, rfl, hv, hf, q⟩ := h
  refine ⟨_, (pss_cons (ps_if (pt_cmpR op_in_seq (pe_ix ix_tup (pv 0) pe_int (fun _ _ => rfl)) (pe_tup (pa_cons pe_str (pa_cons pe_str pa_nil))) rfl)
        (pss_one (ps_ret (pe_tup pa_nil)))
        pss_nil)
      (pss_one (ps_ret (pe_slice sl_tup (pv 0) (po_some (pe_op op_add pe_int (pe_callTy call_int1 (by rfl) B.int PyProof.Rows.boot_int (pa_cons (pe_cmpR op_eq (pe_ix ix_tup (pv 0) pe_int (fun _ _ => rfl)) pe_str (nomark _)) pa_nil)))) po_none)))), ?_⟩
  obtain ⟨wd, rs, n, m, rfl, hnm, hlen, hnum⟩ := hasF_open hf
  obtain ⟨a, xs, rfl, qa, r⟩ : ∃ a xs, v = .ref a ∧ SqT K H a xs ∧ DpAll K H xs (.str wd :: rs) := by
    cases hv.2 with
    | tup qa r => exact ⟨_, _, rfl, qa, r⟩
  have hall : Fds K H xs (.str wd :: rs) := ⟨hv.1, r⟩
  obtain ⟨ys, rfl⟩ : ∃ ys, xs = .str wd :: ys := by
    cases r with
    | cons r0 rr => cases r0; exact ⟨_, rfl⟩
  obtain ⟨p, rfl, en, em⟩ := nnW_pg hnm
  have sk : skipD (.str (word p) :: rs) = 1 + nn p := by
    show 1 + ((nnW (word p)).map (·.1)).getD 0 = _
    rw [hnm, en]
    rfl
  have ep : partsD (.tuple (.str (word p) :: rs)) = (PyData.str (word p) :: rs).drop (1 + nn p) := by
    show (PyData.str (word p) :: rs).drop (skipD (.str (word p) :: rs)) = _
    rw [sk]
  rw [ep] at q
  refine ⟨_, rfl, a, _, 0, _, rfl, rfl, qa, at_of (j := 0) rfl rfl, (by show 2 ≤ sizeLine; decide), fun t ht => ?_⟩
  have s2 : Same H (upd H t (.tup [.str "in", .str "num"])) := same_new ht
  have ha2 := Tp.same (K := K) s2 _ _ qa
  refine ⟨t, _, rfl, .inr (.inl (.inl upd_same)), rfl, rfl, _, rfl, ?_⟩
  show if inV (.str (word p)) [.str "in", .str "num"] = true then _ else _
  rw [in_leaf]
  generalize upd H t (.tup [.str "in", .str "num"]) = H2 at s2 ha2
  refine ite2 (fun z => ?_) (fun z => ?_)
  · obtain ⟨h1, hp⟩ := of_decide_eq_true z
    have e0 : (PyData.str (word p) :: rs).drop (1 + nn p) = [] := List.drop_eq_nil_of_le (by
      have : m = 0 := by rw [← em, hp]; rfl
      rw [List.length_cons, hlen, en]
      omega)
    rw [e0] at q
    exact ⟨(by show 0 ≤ sizeLine; decide), fun t2 ht2 => q t2 [] _ (s2.trans (same_new ht2)) upd_same .nil⟩
  · have e1 : (1 : Int) + (if (decide (V.str (word p) = V.str "plus")) = true then (1 : Int) else 0) = ((1 + nn p : Nat) : Int) := by
      have hz : ¬ (nn p = 1 ∧ parts p = []) := fun y => z (decide_eq_true y)
      cases p with
      | inp k => exact absurd ⟨rfl, rfl⟩ hz
      | num k => exact absurd ⟨rfl, rfl⟩ hz
      | tr b => cases b <;> rfl
      | plus c a => rfl
      | bin w a b => cases w <;> rfl
      | neg a => rfl
      | ite p a b => rfl
    have ecut : cutV (V.str (word p) :: ys) (some ((1 : Int) + (if (decide (V.str (word p) = V.str "plus")) = true then (1 : Int) else 0))) none = (V.str (word p) :: ys).drop (1 + nn p) := by
      unfold cutV
      rw [e1, show HT.sIx (V.str (word p) :: ys).length 0 (some ((1 + nn p : Nat) : Int)) = min (1 + nn p) (V.str (word p) :: ys).length from HT.sIx_nat _ 0 _, HT.sIx_none]
      by_cases h : 1 + nn p ≤ (V.str (word p) :: ys).length
      · rw [Nat.min_eq_left h]
        exact List.take_of_length_le (by rw [List.length_drop]; exact Nat.le_refl _)
      · rw [Nat.min_eq_right (by omega), List.drop_eq_nil_of_le (Nat.le_refl _), List.drop_eq_nil_of_le (by omega), List.take_nil]
    refine ⟨_, rfl, _, rfl, a, _, 0, _, rfl, rfl, ha2, at_of (j := 0) rfl rfl, rfl, .inr ⟨_, rfl, _, _, rfl, rfl, _, rfl, a, _, rfl, ha2, ?_, fun t2 ht2 => ?_⟩⟩
    · rintro ⟨y, _⟩
      have y' : HT.sIx (V.str (word p) :: ys).length 0 (some ((1 : Int) + (if (decide (V.str (word p) = V.str "plus")) = true then (1 : Int) else 0))) = 0 := y
      rw [e1, show HT.sIx (V.str (word p) :: ys).length 0 (some ((1 + nn p : Nat) : Int)) = min (1 + nn p) (V.str (word p) :: ys).length from HT.sIx_nat _ 0 _, List.length_cons] at y'
      omega
    · have st : Same H2 (upd H2 t2 (.tup ((V.str (word p) :: ys).drop (1 + nn p)))) := same_new ht2
      show Q (.ref t2) (upd H2 t2 (.tup (cutV (V.str (word p) :: ys) (some ((1 : Int) + (if (decide (V.str (word p) = V.str "plus")) = true then (1 : Int) else 0))) none)))
      rw [ecut]
      exact q t2 _ _ (s2.trans st) upd_same ((hall.drop _).keep (Tp.same (s2.trans st)))
def spLKD (K : PySem.W.Frag) (bad : List Str) (n : Nat) : Sp := fun vs H Q _ => ∃ (v : V) (d : PyData), vs = [v] ∧ Fd K H v d ∧ depD d ≤ n ∧ (knD d).length ≤ 10000 ∧ (∀ x ∈ knD d, wordOk bad x ∧ dsz x ≤ 90000) ∧ ∀ (l : Addr) (us : List V) (H' : Hp), Same H H' → H l = none → H' l = some (.lst us) → Fds K H' us (knD d) → Q (.ref l) H'
theorem knDs_app (ds es : List PyData) : knDs (ds ++ es) = knDs ds ++ knDs es := by simp [knDs]
theorem ok_l_knotsD1 {bad : List Str} {n : Nat} (C_l_has_form : Cal P w K mg base 1 "_law_has_form" ["_law_knot"] (spLHFD K bad)) (C_l_parts : Cal P w K mg base 1 "_law_parts" ["_law_knot"] (spLPD K)) (C_l_knots : Cal P w K mg base (n + 1) "_law_knots" ["_law_program"] (spLKD K bad n)) (D : DefAt K mg "_law_knots" s_l_knots ["_law_program"]) : Cal P w K mg base (n + 1 + 1) "_law_knots" ["_law_program"] (spLKD K bad (n + 1)) := by
  refine cal_of D sc_l_knots (fun vs H Q E h => ?_) (fun f cdv A outer s H vs Q E hr h => ?_)
  · obtain ⟨v, p, rfl, _⟩ := h
    rfl
  obtain ⟨v, d, rfl, hv, hdep, hsz, hwk, q⟩ := h
  have C_l_has_form := C_l_has_form.mono (k := n + 1) (by omega)
  have C_l_parts := C_l_parts.mono (k := n + 1) (by omega)
  have hr' : Room (n + 1) _ := hr
  refine ⟨_, (pss_cons (ps_set (i := 1) sc_l_knots.nd rfl (.inl rfl) (pe_lst (pa_cons (pv 0) pa_nil)))
      (pss_cons (ps_if (pt_val (pe_cal C_l_has_form hr' (by rfl) (pa_cons (pv 0) pa_nil)))
        (pss_one (ps_for PassesOwn.never rfl (pi_tup (pe_cal C_l_parts hr' (by rfl) (pa_cons (pv 0) pa_nil))) (pg_name (i := 2) sc_l_knots.nd rfl (.inl rfl))
        (pss_one (ps_expr (pe_bm PySem.F.plainAttrs_list PySem.F.slot_list_extend PySem.F.type_list_extend mt_extend (pv 1) (pa_cons (pe_cal C_l_knots hr' (by rfl) (pa_cons (pv 2) pa_nil)) pa_nil))))))
        pss_nil)
      (pss_one (ps_ret (pv 1))))), ?_⟩
  refine ⟨_, rfl, (by show 1 ≤ sizeLine; decide), fun l hl => ?_⟩
  have s1 : Same H (upd H l (.lst [v])) := same_new hl
  have l1 : (upd H l (.lst [v])) l = some (.lst [v]) := upd_same
  generalize upd H l (.lst [v]) = H1 at s1 l1
  have hv1 := hv.keep (Tp.same s1)
  have hd0 : wordOk bad d ∧ dsz d ≤ 90000 := hwk d (by
    by_cases c : hasF d = true
    · rw [knD_eq c]; simp
    · rw [knD_ne c]; simp)
  refine ⟨_, rfl, v, d, rfl, hv1, hd0.1, hd0.2, fun H2 s2 => ⟨_, rfl, ite2 (fun c => ?_) (fun c => ?_)⟩⟩
  · have hv2 := hv1.keep (Tp.same s2)
    have ek := knD_eq c
    refine ⟨_, rfl, v, d, rfl, hv2, c, fun t vs H3 s3 ht hvs => ?_⟩
    have s13 := s2.trans s3
    refine ⟨t, rfl, ⟨_, .inl (.inl ht)⟩, for_tup (K := K) (a := t) (xs := vs) (fun i σ' H' => ∃ (us : List V) (y2 : Option V), σ' = [some v, some (.ref l), y2] ∧ Same H H' ∧ H' t = some (.tup vs) ∧ Fds K H' vs (partsD d) ∧ H' l = some (.lst us) ∧ Fds K H' us (d :: knDs ((partsD d).take i))) ?_ ?_ ?_ ?_⟩
    · exact ⟨[v], none, rfl, s1.trans s13, ht, hvs, s13 _ _ l1, .cons (hv.keep (Tp.same (s1.trans s13))) .nil⟩
    · rintro i σ' H' _ ⟨us, y2, rfl, sm, ht', _⟩
      exact .inl (.inl ht')
    · rintro i x σ' H' hx ⟨us, y2, rfl, sm, ht', hvs', hl', hus⟩
      obtain ⟨r, hr1, har⟩ := hvs'.nth hx
      have hmem := List.mem_of_getElem? hr1
      have d1 := dep_partD hmem
      have sub : ∀ y ∈ knD r, y ∈ knD d := fun y hy => by
        rw [ek]
        refine List.mem_cons_of_mem _ ?_
        unfold knDs
        exact List.mem_flatten.mpr ⟨knD r, List.mem_map.mpr ⟨r, hmem, rfl⟩, hy⟩
      have esplit : knDs (partsD d) = knDs ((partsD d).take (i + 1)) ++ knDs ((partsD d).drop (i + 1)) := by
        rw [← knDs_app, List.take_append_drop]
      have e3 : knDs ((partsD d).take (i + 1)) = knDs ((partsD d).take i) ++ knD r := by
        rw [List.take_add_one, hr1, knDs_app]
        simp [knDs]
      have e4 : (knDs ((partsD d).take i)).length + (knD r).length + 1 ≤ 10000 := by
        rw [ek, List.length_cons, esplit, List.length_append, e3, List.length_append] at hsz
        omega
      refine ⟨_, rfl, .inl ⟨rfl, _, SqL.of hl'⟩, _, rfl, x, r, rfl, har, by omega, by omega, fun y hy => hwk y (sub y hy), fun l2 us2 H4 s4 l20 hl2 hus2 => ?_⟩
      have hl4 := s4 _ _ hl'
      have e1 : us.length = 1 + (knDs ((partsD d).take i)).length := by rw [hus.len, List.length_cons]; omega
      have e2 : us2.length = (knD r).length := hus2.len
      refine ⟨l, l2, us, us2, rfl, rfl, hl4, hl2, small (by omega), us ++ us2, _, rfl, fun b o z => ?_, ?_, ?_, upd_same, ?_⟩
      · rw [upd_ne (ne_of_none z hl)]
        exact s4 _ _ (sm b o z)
      · rw [upd_ne (fun z => by rw [z, hl'] at ht'; cases ht')]
        exact s4 _ _ ht'
      · exact (hvs'.keep (Tp.same s4)).keep (Tp.lst hl4)
      · have t5 : Tp K H4 (upd H4 l (.lst (us ++ us2))) := Tp.lst hl4
        have z := ((hus.keep (Tp.same s4)).keep t5).app (hus2.keep t5)
        rw [e3]
        exact z
    · rintro σ' H' ⟨us, y2, rfl, sm, ht', hvs', hl', hus⟩
      rw [hvs.len, List.take_length] at hus
      refine ⟨_, rfl, q l us H' sm hl hl' ?_⟩
      rw [ek]
      exact hus
  · refine ⟨_, rfl, q l [v] H2 (s1.trans s2) hl (s2 _ _ l1) ?_⟩
    rw [knD_ne c]
    exact .cons (hv1.keep (Tp.same s2)) .nil
theorem ok_l_knotsD {bad : List Str} (C_l_has_form : Cal P w K mg base 1 "_law_has_form" ["_law_knot"] (spLHFD K bad)) (C_l_parts : Cal P w K mg base 1 "_law_parts" ["_law_knot"] (spLPD K)) (D : DefAt K mg "_law_knots" s_l_knots ["_law_program"]) : ∀ n : Nat, Cal P w K mg base (n + 1) "_law_knots" ["_law_program"] (spLKD K bad n)
  | 0 => cal_no D fun vs H Q E h => by
    obtain ⟨v, d, _, _, h1, _⟩ := h
    have := depD_pos d
    omega
  | n + 1 => ok_l_knotsD1 C_l_has_form C_l_parts (ok_l_knotsD C_l_has_form C_l_parts D n) D
end
end Lm

set_option Elab.async false
set_option linter.all false
set_option maxRecDepth 100000
set_option maxHeartbeats 2000000
namespace Lm
open PySem PySem.Spec PyProof.Rows L2 LmR
section
variable {P : Program} {w : World} {K : PySem.W.Frag} {mg : Str → Option Value} {base : Heap}
/-- own of any program whose inputs are there -/
def spLOA (K : PySem.W.Frag) (n : Nat) : Sp := fun vs H Q _ => ∃ (ka : Addr) (ks : List Bool) (v : V) (p : Pg), vs = [.ref ka, v] ∧ SqT K H ka (kVs ks) ∧ At K H v p ∧ (∀ x ∈ kn p, In0 ks.length x) ∧ dep p ≤ n ∧ ∀ H', Same H H' → Q (.str (kS (own ks p))) H'
theorem ok_l_ownA1 {n : Nat} (B : Bt mg) (C_l_own : Cal P w K mg base (n + 1) "_law_own" ["_law_kinds", "_law_knot"] (spLOA K n)) (D : DefAt K mg "_law_own" s_l_own ["_law_kinds", "_law_knot"]) : Cal P w K mg base (n + 1 + 1) "_law_own" ["_law_kinds", "_law_knot"] (spLOA K (n + 1)) := by
  refine cal_of D sc_l_own (fun vs H Q E h => ?_) (fun f cdv A outer s H vs Q E hr h => ?_)
  · obtain ⟨ka, ks, v, p, rfl, _⟩ := h
    rfl
  obtain ⟨ka, ks, v, p, rfl, hk, hv, hw, hdep, q⟩ := h
  have hr' : Room (n + 1) _ := hr
  refine ⟨_, (pss_cons (ps_if (pt_cmpR op_eq (pe_ix ix_tup (pv 1) pe_int (fun _ _ => rfl)) pe_str (nomark _))
        (pss_one (ps_ret (pe_cal C_l_own hr' (by rfl) (pa_cons (pv 0) (pa_cons (pe_ix ix_tup (pv 1) pe_int (fun _ _ => rfl)) pa_nil)))))
        pss_nil)
      (pss_cons (ps_if (pt_cmpR op_eq (pe_ix ix_tup (pv 1) pe_int (fun _ _ => rfl)) pe_str (nomark _))
        (pss_one (ps_ret (pe_ix ix_tup (pv 0) (pe_ix ix_tup (pv 1) pe_int (fun _ _ => rfl)) (fun _ _ => rfl))))
        pss_nil)
      (pss_one (ps_ret (pe_ix ix_list (pe_lst (pa_cons pe_str (pa_cons pe_str pa_nil))) (pe_callTy call_int1 (by rfl) B.int PyProof.Rows.boot_int (pa_cons (pe_cmpR op_in_seq (pe_ix ix_tup (pv 1) pe_int (fun _ _ => rfl)) (pe_tup (pa_cons pe_str (pa_cons pe_str (pa_cons pe_str (pa_cons pe_str pa_nil))))) rfl) pa_nil)) (fun _ _ => rfl)))))), ?_⟩
  obtain ⟨a, vs, rfl, ha, hvs⟩ := hv.open
  refine ⟨_, rfl, a, _, 0, _, rfl, rfl, ha, at_word p vs, rfl, _, rfl, ite2 (fun z => ?_) (fun z => ?_)⟩
  · have z' : V.str (word p) = V.str "if" := of_decide_eq_true z
    obtain ⟨r, x, y, rfl⟩ := word_if z'
    obtain ⟨u1, u2, u3, rfl, a1, a2, a3⟩ := hvs.three
    have d1 := dep_part (.ite r x y) x (by simp [parts])
    exact ⟨_, rfl, _, rfl, a, _, 2, u2, rfl, rfl, ha, rfl, ka, ks, u2, x, rfl, hk, a2, (fun q' hq' => hw q' (by rw [kn_eq]; simp [parts, hq'])), by omega, q⟩
  refine ⟨_, rfl, a, _, 0, _, rfl, rfl, ha, at_word p vs, rfl, _, rfl, ite2 (fun y => ?_) (fun y => ?_)⟩
  · have y' : V.str (word p) = V.str "in" := of_decide_eq_true y
    obtain ⟨k, rfl⟩ := word_in y'
    have hk' : k < ks.length := hw (.inp k) (by simp [kn])
    have ek : (kVs ks)[k]? = some (.str (kS (own ks (.inp k)))) := by
      unfold kVs
      rw [List.getElem?_map, List.getElem?_eq_getElem hk']
      show some (V.str (kS ks[k])) = some (V.str (kS (ks.getD k false)))
      rw [List.getD_eq_getElem?_getD, List.getElem?_eq_getElem hk']
      rfl
    exact ⟨_, rfl, _, rfl, a, _, 1, .int k, rfl, rfl, ha, at_of (j := 1) rfl rfl, ka, _, _, _, rfl, rfl, hk, at_of (j := k) rfl ek, q _ (Same.refl _)⟩
  · have h1 : ∀ k, p ≠ .inp k := fun k e => y (decide_eq_true (by rw [e]; rfl))
    have h2 : ∀ r x u, p ≠ .ite r x u := fun r x u e => z (decide_eq_true (by rw [e]; rfl))
    refine ⟨(by show 2 ≤ sizeLine; decide), fun l hl => ?_⟩
    have s1 : Same H (upd H l (.lst [.str "truth", .str "num"])) := same_new hl
    have ha1 := Tp.same (K := K) s1 _ _ ha
    refine ⟨_, rfl, a, _, 0, _, rfl, rfl, ha1, at_word p vs, (by show 4 ≤ sizeLine; decide), fun t ht => ?_⟩
    have s2 := same_new (o := .tup [.str "num", .str "plus", .str "least", .str "most"]) ht
    refine ⟨t, _, rfl, .inr (.inl (.inl upd_same)), rfl, rfl, .inr ⟨_, rfl, ?_⟩⟩
    have hl2 := s2 _ _ (upd_same (H := H) (a := l) (o := .lst [.str "truth", .str "num"]))
    show (rIxL K) (.ref l) (.int (if inV (.str (word p)) [.str "num", .str "plus", .str "least", .str "most"] = true then 1 else 0)) _ _
    rw [in_num4 p h1 h2 ks]
    have qq := q _ (s1.trans s2)
    revert qq
    cases own ks p with
    | true => intro qq; exact ⟨l, _, 0, .str "truth", rfl, rfl, SqL.of hl2, rfl, qq⟩
    | false => intro qq; exact ⟨l, _, 1, .str "num", rfl, rfl, SqL.of hl2, rfl, qq⟩
theorem ok_l_ownA (B : Bt mg) (D : DefAt K mg "_law_own" s_l_own ["_law_kinds", "_law_knot"]) : ∀ n : Nat, Cal P w K mg base (n + 1) "_law_own" ["_law_kinds", "_law_knot"] (spLOA K n)
  | 0 => cal_no D fun vs H Q E h => by
    obtain ⟨ka, ks, v, p, _, _, _, _, h1, _⟩ := h
    have := dep_pos p
    omega
  | n + 1 => ok_l_ownA1 B (ok_l_ownA B D n) D
end
end Lm

set_option Elab.async false
set_option linter.all false
set_option maxRecDepth 100000
set_option maxHeartbeats 2000000
namespace Lm
open PySem PySem.Spec PyProof.Rows L2 LmR
theorem fbP_step {f : Pg → Bool} {ds : List Pg} {i : Nat} {d : Pg} (h : ds[i]? = some d) : fbP f (ds.drop i) i = if f d then fbP f (ds.drop (i + 1)) (i + 1) else some i := by
  obtain ⟨hi, e⟩ := List.getElem?_eq_some_iff.mp h
  rw [List.drop_eq_getElem_cons hi, e]
  rfl
theorem kn_part {r s x : Pg} (hs : s ∈ parts r) (hx : x ∈ kn s) : x ∈ kn r := by
  rw [kn_eq]
  exact List.mem_cons_of_mem _ (List.mem_flatMap.mpr ⟨s, hs, hx⟩)
theorem kn_ind (p q : Pg) (h : q ∈ kn p) : q = p ∨ ∃ s ∈ parts p, q ∈ kn s := by
  rw [kn_eq] at h
  rcases List.mem_cons.mp h with e | e
  · exact .inl e
  · obtain ⟨s, hs, hq⟩ := List.mem_flatMap.mp e
    exact .inr ⟨s, hs, hq⟩
theorem kn_transN : ∀ (n : Nat) (p q x : Pg), psz p ≤ n → q ∈ kn p → x ∈ kn q → x ∈ kn p
  | 0, p, _, _, hn, _, _ => by have := psz_pos p; omega
  | n + 1, p, q, x, hn, hq, hx => by
    rcases kn_ind p q hq with e | ⟨s, hs, hq⟩
    · rw [← e]; exact hx
    · have := psz_part p s hs
      exact kn_part hs (kn_transN n s q x (by omega) hq hx)
theorem kn_trans (p q x : Pg) (hq : q ∈ kn p) (hx : x ∈ kn q) : x ∈ kn p := kn_transN _ p q x (Nat.le_refl _) hq hx
theorem kn_depN : ∀ (n : Nat) (p q : Pg), psz p ≤ n → q ∈ kn p → dep q ≤ dep p
  | 0, p, _, hn, _ => by have := psz_pos p; omega
  | n + 1, p, q, hn, hq => by
    rcases kn_ind p q hq with e | ⟨s, hs, hq⟩
    · rw [e]; exact Nat.le_refl _
    · have := psz_part p s hs
      have := dep_part p s hs
      have := kn_depN n s q (by omega) hq
      omega
theorem kn_dep (p q : Pg) (hq : q ∈ kn p) : dep q ≤ dep p := kn_depN _ p q (Nat.le_refl _) hq
theorem dep_depD : ∀ p : Pg, dep p ≤ depD (enc p)
  | .inp _ => depD_pos _
  | .num _ => depD_pos _
  | .tr _ => depD_pos _
  | .plus c a => by have := dep_depD a; simp only [enc, depD, depD.depL, dep]; omega
  | .bin w a b => by have := dep_depD a; have := dep_depD b; simp only [enc, depD, depD.depL, dep]; omega
  | .neg a => by have := dep_depD a; simp only [enc, depD, depD.depL, dep]; omega
  | .ite p a b => by have := dep_depD a; have := dep_depD b; have := dep_depD p; simp only [enc, depD, depD.depL, dep]; omega
theorem partsD_enc (p : Pg) : partsD (enc p) = (parts p).map enc := by
  cases p with
  | tr b => cases b <;> rfl
  | bin w a b => cases w <;> rfl
  | _ => rfl
theorem rep_flat {x : V} : ∀ n : Nat, (List.replicate n [x]).flatten = List.replicate n x
  | 0 => rfl
  | n + 1 => by rw [List.replicate_succ, List.flatten_cons, rep_flat n, List.replicate_succ]; rfl
/-- the kind due to all parts -/
def argK : Pg → Bool
  | .plus _ _ => false
  | .bin w _ _ => w.arg
  | _ => true
theorem in_arg (p : Pg) : inV (.str (word p)) [.str "plus", .str "least", .str "most", .str "atmost"] = !argK p := by
  cases p with
  | tr b => cases b <;> rfl
  | bin w a b => cases w <;> rfl
  | _ => rfl
theorem eqvl0 : PyData.eqv (.list []) (.list []) = true := by decide +kernel
theorem eqvl1 (a b : Bool) : PyData.eqv (.list [kD a]) (.list [kD b]) = (a == b) := by revert a b; decide +kernel
theorem eqvl2 (a b c d : Bool) : PyData.eqv (.list [kD a, kD b]) (.list [kD c, kD d]) = ((a == c) && (b == d)) := by revert a b c d; decide +kernel
theorem eqvl3 (a b c : Bool) : PyData.eqv (.list [kD a, kD b, kD c]) (.list [kD true, kD b, kD b]) = ((a == true) && (c == b)) := by revert a b c; decide +kernel
theorem shl0 : SeqAt.shaped (.list []) = true := by decide +kernel
theorem shl1 (a : Bool) : SeqAt.shaped (.list [kD a]) = true := by revert a; decide +kernel
theorem shl2 (a b : Bool) : SeqAt.shaped (.list [kD a, kD b]) = true := by revert a b; decide +kernel
theorem shl3 (a b c : Bool) : SeqAt.shaped (.list [kD a, kD b, kD c]) = true := by revert a b c; decide +kernel
section
variable {P : Program} {w : World} {K : PySem.W.Frag} {mg : Str → Option Value} {base : Heap}
abbrev s_l_wrong : Stmt := topS 58
theorem sc_l_wrong : FnScope ["_law_kinds", "_law_program", "_law_found", "_law_at", "_law_knot", "_law_own_here", "_law_due", "_law_part"] ["_law_kinds", "_law_program"] (defScope s_l_wrong) := ⟨rfl, rfl, rfl, by decide +kernel, rfl, by decide +kernel, by decide +kernel⟩
noncomputable def wrongV (ks : List Bool) (d : PyData) : PyData := match wrongD ks d with
  | none => .none
  | some (x, n) => .tuple [.str x, .int (n : Nat)]
def spWrong (K : PySem.W.Frag) (bad : List Str) (N : Nat) : Sp := fun vs H Q _ => ∃ (ka : Addr) (ks : List Bool) (v : V) (d : PyData), vs = [.ref ka, v] ∧ SqT K H ka (kVs ks) ∧ Fd K H v d ∧ depD d ≤ N ∧ (knD d).length ≤ 10000 ∧ (∀ x ∈ knD d, wordOk bad x ∧ dsz x ≤ 90000) ∧ ∀ u H', Same H H' → Fd K H' u (wrongV ks d) → Q u H'
theorem ok_l_wrong {bad : List Str} {N : Nat} (hN : 1 ≤ N) (B : Bt mg) (C_l_has_form : Cal P w K mg base 1 "_law_has_form" ["_law_knot"] (spLHFD K bad)) (C_l_parts : Cal P w K mg base 1 "_law_parts" ["_law_knot"] (spLPD K)) (C_l_knots : Cal P w K mg base (N + 1) "_law_knots" ["_law_program"] (spLKD K bad N)) (C_l_own : Cal P w K mg base (N + 1) "_law_own" ["_law_kinds", "_law_knot"] (spLOA K N)) (D : DefAt K mg "_law_wrong" s_l_wrong ["_law_kinds", "_law_program"]) : Cal P w K mg base (N + 2) "_law_wrong" ["_law_kinds", "_law_program"] (spWrong K bad N) := by
  refine cal_of D sc_l_wrong (fun vs H Q E h => ?_) (fun f cdv A outer s H vs Q E hr h => ?_)
  · obtain ⟨ka, ks, v, d, rfl, _⟩ := h
    rfl
  obtain ⟨ka, ks, v, d, rfl, hk, hv, hdep, hsz, hwk, q⟩ := h
  have C_l_has_form := C_l_has_form.mono (k := N + 1) (by omega)
  have C_l_parts := C_l_parts.mono (k := N + 1) (by omega)
  have hr' : Room (N + 1) _ := hr
  refine ⟨_, (pss_cons (ps_set (i := 2) sc_l_wrong.nd rfl (.inl rfl) (pe_cal C_l_knots hr' (by rfl) (pa_cons (pv 1) pa_nil)))
      (pss_cons (ps_for PassesOwn.never rfl (pi_enum (by rfl) B.enumerate (pa_cons (pv 2) pa_nil)) (pg_tup rfl (pgs_cons (pg_name (i := 3) sc_l_wrong.nd rfl (.inl rfl)) (pgs_cons (pg_name (i := 4) sc_l_wrong.nd rfl (.inl rfl)) pgs_nil)))
        (pss_one (ps_if (pt_not (pt_val (pe_cal C_l_has_form hr' (by rfl) (pa_cons (pv 4) pa_nil))))
        (pss_one (ps_ret (pe_tup (pa_cons pe_str (pa_cons (pv 3) pa_nil)))))
        pss_nil)))
      (pss_cons (ps_for PassesOwn.never rfl (pi_enum (by rfl) B.enumerate (pa_cons (pv 2) pa_nil)) (pg_tup rfl (pgs_cons (pg_name (i := 3) sc_l_wrong.nd rfl (.inl rfl)) (pgs_cons (pg_name (i := 4) sc_l_wrong.nd rfl (.inl rfl)) pgs_nil)))
        (pss_one (ps_if (PW.pt (pw_and (pt_cmpR op_eq (pe_ix ix_tup (pv 4) pe_int (fun _ _ => rfl)) pe_str (nomark _)) (pw_and1 (PW.pt (pw_or (pt_cmpR op_lt (pe_ix ix_tup (pv 4) pe_int (fun _ _ => rfl)) pe_int (nomark _)) (pw_or1 (pt_cmpR op_ge (pe_ix ix_tup (pv 4) pe_int (fun _ _ => rfl)) (pe_callB call_len_seq (by rfl) B.len PySem.boot_len (pa_cons (pv 0) pa_nil)) (nomark _))))))))
        (pss_one (ps_ret (pe_tup (pa_cons pe_str (pa_cons (pv 3) pa_nil)))))
        pss_nil)))
      (pss_cons (ps_for PassesOwn.never rfl (pi_enum (by rfl) B.enumerate (pa_cons (pv 2) pa_nil)) (pg_tup rfl (pgs_cons (pg_name (i := 3) sc_l_wrong.nd rfl (.inl rfl)) (pgs_cons (pg_name (i := 4) sc_l_wrong.nd rfl (.inl rfl)) pgs_nil)))
        (pss_cons (ps_setLc (i := 5) (own := [("_law_part", 7)]) (g := gName 7) rfl sc_l_wrong.nd rfl rfl (sw_true rfl rfl rfl (by decide +kernel)) (pi_tup (pe_cal C_l_parts hr' (by rfl) (pa_cons (pv 4) pa_nil))) (blkOk_by (own := [("_law_part", 7)]) (N := ["_law_kinds", "_law_program", "_law_found", "_law_at", "_law_knot", "_law_own_here", "_law_due", "_law_part"]) (sc := defScope s_l_wrong) (by decide +kernel)) (fun _ _ _ _ _ => (pg_name (i := 7) sc_l_wrong.nd rfl (.inl rfl))) (fun _ _ _ _ _ => pts_nil) (fun _ _ _ _ _ => (pe_cal C_l_own hr' (by rfl) (pa_cons (pv 0) (pa_cons (pv 7) pa_nil)))))
      (pss_cons (ps_set (i := 6) sc_l_wrong.nd rfl (.inl rfl) (pe_op op_rep (pe_lst (pa_cons pe_str pa_nil)) (pe_callB call_len_seq (by rfl) B.len PySem.boot_len (pa_cons (pv 5) pa_nil))))
      (C8.pss_cut (ps_if (pt_cmpR op_in_seq (pe_ix ix_tup (pv 4) pe_int (fun _ _ => rfl)) (pe_tup (pa_cons pe_str (pa_cons pe_str (pa_cons pe_str (pa_cons pe_str pa_nil))))) rfl)
        (pss_one (ps_set (i := 6) sc_l_wrong.nd rfl (.inl rfl) (pe_op op_rep (pe_lst (pa_cons pe_str pa_nil)) (pe_callB call_len_seq (by rfl) B.len PySem.boot_len (pa_cons (pv 5) pa_nil)))))
        pss_nil)
      (C8.pss_cut (ps_if (pt_cmpR op_eq (pe_ix ix_tup (pv 4) pe_int (fun _ _ => rfl)) pe_str (nomark _))
        (pss_one (ps_set (i := 6) sc_l_wrong.nd rfl (.inl rfl) (pe_lst (pa_cons pe_str (pa_cons (pe_ix ix_list (pv 5) pe_int (fun _ _ => rfl)) (pa_cons (pe_ix ix_list (pv 5) pe_int (fun _ _ => rfl)) pa_nil))))))
        pss_nil)
      (pss_one (ps_if (pt_cmpR (op_neD hr.units) (pv 5) (pv 6) (nomark _))
        (pss_one (ps_ret (pe_tup (pa_cons pe_str (pa_cons (pv 3) pa_nil)))))
        pss_nil)))))))
      (pss_one (ps_ret pe_non)))))), ?_⟩
  refine ⟨_, rfl, v, d, rfl, hv, hdep, hsz, hwk, fun l us H1 s1 l0 hl hus => ?_⟩
  have hk1 := Tp.same (K := K) s1 _ _ hk
  have klen : (kVs ks).length = ks.length := List.length_map _
  -- forms
  refine ⟨_, rfl, l, us, rfl, SqL.of hl, for_enumL (K := K) (xs := us) (fun i σ H' => (∃ y3 y4 y5 y6 y7 : Option V, σ = [some (V.ref ka), some v, some (.ref l), y3, y4, y5, y6, y7]) ∧ Same H1 H' ∧ firstBad hasF (knD d) 0 = firstBad hasF ((knD d).drop i) i) ?_ ?_ ?_ ?_⟩
  · exact ⟨⟨_, _, _, _, _, rfl⟩, fun _ _ h => h, by rw [List.drop_zero]⟩
  · rintro i σ H' ⟨_, sm, _⟩
    exact SqL.of (sm _ _ hl)
  · rintro i x σ H' T hx ⟨⟨y3, y4, y5, y6, y7, rfl⟩, sm, hbd⟩ hT
    have sm2 := sm.trans (same_new (o := .tup [.int (i : Nat), x]) hT)
    refine ⟨T, _, rfl, .inl (.inl upd_same), rfl, _, _, rfl, _, _, rfl, rfl, ?_⟩
    obtain ⟨dx, hdx, hDx⟩ := hus.nth hx
    rw [firstBad_step hdx] at hbd
    have fx := hDx.keep (Tp.same sm2)
    have hw := hwk dx (List.mem_of_getElem? hdx)
    refine ⟨_, rfl, x, dx, rfl, fx, hw.1, hw.2, fun H3 s3 => ⟨_, rfl, ite2 (fun c => ?_) (fun c => ?_)⟩⟩
    · have nk : hasF dx = false := by simpa using c
      rw [nk] at hbd
      refine ⟨_, rfl, (by show 2 ≤ sizeLine; decide), fun p hp => q _ _ ((s1.trans (sm2.trans s3)).trans (same_new hp)) ?_⟩
      have z : wrongV ks d = .tuple [.str "form", .int ((i : Nat) : Int)] := by
        unfold wrongV
        rw [wrong_form hbd]
      rw [z]
      exact fd_tup upd_same (.cons (.str _) (.cons (.int _) .nil)) rfl
    · have nk : hasF dx = true := by simpa using c
      rw [nk] at hbd
      exact ⟨⟨_, _, _, _, _, rfl⟩, sm2.trans s3, hbd⟩
  · rintro σ H2 ⟨⟨y3, y4, y5, y6, y7, rfl⟩, sm2, hbd⟩
    have n0 : firstBad hasF (knD d) 0 = none := by
      rw [hbd, List.drop_eq_nil_of_le (by rw [hus.len]; exact Nat.le_refl _)]
      rfl
    have hl2 := sm2 _ _ hl
    -- inputs
    refine ⟨_, rfl, l, us, rfl, SqL.of hl2, for_enumL (K := K) (xs := us) (fun i σ H' => (∃ y3 y4 y5 y6 y7 : Option V, σ = [some (V.ref ka), some v, some (.ref l), y3, y4, y5, y6, y7]) ∧ Same H1 H' ∧ firstBad (inOk (ks.length : Nat)) (knD d) 0 = firstBad (inOk (ks.length : Nat)) ((knD d).drop i) i) ?_ ?_ ?_ ?_⟩
    · exact ⟨⟨_, _, _, _, _, rfl⟩, sm2, by rw [List.drop_zero]⟩
    · rintro i σ H' ⟨_, sm, _⟩
      exact SqL.of (sm _ _ hl)
    · rintro i x σ H' T hx ⟨⟨y3, y4, y5, y6, y7, rfl⟩, sm, hbd⟩ hT
      have sm3 := sm.trans (same_new (o := .tup [.int (i : Nat), x]) hT)
      refine ⟨T, _, rfl, .inl (.inl upd_same), rfl, _, _, rfl, _, _, rfl, rfl, ?_⟩
      obtain ⟨dx, hdx, hDx⟩ := hus.nth hx
      rw [firstBad_step hdx] at hbd
      have fx := hDx.keep (Tp.same sm3)
      have hf := firstBad_none n0 dx (List.mem_of_getElem? hdx)
      clear hDx hx
      generalize upd H' T (.tup [.int (i : Nat), x]) = H3 at sm3 fx
      obtain ⟨wd, rs, n, m, rfl, hnm, hlen, hnum⟩ := hasF_open hf
      obtain ⟨a, xs, rfl, qa, r⟩ : ∃ a xs, x = .ref a ∧ SqT K H3 a xs ∧ DpAll K H3 xs (.str wd :: rs) := by
        cases fx.2 with
        | tup qa r => exact ⟨_, _, rfl, qa, r⟩
      obtain ⟨ys, rfl, rr⟩ : ∃ ys, xs = .str wd :: ys ∧ DpAll K H3 ys rs := by
        cases r with
        | cons r0 rr => cases r0; exact ⟨_, rfl, rr⟩
      have hk3 := Tp.same (K := K) sm3 _ _ hk1
      have pass : inOk (ks.length : Nat) (.tuple (.str wd :: rs)) = true → (∃ z3 z4 z5 z6 z7 : Option V, [some (V.ref ka), some v, some (.ref l), some (V.int (i : Nat)), some (V.ref a), y5, y6, y7] = [some (V.ref ka), some v, some (.ref l), z3, z4, z5, z6, z7]) ∧ Same H1 H3 ∧ firstBad (inOk (ks.length : Nat)) (knD d) 0 = firstBad (inOk (ks.length : Nat)) ((knD d).drop (i + 1)) (i + 1) := fun nk => by
        rw [nk] at hbd
        exact ⟨⟨_, _, _, _, _, rfl⟩, sm3, hbd⟩
      have fail : inOk (ks.length : Nat) (.tuple (.str wd :: rs)) = false → [V.str "input", V.int (i : Nat)].length ≤ sizeLine ∧ ∀ p, H3 p = none → Q (.ref p) (upd H3 p (.tup [V.str "input", V.int (i : Nat)])) := fun nk => by
        rw [nk] at hbd
        refine ⟨(by show 2 ≤ sizeLine; decide), fun p hp => q _ _ ((s1.trans sm3).trans (same_new hp)) ?_⟩
        have z : wrongV ks d = .tuple [.str "input", .int ((i : Nat) : Int)] := by
          unfold wrongV
          rw [wrong_input n0 hbd]
        rw [z]
        exact fd_tup upd_same (.cons (.str _) (.cons (.int _) .nil)) rfl
      refine ⟨_, rfl, a, _, 0, _, rfl, rfl, qa, at_of (j := 0) rfl rfl, rfl, _, rfl, ite2 (fun c => ?_) (fun c => ?_)⟩
      · have ew : wd = "in" := V.str.inj (of_decide_eq_true c)
        subst ew
        obtain ⟨k, rs', rfl⟩ := hnum (by rw [nn_in hnm]; decide)
        obtain ⟨ys', rfl⟩ : ∃ ys', ys = .int k :: ys' := by
          cases rr with
          | cons r0 rr => cases r0; exact ⟨_, rfl⟩
        have hio : inOk (ks.length : Nat) (.tuple (.str "in" :: .int k :: rs')) = decide (0 ≤ k ∧ k < (ks.length : Nat)) := by simp [inOk]
        refine ⟨_, rfl, a, _, 1, .int k, rfl, rfl, qa, at_of (j := 1) rfl rfl, _, _, rfl, rfl, _, rfl, ite2 (fun c1 => ?_) (fun c1 => ?_)⟩
        · have k0 : k < 0 := of_decide_eq_true c1
          refine iteY rfl ⟨_, rfl, fail ?_⟩
          rw [hio]
          exact decide_eq_false fun x => by omega
        · have k0 : ¬ k < 0 := fun z => c1 (decide_eq_true z)
          refine ⟨_, rfl, a, _, 1, .int k, rfl, rfl, qa, at_of (j := 1) rfl rfl, _, rfl, ka, _, rfl, .inr hk3, _, _, rfl, rfl, _, rfl, ite2 (fun c2 => ?_) (fun c2 => ?_)⟩
          · have z : k ≥ (((kVs ks).length : Nat) : Int) := of_decide_eq_true c2
            rw [klen] at z
            refine ⟨_, rfl, fail ?_⟩
            rw [hio]
            exact decide_eq_false fun x => by omega
          · have z : ¬ k ≥ (((kVs ks).length : Nat) : Int) := fun y => c2 (decide_eq_true y)
            rw [klen] at z
            refine pass ?_
            rw [hio]
            exact decide_eq_true ⟨by omega, by omega⟩
      · have nw : ¬ wd = "in" := fun z => c (decide_eq_true (by rw [z]))
        refine iteF (pass ?_)
        cases rs with
        | nil => rfl
        | cons a b =>
          cases a with
          | int k => exact if_neg nw
          | _ => rfl
    · rintro σ H4 ⟨⟨y3, y4, y5, y6, y7, rfl⟩, sm4, hbd⟩
      have n1 : firstBad (inOk (ks.length : Nat)) (knD d) 0 = none := by
        rw [hbd, List.drop_eq_nil_of_le (by rw [hus.len]; exact Nat.le_refl _)]
        rfl
      obtain ⟨ed, hin⟩ := is_pg n0 n1
      have wk := wrong_kind n0 n1
      have hats : Ats K H1 us (kn (pgOf d)) := by
        have z := hus.2
        rw [(congrArg knD ed).trans (knD_enc _)] at z
        exact z
      have hdp : dep (pgOf d) ≤ N := by
        have z := dep_depD (pgOf d)
        rw [← ed] at z
        omega
      have hsz' : (kn (pgOf d)).length ≤ 10000 := by
        have z := congrArg List.length ((congrArg knD ed).trans (knD_enc _))
        rw [List.length_map] at z
        omega
      generalize pgOf d = p at hats hin wk hdp hsz'
      -- kinds
      refine ⟨_, rfl, l, us, rfl, SqL.of (sm4 _ _ hl), for_enumL (K := K) (xs := us) (fun i σ H' => (∃ y3 y4 y5 y6 y7 : Option V, σ = [some (V.ref ka), some v, some (.ref l), y3, y4, y5, y6, y7]) ∧ Same H1 H' ∧ fbP (fits ks) (kn p) 0 = fbP (fits ks) ((kn p).drop i) i) ?_ ?_ ?_ ?_⟩
      · exact ⟨⟨_, _, _, _, _, rfl⟩, sm4, by rw [List.drop_zero]⟩
      · rintro i σ H' ⟨_, sm, _⟩
        exact SqL.of (sm _ _ hl)
      · rintro i x σ H' T hx ⟨⟨y3, y4, y5, y6, y7, rfl⟩, sm, hbd⟩ hT
        have sm5 := sm.trans (same_new (o := .tup [.int (i : Nat), x]) hT)
        refine ⟨T, _, rfl, .inl (.inl upd_same), rfl, _, _, rfl, _, _, rfl, rfl, ?_⟩
        obtain ⟨r, hr1, har⟩ := hats.get i x hx
        rw [fbP_step hr1] at hbd
        have hrm := List.mem_of_getElem? hr1
        have ax := har.keep (Tp.same sm5)
        generalize upd H' T (.tup [.int (i : Nat), x]) = H5 at sm5 ax
        have drp := kn_dep p r hrm
        -- own_here
        refine ⟨_, rfl, x, enc r, rfl, ax.fd, hasF_enc r, fun t ps H6 s6 ht hps => ?_⟩
        have hps' : Ats K H6 ps (parts r) := by
          have z := hps.2
          rw [partsD_enc] at z
          exact z
        have sm6 := sm5.trans s6
        refine ⟨t, rfl, ⟨_, .inl (.inl ht)⟩, fun D hD => lc_tup (K := K) (a := t) (xs := ps) (fun j H7 => Same H6 H7 ∧ H7 D = some (.lst (kids ks ((parts r).take j)))) ?_ ?_ ?_ ?_⟩
        · exact ⟨same_new hD, upd_same⟩
        · rintro j H7 _ ⟨s7, _⟩
          exact .inl (.inl (s7 _ _ ht))
        · rintro j y H7 hy ⟨s7, hD7⟩
          obtain ⟨r2, hr2, har2⟩ := (hps'.keep (Tp.same s7)).get j y hy
          have hmem := List.mem_of_getElem? hr2
          have d1 := dep_part r r2 hmem
          refine ⟨rfl, _, rfl, _, rfl, ka, ks, y, r2, rfl, Tp.same (sm6.trans s7) _ _ hk1, har2, fun z hz => hin z (kn_trans p r z hrm (kn_part hmem hz)), by omega, fun H8 s8 => ?_⟩
          refine ⟨_, s8 _ _ hD7, ?_, fun b o z => ?_, ?_⟩
          · unfold kids
            rw [List.length_map, List.length_take]
            have : (parts r).length ≤ 3 := by cases r <;> simp [parts]
            exact smallL (by omega)
          · rw [upd_ne (ne_of_none z hD)]
            exact s8 _ _ (s7 b o z)
          · rw [upd_same, List.take_add_one, hr2]
            unfold kids
            rw [List.map_append]
            rfl
        rintro H7 ⟨s7, hD7⟩
        rw [hps'.len, List.take_length] at hD7
        have sm7 := sm6.trans s7
        have ax7 := ax.keep (Tp.same (s6.trans s7))
        clear hps' hps ht s7 hD sm6 s6
        obtain ⟨a, vs, rfl, ha, hvs⟩ := ax7.open
        have kl : (kids ks (parts r)).length = (parts r).length := List.length_map _
        have pl : (parts r).length ≤ 3 := by cases r <;> simp [parts]
        have rep : ∀ (x : V) (k : Int), k = (((kids ks (parts r)).length : Nat) : Int) → (List.replicate k.toNat [x]).flatten = List.replicate (parts r).length x := fun x k e => by
          rw [e, Int.toNat_natCast, kl, rep_flat]
        refine ⟨(by show 1 ≤ sizeLine; decide), fun q1 hq1 => ?_⟩
        have s8 := same_new (o := .lst [.str "truth"]) hq1
        refine ⟨_, rfl, D, _, rfl, .inl (SqL.of (s8 _ _ hD7)), q1, _, _, rfl, rfl, upd_same, by omega, by omega, ?_, fun e1 he1 => ?_⟩
        · rw [Int.toNat_natCast, kl]
          exact small (by simp; omega)
        rw [rep _ _ rfl]
        have s9 := s8.trans (same_new (o := .lst (List.replicate (parts r).length (.str "truth"))) he1)
        have he9 : (upd (upd H7 q1 (.lst [.str "truth"])) e1 (.lst (List.replicate (parts r).length (.str "truth")))) e1 = some (.lst (List.replicate (parts r).length (.str "truth"))) := upd_same
        generalize upd (upd H7 q1 (.lst [.str "truth"])) e1 (.lst (List.replicate (parts r).length (.str "truth"))) = H9 at s9 he9
        -- which
        refine ⟨fun σ' H' => ∃ dl : Addr, σ' = [some (V.ref ka), some v, some (.ref l), some (.int (i : Nat)), some (.ref a), some (.ref D), some (.ref dl), y7] ∧ Same H7 H' ∧ H' dl = some (.lst (List.replicate (parts r).length (.str (kS (argK r))))), ?_, ?_⟩
        · refine ⟨_, rfl, a, _, 0, _, rfl, rfl, Tp.same s9 _ _ ha, at_word r vs, (by show 4 ≤ sizeLine; decide), fun t ht => ⟨t, _, rfl, .inr (.inl (.inl upd_same)), rfl, rfl, _, rfl, ?_⟩⟩
          have sA := same_new (o := .tup [.str "plus", .str "least", .str "most", .str "atmost"]) ht
          show if inV (.str (word r)) [.str "plus", .str "least", .str "most", .str "atmost"] = true then _ else _
          rw [in_arg]
          refine ite2 (fun z => ?_) (fun z => ?_)
          · have ez : argK r = false := by simpa using z
            generalize upd H9 t (.tup [.str "plus", .str "least", .str "most", .str "atmost"]) = HA at sA
            refine ⟨(by show 1 ≤ sizeLine; decide), fun q2 hq2 => ?_⟩
            have sB := same_new (o := .lst [.str "num"]) hq2
            refine ⟨_, rfl, D, _, rfl, .inl (SqL.of ((s9.trans (sA.trans sB)) _ _ hD7)), q2, _, _, rfl, rfl, upd_same, by omega, by omega, ?_, fun e2 he2 => ?_⟩
            · rw [Int.toNat_natCast, kl]
              exact small (by simp; omega)
            rw [rep _ _ rfl]
            refine ⟨e2, rfl, (s9.trans (sA.trans sB)).trans (same_new he2), ?_⟩
            rw [upd_same, ez]
            rfl
          · have ez : argK r = true := by simpa using z
            refine ⟨e1, rfl, s9.trans sA, ?_⟩
            rw [sA _ _ he9, ez]
            rfl
        rintro _ HA ⟨dl, rfl, sA, hdl⟩
        refine ⟨fun σ' H' => ∃ (dl : Addr) (dv : List V) (ds es : List PyData), σ' = [some (V.ref ka), some v, some (.ref l), some (.int (i : Nat)), some (.ref a), some (.ref D), some (.ref dl), y7] ∧ Same H7 H' ∧ H' dl = some (.lst dv) ∧ DpAll K H' (kids ks (parts r)) ds ∧ DpAll K H' dv es ∧ SeqAt.shaped (.list ds) = true ∧ SeqAt.shaped (.list es) = true ∧ PyData.eqv (.list ds) (.list es) = fits ks r, ?_, ?_⟩
        · refine ⟨_, rfl, a, _, 0, _, rfl, rfl, Tp.same sA _ _ ha, at_word r vs, rfl, _, rfl, ite2 (fun z => ?_) (fun z => ?_)⟩
          · have z' : V.str (word r) = V.str "if" := of_decide_eq_true z
            obtain ⟨r0, r1, r2, rfl⟩ := word_if z'
            refine ⟨_, rfl, D, _, 1, _, rfl, rfl, SqL.of (sA _ _ hD7), rfl, _, rfl, D, _, 1, _, rfl, rfl, SqL.of (sA _ _ hD7), rfl, (by show 3 ≤ sizeLine; decide), fun g hg => ?_⟩
            refine ⟨g, _, [kD (own ks r0), kD (own ks r1), kD (own ks r2)], [kD true, kD (own ks r1), kD (own ks r1)], rfl, sA.trans (same_new hg), upd_same, .cons (.str _) (.cons (.str _) (.cons (.str _) .nil)), .cons (.str _) (.cons (.str _) (.cons (.str _) .nil)), shl3 _ _ _, shl3 _ _ _, ?_⟩
            rw [eqvl3]
            rfl
          · have fin : ∀ ds es : List PyData, DpAll K HA (kids ks (parts r)) ds → DpAll K HA (List.replicate (parts r).length (.str (kS (argK r)))) es → SeqAt.shaped (.list ds) = true → SeqAt.shaped (.list es) = true → PyData.eqv (.list ds) (.list es) = fits ks r → ∃ (dl' : Addr) (dv : List V) (ds es : List PyData), [some (V.ref ka), some v, some (.ref l), some (.int (i : Nat)), some (.ref a), some (.ref D), some (.ref dl), y7] = [some (V.ref ka), some v, some (.ref l), some (.int (i : Nat)), some (.ref a), some (.ref D), some (.ref dl'), y7] ∧ Same H7 HA ∧ HA dl' = some (.lst dv) ∧ DpAll K HA (kids ks (parts r)) ds ∧ DpAll K HA dv es ∧ SeqAt.shaped (.list ds) = true ∧ SeqAt.shaped (.list es) = true ∧ PyData.eqv (.list ds) (.list es) = fits ks r := fun ds es b1 b2 b3 b4 b5 => ⟨dl, _, ds, es, rfl, sA, hdl, b1, b2, b3, b4, b5⟩
            cases r with
            | inp k => exact fin [] [] .nil .nil shl0 shl0 eqvl0
            | num k => exact fin [] [] .nil .nil shl0 shl0 eqvl0
            | tr k => exact fin [] [] .nil .nil shl0 shl0 eqvl0
            | plus c b => exact fin [kD (own ks b)] [kD false] (.cons (.str _) .nil) (.cons (.str _) .nil) (shl1 _) (shl1 _) (eqvl1 _ _)
            | bin bw b c => exact fin [kD (own ks b), kD (own ks c)] [kD bw.arg, kD bw.arg] (.cons (.str _) (.cons (.str _) .nil)) (.cons (.str _) (.cons (.str _) .nil)) (shl2 _ _) (shl2 _ _) (eqvl2 _ _ _ _)
            | neg b => exact fin [kD (own ks b)] [kD true] (.cons (.str _) .nil) (.cons (.str _) .nil) (shl1 _) (shl1 _) (eqvl1 _ _)
            | ite r0 r1 r2 => exact absurd (decide_eq_true rfl) z
        rintro _ HB ⟨dl, dv, ds, es, rfl, sB, hdl, hds, hes, sh1, sh2, he⟩
        refine ⟨_, rfl, _, rfl, .list ds, .list es, .lst (SqL.of (sB _ _ hD7)) hds, .lst (SqL.of hdl) hes, sh1, sh2, _, rfl, ?_⟩
        show if (!PyData.eqv (.list ds) (.list es)) = true then _ else _
        rw [he]
        refine ite2 (fun c => ?_) (fun c => ?_)
        · have nk : fits ks r = false := by simpa using c
          rw [nk] at hbd
          refine ⟨_, rfl, (by show 2 ≤ sizeLine; decide), fun p2 hp2 => q _ _ ((s1.trans (sm7.trans sB)).trans (same_new hp2)) ?_⟩
          have z : wrongV ks d = .tuple [.str "kind", .int ((i : Nat) : Int)] := by
            unfold wrongV
            rw [wk, hbd]
            rfl
          rw [z]
          exact fd_tup upd_same (.cons (.str _) (.cons (.int _) .nil)) rfl
        · have nk : fits ks r = true := by simpa using c
          rw [nk] at hbd
          exact ⟨⟨_, _, _, _, _, rfl⟩, sm7.trans sB, hbd⟩
      · rintro σ H5 ⟨⟨y3, y4, y5, y6, y7, rfl⟩, sm5, hbd⟩
        have n2 : fbP (fits ks) (kn p) 0 = none := by
          rw [hbd, List.drop_eq_nil_of_le (by rw [hats.len]; exact Nat.le_refl _)]
          rfl
        have z : wrongV ks d = .none := by
          unfold wrongV
          rw [wk, n2]
          rfl
        refine q _ _ (s1.trans sm5) ?_
        rw [z]
        exact ⟨rfl, .non⟩
end
end Lm

set_option Elab.async false
set_option linter.all false
set_option maxRecDepth 100000
set_option maxHeartbeats 2000000
namespace Lm
open PySem PySem.Spec PyProof.Rows L2 LmR
/-! ### displays of data, read as data -/
def FdL (K : PySem.W.Frag) (H : Hp) (vs : List V) (ds : List PyData) : Prop := flat.flats ds = true ∧ DpAll K H vs ds
theorem FdL.keep {K : PySem.W.Frag} {H H' : Hp} {vs : List V} {ds : List PyData} (h : FdL K H vs ds) (t : Tp K H H') : FdL K H' vs ds := ⟨h.1, dps_keep t ds vs h.1 h.2⟩
theorem dpall_len' {K : PySem.W.Frag} {H : Hp} : ∀ {vs : List V} {ds : List PyData}, DpAll K H vs ds → vs.length = ds.length
  | [], [], _ => rfl
  | v :: vs, d :: ds, h => by
    cases h with
    | cons a b => rw [List.length_cons, List.length_cons, dpall_len' b]
  | [], d :: ds, h => by cases h
  | v :: vs, [], h => by cases h
abbrev PrD := L2.St → Hp → PyData → Prop
abbrev PrL := L2.St → Hp → List PyData → Prop
def tFd (K : PySem.W.Frag) (p : PrD) : TE := fun σ H Q => ∃ d, p σ H d ∧ ∀ v H', Same H H' → Fd K H' v d → Q v H'
def tFds (K : PySem.W.Frag) (p : PrL) : TA := fun σ H Q => ∃ ds, p σ H ds ∧ ∀ vs H', Same H H' → FdL K H' vs ds → Q vs H'
def tFl (K : PySem.W.Frag) (p : PrL) : TE := fun σ H Q => ∃ ds, ds.length ≤ 1000 ∧ p σ H ds ∧ ∀ l us H', Same H H' → H l = none → H' l = some (.lst us) → FdL K H' us ds → Q (.ref l) H'
structure PFd (X : Cx) (e : Expr) (p : PrD) : Prop where
  pe : PE X e (tFd X.K p)
  up : ∀ σ H H' d, Same H H' → p σ H d → p σ H' d
structure PFs (X : Cx) (es : List Expr) (p : PrL) : Prop where
  pa : PA X es (tFds X.K p)
  up : ∀ σ H H' ds, Same H H' → p σ H ds → p σ H' ds
section
variable {X : Cx} {e : Expr} {es : List Expr} {te te' : TE} {ta ta' : TA} {p : PrD} {ps : PrL} {pos : Pos}
theorem pe_weak (h : PE X e te) (w : ∀ σ H Q, te' σ H Q → te σ H Q) : PE X e te' := ⟨fun pins s σ H Q I hq => h.run pins s σ H Q I (w σ H Q hq)⟩
theorem pa_weak (h : PA X es ta) (w : ∀ σ H Q, ta' σ H Q → ta σ H Q) : PA X es ta' := ⟨fun pos pins s σ H Q I hq => h.run pos pins s σ H Q I (w σ H Q hq)⟩
theorem fd_of (h : PE X e te) (w : ∀ σ H Q, tFd X.K p σ H Q → te σ H Q) (up : ∀ σ H H' d, Same H H' → p σ H d → p σ H' d) : PFd X e p := ⟨pe_weak h w, up⟩
theorem fd_str {x j} : PFd X (.Constant (.str x) j pos) (fun _ _ d => d = .str x) := fd_of pe_str (fun σ H Q ⟨d, e, k⟩ => by subst e; exact k _ _ (Same.refl _) ⟨rfl, .str _⟩) fun _ _ _ _ _ h => h
theorem fd_int {x j} : PFd X (.Constant (.int x) j pos) (fun _ _ d => d = .int x) := fd_of pe_int (fun σ H Q ⟨d, e, k⟩ => by subst e; exact k _ _ (Same.refl _) ⟨rfl, .int _⟩) fun _ _ _ _ _ h => h
theorem fd_bl {x j} : PFd X (.Constant (.bool x) j pos) (fun _ _ d => d = .bool x) := fd_of pe_bl (fun σ H Q ⟨d, e, k⟩ => by subst e; exact k _ _ (Same.refl _) ⟨rfl, .bl _⟩) fun _ _ _ _ _ h => h
theorem fd_non {j} : PFd X (.Constant .none j pos) (fun _ _ d => d = .none) := fd_of pe_non (fun σ H Q ⟨d, e, k⟩ => by subst e; exact k _ _ (Same.refl _) ⟨rfl, .non⟩) fun _ _ _ _ _ h => h
theorem fd_var (i : Nat) {x : Str} (hN : X.N[i]? = some x := by rfl) (hv : Vis X.env.scope x := by first | exact Or.inl rfl | exact Or.inr (Or.inl rfl) | exact Or.inr (Or.inr rfl)) (hd : (x == ("__debug__" : Str)) = false := by decide)
    (hcd : (x == ("__classdict__" : Str)) = false := by decide) : PFd X (.Name x pos) (fun σ H d => ∃ v, σ[i]? = some (some v) ∧ Fd X.K H v d) :=
  fd_of (pe_var hN hv hd hcd) (fun σ H Q ⟨d, ⟨v, e, h⟩, k⟩ => ⟨v, e, k _ _ (Same.refl _) h⟩) fun _ _ _ _ s ⟨v, e, h⟩ => ⟨v, e, h.keep (Tp.same s)⟩
theorem fd_nil : PFs X [] (fun _ _ ds => ds = []) := ⟨pa_weak pa_nil fun σ H Q ⟨ds, e, k⟩ => by subst e; exact k [] H (Same.refl _) ⟨rfl, .nil⟩, fun _ _ _ _ _ h => h⟩
theorem fd_cons (h : PFd X e p) (hs : PFs X es ps) (hst : starEach (e :: es) X.env = (false, eval e X.env) :: starEach es X.env := by rfl) : PFs X (e :: es) (fun σ H ds => ∃ d ds', ds = d :: ds' ∧ p σ H d ∧ ps σ H ds') := by
  refine ⟨pa_weak (pa_cons h.pe hs.pa hst) fun σ H Q ⟨ds, ⟨d, ds', e, h1, h2⟩, k⟩ => ?_, fun σ H H' ds s ⟨d, ds', e, h1, h2⟩ => ⟨d, ds', e, h.up σ H H' d s h1, hs.up σ H H' ds' s h2⟩⟩
  subst e
  refine ⟨d, h1, fun v H1 s1 hv => ⟨ds', hs.up σ H H1 ds' s1 h2, fun vs H2 s2 hvs => k (v :: vs) H2 (s1.trans s2) ⟨?_, .cons (hv.keep (Tp.same s2)).2 hvs.2⟩⟩⟩
  rw [flat.flats, hv.1, hvs.1]
  rfl
theorem fd_tupE {x1} (h : PFs X es ps) : PFd X (.Tuple es x1 pos) (fun σ H d => ∃ ds, d = .tuple ds ∧ ds.length ≤ 1000 ∧ ps σ H ds) := by
  refine ⟨pe_weak (pe_tup h.pa) fun σ H Q ⟨d, ⟨ds, e, hl, h1⟩, k⟩ => ?_, fun σ H H' d s ⟨ds, e, hl, h1⟩ => ⟨ds, e, hl, h.up σ H H' ds s h1⟩⟩
  subst e
  refine ⟨ds, h1, fun vs H1 s1 hv => ⟨by rw [dpall_len' hv.2]; exact small (by omega), fun q hq => ?_⟩⟩
  have s2 : Same H1 (upd H1 q (.tup vs)) := same_new hq
  exact k _ _ (s1.trans s2) ⟨hv.1, .tup (.inl (.inl upd_same)) (hv.keep (Tp.same s2)).2⟩
theorem fd_lst (h : PFs X es ps) : PE X (.List es pos) (tFl X.K ps) := by
  refine pe_weak (pe_lst h.pa) fun σ H Q ⟨ds, hl, h1, k⟩ => ?_
  refine ⟨ds, h1, fun vs H1 s1 hv => ⟨by rw [dpall_len' hv.2]; exact small (by omega), fun q hq => ?_⟩⟩
  have s2 : Same H1 (upd H1 q (.lst vs)) := same_new hq
  have q0 : H q = none := by
    cases e : H q with
    | none => rfl
    | some o => rw [s1 _ _ e] at hq; cases hq
  exact k q vs _ (s1.trans s2) q0 upd_same (hv.keep (Tp.same s2))
/-- a number by an expression that writes nothing -/
theorem fd_num (h : PE X e te) (f : L2.St → Hp → Int → Prop) (w : ∀ σ H Q i, f σ H i → Q (.int i) H → te σ H Q) (up : ∀ σ H H' i, Same H H' → f σ H i → f σ H' i) : PFd X e (fun σ H d => ∃ i, d = .int i ∧ f σ H i) :=
  fd_of h (fun σ H Q ⟨d, ⟨i, e, hf⟩, k⟩ => w σ H Q i hf (k _ _ (Same.refl _) ⟨by rw [e]; rfl, by rw [e]; exact .int _⟩)) fun σ H H' d s ⟨i, e, hf⟩ => ⟨i, e, up σ H H' i s hf⟩
end
end Lm

set_option Elab.async false
set_option linter.all false
set_option maxRecDepth 100000
set_option maxHeartbeats 2000000
namespace Lm
open PySem PySem.Spec PyProof.Rows L2 LmR
/-! ### data all of whose words are known -/
def okD (bad : List Str) : PyData → Prop
  | .tuple xs => wordOk bad (.tuple xs) ∧ okL xs
  | _ => True
where okL : List PyData → Prop
  | [] => True
  | d :: ds => okD bad d ∧ okL ds
theorem okL_mem {bad : List Str} : ∀ {ds : List PyData}, okD.okL bad ds → ∀ d ∈ ds, okD bad d
  | e :: ds, h, d, hd => by
    rw [okD.okL] at h
    rcases List.mem_cons.mp hd with z | z
    · rw [z]; exact h.1
    · exact okL_mem h.2 d z
theorem okL_of {bad : List Str} : ∀ {ds : List PyData}, (∀ d ∈ ds, okD bad d) → okD.okL bad ds
  | [], _ => by rw [okD.okL]; trivial
  | d :: ds, h => by rw [okD.okL]; exact ⟨h d List.mem_cons_self, okL_of fun x hx => h x (List.mem_cons_of_mem _ hx)⟩
theorem okD_word {bad : List Str} {d : PyData} (h : okD bad d) : wordOk bad d := by
  cases d with
  | tuple xs => rw [okD] at h; exact h.1
  | _ => trivial
theorem okD_list {bad : List Str} {xs : List PyData} (h : okD bad (.tuple xs)) : ∀ x ∈ xs, okD bad x := by
  rw [okD] at h
  exact okL_mem h.2
theorem okD_part {bad : List Str} {d x : PyData} (h : okD bad d) (hx : x ∈ partsD d) : okD bad x := by
  cases d with
  | tuple xs => exact okD_list h x (List.mem_of_mem_drop hx)
  | _ => cases hx
theorem dszs_drop' : ∀ (n : Nat) (ds : List PyData), dsz.dszs (ds.drop n) ≤ dsz.dszs ds
  | 0, _ => Nat.le_refl _
  | n + 1, [] => Nat.le_refl _
  | n + 1, d :: ds => by
    have := dszs_drop' n ds
    simp only [List.drop_succ_cons, dsz.dszs]
    omega
theorem dsz_parts {d : PyData} (h : hasF d = true) : dsz.dszs (partsD d) + 1 ≤ dsz d := by
  obtain ⟨w, rs, n, m, rfl, _⟩ := hasF_open h
  have z := dszs_drop' (skipD (.str w :: rs)) (.str w :: rs)
  show dsz.dszs ((PyData.str w :: rs).drop (skipD (.str w :: rs))) + 1 ≤ 1 + dsz.dszs (.str w :: rs)
  omega
theorem knDs_mem {ds : List PyData} {x : PyData} (h : x ∈ knDs ds) : ∃ y ∈ ds, x ∈ knD y := by
  unfold knDs at h
  obtain ⟨l, hl, hx⟩ := List.mem_flatten.mp h
  obtain ⟨y, hy, rfl⟩ := List.mem_map.mp hl
  exact ⟨y, hy, hx⟩
theorem knDs_le : ∀ ds : List PyData, (∀ y ∈ ds, (knD y).length ≤ dsz y) → (knDs ds).length ≤ dsz.dszs ds
  | [], _ => by simp [knDs]
  | d :: ds, h => by
    have h1 := h d List.mem_cons_self
    have h2 := knDs_le ds fun y hy => h y (List.mem_cons_of_mem _ hy)
    have e : knDs (d :: ds) = knD d ++ knDs ds := by simp [knDs]
    rw [e, List.length_append, dsz.dszs]
    omega
theorem knD_all {bad : List Str} : ∀ (n : Nat) (d : PyData), dsz d ≤ n → okD bad d → (∀ x ∈ knD d, okD bad x ∧ dsz x ≤ dsz d) ∧ (knD d).length ≤ dsz d
  | 0, d, hn, _ => by have := dsz_pos d; omega
  | n + 1, d, hn, ok => by
    by_cases c : hasF d = true
    · have z := dsz_parts c
      have ih : ∀ y ∈ partsD d, (∀ x ∈ knD y, okD bad x ∧ dsz x ≤ dsz y) ∧ (knD y).length ≤ dsz y := fun y hy => knD_all n y (by have := dsz_mem _ _ hy; omega) (okD_part ok hy)
      rw [knD_eq c]
      refine ⟨fun x hx => ?_, ?_⟩
      · rcases List.mem_cons.mp hx with e | e
        · rw [e]; exact ⟨ok, Nat.le_refl _⟩
        · obtain ⟨y, hy, hx⟩ := knDs_mem e
          have a := (ih y hy).1 x hx
          have b := dsz_mem _ _ hy
          exact ⟨a.1, by omega⟩
      · have a := knDs_le (partsD d) fun y hy => (ih y hy).2
        rw [List.length_cons]
        omega
    · rw [knD_ne c]
      refine ⟨fun x hx => ?_, dsz_pos d⟩
      rw [List.mem_singleton.mp hx]
      exact ⟨ok, Nat.le_refl _⟩
theorem kn_good {bad : List Str} {d : PyData} (ok : okD bad d) (hz : dsz d ≤ 10000) : (knD d).length ≤ 10000 ∧ ∀ x ∈ knD d, wordOk bad x ∧ dsz x ≤ 90000 := by
  have z := knD_all _ d (Nat.le_refl _) ok
  exact ⟨by omega, fun x hx => ⟨okD_word (z.1 x hx).1, by have := (z.1 x hx).2; omega⟩⟩
theorem okD_enc {bad : List Str} : ∀ p : Pg, okD bad (enc p)
  | .inp k => by simp only [enc, okD, okD.okL, wordOk]; exact ⟨.inl rfl, trivial, trivial, trivial⟩
  | .num k => by simp only [enc, okD, okD.okL, wordOk]; exact ⟨.inl rfl, trivial, trivial, trivial⟩
  | .tr b => by
    simp only [enc, okD, okD.okL, wordOk]
    refine ⟨.inl ?_, trivial, trivial⟩
    cases b <;> rfl
  | .plus c a => by
    have := okD_enc (bad := bad) a
    simp only [enc, okD, okD.okL, wordOk]
    exact ⟨.inl rfl, trivial, trivial, this, trivial⟩
  | .bin w a b => by
    have h1 := okD_enc (bad := bad) a
    have h2 := okD_enc (bad := bad) b
    simp only [enc, okD, okD.okL, wordOk]
    refine ⟨.inl ?_, trivial, h1, h2, trivial⟩
    cases w <;> rfl
  | .neg a => by
    have := okD_enc (bad := bad) a
    simp only [enc, okD, okD.okL, wordOk]
    exact ⟨.inl rfl, trivial, this, trivial⟩
  | .ite p a b => by
    have h1 := okD_enc (bad := bad) a
    have h2 := okD_enc (bad := bad) b
    have h3 := okD_enc (bad := bad) p
    simp only [enc, okD, okD.okL, wordOk]
    exact ⟨.inl rfl, trivial, h3, h1, h2, trivial⟩
theorem depD_enc : ∀ p : Pg, depD (enc p) ≤ dep p + 1
  | .inp _ => by simp [enc, depD, depD.depL, dep]
  | .num _ => by simp [enc, depD, depD.depL, dep]
  | .tr _ => by simp [enc, depD, depD.depL, dep]
  | .plus c a => by have := depD_enc a; simp only [enc, depD, depD.depL, dep]; omega
  | .bin w a b => by have := depD_enc a; have := depD_enc b; simp only [enc, depD, depD.depL, dep]; omega
  | .neg a => by have := depD_enc a; simp only [enc, depD, depD.depL, dep]; omega
  | .ite p a b => by have := depD_enc a; have := depD_enc b; have := depD_enc p; simp only [enc, depD, depD.depL, dep]; omega
theorem depL_app : ∀ ds es : List PyData, depD.depL (ds ++ es) = max (depD.depL ds) (depD.depL es)
  | [], es => by simp [depD.depL]
  | d :: ds, es => by
    show max (depD d) (depD.depL (ds ++ es)) = max (max (depD d) (depD.depL ds)) (depD.depL es)
    rw [depL_app ds es]
    omega
/-! ### slices and sums of tuples, whichever object they are -/
section
variable {P : Program} {w : World} {K : PySem.W.Frag} {mg : Str → Option Value} {base : Heap}
theorem cutV_all {xs : List V} {lo hi : Option Int} (h : HT.sIx xs.length 0 lo = 0 ∧ HT.sIx xs.length xs.length hi = xs.length) : cutV xs lo hi = xs := by
  unfold cutV
  rw [h.1, h.2, List.drop_zero, Nat.sub_zero, List.take_length]
theorem slA_any {a : Addr} {xs : List V} {lo hi : Option Int} {H : Hp} {Q : VK} (ha : SqT K H a xs) (q : ∀ p H', Same H H' → SqT K H' p (cutV xs lo hi) → Q (.ref p) H') : rSlA K (.ref a) lo hi H Q :=
  ⟨a, xs, rfl, ha, fun h => q a H (fun _ _ z => z) (by rw [cutV_all h]; exact ha), fun _ p hp => q p _ (same_new hp) (.inl (.inl upd_same))⟩
theorem catA_any {a b : Addr} {xs ys : List V} {H : Hp} {Q : VK} (ha : SqT K H a xs) (hb : SqT K H b ys) (hz : xs.length + ys.length ≤ sizeLine) (q : ∀ p H', Same H H' → SqT K H' p (xs ++ ys) → Q (.ref p) H') : rCatA K (.ref a) (.ref b) H Q :=
  ⟨a, b, xs, ys, rfl, rfl, ha, hb, hz, fun e => q b H (fun _ _ z => z) (by rw [e]; exact hb), fun _ e => q a H (fun _ _ z => z) (by rw [e, List.append_nil]; exact ha), fun _ _ p hp => q p _ (same_new hp) (.inl (.inl upd_same))⟩
theorem dpall_take {H : Hp} : ∀ (n : Nat) {xs : List V} {ds : List PyData}, DpAll K H xs ds → DpAll K H (xs.take n) (ds.take n)
  | 0, _, _, _ => .nil
  | n + 1, [], [], .nil => .nil
  | n + 1, _ :: _, _ :: _, .cons a r => .cons a (dpall_take n r)
theorem flats_take : ∀ (n : Nat) (ds : List PyData), flat.flats ds = true → flat.flats (ds.take n) = true
  | 0, _, _ => rfl
  | n + 1, [], _ => rfl
  | n + 1, d :: ds, h => by
    rw [flat.flats, Bool.and_eq_true] at h
    rw [List.take_succ_cons, flat.flats, h.1, flats_take n ds h.2]
    rfl
theorem cut_take (n : Nat) (xs : List V) (h : n ≤ xs.length) : cutV xs none (some (n : Int)) = xs.take n := by
  unfold cutV
  rw [HT.sIx_none, show HT.sIx xs.length xs.length (some (n : Int)) = min n xs.length from HT.sIx_nat _ _ n, List.drop_zero, Nat.sub_zero]
  congr 1
  omega
/-! ### replaced -/
def cr (dn : PyData) (c : Int) : Nat := if 0 ≤ c then dsz dn else 0
/-! ### due_kind -/
abbrev s_l_due_kind : Stmt := topS 61
theorem sc_l_due_kind : FnScope ["_law_kinds", "_law_program", "_law_wrong_here"] ["_law_kinds", "_law_program"] (defScope s_l_due_kind) := ⟨rfl, rfl, rfl, by decide +kernel, rfl, by decide +kernel, by decide +kernel⟩
def spDue (K : PySem.W.Frag) (bad : List Str) (N : Nat) : Sp := fun vs H Q _ => ∃ (ka : Addr) (ks : List Bool) (v : V) (d : PyData), vs = [.ref ka, v] ∧ SqT K H ka (kVs ks) ∧ Fd K H v d ∧ okD bad d ∧ dsz d ≤ 10000 ∧ depD d ≤ N ∧ ∀ u H', Same H H' → Fd K H' u (dueD ks d) → Q u H'
theorem wrong_none {ks : List Bool} {d : PyData} (h : wrongD ks d = none) : d = enc (pgOf d) ∧ ∀ x ∈ kn (pgOf d), In0 ks.length x := by
  cases h0 : firstBad hasF (knD d) 0 with
  | some n => rw [wrong_form h0] at h; cases h
  | none =>
    cases h1 : firstBad (inOk (ks.length : Nat)) (knD d) 0 with
    | some n => rw [wrong_input h0 h1] at h; cases h
    | none => exact is_pg h0 h1
theorem ok_l_due {bad : List Str} {N : Nat} (C_l_wrong : Cal P w K mg base (N + 2) "_law_wrong" ["_law_kinds", "_law_program"] (spWrong K bad N)) (C_l_own : Cal P w K mg base (N + 1) "_law_own" ["_law_kinds", "_law_knot"] (spLOA K N)) (D : DefAt K mg "_law_due_kind" s_l_due_kind ["_law_kinds", "_law_program"]) : Cal P w K mg base (N + 3) "_law_due_kind" ["_law_kinds", "_law_program"] (spDue K bad N) := by
  refine cal_of D sc_l_due_kind (fun vs H Q E h => ?_) (fun f cdv A outer s H vs Q E hr h => ?_)
  · obtain ⟨ka, ks, v, d, rfl, _⟩ := h
    rfl
  obtain ⟨ka, ks, v, d, rfl, hk, hv, okd, hz, hdep, q⟩ := h
  have C_l_own := C_l_own.mono (k := N + 2) (by omega)
  have hr' : Room (N + 2) _ := hr
  refine ⟨_, (pss_cons (ps_set (i := 2) sc_l_due_kind.nd rfl (.inl rfl) (pe_cal C_l_wrong hr' (by rfl) (pa_cons (pv 0) (pa_cons (pv 1) pa_nil))))
      (pss_cons (ps_if (pt_cmpR op_isN (pv 2) pe_non (nomark _))
        (pss_one (ps_ret (pe_tup (pa_cons pe_str (pa_cons (pe_cal C_l_own hr' (by rfl) (pa_cons (pv 0) (pa_cons (pv 1) pa_nil))) pa_nil)))))
        pss_nil)
      (pss_one (ps_ret (pe_op op_catA (pe_tup (pa_cons pe_str pa_nil)) (pv 2)))))), ?_⟩
  obtain ⟨g1, g2⟩ := kn_good okd hz
  refine ⟨_, rfl, _, rfl, ka, ks, v, d, rfl, hk, hv, hdep, g1, g2, fun u H1 s1 hu => ?_⟩
  cases hw : wrongD ks d with
  | none =>
    have e : wrongV ks d = .none := by unfold wrongV; rw [hw]
    rw [e] at hu
    cases hu.2
    obtain ⟨ed, hin⟩ := wrong_none hw
    have av : At K H v (pgOf d) := by
      have z := hv.2
      rw [ed] at z
      exact z
    have dp : dep (pgOf d) ≤ N := by
      have z := dep_depD (pgOf d)
      rw [← ed] at z
      omega
    refine ⟨_, rfl, rfl, _, rfl, iteY rfl ?_⟩
    refine ⟨_, rfl, _, rfl, ka, ks, v, pgOf d, rfl, Tp.same s1 _ _ hk, av.keep (Tp.same s1), hin, dp, fun H2 s2 => ⟨(by show 2 ≤ sizeLine; decide), fun t ht => ?_⟩⟩
    refine q _ _ ((s1.trans s2).trans (same_new ht)) ?_
    rw [due_none hw]
    exact fd_tup upd_same (.cons (.str _) (.cons (.str _) .nil)) rfl
  | some xn =>
    obtain ⟨x, n⟩ := xn
    have e : wrongV ks d = .tuple [.str x, .int (n : Nat)] := by unfold wrongV; rw [hw]
    rw [e] at hu
    obtain ⟨b, rfl, qb⟩ : ∃ b, u = .ref b ∧ SqT K H1 b [.str x, .int (n : Nat)] := by
      cases hu.2 with
      | tup qa r =>
        cases r with
        | cons r1 r =>
          cases r with
          | cons r2 r =>
            cases r
            cases r1
            cases r2
            exact ⟨_, rfl, qa⟩
    refine ⟨_, rfl, rfl, _, rfl, iteF ?_⟩
    refine ⟨(by show 1 ≤ sizeLine; decide), fun t ht => ⟨_, rfl, ?_⟩⟩
    have s2 := same_new (o := .tup [.str "no program"]) ht
    refine catA_any (xs := [.str "no program"]) (ys := [.str x, .int (n : Nat)]) (.inl (.inl upd_same)) (Tp.same s2 _ _ qb) (by show 3 ≤ sizeLine; decide) fun pp H3 s3 q3 => ?_
    refine q _ _ (s1.trans (s2.trans s3)) ?_
    rw [due_some hw]
    exact ⟨rfl, .tup q3 (.cons (.str _) (.cons (.str _) (.cons (.int _) .nil)))⟩
end
end Lm

set_option Elab.async false
set_option linter.all false
set_option maxRecDepth 100000
set_option maxHeartbeats 2000000
namespace Lm
open PySem PySem.Spec PyProof.Rows L2 LmR
def GB (bad : List Str) (d : PyData) : Prop := okD bad d ∧ dsz d ≤ 30 ∧ depD d ≤ 4
section
variable {bad : List Str} {d : PyData} {ds : List PyData}
theorem okT (h : wordOk bad (.tuple ds)) (hs : okD.okL bad ds) : okD bad (.tuple ds) := by rw [okD]; exact ⟨h, hs⟩
theorem okN : okD.okL bad [] := by rw [okD.okL]; trivial
theorem okC (h : okD bad d) (hs : okD.okL bad ds) : okD.okL bad (d :: ds) := by rw [okD.okL]; exact ⟨h, hs⟩
theorem okI {i : Int} : okD bad (.int i) := by simp [okD]
theorem okS {i : Str} : okD bad (.str i) := by simp [okD]
theorem okB {i : Bool} : okD bad (.bool i) := by simp [okD]
theorem okNo : okD bad .none := by simp [okD]
theorem gb_nil : ∀ x ∈ ([] : List PyData), GB bad x := fun x hx => by cases hx
theorem gb_cons (h : GB bad d) (hs : ∀ x ∈ ds, GB bad x) : ∀ x ∈ d :: ds, GB bad x := fun x hx => by
  rcases List.mem_cons.mp hx with e | e
  · rw [e]; exact h
  · exact hs x e
theorem gb_app {es : List PyData} (h : ∀ x ∈ ds, GB bad x) (hs : ∀ x ∈ es, GB bad x) : ∀ x ∈ ds ++ es, GB bad x := fun x hx => by
  rcases List.mem_append.mp hx with e | e
  · exact h x e
  · exact hs x e
end
section
variable {P : Program} {w : World} {K : PySem.W.Frag} {mg : Str → Option Value} {base : Heap}
theorem Gr.same {f : Addr} {H H' : Hp} (fl : Flow H f) (s : Same H H') : Gr [] f H H' := ⟨Ex.of_same s, by
  obtain ⟨x, y, z, e, r⟩ := fl
  exact ⟨x, y, z, s _ _ e, r⟩⟩
theorem Gr.nf {f : Addr} {H H' : Hp} (g : Gr [] f H H') {D : Addr} (h : H' D = none) : D ≠ f := fun z => by
  obtain ⟨xs, e⟩ := g.fl.lst
  rw [z, e] at h
  cases h
theorem Flow.nf {f : Addr} {H : Hp} (g : Flow H f) {D : Addr} (h : H D = none) : D ≠ f := fun z => by
  obtain ⟨xs, e⟩ := g.lst
  rw [z, e] at h
  cases h
/-- so many things in a list, all good -/
def Bag (K : PySem.W.Frag) (bad : List Str) (H : Hp) (l : Addr) (n : Nat) : Prop := ∃ us ds, H l = some (.lst us) ∧ FdL K H us ds ∧ ds.length = n ∧ ∀ x ∈ ds, GB bad x
theorem Bag.len {bad : List Str} {H : Hp} {l : Addr} {n : Nat} {us : List V} (h : Bag K bad H l n) (e : H l = some (.lst us)) : us.length = n := by
  obtain ⟨us', ds, e', h, hl, _⟩ := h
  rw [e] at e'
  cases e'
  rw [dpall_len h.2, hl]
theorem bag_cat {bad : List Str} {H : Hp} {l1 l2 : Addr} {n m : Nat} {Q : VK} (h1 : Bag K bad H l1 n) (h2 : Bag K bad H l2 m) (hz : n + m ≤ 1000) (q : ∀ p H', Same H H' → Bag K bad H' p (n + m) → Q (.ref p) H') :
    rCat (.ref l1) (.ref l2) H Q := by
  have k1 := h1
  have k2 := h2
  obtain ⟨us, ds, e1, f1, hl1, g1⟩ := h1
  obtain ⟨vs, es, e2, f2, hl2, g2⟩ := h2
  refine ⟨l1, l2, us, vs, rfl, rfl, e1, e2, by rw [k1.len e1, k2.len e2]; exact small (by omega), fun p hp => q p _ (same_new hp) ⟨us ++ vs, ds ++ es, upd_same, ?_, by rw [List.length_append]; omega, gb_app g1 g2⟩⟩
  have f1' := f1.keep (Tp.new (K := K) (o := .lst (us ++ vs)) hp)
  have f2' := f2.keep (Tp.new (K := K) (o := .lst (us ++ vs)) hp)
  exact ⟨flats_app ds es f1'.1 f2'.1, dpall_app f1'.2 f2'.2⟩
theorem Bag.same {bad : List Str} {H H' : Hp} {l : Addr} {n : Nat} (h : Bag K bad H l n) (s : Same H H') : Bag K bad H' l n := by
  obtain ⟨us, ds, e, f, hl, g⟩ := h
  exact ⟨us, ds, s _ _ e, f.keep (Tp.same s), hl, g⟩
theorem bag_get {bad : List Str} {H : Hp} {l : Addr} {n : Nat} {i : Int} (h : Bag K bad H l n) (h0 : 0 ≤ i) (h1 : i < n) : ∃ us u d, H l = some (.lst us) ∧ atI us i = some u ∧ Fd K H u d ∧ GB bad d := by
  have k := h
  obtain ⟨us, ds, e, f, hl, g⟩ := h
  have ul := k.len e
  have hi : i.toNat < us.length := by omega
  obtain ⟨d, hd, hD⟩ := dpall_get f.2 i.toNat _ (List.getElem?_eq_getElem hi)
  exact ⟨us, us[i.toNat], d, e, at_of (j := i.toNat) (by omega) (List.getElem?_eq_getElem hi), ⟨flats_nth ds f.1 _ d hd, hD⟩, g d (List.mem_of_getElem? hd)⟩
end
end Lm

set_option Elab.async false
set_option linter.all false
set_option maxRecDepth 100000
set_option maxHeartbeats 2000000
namespace Lm
open PySem PySem.Spec PyProof.Rows L2 LmR
theorem call_isiK {X : Cx} {K : PySem.W.Frag} (h : X.K = K) : CallR X (.builtin "isinstance") (rIsi K) := h ▸ call_isi
theorem walk_enumT {K : PySem.W.Frag} {a : Addr} {xs : List V} : Walk (IteT K a) xs.length (fun H => SqT K H a xs) (YPair (fun i => some (.int (i : Nat))) (fun i => xs[i]?)) := by
  refine ⟨fun i H hi q => ⟨xs, xs[i], q, by simp [hi]⟩, fun H q => ⟨xs, q, Nat.le_refl _⟩, fun i H x H' hi q y => ?_⟩
  obtain ⟨T, z, h1, h2, h3, h4⟩ := y
  exact ⟨T, _, z, h1, h2, h3, rfl, h4 xs q⟩
end Lm

set_option Elab.async false
set_option linter.all false
set_option maxRecDepth 100000
set_option maxHeartbeats 2000000
namespace Lm
open PySem PySem.Spec PyProof.Rows L2 LmR
/-! ### defs with a parameter that is written by its name, or left out -/
def DefKw (K : PySem.W.Frag) (mg : Str → Option Value) (x : Str) (st : Stmt) (ps : List Str) (n : Nat) (ks : List Str) (dvs : List V) : Prop :=
  ∃ f fd, Fun K x x st f fd ∧ mg x = some (.ref f) ∧ KBn K fd ps n ks (fun us ws => us ++ ws) (fun us ws => us ++ ws) ∧ ∃ ds, Vals dvs ds ∧ Binds K fd ps ds
def CalKw (P : Program) (w : World) (K : PySem.W.Frag) (mg : Str → Option Value) (base : Heap) (k : Nat) (x : Str) (ps : List Str) (n : Nat) (ks : List Str) (dvs : List V) (sp : Sp) : Prop :=
  ∃ f fd, FnOk P w K mg base CX0 k f fd ps sp ∧ mg x = some (.ref f) ∧ PySem.W.keepIn K (.ref f) = true ∧ KBn K fd ps n ks (fun us ws => us ++ ws) (fun us ws => us ++ ws) ∧ (∃ ds, Vals dvs ds ∧ Binds K fd ps ds) ∧ ∃ st, Fun K x x st f fd
section
variable {P : Program} {w : World} {K : PySem.W.Frag} {mg : Str → Option Value} {base : Heap}
theorem CalKw.mono {j k : Nat} {x : Str} {ps : List Str} {n : Nat} {ks : List Str} {dvs : List V} {sp : Sp} (c : CalKw P w K mg base j x ps n ks dvs sp) (h : j ≤ k) : CalKw P w K mg base k x ps n ks dvs sp := by
  obtain ⟨f, fd, F, g⟩ := c
  exact ⟨f, fd, F.mono h, g⟩
theorem calkw_of {x : Str} {st : Stmt} {N ps : List Str} {k n : Nat} {ks : List Str} {dvs : List V} {sp : Sp} (D : DefKw K mg x st ps n ks dvs) (S : FnScope N ps (defScope st)) (len : ∀ vs H Q E, sp vs H Q E → vs.length = ps.length)
    (hbody : ∀ (f : Addr) (cdv : Value) (A : Around) (outer : List Env) (s : Shared) (H : Hp) (vs : List V) (Q : VK) (E : XK), Room k (A.deeper (envOfC x (defScope st) s.heap.objs.size f cdv)) → sp vs H Q E →
      ∃ t, PSs (cxOf CX0 P w K mg base N x (defScope st) f cdv A outer s H E).nox (defBody st) t ∧ t { nx := fun _ H' => Q .non H', rt := Q } (start N vs) H) : CalKw P w K mg base (k + 1) x ps n ks dvs sp := by
  obtain ⟨f, fd, F, g, b⟩ := D
  exact ⟨f, fd, F.ok S len (hbody f), g, F.kp, b.1, b.2, _, F⟩
end
/-- f(e, .., k = v) -/
theorem pe_calK {X : Cx} {k n : Nat} {x : Str} {ps ks : List Str} {dvs : List V} {sp : Sp} {e : Expr} {es : List Expr} {kws : List Keyword} {t tk : TA} {p pos : Pos} (C : CalKw X.prog X.w X.K X.mg X.base k x ps n ks dvs sp) (hr : Room k X.A) (hg : Gl X x) (ha : PA X (e :: es) t) (hkw : PK X kws tk)
    (hall : (backToKw pos (keywordEach kws X.env)).all (·.1.isSome) = true := by rfl) (hks : (backToKw pos (keywordEach kws X.env)).filterMap (·.1) = ks := by rfl) (hdb : (x == ("__debug__" : Str)) = false := by decide) (he : starEach (e :: es) X.env = (false, eval e X.env) :: starEach es X.env := by rfl)
    (hpl : ((backTo pos (starEach (e :: es) X.env)).any (·.1) || (backToKw pos (keywordEach kws X.env)).any (·.1.isNone)) = false := by rfl) :
    PE X (.Call (.Name x p) (e :: es) kws pos) (tCallN n ks.length sp (fun us ws => us ++ ws) (fun _ _ _ => False) t tk) := by
  obtain ⟨f, fd, F, g, kp, b, _⟩ := C
  exact pe_callN F hr hg g kp b pass0 ha hkw hall hks hdb he hpl
/-- f(e, ..), what is written by its name left out -/
theorem pe_calD {X : Cx} {k n : Nat} {x : Str} {ps ks : List Str} {dvs : List V} {sp : Sp} {e : Expr} {es : List Expr} {t : TA} {p pos : Pos} (C : CalKw X.prog X.w X.K X.mg X.base k x ps n ks dvs sp) (hr : Room k X.A) (hg : Gl X x) (ha : PA X (e :: es) t)
    (hdb : (x == ("__debug__" : Str)) = false := by decide) (he : starEach (e :: es) X.env = (false, eval e X.env) :: starEach es X.env := by rfl) (hpl : (backTo pos (starEach es X.env)).any (·.1) = false := by rfl) :
    PE X (.Call (.Name x p) (e :: es) [] pos) (tCall sp dvs (fun _ _ _ => False) t) := by
  obtain ⟨f, fd, F, g, kp, _, ⟨ds, hd, b⟩, _⟩ := C
  exact pe_call F hr hg g kp b hd pass0 ha hdb he hpl
/-- how a def of one parameter and one that may be left out binds -/
theorem defkw_mk {K : PySem.W.Frag} {h : Heap} {mg : Str → Option Value} {x y z : Str} {st : Stmt} {f D : Addr} {oc : Value} {od an : Option Addr} {osl : Array (Option Value)} {doc pm cdv ct u : Value} {v : V} (X : K.In h) (G : h.Ns mainGlobals mg)
    (a : PySem.W.nsIn K mainGlobals x = some (some (.ref f))) (l : K.lookup f = some ⟨oc, od, .func (PySem.W.fnOf x x (defArgs st) (defBody st) (defScope st) .none (.ref D) doc pm an cdv ct), osl⟩) (c : PySem.W.codeIn K cdv x = true) (k : PySem.W.keepIn K (.ref f) = true)
    (d : PySem.W.nsIn K D z = some (some u)) (r : RelV v u)
    (hb : ∀ (doc pm : Value) (an : Option Addr) (cdv ct u w : Value), bindArgs (PySem.W.fnOf x x (defArgs st) (defBody st) (defScope st) .none (.ref D) doc pm an cdv ct) ⟨[u], [(z, w)]⟩ = pure [(y, u), (z, w)])
    (hd : ∀ (doc pm : Value) (an : Option Addr) (cdv ct u w : Value), KwChain D [(z, w)] (bindArgs (PySem.W.fnOf x x (defArgs st) (defBody st) (defScope st) .none (.ref D) doc pm an cdv ct) ⟨[u], []⟩) [(y, u), (z, w)]) : DefKw K mg x st [y, z] 1 [z] [v] := by
  refine ⟨f, _, fun_mk l c k, PySem.W.mg_of X G a, ⟨fun s us ws _ l1 l2 => ?_, fun r1 r2 => r1.append r2⟩, [u], .cons r .nil, fun s us X' hl => ?_⟩
  · match us, ws, l1, l2 with
    | [u'], [w'], _, _ => exact .of_eq (hb _ _ _ _ _ u' w')
  · have l1 : us.length = 1 := by simpa using hl
    match us, l1 with
    | [u'], _ => exact BindsTo.of_looks fun M => KwChain.looks X' (fun q hq => by rw [List.mem_singleton.mp hq]; exact d) (hd _ _ _ _ _ u' u)
end Lm

set_option Elab.async false
set_option linter.all false
namespace Lm
open PySem PySem.Spec PyProof.Rows L2 LmR
/-- a < b of data of a Lean type -/
def rLtDat (α : Type) [DecidableEq α] [PySem.W.DatumOrd α] (K : PySem.W.Frag) : R2 := fun x y H Q => ∃ a b : α, Dp K H x (PySem.W.Datum.toD a) ∧ Dp K H y (PySem.W.Datum.toD b) ∧ Q (.bl (PySem.W.DatumOrd.lt a b)) H
theorem op_ltDat {X : Cx} {α : Type} [DecidableEq α] [PySem.W.DatumOrd α] (hu : X.A.units + PySem.W.Datum.depth α < cLine) : OpR X (compareOp .Lt) (rLtDat α X.K) := by
  intro pins s σ H x y v u Q I rx ry h
  obtain ⟨a, b, ha, hb, q⟩ := h
  exact PySem.W.lt_datum (x := a) (y := b) (Dp.reads I _ x v ha rx) (Dp.reads I _ y u hb ry) hu ⟨.bl _, H, I, rfl, q⟩
end Lm

set_option Elab.async false
set_option linter.all false
set_option maxRecDepth 100000
namespace Lm
open PySem PySem.Spec PyProof.Rows L2 LmR
mutual
theorem dp_same {K : PySem.W.Frag} {H H' : Hp} (s : Same H H') : ∀ (d : PyData) (v : V), Dp K H v d → Dp K H' v d
  | .none, _, h => by cases h; exact .non
  | .bool b, _, h => by cases h; exact .bl b
  | .int i, _, h => by cases h; exact .int i
  | .str x, _, h => by cases h; exact .str x
  | .list ds, _, h => by
    cases h with
    | lst q r => exact .lst (s.seq q) (dps_same s ds _ r)
  | .tuple ds, _, h => by
    cases h with
    | tup q r => exact .tup (Tp.same s _ _ q) (dps_same s ds _ r)
  | .dict ds, _, h => by cases h
theorem dps_same {K : PySem.W.Frag} {H H' : Hp} (s : Same H H') : ∀ (ds : List PyData) (vs : List V), DpAll K H vs ds → DpAll K H' vs ds
  | [], _, h => by cases h; exact .nil
  | d :: ds, _, h => by
    cases h with
    | cons a b => exact .cons (dp_same s d _ a) (dps_same s ds _ b)
end
theorem defkw_mk2 {K : PySem.W.Frag} {h : Heap} {mg : Str → Option Value} {x y1 y2 z : Str} {st : Stmt} {f D : Addr} {oc : Value} {od an : Option Addr} {osl : Array (Option Value)} {doc pm cdv ct u : Value} {v : V} (X : K.In h) (G : h.Ns mainGlobals mg)
    (a : PySem.W.nsIn K mainGlobals x = some (some (.ref f))) (l : K.lookup f = some ⟨oc, od, .func (PySem.W.fnOf x x (defArgs st) (defBody st) (defScope st) .none (.ref D) doc pm an cdv ct), osl⟩) (c : PySem.W.codeIn K cdv x = true) (k : PySem.W.keepIn K (.ref f) = true)
    (d : PySem.W.nsIn K D z = some (some u)) (r : RelV v u)
    (hb : ∀ (doc pm : Value) (an : Option Addr) (cdv ct u1 u2 w : Value), bindArgs (PySem.W.fnOf x x (defArgs st) (defBody st) (defScope st) .none (.ref D) doc pm an cdv ct) ⟨[u1, u2], [(z, w)]⟩ = pure [(y1, u1), (y2, u2), (z, w)])
    (hd : ∀ (doc pm : Value) (an : Option Addr) (cdv ct u1 u2 w : Value), KwChain D [(z, w)] (bindArgs (PySem.W.fnOf x x (defArgs st) (defBody st) (defScope st) .none (.ref D) doc pm an cdv ct) ⟨[u1, u2], []⟩) [(y1, u1), (y2, u2), (z, w)]) : DefKw K mg x st [y1, y2, z] 2 [z] [v] := by
  refine ⟨f, _, fun_mk l c k, PySem.W.mg_of X G a, ⟨fun s us ws _ l1 l2 => ?_, fun r1 r2 => r1.append r2⟩, [u], .cons r .nil, fun s us X' hl => ?_⟩
  · match us, ws, l1, l2 with
    | [u1, u2], [w'], _, _ => exact .of_eq (hb _ _ _ _ _ u1 u2 w')
  · have l1 : us.length = 2 := by simpa using hl
    match us, l1 with
    | [u1, u2], _ => exact BindsTo.of_looks fun M => KwChain.looks X' (fun q hq => by rw [List.mem_singleton.mp hq]; exact d) (hd _ _ _ _ _ u1 u2 u)
end Lm

set_option Elab.async false
set_option linter.all false
set_option maxRecDepth 100000
namespace Lm
open PySem PySem.Spec PyProof.Rows L2 LmR
/-! ### calls by names alone: ks the names as they are written, the parameters the other way about, dvs what is left out -/
def CalN (P : Program) (w : World) (K : PySem.W.Frag) (mg : Str → Option Value) (base : Heap) (k : Nat) (x : Str) (ps ks : List Str) (dvs : List V) (sp : Sp) : Prop :=
  ∃ f fd, FnOk P w K mg base CX0 k f fd ps sp ∧ mg x = some (.ref f) ∧ PySem.W.keepIn K (.ref f) = true ∧ ∃ dus : List Value, KBn K fd ps 0 ks (fun _ ws => ws.reverse ++ dus) (fun _ zs => zs.reverse ++ dvs)
def DefN (K : PySem.W.Frag) (mg : Str → Option Value) (x : Str) (st : Stmt) (ps ks : List Str) (dvs : List V) : Prop :=
  ∃ f fd, Fun K x x st f fd ∧ mg x = some (.ref f) ∧ ∃ dus : List Value, KBn K fd ps 0 ks (fun _ ws => ws.reverse ++ dus) (fun _ zs => zs.reverse ++ dvs)
theorem fun_one {K : PySem.W.Frag} {x q x' q' : Str} {st st' : Stmt} {f : Addr} {fd fd' : FuncData} (F : Fun K x q st f fd) (G : Fun K x' q' st' f fd') : fd = fd' := by
  obtain ⟨oc, od, kV, doc, pm, an, cdv, ct, osl, _, lk, _⟩ := F.ex
  obtain ⟨oc', od', kV', doc', pm', an', cdv', ct', osl', _, lk', _⟩ := G.ex
  rw [lk] at lk'
  have e := Option.some.inj lk'
  injection e with _ _ e _
  injection e
section
variable {P : Program} {w : World} {K : PySem.W.Frag} {mg : Str → Option Value} {base : Heap}
theorem Cal.named {k : Nat} {x : Str} {st : Stmt} {ps ks : List Str} {dvs : List V} {sp : Sp} (C : Cal P w K mg base k x ps sp) (D : DefN K mg x st ps ks dvs) : CalN P w K mg base k x ps ks dvs sp := by
  obtain ⟨f, fd, F, g, kp, b, st', G⟩ := C
  obtain ⟨f', fd', G', g', hk⟩ := D
  rw [g] at g'
  have e : f = f' := by injection g' with e; injection e
  subst e
  have e := fun_one G G'
  subst e
  exact ⟨f, fd, F, g, kp, hk⟩
theorem CalKw.named {k n : Nat} {x : Str} {st : Stmt} {ps ks ks' : List Str} {dvs dvs' : List V} {sp : Sp} (C : CalKw P w K mg base k x ps n ks' dvs' sp) (D : DefN K mg x st ps ks dvs) : CalN P w K mg base k x ps ks dvs sp := by
  obtain ⟨f, fd, F, g, kp, _, _, st', G⟩ := C
  obtain ⟨f', fd', G', g', hk⟩ := D
  rw [g] at g'
  have e : f = f' := by injection g' with e; injection e
  subst e
  have e := fun_one G G'
  subst e
  exact ⟨f, fd, F, g, kp, hk⟩
theorem CalN.mono {j k : Nat} {x : Str} {ps ks : List Str} {dvs : List V} {sp : Sp} (c : CalN P w K mg base j x ps ks dvs sp) (h : j ≤ k) : CalN P w K mg base k x ps ks dvs sp := by
  obtain ⟨f, fd, F, g⟩ := c
  exact ⟨f, fd, F.mono h, g⟩
end
/-- f(k = v, ..) -/
theorem pe_calN {X : Cx} {k : Nat} {x : Str} {ps ks : List Str} {dvs : List V} {sp : Sp} {kws : List Keyword} {tk : TA} {p pos : Pos} (C : CalN X.prog X.w X.K X.mg X.base k x ps ks dvs sp) (hr : Room k X.A) (hg : Gl X x) (hkw : PK X kws tk)
    (hall : (backToKw pos (keywordEach kws X.env)).all (·.1.isSome) = true := by rfl) (hks : (backToKw pos (keywordEach kws X.env)).filterMap (·.1) = ks := by rfl) (hdb : (x == ("__debug__" : Str)) = false := by decide)
    (hpl : ((backTo pos (starEach [] X.env)).any (·.1) || (backToKw pos (keywordEach kws X.env)).any (·.1.isNone)) = false := by rfl) :
    PE X (.Call (.Name x p) [] kws pos) (tCallN 0 ks.length sp (fun _ zs => zs.reverse ++ dvs) (fun _ _ _ => False) tNil tk) := by
  obtain ⟨f, fd, F, g, kp, dus, b⟩ := C
  refine ⟨fun pins s σ H Q I h => ?_⟩
  refine wpAny_Call_Name_kw (ld_glob I hg g ?_ hdb)
  refine PySem.W.callWith_KW0 (h₀ := X.base) I.ok.mod.kin kp hall ?_ hpl
  refine thn (hkw.run pos pins s σ H _ I h) fun ws s2 ⟨zs, H2, I2, rz, l1, l2, q2⟩ => ⟨I2.kIn, ?_⟩
  rw [hks]
  exact run_fnN (us := []) (vs := []) F hr b pass0 I2 .nil rz rfl l2 q2
theorem vals_rev {vs : List V} {us : List Value} (h : Vals vs us) : Vals vs.reverse us.reverse := by
  induction h with
  | nil => exact .nil
  | cons a _ ih => rw [List.reverse_cons, List.reverse_cons]; exact ih.append (.cons a .nil)
theorem defn_mk {K : PySem.W.Frag} {h : Heap} {mg : Str → Option Value} {x : Str} {st : Stmt} {ps ks : List Str} {f : Addr} {oc : Value} {od an : Option Addr} {osl : Array (Option Value)} {kV doc pm cdv ct : Value} (X : K.In h) (G : h.Ns mainGlobals mg)
    (a : PySem.W.nsIn K mainGlobals x = some (some (.ref f))) (l : K.lookup f = some ⟨oc, od, .func (PySem.W.fnOf x x (defArgs st) (defBody st) (defScope st) .none kV doc pm an cdv ct), osl⟩) (c : PySem.W.codeIn K cdv x = true) (k : PySem.W.keepIn K (.ref f) = true)
    (hb : ∀ (kV doc pm : Value) (an : Option Addr) (cdv ct : Value) (ws : List Value), ws.length = ks.length → bindArgs (PySem.W.fnOf x x (defArgs st) (defBody st) (defScope st) .none kV doc pm an cdv ct) ⟨[], ks.zip ws⟩ = pure (ps.zip (ws.reverse ++ []))) : DefN K mg x st ps ks [] := by
  refine ⟨f, _, fun_mk l c k, PySem.W.mg_of X G a, [], ⟨fun s us ws _ l1 l2 => ?_, fun _ r2 => (vals_rev r2).append .nil⟩⟩
  have e : us = [] := List.eq_nil_of_length_eq_zero l1
  subst e
  exact .of_eq (hb _ _ _ _ _ _ ws l2)
theorem defn_mkD {K : PySem.W.Frag} {h : Heap} {mg : Str → Option Value} {x y z : Str} {st : Stmt} {f D : Addr} {oc : Value} {od an : Option Addr} {osl : Array (Option Value)} {doc pm cdv ct u : Value} {v : V} (X : K.In h) (G : h.Ns mainGlobals mg)
    (a : PySem.W.nsIn K mainGlobals x = some (some (.ref f))) (l : K.lookup f = some ⟨oc, od, .func (PySem.W.fnOf x x (defArgs st) (defBody st) (defScope st) .none (.ref D) doc pm an cdv ct), osl⟩) (c : PySem.W.codeIn K cdv x = true) (k : PySem.W.keepIn K (.ref f) = true)
    (d : PySem.W.nsIn K D z = some (some u)) (r : RelV v u)
    (hd : ∀ (doc pm : Value) (an : Option Addr) (cdv ct u w : Value), KwChain D [(z, w)] (bindArgs (PySem.W.fnOf x x (defArgs st) (defBody st) (defScope st) .none (.ref D) doc pm an cdv ct) ⟨[], [(y, u)]⟩) [(y, u), (z, w)]) : DefN K mg x st [y, z] [y] [v] := by
  refine ⟨f, _, fun_mk l c k, PySem.W.mg_of X G a, [u], ⟨fun s us ws X' l1 l2 => ?_, fun _ r2 => (vals_rev r2).append (.cons r .nil)⟩⟩
  have e : us = [] := List.eq_nil_of_length_eq_zero l1
  subst e
  match ws, l2 with
  | [w'], _ => exact BindsTo.of_looks fun M => KwChain.looks X' (fun q hq => by rw [List.mem_singleton.mp hq]; exact d) (hd _ _ _ _ _ w' u)
end Lm

set_option Elab.async false
set_option linter.all false
set_option maxRecDepth 100000
set_option maxHeartbeats 4000000
namespace Lm
open PySem PySem.Spec PyProof.Rows L2 LmR
/-! ### KeyError as a base of own classes -/
abbrev keT : List Value := [.type "KeyError", .type "LookupError",
  .type "Exception", .type "BaseException", .type "object"]
theorem ke_store : StoreFacts "KeyError" keT "object.__setattr__" "object" where
  mro := by kernel_rfl
  slot := PySem.Slot.of (owner := "object") (n := "__setattr__")
    (by rw [typeLookup_type, builtinLookup_eq_fast]; kernel_rfl)
    (by decide +kernel) (by decide +kernel) (by decide +kernel)
    (by first | exact .inl (by decide +kernel) | exact .inr (by decide +kernel)) (by rw [isSubtype_type]; kernel_rfl )
  entry := F.entry_object_sa
  kind := by decide +kernel
  split := by decide +kernel
  hasOwner := by decide +kernel
  args := fun x y z => by unfold argsOk; kernel_rfl
  passes := fun x => by kernel_rfl
/-! ### what makes an exception of an own class -/
structure NewF (B newId initId : String) (bm0 bmB : List Value) : Prop where
  F : ExcBaseFacts B newId initId bm0
  hB : bmB.contains (.type B) = true
  hA : bmB.contains (.type "AttributeError") = false
  hN : bmB.contains (.type "NameError") = false
theorem nf_VE : NewF "ValueError" "ValueError.__new__" "ValueError.__init__" HandSPX.veTail HandSPX.veTail :=
  ⟨F.excBase_ValueError, by decide +kernel, by decide +kernel, by decide +kernel⟩
abbrev leT : List Value := [.type "LookupError", .type "Exception",
  .type "BaseException", .type "object"]
abbrev ieT : List Value := [.type "IndexError", .type "LookupError",
  .type "Exception", .type "BaseException", .type "object"]
theorem nf_LE : NewF "LookupError" "LookupError.__new__" "LookupError.__init__" leT leT :=
  ⟨F.excBase_LookupError, by decide +kernel, by decide +kernel, by decide +kernel⟩
theorem nf_IE : NewF "IndexError" "IndexError.__new__" "IndexError.__init__" ieT ieT :=
  ⟨F.excBase_IndexError, by decide +kernel, by decide +kernel, by decide +kernel⟩
theorem nf_KE : NewF "LookupError" "LookupError.__new__" "LookupError.__init__" leT keT :=
  ⟨F.excBase_LookupError, by decide +kernel, by decide +kernel, by decide +kernel⟩
end Lm
namespace PySem
namespace LmX
open Builtin Builtin.ObjectAttr Lm
section
variable {M : Model} {A : Around} {E : Value → Shared → Prop} {h : Heap} {g : Array GenState} {d : Drawn} {t : Nat} {os : OsState}
variable {nm q : Str} {C N : Addr} {bs bm bm0 bmB : List Value} {hdct : Bool} {sn : List Str} {sub : List Value} {ab : Bool} {col : Option Bool} {dd : Option Addr} {k0 k1 k2 k3 k5 : Option Value} {B newId initId : String} {kws : List (Str × Value)}
theorem ck_newK (f : NewF B newId initId bm0 bmB) (hT : ∀ y : String, bm.contains (.type y) = bmB.contains (.type y)) {rest : List Value} {Q : Unit → Shared → Prop}
    (gC : h.get? C = some (excClassObj nm q C N bs bm hdct sn sub ab col dd k0 k1 k2 k3 k5 newId)) (hq : Q () ⟨h, g, d, t, os⟩) : wpAny M A (checkBuiltinCall newId ⟨.ref C :: rest, kws⟩) Q E ⟨h, g, d, t, os⟩ := by
  have hcont : (Value.ref C :: bm).contains (.type B) = true := by
    rw [List.contains_cons, hT, f.hB, Bool.or_true]
  have hstar := f.F.noStar
  simp only [checkBuiltinCall, f.F.newKind, f.F.newSplit, f.F.newRow]
  repeat (first
    | refine wpAny_loadPart_at gC ?_
    | (refine wpAny_isSubtype_exc gC ?_; rw [hcont])
    | refine wpAny_staticBase_exc gC ?_
    | refine wpAny_madeBy_exc gC ?_
    | simp only [bne_self_eq_false, Bool.false_eq_true, if_false]
    | wp_step)
  exact hq
theorem ck_callK {rest : List Value} {Q : Unit → Shared → Prop} (gC : h.get? C = some (excClassObj nm q C N bs bm hdct sn sub ab col dd k0 k1 k2 k3 k5 newId))
    (hq : Q () ⟨h, g, d, t, os⟩) : wpAny M A (checkBuiltinCall "type.__call__" ⟨.ref C :: rest, kws⟩) Q E ⟨h, g, d, t, os⟩ := by
  have f3 := tc_sub
  have gT : (⟨h, g, d, t, os⟩ : Shared).TypeIs (.ref C) "type" := ⟨_, gC, rfl⟩
  simp only [checkBuiltinCall, tc_kind, tc_split]
  repeat (any_goals (first
    | assumption
    | with_reducible refine wpAny_loadPart_at gC ?_
    | with_reducible refine wpAny_onRaise ?_
    | with_reducible refine wpAny_map ?_
    | wp_step))
end
section
variable {prog : Program} {w : World} {A : Around} {E : Value → Shared → Prop} {R : Result → Shared → Prop} {h : Heap} {g : Array GenState} {d : Drawn} {t : Nat} {os : OsState}
variable {nm q : Str} {C N : Addr} {bs bm bm0 bmB : List Value} {hdct : Bool} {sn : List Str} {sub : List Value} {ab : Bool} {col : Option Bool} {dd : Option Addr} {k0 k1 k2 k3 k5 : Option Value} {B newId initId : String} {kws : List (Str × Value)}
theorem nw_ownK (f : NewF B newId initId bm0 bmB) (hT : ∀ y : String, bm.contains (.type y) = bmB.contains (.type y)) {rest : List Value}
    (gC : h.get? C = some (excClassObj nm q C N bs bm hdct sn sub ab col dd k0 k1 k2 k3 k5 newId))
    (hq : R (.ok (.ret (.ref (h.objs.size + 1)))) ⟨(h.push (W.kdv_tup rest)).push (HandSPX.excO C h.objs.size), g, d, t, os⟩) (hrest : rest.length ≤ sizeLine) :
    codeAny (model prog w) A (.builtin newId ⟨.ref C :: rest, kws⟩) R ⟨h, g, d, t, os⟩ := by
  have hends := f.F.ends
  have b1 : (Value.ref C :: bm).contains (.type B) = true := by
    rw [List.contains_cons, hT, f.hB, Bool.or_true]
  have b2 : (Value.ref C :: bm).contains (.type "AttributeError") = false := by
    rw [List.contains_cons, hT, f.hA]; rfl
  have b3 : (Value.ref C :: bm).contains (.type "NameError") = false := by
    rw [List.contains_cons, hT, f.hN]; rfl
  refine codeAny_builtinAt f.F.entry ?_
  unfold Builtin.«BaseException.__new__»
  refine wpAt_bind ?_
  show wpAt _ _ _ (stack >>= _) _ _ _
  refine wpAt_bind (wpAt_stack fun p below => wpAt_of_wpAny ?_)
  wp_walk
  refine wpAt_of_wpAny ?_
  rw [f.F.owner]
  repeat (first
    | with_reducible refine wpAny_madeHere_exc f.F.canon gC ?_
    | with_reducible refine wpAny_loadPart_at gC ?_
    | (with_reducible refine wpAny_isSubtype_exc gC ?_; first | rw [b1] | rw [b2] | rw [b3])
    | wp_step)
  show R _ _
  rw [Heap.size_push]
  exact hq
theorem tc_ownK (f : NewF B newId initId bm0 bmB) (hT : ∀ y : String, bm.contains (.type y) = bmB.contains (.type y)) {rest : List Value} {fI : Addr} {Q : Fin → Shared → Prop}
    (gC : h.get? C = some (excClassObj nm q C N bs bm hdct sn sub ab col dd k0 k1 k2 k3 k5 newId))
    (hi : W.Looks (model prog w) h (typeLookup (.ref C) "__init__") (some (.ref fI))) (hb : ∀ self, W.Looks (model prog w) h (bindSpecial (.ref fI) self) (.ref fI, [self])) (hrest : rest.length ≤ sizeLine)
    (hq : codeAny (model prog w) A (.call (.ref fI) ⟨.ref (h.objs.size + 1) :: rest, kws⟩)
      (fun r s' => match r with | .ok (.ret v) => v = .none ∧ Q (.done (.ret (.ref (h.objs.size + 1)))) s' | .ok _ => False | .error e => E e s')
      ⟨(h.push (W.kdv_tup rest)).push (HandSPX.excO C h.objs.size), g, d, t, os⟩) :
    wpAny (model prog w) A (Builtin.«type.__call__» ⟨.ref C :: rest, kws⟩) Q E ⟨h, g, d, t, os⟩ := by
  repeat (first
    | with_reducible refine wpAny_loadPart_at gC ?_
    | with_reducible refine wpAny_madeBy_exc gC ?_
    | wp_step)
  refine codeAny_call_builtin_code (Code.quiet_builtin _ f.F.quiet) (ck_newK f hT gC ?_)
  refine nw_ownK f hT gC ?_ hrest
  show wpAny _ _ _ _ _ _
  have k : ∀ b o, h.get? b = some o → ((h.push (W.kdv_tup rest)).push (HandSPX.excO C h.objs.size)).get? b = some o := fun b o e =>
    Heap.get?_push_of_some _ (Heap.get?_push_of_some _ e)
  have gC1 := k _ _ gC
  have gE : ((h.push (W.kdv_tup rest)).push (HandSPX.excO C h.objs.size)).get? (h.objs.size + 1) = some (HandSPX.excO C h.objs.size) := by heap_get
  have cC : (Value.ref C :: bm).contains (.ref C) = true := by simp
  have i1 := hi.keeps k
  have b1 := (hb (.ref (h.objs.size + 1))).keeps k
  unfold isInstance
  repeat (first
    | with_reducible refine wpAny_loadPart_at gE ?_
    | (with_reducible refine wpAny_isSubtype_exc gC1 ?_; rw [cC])
    | wp_step)
  show wpAny _ _ (typeLookup (.ref C) _) _ _ _
  refine i1.at ?_
  refine wpAny_holding (wpAny_bind (b1.at ?_))
  refine wpAny_bind (wpAny_call (codeAny_mono hq fun r s' z => ?_))
  rcases r with e | (v | _ | _ | _) <;> first | exact z | exact z.elim | skip
  obtain ⟨rfl, z⟩ := z
  first
    | exact wpAny_pure (wpAny_pure z)
    | (wp_walk; exact z)
theorem call_ownK (f : NewF B newId initId bm0 bmB) (hT : ∀ y : String, bm.contains (.type y) = bmB.contains (.type y)) {rest : List Value} {fI : Addr}
    (gC : h.get? C = some (excClassObj nm q C N bs bm hdct sn sub ab col dd k0 k1 k2 k3 k5 newId))
    (hi : W.Looks (model prog w) h (typeLookup (.ref C) "__init__") (some (.ref fI))) (hb : ∀ self, W.Looks (model prog w) h (bindSpecial (.ref fI) self) (.ref fI, [self])) (hrest : rest.length ≤ sizeLine)
    (hq : codeAny (model prog w) (A.under (.builtin "type.__call__" ⟨.ref C :: rest, kws⟩)) (.call (.ref fI) ⟨.ref (h.objs.size + 1) :: rest, kws⟩) (W.InitBack (h.objs.size + 1) R)
      ⟨(h.push (W.kdv_tup rest)).push (HandSPX.excO C h.objs.size), g, d, t, os⟩) :
    codeAny (model prog w) A (.call (.ref C) ⟨rest, kws⟩) R ⟨h, g, d, t, os⟩ := by
  have f1 := tc_lookup
  have f2 := tc_bind (.ref C)
  have gT : (⟨h, g, d, t, os⟩ : Shared).TypeIs (.ref C) "type" := ⟨_, gC, rfl⟩
  refine codeAny_of_tree ?_
  show wpAny _ _ (callAny (.ref C) _) _ _ _
  repeat (any_goals (first
    | assumption
    | with_reducible refine wpAny_loadPart_at gC ?_
    | wp_step))
  refine ⟨rfl, ?_⟩
  refine codeAny_call_builtin_at (Code.quiet_builtin _ (by decide +kernel)) entry_typeCall (ck_callK gC (tc_ownK f hT gC hi hb hrest ?_))
  refine codeAny_mono hq fun r s' z => ?_
  rcases r with e | (v | _ | _ | _) <;> exact z
end
end LmX
end PySem

set_option Elab.async false
set_option linter.all false
set_option maxRecDepth 100000
set_option maxHeartbeats 4000000
namespace PySem
namespace LmX
open PySem.W PySem.Calls PyProof.Rows Builtin Builtin.ObjectAttr Lm
section
variable {prog : Program} {w : World} {A : Around} {R : Result → Shared → Prop} {h0 : Heap} {g : Array GenState} {d : Drawn} {t : Nat} {os : OsState}
/-- the first field of an exception of an own class -/
theorem keep_new {K : Frag} {B : String} {bmB : List Value} {name : Str} {tk : Tok} {v : Value} {x C : Addr} {fv : Array Value} {cd : ClassData} (SF : StoreFacts B bmB "object.__setattr__" "object") (KX : K.In h0)
    (gx : h0.get? x = some { cls := .ref C, data := .fields fv }) (ov : excOver K C bmB = true) (gc : clsIn K C = some cd) (gh : cd.hasDict = true) (gt : takerIn K C name = some none)
    (gq : ∀ h' tk' dx, (∀ b o, b ≠ x → h0.get? b = some o → h'.get? b = some o) → h0.objs.size ≤ dx → dx ≠ x → h'.get? x = some { cls := .ref C, dict := some dx, data := .fields fv } →
      h'.Ns1 dx (fun y => if y = name then some v else none) → R (.ok (.ret .none)) ⟨h', g, d, tk', os⟩) :
    codeAny (model prog w) A (.call (.builtin "object.__setattr__") ⟨[.ref x, .str name tk, v], []⟩) R ⟨h0, g, d, t, os⟩ := by
  have J : InstAt h0 x { cls := .ref C, data := .fields fv } C none := ⟨gx, rfl, rfl, trivial⟩
  have ne : x ≠ h0.objs.size := Nat.ne_of_lt (Heap.lt_size gx)
  have look : Looks (model prog w) h0 (classData C) cd := looks_clsIn KX gc
  refine osa_openX SF KX J ov gt fun b => ?_
  show wpAny _ _ (storeInOwnDict (.ref x) (.ref C) (.str name tk) name v b) _ _ _
  obtain ⟨nm, bs, mro, ns, qn, hd, sn, sb, ab, col, del⟩ := cd
  dsimp only at gh
  subst gh
  unfold storeInOwnDict ownDictForStores
  repeat (first
    | with_reducible refine HandSPX.store_in_new ?_ ?_
    | with_reducible refine wpAny_loadPart_at gx ?_
    | with_reducible refine look.at ?_
    | wp_step)
  · exact ⟨_, #[], _, (Heap.get?_update_ne _ _ _ _ ne.symm).trans (Heap.get?_push_at rfl rfl), rfl,
      fun e he => absurd he (by simp), fun _ => rfl⟩
  · intro h' tk' hn' hs
    have gx1 : (h0.push { cls := .type "dict", data := .dict #[] }).get? x = some { cls := .ref C, data := .fields fv } :=
      Heap.get?_push_of_some _ gx
    refine gq h' tk' h0.objs.size (fun b o hb ho => ?_) (Nat.le_refl _) ne.symm ?_ hn'
    · exact (hs.2 b (Nat.ne_of_lt (Heap.lt_size ho))).trans
        ((Heap.get?_update_ne _ _ _ _ hb).trans (Heap.get?_push_of_some _ ho))
    · exact (hs.2 x ne).trans (Heap.get?_update_self _ gx1 rfl)
/-- a further field -/
theorem keep_old {K : Frag} {B : String} {bmB : List Value} {name : Str} {tk : Tok} {v : Value} {x C dx : Addr} {fv : Array Value} {cd : ClassData} {m0 : Str → Option Value} {nl : List Str} (SF : StoreFacts B bmB "object.__setattr__" "object")
    (KX : K.In h0) (gx : h0.get? x = some { cls := .ref C, dict := some dx, data := .fields fv }) (gn : h0.Ns1 dx m0) (gw : Within m0 nl) (gz : nl.length ≤ 1000) (ov : excOver K C bmB = true) (gc : clsIn K C = some cd) (gh : cd.hasDict = true)
    (gt : takerIn K C name = some none)
    (gq : ∀ h' tk', (∀ b o, b ≠ dx → h0.get? b = some o → h'.get? b = some o) → h'.Ns1 dx (fun y => if y = name then some v else m0 y) → R (.ok (.ret .none)) ⟨h', g, d, tk', os⟩) :
    codeAny (model prog w) A (.call (.builtin "object.__setattr__") ⟨[.ref x, .str name tk, v], []⟩) R ⟨h0, g, d, t, os⟩ := by
  obtain ⟨oD, esD, epD, hoD, hdD, _⟩ := gn.count gw
  have J : InstAt h0 x { cls := .ref C, dict := some dx, data := .fields fv } C (some oD) := ⟨gx, rfl, rfl, hoD⟩
  have look : Looks (model prog w) h0 (classData C) cd := looks_clsIn KX gc
  refine osa_openX SF KX J ov gt fun b => ?_
  show wpAny _ _ (storeInOwnDict (.ref x) (.ref C) (.str name tk) name v b) _ _ _
  obtain ⟨nm, bs, mro, ns, qn, hd, sn, sb, ab, col, del⟩ := cd
  dsimp only at gh
  subst gh
  unfold storeInOwnDict ownDictForStores
  repeat (first
    | with_reducible refine PySem.OEX.store_in_old gn gw gz ?_
    | with_reducible refine wpAny_loadPart_at gx ?_
    | with_reducible refine look.at ?_
    | wp_step)
  intro h' tk' hn' hs
  exact gq h' tk' (fun b o hb ho => (hs.2 b hb).trans ho) hn'
end
end LmX
end PySem
namespace Lm
open PySem PySem.Spec PyProof.Rows L2 LmR
/-- what is known of an own class of exceptions, whatever it is over -/
structure OeC (K : PySem.W.Frag) (C : Addr) : Prop where
  ex : ∃ B newId initId bm0 bmB B', NewF B newId initId bm0 bmB ∧ StoreFacts B' bmB "object.__setattr__" "object" ∧ PySem.W.excInitIn K C bmB newId = true ∧ PySem.W.excOver K C bmB = true
  hd : PySem.W.hasDictIn K C = true
  sa : PySem.W.findIn K (.ref C) "__setattr__" = some (some (.builtin "object.__setattr__"))
  kC : PySem.W.keepIn K (.ref C) = true
theorem taker_no {K : PySem.W.Frag} {C : Addr} {f : Str} (h : PySem.W.findIn K (.ref C) f = some none) : PySem.W.takerIn K C f = some none := by
  unfold PySem.W.takerIn
  rw [h]
  rfl
section
variable {X : Cx} {pins : List (Addr × Obj)} {σ : L2.St} {H : Hp} {s : Shared} {a C dx : Addr} {f : Str} {y : V} {u : Value} {fs : List (Str × V)} {Q : Unit → Shared → Prop} {E : Value → Shared → Prop} {A : Around}
theorem ox_new (T : OeC X.K C) (I : Inv X pins σ H s) (e : H a = some (exo a C none)) (hno : PySem.W.findIn X.K (.ref C) f = some none) (ry : RelV y u)
    (h : ∀ dx s', H dx = none → dx ≠ a → Inv X pins σ (upd (upd H dx (exd dx [(f, y)])) a (exo a C (some dx))) s' → Q () s') : wpAny (model X.prog X.w) A (setAttr (.ref a) f u) Q E s := by
  obtain ⟨B, newId, initId, bm0, bmB, B', _, SF, _, ov⟩ := T.ex
  obtain ⟨cd, gc, gh⟩ := PySem.W.any_some T.hd
  obtain ⟨t1, ho⟩ := exo_at I.hok e
  obtain ⟨h0, g, d, t, os⟩ := s
  refine PySem.W.set_plain I.kIn (ox := { cls := .ref C, dict := none, data := .fields #[.ref t1, .none, .none, .none, .bool false, .none] }) (od := none) ⟨ho, rfl, rfl, trivial⟩ T.sa ?_
  refine PySem.LmX.keep_new SF I.kIn ho ov gc gh (taker_no hno) (fun h' tk' dx k dn dne hx hn => ?_)
  have dn' : H dx = none := I.hok.fresh dn
  have nd : ∀ {b : Addr} {o : Obj}, h0.get? b = some o → b ≠ dx := fun {b o} q =>
    Nat.ne_of_lt (Nat.lt_of_lt_of_le (Heap.lt_size q) dn)
  have na : ∀ {b : Addr}, H b = none → b ≠ a := fun {b} n z => by rw [z, e] at n; cases n
  have U : Un X.fs [] H (upd (upd H dx (exd dx [(f, y)])) a (exo a C (some dx))) h0 h' := {
    keep := fun b o q n _ _ => k b o (na n) q
    slot := fun b o q n _ _ => ⟨o.slots, k b o (na n) q⟩
    free := fun b o q n _ => by
      rw [upd_ne (na n), upd_ne (nd q)]
      exact n
    there := fun b o q _ => by
      by_cases hb : b = a
      · exact ⟨_, by rw [hb]; exact hx⟩
      · exact ⟨o, k b o hb q⟩
    tups := fun b xs q => by
      rw [upd_ne (at_ne e q exo_tup), upd_ne (ne_of_none q dn')]
      exact q
    frzs := fun b o v q => by
      rw [upd_ne (at_ne e q exo_frz), upd_ne (ne_of_none q dn')]
      exact q
    tbls := fun b ps q => ⟨#[], by
      rw [upd_ne (at_ne e q exo_tbl), upd_ne (ne_of_none q dn'), q]
      simp⟩ }
  refine h dx _ dn' dne (I.un (t' := tk') U fun b o q => ?_)
  by_cases hb : b = a
  · subst hb
    rw [upd_same] at q
    cases q
    exact exo_ok hx
  · rw [upd_ne hb] at q
    by_cases hd : b = dx
    · subst hd
      rw [upd_same] at q
      cases q
      exact exd_ok hn (relO_put (fs := []) ry fun g => True.intro)
    · rw [upd_ne hd] at q
      refine (I.hok b o q).stay (fun c v hc z => k c v ?_ z) (fun c hc => ?_) fun c xs hc => ?_
      · rcases hc with hc | hc
        · rw [hc]
          exact hb
        · exact at_ne e hc exo_own
      · rw [upd_ne (at_ne e hc exo_own), upd_ne (ne_of_none hc dn')]
        exact hc
      · rw [upd_ne (at_ne e hc exo_tup), upd_ne (ne_of_none hc dn')]
        exact hc
theorem ox_old (T : OeC X.K C) (I : Inv X pins σ H s) (e : H a = some (exo a C (some dx))) (ed : H dx = some (exd dx fs)) (hl : fs.length ≤ 900) (hno : PySem.W.findIn X.K (.ref C) f = some none) (ry : RelV y u)
    (h : ∀ s', Inv X pins σ (upd H dx (exd dx ((f, y) :: fs))) s' → Q () s') : wpAny (model X.prog X.w) A (setAttr (.ref a) f u) Q E s := by
  obtain ⟨B, newId, initId, bm0, bmB, B', _, SF, _, ov⟩ := T.ex
  obtain ⟨cd, gc, gh⟩ := PySem.W.any_some T.hd
  obtain ⟨t1, ho⟩ := exo_at I.hok e
  obtain ⟨mA, hns, rel⟩ := exd_at I.hok ed
  have gw := within_of rel
  obtain ⟨h0, g, d, t, os⟩ := s
  obtain ⟨oD, _, _, hoD, _, _⟩ := hns.count gw
  refine PySem.W.set_plain I.kIn (ox := { cls := .ref C, dict := some dx, data := .fields #[.ref t1, .none, .none, .none, .bool false, .none] }) (od := some oD) ⟨ho, rfl, rfl, hoD⟩ T.sa ?_
  refine PySem.LmX.keep_old SF I.kIn ho hns gw (by rw [List.length_map]; omega) ov gc gh (taker_no hno) (fun h' tk' k hn => ?_)
  have hd : ∃ o, h'.get? dx = some o := by
    obtain ⟨o, _, _, e', _⟩ := hn
    exact ⟨o, e'⟩
  exact h _ (I.write (t' := tk') (x := dx) (e := dx) (o := exd dx ((f, y) :: fs))
    (by rw [ed]; exact True.intro) (.inl rfl) k hd (exd_ok hn (relO_put ry rel)))
end
/-! ### rules -/
/-- self.f = e, self an exception that is being made -/
def tOx (K : PySem.W.Frag) (f : Str) (to te : TE) : TS := fun D σ H => te σ H fun y H1 => to σ H1 fun x H2 => ∃ a C : Addr, x = .ref a ∧ OeC K C ∧ PySem.W.findIn K (.ref C) f = some none ∧
  ((H2 a = some (exo a C none) ∧ ∀ dx, H2 dx = none → dx ≠ a → D.nx σ (upd (upd H2 dx (exd dx [(f, y)])) a (exo a C (some dx)))) ∨
    ∃ (dx : Addr) (fs : List (Str × V)), H2 a = some (exo a C (some dx)) ∧ H2 dx = some (exd dx fs) ∧ fs.length ≤ 900 ∧ D.nx σ (upd H2 dx (exd dx ((f, y) :: fs))))
theorem ps_ox {X : Cx} {o e : Expr} {to te : TE} {f : Str} {p' pos : Pos} (ho : PE X o to) (he : PE X e te) (hs : swapsWith e (some (.Attribute o f p')) pos.line X.env = pure false := by rfl) : PS X (.Assign [.Attribute o f p'] e pos) (tOx X.K f to te) := by
  refine ⟨fun pins s σ H D I h => ?_⟩
  refine plainObj_wpAny_Assign_Attribute (thn (he.run pins s σ H _ I h) fun v s1 ⟨y, H1, I1, r1, q1⟩ =>
    thn (ho.run pins s1 σ H1 _ I1 q1) fun u s2 ⟨x, H2, I2, r2, a, C, ex, T, hno, q⟩ => ?_) hs
  subst ex
  obtain rfl : u = Value.ref a := r2
  rcases q with ⟨ea, q⟩ | ⟨dx, fs, ea, ed, hl, q⟩
  · exact ox_new T I2 ea hno r1 fun dx s' n ne J => ⟨σ, _, J, q dx n ne⟩
  · exact ox_old T I2 ea ed hl hno r1 fun s' J => ⟨σ, _, J, q⟩
/-- C(e, ..) as a value: an exception that is not raised -/
def tMkV (C : Addr) (sp : Sp) (ta : TA) : TE := fun σ H Q => ta σ H fun vs H1 => vs.length ≤ 1000 ∧ ∀ a, H1 a = none → sp (.ref a :: vs) (upd H1 a (exo a C none)) (fun v H2 => v = .non ∧ Q (.ref a) H2) (fun _ _ _ => False)
theorem run_oe {X : Cx} {C fI : Addr} {k : Nat} {fd : FuncData} {ps : List Str} {sp : Sp} (T : OeC X.K C) (iC : PySem.W.findIn X.K (.ref C) "__init__" = some (some (.ref fI))) (tI : PySem.W.typeIn X.K (.ref fI) = some (.type "function"))
    (F1 : FnOk X.prog X.w X.K X.mg X.base CX0 k fI fd ps sp) (hr : Room (k + 1) X.A) {pins : List (Addr × Obj)} {σ : L2.St} {H : Hp} {s : Shared} {Q : VK} {us : List Value} {kws : List (Str × Value)} {zs : Addr → List Value}
    (I : Inv X pins σ H s) (hl : us.length ≤ sizeLine) (h : ∀ a, H a = none → ∃ ws : List V, (∀ s', X.K.In s'.heap → BindsTo s' fd ⟨Value.ref a :: us, kws⟩ (ps.zip (zs a))) ∧ Vals ws (zs a) ∧ sp ws (upd H a (exo a C none)) (fun v H2 => v = .non ∧ Q (.ref a) H2) (fun _ _ _ => False)) :
    wpAny (model X.prog X.w) X.A (call (.ref C) us kws) (EP X pins σ Q) X.xe s := by
  obtain ⟨B, newId, initId, bm0, bmB, B', f, SF, q, ov⟩ := T.ex
  obtain ⟨nm, N, qn, bs, bm, hdct, sn, sub, ab, col, dd, k0, k1, k2, k3, k5, hC, hT⟩ := PySem.W.excInit_of I.kIn q
  obtain ⟨h0, g, dr, tk, os⟩ := s
  have hsz : h0.objs.size ≤ h0.objs.size + 1 := Nat.le_succ _
  have hn : H (h0.objs.size + 1) = none := I.hok.fresh hsz
  obtain ⟨ws, hb, r2, hq⟩ := h (h0.objs.size + 1) hn
  have kk : ∀ b o, h0.get? b = some o → ((h0.push (PySem.W.kdv_tup us)).push (PySem.HandSPX.excO C h0.objs.size)).get? b = some o := fun b o e =>
    Heap.get?_push_of_some _ (Heap.get?_push_of_some _ e)
  have gE : ((h0.push (PySem.W.kdv_tup us)).push (PySem.HandSPX.excO C h0.objs.size)).get? (h0.objs.size + 1) = some (PySem.HandSPX.excO C h0.objs.size) := by heap_get
  have I2 : Inv X pins σ (upd H (h0.objs.size + 1) (exo (h0.objs.size + 1) C none)) ⟨(h0.push (PySem.W.kdv_tup us)).push (PySem.HandSPX.excO C h0.objs.size), g, dr, tk, os⟩ :=
    I.laid (t' := tk) (a := h0.objs.size + 1) (o := exo (h0.objs.size + 1) C none) (h' := (h0.push (PySem.W.kdv_tup us)).push (PySem.HandSPX.excO C h0.objs.size)) kk hsz (exo_ok gE)
  refine wpAny_call (PySem.LmX.call_ownK f hT hC (PySem.W.looks_findIn I.kIn iC) (fun self => PySem.W.bind_fn I.kIn self tI) hl
    (codeAny_mono (F1.run _ X.stack _ _ ⟨Value.ref (h0.objs.size + 1) :: us, kws⟩ (zs (h0.objs.size + 1)) _ _ (fun _ _ _ => False) (hr.make C us kws) (I2.env0.make C us kws) (hb _ I2.kIn) r2 hq) fun r s' hq' => ?_))
  cases r with
  | error er => exact False.elim hq'
  | ok fl =>
    cases fl with
    | ret u =>
      obtain ⟨v, H3, I3, rv, ev, q3⟩ := I2.after hq'
      subst ev
      exact ⟨rv, ⟨V.ref (h0.objs.size + 1), H3, I3, rfl, q3⟩⟩
    | next => exact False.elim hq'
    | brk => exact False.elim hq'
    | cont => exact False.elim hq'
end Lm

set_option Elab.async false
set_option linter.all false
set_option maxRecDepth 100000
set_option maxHeartbeats 4000000
namespace Lm
open PySem PySem.Spec PyProof.Rows L2 LmR
/-- an own class of exceptions with an __init__ (st) that keeps fs -/
structure RfV (K : PySem.W.Frag) (mg : Str → Option Value) (x q : Str) (C fI : Addr) (fd : FuncData) (st : Stmt) (fs : List Str) : Prop where
  g : mg x = some (.ref C)
  o : OeC K C
  f : XfC K C
  k : ExK K C
  fld : ∀ n ∈ fs, PySem.W.findIn K (.ref C) n = some none
  iC : PySem.W.findIn K (.ref C) "__init__" = some (some (.ref fI))
  tI : PySem.W.typeIn K (.ref fI) = some (.type "function")
  F : Fun K "__init__" q st fI fd
  b : Binds K fd ("self" :: fs) []
section
variable {X : Cx} {x q : Str} {C fI : Addr} {fd : FuncData} {st : Stmt} {fs : List Str} {sp : Sp} {k : Nat} {p pos : Pos}
theorem pe_exv {e : Expr} {es : List Expr} {ta : TA} (R : RfV X.K X.mg x q C fI fd st fs) (F1 : FnOk X.prog X.w X.K X.mg X.base CX0 k fI fd ("self" :: fs) sp) (hr : Room (k + 1) X.A) (hg : Gl X x) (ha : PA X (e :: es) ta)
    (hdb : (x == ("__debug__" : Str)) = false := by decide) (he : starEach (e :: es) X.env = (false, eval e X.env) :: starEach es X.env := by rfl) (hpl : (backTo pos (starEach es X.env)).any (·.1) = false := by rfl) :
    PE X (.Call (.Name x p) (e :: es) [] pos) (tMkV C sp ta) := by
  refine ⟨fun pins s σ H Q I h => ?_⟩
  refine wpAny_Call_Name_kw (ld_glob I hg R.g ?_ hdb)
  refine PySem.W.callWith_K (h₀ := X.base) I.ok.mod.kin R.o.kC (thn (ha.run pos pins s σ H _ I h) fun us s1 ⟨vs, H1, I1, r1, hz, q1⟩ => ⟨I1.kIn, ?_⟩) he hpl
  show wpAny _ _ (call (.ref C) us) _ _ _
  have l1 : us.length ≤ sizeLine := by rw [← Paired.length r1, sizeLine_eq]; omega
  refine run_oe R.o R.iC R.tI F1 hr I1 (kws := []) (zs := fun a => .ref a :: us) l1 fun a ha => ⟨.ref a :: vs, fun s' kin => ?_, .cons rfl r1, q1 a ha⟩
  have l2 : (Value.ref a :: us).length = ((("self" : Str) :: fs)).length := by
    have z := F1.len _ _ _ _ (q1 a ha)
    rw [← z, List.length_cons, List.length_cons, Paired.length r1]
  have b := R.b s' (Value.ref a :: us) kin (by rw [List.append_nil]; exact l2)
  rw [List.append_nil] at b
  exact b
/-- C(k = v, ..) -/
def tMkVN (C : Addr) (m : Nat) (sp : Sp) (gV : List V → List V → List V) (tk : TA) : TE := fun σ H Q => tk σ H fun zs H1 => zs.length = m ∧ ∀ a, H1 a = none → sp (gV [.ref a] zs) (upd H1 a (exo a C none)) (fun v H2 => v = .non ∧ Q (.ref a) H2) (fun _ _ _ => False)
theorem pe_exk {ks : List Str} {g : List Value → List Value → List Value} {gV : List V → List V → List V} {kws : List Keyword} {tk : TA} (R : RfV X.K X.mg x q C fI fd st fs) (F1 : FnOk X.prog X.w X.K X.mg X.base CX0 k fI fd ("self" :: fs) sp) (hr : Room (k + 1) X.A) (hb : KBn X.K fd ("self" :: fs) 1 ks g gV) (hg : Gl X x) (hkw : PK X kws tk)
    (hall : (backToKw pos (keywordEach kws X.env)).all (·.1.isSome) = true := by rfl) (hks : (backToKw pos (keywordEach kws X.env)).filterMap (·.1) = ks := by rfl) (hdb : (x == ("__debug__" : Str)) = false := by decide)
    (hpl : ((backTo pos (starEach [] X.env)).any (·.1) || (backToKw pos (keywordEach kws X.env)).any (·.1.isNone)) = false := by rfl) :
    PE X (.Call (.Name x p) [] kws pos) (tMkVN C ks.length sp gV tk) := by
  refine ⟨fun pins s σ H Q I h => ?_⟩
  refine wpAny_Call_Name_kw (ld_glob I hg R.g ?_ hdb)
  refine PySem.W.callWith_KW0 (h₀ := X.base) I.ok.mod.kin R.o.kC hall ?_ hpl
  refine thn (hkw.run pos pins s σ H _ I h) fun ws s2 ⟨zs, H2, I2, rz, l2, q2⟩ => ⟨I2.kIn, ?_⟩
  rw [hks]
  have l3 : ws.length = ks.length := rz.length.symm.trans l2
  exact run_oe R.o R.iC R.tI F1 hr I2 (us := []) (kws := ks.zip ws) (zs := fun a => g [.ref a] ws) (Nat.zero_le _) fun a ha =>
    ⟨gV [.ref a] zs, fun s' kin => hb.to s' [.ref a] ws kin rfl l3, hb.rel (.cons rfl .nil) rz, q2 a ha⟩
theorem kbn_fwd {K : PySem.W.Frag} {ks : List Str} (F : Fun K "__init__" q st fI fd)
    (h : ∀ (kV doc pm : Value) (an : Option Addr) (cdv ct a : Value) (ws : List Value), ws.length = ks.length → bindArgs (PySem.W.fnOf "__init__" q (defArgs st) (defBody st) (defScope st) .none kV doc pm an cdv ct) ⟨[a], ks.zip ws⟩ = pure ((("self" : Str) :: fs).zip (a :: ws))) :
    KBn K fd ("self" :: fs) 1 ks (fun us ws => us ++ ws) (fun vs zs => vs ++ zs) := by
  obtain ⟨oc, od, kV, doc, pm, an, cdv, ct, osl, rfl, _, _⟩ := F.ex
  refine ⟨fun s us ws _ l1 l2 => ?_, fun r1 r2 => r1.append r2⟩
  match us, l1 with
  | [a], _ => exact .of_eq (h _ _ _ _ _ _ a ws l2)
theorem kbn_bwd {K : PySem.W.Frag} {ks : List Str} (F : Fun K "__init__" q st fI fd)
    (h : ∀ (kV doc pm : Value) (an : Option Addr) (cdv ct a : Value) (ws : List Value), ws.length = ks.length → bindArgs (PySem.W.fnOf "__init__" q (defArgs st) (defBody st) (defScope st) .none kV doc pm an cdv ct) ⟨[a], ks.zip ws⟩ = pure ((("self" : Str) :: fs).zip (a :: ws.reverse))) :
    KBn K fd ("self" :: fs) 1 ks (fun us ws => us ++ ws.reverse) (fun vs zs => vs ++ zs.reverse) := by
  obtain ⟨oc, od, kV, doc, pm, an, cdv, ct, osl, rfl, _, _⟩ := F.ex
  refine ⟨fun s us ws _ l1 l2 => ?_, fun r1 r2 => r1.append (vals_rev r2)⟩
  match us, l1 with
  | [a], _ => exact .of_eq (h _ _ _ _ _ _ a ws l2)
/-- C(), C without an own __init__ -/
structure RfN (K : PySem.W.Frag) (mg : Str → Option Value) (x : Str) (C : Addr) : Prop where
  g : mg x = some (.ref C)
  ex : ∃ B newId initId bmB, ExcBaseFacts B newId initId bmB ∧ PySem.W.excIn K C bmB newId = true
  kC : PySem.W.keepIn K (.ref C) = true
  k : ExK K C
theorem pe_ex0 (R : RfN X.K X.mg x C) (hg : Gl X x) (hdb : (x == ("__debug__" : Str)) = false := by decide) :
    PE X (.Call (.Name x p) [] [] pos) (fun σ H Q => ∀ a, H a = none → Q (.ref a) (upd H a (ExO (.ref C) a))) := by
  obtain ⟨B, newId, initId, bmB, F, hq⟩ := R.ex
  refine ⟨fun pins s σ H Q I h => ?_⟩
  refine wpAny_Call_Name_kw (ld_glob I hg R.g ?_ hdb)
  refine PySem.W.callWith_K0 I.kIn R.kC ?_
  show wpAny _ _ (call (.ref C) []) _ _ _
  obtain ⟨bm, N, nm, qn, bs, hdct, sn, sub, ab, col, dd, k0, k1, k2, k3, k5, mN, hC, hN, hni, T⟩ := exc_obj I.kIn hq
  refine wpAny_call_exc_subT F T hC hN hni (fun h' a hm => ?_) (Nat.zero_le _)
  have hn : H a = none := I.hok.gone hm.new
  obtain ⟨t, ht, _, _⟩ := hm.there
  exact ⟨.ref a, upd H a (ExO (.ref C) a), I.laidN hm.keeps hm.new hn (exO_ok ht ⟨rfl, rfl⟩ rfl rfl rfl (show 4 < 6 by decide)), rfl, h a hn⟩
end
/-! ### isinstance, fields -/
/-- an exception of the class at C, not raised -/
def Exn (H : Hp) (e C : Addr) : Prop := (∃ (d : Addr) (fs : List (Str × V)), H e = some (exo e C (some d)) ∧ H d = some (exd d fs)) ∨ H e = some (ExO (.ref C) e)
theorem Exn.same {H H' : Hp} {e C : Addr} (h : Exn H e C) (s : Same H H') : Exn H' e C := by
  rcases h with ⟨d, fs, a, b⟩ | a
  · exact .inl ⟨d, fs, s _ _ a, s _ _ b⟩
  · exact .inr (s _ _ a)
theorem exn_at {X : Cx} {pins : List (Addr × Obj)} {σ : L2.St} {H : Hp} {s : Shared} {e C : Addr} (I : Inv X pins σ H s) (h : Exn H e C) : ∃ oe od, PySem.W.InstAt s.heap e oe C od := by
  rcases h with ⟨d, fs, ea, ed⟩ | ea
  · obtain ⟨t1, ho⟩ := exo_at I.hok ea
    obtain ⟨mA, hns, rel⟩ := exd_at I.hok ed
    obtain ⟨od, hd, _⟩ := lookIn_ns hns
    exact ⟨_, some od, ho, rfl, rfl, hd⟩
  · obtain ⟨⟨oe, vs, ho, hz, hd, _⟩, _, _⟩ := I.hok _ _ ea
    exact ⟨oe, none, ho, hz.1, by unfold PySem.W.notCls; rw [hd] <;> rfl, by rw [hz.2]; trivial⟩
def rIsV (K : PySem.W.Frag) : List V → Hp → VK → Prop := fun xs H Q => ∃ (e C : Addr) (c : V) (cv : Value) (b : Bool), xs = [.ref e, c] ∧ Exn H e C ∧ ExK K C ∧ (∀ u, RelV c u → u = cv) ∧ PySem.W.kitOne K (.ref C) cv = some b ∧ Q (.bl b) H
theorem call_isV {X : Cx} : CallR X (.builtin "isinstance") (rIsV X.K) := by
  intro pins s σ H xs us Q I r h
  obtain ⟨e, C, c, cv, b, rfl, hx, k, hc, hk, q⟩ := h
  obtain ⟨u1, u2, rfl, r1, r2⟩ := vals2 r
  cases (show u1 = Value.ref e from r1)
  obtain rfl := hc _ r2
  obtain ⟨oe, od, J⟩ := exn_at I hx
  exact PySem.W.kia_one (PySem.W.kitx_exc k.cl k.ga k.gg k.ex k.ca k.gn k.tk k.ob) I.kIn J hk (fun z => nomatch z) fun tk => ⟨.bl b, H, I.tok tk, rfl, q⟩
def tFldV (K : PySem.W.Frag) (n : Str) (te : TE) : TE := fun σ H Q => te σ H fun x H1 => ∃ (a C d : Addr) (fs : List (Str × V)) (v : V), x = .ref a ∧ XfC K C ∧ PySem.W.findIn K (.ref C) n = some none ∧ H1 a = some (exo a C (some d)) ∧ H1 d = some (exd d fs) ∧ fs.lookup n = some v ∧ Q v H1
theorem pe_fldV {X : Cx} {e : Expr} {te : TE} {pos : Pos} {n : Str} (he : PE X e te) (hb : attributeBase e n X.env (eval e X.env) = eval e X.env := by rfl) : PE X (.Attribute e n pos) (tFldV X.K n te) := by
  refine ⟨fun pins s σ H Q I h => ?_⟩
  refine attr_of hb (thn (he.run pins s σ H _ I h) fun u s1 hh => ?_)
  obtain ⟨x, H1, I1, rx, a, C, d, fs, v, ex, T, hno, ea, ed, l, q⟩ := hh
  subst ex
  obtain rfl : u = Value.ref a := rx
  obtain ⟨t1, ho⟩ := exo_at I1.hok ea
  obtain ⟨mA, hns, hr⟩ := exd_at I1.hok ed
  obtain ⟨od, hd, hl⟩ := lookIn_ns hns
  obtain ⟨u, hu, ru⟩ := RelO.some_of (v := v) (o := mA n) (by rw [← l]; exact hr n)
  have J : PySem.W.InstAt s1.heap a { cls := .ref C, dict := some d, data := .fields #[.ref t1, .none, .none, .none, .bool false, .none] } C (some od) := ⟨ho, rfl, rfl, hd⟩
  exact HandSPX.exc_get I1.kIn J T.ga T.gg T.exC (PySem.W.findObj_own T.hdC hno rfl (by rw [hl, hu])) (handed_of ru) ⟨v, H1, I1.tok _, ru, q⟩
def kitTab (K : PySem.W.Frag) (cs ds : List Value) (f : Nat → Nat → Bool) : Bool := (List.range cs.length).all fun i => (List.range ds.length).all fun j => match cs[i]?, ds[j]? with
  | some c, some d => PySem.W.kitOne K c d == some (f i j)
  | _, _ => false
theorem kitTab_get {K : PySem.W.Frag} {cs ds : List Value} {f : Nat → Nat → Bool} (h : kitTab K cs ds f = true) {i j : Nat} {c d : Value} (hc : cs[i]? = some c) (hd : ds[j]? = some d) : PySem.W.kitOne K c d = some (f i j) := by
  unfold kitTab at h
  have hi : i < cs.length := (List.getElem?_eq_some_iff.mp hc).1
  have hj : j < ds.length := (List.getElem?_eq_some_iff.mp hd).1
  have h1 := List.all_eq_true.mp h i (List.mem_range.mpr hi)
  have h2 := List.all_eq_true.mp h1 j (List.mem_range.mpr hj)
  rw [hc, hd] at h2
  exact beq_iff_eq.mp h2
def twF (i j : Nat) : Bool := if j < 12 then decide (j = i) else if j < 14 then decide (i < 8) else if j = 14 then !decide (i < 8) else if j = 15 then decide (i = 10) else decide (i = 11)
end Lm

set_option Elab.async false
set_option linter.all false
set_option maxRecDepth 100000
set_option maxHeartbeats 4000000
namespace PySem
namespace LmX
open PySem.W PySem.Calls
/-- an exception that stands noted is handed to __exit__, which tells None; then on it goes -/
def BackOut (prog : Program) (w : World) (A : Around) (E : Value → Shared → Prop) (env : Env) (x fx : Addr) (Q : Flow → Shared → Prop) (e : Value) (s : Shared) : Prop :=
  ∃ (a : Addr) (oe : Obj) (vs : Array Value) (T : Addr) (oT : Obj) (ts : Array Value), e = .ref a ∧ s.heap.get? a = some oe ∧ oe.data = .fields vs ∧ vs[1]? = some (.ref T) ∧ s.heap.get? T = some oT ∧ oT.data = .fields ts ∧ 1 < ts.size ∧
    ∀ tb : Value, (tb = .none ∨ tb = .ref T) → codeAny (model prog w) (A.mark (some e)) (.call (.ref fx) ⟨[.ref x, oe.cls, e, tb], []⟩)
      (fun r s' => match r with | .ok (.ret v) => v = .none ∧ wpAny (model prog w) A (passOn "with" e env : Sem PySem.Flow) Q E s' | .ok _ => False | .error e' => E e' s') s
section
variable {prog : Program} {w : World} {A : Around} {E : Value → Shared → Prop} {s : Shared} {env : Env} {K : Frag} {x C fe fx : Addr} {ox : Obj} {od : Option Obj} {pos : Pos}
theorem with_core {bdy : Sem Flow} {Q : Flow → Shared → Prop} (KX : K.In s.heap) (J : InstAt s.heap x ox C od) (he : findIn K (.ref C) "__enter__" = some (some (.ref fe))) (hfe : isFn K (.ref fe) = true) (hx : findIn K (.ref C) "__exit__" = some (some (.ref fx))) (hfx : isFn K (.ref fx) = true)
    (h : wpAny (model prog w) A (call (.ref fe) [.ref x]) (fun v s₂ => wpAny (model prog w) A bdy (fun f s₄ => wpAny (model prog w) A (call (.ref fx) [.ref x, .none, .none, .none]) (fun _ s₅ => Q f s₅) E s₄) (fun e s₄ => wpAny (model prog w) A (noteFrame e env) (fun _ s₅ => wpAny (model prog w) A (setFlight e none) (fun _ s₆ => BackOut prog w A E env x fx Q e s₆) E s₅) E s₄) s₂) E s) :
    wpAny (model prog w) A (withItem false pos env (pure (.ref x)) none bdy) Q E s := by
  obtain ⟨cd, hcd, ae⟩ := kw_along he
  obtain ⟨cd', hcd', ax⟩ := kw_along hx
  cases hcd.symm.trans hcd'
  obtain ⟨h0, g, d, tt, os⟩ := s
  have w1 : Looks (model prog w) h0 (specialOnItsLine (.ref x) "__enter__") (some (.ref fe), cd.mro) := kw_special KX J hcd ae
  have w2 : Looks (model prog w) h0 (specialOnItsLine (.ref x) "__exit__") (some (.ref fx), cd.mro) := kw_special KX J hcd ax
  have w3 : Looks (model prog w) h0 (bindSpecial (.ref fe) (.ref x)) (.ref fe, [.ref x]) := bind_fn KX _ (beq_iff_eq.mp hfe)
  have w4 : Looks (model prog w) h0 (bindSpecial (.ref fx) (.ref x)) (.ref fx, [.ref x]) := bind_fn KX _ (beq_iff_eq.mp hfx)
  have w5 : Looks (model prog w) h0 (aMethodOfAnotherBuiltinTypeStops (.ref fe) cd.mro) () := Looks.of_pure rfl
  have w6 : Looks (model prog w) h0 (aMethodOfAnotherBuiltinTypeStops (.ref fx) cd.mro) () := Looks.of_pure rfl
  unfold withItem
  refine wpAny_bind (wpAny_pure ?_)
  refine wpAny_bind (wpAny_standAt ?_)
  simp only [Bool.false_eq_true, if_false]
  kw_lk
  refine wpAny_mono h (fun v s₂ h₂ => ?_) fun _ _ z => z
  kw_lk
  refine wpAny_attempt (kw_held ?_)
  show wpAny _ _ bdy _ _ _
  refine wpAny_mono h₂ (fun f s₄ h₄ => ?_) fun e s₄ z => ?_
  · kw_lk
    refine wpAny_mono h₄ (fun _ s₅ h₅ => ?_) fun _ _ z => z
    kw_lk
    exact h₅
  · show wpAny _ _ (do
      noteFrame e env
      setFlight e none
      standAt pos
      _) _ _ _
    refine wpAny_bind (wpAny_mono z (fun _ s₅ z5 => ?_) fun _ _ y => y)
    refine wpAny_bind (wpAny_mono z5 (fun _ s₆ z6 => ?_) fun _ _ y => y)
    obtain ⟨a, oe, vs, T, oT, ts, rfl, ha, hd, h1, hT, hdT, hz, hq⟩ := z6
    refine wpAny_bind (wpAny_standAt ?_)
    refine wpAny_holding ?_
    refine wpAny_bind (wpAny_typeOf_ref ha ?_)
    have hts : ts[1]? = some ts[1] := Array.getElem?_eq_getElem hz
    have tbk : ∀ {Q' : Value → Shared → Prop}, (∀ tb : Value, (tb = .none ∨ tb = .ref T) → Q' tb s₆) → wpAny (model prog w) A (tracebackOf (.ref a)) Q' E s₆ := fun {Q'} q => by
      unfold tracebackOf
      refine wpAny_bind (wpAny_field ha hd h1 ?_)
      refine wpAny_bind (wpAny_field hT hdT hts ?_)
      by_cases c : (ts[1] == Value.none) = true
      · rw [if_pos c]
        exact wpAny_pure (q _ (.inl rfl))
      · rw [if_neg c]
        exact wpAny_pure (q _ (.inr rfl))
    refine wpAny_bind (tbk fun tb htb => ?_)
    refine wpAny_bind ?_
    unfold withItem.marked
    refine wpAny_bind (wpAny_run (codeAny_mono (hq tb htb) fun r s7 y => ?_))
    cases r with
    | error e' => exact y
    | ok fl =>
      cases fl with
      | next => exact y.elim
      | brk => exact y.elim
      | cont => exact y.elim
      | ret v =>
        obtain ⟨rfl, y⟩ := y
        refine wpAny_pure ?_
        refine wpAny_bind (wpAny_pure ?_)
        dsimp only
        refine wpAny_bind (wpAny_pure ?_)
        rw [if_neg (by decide)]
        exact y
end
end LmX
end PySem
namespace Lm
open PySem PySem.Spec PyProof.Rows L2 LmR
/-- what __exit__ is handed of an exception of the body -/
def wExit (a : Addr) (spX : Sp) (Wout : WX) : WX := fun cls d σ H => ∃ C : Addr, cls = .ref C ∧ ∀ (e : Addr) (t : V), H e = none → spX [.ref a, .ref C, .ref e, t] H (fun v H' => v = .non ∧ Wout cls d σ H') (fun _ _ _ => False)
/-- .. and where there is none -/
def dExit (a : Addr) (spX : Sp) (D : Ends) : Ends := {
  nx := fun σ H => spX [.ref a, .non, .non, .non] H (fun _ H' => D.nx σ H') (fun _ _ _ => False)
  rt := fun v H => spX [.ref a, .non, .non, .non] H (fun _ H' => D.rt v H') (fun _ _ _ => False)
  bk := fun σ H => spX [.ref a, .non, .non, .non] H (fun _ H' => D.bk σ H') (fun _ _ _ => False)
  ct := fun σ H => spX [.ref a, .non, .non, .non] H (fun _ H' => D.ct σ H') (fun _ _ _ => False) }
/-- with e: body -/
def tWith (C : Addr) (spE spX : Sp) (Wout : WX) (te : TE) (tb : WX → TS) : TS := fun D σ H => te σ H fun x H1 => ∃ (a dx : Addr) (fs : List (Str × V)), x = .ref a ∧ H1 a = some (.ins C dx fs) ∧
  spE [.ref a] H1 (fun _ H2 => tb (wExit a spX Wout) (dExit a spX D) σ H2) (fun _ _ _ => False)
section
variable {X : Cx} {ctx : Expr} {body : List Stmt} {pos : Pos} {te : TE} {tb : WX → TS} {C fe fx : Addr} {fdE fdX : FuncData} {k : Nat} {spE spX : Sp} {psE psX : List Str} {Wout : WX}
theorem ps_with (hs : X.stack = X.env :: X.outer) (hf : X.env.frame = some X.env.locals) (hex : X.ex = []) (mE : Meth X.K C "__enter__" fe) (mX : Meth X.K C "__exit__" fx) (hr : Room k X.A)
    (FE : FnOk X.prog X.w X.K X.mg X.base CX0 k fe fdE psE spE) (bE : Binds X.K fdE psE []) (FX : FnOk X.prog X.w X.K X.mg X.base CX0 k fx fdX psX spX) (bX : Binds X.K fdX psX []) (FH : ∀ p : Addr × Obj, FnP X.prog X.w X.K X.mg X.base p k fx fdX psX spX) (tk : Takes X Wout) (hc : PE X ctx te)
    (hb : ∀ (W : WX) (pn : List (Addr × Obj)) (xe : Value → Shared → Prop), Takes (X.tr pn xe) W → PassesOwn (model X.prog X.w) X.A X.env xe → PSs (X.tr pn xe) body (tb W)) :
    PS X (.With [⟨ctx, none⟩] body pos) (tWith C spE spX Wout te tb) := by
  refine ⟨fun pins s σ H D I h => ?_⟩
  have ok := I.ok
  have hfr : X.A.frames = some (X.env :: X.outer) := by rw [ok.frames, hs]
  refine PySem.W.kw_exec0 (thn (hc.run pins s σ H _ I h) fun u s1 ⟨x, H1, I1, rx, a, dx, fs, ex, ea, q⟩ => ?_)
  subst ex
  obtain rfl : u = Value.ref a := rx
  unfold PySem.W.KwIn
  obtain ⟨mA, O, _⟩ := ins_get I1.hok ea
  obtain ⟨od, ho, _⟩ := lookIn_ns O.ns
  have J1 : PySem.W.InstAt s1.heap a (PySem.W.instObj C dx) C (some od) := ⟨O.obj, rfl, rfl, ho⟩
  refine PySem.LmX.with_core I1.kIn J1 mE.at_ mE.fn mX.at_ mX.fn ?_
  refine wpAny_mono (run_fn (us := [.ref a]) (vs := [.ref a]) FE hr bE .nil pass0 I1 (.cons rfl .nil) q) (fun v s2 z => ?_) (fun _ _ z => z)
  obtain ⟨v', H2, I2, r2, q2⟩ := z
  have out : ∀ {σ' : L2.St} {H' : Hp} {s' : Shared} {R : Hp → Prop}, Inv X pins σ' H' s' → spX [.ref a, .non, .non, .non] H' (fun _ H6 => R H6) (fun _ _ _ => False) →
      wpAny (model X.prog X.w) X.A (call (.ref fx) [.ref a, .none, .none, .none]) (fun _ s5 => ∃ H5, Inv X pins σ' H5 s5 ∧ R H5) X.xe s' := fun {σ' H' s' R} J y => by
    refine wpAny_mono (run_fn (us := [.ref a, .none, .none, .none]) (vs := [.ref a, .non, .non, .non]) FX hr bX .nil pass0 J (.cons rfl (.cons rfl (.cons rfl (.cons rfl .nil)))) y) (fun _ s5 z => ?_) (fun _ _ z => z)
    obtain ⟨_, H5, I5, _, q5⟩ := z
    exact ⟨H5, I5, q5⟩
  refine wpAny_mono ((hb (wExit a spX Wout) (X.pn ++ pins) (fun e s₄ => wpAny (model X.prog X.w) X.A (noteFrame e X.env) (fun _ s₅ => wpAny (model X.prog X.w) X.A (setFlight e none)
    (fun _ s₆ => PySem.LmX.BackOut X.prog X.w X.A X.xe X.env a fx (SP X pins D) e s₆) X.xe s₅) X.xe s₄) (fun u s' xx => ?_) PassesOwn.looking).run [] s2 σ H2 (dExit a spX D) (I2.toTry _) q2) (fun f s4 hsp => ?_) (fun e s4 z => z)
  · obtain ⟨e, B, sI, pins', σ', H', cls, d, rfl, J', nb, up, sky, na, os, ag, Ce, ecls, hw⟩ := xx
    have J : Inv X pins σ' H' sI := J'.ofTry ok
    have sky' : Sky B (X.env :: X.outer) e (Zc cls d) X.env.locals s'.heap := by rw [← hs]; exact sky
    show wpAny (model X.prog X.w) X.A (noteFrame (.ref e) X.env) _ _ _
    refine Sky.land Zc.steady hfr hf sky' fun h3 fl3 up3 => ?_
    have J3 : Inv X pins σ' H' { s' with heap := h3 } := J.landed nb fl3.1 (up.trans up3) os ag
    obtain ⟨k1, k2, k3, oe, vs, T, oT, ts, he3, hz, hd, hv1, hnT, hTe, hT, hdT, ht3⟩ := id fl3
    have nT : H' T = none := (J.inGround nb).gone hnT
    have offFr : ∀ (b : Addr) (o : Obj) (fv : Array Value), h3.get? b = some o → o.data = .fields fv → b ∉ frs (X.env :: X.outer) := fun b o fv eb db hm => by
      obtain ⟨_, o2, e2, hnf⟩ := k3.mem hm
      cases eb.symm.trans e2
      exact hnf _ db
    have fe' := offFr e oe vs he3 hd
    have fT := offFr T oT ts hT hdT
    have locF : X.env.locals ∈ frs (X.env :: X.outer) :=
      List.mem_filterMap.mpr ⟨X.env, List.mem_cons_self, hf⟩
    have fsF : ∀ b, b ∈ X.fs → b ∈ frs (X.env :: X.outer) := fun b hm => by
      obtain ⟨e2, h2, q2⟩ := List.mem_filterMap.mp hm
      exact List.mem_filterMap.mpr ⟨e2, List.mem_cons_of_mem _ h2, q2⟩
    have pinOf : ∀ (b : Addr) (o : Obj) (fv : Array Value), h3.get? b = some o → o.data = .fields fv → H' b = none → b ∉ frs (X.env :: X.outer) →
        h3.get? b = some o ∧ H' b = none ∧ b ≠ X.env.locals ∧ b ∉ X.fs ∧ ∀ v, o.data ≠ .cell v := fun b o fv eb db nb' nf =>
      ⟨eb, nb', fun z => nf (by rw [z]; exact locF), fun z => nf (fsF _ z), fun v z => by rw [db] at z; cases z⟩
    have S3 : Inv (X.suite e ((e, oe) :: (T, oT) :: (X.pn ++ pins))) [] σ' H' { s' with heap := h3 } :=
      ⟨J3.ok.suite _ _, J3.os, J3.bare, J3.base, J3.loc, J3.cell, J3.free, J3.freeC, fun p hp => by
        rw [List.append_nil] at hp
        rcases List.mem_cons.mp hp with z | hp
        · rw [z]
          exact pinOf e oe vs he3 hd na fe'
        · rcases List.mem_cons.mp hp with z | hp
          · rw [z]
            exact pinOf T oT ts hT hdT nT fT
          · exact J3.pin p hp, J3.hok, J3.len⟩
    have hsz : 1 < ts.size := by
      have := (Array.getElem?_eq_some_iff.mp ht3).1
      omega
    refine ⟨e, oe, vs, T, oT, ts, rfl, he3, hd, hv1, hT, hdT, hsz, fun tb htb => ?_⟩
    obtain ⟨t, rt⟩ : ∃ t : V, RelV t tb := by
      rcases htb with z | z
      · exact ⟨.non, z⟩
      · exact ⟨.ref T, z⟩
    have sp := hw e t na
    have rv : Vals [.ref a, .ref Ce, .ref e, t] [.ref a, oe.cls, .ref e, tb] := .cons rfl (.cons (by rw [hz.1, ecls]; rfl) (.cons rfl (.cons rt .nil)))
    have l4 : ([.ref a, oe.cls, .ref e, tb] : List Value).length = psX.length := (FX.len _ _ _ _ sp).symm ▸ rfl
    have bd := bX { s' with heap := h3 } [.ref a, oe.cls, .ref e, tb] S3.kIn (by rw [List.append_nil]; exact l4)
    rw [List.append_nil] at bd
    have pk : L2H.PinOk X.stack H' { s' with heap := h3 } (e, oe) := ⟨he3, na, by rw [hs]; exact fe', fun v z => by rw [hd] at z; cases z⟩
    refine codeAny_mono ((FH (e, oe)).run (X.A.mark (some (.ref e))) X.stack { s' with heap := h3 } H' ⟨[.ref a, oe.cls, .ref e, tb], []⟩ _ _ _ _ ⟨hr.dp, hr.un⟩ pk S3.env0 bd rv sp) fun r s6 z => ?_
    cases r with
    | error _ => exact z.elim
    | ok fl =>
      cases fl with
      | next => exact False.elim z
      | brk => exact False.elim z
      | cont => exact False.elim z
      | ret u6 =>
        obtain ⟨v6, H6, S6, r6, rfl, q6⟩ := S3.after z
        refine ⟨r6, ?_⟩
        have J6 : Inv X pins σ' H6 s6 := ⟨ok, S6.os, S6.bare, S6.base, S6.loc, S6.cell, S6.free, S6.freeC,
          fun p hp => S6.pin p (List.mem_append_left _ (List.mem_cons_of_mem _ (List.mem_cons_of_mem _ hp))), S6.hok, S6.len⟩
        have pe := S6.pin (e, oe) (List.mem_append_left _ List.mem_cons_self)
        have pT := S6.pin (T, oT) (List.mem_append_left _ (List.mem_cons_of_mem _ List.mem_cons_self))
        have ge : s6.heap.get? e = some oe := pe.1
        have gT : s6.heap.get? T = some oT := pT.1
        have ne6 : H6 e = none := pe.2.1
        have nT6 : H6 T = none := pT.2.1
        have farI : ∀ b o, sI.heap.get? b = some o → b ≠ e ∧ b ≠ T := fun b o eb => by
          by_cases hb : b ∈ frs X.stack
          · rw [hs] at hb
            exact ⟨fun z => fe' (by rw [← z]; exact hb), fun z => fT (by rw [← z]; exact hb)⟩
          · have q := nb b o eb hb
            refine ⟨fun z => ?_, fun z => ?_⟩
            · rw [z, k2] at q
              cases q
            · rw [z, hnT] at q
              cases q
        have far1 : ∀ b o, X.s_0.heap.get? b = some o → b ≠ e ∧ b ≠ T := fun b o eb => by
          obtain ⟨o2, q⟩ := J.base.there b o eb (by rw [hex]; simp)
          exact farI b o2 q
        have far2 : ∀ p ∈ X.pn ++ pins, p.1 ≠ e ∧ p.1 ≠ T := fun p hp => farI p.1 p.2 (J.pin p hp).1
        obtain ⟨G, g1, g2⟩ := restrict s6.heap fun b => !(decide (b = e) || decide (b = T))
        have gIn : ∀ b o, G.get? b = some o → s6.heap.get? b = some o ∧ b ≠ e ∧ b ≠ T := fun b o eb => by
          cases q : (!(decide (b = e) || decide (b = T))) with
          | false => rw [g2 b q] at eb; cases eb
          | true =>
            rw [g1 b q] at eb
            simp only [Bool.not_eq_true', Bool.or_eq_false_iff, decide_eq_false_iff_not] at q
            exact ⟨eb, q.1, q.2⟩
        have gOf : ∀ b o, b ≠ e → b ≠ T → s6.heap.get? b = some o → G.get? b = some o := fun b o h1 h2 eb => by
          rw [g1 b (by simp [h1, h2])]
          exact eb
        have I6 : Inv X pins σ' H6 { s6 with heap := G } :=
          J6.less (fun b o eb => (gIn b o eb).1) gOf ⟨oe, vs, ge, hd⟩ ⟨oT, ts, gT, hdT⟩ ne6 nT6 far1 far2
        have gr1 : ∀ b o, (PySem.W.hideAll G (frs X.stack)).get? b = some o → s6.heap.get? b = some o := fun b o eb =>
          (gIn b o (PySem.W.of_hideAll _ eb)).1
        have gr2 : ∀ b, (b = e ∨ b = T) → (PySem.W.hideAll G (frs X.stack)).get? b = none := fun b hb => by
          cases q : (PySem.W.hideAll G (frs X.stack)).get? b with
          | none => rfl
          | some o =>
            obtain ⟨_, n1, n2⟩ := gIn b o (PySem.W.of_hideAll _ q)
            rcases hb with z | z
            · exact absurd z n1
            · exact absurd z n2
        have fl6 : HandSPX.FlyingZ (PySem.W.hideAll G (frs X.stack)) (X.env :: X.outer) e (Zc cls d) s6.heap := by
          refine ⟨gr1, gr2 e (.inl rfl), ?_, oe, vs, T, oT, ts, ge, hz, hd, hv1, gr2 T (.inr rfl), hTe, gT, hdT, ht3⟩
          rw [← hs]
          exact funFrames_none J6.stack fun b hb => PySem.W.hideAll_none _ hb
        show wpAny (model X.prog X.w) X.A (PySem.passOn "with" (.ref e) X.env) (SP X pins D) X.xe s6
        unfold PySem.passOn
        refine wpAny_bind (wpAny_field ge hd hv1 ?_)
        rw [if_neg (show ¬ ((Value.ref T == Value.none) = true) from by simp)]
        have on : wpAny (model X.prog X.w) X.A (setFlight (.ref e) X.env.frame) (fun _ s7 => wpAny (model X.prog X.w) X.A (throw (.ref e) : Sem PySem.Flow) (SP X pins D) X.xe s7) X.xe s6 := by
          rw [hf]
          refine HandSPX.setFlight_upZ fl6 fun h7 hh7 up7 => wpAny_throw (tk _ _ ?_)
          refine ⟨e, PySem.W.hideAll G (frs X.stack), { s6 with heap := G }, pins, σ', H6, cls, d, rfl, I6, fun b o eb hb => PySem.W.hideAll_get _ eb hb, ?_, .inr (.inr (by rw [← hs] at hh7; exact hh7)), ne6, rfl, J6.bare, q6⟩
          exact Heap.UpToSlots.trans (Heap.UpToSlots.of_keeps fun b o eb => (gIn b o eb).1) up7
        first
          | exact wpAny_bind (wpAny_pure (wpAny_bind on))
          | exact wpAny_bind on
  · cases f with
    | next =>
      obtain ⟨σ', H', J', q⟩ := hsp
      refine wpAny_mono (out (J'.ofTry ok) q) (fun _ s5 z => ?_) (fun _ _ z => z)
      obtain ⟨H5, I5, q5⟩ := z
      exact ⟨σ', H5, I5, q5⟩
    | brk =>
      obtain ⟨σ', H', J', q⟩ := hsp
      refine wpAny_mono (out (J'.ofTry ok) q) (fun _ s5 z => ?_) (fun _ _ z => z)
      obtain ⟨H5, I5, q5⟩ := z
      exact ⟨σ', H5, I5, q5⟩
    | cont =>
      obtain ⟨σ', H', J', q⟩ := hsp
      refine wpAny_mono (out (J'.ofTry ok) q) (fun _ s5 z => ?_) (fun _ _ z => z)
      obtain ⟨H5, I5, q5⟩ := z
      exact ⟨σ', H5, I5, q5⟩
    | ret u =>
      obtain ⟨v, σ', H', J', r, q⟩ := hsp
      refine wpAny_mono (out (J'.ofTry ok) q) (fun _ s5 z => ?_) (fun _ _ z => z)
      obtain ⟨H5, I5, q5⟩ := z
      exact ⟨v, σ', H5, I5, r, q5⟩
end
end Lm

set_option Elab.async false
set_option linter.all false
set_option maxRecDepth 100000
namespace Lm
open PySem PySem.Spec PyProof.Rows L2 LmR
/-! ### a == b, a != b of data without dicts, of any texts -/
def rEqP (K : PySem.W.Frag) : R2 := fun x y H Q => ∃ d e, Dp K H x d ∧ Dp K H y e ∧ d.plain = true ∧ e.plain = true ∧ d.depth ≤ 64 ∧ Q (.bl (PyData.eqv d e)) H
def rNeP (K : PySem.W.Frag) : R2 := fun x y H Q => ∃ d e, Dp K H x d ∧ Dp K H y e ∧ d.plain = true ∧ e.plain = true ∧ d.depth ≤ 64 ∧ Q (.bl (!PyData.eqv d e)) H
theorem op_eqP {X : Cx} (hu : X.A.units + 64 < cLine) : OpR X (compareOp .Eq) (rEqP X.K) := by
  intro pins s σ H x y v u Q I rx ry h
  obtain ⟨d, e, hd, he, sd, se, dd, q⟩ := h
  obtain ⟨as, r1⟩ := Dp.reads I d x v hd rx
  obtain ⟨bs, r2⟩ := Dp.reads I e y u he ry
  exact SeqAt.eq_plain r1 r2 sd se (by omega) ⟨.bl _, H, I, rfl, q⟩
theorem op_neP {X : Cx} (hu : X.A.units + 64 < cLine) : OpR X (compareOp .NotEq) (rNeP X.K) := by
  intro pins s σ H x y v u Q I rx ry h
  obtain ⟨d, e, hd, he, sd, se, dd, q⟩ := h
  obtain ⟨as, r1⟩ := Dp.reads I d x v hd rx
  obtain ⟨bs, r2⟩ := Dp.reads I e y u he ry
  exact SeqAt.ne_plain r1 r2 sd se (by omega) ⟨.bl _, H, I, rfl, q⟩
mutual
theorem plain_flat : ∀ d : PyData, flat d = true → d.plain = true
  | .none, _ => rfl
  | .bool _, _ => rfl
  | .int _, _ => rfl
  | .str _, _ => rfl
  | .list _, h => by simp [flat] at h
  | .tuple xs, h => plains_flat xs h
  | .dict _, h => by simp [flat] at h
theorem plains_flat : ∀ ds : List PyData, flat.flats ds = true → PyData.plainAll ds = true
  | [], _ => rfl
  | d :: ds, h => by
    rw [flat.flats, Bool.and_eq_true] at h
    show (d.plain && PyData.plainAll ds) = true
    rw [plain_flat d h.1, plains_flat ds h.2]; rfl
end
end Lm

set_option Elab.async false
set_option linter.all false
set_option maxRecDepth 100000
set_option maxHeartbeats 2000000
namespace Lm
open PySem PySem.Spec PyProof.Rows L2 LmR
/-! ### dicts of numbers with data for values -/
/-- the entries kvs bear the data ds -/
def KD (K : PySem.W.Frag) (H : Hp) (kvs : List (Key × V)) (ds : List (Int × PyData)) : Prop := Paired (fun kv d => kv.1 = .inl d.1 ∧ Dp K H kv.2 d.2) kvs ds
def atD (ds : List (Int × PyData)) (k : Int) : Option PyData := (ds.find? fun d => decide (d.1 = k)).map (·.2)
theorem kd_val {K : PySem.W.Frag} {H : Hp} : ∀ {kvs : List (Key × V)} {ds : List (Int × PyData)}, KD K H kvs ds → ∀ k : Int, (∃ v d, valV kvs (.inl k) = some v ∧ atD ds k = some d ∧ Dp K H v d) ∨ (valV kvs (.inl k) = none ∧ atD ds k = none)
  | _, _, .nil, k => .inr ⟨rfl, rfl⟩
  | (c, v) :: kvs, (i, d) :: ds, .cons ⟨e, h⟩ t, k => by
    simp only at e
    by_cases z : i = k
    · refine .inl ⟨v, d, valV_pos (by rw [e, z]), ?_, h⟩
      unfold atD
      rw [List.find?_cons, decide_eq_true z]
      rfl
    · have n1 : valV ((c, v) :: kvs) (.inl k) = valV kvs (.inl k) := valV_neg (fun y => z (by rw [e] at y; exact Sum.inl.inj y))
      have n2 : atD ((i, d) :: ds) k = atD ds k := by
        unfold atD
        rw [List.find?_cons, decide_eq_false z]
      rw [n1, n2]
      exact kd_val t k
def eqKD (ds es : List (Int × PyData)) : Bool := ds.all fun d => match atD es d.1 with
  | some e => PyData.eqv d.2 e
  | none => false
def rEqKD (K : PySem.W.Frag) : R2 := fun x y H Q => ∃ (a b : Addr) (ks ls : List (Key × V)) (ds es : List (Int × PyData)), x = .ref a ∧ y = .ref b ∧ H a = some (.dK ks) ∧ H b = some (.dK ls) ∧ KD K H ks ds ∧ KD K H ls es ∧
  (∀ d ∈ ds, d.2.plain = true ∧ d.2.depth ≤ 62) ∧ (∀ e ∈ es, e.2.plain = true) ∧ Q (.bl (ds.length == es.length && eqKD ds es)) H
theorem hits_kd {X : Cx} {pins : List (Addr × Obj)} {σ : L2.St} {H : Hp} {s : Shared} {A : Around} (hu : A.units + 62 < cLine) (I : Inv X pins σ H s) {ls : List (Key × V)} {es : List (Int × PyData)} {vb : List (Key × Value)} (kd : KD X.K H ls es) (rb : KV ls vb) (pe : ∀ e ∈ es, e.2.plain = true) :
    ∀ {ks : List (Key × V)} {ds : List (Int × PyData)} {va : List (Key × Value)}, KD X.K H ks ds → KV ks va → (∀ d ∈ ds, d.2.plain = true ∧ d.2.depth ≤ 62) → PySem.W.KeqHitsP X.prog X.w A s vb va (eqKD ds es)
  | [], [], _, .nil, .nil, _ => .nil
  | (c, v) :: ks, (i, d) :: ds, (c', u) :: va, .cons ⟨e1, hd⟩ t, .cons ⟨e2, rv⟩ r, pd => by
    simp only at e1 e2
    subst e1
    subst e2
    have ih := hits_kd hu I kd rb pe t r fun d h => pd d (List.mem_cons_of_mem _ h)
    have hv := rb.val (.inl i)
    have p0 := pd (i, d) List.mem_cons_self
    rcases kd_val kd i with ⟨y, e, h1, h2, h3⟩ | ⟨h1, h2⟩
    · rw [h1] at hv
      have ee : eqKD ((i, d) :: ds) es = (PyData.eqv d e && eqKD ds es) := by
        unfold eqKD
        rw [List.all_cons]
        simp only [h2]
      rw [ee]
      cases hy : valueAt vb (.inl i) with
      | none => rw [hy] at hv; exact hv.elim
      | some y' =>
        rw [hy] at hv
        obtain ⟨as, r1⟩ := Dp.reads I d v u hd rv
        obtain ⟨bs, r2⟩ := Dp.reads I e y y' h3 hv
        have pm : e.plain = true := by
          have : (i, e) ∈ es ∨ ∃ j, (j, e) ∈ es := by
            unfold atD at h2
            obtain ⟨q, hq, rfl⟩ := Option.map_eq_some_iff.mp h2
            exact .inr ⟨q.1, List.mem_of_find?_eq_some hq⟩
          rcases this with z | ⟨j, z⟩
          · exact pe _ z
          · exact pe _ z
        exact .hit hy (SeqAt.EqAt.eqP (SeqAt.eqAt_plain _ _ _ _ _ _ _ _ r1 r2 p0.1 pm (by have := p0.2; simp only at this; omega))) ih
    · rw [h1] at hv
      have ee : eqKD ((i, d) :: ds) es = false := by
        unfold eqKD
        rw [List.all_cons]
        simp only [h2, Bool.false_and]
      rw [ee]
      cases hy : valueAt vb (.inl i) with
      | none => exact .miss hy
      | some y' => rw [hy] at hv; exact hv.elim
theorem op_eqKD {X : Cx} (hu : X.A.units + 64 < cLine) : OpR X (compareOp .Eq) (rEqKD X.K) := by
  intro pins s σ H x y v u Q I rx ry h
  obtain ⟨a, b, ks, ls, ds, es, rfl, rfl, ea, eb, kd, ke, pd, pe, q⟩ := h
  obtain rfl : v = Value.ref a := rx
  obtain rfl : u = Value.ref b := ry
  obtain ⟨_, ya, va, ra, da⟩ := (show ObjOk X.prog X.w H s.heap a (.dK ks) from I.hok a _ ea)
  obtain ⟨_, yb, vb, rb, db⟩ := (show ObjOk X.prog X.w H s.heap b (.dK ls) from I.hok b _ eb)
  have l1 : va.length = ds.length := by rw [← ra.length, kd.length]
  have l2 : vb.length = es.length := by rw [← rb.length, ke.length]
  refine PySem.W.rcP_dicts ya yb da db (by omega) (fun _ => hits_kd (by show X.A.units + 1 + 62 < cLine; omega) I ke rb pe kd ra pd) _ _ (fin_bl I q ?_)
  rw [l1, l2]
end Lm

set_option Elab.async false
set_option linter.all false
set_option maxRecDepth 100000
set_option maxHeartbeats 2000000
namespace Lm
open PySem PySem.Spec PyProof.Rows L2 LmR
/-! ### methods that may refuse -/
def CalMX (P : Program) (w : World) (K : PySem.W.Frag) (mg : Str → Option Value) (base : Heap) (k : Nat) (C : Addr) (m : Str) (ps : List Str) (sp : Sp) : Prop :=
  ∃ f fd, FnOk P w K mg base (L2.CX P w) k f fd ps sp ∧ Meth K C m f ∧ Binds K fd ps []
section
variable {P : Program} {w : World} {K : PySem.W.Frag} {mg : Str → Option Value} {base : Heap}
theorem CalMX.mono {j k : Nat} {C : Addr} {m : Str} {ps : List Str} {sp : Sp} (c : CalMX P w K mg base j C m ps sp) (h : j ≤ k) : CalMX P w K mg base k C m ps sp := by
  obtain ⟨f, fd, F, g⟩ := c
  exact ⟨f, fd, F.mono h, g⟩
theorem calmx_of {C : Addr} {m q : Str} {st : Stmt} {N ps : List Str} {k : Nat} {sp : Sp} (D : DefM K C m q st ps) (S : FnScope N ps (defScope st)) (len : ∀ vs H Q E, sp vs H Q E → vs.length = ps.length)
    (hbody : ∀ (f : Addr) (cdv : Value) (A : Around) (outer : List Env) (s : Shared) (H : Hp) (vs : List V) (Q : VK) (E : XK), Room k (A.deeper (envOfC q (defScope st) s.heap.objs.size f cdv)) → sp vs H Q E →
      ∃ t, PSs (cxOf (L2.CX P w) P w K mg base N q (defScope st) f cdv A outer s H E) (defBody st) t ∧ t { nx := fun _ H' => Q .non H', rt := Q } (start N vs) H) : CalMX P w K mg base (k + 1) C m ps sp := by
  obtain ⟨f, fd, F, g, b⟩ := D
  exact ⟨f, fd, F.okX S len (hbody f), g, b⟩
end
/-- o.m(e, ..), which may refuse -/
def tMethS (C : Addr) (m : Str) (sp : Sp) (E : L2.St → XK) (to : TE) (t : TA) : TE := fun σ H Q => to σ H fun x H1 => ∃ a dx fs, x = .ref a ∧ H1 a = some (.ins C dx fs) ∧ fs.lookup m = none ∧ t σ H1 fun vs H2 => sp (x :: vs) H2 Q (E σ)
theorem pe_calMX {X : Cx} {W : WX} {k : Nat} {C : Addr} {m : Str} {ps : List Str} {sp : Sp} {o e : Expr} {es : List Expr} {to : TE} {t : TA} {apos pos : Pos} {pl : Sem Bool} (C' : CalMX X.prog X.w X.K X.mg X.base k C m ps sp) (c : Cls X.K C) (tk : Takes X W) (hr : Room k X.A) (ho : PE X o to) (ha : PA X (e :: es) t)
    (ht : eval (.Call (.Attribute o m apos) (e :: es) [] pos) X.env = (do
      let ov ← eval o X.env
      standAt apos.atName
      let (f, first) ← holding [ov] (getMethod ov m pl)
      callWith pos f first (backTo pos (starEach (e :: es) X.env)) (backToKw pos (keywordEach [] X.env))) := by rfl)
    (he : starEach (e :: es) X.env = (false, eval e X.env) :: starEach es X.env := by rfl) (hpl : (backTo pos (starEach es X.env)).any (·.1) = false := by rfl) :
    PE X (.Call (.Attribute o m apos) (e :: es) [] pos) (tMethS C m sp (WE W) to t) := by
  obtain ⟨f, fd, F, g, b⟩ := C'
  refine ⟨fun pins s σ H Q I h => ?_⟩
  refine PySem.W.methodCall_KW (pl := pl) (thn (ho.run pins s σ H _ I h) fun u s1 ⟨x, H1, I1, rx, a, dx, fs, ex, ea, l, q⟩ => ?_) ht
  subst ex
  obtain rfl : u = Value.ref a := rx
  refine getmeth_ok I1 ea c g l ?_
  refine PySem.W.callWith_K (first := [.ref a]) (h₀ := X.base) I.ok.mod.kin g.kp (thn (ha.run pos pins s1 σ H1 _ I1 q) fun us s2 ⟨vs, H2, I2, r, q2⟩ => ⟨I2.kIn, ?_⟩) he hpl
  exact run_fnS (us := .ref a :: us) (vs := .ref a :: vs) F hr b (passAt tk σ) I2 (.cons rfl r) q2
/-! ### C(e), __init__ with keyword-only parameters that lack -/
def DefIW (K : PySem.W.Frag) (mg : Str → Option Value) (C : Addr) (x q : Str) (st : Stmt) (ps : List Str) (mvs : List V) : Prop :=
  ∃ f fd kws, FunD K "__init__" q (defArgs st) (defBody st) (defScope st) [] kws f fd ∧ Mk K C f ∧ mg x = some (.ref C) ∧ ∃ g, KBn K fd ps 2 [] g (fun vs _ => vs ++ mvs)
def CalIW (P : Program) (w : World) (K : PySem.W.Frag) (mg : Str → Option Value) (base : Heap) (k : Nat) (C : Addr) (x : Str) (ps : List Str) (mvs : List V) (sp : Sp) : Prop :=
  ∃ f fd, FnOk P w K mg base CX0 k f fd ps sp ∧ Mk K C f ∧ mg x = some (.ref C) ∧ ∃ g, KBn K fd ps 2 [] g (fun vs _ => vs ++ mvs)
section
variable {P : Program} {w : World} {K : PySem.W.Frag} {mg : Str → Option Value} {base : Heap}
theorem CalIW.mono {j k : Nat} {C : Addr} {x : Str} {ps : List Str} {mvs : List V} {sp : Sp} (c : CalIW P w K mg base j C x ps mvs sp) (h : j ≤ k) : CalIW P w K mg base k C x ps mvs sp := by
  obtain ⟨f, fd, F, g⟩ := c
  exact ⟨f, fd, F.mono h, g⟩
theorem caliw_of {C : Addr} {x q : Str} {st : Stmt} {N ps : List Str} {k : Nat} {mvs : List V} {sp : Sp} (D : DefIW K mg C x q st ps mvs) (S : FnScope N ps (defScope st)) (len : ∀ vs H Q E, sp vs H Q E → vs.length = ps.length)
    (hbody : ∀ (f : Addr) (cdv : Value) (A : Around) (outer : List Env) (s : Shared) (H : Hp) (vs : List V) (Q : VK) (E : XK), Room k (A.deeper (envOfC q (defScope st) s.heap.objs.size f cdv)) → sp vs H Q E →
      ∃ t, PSs (cxOf CX0 P w K mg base N q (defScope st) f cdv A outer s H E).nox (defBody st) t ∧ t { nx := fun _ H' => Q .non H', rt := Q } (start N vs) H) : CalIW P w K mg base (k + 1) C x ps mvs sp := by
  obtain ⟨f, fd, kws, F, g⟩ := D
  refine ⟨f, fd, F.ok S len (fun cdv A outer s H vs Q E hr hsp => ?_), g⟩
  obtain ⟨t, h, q⟩ := hbody f cdv A outer s H vs Q E hr hsp
  exact ⟨t, h.nox, q⟩
end
theorem pe_calIW {X : Cx} {k : Nat} {C : Addr} {x : Str} {ps : List Str} {mvs : List V} {sp : Sp} {e : Expr} {es : List Expr} {t : TA} {p pos : Pos} (C' : CalIW X.prog X.w X.K X.mg X.base k C x ps mvs sp) (hr : Room (k + 1) X.A) (hg : Gl X x) (ha : PA X (e :: es) t)
    (hdb : (x == ("__debug__" : Str)) = false := by decide)
    (he : starEach (e :: es) X.env = (false, eval e X.env) :: starEach es X.env := by rfl) (hpl : ((backTo pos (starEach (e :: es) X.env)).any (·.1) || (backToKw pos (keywordEach [] X.env)).any (·.1.isNone)) = false := by rfl) :
    PE X (.Call (.Name x p) (e :: es) [] pos) (tMakeK C 1 0 sp (fun vs _ => vs ++ mvs) (fun _ _ _ => False) t tNil) := by
  obtain ⟨f, fd, F, M, gm, g, hb⟩ := C'
  exact pe_makeK M F hr hg gm hb pass0 ha pk_nil rfl rfl hdb he hpl
/-! ### a method called while the exception p is handled -/
theorem fn_ofPq {P : Program} {w : World} {K : PySem.W.Frag} {mg : Str → Option Value} {base : Heap} {k : Nat} {x q : Str} {st : Stmt} {f : Addr} {fd : FuncData} {N ps : List Str} {sp : Sp} {p : Addr × Obj} (F : Fun K x q st f fd) (S : FnScope N ps (defScope st))
    (len : ∀ vs H Q E, sp vs H Q E → vs.length = ps.length)
    (hbody : ∀ (cdv : Value) (A : Around) (outer : List Env) (s : Shared) (H : Hp) (vs : List V) (Q : VK) (E : XK), L2H.RoomH k (A.deeper (envOfC q (defScope st) s.heap.objs.size f cdv)) → sp vs H Q E →
      ∃ t, PSs (L2H.cxH CX0 P w K mg base N q (defScope st) f cdv A outer s H E p) (defBody st) t ∧ t { nx := fun _ H' => Q .non H', rt := Q } (L2.start N vs) H) : FnP P w K mg base p (k + 1) f fd ps sp := by
  obtain ⟨oc, od, kV, doc, pm, an, cdv, ct, osl, rfl, lk, hcd⟩ := F.ex
  refine ⟨len, fun A outer s H args us vs Q E hr hpin e0 hb r hsp => ?_⟩
  have hl := len _ _ _ _ hsp
  have KX : K.In s.heap := e0.mod.kin.keeps fun b o e => (e0.bs b o e).1
  have lim : s.heap.NoLimit := e0.mod.nolimit.keeps fun b o e => (e0.bs b o e).1
  have hkind : ∀ y ∈ ps.zip us, (defScope st).names.lookup y.1 = some .local ∨ ((defScope st).names.lookup y.1 = some .cell ∧ ((cellsFrom (s.heap.objs.size + 1) (defScope st).names []).lookup y.1).isSome = true) := fun ⟨n, v⟩ hy => by
    rcases S.par n (List.of_mem_zip hy).1 with q | q
    · exact .inl q
    · exact .inr ⟨q, PySem.W.cellsFrom_some _ _ _ (.inl q)⟩
  refine codeAny_call_function hr.depth (KX _ _ lk) rfl S.co S.gen rfl (PySem.W.codeRec_of KX hcd) (hb _ _ _ _ ?_)
  refine wpAny_newFunctionEnv_cells S.kind hkind fun env he s1 y => ?_
  subst he
  refine ⟨lim.keeps y.toInCall.keep, codeAny_func ?_⟩
  obtain ⟨t, ht, hq⟩ := hbody cdv A outer s H vs Q E (hr.deeper _) hsp
  have I : Inv (L2H.cxH CX0 P w K mg base N q (defScope st) f cdv A outer s H E p) [] (L2.start N vs) H s1 := L2H.inv_startH S hpin e0 hl r y
  refine wpAny_mono (ht.run [] s1 (L2.start N vs) H _ I hq) (fun fl s' hs => ?_) fun e s' hs => hs
  have fin : ∀ {σ' : L2.St} {H' : Hp} {v : V} {u : Value}, Inv (L2H.cxH CX0 P w K mg base N q (defScope st) f cdv A outer s H E p) [] σ' H' s' → RelV v u → Q v H' → CE outer P w H s Q u s' :=
    fun {σ' H' v u} J rv q => ⟨v, H', J.os, J.bare, J.base, J.hok, rv, q⟩
  cases fl with
  | ret u =>
    obtain ⟨v, σ', H', J, rv, q⟩ := hs
    exact fin J rv q
  | next =>
    obtain ⟨σ', H', J, q⟩ := hs
    exact fin (v := V.non) (u := Value.none) J rfl q
  | brk =>
    obtain ⟨_, _, _, q⟩ := hs
    exact False.elim q
  | cont =>
    obtain ⟨_, _, _, q⟩ := hs
    exact False.elim q
/-- the context managers of a class: __enter__ and __exit__ -/
def WithC (P : Program) (w : World) (K : PySem.W.Frag) (mg : Str → Option Value) (base : Heap) (C : Addr) (spE spX : Sp) : Prop :=
  ∃ fe fx fdE fdX psE psX, Meth K C "__enter__" fe ∧ Meth K C "__exit__" fx ∧ FnOk P w K mg base CX0 1 fe fdE psE spE ∧ Binds K fdE psE [] ∧ FnOk P w K mg base CX0 1 fx fdX psX spX ∧ Binds K fdX psX [] ∧ ∀ p, FnP P w K mg base p 1 fx fdX psX spX
theorem ps_withC {X : Cx} {ctx : Expr} {body : List Stmt} {pos : Pos} {te : TE} {tb : WX → TS} {C : Addr} {k : Nat} {spE spX : Sp} {Wout : WX} (hs : X.stack = X.env :: X.outer) (hf : X.env.frame = some X.env.locals) (hex : X.ex = []) (WI : WithC X.prog X.w X.K X.mg X.base C spE spX) (hr : Room (k + 1) X.A)
    (tk : Takes X Wout) (hc : PE X ctx te) (hb : ∀ (W : WX) (pn : List (Addr × Obj)) (xe : Value → Shared → Prop), Takes (X.tr pn xe) W → PassesOwn (model X.prog X.w) X.A X.env xe → PSs (X.tr pn xe) body (tb W)) :
    PS X (.With [⟨ctx, none⟩] body pos) (tWith C spE spX Wout te tb) := by
  obtain ⟨fe, fx, fdE, fdX, psE, psX, m1, m2, f1, b1, f2, b2, h⟩ := WI
  exact ps_with hs hf hex m1 m2 (hr.mono (by omega)) f1 b1 f2 b2 h tk hc hb
/-! ### for a, b in zip(xs, ys), two lists of one length -/
theorem for_zipL {K : PySem.W.Frag} {a b : Addr} {xs ys : List V} {g : TG} {tb : TS} {D : Ends} {σ : L2.St} {H : Hp} (Pv : Nat → L2.St → Hp → Prop) (hl : xs.length = ys.length) (h0 : Pv 0 σ H) (hq : ∀ i σ H, Pv i σ H → SqL K H a xs ∧ SqL K H b ys)
    (hstep : ∀ i x y σ H T, xs[i]? = some x → ys[i]? = some y → Pv i σ H → H T = none → g (.ref T) σ (upd H T (.tup [x, y])) fun σ2 H2 => tb { D with nx := Pv (i + 1), ct := Pv (i + 1), bk := D.nx } σ2 H2)
    (hend : ∀ σ H, Pv xs.length σ H → D.nx σ H) :
    ∃ W : Nat → Nat → L2.St → Hp → Prop, (∃ m, W 0 m σ H) ∧ ∀ i m σ H, W i m σ H →
      ((Itz K a b).stop i H ∧ D.nx σ H) ∨ ((Itz K a b).go i H ∧ ∃ N : L2.St → Hp → Prop, (∀ σ' H', N σ' H' → ∃ m', m' < m ∧ W (i + 1) m' σ' H') ∧ ∀ x H', (Itz K a b).yld i H x H' → g x σ H' fun σ2 H2 => tb { D with nx := N, ct := N, bk := D.nx } σ2 H2) := by
  refine ⟨fun i m σ H => i ≤ xs.length ∧ m = xs.length - i ∧ Pv i σ H, ⟨_, Nat.zero_le _, rfl, h0⟩, fun i m σ H ⟨hi, hm, hp⟩ => ?_⟩
  obtain ⟨hs, ht⟩ := hq i σ H hp
  rcases Nat.lt_or_ge i xs.length with hlt | hge
  · have hlt2 : i < ys.length := by omega
    have hx : xs[i]? = some xs[i] := List.getElem?_eq_getElem hlt
    have hy : ys[i]? = some ys[i] := List.getElem?_eq_getElem hlt2
    refine .inr ⟨⟨xs, ys, _, _, hs, ht, hx, hy⟩, Pv (i + 1), fun σ' H' h' => ⟨xs.length - (i + 1), by omega, hlt, rfl, h'⟩, ?_⟩
    rintro v H' ⟨T, x, y, rfl, hT, rfl, h1, h2⟩
    exact hstep i x y σ H T (h1 xs hs) (h2 ys ht) hp hT
  · have e : i = xs.length := Nat.le_antisymm hi hge
    exact .inl ⟨⟨xs, ys, hs, ht, .inl hge⟩, hend σ H (e ▸ hp)⟩
/-! ### data and what changes -/
def KF (K : PySem.W.Frag) (H : Hp) (kvs : List (Key × V)) (ds : List (Int × PyData)) : Prop := Paired (fun kv d => kv.1 = .inl d.1 ∧ Fd K H kv.2 d.2) kvs ds
theorem KF.keep {K : PySem.W.Frag} {H H' : Hp} (t : Tp K H H') : ∀ {kvs : List (Key × V)} {ds : List (Int × PyData)}, KF K H kvs ds → KF K H' kvs ds
  | _, _, .nil => .nil
  | _, _, .cons a b => .cons ⟨a.1, a.2.keep t⟩ (KF.keep t b)
theorem KF.kd {K : PySem.W.Frag} {H : Hp} : ∀ {kvs : List (Key × V)} {ds : List (Int × PyData)}, KF K H kvs ds → KD K H kvs ds
  | _, _, .nil => .nil
  | _, _, .cons a b => .cons ⟨a.1, a.2.2⟩ (KF.kd b)
theorem KF.plain {K : PySem.W.Frag} {H : Hp} : ∀ {kvs : List (Key × V)} {ds : List (Int × PyData)}, KF K H kvs ds → ∀ d ∈ ds, d.2.plain = true
  | _, _, .nil, d, h => nomatch h
  | _, _, .cons a b, d, h => (List.mem_cons.mp h).elim (fun z => by rw [z]; exact plain_flat _ a.2.1) (fun z => KF.plain b d z)
theorem KF.len {K : PySem.W.Frag} {H : Hp} {kvs : List (Key × V)} {ds : List (Int × PyData)} (h : KF K H kvs ds) : kvs.length = ds.length := Paired.length h
/-! ### raise C(e, ..), C over any built-in class -/
def tMkR (C : Addr) (sp : Sp) (ta : TA) : L2.St → Hp → XK → Prop := fun σ H Q => ta σ H fun vs H1 => vs.length ≤ 1000 ∧ ∀ a, H1 a = none → sp (.ref a :: vs) (upd H1 a (exo a C none))
  (fun v H2 => v = .non ∧ ∃ (d : Addr) (fs : List (Str × V)), H2 a = some (exo a C (some d)) ∧ H2 d = some (exd d fs) ∧ H1 d = none ∧ Q (.ref C) (some d) (upd (del H2 a) d (.xd fs))) (fun _ _ _ => False)
theorem pmk_oe {X : Cx} {x q : Str} {C fI : Addr} {fd : FuncData} {st : Stmt} {fs : List Str} {sp : Sp} {k : Nat} {p pos : Pos} {e : Expr} {es : List Expr} {ta : TA} (R : RfV X.K X.mg x q C fI fd st fs) (hty : PySem.W.typeIn X.K (.ref C) = some (.type "type"))
    (F1 : FnOk X.prog X.w X.K X.mg X.base CX0 k fI fd ("self" :: fs) sp) (hr : Room (k + 1) X.A) (hg : Gl X x) (ha : PA X (e :: es) ta)
    (hdb : (x == ("__debug__" : Str)) = false := by decide) (he : starEach (e :: es) X.env = (false, eval e X.env) :: starEach es X.env := by rfl) (hpl : (backTo pos (starEach es X.env)).any (·.1) = false := by rfl) :
    PMk X (.Call (.Name x p) (e :: es) [] pos) (tMkR C sp ta) := by
  intro pins s σ H Q I h
  obtain ⟨B, newId, initId, bm0, bmB, B', f, SF, qq, ov⟩ := R.o.ex
  refine wpAny_Call_Name_kw (ld_glob I hg R.g ?_ hdb)
  refine PySem.W.callWith_K (h₀ := X.base) I.ok.mod.kin R.o.kC (thn (ha.run pos pins s σ H _ I h) fun us s1 ⟨vs, H1, I1, r1, hz, q1⟩ => ⟨I1.kIn, ?_⟩) he hpl
  show wpAny _ _ (call (.ref C) us) _ _ _
  obtain ⟨nm, N, qn, bs, bm, hdct, sn, sub, ab, col, dd, k0, k1, k2, k3, k5, hC, hT⟩ := PySem.W.excInit_of I1.kIn qq
  obtain ⟨h0, g, dr, tk, os⟩ := s1
  have hsz : h0.objs.size ≤ h0.objs.size + 1 := Nat.le_succ _
  have hn : H1 (h0.objs.size + 1) = none := I1.hok.fresh hsz
  have hq := q1 (h0.objs.size + 1) hn
  have kk : ∀ b o, h0.get? b = some o → ((h0.push (PySem.W.kdv_tup us)).push (PySem.HandSPX.excO C h0.objs.size)).get? b = some o := fun b o e =>
    Heap.get?_push_of_some _ (Heap.get?_push_of_some _ e)
  have gE : ((h0.push (PySem.W.kdv_tup us)).push (PySem.HandSPX.excO C h0.objs.size)).get? (h0.objs.size + 1) = some (PySem.HandSPX.excO C h0.objs.size) := by heap_get
  have I2 : Inv X pins σ (upd H1 (h0.objs.size + 1) (exo (h0.objs.size + 1) C none)) ⟨(h0.push (PySem.W.kdv_tup us)).push (PySem.HandSPX.excO C h0.objs.size), g, dr, tk, os⟩ :=
    I1.laid (t' := tk) (a := h0.objs.size + 1) (o := exo (h0.objs.size + 1) C none) (h' := (h0.push (PySem.W.kdv_tup us)).push (PySem.HandSPX.excO C h0.objs.size)) kk hsz (exo_ok gE)
  have r2 : Vals (V.ref (h0.objs.size + 1) :: vs) (Value.ref (h0.objs.size + 1) :: us) := .cons rfl r1
  have hl : (Value.ref (h0.objs.size + 1) :: us).length = ((("self" : Str) :: fs)).length := by
    rw [← r2.length]
    exact F1.len _ _ _ _ hq
  have hb := R.b ⟨(h0.push (PySem.W.kdv_tup us)).push (PySem.HandSPX.excO C h0.objs.size), g, dr, tk, os⟩ (Value.ref (h0.objs.size + 1) :: us) I2.kIn (by rw [List.append_nil]; exact hl)
  rw [List.append_nil] at hb
  have hus : us.length ≤ sizeLine := by
    rw [← Paired.length r1, sizeLine_eq]
    omega
  refine wpAny_call (PySem.LmX.call_ownK f hT hC (PySem.W.looks_findIn I1.kIn R.iC) (fun self => PySem.W.bind_fn I1.kIn self R.tI) hus
    (codeAny_mono (F1.run _ X.stack _ _ ⟨Value.ref (h0.objs.size + 1) :: us, []⟩ (Value.ref (h0.objs.size + 1) :: us) _ _ (fun _ _ _ => False) (hr.make C us []) (I2.env0.make C us []) hb r2 hq) fun r s' hq' => ?_))
  cases r with
  | error er => exact False.elim hq'
  | ok fl =>
    cases fl with
    | ret u =>
      obtain ⟨v, H2, os2, bare2, un2, hok2, rv, ev, d, fs, ea, ed, hd1, q2⟩ := hq'
      subst ev
      obtain ⟨h2, g2, d2, t2, os'⟩ := s'
      exact ⟨rv, mk_end (raises_own R.f.exC hty) I1 hsz kk un2 hok2 os2 bare2 ea ed hd1 q2⟩
    | next => exact False.elim hq'
    | brk => exact False.elim hq'
    | cont => exact False.elim hq'
theorem mkr_one {C : Addr} {f : Str} {x : V} {H : Hp} {Q : XK} (hq : ∀ d H', Raised H H' d [(f, x)] → Q (.ref C) (some d) H') :
    [x].length ≤ 1000 ∧ ∀ a, H a = none → spIni1 C f [.ref a, x] (upd H a (exo a C none))
      (fun v H2 => v = .non ∧ ∃ (d : Addr) (fs : List (Str × V)), H2 a = some (exo a C (some d)) ∧ H2 d = some (exd d fs) ∧ H d = none ∧ Q (.ref C) (some d) (upd (del H2 a) d (.xd fs))) (fun _ _ _ => False) := mk_one hq
end Lm

set_option Elab.async false
set_option linter.all false
set_option maxRecDepth 100000
set_option maxHeartbeats 2000000
namespace Lm
open PySem PySem.Spec PyProof.Rows L2 LmR
/-! ### len(o), repr(o) by the class's own methods -/
def rLenO (C : Addr) (sp : Sp) : List V → Hp → VK → Prop := fun xs H Q => ∃ a dx fs, xs = [.ref a] ∧ H a = some (.ins C dx fs) ∧ sp [.ref a] H (fun v H' => ∃ n : Int, v = .int n ∧ 0 ≤ n ∧ n < 2 ^ 63 ∧ Q (.int n) H') (fun _ _ _ => False)
def rReprO (C : Addr) (sp : Sp) : List V → Hp → VK → Prop := fun xs H Q => ∃ a dx fs, xs = [.ref a] ∧ H a = some (.ins C dx fs) ∧ sp [.ref a] H (fun v H' => ∃ z : Str, v = .str z ∧ Q (.str z) H') (fun _ _ _ => False)
section
variable {X : Cx} {k : Nat} {C : Addr} {ps : List Str} {sp : Sp}
theorem call_lenO (M : CalM X.prog X.w X.K X.mg X.base k C "__len__" ps sp) (hr : Room (k + 1) X.A) : CallR X (.builtin "len") (rLenO C sp) := by
  intro pins s σ H xs us Q I r h
  obtain ⟨a, dx, fs, rfl, ha, hsp⟩ := h
  obtain ⟨u, rfl, ru⟩ := vals1 r
  cases ru
  obtain ⟨mA, J, _⟩ := ins_get I.hok ha
  obtain ⟨od, J, _⟩ := J.look
  obtain ⟨m, hF⟩ := I.fr
  obtain ⟨f, fd, F, g, b⟩ := M
  refine PySem.W.len_K hF I.ok.mod.kin J g.at_ g.fn ?_
  have hl := F.len _ _ _ _ hsp
  refine wpAny_call (codeAny_mono (F.run X.A.in1 X.stack s H ⟨[.ref a], []⟩ [.ref a] [.ref a] _ (fun _ _ _ => False) hr.in1 (Env0.in1 I.env0) (by
    have := b s [.ref a] I.kIn (by simpa using hl)
    simpa using this) (.cons rfl .nil) hsp) fun r s' hq => ?_)
  cases r with
  | error e => exact (pass0 pins σ H s e s' I hq : X.xe e s')
  | ok fl =>
    cases fl with
    | ret w =>
      obtain ⟨z, H', I', rz, n, ez, n0, n1, q⟩ := I.after hq
      subst ez
      obtain ⟨t, rfl⟩ := rz
      exact ⟨⟨n0, n1⟩, .int n, H', I'.tok _, ⟨_, rfl⟩, q⟩
    | next => exact False.elim hq
    | brk => exact False.elim hq
    | cont => exact False.elim hq
theorem call_reprO (M : CalM X.prog X.w X.K X.mg X.base k C "__repr__" ps sp) (hr : Room (k + 1) X.A) : CallR X (.builtin "repr") (rReprO C sp) := by
  intro pins s σ H xs us Q I r h
  obtain ⟨a, dx, fs, rfl, ha, hsp⟩ := h
  obtain ⟨u, rfl, ru⟩ := vals1 r
  cases ru
  obtain ⟨mA, J, _⟩ := ins_get I.hok ha
  obtain ⟨od, J, _⟩ := J.look
  obtain ⟨m, hF⟩ := I.fr
  obtain ⟨f, fd, F, g, b⟩ := M
  refine PySem.W.repr_K hr.in1.units0 hF I.ok.mod.kin J g.at_ g.fn ?_
  have hl := F.len _ _ _ _ hsp
  refine wpAny_call (codeAny_mono (F.run X.A.in1 X.stack s H ⟨[.ref a], []⟩ [.ref a] [.ref a] _ (fun _ _ _ => False) hr.in1 (Env0.in1 I.env0) (by
    have := b s [.ref a] I.kIn (by simpa using hl)
    simpa using this) (.cons rfl .nil) hsp) fun r s' hq => ?_)
  cases r with
  | error e => exact (pass0 pins σ H s e s' I hq : X.xe e s')
  | ok fl =>
    cases fl with
    | ret w =>
      obtain ⟨z, H', I', rz, y, ez, q⟩ := I.after hq
      subst ez
      obtain ⟨t, rfl⟩ := rz
      exact ⟨.str y, H', I', ⟨_, rfl⟩, q⟩
    | next => exact False.elim hq
    | brk => exact False.elim hq
    | cont => exact False.elim hq
end
/-! ### C(e, .., k = v) -/
def DefIK (K : PySem.W.Frag) (mg : Str → Option Value) (C : Addr) (x q : Str) (st : Stmt) (ps : List Str) (dvs : List V) (n : Nat) (ks : List Str) : Prop :=
  ∃ f fd, FunD K "__init__" q (defArgs st) (defBody st) (defScope st) dvs [] f fd ∧ Mk K C f ∧ mg x = some (.ref C) ∧ KBn K fd ps (n + 1) ks (fun us ws => us ++ ws) (fun vs zs => vs ++ zs)
def CalIK (P : Program) (w : World) (K : PySem.W.Frag) (mg : Str → Option Value) (base : Heap) (k : Nat) (C : Addr) (x : Str) (ps : List Str) (n : Nat) (ks : List Str) (sp : Sp) : Prop :=
  ∃ f fd, FnOk P w K mg base CX0 k f fd ps sp ∧ Mk K C f ∧ mg x = some (.ref C) ∧ KBn K fd ps (n + 1) ks (fun us ws => us ++ ws) (fun vs zs => vs ++ zs)
theorem CalI.kw {P : Program} {w : World} {K : PySem.W.Frag} {mg : Str → Option Value} {base : Heap} {k n n' : Nat} {C : Addr} {x q : Str} {st : Stmt} {ps ks : List Str} {dvs : List V} {sp : Sp} (c : CalI P w K mg base k C x ps dvs n sp) (D : DefIK K mg C x q st ps dvs n' ks) : CalIK P w K mg base k C x ps n' ks sp := by
  obtain ⟨f, fd, F, M, g, _, q', pa, bo, sc, F'⟩ := c
  obtain ⟨f2, fd2, F2, M2, g2, b⟩ := D
  have e : f = f2 := by
    have z := M.init.symm.trans M2.init
    injection z with z
    injection z with z
    injection z
  subst e
  have e : fd = fd2 := by
    obtain ⟨_, _, _, _, _, _, _, _, _, _, _, l1, _⟩ := F'.ex
    obtain ⟨_, _, _, _, _, _, _, _, _, _, _, l2, _⟩ := F2.ex
    rw [l1] at l2
    have e := Option.some.inj l2
    injection e with _ _ e _
    injection e
  subst e
  exact ⟨f, fd, F, M, g, b⟩
theorem pe_calIK {X : Cx} {k n : Nat} {C : Addr} {x : Str} {ps ks : List Str} {sp : Sp} {e : Expr} {es : List Expr} {kws : List Keyword} {t tk : TA} {p pos : Pos} (C' : CalIK X.prog X.w X.K X.mg X.base k C x ps n ks sp) (hr : Room (k + 1) X.A) (hg : Gl X x) (ha : PA X (e :: es) t) (hkw : PK X kws tk)
    (hall : (backToKw pos (keywordEach kws X.env)).all (·.1.isSome) = true := by rfl) (hks : (backToKw pos (keywordEach kws X.env)).filterMap (·.1) = ks := by rfl) (hdb : (x == ("__debug__" : Str)) = false := by decide)
    (he : starEach (e :: es) X.env = (false, eval e X.env) :: starEach es X.env := by rfl) (hpl : ((backTo pos (starEach (e :: es) X.env)).any (·.1) || (backToKw pos (keywordEach kws X.env)).any (·.1.isNone)) = false := by rfl) :
    PE X (.Call (.Name x p) (e :: es) kws pos) (tMakeN C n ks.length sp (fun vs zs => vs ++ zs) (fun _ _ _ => False) t tk) := by
  obtain ⟨f, fd, F, M, g, b⟩ := C'
  refine ⟨fun pins s σ H Q I h => ?_⟩
  refine wpAny_Call_Name_kw (ld_glob I hg g ?_ hdb)
  refine PySem.W.callWith_KW (h₀ := X.base) I.ok.mod.kin M.kp hall (thn (ha.run pos pins s σ H _ I h) fun us s1 ⟨vs, H1, I1, r, q⟩ => ?_) hpl he
  refine thn (hkw.run pos pins s1 σ H1 _ I1 q) fun ws s2 ⟨zs, H2, I2, rz, l1, l2, q2⟩ => ⟨I2.kIn, ?_⟩
  rw [hks]
  exact run_makeN M F hr b pass0 I2 r rz l1 l2 q2
end Lm

set_option Elab.async false
set_option linter.all false
set_option maxRecDepth 100000
set_option maxHeartbeats 2000000
set_option pp.maxSteps 20000
set_option pp.deepTerms true
namespace Lm
open PySem PySem.Spec PyProof.Rows L2 LmR
def fp (x : Str) (v : V) : Str × V := (x, v)
/-! ### Deed -/
def dfs (nt : Addr) (s d r : V) : List (Str × V) := [fp "noted" (.ref nt), fp "start" s, fp "done" d, fp "refused" r]
def DF : List Str := ["noted", "start", "done", "refused"]
def MF : List Str := ["head", "stock", "most", "things", "onward", "noted"]
section
variable {P : Program} {w : World} {K : PySem.W.Frag} {mg : Str → Option Value} {base : Heap} {c_Deed c_Maker : Addr}
abbrev s_Deed___init__ : Stmt := inClass (topS 2) 0
theorem sc_Deed___init__ : FnScope ["self", "noted", "start", "done", "refused"] ["self", "noted", "start", "done", "refused"] (defScope s_Deed___init__) := ⟨rfl, rfl, rfl, by decide +kernel, rfl, by decide +kernel, by decide +kernel⟩
abbrev s_Deed___enter__ : Stmt := inClass (topS 2) 1
theorem sc_Deed___enter__ : FnScope ["self"] ["self"] (defScope s_Deed___enter__) := ⟨rfl, rfl, rfl, by decide +kernel, rfl, by decide +kernel, by decide +kernel⟩
abbrev s_Deed___exit__ : Stmt := inClass (topS 2) 2
theorem sc_Deed___exit__ : FnScope ["self", "kind", "value", "trace"] ["self", "kind", "value", "trace"] (defScope s_Deed___exit__) := ⟨rfl, rfl, rfl, by decide +kernel, rfl, by decide +kernel, by decide +kernel⟩
def spDI (C : Addr) : Sp := fun vs H Q _ => ∃ (z dz nt : Addr) (s d r : V), vs = [.ref z, .ref nt, s, d, r] ∧ H z = some (.ins C dz []) ∧ ∀ H', H' z = some (.ins C dz (dfs nt s d r)) → (∀ b, b ≠ z → H' b = H b) → Q .non H'
theorem ok_Deed_init (B : Bt mg) (T_Deed : ClsAt K mg "Deed" c_Deed DF) (D : DefI K mg c_Deed "Deed" "Deed.__init__" s_Deed___init__ ["self", "noted", "start", "done", "refused"] [] 0) : CalI P w K mg base 1 c_Deed "Deed" ["self", "noted", "start", "done", "refused"] [] 0 (spDI c_Deed) := by
  refine cali_of D sc_Deed___init__ (fun vs H Q E h => ?_) (fun f cdv A outer s H vs Q E hr h => ?_)
  · obtain ⟨z, dz, nt, s, d, r, rfl, _⟩ := h
    rfl
  obtain ⟨z, dz, nt, s, d, r, rfl, hz, q⟩ := h
  refine ⟨_, (pss_cons (ps_fld (pv 0) (pv 1) rfl)
      (pss_cons (ps_fld (pv 0) (pv 2) rfl)
      (pss_cons (ps_fld (pv 0) (pv 3) rfl)
      (pss_one (ps_fld (pv 0) (pv 4) rfl))))), ?_⟩
  refine ⟨_, rfl, _, rfl, z, c_Deed, dz, [], rfl, hz, T_Deed.c, T_Deed.n _ (by simp [DF]), (by decide), ?_⟩
  refine ⟨_, rfl, _, rfl, z, c_Deed, dz, _, rfl, upd_same, T_Deed.c, T_Deed.n _ (by simp [DF]), (by show 1 < 1000; decide), ?_⟩
  refine ⟨_, rfl, _, rfl, z, c_Deed, dz, _, rfl, upd_same, T_Deed.c, T_Deed.n _ (by simp [DF]), (by show 2 < 1000; decide), ?_⟩
  refine ⟨_, rfl, _, rfl, z, c_Deed, dz, _, rfl, upd_same, T_Deed.c, T_Deed.n _ (by simp [DF]), (by show 3 < 1000; decide), ?_⟩
  exact q _ upd_same fun b n => by rw [upd_ne n, upd_ne n, upd_ne n, upd_ne n]
/-- a deed stands at z, its notes at nt -/
def DdAt (C : Addr) (H : Hp) (z nt : Addr) (s d r : V) (ls : List V) : Prop := ∃ dz, H z = some (.ins C dz (dfs nt s d r)) ∧ H nt = some (.lst ls) ∧ ls.length ≤ 90000
def spEn (C : Addr) : Sp := fun vs H Q _ => ∃ (z nt : Addr) (s d r : V) (ls : List V), vs = [.ref z] ∧ DdAt C H z nt s d r ls ∧ Q .non (upd H nt (.lst (ls ++ [s])))
def spEx (C : Addr) : Sp := fun vs H Q _ => ∃ (z nt : Addr) (s d r kd : V) (x y : V) (ls : List V), vs = [.ref z, kd, x, y] ∧ DdAt C H z nt s d r ls ∧ (kd = .non → Q .non (upd H nt (.lst (ls ++ [d])))) ∧ (∀ c, kd = .ref c → Q .non (upd H nt (.lst (ls ++ [r])))) ∧ (kd = .non ∨ ∃ c, kd = .ref c)
theorem ok_Deed_enter (T_Deed : ClsAt K mg "Deed" c_Deed DF) (D : DefM K c_Deed "__enter__" "Deed.__enter__" s_Deed___enter__ ["self"]) : CalM P w K mg base 1 c_Deed "__enter__" ["self"] (spEn c_Deed) := by
  refine calm_of D sc_Deed___enter__ (fun vs H Q E h => ?_) (fun f cdv A outer s H vs Q E hr h => ?_)
  · obtain ⟨z, nt, s, d, r, ls, rfl, _⟩ := h
    rfl
  obtain ⟨z, nt, s, d, r, ls, rfl, ⟨dz, hz, hn, hl⟩, q⟩ := h
  refine ⟨_, (pss_one (ps_expr (pe_bm PySem.F.plainAttrs_list PySem.F.slot_list_append PySem.F.type_list_append mt_append (pe_fld (pv 0) rfl) (pa_cons (pe_fld (pv 0) rfl) pa_nil)))), ?_⟩
  refine ⟨_, rfl, z, c_Deed, dz, _, _, rfl, hz, T_Deed.c, T_Deed.n _ (by simp [DF]), rfl, .inl ⟨rfl, _, SqL.of hn⟩, _, rfl, z, c_Deed, dz, _, _, rfl, hz, T_Deed.c, T_Deed.n _ (by simp [DF]), rfl, nt, ls, s, rfl, rfl, hn, smallL (by omega), q⟩
theorem sp_Ex_len : ∀ vs H Q E, spEx c_Deed vs H Q E → vs.length = ["self", "kind", "value", "trace"].length := fun vs H Q E h => by
  obtain ⟨z, nt, s, d, r, kd, x, y, ls, rfl, _⟩ := h
  rfl
theorem ok_Deed_exit (B : Bt mg) (T_Deed : ClsAt K mg "Deed" c_Deed DF) {f : Addr} {fd : FuncData} (F : Fun K "__exit__" "Deed.__exit__" s_Deed___exit__ f fd) : FnOk P w K mg base CX0 1 f fd ["self", "kind", "value", "trace"] (spEx c_Deed) := by
  refine F.ok sc_Deed___exit__ sp_Ex_len (fun cdv A outer s H vs Q E hr h => ?_)
  obtain ⟨z, nt, s, d, r, kd, x, y, ls, rfl, ⟨dz, hz, hn, hl⟩, q1, q2, hk⟩ := h
  refine ⟨_, (pss_one (ps_if (pt_cmpR op_isN (pv 1) pe_non (nomark _))
        (pss_one (ps_expr (pe_bm PySem.F.plainAttrs_list PySem.F.slot_list_append PySem.F.type_list_append mt_append (pe_fld (pv 0) rfl) (pa_cons (pe_fld (pv 0) rfl) pa_nil))))
        (pss_one (ps_expr (pe_bm PySem.F.plainAttrs_list PySem.F.slot_list_append PySem.F.type_list_append mt_append (pe_fld (pv 0) rfl) (pa_cons (pe_fld (pv 0) rfl) pa_nil)))))), ?_⟩
  refine ⟨_, rfl, rfl, _, rfl, ite2 (fun c => ?_) (fun c => ?_)⟩
  · have e : kd = .non := of_decide_eq_true c
    refine ⟨_, rfl, z, c_Deed, dz, _, _, rfl, hz, T_Deed.c, T_Deed.n _ (by simp [DF]), rfl, .inl ⟨rfl, _, SqL.of hn⟩, _, rfl, z, c_Deed, dz, _, _, rfl, hz, T_Deed.c, T_Deed.n _ (by simp [DF]), rfl, nt, ls, d, rfl, rfl, hn, smallL (by omega), q1 e⟩
  · have e : ¬ kd = .non := fun h => c (decide_eq_true h)
    obtain ⟨cc, ec⟩ := hk.resolve_left e
    refine ⟨_, rfl, z, c_Deed, dz, _, _, rfl, hz, T_Deed.c, T_Deed.n _ (by simp [DF]), rfl, .inl ⟨rfl, _, SqL.of hn⟩, _, rfl, z, c_Deed, dz, _, _, rfl, hz, T_Deed.c, T_Deed.n _ (by simp [DF]), rfl, nt, ls, r, rfl, rfl, hn, smallL (by omega), q2 cc ec⟩
theorem ok_Deed_exitP (B : Bt mg) (T_Deed : ClsAt K mg "Deed" c_Deed DF) {f : Addr} {fd : FuncData} (F : Fun K "__exit__" "Deed.__exit__" s_Deed___exit__ f fd) (p : Addr × Obj) : FnP P w K mg base p 1 f fd ["self", "kind", "value", "trace"] (spEx c_Deed) := by
  refine fn_ofPq F sc_Deed___exit__ sp_Ex_len (fun cdv A outer s H vs Q E hr h => ?_)
  obtain ⟨z, nt, s, d, r, kd, x, y, ls, rfl, ⟨dz, hz, hn, hl⟩, q1, q2, hk⟩ := h
  refine ⟨_, (pss_one (ps_if (pt_cmpR op_isN (pv 1) pe_non (nomark _))
        (pss_one (ps_expr (pe_bm PySem.F.plainAttrs_list PySem.F.slot_list_append PySem.F.type_list_append mt_append (pe_fld (pv 0) rfl) (pa_cons (pe_fld (pv 0) rfl) pa_nil))))
        (pss_one (ps_expr (pe_bm PySem.F.plainAttrs_list PySem.F.slot_list_append PySem.F.type_list_append mt_append (pe_fld (pv 0) rfl) (pa_cons (pe_fld (pv 0) rfl) pa_nil)))))), ?_⟩
  refine ⟨_, rfl, rfl, _, rfl, ite2 (fun c => ?_) (fun c => ?_)⟩
  · have e : kd = .non := of_decide_eq_true c
    refine ⟨_, rfl, z, c_Deed, dz, _, _, rfl, hz, T_Deed.c, T_Deed.n _ (by simp [DF]), rfl, .inl ⟨rfl, _, SqL.of hn⟩, _, rfl, z, c_Deed, dz, _, _, rfl, hz, T_Deed.c, T_Deed.n _ (by simp [DF]), rfl, nt, ls, d, rfl, rfl, hn, smallL (by omega), q1 e⟩
  · have e : ¬ kd = .non := fun h => c (decide_eq_true h)
    obtain ⟨cc, ec⟩ := hk.resolve_left e
    refine ⟨_, rfl, z, c_Deed, dz, _, _, rfl, hz, T_Deed.c, T_Deed.n _ (by simp [DF]), rfl, .inl ⟨rfl, _, SqL.of hn⟩, _, rfl, z, c_Deed, dz, _, _, rfl, hz, T_Deed.c, T_Deed.n _ (by simp [DF]), rfl, nt, ls, r, rfl, rfl, hn, smallL (by omega), q2 cc ec⟩
end
end Lm

set_option Elab.async false
set_option linter.all false
set_option maxRecDepth 100000
set_option maxHeartbeats 2000000
set_option pp.maxSteps 20000
set_option pp.deepTerms true
namespace Lm
open PySem PySem.Spec PyProof.Rows L2 LmR
/-! ### Maker -/
def mfs (hd st ms : V) (ths : Addr) (on : Int) (nt : Addr) : List (Str × V) := [fp "head" hd, fp "stock" st, fp "most" ms, fp "things" (.ref ths), fp "onward" (.int on), fp "noted" (.ref nt)]
structure Mkr (K : PySem.W.Frag) (C : Addr) (H : Hp) (m dx ths nt : Addr) (hd st ms : V) (kept : List (Int × PyData)) (on : Int) (log : List PyData) : Prop where
  ob : H m = some (.ins C dx (mfs hd st ms ths on nt))
  th : ∃ kvs, H ths = some (.dK kvs) ∧ KF K H kvs kept
  lg : ∃ ls, H nt = some (.lst ls) ∧ Fds K H ls log
  lt : ∀ d ∈ kept, d.1 < on
  sm : kept.length ≤ 5000 ∧ log.length ≤ 5000
  nn : 0 ≤ on ∧ on ≤ 9000
theorem Mkr.off {K : PySem.W.Frag} {C : Addr} {H H' : Hp} {m dx ths nt : Addr} {hd st ms : V} {kept : List (Int × PyData)} {on : Int} {log : List PyData} (h : Mkr K C H m dx ths nt hd st ms kept on log)
    (k : ∀ b o, H b = some o → (b = m ∨ b = ths ∨ b = nt) → H' b = some o) (t : Tp K H H') : Mkr K C H' m dx ths nt hd st ms kept on log := by
  obtain ⟨kvs, a, b⟩ := h.th
  obtain ⟨ls, c, d⟩ := h.lg
  exact ⟨k _ _ h.ob (.inl rfl), ⟨kvs, k _ _ a (.inr (.inl rfl)), b.keep t⟩, ⟨ls, k _ _ c (.inr (.inr rfl)), d.1, dps_keep t _ _ d.1 d.2⟩, h.lt, h.sm, h.nn⟩
theorem Mkr.same {K : PySem.W.Frag} {C : Addr} {H H' : Hp} {m dx ths nt : Addr} {hd st ms : V} {kept : List (Int × PyData)} {on : Int} {log : List PyData} (h : Mkr K C H m dx ths nt hd st ms kept on log) (s : Same H H') : Mkr K C H' m dx ths nt hd st ms kept on log :=
  h.off (fun b o e _ => s b o e) (Tp.same s)
section
variable {P : Program} {w : World} {K : PySem.W.Frag} {mg : Str → Option Value} {base : Heap} {c_Deed c_Maker : Addr}
abbrev s_Maker___init__ : Stmt := inClass (topS 40) 0
theorem sc_Maker___init__ : FnScope ["self", "head", "stock", "most"] ["self", "head", "stock", "most"] (defScope s_Maker___init__) := ⟨rfl, rfl, rfl, by decide +kernel, rfl, by decide +kernel, by decide +kernel⟩
abbrev s_Maker_deed : Stmt := inClass (topS 40) 11
theorem sc_Maker_deed : FnScope ["self", "word"] ["self", "word"] (defScope s_Maker_deed) := ⟨rfl, rfl, rfl, by decide +kernel, rfl, by decide +kernel, by decide +kernel⟩
abbrev s_Maker_numbered : Stmt := inClass (topS 40) 12
theorem sc_Maker_numbered : FnScope ["self", "fresh", "numbers", "number", "thing"] ["self", "fresh"] (defScope s_Maker_numbered) := ⟨rfl, rfl, rfl, by decide +kernel, rfl, by decide +kernel, by decide +kernel⟩
abbrev s_Maker_kept : Stmt := inClass (topS 40) 4
theorem sc_Maker_kept : FnScope ["self"] ["self"] (defScope s_Maker_kept) := ⟨rfl, rfl, rfl, by decide +kernel, rfl, by decide +kernel, by decide +kernel⟩
abbrev s_Maker_log : Stmt := inClass (topS 40) 7
theorem sc_Maker_log : FnScope ["self"] ["self"] (defScope s_Maker_log) := ⟨rfl, rfl, rfl, by decide +kernel, rfl, by decide +kernel, by decide +kernel⟩
abbrev s_Maker_is_busy : Stmt := inClass (topS 40) 8
theorem sc_Maker_is_busy : FnScope ["self"] ["self"] (defScope s_Maker_is_busy) := ⟨rfl, rfl, rfl, by decide +kernel, rfl, by decide +kernel, by decide +kernel⟩
abbrev s_Maker___len__ : Stmt := inClass (topS 40) 9
theorem sc_Maker___len__ : FnScope ["self"] ["self"] (defScope s_Maker___len__) := ⟨rfl, rfl, rfl, by decide +kernel, rfl, by decide +kernel, by decide +kernel⟩
def spMI (C : Addr) : Sp := fun vs H Q _ => ∃ (m dx : Addr) (hd st ms : V), vs = [.ref m, hd, st, ms] ∧ H m = some (.ins C dx []) ∧
  ∀ (H' : Hp) (ths nt : Addr), H ths = none → H nt = none → H' m = some (.ins C dx (mfs hd st ms ths 0 nt)) → H' ths = some (.dK []) → H' nt = some (.lst []) → (∀ b o, H b = some o → b ≠ m → H' b = some o) → Q .non H'
theorem ok_Maker_init (T_Maker : ClsAt K mg "Maker" c_Maker MF) {mvs : List V} (D : DefIW K mg c_Maker "Maker" "Maker.__init__" s_Maker___init__ ["self", "head", "stock", "most"] mvs) : CalIW P w K mg base 1 c_Maker "Maker" ["self", "head", "stock", "most"] mvs (spMI c_Maker) := by
  refine caliw_of D sc_Maker___init__ (fun vs H Q E h => ?_) (fun f cdv A outer s H vs Q E hr h => ?_)
  · obtain ⟨m, dx, hd, st, ms, rfl, _⟩ := h
    rfl
  obtain ⟨m, dx, hd, st, ms, rfl, hm, q⟩ := h
  refine ⟨_, (pss_cons (ps_fld (pv 0) (pv 1) rfl)
      (pss_cons (ps_fld (pv 0) (pv 2) rfl)
      (pss_cons (ps_fld (pv 0) (pv 3) rfl)
      (pss_cons (ps_fld (pv 0) pe_dnewK rfl)
      (pss_cons (ps_fld (pv 0) pe_int rfl)
      (pss_one (ps_fld (pv 0) (pe_lst pa_nil) rfl))))))), ?_⟩
  refine ⟨_, rfl, _, rfl, m, c_Maker, dx, [], rfl, hm, T_Maker.c, T_Maker.n _ (by simp [MF]), (by decide), ?_⟩
  refine ⟨_, rfl, _, rfl, m, c_Maker, dx, _, rfl, upd_same, T_Maker.c, T_Maker.n _ (by simp [MF]), (by show 1 < 1000; decide), ?_⟩
  refine ⟨_, rfl, _, rfl, m, c_Maker, dx, _, rfl, upd_same, T_Maker.c, T_Maker.n _ (by simp [MF]), (by show 2 < 1000; decide), ?_⟩
  have o1 : ∀ b o, H b = some o → b ≠ m → (upd (upd (upd H m (.ins c_Maker dx (putF "head" hd []))) m (.ins c_Maker dx (putF "stock" st (putF "head" hd [])))) m (.ins c_Maker dx (putF "most" ms (putF "stock" st (putF "head" hd []))))) b = some o := fun b o e n => by
    rw [upd_ne n, upd_ne n, upd_ne n]
    exact e
  have e1 : (upd (upd (upd H m (.ins c_Maker dx (putF "head" hd []))) m (.ins c_Maker dx (putF "stock" st (putF "head" hd [])))) m (.ins c_Maker dx (putF "most" ms (putF "stock" st (putF "head" hd []))))) m = some (.ins c_Maker dx [fp "head" hd, fp "stock" st, fp "most" ms]) := upd_same
  generalize upd (upd (upd H m (.ins c_Maker dx (putF "head" hd []))) m (.ins c_Maker dx (putF "stock" st (putF "head" hd [])))) m (.ins c_Maker dx (putF "most" ms (putF "stock" st (putF "head" hd [])))) = H1 at o1 e1
  refine fun ths hths => ⟨_, rfl, m, c_Maker, dx, _, rfl, by rw [upd_ne (ne_of_none e1 hths)]; exact e1, T_Maker.c, T_Maker.n _ (by simp [MF]), (by show 3 < 1000; decide), ?_⟩
  have nm : m ≠ ths := ne_of_none e1 hths
  refine ⟨_, rfl, m, c_Maker, dx, _, rfl, upd_same, T_Maker.c, T_Maker.n _ (by simp [MF]), (by show 4 < 1000; decide), ?_⟩
  refine ⟨(by show 0 ≤ sizeLine; decide), fun nt hnt => ?_⟩
  have nn : m ≠ nt := fun z => by rw [← z, upd_same] at hnt; cases hnt
  have nt1 : nt ≠ ths := fun z => by rw [z, upd_ne nm.symm, upd_ne nm.symm, upd_same] at hnt; cases hnt
  have hnt1 : H1 nt = none := by rw [upd_ne nn.symm, upd_ne nn.symm, upd_ne nt1] at hnt; exact hnt
  refine ⟨_, rfl, m, c_Maker, dx, _, rfl, by rw [upd_ne nn]; exact upd_same, T_Maker.c, T_Maker.n _ (by simp [MF]), (by show 5 < 1000; decide), ?_⟩
  have f0 : ∀ b, H1 b = none → b ≠ m → H b = none := fun b h n => by
    cases e : H b with
    | none => rfl
    | some o => rw [o1 b o e n] at h; cases h
  refine q _ ths nt (f0 _ hths nm.symm) (f0 _ hnt1 nn.symm) upd_same ?_ ?_ fun b o e n => ?_
  · rw [upd_ne nm.symm, upd_ne nt1.symm, upd_ne nm.symm, upd_ne nm.symm, upd_same]
  · rw [upd_ne nn.symm, upd_same]
  · have e' := o1 b o e n
    rw [upd_ne n, upd_ne (ne_of_none e' hnt1), upd_ne n, upd_ne n, upd_ne (ne_of_none e' hths)]
    exact e'
def spDeed (K : PySem.W.Frag) (CD C : Addr) : Sp := fun vs H Q _ => ∃ (m dx ths nt : Addr) (hd st ms : V) (kept : List (Int × PyData)) (on : Int) (log : List PyData) (x : Str), vs = [.ref m, .str x] ∧ Mkr K C H m dx ths nt hd st ms kept on log ∧
  ∀ (H' : Hp) (z : Addr) (s d r : V) (ls : List V), Same H H' → H z = none → DdAt CD H' z nt s d r ls → Fds K H' ls log → Fd K H' s (.tuple [.str "in", .str x]) → Fd K H' d (.tuple [.str "out", .str x]) → Fd K H' r (.tuple [.str "out", .str x]) → Q (.ref z) H'
theorem ok_Maker_deed (T_Maker : ClsAt K mg "Maker" c_Maker MF) (I_Deed : CalI P w K mg base 1 c_Deed "Deed" ["self", "noted", "start", "done", "refused"] [] 0 (spDI c_Deed)) (D : DefM K c_Maker "deed" "Maker.deed" s_Maker_deed ["self", "word"]) : CalM P w K mg base 3 c_Maker "deed" ["self", "word"] (spDeed K c_Deed c_Maker) := by
  refine calm_of D sc_Maker_deed (fun vs H Q E h => ?_) (fun f cdv A outer s H vs Q E hr h => ?_)
  · obtain ⟨m, dx, ths, nt, hd, st, ms, kept, on, log, x, rfl, _⟩ := h
    rfl
  obtain ⟨m, dx, ths, nt, hd, st, ms, kept, on, log, x, rfl, hM, q⟩ := h
  have hr'' : Room (1 + 1) _ := hr
  refine ⟨_, (pss_one (ps_ret (pe_calI I_Deed hr'' (by rfl) (pa_cons (pe_fld (pv 0) rfl) (pa_cons (pe_tup (pa_cons pe_str (pa_cons (pv 1) pa_nil))) (pa_cons (pe_tup (pa_cons pe_str (pa_cons (pv 1) pa_nil))) (pa_cons (pe_tup (pa_cons pe_str (pa_cons (pv 1) pa_nil))) pa_nil))))))), ?_⟩
  obtain ⟨ls, hn, hls⟩ := hM.lg
  have fT : ∀ {H : Hp} {t : Addr} {y : Str}, H t = some (.tup [.str y, .str x]) → Fd K H (.ref t) (.tuple [.str y, .str x]) := fun {H t y} e => ⟨rfl, .tup (.inl (.inl e)) (.cons (.str _) (.cons (.str _) .nil))⟩
  refine ⟨_, rfl, m, c_Maker, dx, _, _, rfl, hM.ob, T_Maker.c, T_Maker.n _ (by simp [MF]), rfl, _, rfl, (by show 2 ≤ sizeLine; decide), fun t1 h1 => ⟨_, rfl, (by show 2 ≤ sizeLine; decide), fun t2 h2 => ⟨_, rfl, (by show 2 ≤ sizeLine; decide), fun t3 h3 => ?_⟩⟩⟩
  have s1 := same_new (o := .tup [.str "in", .str x]) h1
  have s2 := same_new (o := .tup [.str "out", .str x]) h2
  have s3 := same_new (o := .tup [.str "out", .str x]) h3
  have sA := (s1.trans s2).trans s3
  have k1 := fT ((s2.trans s3) _ _ upd_same : _ = some (.tup [.str "in", .str x]))
  have k2 := fT (s3 _ _ upd_same : _ = some (.tup [.str "out", .str x]))
  have k3 := fT (upd_same : upd (upd (upd H t1 (.tup [.str "in", .str x])) t2 (.tup [.str "out", .str x])) t3 (.tup [.str "out", .str x]) t3 = some (.tup [.str "out", .str x]))
  generalize upd (upd (upd H t1 (.tup [.str "in", .str x])) t2 (.tup [.str "out", .str x])) t3 (.tup [.str "out", .str x]) = H3 at sA k1 k2 k3
  refine fun z dz hz hdz nzd => ⟨z, dz, nt, .ref t1, .ref t2, .ref t3, rfl, upd_same, fun H' e o => ⟨rfl, ?_⟩⟩
  have sB : Same H3 H' := fun b o' e' => by
    rw [o b (ne_of_none e' hz), upd_ne (ne_of_none e' hz), upd_ne (ne_of_none e' hdz)]
    exact e'
  have sC := sA.trans sB
  have tp := Tp.same (K := K) sC
  exact q H' z _ _ _ ls sC (sA.free hz) ⟨dz, e, sC _ _ hn, by have := hM.sm.2; rw [Fds.len hls]; omega⟩ ⟨hls.1, dps_keep tp _ _ hls.1 hls.2⟩ (k1.keep (Tp.same sB)) (k2.keep (Tp.same sB)) (k3.keep (Tp.same sB))
end
end Lm

set_option Elab.async false
set_option linter.all false
set_option maxRecDepth 100000
set_option maxHeartbeats 2000000
set_option pp.maxSteps 20000
set_option pp.deepTerms true
namespace Lm
open PySem PySem.Spec PyProof.Rows L2 LmR
/-- things by the numbers from n on -/
def numD : Int → List PyData → List (Int × PyData)
  | _, [] => []
  | n, d :: ds => (n, d) :: numD (n + 1) ds
theorem numD_len : ∀ (n : Int) (ds : List PyData), (numD n ds).length = ds.length
  | _, [] => rfl
  | n, d :: ds => by simp [numD, numD_len (n + 1) ds]
theorem numD_lt : ∀ (n : Int) (ds : List PyData), ∀ x ∈ numD n ds, n ≤ x.1 ∧ x.1 < n + ds.length
  | _, [], x, h => nomatch h
  | n, d :: ds, x, h => by
    rcases List.mem_cons.mp h with z | z
    · rw [z]
      simp only [List.length_cons]
      omega
    · have := numD_lt (n + 1) ds x z
      simp only [List.length_cons]
      omega
theorem numD_snoc : ∀ (n : Int) (ds : List PyData) (d : PyData), numD n (ds ++ [d]) = numD n ds ++ [(n + ds.length, d)]
  | n, [], d => by simp [numD]
  | n, e :: ds, d => by
    have e : n + 1 + (ds.length : Int) = n + ((e :: ds).length : Int) := by
      simp only [List.length_cons]
      omega
    rw [List.cons_append, numD, numD_snoc (n + 1) ds d, numD, List.cons_append, e]
section
variable {P : Program} {w : World} {K : PySem.W.Frag} {mg : Str → Option Value} {base : Heap} {c_Deed c_Maker : Addr}
theorem seqX {H H' : Hp} {a d : Addr} {xs : List V} {kvs : List (Key × V)} (q : SqL K H a xs) (e : Ex [d] H H') (hd : H d = some (.dK kvs)) : SqL K H' a xs := by
  rcases q with (q | ⟨u, q⟩) | q
  · exact .inl (.inl (e _ _ q (fun z => by rw [List.mem_singleton.mp z, hd] at q; cases q)))
  · exact .inl (.inr ⟨u, e _ _ q (fun z => by rw [List.mem_singleton.mp z, hd] at q; cases q)⟩)
  · exact .inr q
theorem at_lastM {xs : List V} {v : V} (h : 1 ≤ xs.length) (e : xs[xs.length - 1]? = some v) : atI xs (-1) = some v := by
  unfold atI ixN
  rw [if_neg (by decide), if_pos (by omega)]
  show xs[_]? = some v
  rw [← e]
  congr 1
  omega
theorem kf_no {H : Hp} : ∀ {kvs : List (Key × V)} {ds : List (Int × PyData)} {n : Int}, KF K H kvs ds → (∀ d ∈ ds, d.1 < n) → valV kvs (.inl n) = none
  | _, _, _, .nil, _ => rfl
  | (c, v) :: kvs, (i, d) :: ds, n, .cons ⟨e, h⟩ t, lt => by
    simp only at e
    have h0 := lt (i, d) List.mem_cons_self
    rw [valV_neg (fun z => by rw [e] at z; have := Sum.inl.inj z; simp only at h0; omega)]
    exact kf_no t fun d hd => lt d (List.mem_cons_of_mem _ hd)
theorem KF.snoc {H : Hp} : ∀ {kvs : List (Key × V)} {ds : List (Int × PyData)} {n : Int} {v : V} {d : PyData}, KF K H kvs ds → Fd K H v d → KF K H (kvs ++ [(.inl n, v)]) (ds ++ [(n, d)])
  | _, _, _, _, _, .nil, h => .cons ⟨rfl, h⟩ .nil
  | _, _, _, _, _, .cons a t, h => .cons a (KF.snoc t h)
def spNum (K : PySem.W.Frag) (C : Addr) : Sp := fun vs H Q _ => ∃ (m dx ths nt fl : Addr) (hd0 st ms : V) (kept : List (Int × PyData)) (on : Int) (log : List PyData) (us : List V) (ds : List PyData), vs = [.ref m, .ref fl] ∧ Mkr K C H m dx ths nt hd0 st ms kept on log ∧ SqL K H fl us ∧ fl ≠ nt ∧ Fds K H us ds ∧
  kept.length + ds.length ≤ 5000 ∧ on + ds.length ≤ 9000 ∧ ∀ (H' : Hp) (p : Addr), Ex [m, ths] H H' → H p = none → H' p = some (.lst ((List.range ds.length).map fun (i : Nat) => V.int (on + (i : Int)))) → Mkr K C H' m dx ths nt hd0 st ms (kept ++ numD on ds) (on + ds.length) log → Q (.ref p) H'
theorem ok_Maker_numbered (B : Bt mg) (T_Maker : ClsAt K mg "Maker" c_Maker MF) (D : DefM K c_Maker "numbered" "Maker.numbered" s_Maker_numbered ["self", "fresh"]) : CalM P w K mg base 1 c_Maker "numbered" ["self", "fresh"] (spNum K c_Maker) := by
  refine calm_of D sc_Maker_numbered (fun vs H Q E h => ?_) (fun f cdv A outer s H vs Q E hr h => ?_)
  · obtain ⟨m, dx, ths, nt, fl, hd, st, ms, kept, on, log, us, ds, rfl, _⟩ := h
    rfl
  obtain ⟨m, dx, ths, nt, fl, hd0, st, ms, kept, on, log, us, ds, rfl, hM, hfl, nfl, hds, hz, hz2, q⟩ := h
  refine ⟨_, (pss_cons (ps_set (i := 2) sc_Maker_numbered.nd rfl (.inl rfl) (pe_listRg rfl (by rfl) B.list (prg_2 (by rfl) B.range (pe_fld (pv 0) rfl) (pe_op op_add (pe_fld (pv 0) rfl) (pe_callB call_len_seq (by rfl) B.len PySem.boot_len (pa_cons (pv 1) pa_nil))))))
      (pss_cons (ps_for PassesOwn.never rfl (pi_zip (by rfl) B.zip (pa_cons (pv 2) (pa_cons (pv 1) pa_nil))) (pg_tup rfl (pgs_cons (pg_name (i := 3) sc_Maker_numbered.nd rfl (.inl rfl)) (pgs_cons (pg_name (i := 4) sc_Maker_numbered.nd rfl (.inl rfl)) pgs_nil)))
        (pss_one (ps_dput (hu_of hr) (pe_fld (pv 0) rfl) (pv 3) (pv 4) rfl)))
      (pss_cons (ps_fldaug (pv 0) (pe_callB call_len_seq (by rfl) B.len PySem.boot_len (pa_cons (pv 1) pa_nil)) in_add)
      (pss_one (ps_ret (pv 2)))))), ?_⟩
  have ul := hds.len
  have hrg : RgOk on (on + ((us.length : Nat) : Int)) := RgOk.of_le hM.nn.1 (by omega) (by have := hM.nn.2; omega) (by have := hM.nn.1; omega)
  refine ⟨_, rfl, m, c_Maker, dx, _, _, rfl, hM.ob, T_Maker.c, T_Maker.n _ (by simp [MF]), rfl, _, rfl, m, c_Maker, dx, _, _, rfl, hM.ob, T_Maker.c, T_Maker.n _ (by simp [MF]), rfl, _, rfl, fl, us, rfl, .inl hfl, on, _, rfl, rfl, on, _, rfl, rfl, hrg, fun p hp => ?_⟩
  have s1 := same_new (o := .lst (rgV on (on + ((us.length : Nat) : Int)))) hp
  have hp1 : upd H p (.lst (rgV on (on + ((us.length : Nat) : Int)))) p = some (.lst (rgV on (on + ((us.length : Nat) : Int)))) := upd_same
  generalize upd H p (.lst (rgV on (on + ((us.length : Nat) : Int)))) = H1 at s1 hp1
  have erg : rgV on (on + ((us.length : Nat) : Int)) = (List.range ds.length).map fun (i : Nat) => V.int (on + (i : Int)) := by
    unfold rgV
    rw [show (on + ((us.length : Nat) : Int) - on).toNat = ds.length by omega]
  rw [erg] at hp1
  obtain ⟨kv0, ht0, hk0⟩ := hM.th
  have nmt : m ≠ ths := fun z => by have := hM.ob; rw [z, ht0] at this; cases this
  have npt : p ≠ ths := (ne_of_none ht0 hp).symm
  refine ⟨_, rfl, _, rfl, p, fl, _, us, rfl, SqL.of hp1, s1.seq hfl, for_zipL (K := K) (xs := (List.range ds.length).map fun (i : Nat) => V.int (on + (i : Int))) (ys := us) (fun i σ H' => (∃ y3 y4 : Option V, σ = [some (.ref m), some (.ref fl), some (.ref p), y3, y4]) ∧ Ex [ths] H1 H' ∧ ∃ kvs, H' ths = some (.dK kvs) ∧ KF K H' kvs (kept ++ numD on (ds.take i))) ?_ ?_ ?_ ?_ ?_⟩
  · rw [List.length_map, List.length_range]
    omega
  · exact ⟨⟨_, _, rfl⟩, Ex.of_same (Same.refl _), kv0, s1 _ _ ht0, by rw [List.take_zero, numD, List.append_nil]; exact hk0.keep (Tp.same s1)⟩
  · rintro i σ H' ⟨_, ex, _⟩
    exact ⟨SqL.of (ex _ _ hp1 (by simp [npt])), seqX (s1.seq hfl) ex (s1 _ _ ht0)⟩
  · rintro i x y _ H' T hx hy ⟨⟨y3, y4, rfl⟩, ex, kvs, hk, hK⟩ hT
    have hi : i < ds.length := by
      have := (List.getElem?_eq_some_iff.mp hx).1
      rw [List.length_map, List.length_range] at this
      exact this
    have ex0 : x = V.int (on + (i : Int)) := by
      rw [List.getElem?_map, List.getElem?_range hi] at hx
      exact (Option.some.inj hx).symm
    subst ex0
    obtain ⟨d, hd, fd⟩ := hds.nth hy
    have sT := same_new (o := .tup [.int (on + (i : Int)), y]) hT
    have tp1 : Tp K H (upd H' T (.tup [.int (on + (i : Int)), y])) := ((Tp.same s1).trans (ex.tp fun b hb ys q => by rw [List.mem_singleton.mp hb] at q; rcases q with q | ⟨o, q⟩ <;> rw [s1 _ _ ht0] at q <;> cases q)).trans (Tp.same sT)
    refine ⟨T, [_, _], rfl, .inl (.inl upd_same), rfl, _, [_], rfl, _, [], rfl, rfl, ?_⟩
    have hm' : H' m = some (.ins c_Maker dx (mfs hd0 st ms ths on nt)) := ex _ _ (s1 _ _ hM.ob) (by simp [nmt])
    have hk' := sT _ _ hk
    have no : valV kvs (.inl (on + (i : Int))) = none := kf_no hK fun d hd => by
      rcases List.mem_append.mp hd with z | z
      · have := hM.lt d z
        omega
      · have := (numD_lt on (ds.take i) d z).2
        rw [List.length_take] at this
        omega
    have kl : kvs.length ≤ 5000 := by
      rw [hK.len, List.length_append, numD_len, List.length_take]
      have := hM.sm.1
      omega
    refine ⟨_, rfl, _, rfl, m, c_Maker, dx, _, _, rfl, sT _ _ hm', T_Maker.c, T_Maker.n _ (by simp [MF]), rfl, _, rfl, ths, _, rfl, DPut.k (k := .inl (on + (i : Int))) hk' (Nat.lt_of_le_of_lt kl (by decide)), ⟨_, _, rfl⟩, ?_, _, upd_same, ?_⟩
    · exact (ex.trans (Ex.of_same sT)).trans (Ex.at (by simp))
    · rw [putK_new _ no]
      have e : kept ++ numD on (ds.take (i + 1)) = (kept ++ numD on (ds.take i)) ++ [(on + (i : Int), d)] := by
        rw [List.take_add_one, hd]
        show kept ++ numD on (ds.take i ++ [d]) = _
        rw [numD_snoc, List.append_assoc]
        congr 4
        rw [List.length_take]
        omega
      rw [e]
      have tp2 : Tp K (upd H' T (.tup [.int (on + (i : Int)), y])) (upd (upd H' T (.tup [.int (on + (i : Int)), y])) ths (.dK (kvs ++ [(.inl (on + (i : Int)), y)]))) := Tp.put hk' (fun _ z => nomatch z) (fun _ _ z => nomatch z)
      exact KF.snoc (hK.keep ((Tp.same sT).trans tp2)) (fd.keep (tp1.trans tp2))
  · rintro _ H' ⟨⟨y3, y4, rfl⟩, ex, kvs, hk, hK⟩
    rw [List.length_map, List.length_range, List.take_length] at hK
    have hm' : H' m = some (.ins c_Maker dx (mfs hd0 st ms ths on nt)) := ex _ _ (s1 _ _ hM.ob) (by simp [nmt])
    have hfl' : SqL K H' fl us := seqX (s1.seq hfl) ex (s1 _ _ ht0)
    refine ⟨_, rfl, m, c_Maker, dx, _, _, rfl, hm', T_Maker.c, T_Maker.n _ (by simp [MF]), rfl, _, rfl, fl, us, rfl, .inl hfl', on, _, rfl, rfl, dx, _, hm', (by show 6 < 1000; decide), ?_⟩
    have npm : p ≠ m := (ne_of_none hM.ob hp).symm
    have tp : Tp K H (upd H' m (.ins c_Maker dx (putF "onward" (.int (on + ((us.length : Nat) : Int))) (mfs hd0 st ms ths on nt)))) :=
      ((Tp.same s1).trans (ex.tp fun b hb ys q => by rw [List.mem_singleton.mp hb] at q; rcases q with q | ⟨o, q⟩ <;> rw [s1 _ _ ht0] at q <;> cases q)).trans (Tp.put hm' (fun _ z => nomatch z) (fun _ _ z => nomatch z))
    have exA : Ex [m, ths] H (upd H' m (.ins c_Maker dx (putF "onward" (.int (on + ((us.length : Nat) : Int))) (mfs hd0 st ms ths on nt)))) := fun b o e n => by
      have n1 : b ≠ m := fun z => n (by rw [z]; simp)
      have n2 : b ≠ ths := fun z => n (by rw [z]; simp)
      rw [upd_ne n1]
      exact ex _ _ (s1 _ _ e) (by simp [n2])
    obtain ⟨ls, g1, g2⟩ := hM.lg
    have nn : nt ≠ m := fun z => by rw [z, hM.ob] at g1; cases g1
    have nn2 : nt ≠ ths := fun z => by rw [z, ht0] at g1; cases g1
    refine ⟨_, rfl, ?_⟩
    refine q _ p exA hp ?_ ⟨?_, ⟨kvs, ?_, hK.keep ?_⟩, ⟨ls, exA _ _ g1 (by simp [nn, nn2]), g2.keep tp⟩, fun d hd => ?_, ⟨?_, hM.sm.2⟩, ?_⟩
    · rw [upd_ne npm]
      exact ex _ _ hp1 (by simp [npt])
    · rw [upd_same, ul]
      rfl
    · rw [upd_ne nmt.symm]
      exact hk
    · exact Tp.put hm' (fun _ z => nomatch z) (fun _ _ z => nomatch z)
    · rcases List.mem_append.mp hd with z | z
      · have := hM.lt d z
        omega
      · exact (numD_lt on ds d z).2
    · rw [List.length_append, numD_len]
      exact hz
    · have := hM.nn
      omega
def spKept (K : PySem.W.Frag) (C : Addr) : Sp := fun vs H Q _ => ∃ (m dx ths nt : Addr) (hd st ms : V) (kept : List (Int × PyData)) (on : Int) (log : List PyData), vs = [.ref m] ∧ Mkr K C H m dx ths nt hd st ms kept on log ∧
  ∀ (p : Addr) (kvs : List (Key × V)), H p = none → KF K H kvs kept → Q (.ref p) (upd H p (.dK kvs))
theorem ok_Maker_kept (Bd : mg "dict" = none) (T_Maker : ClsAt K mg "Maker" c_Maker MF) (D : DefM K c_Maker "kept" "Maker.kept" s_Maker_kept ["self"]) : CalM P w K mg base 1 c_Maker "kept" ["self"] (spKept K c_Maker) := by
  refine calm_of D sc_Maker_kept (fun vs H Q E h => ?_) (fun f cdv A outer s H vs Q E hr h => ?_)
  · obtain ⟨m, dx, ths, nt, hd, st, ms, kept, on, log, rfl, _⟩ := h
    rfl
  obtain ⟨m, dx, ths, nt, hd, st, ms, kept, on, log, rfl, hM, q⟩ := h
  refine ⟨_, (pss_one (ps_ret (pe_callTy call_dictD (by rfl) Bd PyProof.Rows.boot_dict (pa_cons (pe_fld (pv 0) rfl) pa_nil)))), ?_⟩
  obtain ⟨kvs, h1, h2⟩ := hM.th
  exact ⟨_, rfl, m, c_Maker, dx, _, _, rfl, hM.ob, T_Maker.c, T_Maker.n _ (by simp [MF]), rfl, ths, kvs, rfl, .inl h1, fun p hp => q p kvs hp h2⟩
def spLog (K : PySem.W.Frag) (C : Addr) : Sp := fun vs H Q _ => ∃ (m dx ths nt : Addr) (hd st ms : V) (kept : List (Int × PyData)) (on : Int) (log : List PyData), vs = [.ref m] ∧ Mkr K C H m dx ths nt hd st ms kept on log ∧
  ∀ (p : Addr) (ls : List V), H p = none → Fds K H ls log → Q (.ref p) (upd H p (.lst ls))
theorem ok_Maker_log (B : Bt mg) (T_Maker : ClsAt K mg "Maker" c_Maker MF) (D : DefM K c_Maker "log" "Maker.log" s_Maker_log ["self"]) : CalM P w K mg base 1 c_Maker "log" ["self"] (spLog K c_Maker) := by
  refine calm_of D sc_Maker_log (fun vs H Q E h => ?_) (fun f cdv A outer s H vs Q E hr h => ?_)
  · obtain ⟨m, dx, ths, nt, hd, st, ms, kept, on, log, rfl, _⟩ := h
    rfl
  obtain ⟨m, dx, ths, nt, hd, st, ms, kept, on, log, rfl, hM, q⟩ := h
  refine ⟨_, (pss_one (ps_ret (pe_callTy call_list_of (by rfl) B.list PyProof.Rows.boot_list (pa_cons (pe_fld (pv 0) rfl) pa_nil)))), ?_⟩
  obtain ⟨ls, h1, h2⟩ := hM.lg
  exact ⟨_, rfl, m, c_Maker, dx, _, _, rfl, hM.ob, T_Maker.c, T_Maker.n _ (by simp [MF]), rfl, nt, ls, rfl, .inl (SqL.of h1), fun p hp => q p ls hp h2⟩
/-- the last note is not that something began -/
def calmL (log : List PyData) : Prop := ∀ x, log[log.length - 1]? ≠ some (.tuple [.str "in", .str x])
def spBusy (K : PySem.W.Frag) (C : Addr) : Sp := fun vs H Q _ => ∃ (m dx ths nt : Addr) (hd st ms : V) (kept : List (Int × PyData)) (on : Int) (log : List PyData), vs = [.ref m] ∧ Mkr K C H m dx ths nt hd st ms kept on log ∧
  (log = [] ∨ ∃ (l : List PyData) (x : Str), log = l ++ [.tuple [.str "out", .str x]]) ∧ Q (.bl false) H
theorem ok_Maker_busy (B : Bt mg) (T_Maker : ClsAt K mg "Maker" c_Maker MF) (D : DefM K c_Maker "is_busy" "Maker.is_busy" s_Maker_is_busy ["self"]) : CalM P w K mg base 1 c_Maker "is_busy" ["self"] (spBusy K c_Maker) := by
  refine calm_of D sc_Maker_is_busy (fun vs H Q E h => ?_) (fun f cdv A outer s H vs Q E hr h => ?_)
  · obtain ⟨m, dx, ths, nt, hd, st, ms, kept, on, log, rfl, _⟩ := h
    rfl
  obtain ⟨m, dx, ths, nt, hd, st, ms, kept, on, log, rfl, hM, hc, q⟩ := h
  refine ⟨_, (pss_one (ps_ret (pe_and (pe_cmpR op_gt (pe_callB call_len_seq (by rfl) B.len PySem.boot_len (pa_cons (pe_fld (pv 0) rfl) pa_nil)) pe_int (nomark _)) (pe_one (pe_cmpR op_eq (pe_ix ix_tup (pe_ix ix_list (pe_fld (pv 0) rfl) (pe_un un_neg pe_int) (fun _ _ => rfl)) pe_int (fun _ _ => rfl)) pe_str (nomark _)))))), ?_⟩
  obtain ⟨ls, h1, h2⟩ := hM.lg
  have ll := h2.len
  refine ⟨_, rfl, m, c_Maker, dx, _, _, rfl, hM.ob, T_Maker.c, T_Maker.n _ (by simp [MF]), rfl, nt, ls, rfl, .inl (SqL.of h1), _, _, rfl, rfl, _, rfl, ?_⟩
  rcases hc with rfl | ⟨l, x, rfl⟩
  · have e : decide ((0 : Int) < ((ls.length : Nat) : Int)) = false := decide_eq_false (by rw [ll]; simp)
    rw [e]
    exact iteF q
  · have e : decide ((0 : Int) < ((ls.length : Nat) : Int)) = true := decide_eq_true (by rw [ll]; simp)
    rw [e]
    refine iteT ?_
    have lz : ls.length = l.length + 1 := by rw [ll]; simp
    obtain ⟨v, hv⟩ : ∃ v, ls[l.length]? = some v := ⟨ls[l.length]'(by omega), List.getElem?_eq_getElem (by omega)⟩
    obtain ⟨d, hd, fd⟩ := h2.nth hv
    rw [List.getElem?_append_right (Nat.le_refl _), Nat.sub_self] at hd
    cases hd
    obtain ⟨_, fd⟩ := fd
    cases fd with
    | @tup t vs _ ht hvs =>
      cases hvs with
      | cons a1 r1 =>
        cases a1 with
        | str =>
          refine ⟨_, rfl, m, c_Maker, dx, _, _, rfl, hM.ob, T_Maker.c, T_Maker.n _ (by simp [MF]), rfl, 1, rfl, nt, ls, -1, .ref t, rfl, rfl, SqL.of h1, at_lastM (by omega) (by rw [lz]; exact hv), t, _, 0, .str "out", rfl, rfl, ht, at_of (j := 0) rfl rfl, rfl, ?_⟩
          have e2 : decide (V.str "out" = V.str "in") = false := by decide +kernel
          rw [e2]
          exact q
def spMLen (K : PySem.W.Frag) (C : Addr) : Sp := fun vs H Q _ => ∃ (m dx ths nt : Addr) (hd st ms : V) (kept : List (Int × PyData)) (on : Int) (log : List PyData), vs = [.ref m] ∧ Mkr K C H m dx ths nt hd st ms kept on log ∧ Q (.int kept.length) H
theorem ok_Maker_len (B : Bt mg) (T_Maker : ClsAt K mg "Maker" c_Maker MF) (D : DefM K c_Maker "__len__" "Maker.__len__" s_Maker___len__ ["self"]) : CalM P w K mg base 1 c_Maker "__len__" ["self"] (spMLen K c_Maker) := by
  refine calm_of D sc_Maker___len__ (fun vs H Q E h => ?_) (fun f cdv A outer s H vs Q E hr h => ?_)
  · obtain ⟨m, dx, ths, nt, hd, st, ms, kept, on, log, rfl, _⟩ := h
    rfl
  obtain ⟨m, dx, ths, nt, hd, st, ms, kept, on, log, rfl, hM, q⟩ := h
  refine ⟨_, (pss_one (ps_ret (pe_callB call_lenD (by rfl) B.len PySem.boot_len (pa_cons (pe_fld (pv 0) rfl) pa_nil)))), ?_⟩
  obtain ⟨kvs, h1, h2⟩ := hM.th
  refine ⟨_, rfl, m, c_Maker, dx, _, _, rfl, hM.ob, T_Maker.c, T_Maker.n _ (by simp [MF]), rfl, ths, kvs, rfl, h1, ?_⟩
  rw [h2.len]
  exact q
end
end Lm

set_option Elab.async false
set_option linter.all false
set_option maxRecDepth 100000
set_option maxHeartbeats 2000000
set_option pp.maxSteps 20000
set_option pp.deepTerms true
namespace Lm
open PySem PySem.Spec PyProof.Rows L2 LmR RZ
theorem wtM {W T : Str} {a b : Prop} (h : W = T) (q : a) : if decide (V.str W = V.str T) = true then a else b := by rw [h, decide_eq_true rfl]; exact iteT q
theorem wfM {W T : Str} {a b : Prop} (h : ¬ W = T) (q : b) : if decide (V.str W = V.str T) = true then a else b := by rw [decide_eq_false fun z => h (V.str.inj z)]; exact iteF q
theorem iteF' {b : Bool} {A B : Prop} (h : b = false) (q : B) : if b = true then A else B := by rw [h]; exact iteF q
theorem iteT' {b : Bool} {A B : Prop} (h : b = true) (q : A) : if b = true then A else B := by rw [h]; exact iteT q
/-- a thing of this kind -/
def hasKd (k : Bool) (d : PyData) : Bool := if k then isBl d else isInt d && !isBl d
def all2 : List Bool → List PyData → Bool
  | k :: ks, d :: ds => hasKd k d && all2 ks ds
  | _, _ => true
theorem all2_zip : ∀ (ks : List Bool) (ds : List PyData), (List.zipWith hasKd ks ds).all id = all2 ks ds
  | [], ds => by simp [all2]
  | k :: ks, [] => by simp [all2]
  | k :: ks, d :: ds => by rw [List.zipWith_cons_cons, List.all_cons, all2_zip ks ds]; rfl
/-- inputs of these kinds -/
def areD (ks : List Bool) : PyData → Bool
  | .tuple ds => decide (ds.length = ks.length) && all2 ks ds
  | _ => false
section
variable {P : Program} {w : World} {K : PySem.W.Frag} {mg : Str → Option Value} {base : Heap} {c_Deed c_Maker : Addr}
abbrev s_has_kind : Stmt := topS 22
theorem sc_has_kind : FnScope ["kind", "thing"] ["kind", "thing"] (defScope s_has_kind) := ⟨rfl, rfl, rfl, by decide +kernel, rfl, by decide +kernel, by decide +kernel⟩
def spHK (K : PySem.W.Frag) : Sp := fun vs H Q _ => ∃ (k : Bool) (v : V) (d : PyData), vs = [.str (kS k), v] ∧ Fd K H v d ∧ Q (.bl (hasKd k d)) H
theorem ok_has_kind (B : Bt mg) (C_is_whole : Cal P w K mg base 1 "is_whole" ["thing"] (spWhole K)) (D : DefAt K mg "has_kind" s_has_kind ["kind", "thing"]) : Cal P w K mg base 2 "has_kind" ["kind", "thing"] (spHK K) := by
  refine cal_of D sc_has_kind (fun vs H Q E h => ?_) (fun f cdv A outer s H vs Q E hr h => ?_)
  · obtain ⟨k, v, d, rfl, _⟩ := h
    rfl
  obtain ⟨k, v, d, rfl, hv, q⟩ := h
  have hr' : Room 1 _ := hr
  refine ⟨_, (pss_one (ps_ret (pe_ifExp (pt_cmpR op_eq (pv 0) pe_str (nomark _)) (pe_cal C_is_whole hr' (by rfl) (pa_cons (pv 1) pa_nil)) (pe_callB call_isi (by rfl) B.isinstance (by decide +kernel) (pa_cons (pv 1) (pa_cons (pe_bltn (v := .ty "bool") (by rfl) B.bool PyProof.Rows.boot_bool rfl) pa_nil)))))), ?_⟩
  cases k with
  | true => exact ⟨_, rfl, rfl, _, rfl, wfM (by decide +kernel) ⟨_, rfl, v, _, _, _, _, rfl, .ty _, hv.ty, kit_bl d hv.1, q⟩⟩
  | false => exact ⟨_, rfl, rfl, _, rfl, wtM rfl ⟨_, rfl, v, d, rfl, hv, q⟩⟩
abbrev s_are_inputs : Stmt := topS 43
theorem sc_are_inputs : FnScope ["kinds", "inputs", "kind", "thing"] ["kinds", "inputs"] (defScope s_are_inputs) := ⟨rfl, rfl, rfl, by decide +kernel, rfl, by decide +kernel, by decide +kernel⟩
def spAreI (K : PySem.W.Frag) : Sp := fun vs H Q _ => ∃ (ka : Addr) (ks : List Bool) (v : V) (d : PyData), vs = [.ref ka, v] ∧ SqT K H ka (kVs ks) ∧ Fd K H v d ∧ ks.length ≤ 100 ∧ ∀ H', Same H H' → Q (.bl (areD ks d)) H'
theorem ok_are_inputs (B : Bt mg) (C_has_kind : Cal P w K mg base 2 "has_kind" ["kind", "thing"] (spHK K)) (D : DefAt K mg "are_inputs" s_are_inputs ["kinds", "inputs"]) : Cal P w K mg base 3 "are_inputs" ["kinds", "inputs"] (spAreI K) := by
  refine cal_of D sc_are_inputs (fun vs H Q E h => ?_) (fun f cdv A outer s H vs Q E hr h => ?_)
  · obtain ⟨ka, ks, v, d, rfl, _⟩ := h
    rfl
  obtain ⟨ka, ks, v, d, rfl, hk, hv, hkl, q⟩ := h
  have hr' : Room 2 _ := hr
  refine ⟨_, (pss_cons (ps_if (PW.pt (pw_or (pt_not (pt_val (pe_callB call_isi (by rfl) B.isinstance (by decide +kernel) (pa_cons (pv 1) (pa_cons (pe_bltn (v := .ty "tuple") (by rfl) B.tuple PyProof.Rows.boot_tuple rfl) pa_nil))))) (pw_or1 (pt_cmpR op_ne (pe_callB call_len_seq (by rfl) B.len PySem.boot_len (pa_cons (pv 1) pa_nil)) (pe_callB call_len_seq (by rfl) B.len PySem.boot_len (pa_cons (pv 0) pa_nil)) (nomark _)))))
        (pss_one (ps_ret pe_bl))
        pss_nil)
      (pss_one (ps_ret (pe_callB (cr_all rfl) (by rfl) B.all PyProof.Rows.boot_all (pa_cons (pe_lc (own := [("kind", 2), ("thing", 3)]) (g := gTup K 2 (gCons (gName 2) (gCons (gName 3) gNil))) rfl sc_are_inputs.nd (pi_zipA (by rfl) B.zip (pa_cons (pv 0) (pa_cons (pv 1) pa_nil))) (blkOk_by (own := [("kind", 2), ("thing", 3)]) (N := ["kinds", "inputs", "kind", "thing"]) (sc := defScope s_are_inputs) (by decide +kernel)) (fun _ _ _ _ _ => (pg_tupK (K := K) rfl rfl (pgs_cons (pg_name (i := 2) sc_are_inputs.nd rfl (.inl rfl)) (pgs_cons (pg_name (i := 3) sc_are_inputs.nd rfl (.inl rfl)) pgs_nil)))) (fun _ _ _ _ _ => pts_nil) (fun _ _ _ _ _ => (pe_cal C_has_kind hr' (by rfl) (pa_cons (pv 2) (pa_cons (pv 3) pa_nil))))) pa_nil))))), ?_⟩
  have kl : (kVs ks).length = ks.length := List.length_map _
  by_cases ht : isTup d = true
  · cases d with
    | tuple ds =>
      obtain ⟨fl, hv⟩ := hv
      cases hv with
      | @tup t us _ hq hr0 =>
        have ul := dpall_len hr0
        refine ⟨_, rfl, .ref t, _, _, _, _, rfl, .ty _, tyx_tup hq, kit_tup (.tuple []) rfl, _, rfl, iteF ⟨_, rfl, t, us, rfl, .inr hq, _, rfl, ka, _, rfl, .inr hk, rfl, _, rfl, ?_⟩⟩
        by_cases hl : ds.length = ks.length
        · refine iteNS (by rw [kl, ul, hl]) ?_
          refine ⟨_, rfl, _, rfl, ka, t, _, _, rfl, .inr ⟨hk, hq, fun D hD => lc_it (walk_zipT (K := K) (a := ka) (b := t) (xs := kVs ks) (ys := us) (n := ks.length) (by rw [kl, ul, hl, Nat.min_self])) (fun i H' => Same H H' ∧ H' D = some (.lst (((List.zipWith hasKd ks ds).take i).map V.bl))) ?_ ?_ ?_ ?_⟩⟩
          · exact ⟨same_new hD, by rw [upd_same, List.take_zero]; rfl⟩
          · rintro i H' _ ⟨s', _⟩
            exact ⟨Tp.same s' _ _ hk, Tp.same s' _ _ hq⟩
          · rintro i x H1 H2 hi ⟨s', hB⟩ ⟨T, p, y, rfl, hT, rfl, hp, hy⟩
            have hi : i < ks.length := hi
            have sm2 : Same H1 (upd H1 T (.tup [p, y])) := same_new hT
            refine ⟨T, _, rfl, .inl (.inl upd_same), rfl, _, _, rfl, _, _, rfl, rfl, rfl, ?_⟩
            generalize upd H1 T (.tup [p, y]) = H3 at sm2
            have ek : (kVs ks)[i]? = some (.str (kS ks[i])) := by
              unfold kVs
              rw [List.getElem?_map, List.getElem?_eq_getElem hi]
              rfl
            have hp : (kVs ks)[i]? = some p := hp
            rw [ek] at hp
            cases hp
            obtain ⟨e, he, fe⟩ := (show Fds K H us ds from ⟨fl, hr0⟩).nth hy
            have fe' := fe.keep (Tp.same (s'.trans sm2))
            have zi : (List.zipWith hasKd ks ds)[i]? = some (hasKd ks[i] e) := by
              rw [List.getElem?_zipWith, List.getElem?_eq_getElem hi, he]
            have zl : (List.zipWith hasKd ks ds).length = ks.length := by rw [List.length_zipWith, hl, Nat.min_self]
            refine ⟨_, rfl, _, rfl, ks[i], y, e, rfl, fe', _, sm2 _ _ hB, by rw [List.length_map, List.length_take, zl]; exact smallL (by omega), fun b o z => ?_, ?_⟩
            · rw [upd_ne (ne_of_none z hD)]
              exact sm2 _ _ (s' _ _ z)
            · rw [upd_same, List.take_add_one, zi, List.map_append]
              rfl
          · rintro H1 ⟨s1, hB⟩
            have zl : (List.zipWith hasKd ks ds).length = ks.length := by rw [List.length_zipWith, hl, Nat.min_self]
            have e : (List.zipWith hasKd ks ds).take ks.length = List.zipWith hasKd ks ds := List.take_of_length_le (by omega)
            rw [e] at hB
            refine ⟨D, _, rfl, SqL.of hB, ?_⟩
            rw [all2_zip]
            have ea : areD ks (.tuple ds) = all2 ks ds := by show (decide (ds.length = ks.length) && all2 ks ds) = _; rw [decide_eq_true hl]; rfl
            rw [← ea]
            exact q _ s1
        · have e : decide (V.int ((us.length : Nat) : Int) = V.int (((kVs ks).length : Nat) : Int)) = false := decide_eq_false (fun z => hl (by injection z with z; rw [kl] at z; omega))
          rw [e]
          refine iteT ?_
          have ea : areD ks (.tuple ds) = false := by show (decide (ds.length = ks.length) && all2 ks ds) = _; rw [decide_eq_false hl]; rfl
          have := q H (Same.refl _)
          rw [ea] at this
          exact this
    | _ => simp [isTup] at ht
  · have hf : isTup d = false := by simpa using ht
    refine ⟨_, rfl, v, _, _, _, _, rfl, .ty _, hv.ty, kit_tup d hv.1, _, rfl, ?_⟩
    rw [hf]
    refine iteT ?_
    have ea : areD ks d = false := by
      cases d with
      | tuple ds => simp [isTup] at hf
      | _ => rfl
    have := q H (Same.refl _)
    rw [ea] at this
    exact this
/-- a head: kinds and a kind -/
def HdAt (K : PySem.W.Frag) (H : Hp) (h : Addr) (ks : List Bool) (k : Bool) : Prop := ∃ ka, SqT K H h [.ref ka, .str (kS k)] ∧ SqT K H ka (kVs ks)
theorem HdAt.keep {H H' : Hp} {h : Addr} {ks : List Bool} {k : Bool} (a : HdAt K H h ks k) (t : Tp K H H') : HdAt K H' h ks k := by
  obtain ⟨ka, x, y⟩ := a
  exact ⟨ka, t _ _ x, t _ _ y⟩
/-- what is wrong with a wish -/
noncomputable def dueW (ks : List Bool) (d : PyData) : Option (Str × Nat) := match wrongD ks d with
  | some x => some x
  | none => if own ks (pgOf d) then none else some ("kind", 0)
abbrev s_refuse_wish : Stmt := topS 41
theorem sc_refuse_wish : FnScope ["head", "program", "kinds", "kind"] ["head", "program"] (defScope s_refuse_wish) := ⟨rfl, rfl, rfl, by decide +kernel, rfl, by decide +kernel, by decide +kernel⟩
def spRW (K : PySem.W.Frag) (C : Addr) (bad : List Str) : Sp := fun vs H Q E => ∃ (h : Addr) (ks : List Bool) (k : Bool) (v : V) (d : PyData), vs = [.ref h, v] ∧ HdAt K H h ks k ∧ ks.length ≤ 100 ∧ Fd K H v d ∧ (knD d).length ≤ 10000 ∧ (∀ x ∈ knD d, wordOk bad x ∧ dsz x ≤ 90000) ∧
  (dueW (ks ++ [k]) d = none → ∀ H', Same H H' → Q .non H') ∧ ∀ x n, dueW (ks ++ [k]) d = some (x, n) → ∀ a H', Same H H' → H' a = some (.xd [("at", .int (n : Nat)), ("word", .str x)]) → E (.ref C) (some a) H'
theorem ok_refuse_wish {bad : List Str} (B : Bt mg) (R_NoProgram : Rf K mg "NoProgram" "NoProgram.__init__" c_NoProgram i_NoProgram f_NoProgram s_NoProgram ["word", "at"]) (C_kind_of : CalX P w K mg base 4 "kind_of" ["kinds", "program"] (spKOD K c_NoProgram bad)) (D : DefAt K mg "refuse_wish" s_refuse_wish ["head", "program"]) : CalX P w K mg base 5 "refuse_wish" ["head", "program"] (spRW K c_NoProgram bad) := by
  refine calx_of D sc_refuse_wish (fun vs H Q E h => ?_) (fun f cdv A outer s H vs Q E hr h => ?_)
  · obtain ⟨h, ks, k, v, d, rfl, _⟩ := h
    rfl
  obtain ⟨h, ks, k, v, d, rfl, ⟨ka, hh, hk⟩, hkl, hv, hz, hw, q, qe⟩ := h
  have hr' : Room 4 _ := hr
  refine ⟨_, (pss_cons (ps_asg (pv 0) (pg_tup rfl (pgs_cons (pg_name (i := 2) sc_refuse_wish.nd rfl (.inl rfl)) (pgs_cons (pg_name (i := 3) sc_refuse_wish.nd rfl (.inl rfl)) pgs_nil))))
      (pss_one (ps_if (pt_cmpR op_ne (pe_calX C_kind_of (takes_of rfl rfl rfl rfl) hr' (by rfl) (pa_cons (pe_tup (StX.pa_star (pv 2) (pa_cons (pv 3) pa_nil))) (pa_cons (pv 1) pa_nil))) pe_str (nomark _))
        (pss_one (ps_ref R_NoProgram (ini_NoProgram R_NoProgram) (hr.mono (by decide)) rfl (takes_of rfl rfl rfl rfl) (by rfl) (pa_cons pe_str (pa_cons pe_int pa_nil))))
        pss_nil))), ?_⟩
  refine ⟨_, rfl, h, _, rfl, hh, rfl, _, _, rfl, _, _, rfl, rfl, ?_⟩
  have ek : kVs (ks ++ [k]) = kVs ks ++ [.str (kS k)] := by simp [kVs]
  have kl : (kVs ks ++ [V.str (kS k)]).length = ks.length + 1 := by rw [List.length_append]; simp [kVs]
  refine ⟨_, rfl, ka, _, rfl, .inl hk, _, rfl, by rw [kl]; exact small (by omega), fun t ht => ?_⟩
  have s1 := same_new (o := .tup (kVs ks ++ [V.str (kS k)])) ht
  refine ⟨_, rfl, t, ks ++ [k], v, d, rfl, .inl (.inl (by rw [ek]; exact upd_same)), hv.keep (Tp.same s1), hz, hw, fun e H' sm => ⟨rfl, _, rfl, ?_⟩, fun x n e a' H' sm hx => ?_⟩
  · cases ho : own (ks ++ [k]) (pgOf d) with
    | true =>
      refine iteF' (by decide +kernel) ?_
      exact q (by unfold dueW; rw [e]; simp only [ho]; rfl) H' (s1.trans sm)
    | false =>
      refine iteT' (by decide +kernel) ?_
      exact mk_two fun a' H2 r => qe _ _ (by unfold dueW; rw [e]; simp only [ho]; rfl) a' H2 ((s1.trans sm).trans r.same) r.2.1
  · exact qe x n (by unfold dueW; rw [e]) a' H' (s1.trans sm) hx
end
end Lm

set_option Elab.async false
set_option linter.all false
set_option maxRecDepth 100000
set_option maxHeartbeats 2000000
set_option pp.maxSteps 20000
set_option pp.deepTerms true
namespace Lm
open PySem PySem.Spec PyProof.Rows L2 LmR RZ
/-- an example as a thing -/
def exD (i a : PyData) : PyData := .tuple [.str "example", i, a]
def exI : PyData → PyData
  | .tuple [_, i, _] => i
  | _ => .none
def exA : PyData → PyData
  | .tuple [_, _, a] => a
  | _ => .none
def isExD (d : PyData) : Prop := ∃ i a, d = exD i a
def exOk (ks : List Bool) (k : Bool) (d : PyData) : Bool := areD ks (exI d) && hasKd k (exA d)
section
variable {P : Program} {w : World} {K : PySem.W.Frag} {mg : Str → Option Value} {base : Heap} {c_Deed c_Maker : Addr}
abbrev s_NoInputs : Stmt := (clsBody (topS 10)).getD 0 (.Pass ⟨0, 0, 0, 0⟩)
theorem sc_NoInputs : FnScope ["self", "at"] ["self", "at"] (defScope s_NoInputs) := ⟨rfl, rfl, rfl, by decide +kernel, rfl, by decide +kernel, by decide +kernel⟩
variable {c_NoInputs i_NoInputs : Addr} {f_NoInputs : FuncData}
theorem ini_NoInputs {P : Program} {w : World} {base : Heap} (R : Rf K mg "NoInputs" "NoInputs.__init__" c_NoInputs i_NoInputs f_NoInputs s_NoInputs ["at"]) : FnOk P w K mg base (L2.CX P w) 1 i_NoInputs f_NoInputs ["self", "at"] (spIni1 c_NoInputs "at") := by
  refine R.F.okX sc_NoInputs (fun vs H Q E h => ?_) (fun cdv A outer s H vs Q E hr h => ?_)
  · obtain ⟨a, x, rfl, _⟩ := h
    rfl
  obtain ⟨a, x, rfl, ha, q⟩ := h
  refine ⟨_, pss_one (ps_ost (pv 0) (pv 1)), ?_⟩
  refine ⟨_, rfl, _, rfl, a, _, rfl, R.o, R.fld _ (by simp), .inl ⟨ha, fun d hd nd => q d _ hd upd_same ?_ fun b h1 h2 => ?_⟩⟩
  · rw [upd_ne nd, upd_same]
  · rw [upd_ne h1, upd_ne h2]
abbrev s_Clash : Stmt := (clsBody (topS 11)).getD 0 (.Pass ⟨0, 0, 0, 0⟩)
theorem sc_Clash : FnScope ["self", "at", "number"] ["self", "at", "number"] (defScope s_Clash) := ⟨rfl, rfl, rfl, by decide +kernel, rfl, by decide +kernel, by decide +kernel⟩
variable {c_Clash i_Clash : Addr} {f_Clash : FuncData}
theorem ini_Clash {P : Program} {w : World} {base : Heap} (R : Rf K mg "Clash" "Clash.__init__" c_Clash i_Clash f_Clash s_Clash ["at", "number"]) : FnOk P w K mg base (L2.CX P w) 1 i_Clash f_Clash ["self", "at", "number"] (spIni2 c_Clash "at" "number") := by
  refine R.F.okX sc_Clash (fun vs H Q E h => ?_) (fun cdv A outer s H vs Q E hr h => ?_)
  · obtain ⟨a, x, y, rfl, _⟩ := h
    rfl
  obtain ⟨a, x, y, rfl, ha, q⟩ := h
  refine ⟨_, pss_cons (ps_ost (pv 0) (pv 1)) (pss_one (ps_ost (pv 0) (pv 2))), ?_⟩
  refine ⟨_, rfl, _, rfl, a, _, rfl, R.o, R.fld _ (by simp), .inl ⟨ha, fun d hd nd => ⟨_, rfl, _, rfl, a, _, rfl, R.o, R.fld _ (by simp), .inr ⟨d, _, upd_same, ?_, by show 1 ≤ 900; decide, q d _ hd ?_ upd_same fun b h1 h2 => ?_⟩⟩⟩⟩
  · rw [upd_ne nd, upd_same]
  · rw [upd_ne (Ne.symm nd), upd_same]
  · rw [upd_ne h2, upd_ne h1, upd_ne h2]
abbrev s_refuse_examples : Stmt := topS 42
theorem sc_refuse_examples : FnScope ["head", "fresh", "at", "word", "inputs", "answer"] ["head", "fresh"] (defScope s_refuse_examples) := ⟨rfl, rfl, rfl, by decide +kernel, rfl, by decide +kernel, by decide +kernel⟩
def spRE (K : PySem.W.Frag) (C : Addr) : Sp := fun vs H Q E => ∃ (h l : Addr) (ks : List Bool) (k : Bool) (us : List V) (ds : List PyData), vs = [.ref h, .ref l] ∧ HdAt K H h ks k ∧ ks.length ≤ 100 ∧ SqL K H l us ∧ Fds K H us ds ∧ (∀ d ∈ ds, isExD d) ∧
  (firstBad (exOk ks k) ds 0 = none → ∀ H', Same H H' → Q .non H') ∧ ∀ n, firstBad (exOk ks k) ds 0 = some n → ∀ a H', Same H H' → H' a = some (.xd [("at", .int (n : Nat))]) → E (.ref C) (some a) H'
theorem ok_refuse_examples (B : Bt mg) (R_NoInputs : Rf K mg "NoInputs" "NoInputs.__init__" c_NoInputs i_NoInputs f_NoInputs s_NoInputs ["at"]) (C_are_inputs : Cal P w K mg base 3 "are_inputs" ["kinds", "inputs"] (spAreI K)) (C_has_kind : Cal P w K mg base 2 "has_kind" ["kind", "thing"] (spHK K)) (D : DefAt K mg "refuse_examples" s_refuse_examples ["head", "fresh"]) : CalX P w K mg base 4 "refuse_examples" ["head", "fresh"] (spRE K c_NoInputs) := by
  refine calx_of D sc_refuse_examples (fun vs H Q E h => ?_) (fun f cdv A outer s H vs Q E hr h => ?_)
  · obtain ⟨h, l, ks, k, us, ds, rfl, _⟩ := h
    rfl
  obtain ⟨h, l, ks, k, us, ds, rfl, ⟨ka, hh, hk⟩, hkl, hl, hus, hex, q, qe⟩ := h
  have hr' : Room 3 _ := hr
  have C_has_kind := C_has_kind.mono (k := 3) (by decide)
  refine ⟨_, (pss_one (ps_for (passes_of rfl) rfl (pi_enum (by rfl) B.enumerate (pa_cons (pv 1) pa_nil)) (pg_tup rfl (pgs_cons (pg_name (i := 2) sc_refuse_examples.nd rfl (.inl rfl)) (pgs_cons (pg_tup rfl (pgs_cons (pg_name (i := 3) sc_refuse_examples.nd rfl (.inl rfl)) (pgs_cons (pg_name (i := 4) sc_refuse_examples.nd rfl (.inl rfl)) (pgs_cons (pg_name (i := 5) sc_refuse_examples.nd rfl (.inl rfl)) pgs_nil)))) pgs_nil)))
        (pss_one (ps_if (PW.pt (pw_or (pt_not (pt_val (pe_cal C_are_inputs hr' (by rfl) (pa_cons (pe_ix ix_tup (pv 0) pe_int (fun _ _ => rfl)) (pa_cons (pv 4) pa_nil))))) (pw_or1 (pt_not (pt_val (pe_cal C_has_kind hr' (by rfl) (pa_cons (pe_ix ix_tup (pv 0) pe_int (fun _ _ => rfl)) (pa_cons (pv 5) pa_nil))))))))
        (pss_one (ps_ref R_NoInputs (ini_NoInputs R_NoInputs) (hr.mono (by decide)) rfl (takes_of rfl rfl rfl rfl) (by rfl) (pa_cons (pv 2) pa_nil)))
        pss_nil)))), ?_⟩
  refine ⟨_, rfl, l, us, rfl, hl, for_enumL (K := K) (xs := us) (fun i σ H' => (∃ y1 y2 y3 y4 : Option V, σ = [some (V.ref h), some (V.ref l), y1, y2, y3, y4]) ∧ Same H H' ∧ firstBad (exOk ks k) ds 0 = firstBad (exOk ks k) (ds.drop i) i) ?_ ?_ ?_ ?_⟩
  · exact ⟨⟨_, _, _, _, rfl⟩, fun _ _ h => h, by rw [List.drop_zero]⟩
  · rintro i σ H' ⟨_, sm, _⟩
    exact sm.seq hl
  · rintro i x _ H' T hx ⟨⟨y1, y2, y3, y4, rfl⟩, sm, hbd⟩ hT
    have sm2 := sm.trans (same_new (o := .tup [.int (i : Nat), x]) hT)
    obtain ⟨d, hd, hD⟩ := hus.nth hx
    rw [firstBad_step hd] at hbd
    obtain ⟨di, da, rfl⟩ := hex d (List.mem_of_getElem? hd)
    obtain ⟨fl, fx⟩ := hD.keep (Tp.same sm2)
    cases fx with
    | @tup tx vs _ hq hvs =>
      cases hvs with
      | cons a1 r1 =>
        cases r1 with
        | cons a2 r2 =>
          cases r2 with
          | cons a3 r3 =>
            cases r3
            cases a1
            have f2 : flat di = true ∧ flat da = true := by
              simp [exD, flat, flat.flats] at fl
              exact fl
            refine ⟨T, _, rfl, .inl (.inl upd_same), rfl, _, _, rfl, _, _, rfl, tx, _, rfl, hq, rfl, _, _, rfl, _, _, rfl, _, _, rfl, rfl, rfl, ?_⟩
            generalize upd H' T (.tup [.int (i : Nat), .ref tx]) = H3 at sm2 hq a2 a3
            refine ⟨_, rfl, h, _, 0, .ref ka, rfl, rfl, Tp.same sm2 _ _ hh, rfl, _, rfl, ka, ks, _, di, rfl, Tp.same sm2 _ _ hk, ⟨f2.1, a2⟩, hkl, fun H4 s4 => ?_⟩
            have sm3 := sm2.trans s4
            have step : exOk ks k (exD di da) = (areD ks di && hasKd k da) := rfl
            cases hA : areD ks di with
            | false =>
              rw [step, hA] at hbd
              exact ⟨_, rfl, iteT (⟨_, rfl, mk_one fun a' H2 r => qe i hbd a' H2 (sm3.trans r.same) r.2.1⟩)⟩
            | true =>
              rw [step, hA, Bool.true_and] at hbd
              refine ⟨_, rfl, iteF ⟨_, rfl, h, _, 1, .str (kS k), rfl, rfl, Tp.same sm3 _ _ hh, rfl, _, rfl, k, _, da, rfl, Fd.keep ⟨f2.2, a3⟩ (Tp.same s4), _, rfl, ?_⟩⟩
              cases hK : hasKd k da with
              | false =>
                rw [hK] at hbd
                exact iteT ⟨_, rfl, mk_one fun a' H2 r => qe i hbd a' H2 (sm3.trans r.same) r.2.1⟩
              | true =>
                rw [hK] at hbd
                exact iteF ⟨⟨_, _, _, _, rfl⟩, sm3, hbd⟩
  · rintro σ H' ⟨_, sm, hbd⟩
    refine q ?_ H' sm
    rw [hbd, List.drop_eq_nil_of_le (by rw [hus.len]; exact Nat.le_refl _)]
    rfl
/-! ### clashes -/
def pairD (o : Int × PyData) : PyData := .tuple [.int o.1, o.2]
def clash1 (o t : PyData) : Bool := PyData.eqv (exI o) (exI t) && !PyData.eqv (exA o) (exA t)
def isExB : PyData → Bool
  | .tuple (.str x :: _) => decide (x = "example")
  | _ => false
/-- the examples among what is kept, and those of ds ahead of the at-th -/
def aheadD (kept : List (Int × PyData)) (on : Int) (ds : List PyData) (at' : Nat) : List (Int × PyData) := kept.filter (fun o => isExB o.2) ++ numD on (ds.take at')
def clashAt (kept : List (Int × PyData)) (on : Int) (ds : List PyData) (at' : Nat) : Option Int := match ds[at']? with
  | some t => ((aheadD kept on ds at').find? fun o => clash1 o.2 t).map (·.1)
  | none => none
def firstClash (kept : List (Int × PyData)) (on : Int) (ds : List PyData) : Option (Nat × Int) := (List.range ds.length).findSome? fun i => (clashAt kept on ds i).map fun n => (i, n)
theorem fc_none {kept : List (Int × PyData)} {on : Int} {ds : List PyData} (h : ∀ j < ds.length, clashAt kept on ds j = none) : firstClash kept on ds = none := by
  unfold firstClash
  rw [List.findSome?_eq_none_iff]
  intro i hi
  rw [h i (List.mem_range.mp hi)]
  rfl
theorem fc_some {kept : List (Int × PyData)} {on : Int} {ds : List PyData} {i : Nat} {n : Int} (hi : i < ds.length) (h : ∀ j < i, clashAt kept on ds j = none) (e : clashAt kept on ds i = some n) : firstClash kept on ds = some (i, n) := by
  unfold firstClash
  have : List.range ds.length = List.range i ++ i :: (List.range' (i + 1) (ds.length - (i + 1))) := by
    rw [List.range_eq_range', show ds.length = i + (1 + (ds.length - (i + 1))) by omega, ← List.range'_append_1, List.range_eq_range']
    congr 1
    rw [Nat.zero_add, Nat.add_comm 1, List.range'_succ]
    congr 2
    omega
  rw [this, List.findSome?_append]
  have z : List.findSome? (fun i => (clashAt kept on ds i).map fun n => (i, n)) (List.range i) = none := by
    rw [List.findSome?_eq_none_iff]
    intro j hj
    rw [h j (List.mem_range.mp hj)]
    rfl
  rw [z, List.findSome?_cons, e]
  rfl
theorem aheadD_succ {kept : List (Int × PyData)} {on : Int} {ds : List PyData} {i : Nat} {d : PyData} (h : ds[i]? = some d) : aheadD kept on ds (i + 1) = aheadD kept on ds i ++ [(on + (i : Int), d)] := by
  have hi := (List.getElem?_eq_some_iff.mp h).1
  unfold aheadD
  rw [List.take_add_one, h]
  show _ ++ numD on (ds.take i ++ [d]) = _
  rw [numD_snoc, List.append_assoc]
  congr 4
  rw [List.length_take]
  omega
theorem find_hit {α : Type} {p : α → Bool} {xs : List α} {j : Nat} {x : α} (h : (xs.take j).find? p = none) (e : xs[j]? = some x) (hp : p x = true) : xs.find? p = some x := by
  obtain ⟨hj, e'⟩ := List.getElem?_eq_some_iff.mp e
  have : xs = xs.take j ++ x :: xs.drop (j + 1) := by rw [← e', ← List.drop_eq_getElem_cons hj, List.take_append_drop]
  rw [this, List.find?_append, h, List.find?_cons, hp]
  rfl
theorem find_miss {α : Type} {p : α → Bool} {xs : List α} {j : Nat} {x : α} (h : (xs.take j).find? p = none) (e : xs[j]? = some x) (hp : p x = false) : (xs.take (j + 1)).find? p = none := by
  rw [List.take_add_one, e, List.find?_append, h]
  show (Option.none).or (List.find? p [x]) = none
  rw [List.find?_cons, hp]
  rfl
theorem ex_of {o : PyData} (h : isExD o) : o = exD (exI o) (exA o) := by
  obtain ⟨i, a, rfl⟩ := h
  rfl
/-- a pair of a number and a thing, read -/
theorem pair_read {H : Hp} {v : V} {o : Int × PyData} (h : Fd K H v (pairD o)) : ∃ t y, v = .ref t ∧ SqT K H t [.int o.1, y] ∧ Fd K H y o.2 := by
  obtain ⟨f, h⟩ := h
  have f2 : flat o.2 = true := by simpa [pairD, flat, flat.flats] using f
  cases h with
  | @tup t vs _ hq hvs =>
    cases hvs with
    | cons a1 r1 =>
      cases a1
      cases r1 with
      | cons a2 r2 =>
        cases r2
        exact ⟨t, _, rfl, hq, f2, a2⟩
theorem pair_put {H : Hp} {t : Addr} {y : V} {o : Int × PyData} (h : H t = some (.tup [.int o.1, y])) (f : Fd K H y o.2) : Fd K H (.ref t) (pairD o) := by
  refine ⟨?_, .tup (.inl (.inl h)) (.cons (.int _) (.cons f.2 .nil))⟩
  simp [pairD, flat, flat.flats, f.1]
/-- an example, read -/
theorem ex_read {H : Hp} {v : V} {d : PyData} (h : Fd K H v d) (e : isExD d) : ∃ t x y, v = .ref t ∧ SqT K H t [.str "example", x, y] ∧ Fd K H x (exI d) ∧ Fd K H y (exA d) := by
  obtain ⟨i, a, rfl⟩ := e
  obtain ⟨f, h⟩ := h
  have f2 : flat i = true ∧ flat a = true := by simpa [exD, flat, flat.flats] using f
  cases h with
  | @tup t vs _ hq hvs =>
    cases hvs with
    | cons a1 r1 =>
      cases a1
      cases r1 with
      | cons a2 r2 =>
        cases r2 with
        | cons a3 r3 =>
          cases r3
          exact ⟨t, _, _, rfl, hq, ⟨f2.1, a2⟩, ⟨f2.2, a3⟩⟩
theorem dep_ex {d : PyData} (e : isExD d) (h : d.depth ≤ 60) : (exI d).depth ≤ 64 ∧ (exA d).depth ≤ 64 := by
  obtain ⟨i, a, rfl⟩ := e
  have : PyData.depthAll [.str "example", i, a] + 1 ≤ 60 := h
  simp only [PyData.depthAll] at this
  show i.depth ≤ 64 ∧ a.depth ≤ 64
  omega
/-- a tuple whose first item is a text, read -/
theorem word_read {H : Hp} {v : V} {x : Str} {r : List PyData} (h : Fd K H v (.tuple (.str x :: r))) : ∃ t ys, v = .ref t ∧ SqT K H t (.str x :: ys) := by
  obtain ⟨f, h⟩ := h
  cases h with
  | @tup t vs _ hq hvs =>
    cases hvs with
    | cons a1 r1 =>
      cases a1
      exact ⟨t, _, rfl, hq⟩
abbrev s_refuse_clashes : Stmt := topS 44
theorem sc_refuse_clashes : FnScope ["kept", "fresh", "onward", "ahead", "at", "thing", "number", "other"] ["kept", "fresh", "onward"] (defScope s_refuse_clashes) := ⟨rfl, rfl, rfl, by decide +kernel, rfl, by decide +kernel, by decide +kernel⟩
def spRC (K : PySem.W.Frag) (C : Addr) : Sp := fun vs H Q E => ∃ (l l2 : Addr) (kept : List (Int × PyData)) (on : Int) (us vs2 : List V) (ds : List PyData), vs = [.ref l, .ref l2, .int on] ∧ SqL K H l us ∧ Fds K H us (kept.map pairD) ∧ SqL K H l2 vs2 ∧ Fds K H vs2 ds ∧ (∀ d ∈ ds, isExD d) ∧
  (∀ o ∈ kept, isExB o.2 = true → isExD o.2) ∧ (∀ o ∈ kept, ∃ x r, o.2 = .tuple (.str x :: r)) ∧ kept.length ≤ 5000 ∧ ds.length ≤ 5000 ∧ (∀ o ∈ kept, o.2.depth ≤ 60) ∧ (∀ d ∈ ds, d.depth ≤ 60) ∧
  (firstClash kept on ds = none → ∀ H', Same H H' → Q .non H') ∧ ∀ n i, firstClash kept on ds = some (n, i) → ∀ a H', Same H H' → H' a = some (.xd [("number", .int i), ("at", .int (n : Nat))]) → E (.ref C) (some a) H'
theorem ok_refuse_clashes (B : Bt mg) (R_Clash : Rf K mg "Clash" "Clash.__init__" c_Clash i_Clash f_Clash s_Clash ["at", "number"]) (D : DefAt K mg "refuse_clashes" s_refuse_clashes ["kept", "fresh", "onward"]) : CalX P w K mg base 3 "refuse_clashes" ["kept", "fresh", "onward"] (spRC K c_Clash) := by
  refine calx_of D sc_refuse_clashes (fun vs H Q E h => ?_) (fun f cdv A outer s H vs Q E hr h => ?_)
  · obtain ⟨l, l2, kept, on, us, vs2, ds, rfl, _⟩ := h
    rfl
  obtain ⟨l, l2, kept, on, us, vs2, ds, rfl, hl, hus, hl2, hvs, hex, hke, hkt, hkl, hdl, hkd, hdd, q, qe⟩ := h
  refine ⟨_, (pss_cons (ps_setLc (i := 3) (own := [("number", 6), ("thing", 5)]) (g := gTup K 2 (gCons (gName 6) (gCons (gName 5) gNil))) rfl sc_refuse_clashes.nd rfl rfl (sw_true rfl rfl rfl (by decide +kernel)) (pi_list (pv 0)) (blkOk_by (own := [("number", 6), ("thing", 5)]) (N := ["kept", "fresh", "onward", "ahead", "at", "thing", "number", "other"]) (sc := defScope s_refuse_clashes) (by decide +kernel)) (fun _ _ _ _ _ => (pg_tupK (K := K) rfl rfl (pgs_cons (pg_name (i := 6) sc_refuse_clashes.nd rfl (.inl rfl)) (pgs_cons (pg_name (i := 5) sc_refuse_clashes.nd rfl (.inl rfl)) pgs_nil)))) (fun _ _ _ _ _ => (pts_one (pt_cmpR op_eq (pe_ix (ix_tupK (K := K) rfl) (pv 5) pe_int (fun _ _ => rfl)) pe_str (nomark _)))) (fun _ _ _ _ _ => (pe_tup (pa_cons (pv 6) (pa_cons (pv 5) pa_nil)))))
      (pss_one (ps_for (passes_of rfl) rfl (pi_enum (by rfl) B.enumerate (pa_cons (pv 1) pa_nil)) (pg_tup rfl (pgs_cons (pg_name (i := 4) sc_refuse_clashes.nd rfl (.inl rfl)) (pgs_cons (pg_name (i := 5) sc_refuse_clashes.nd rfl (.inl rfl)) pgs_nil)))
        (pss_cons (ps_for (passes_of rfl) rfl (pi_list (pv 3)) (pg_tup rfl (pgs_cons (pg_name (i := 6) sc_refuse_clashes.nd rfl (.inl rfl)) (pgs_cons (pg_name (i := 7) sc_refuse_clashes.nd rfl (.inl rfl)) pgs_nil)))
        (pss_one (ps_if (PW.pt (pw_and (pt_cmpR (op_eqP hr.units) (pe_ix ix_tup (pv 7) pe_int (fun _ _ => rfl)) (pe_ix ix_tup (pv 5) pe_int (fun _ _ => rfl)) (nomark _)) (pw_and1 (pt_cmpR (op_neP hr.units) (pe_ix ix_tup (pv 7) pe_int (fun _ _ => rfl)) (pe_ix ix_tup (pv 5) pe_int (fun _ _ => rfl)) (nomark _)))))
        (pss_one (ps_ref R_Clash (ini_Clash R_Clash) (hr.mono (by decide)) rfl (takes_of rfl rfl rfl rfl) (by rfl) (pa_cons (pv 4) (pa_cons (pv 6) pa_nil))))
        pss_nil)))
      (pss_one (ps_expr (pe_bm PySem.F.plainAttrs_list PySem.F.slot_list_append PySem.F.type_list_append mt_append (pv 3) (pa_cons (pe_tup (pa_cons (pe_op op_add (pv 2) (pv 4)) (pa_cons (pv 5) pa_nil))) pa_nil)))))))), ?_⟩
  have ul : us.length = kept.length := by rw [hus.len, List.length_map]
  refine ⟨_, rfl, l, rfl, ⟨us, hl⟩, fun D hD => lc_list (K := K) (xs := us) (fun i H' => Same H H' ∧ ∃ ws, H' D = some (.lst ws) ∧ ws.length ≤ i ∧ Fds K H' ws (((kept.take i).filter (fun o => isExB o.2)).map pairD)) ?_ ?_ ?_ ?_⟩
  · exact ⟨same_new hD, [], upd_same, Nat.le_refl _, by rw [List.take_zero]; exact Fds.nil⟩
  · rintro i H' _ ⟨s', _⟩
    exact s'.seq hl
  · rintro i x H' hx ⟨s', ws, hA, wl, hW⟩
    obtain ⟨d, hd, hDx⟩ := hus.nth hx
    rw [List.getElem?_map] at hd
    obtain ⟨o, ho, rfl⟩ := Option.map_eq_some_iff.mp hd
    obtain ⟨t, y, rfl, ht, hy⟩ := pair_read (hDx.keep (Tp.same s'))
    obtain ⟨w0, r0, ew⟩ := hkt o (List.mem_of_getElem? ho)
    have hy' := hy
    rw [ew] at hy'
    obtain ⟨ty, ys, rfl, hty⟩ := word_read hy'
    have hi : i < 5000 := by have := (List.getElem?_eq_some_iff.mp hx).1; omega
    refine ⟨t, _, rfl, ht, rfl, _, _, rfl, _, _, rfl, rfl, rfl, _, rfl, ty, _, 0, .str w0, rfl, rfl, hty, at_of (j := 0) rfl rfl, rfl, _, rfl, ite2 (fun c => ?_) (fun c => ?_)⟩
    · have ex : isExB o.2 = true := by
        rw [ew]
        exact decide_eq_true (V.str.inj (of_decide_eq_true c))
      refine ⟨_, rfl, _, rfl, (by show 2 ≤ sizeLine; decide), fun t' ht' => ?_⟩
      have sT := same_new (o := .tup [.int o.1, .ref ty]) ht'
      have nD : D ≠ t' := ne_of_none hA ht'
      refine ⟨ws, sT _ _ hA, smallL (by omega), fun b u e => ?_, ws ++ [.ref t'], upd_same, by rw [List.length_append]; simp; omega, ?_⟩
      · rw [upd_ne (ne_of_none e hD)]
        exact sT _ _ (s' _ _ e)
      · rw [List.take_add_one, ho, List.filter_append, List.map_append]
        have tpD : Tp K (upd H' t' (.tup [.int o.1, .ref ty])) (upd (upd H' t' (.tup [.int o.1, .ref ty])) D (.lst (ws ++ [.ref t']))) := Tp.lst (sT _ _ hA)
        have e1 : ((some o).toList.filter (fun o => isExB o.2)).map pairD = [pairD o] := by
          show ([o].filter (fun o => isExB o.2)).map pairD = _
          rw [List.filter_cons, if_pos ex]
          rfl
        rw [e1]
        refine Fds.app (hW.keep ((Tp.same sT).trans tpD)) (Fds.cons (Fd.keep (pair_put upd_same (hy.keep (Tp.same sT))) tpD) Fds.nil)
    · have ex : isExB o.2 = false := by
        rw [ew]
        exact decide_eq_false (fun z => c (decide_eq_true (by rw [z])))
      refine ⟨s', ws, hA, by omega, ?_⟩
      rw [List.take_add_one, ho, List.filter_append, List.map_append]
      have e1 : ((some o).toList.filter (fun o => isExB o.2)).map pairD = [] := by
        show ([o].filter (fun o => isExB o.2)).map pairD = _
        rw [List.filter_cons, if_neg (by rw [ex]; decide)]
        rfl
      rw [e1, List.append_nil]
      exact hW
  rintro H1 ⟨s1, ws0, hA0, wl0, hW0⟩
  rw [ul, List.take_length] at hW0
  have hAx : ∀ o ∈ kept.filter (fun o => isExB o.2), isExD o.2 := fun o h => hke o (List.mem_filter.mp h).1 (List.mem_filter.mp h).2
  have hnD : ∀ j, ∀ o ∈ numD on (ds.take j), isExD o.2 ∧ o.2.depth ≤ 60 := by
    have gen : ∀ (n : Int) (es : List PyData), ∀ o ∈ numD n es, o.2 ∈ es := by
      intro n es
      induction es generalizing n with
      | nil => intro o h; cases h
      | cons e es ih =>
        intro o h
        rcases List.mem_cons.mp h with z | z
        · rw [z]; exact List.mem_cons_self
        · exact List.mem_cons_of_mem _ (ih (n + 1) o z)
    intro j o h
    have m := List.mem_of_mem_take (gen on _ o h)
    exact ⟨hex _ m, hdd _ m⟩
  have hah : ∀ j, ∀ o ∈ aheadD kept on ds j, isExD o.2 ∧ o.2.depth ≤ 60 := fun j o h => by
    rcases List.mem_append.mp h with z | z
    · exact ⟨hAx o z, hkd o (List.mem_filter.mp z).1⟩
    · exact hnD j o z
  have nDl2 : ∀ {H' : Hp}, Ex [D] H1 H' → SqL K H' l2 vs2 := fun {H'} ex => by
    rcases hl2 with (q | ⟨u, q⟩) | q
    · exact .inl (.inl (ex _ _ (s1 _ _ q) (by simp [ne_of_none q hD])))
    · exact .inl (.inr ⟨u, ex _ _ (s1 _ _ q) (by simp [ne_of_none q hD])⟩)
    · exact .inr q
  have exTp : ∀ {H' : Hp}, Ex [D] H1 H' → Tp K H H' := fun {H'} ex => (Tp.same s1).trans (ex.tp fun b hb ys q => by rw [List.mem_singleton.mp hb] at q; rcases q with q | ⟨o, q⟩ <;> rw [hA0] at q <;> cases q)
  have exSm : ∀ {H' : Hp}, Ex [D] H1 H' → Same H H' := fun {H'} ex b o e => ex _ _ (s1 _ _ e) (by simp [ne_of_none e hD])
  refine ⟨_, rfl, l2, vs2, rfl, nDl2 (Ex.refl _ _), for_enumL (K := K) (xs := vs2) (fun i σ H' => (∃ y4 y5 y6 y7 : Option V, σ = [some (V.ref l), some (V.ref l2), some (.int on), some (.ref D), y4, y5, y6, y7]) ∧ Ex [D] H1 H' ∧ (∃ ws, H' D = some (.lst ws) ∧ Fds K H' ws ((aheadD kept on ds i).map pairD)) ∧ ∀ j < i, clashAt kept on ds j = none) ?_ ?_ ?_ ?_⟩
  · exact ⟨⟨_, _, _, _, rfl⟩, Ex.refl _ _, ⟨ws0, hA0, by unfold aheadD; rw [List.take_zero, numD, List.append_nil]; exact hW0⟩, fun j hj => absurd hj (Nat.not_lt_zero _)⟩
  · rintro i σ H' ⟨_, ex, _⟩
    exact nDl2 ex
  · rintro i x _ H' T hx ⟨⟨y4, y5, y6, y7, rfl⟩, ex, ⟨ws, hA, hW⟩, hc⟩ hT
    have sT := same_new (o := .tup [.int (i : Nat), x]) hT
    have exT : Ex [D] H1 (upd H' T (.tup [.int (i : Nat), x])) := ex.trans (Ex.of_same sT)
    refine ⟨T, _, rfl, .inl (.inl upd_same), rfl, _, _, rfl, _, _, rfl, rfl, ?_⟩
    have hA2 := sT _ _ hA
    have hW2 := hW.keep (Tp.same sT)
    generalize upd H' T (.tup [.int (i : Nat), x]) = H2 at exT hA2 hW2
    obtain ⟨d, hd, hDx⟩ := hvs.nth hx
    have hi : i < ds.length := (List.getElem?_eq_some_iff.mp hd).1
    have xd := hex d (List.mem_of_getElem? hd)
    have pd := dep_ex xd (hdd d (List.mem_of_getElem? hd))
    have wl : ws.length = (aheadD kept on ds i).length := by rw [hW2.len, List.length_map]
    refine ⟨_, rfl, D, rfl, ⟨ws, SqL.of hA2⟩, for_list (K := K) (xs := ws) (fun j σ H' => (∃ y6 y7 : Option V, σ = [some (V.ref l), some (V.ref l2), some (.int on), some (.ref D), some (.int (i : Nat)), some x, y6, y7]) ∧ Same H2 H' ∧ ((aheadD kept on ds i).take j).find? (fun o => clash1 o.2 d) = none) ?_ ?_ ?_ ?_⟩
    · exact ⟨⟨_, _, rfl⟩, Same.refl _, by rw [List.take_zero]; rfl⟩
    · rintro j σ H3 _ ⟨_, s3, _⟩
      exact SqL.of (s3 _ _ hA2)
    · rintro j y _ H3 hy ⟨⟨y6, y7, rfl⟩, s3, hf⟩
      obtain ⟨od, ho, hoD⟩ := hW2.nth hy
      rw [List.getElem?_map] at ho
      obtain ⟨o, ho2, rfl⟩ := Option.map_eq_some_iff.mp ho
      have xo := hah i o (List.mem_of_getElem? ho2)
      obtain ⟨t, yo, rfl, ht, hyo⟩ := pair_read (hoD.keep (Tp.same s3))
      obtain ⟨to, a1, a2, rfl, hto, f1, f2⟩ := ex_read hyo xo.1
      have tp3 : Tp K H H3 := (exTp exT).trans (Tp.same s3)
      obtain ⟨td, b1, b2, rfl, htd, g1, g2⟩ := ex_read (hDx.keep tp3) xd
      have po := dep_ex xo.1 xo.2
      refine ⟨t, _, rfl, ht, rfl, _, _, rfl, _, _, rfl, rfl, ?_⟩
      refine ⟨_, rfl, to, _, 1, a1, rfl, rfl, hto, rfl, _, rfl, td, _, 1, b1, rfl, rfl, htd, rfl, exI o.2, exI d, f1.2, g1.2, plain_flat _ f1.1, plain_flat _ g1.1, po.1, _, rfl, ?_⟩
      cases hq : PyData.eqv (exI o.2) (exI d) with
      | false => exact iteF (iteF ⟨⟨_, _, rfl⟩, s3, find_miss hf ho2 (by show (PyData.eqv (exI o.2) (exI d) && _) = false; rw [hq]; rfl)⟩)
      | true =>
        refine iteT ⟨_, rfl, to, _, 2, a2, rfl, rfl, hto, rfl, _, rfl, td, _, 2, b2, rfl, rfl, htd, rfl, exA o.2, exA d, f2.2, g2.2, plain_flat _ f2.1, plain_flat _ g2.1, po.2, _, rfl, ?_⟩
        cases hq2 : PyData.eqv (exA o.2) (exA d) with
        | false =>
          refine iteT ⟨_, rfl, _, rfl, mk_two fun a' H4 r => ?_⟩
          have hcl : clashAt kept on ds i = some o.1 := by
            unfold clashAt
            rw [hd]
            show ((aheadD kept on ds i).find? _).map _ = _
            rw [find_hit hf ho2 (by show (PyData.eqv (exI o.2) (exI d) && !PyData.eqv (exA o.2) (exA d)) = true; rw [hq, hq2]; rfl)]
            rfl
          exact qe i o.1 (fc_some hi hc hcl) a' H4 (((exSm exT).trans s3).trans r.same) r.2.1
        | true => exact iteF ⟨⟨_, _, rfl⟩, s3, find_miss hf ho2 (by show (PyData.eqv (exI o.2) (exI d) && !PyData.eqv (exA o.2) (exA d)) = false; rw [hq, hq2]; rfl)⟩
    · rintro σ H3 ⟨⟨y6, y7, rfl⟩, s3, hf⟩
      rw [wl, List.take_length] at hf
      have hcn : clashAt kept on ds i = none := by
        unfold clashAt
        rw [hd]
        show ((aheadD kept on ds i).find? _).map _ = _
        rw [hf]
        rfl
      have hA3 := s3 _ _ hA2
      refine ⟨_, rfl, .inl ⟨rfl, _, SqL.of hA3⟩, _, rfl, _, rfl, _, _, rfl, rfl, _, rfl, (by show 2 ≤ sizeLine; decide), fun t' ht' => ?_⟩
      have sT' := same_new (o := .tup [.int (on + (i : Int)), x]) ht'
      have lW : ws.length ≤ 10000 := by
        have numl : ∀ (n : Int) (es : List PyData), (numD n es).length = es.length := by
          intro n es
          induction es generalizing n with
          | nil => rfl
          | cons e es ih => rw [numD, List.length_cons, ih, List.length_cons]
        rw [wl]
        unfold aheadD
        rw [List.length_append, numl, List.length_take]
        have := List.length_filter_le (fun o : Int × PyData => isExB o.2) kept
        omega
      have nD : D ≠ t' := ne_of_none hA3 ht'
      have tpD : Tp K (upd H3 t' (.tup [.int (on + (i : Int)), x])) (upd (upd H3 t' (.tup [.int (on + (i : Int)), x])) D (.lst (ws ++ [.ref t']))) := Tp.lst (sT' _ _ hA3)
      have tp3 : Tp K H H3 := (exTp exT).trans (Tp.same s3)
      refine ⟨D, ws, _, rfl, rfl, sT' _ _ hA3, smallL (by omega), ⟨_, _, _, _, rfl⟩, ?_, ⟨_, upd_same, ?_⟩, fun j hj => ?_⟩
      · exact (exT.trans (Ex.of_same (s3.trans sT'))).trans (Ex.at (by simp))
      · rw [aheadD_succ hd, List.map_append]
        exact (hW2.keep ((Tp.same (s3.trans sT')).trans tpD)).app (Fds.cons (Fd.keep (pair_put (o := (on + (i : Int), d)) upd_same (hDx.keep (tp3.trans (Tp.same sT')))) tpD) Fds.nil)
      · by_cases z : j = i
        · rw [z]; exact hcn
        · exact hc j (by omega)
  · rintro σ H' ⟨_, ex, _, hc⟩
    rw [hvs.len] at hc
    exact q (fc_none hc) H' (exSm ex)
end
end Lm

set_option Elab.async false
set_option linter.all false
set_option maxRecDepth 100000
set_option maxHeartbeats 2000000
set_option pp.maxSteps 20000
set_option pp.deepTerms true
namespace Lm
open PySem PySem.Spec PyProof.Rows L2 LmR RZ
def inD (x : Str) : PyData := .tuple [.str "in", .str x]
def outD (x : Str) : PyData := .tuple [.str "out", .str x]
theorem Mkr.ne {K : PySem.W.Frag} {C : Addr} {H : Hp} {m dx ths nt : Addr} {hd st ms : V} {kept : List (Int × PyData)} {on : Int} {log : List PyData} (h : Mkr K C H m dx ths nt hd st ms kept on log) : m ≠ nt ∧ ths ≠ nt ∧ m ≠ ths := by
  obtain ⟨kvs, a, _⟩ := h.th
  obtain ⟨ls, c, _⟩ := h.lg
  have b := h.ob
  refine ⟨fun z => ?_, fun z => ?_, fun z => ?_⟩
  · rw [z, c] at b; cases b
  · rw [z, c] at a; cases a
  · rw [z, a] at b; cases b
/-- what stands besides the three of a maker keeps its tuples -/
theorem Mkr.tp {K : PySem.W.Frag} {C : Addr} {H H' : Hp} {m dx ths nt : Addr} {hd st ms : V} {kept : List (Int × PyData)} {on : Int} {log : List PyData} (h : Mkr K C H m dx ths nt hd st ms kept on log) {ws : List Addr} (e : Ex ws H H') (hw : ∀ b ∈ ws, b = m ∨ b = ths ∨ b = nt) : Tp K H H' := by
  obtain ⟨kvs, a, _⟩ := h.th
  obtain ⟨ls, c, _⟩ := h.lg
  have b := h.ob
  refine e.tp fun x hx ys q => ?_
  rcases hw x hx with z | z | z <;> rw [z] at q <;> rcases q with q | ⟨o, q⟩
  · rw [b] at q; cases q
  · rw [b] at q; cases q
  · rw [a] at q; cases q
  · rw [a] at q; cases q
  · rw [c] at q; cases q
  · rw [c] at q; cases q
/-- a note is written -/
theorem Mkr.note {K : PySem.W.Frag} {C : Addr} {H : Hp} {m dx ths nt : Addr} {hd st ms : V} {kept : List (Int × PyData)} {on : Int} {log : List PyData} {ls : List V} {s : V} {o : PyData} (h : Mkr K C H m dx ths nt hd st ms kept on log)
    (hn : H nt = some (.lst ls)) (hs : Fd K H s o) (hl : log.length < 5000) : Mkr K C (upd H nt (.lst (ls ++ [s]))) m dx ths nt hd st ms kept on (log ++ [o]) := by
  obtain ⟨kvs, a, hk⟩ := h.th
  obtain ⟨ls', c, hf⟩ := h.lg
  cases hn.symm.trans c
  have n := h.ne
  have tp : Tp K H (upd H nt (.lst (ls ++ [s]))) := Tp.lst hn
  refine ⟨by rw [upd_ne n.1]; exact h.ob, ⟨kvs, by rw [upd_ne n.2.1]; exact a, hk.keep tp⟩, ⟨_, upd_same, (Fds.keep hf tp).app (Fds.cons (hs.keep tp) Fds.nil)⟩, h.lt, ⟨h.sm.1, by rw [List.length_append]; show log.length + 1 ≤ 5000; omega⟩, h.nn⟩
section
variable {P : Program} {w : World} {K : PySem.W.Frag} {mg : Str → Option Value} {base : Heap} {c_Deed c_Maker c_NotKept i_NotKept : Addr} {f_NotKept : FuncData}
theorem pe_fldK {X : Cx} {K : PySem.W.Frag} {e : Expr} {ta : TE} {f : Str} {pos : Pos} (h : X.K = K) (he : PE X e ta) (hb : attributeBase e f X.env (eval e X.env) = eval e X.env) : PE X (.Attribute e f pos) (tFld K ta f) := h ▸ pe_fld he hb
theorem Mkr.nt_no {K : PySem.W.Frag} {C : Addr} {H : Hp} {m dx ths nt b : Addr} {hd st ms : V} {kept : List (Int × PyData)} {on : Int} {log : List PyData} (h : Mkr K C H m dx ths nt hd st ms kept on log) (e : H b = none) : b ≠ nt := fun z => by
  obtain ⟨ls, c, _⟩ := h.lg
  rw [← z, e] at c
  cases c
theorem Mkr.nt_xd {K : PySem.W.Frag} {C : Addr} {H : Hp} {m dx ths nt b : Addr} {hd st ms : V} {kept : List (Int × PyData)} {on : Int} {log : List PyData} {fs : List (Str × V)} (h : Mkr K C H m dx ths nt hd st ms kept on log) (e : H b = some (.xd fs)) : b ≠ nt := fun z => by
  obtain ⟨ls, c, _⟩ := h.lg
  rw [← z, e] at c
  cases c
theorem exO {H H' : Hp} {nt : Addr} (h : ∀ b, b ≠ nt → H' b = H b) : Ex [nt] H H' := fun b o e n => by rw [h b (by simpa using n)]; exact e
theorem DdAt.ex {H H' : Hp} {C z nt : Addr} {s d r : V} {ls : List V} {ws : List Addr} (h : DdAt C H z nt s d r ls) (e : Ex ws H H') (hz : z ∉ ws) (hn : nt ∉ ws) : DdAt C H' z nt s d r ls := by
  obtain ⟨dz, a, b, c⟩ := h
  exact ⟨dz, e _ _ a hz, e _ _ b hn, c⟩
theorem pi_ltK {X : Cx} {K : PySem.W.Frag} {tg l : Expr} {tl : TE} (h : X.K = K) (hl : PE X l tl) : PI X tg l (iLT K tl) := h ▸ pi_lt hl
/-- the end of a deed -/
theorem deed_out {H : Hp} {C CD z nt m dx ths : Addr} {s d r kd x y : V} {hd st ms : V} {kept : List (Int × PyData)} {on : Int} {log : List PyData} {ls : List V} {o : PyData} {Q : VK} {E : XK} (hM : Mkr K C H m dx ths nt hd st ms kept on log) (hD : DdAt CD H z nt s d r ls)
    (hl : log.length < 5000) (hd' : Fd K H d o) (hr : Fd K H r o) (hk : kd = .non ∨ ∃ c, kd = .ref c) (q : ∀ H', (∀ b, b ≠ nt → H' b = H b) → Mkr K C H' m dx ths nt hd st ms kept on (log ++ [o]) → Q .non H') : spEx CD [.ref z, kd, x, y] H Q E := by
  obtain ⟨dz, a, b, c⟩ := hD
  refine ⟨z, nt, s, d, r, kd, x, y, ls, rfl, ⟨dz, a, b, c⟩, fun _ => q _ (fun b n => upd_ne n) (hM.note b hd' hl), fun cc _ => q _ (fun b n => upd_ne n) (hM.note b hr hl), hk⟩
/-- with self.deed(x): body -/
theorem with_deed {H : Hp} {C CD m dx ths nt : Addr} {hd st ms : V} {kept : List (Int × PyData)} {on : Int} {log : List PyData} {x : Str} {Wout : WX} {tb : WX → TS} {D : Ends} {σ : L2.St} (hM : Mkr K C H m dx ths nt hd st ms kept on log) (hl : log.length + 2 ≤ 5000) (h0 : σ[0]? = some (some (.ref m)))
    (hb : ∀ (H2 : Hp) (z : Addr) (s d r : V) (ls : List V), Ex [nt] H H2 → DdAt CD H2 z nt s d r ls → Mkr K C H2 m dx ths nt hd st ms kept on (log ++ [inD x]) → Fd K H2 d (outD x) → Fd K H2 r (outD x) → z ≠ m ∧ z ≠ ths ∧ z ≠ nt → tb (wExit z (spEx CD) Wout) (dExit z (spEx CD) D) σ H2) :
    tWith CD (spEn CD) (spEx CD) Wout (tMeth C "deed" (spDeed K CD C) [] (fun _ _ _ => False) (tVar 0) (tCons (tC (.str x)) tNil)) tb D σ H := by
  refine ⟨_, h0, m, dx, _, rfl, hM.ob, rfl, m, dx, ths, nt, hd, st, ms, kept, on, log, x, rfl, hM, fun H1 z s d r ls s1 hz hD hls hs hd' hr => ?_⟩
  obtain ⟨dz, a, b, c⟩ := hD
  refine ⟨z, dz, _, rfl, a, z, nt, s, d, r, ls, rfl, ⟨dz, a, b, c⟩, ?_⟩
  have n : z ≠ nt := fun e => by rw [e, b] at a; cases a
  have tp : Tp K H1 (upd H1 nt (.lst (ls ++ [s]))) := Tp.lst b
  have nm : z ≠ m := fun e => by have := hM.ob; rw [← e, hz] at this; cases this
  have nth : z ≠ ths := fun e => by obtain ⟨_, q, _⟩ := hM.th; rw [← e, hz] at q; cases q
  exact hb _ z s d r _ ((Ex.of_same s1).trans (Ex.at (by simp))) ⟨dz, by rw [upd_ne n]; exact a, upd_same, by have := Fds.len hls; rw [List.length_append]; simp; omega⟩ ((hM.same s1).note b hs (by omega)) (hd'.keep tp) (hr.keep tp) ⟨nm, nth, n⟩
theorem DdAt.same {H H' : Hp} {C z nt : Addr} {s d r : V} {ls : List V} (h : DdAt C H z nt s d r ls) (e : Same H H') : DdAt C H' z nt s d r ls := by
  obtain ⟨dz, a, b, c⟩ := h
  exact ⟨dz, e _ _ a, e _ _ b, c⟩
abbrev s_NotKept : Stmt := (clsBody (topS 15)).getD 0 (.Pass ⟨0, 0, 0, 0⟩)
theorem sc_NotKept : FnScope ["self", "number"] ["self", "number"] (defScope s_NotKept) := ⟨rfl, rfl, rfl, by decide +kernel, rfl, by decide +kernel, by decide +kernel⟩
variable {c_NotKept i_NotKept : Addr} {f_NotKept : FuncData}
theorem ini_NotKept {P : Program} {w : World} {base : Heap} (R : RfV K mg "NotKept" "NotKept.__init__" c_NotKept i_NotKept f_NotKept s_NotKept ["number"]) : FnOk P w K mg base CX0 1 i_NotKept f_NotKept ["self", "number"] (spIni1 c_NotKept "number") := by
  refine R.F.ok sc_NotKept (fun vs H Q E h => ?_) (fun cdv A outer s H vs Q E hr h => ?_)
  · obtain ⟨a, x, rfl, _⟩ := h
    rfl
  obtain ⟨a, x, rfl, ha, q⟩ := h
  refine ⟨_, pss_one (ps_ox (pv 0) (pv 1)), ?_⟩
  refine ⟨_, rfl, _, rfl, a, _, rfl, R.o, R.fld _ (by simp), .inl ⟨ha, fun d hd nd => q d _ hd upd_same ?_ fun b h1 h2 => ?_⟩⟩
  · rw [upd_ne nd, upd_same]
  · rw [upd_ne h1, upd_ne h2]
abbrev s_Maker_wish : Stmt := inClass (topS 40) 1
theorem sc_Maker_wish : FnScope ["self", "program"] ["self", "program"] (defScope s_Maker_wish) := ⟨rfl, rfl, rfl, by decide +kernel, rfl, by decide +kernel, by decide +kernel⟩
abbrev s_Maker_examples : Stmt := inClass (topS 40) 2
theorem sc_Maker_examples : FnScope ["self", "some", "fresh", "inputs", "answer"] ["self", "some"] (defScope s_Maker_examples) := ⟨rfl, rfl, rfl, by decide +kernel, rfl, by decide +kernel, by decide +kernel⟩
abbrev s_Maker_back : Stmt := inClass (topS 40) 3
theorem sc_Maker_back : FnScope ["self", "number"] ["self", "number"] (defScope s_Maker_back) := ⟨rfl, rfl, rfl, by decide +kernel, rfl, by decide +kernel, by decide +kernel⟩
def spWish (K : PySem.W.Frag) (C CN : Addr) (bad : List Str) : Sp := fun vs H Q E => ∃ (m dx ths nt h : Addr) (ks : List Bool) (k : Bool) (st ms : V) (kept : List (Int × PyData)) (on : Int) (log : List PyData) (v : V) (d : PyData), vs = [.ref m, v] ∧ Mkr K C H m dx ths nt (.ref h) st ms kept on log ∧ HdAt K H h ks k ∧ ks.length ≤ 100 ∧ Fd K H v d ∧
  (knD d).length ≤ 10000 ∧ (∀ x ∈ knD d, wordOk bad x ∧ dsz x ≤ 90000) ∧ kept.length + 1 ≤ 5000 ∧ on + 1 ≤ 9000 ∧ log.length + 2 ≤ 5000 ∧
  (dueW (ks ++ [k]) d = none → ∀ H', Ex [m, ths, nt] H H' → Mkr K C H' m dx ths nt (.ref h) st ms (kept ++ [(on, .tuple [.str "wish", d])]) (on + 1) (log ++ [inD "wish", outD "wish"]) → Q (.int on) H') ∧
  ∀ x n, dueW (ks ++ [k]) d = some (x, n) → ∀ a H', Ex [m, ths, nt] H H' → Mkr K C H' m dx ths nt (.ref h) st ms kept on (log ++ [inD "wish", outD "wish"]) → H' a = some (.xd [("at", .int (n : Nat)), ("word", .str x)]) → E (.ref CN) (some a) H'
theorem ok_Maker_wish {c_NoProgram : Addr} {bad : List Str} (B : Bt mg) (T_Maker : ClsAt K mg "Maker" c_Maker MF) (WI : WithC P w K mg base c_Deed (spEn c_Deed) (spEx c_Deed)) (M_Maker_deed : CalM P w K mg base 5 c_Maker "deed" ["self", "word"] (spDeed K c_Deed c_Maker)) (M_Maker_numbered : CalM P w K mg base 5 c_Maker "numbered" ["self", "fresh"] (spNum K c_Maker))
    (C_refuse_wish : CalX P w K mg base 5 "refuse_wish" ["head", "program"] (spRW K c_NoProgram bad)) (D : DefM K c_Maker "wish" "Maker.wish" s_Maker_wish ["self", "program"]) : CalMX P w K mg base 6 c_Maker "wish" ["self", "program"] (spWish K c_Maker c_NoProgram bad) := by
  refine calmx_of D sc_Maker_wish (fun vs H Q E h => ?_) (fun f cdv A outer s H vs Q E hr h => ?_)
  · obtain ⟨m, dx, ths, nt, h, ks, k, st, ms, kept, on, log, v, d, rfl, _⟩ := h
    rfl
  obtain ⟨m, dx, ths, nt, h, ks, k, st, ms, kept, on, log, v, d, rfl, hM, hH, hks, hv, hkn, hbd, hkl, hon, hll, q, qe⟩ := h
  have hr' : Room 5 _ := hr
  refine ⟨_, (pss_one (ps_withC rfl rfl rfl WI hr' (takes_of rfl rfl rfl rfl) (pe_calM M_Maker_deed T_Maker.c hr' (pv 0) (pa_cons pe_str pa_nil)) (fun W pn xe tk _ => (pss_cons (ps_expr (pe_calX C_refuse_wish tk hr' (by rfl) (pa_cons (pe_fldK (K := K) rfl (pv 0) rfl) (pa_cons (pv 1) pa_nil))))
      (pss_one (ps_ret (pe_ix (ix_listK (K := K) rfl) (pe_calM M_Maker_numbered T_Maker.c hr' (pv 0) (pa_cons (pe_lst (pa_cons (pe_tup (pa_cons pe_str (pa_cons (pv 1) pa_nil))) pa_nil)) pa_nil)) pe_int (fun _ _ => rfl)))))))), ?_⟩
  refine with_deed hM hll rfl fun H2 z s d' r ls ex2 hD2 hM2 hd2 hr2 hz => ?_
  have tp2 : Tp K H H2 := hM.tp ex2 (by simp)
  have lg : (log ++ [inD "wish"]).length < 5000 := by rw [List.length_append]; simp; omega
  have out : ∀ (o : PyData), log ++ [inD "wish"] ++ [o] = log ++ [inD "wish", o] := fun o => by rw [List.append_assoc]; rfl
  refine ⟨_, rfl, m, c_Maker, dx, _, _, rfl, hM2.ob, T_Maker.c, T_Maker.n _ (by simp [MF]), rfl, _, rfl, h, ks, k, v, d, rfl, hH.keep tp2, hks, hv.keep tp2, hkn, hbd, fun e H3 s3 => ?_, fun x n e a H3 s3 hx => ?_⟩
  · have hM3 := hM2.same s3
    refine ⟨_, rfl, m, dx, _, rfl, hM3.ob, rfl, _, rfl, (by show 2 ≤ sizeLine; decide), fun t1 h1 => ⟨(by show 1 ≤ sizeLine; decide), fun t2 h2 => ?_⟩⟩
    have sA := same_new (o := .tup [.str "wish", v]) h1
    have e1 : upd H3 t1 (.tup [.str "wish", v]) t1 = some (.tup [.str "wish", v]) := upd_same
    generalize upd H3 t1 (.tup [.str "wish", v]) = H4 at sA e1 h2
    have sB := same_new (o := .lst [.ref t1]) h2
    have e2 : upd H4 t2 (.lst [.ref t1]) t2 = some (.lst [.ref t1]) := upd_same
    generalize upd H4 t2 (.lst [.ref t1]) = H5 at sB e2
    have s5 := (s3.trans sA).trans sB
    have hM5 := hM2.same s5
    obtain ⟨lx, hlx, _⟩ := hM5.lg
    have hvT : Fd K H5 (.ref t1) (.tuple [.str "wish", d]) := by
      obtain ⟨f1, f2⟩ := hv.keep (tp2.trans (Tp.same s5))
      exact ⟨by simp [flat, flat.flats, f1], .tup (.inl (.inl (sB _ _ e1))) (.cons (.str _) (.cons f2 .nil))⟩
    refine ⟨m, dx, ths, nt, t2, .ref h, st, ms, kept, on, _, [.ref t1], [.tuple [.str "wish", d]], rfl, hM5, SqL.of e2, fun z => ?_, Fds.cons hvT Fds.nil, hkl, hon, fun H6 p ex6 hp e6 hM6 => ?_⟩
    · exact (hM2.same (s3.trans sA)).nt_no h2 z
    · refine ⟨p, _, 0, .int on, rfl, rfl, SqL.of e6, by show some (V.int (on + ((0 : Nat) : Int))) = _; rw [show on + ((0 : Nat) : Int) = on by omega], ?_⟩
      have tp6 : Tp K H2 H6 := (Tp.same s5).trans (hM5.tp ex6 (by simp))
      have hD6 := (hD2.same s5).ex ex6 (by simp [hz.1, hz.2.1]) (by simp [hM5.ne.1.symm, hM5.ne.2.1.symm])
      refine deed_out (Q := fun _ H' => Q (.int on) H') (E := fun _ _ _ => False) hM6 hD6 lg (hd2.keep tp6) (hr2.keep tp6) (.inl rfl) fun H7 o7 hM7 => q e H7 ?_ (by rw [← out]; exact hM7)
      exact (((ex2.mono (by simp)).trans (Ex.of_same s5)).trans (ex6.mono (by simp))).trans ((exO o7).mono (by simp))
  · refine ⟨c_NoProgram, rfl, fun e' t he' => deed_out (hM2.same s3) (hD2.same s3) lg (hd2.keep (Tp.same s3)) (hr2.keep (Tp.same s3)) (.inr ⟨_, rfl⟩) fun H4 o4 hM4 => ⟨rfl, qe x n e a H4 ?_ (by rw [← out]; exact hM4) ?_⟩⟩
    · exact ((ex2.mono (by simp)).trans (Ex.of_same s3)).trans ((exO o4).mono (by simp))
    · rw [o4 a fun z => ?_]
      · exact hx
      · exact (hM2.same s3).nt_xd hx z
theorem fd_two {K : PySem.W.Frag} {H : Hp} {v : V} {d e : PyData} (h : Fd K H v (.tuple [d, e])) : ∃ a x y, v = .ref a ∧ SqT K H a [x, y] ∧ Fd K H x d ∧ Fd K H y e := by
  obtain ⟨f, h⟩ := h
  have f' : (flat d && (flat e && true)) = true := f
  rw [Bool.and_eq_true, Bool.and_eq_true] at f'
  cases h with
  | tup q r =>
    cases r with
    | cons a r => cases r with
      | cons b r => cases r; exact ⟨_, _, _, rfl, q, ⟨f'.1, a⟩, ⟨f'.2.1, b⟩⟩
theorem items_fds {K : PySem.W.Frag} {H : Hp} : ∀ {kvs : List (Key × V)} {ds : List (Int × PyData)} {ts : List Addr}, KF K H kvs ds → Paired (fun (t : Addr) (q : Key × V) => H t = some (.tup [kV q.1, q.2])) ts kvs → Fds K H (ts.map V.ref) (ds.map pairD)
  | _, _, _, .nil, .nil => Fds.nil
  | (_, _) :: _, _ :: _, _ :: _, .cons ⟨e, f⟩ a, .cons b c => by
    cases e
    exact Fds.cons (pair_put b f) (items_fds a c)
theorem kf_drop {K : PySem.W.Frag} {H : Hp} : ∀ {kvs : List (Key × V)} {ds : List (Int × PyData)}, KF K H kvs ds → ∀ n : Int, KF K H (dropK kvs (.inl n)) (ds.filter fun o => o.1 ≠ n)
  | _, _, .nil, _ => .nil
  | (c, v) :: kvs, (i, d) :: ds, .cons ⟨e, f⟩ t, n => by
    simp only at e
    subst e
    have ih := kf_drop t n
    unfold dropK at ih ⊢
    by_cases z : i = n
    · rw [List.filter_cons_of_neg (by simp [z]), List.filter_cons_of_neg (by simp [z])]
      exact ih
    · rw [List.filter_cons_of_pos (by simp [z]), List.filter_cons_of_pos (by simp [z])]
      exact .cons ⟨rfl, f⟩ ih
theorem kf_has {K : PySem.W.Frag} {H : Hp} : ∀ {kvs : List (Key × V)} {ds : List (Int × PyData)}, KF K H kvs ds → ∀ n : Int, (valV kvs (.inl n) = none ∧ ∀ o ∈ ds, o.1 ≠ n) ∨ ((valV kvs (.inl n)).isSome = true ∧ ∃ o ∈ ds, o.1 = n)
  | _, _, .nil, _ => .inl ⟨rfl, fun _ h => nomatch h⟩
  | (c, v) :: kvs, (i, d) :: ds, .cons ⟨e, f⟩ t, n => by
    simp only at e
    subst e
    by_cases z : i = n
    · exact .inr ⟨by rw [valV_pos (by rw [z])]; rfl, (i, d), List.mem_cons_self, z⟩
    · rw [valV_neg (fun y => z (Sum.inl.inj y))]
      rcases kf_has t n with ⟨a, b⟩ | ⟨a, o, ho, b⟩
      · refine .inl ⟨a, fun o ho => ?_⟩
        rcases List.mem_cons.mp ho with y | y
        · rw [y]; exact z
        · exact b o y
      · exact .inr ⟨a, o, List.mem_cons_of_mem _ ho, b⟩
def LcR (g : TG) (tt : TT) (te : TE) (vs : List Nat) (σ : L2.St) (Qd : Addr → Hp → Prop) : It → Hp → Prop := fun J H1 => ∀ D, H1 D = none → ∃ W : Nat → Nat → Hp → Prop, (∃ m, W 0 m (upd H1 D (.lst []))) ∧ ∀ i m H, W i m H →
  (J.stop i H ∧ Qd D H) ∨ (J.go i H ∧ ∃ Nx : Hp → Prop, (∀ H', Nx H' → ∃ m', m' < m ∧ W (i + 1) m' H') ∧ ∀ x H', J.yld i H x H' → g x (wipe σ vs) H' fun σ2 H2 => wipe σ2 vs = wipe σ vs ∧ tt σ2 H2 fun b H3 =>
    if b = true then te σ2 H3 fun y H4 => ∃ acc, H4 D = some (.lst acc) ∧ acc.length < sizeLine ∧ Nx (upd H4 D (.lst (acc ++ [y]))) else Nx H3)
theorem lc_lt {K : PySem.W.Frag} {a : Addr} {xs : List V} {g : TG} {tt : TT} {te : TE} {vs : List Nat} {σ : L2.St} {H1 : Hp} {Qd : Addr → Hp → Prop} (hsm : SqL K H1 a xs ∨ SqT K H1 a xs) (Pv : Addr → Nat → Hp → Prop) (h0 : ∀ D, H1 D = none → Pv D 0 (upd H1 D (.lst []))) (keep : ∀ D i H, Pv D i H → Same H1 H)
    (hs : ∀ D i x H, H1 D = none → xs[i]? = some x → Pv D i H → g x (wipe σ vs) H fun σ2 H2 => wipe σ2 vs = wipe σ vs ∧ tt σ2 H2 fun b H3 =>
      if b = true then te σ2 H3 fun y H4 => ∃ acc, H4 D = some (.lst acc) ∧ acc.length < sizeLine ∧ Pv D (i + 1) (upd H4 D (.lst (acc ++ [y]))) else Pv D (i + 1) H3) (hd : ∀ D H, Pv D xs.length H → Qd D H) :
    ((∃ ys, SqL K H1 a ys) ∧ LcR g tt te vs σ Qd (Itl K a) H1) ∨ ((∃ ys, SqT K H1 a ys) ∧ LcR g tt te vs σ Qd (Itt K a) H1) := by
  rcases hsm with h | h
  · exact .inl ⟨⟨xs, h⟩, fun D hD => lc_list (K := K) (xs := xs) (fun i H => Pv D i H) (h0 D hD) (fun i H _ p => (keep D i H p).seq h) (fun i x H hx p => hs D i x H hD hx p) (fun H p => hd D H p)⟩
  · exact .inr ⟨⟨xs, h⟩, fun D hD => lc_tup (K := K) (xs := xs) (fun i H => Pv D i H) (h0 D hD) (fun i H _ p => Tp.same (keep D i H p) _ _ h) (fun i x H hx p => hs D i x H hD hx p) (fun H p => hd D H p)⟩
def inEx (d : PyData) : PyData := .tuple [exI d, exA d]
def Seq1 (K : PySem.W.Frag) (H : Hp) (p : Addr) (us : List V) : Prop := SqL K H p us ∨ SqT K H p us
def spExs (K : PySem.W.Frag) (C CI CC : Addr) : Sp := fun vs H Q E => ∃ (m dx ths nt h sm : Addr) (ks : List Bool) (k : Bool) (st ms : V) (kept : List (Int × PyData)) (on : Int) (log : List PyData) (us : List V) (ds : List PyData), vs = [.ref m, .ref sm] ∧ Mkr K C H m dx ths nt (.ref h) st ms kept on log ∧ HdAt K H h ks k ∧ ks.length ≤ 100 ∧
  (SqL K H sm us ∨ SqT K H sm us) ∧ sm ≠ nt ∧ Fds K H us (ds.map inEx) ∧ (∀ d ∈ ds, isExD d) ∧ kept.length + ds.length ≤ 5000 ∧ on + ds.length ≤ 9000 ∧ log.length + 2 ≤ 5000 ∧
  (∀ o ∈ kept, isExB o.2 = true → isExD o.2) ∧ (∀ o ∈ kept, ∃ x r, o.2 = .tuple (.str x :: r)) ∧ (∀ o ∈ kept, o.2.depth ≤ 60) ∧ (∀ d ∈ ds, d.depth ≤ 60) ∧
  (firstBad (exOk ks k) ds 0 = none → firstClash kept on ds = none → ∀ (H' : Hp) (p : Addr), H p = none → Ex [m, ths, nt] H H' → H' p = some (.lst ((List.range ds.length).map fun (i : Nat) => V.int (on + (i : Int)))) → Mkr K C H' m dx ths nt (.ref h) st ms (kept ++ numD on ds) (on + ds.length) (log ++ [inD "examples", outD "examples"]) → p ≠ nt → Q (.ref p) H') ∧
  (∀ n, firstBad (exOk ks k) ds 0 = some n → ∀ a H', Ex [m, ths, nt] H H' → Mkr K C H' m dx ths nt (.ref h) st ms kept on (log ++ [inD "examples", outD "examples"]) → H' a = some (.xd [("at", .int (n : Nat))]) → E (.ref CI) (some a) H') ∧
  ∀ n i, firstBad (exOk ks k) ds 0 = none → firstClash kept on ds = some (n, i) → ∀ a H', Ex [m, ths, nt] H H' → Mkr K C H' m dx ths nt (.ref h) st ms kept on (log ++ [inD "examples", outD "examples"]) → H' a = some (.xd [("number", .int i), ("at", .int (n : Nat))]) → E (.ref CC) (some a) H'
theorem ok_Maker_examples {c_NoInputs c_Clash : Addr} (B : Bt mg) (T_Maker : ClsAt K mg "Maker" c_Maker MF) (WI : WithC P w K mg base c_Deed (spEn c_Deed) (spEx c_Deed)) (M_Maker_deed : CalM P w K mg base 5 c_Maker "deed" ["self", "word"] (spDeed K c_Deed c_Maker)) (M_Maker_numbered : CalM P w K mg base 5 c_Maker "numbered" ["self", "fresh"] (spNum K c_Maker))
    (C_refuse_examples : CalX P w K mg base 5 "refuse_examples" ["head", "fresh"] (spRE K c_NoInputs)) (C_refuse_clashes : CalX P w K mg base 5 "refuse_clashes" ["kept", "fresh", "onward"] (spRC K c_Clash)) (D : DefM K c_Maker "examples" "Maker.examples" s_Maker_examples ["self", "some"]) : CalMX P w K mg base 6 c_Maker "examples" ["self", "some"] (spExs K c_Maker c_NoInputs c_Clash) := by
  refine calmx_of D sc_Maker_examples (fun vs H Q E h => ?_) (fun f cdv A outer s H vs Q E hr h => ?_)
  · obtain ⟨m, dx, ths, nt, h, sm, ks, k, st, ms, kept, on, log, us, ds, rfl, _⟩ := h
    rfl
  obtain ⟨m, dx, ths, nt, h, sm, ks, k, st, ms, kept, on, log, us, ds, rfl, hM, hH, hks, hsm, hsn, hus, hex, hkl, hon, hll, hke, hkt, hkd, hdd, q, qi, qc⟩ := h
  have hr' : Room 5 _ := hr
  refine ⟨_, (pss_one (ps_withC rfl rfl rfl WI hr' (takes_of rfl rfl rfl rfl) (pe_calM M_Maker_deed T_Maker.c hr' (pv 0) (pa_cons pe_str pa_nil)) (fun W pn xe tk _ => (pss_cons (ps_setLc (i := 2) (own := [("inputs", 3), ("answer", 4)]) (g := gTup K 2 (gCons (gName 3) (gCons (gName 4) gNil))) rfl sc_Maker_examples.nd rfl rfl (sw_true rfl rfl rfl (by decide +kernel)) (pi_ltK (K := K) rfl (pv 1)) (blkOk_by (own := [("inputs", 3), ("answer", 4)]) (N := ["self", "some", "fresh", "inputs", "answer"]) (by rfl)) (fun _ _ _ _ _ => (pg_tupK (K := K) rfl rfl (pgs_cons (pg_name (i := 3) sc_Maker_examples.nd rfl (.inl rfl)) (pgs_cons (pg_name (i := 4) sc_Maker_examples.nd rfl (.inl rfl)) pgs_nil)))) (fun _ _ _ _ _ => pts_nil) (fun _ _ _ _ _ => (pe_tup (pa_cons pe_str (pa_cons (pv 3) (pa_cons (pv 4) pa_nil))))))
      (pss_cons (ps_expr (pe_calX C_refuse_examples tk hr' (by rfl) (pa_cons (pe_fldK (K := K) rfl (pv 0) rfl) (pa_cons (pv 2) pa_nil))))
      (pss_cons (ps_expr (pe_calX C_refuse_clashes tk hr' (by rfl) (pa_cons (LiI.pe_listItems rfl (pe_fldK (K := K) rfl (pv 0) rfl) (by rfl) B.list PyProof.Rows.boot_list) (pa_cons (pv 2) (pa_cons (pe_fldK (K := K) rfl (pv 0) rfl) pa_nil)))))
      (pss_one (ps_ret (pe_calM M_Maker_numbered T_Maker.c hr' (pv 0) (pa_cons (pv 2) pa_nil)))))))))), ?_⟩
  refine with_deed hM hll rfl fun H2 z s d' r ls ex2 hD2 hM2 hd2 hr2 hz => ?_
  have tp2 : Tp K H H2 := hM.tp ex2 (by simp)
  have lg : (log ++ [inD "examples"]).length < 5000 := by rw [List.length_append]; simp; omega
  have out : ∀ (o : PyData), log ++ [inD "examples"] ++ [o] = log ++ [inD "examples", o] := fun o => by rw [List.append_assoc]; rfl
  have ul : us.length = ds.length := by rw [hus.len, List.length_map]
  have hs2 : SqL K H2 sm us ∨ SqT K H2 sm us := by
    rcases hsm with q | q
    · refine .inl ?_
      rcases q with (q | ⟨u, q⟩) | q
      · exact .inl (.inl (ex2 _ _ q (by simpa using hsn)))
      · exact .inl (.inr ⟨u, ex2 _ _ q (by simpa using hsn)⟩)
      · exact .inr q
    · exact .inr (tp2 _ _ q)
  refine ⟨_, rfl, sm, rfl, lc_lt hs2 (fun D i H' => Same H2 H' ∧ H2 D = none ∧ ∃ ws, H' D = some (.lst ws) ∧ ws.length = i ∧ Fds K H' ws (ds.take i)) (fun D hD => ⟨same_new hD, hD, [], upd_same, rfl, by rw [List.take_zero]; exact Fds.nil⟩) (fun D i H' p => p.1) ?_ ?_⟩
  · rintro D i x H' hD hx ⟨s', _, ws, hA, wl, hW⟩
    obtain ⟨d0, hd0, hDx⟩ := hus.nth hx
    rw [List.getElem?_map] at hd0
    obtain ⟨d, hdd0, rfl⟩ := Option.map_eq_some_iff.mp hd0
    have hi : i < 5000 := by have := (List.getElem?_eq_some_iff.mp hdd0).1; omega
    obtain ⟨t, x1, x2, rfl, ht, f1, f2⟩ := fd_two (hDx.keep (tp2.trans (Tp.same s')))
    refine ⟨t, _, rfl, ht, rfl, _, _, rfl, _, _, rfl, rfl, rfl, ?_⟩
    refine iteT (B := False) ⟨_, rfl, _, rfl, (by show 3 ≤ sizeLine; decide), fun t' ht' => ?_⟩
    have sT := same_new (o := .tup [.str "example", x1, x2]) ht'
    have nD : D ≠ t' := ne_of_none hA ht'
    refine ⟨ws, sT _ _ hA, smallL (by omega), fun b u e => ?_, hD, ws ++ [.ref t'], upd_same, by rw [List.length_append, wl]; rfl, ?_⟩
    · rw [upd_ne (ne_of_none e hD)]
      exact sT _ _ (s' _ _ e)
    · have tpD : Tp K (upd H' t' (.tup [.str "example", x1, x2])) (upd (upd H' t' (.tup [.str "example", x1, x2])) D (.lst (ws ++ [.ref t']))) := Tp.lst (sT _ _ hA)
      have xd := ex_of (hex d (List.mem_of_getElem? hdd0))
      have hT : Fd K (upd H' t' (.tup [.str "example", x1, x2])) (.ref t') d := by
        rw [xd]
        exact ⟨by simp [exD, flat, flat.flats, f1.1, f2.1], .tup (.inl (.inl upd_same)) (.cons (.str _) (.cons (f1.keep (Tp.same sT)).2 (.cons (f2.keep (Tp.same sT)).2 .nil)))⟩
      rw [List.take_add_one, hdd0]
      exact (hW.keep ((Tp.same sT).trans tpD)).app (Fds.cons (hT.keep tpD) Fds.nil)
  · rintro D H3 ⟨s3, hDn, ws, hA, wl, hW⟩
    rw [ul, List.take_length] at hW
    have hM3 := hM2.same s3
    have fin : ∀ {H' : Hp} {a : Addr} {fs : List (Str × V)}, Same H2 H' → H' a = some (.xd fs) → ∀ H4, (∀ b, b ≠ nt → H4 b = H' b) → Ex [m, ths, nt] H H4 ∧ H4 a = some (.xd fs) := fun {H' a fs} s' hx H4 o4 =>
      ⟨((ex2.mono (by simp)).trans (Ex.of_same s')).trans ((exO o4).mono (by simp)), by rw [o4 a ((hM2.same s').nt_xd hx)]; exact hx⟩
    refine ⟨_, rfl, m, c_Maker, dx, _, _, rfl, hM3.ob, T_Maker.c, T_Maker.n _ (by simp [MF]), rfl, _, rfl, h, D, ks, k, ws, ds, rfl, hH.keep (tp2.trans (Tp.same s3)), hks, SqL.of hA, hW, hex, fun e1 H4 s4 => ?_, fun n e a H4 s4 hx => ?_⟩
    · have s24 := s3.trans s4
      have hM4 := hM2.same s24
      obtain ⟨kvs, hth, hkf⟩ := hM4.th
      refine ⟨_, rfl, m, c_Maker, dx, _, _, rfl, hM4.ob, T_Maker.c, T_Maker.n _ (by simp [MF]), rfl, ths, kvs, rfl, hth, fun H5 p ts s5 hp hts hpt e5 hpr => ?_⟩
      have s25 := s24.trans s5
      have hM5 := hM2.same s25
      refine ⟨_, rfl, _, rfl, m, c_Maker, dx, _, _, rfl, hM5.ob, T_Maker.c, T_Maker.n _ (by simp [MF]), rfl, p, D, kept, on, ts.map V.ref, ws, ds, rfl, SqL.of e5, items_fds (hkf.keep (Tp.same s5)) hpr, SqL.of (s5 _ _ (s4 _ _ hA)), hW.keep (Tp.same (s4.trans s5)), hex, hke, hkt, by omega, by omega, hkd, hdd, fun e2 H6 s6 => ?_, fun n i e a H6 s6 hx => ?_⟩
      · have s26 := s25.trans s6
        have hM6 := hM2.same s26
        refine ⟨_, rfl, m, dx, _, rfl, hM6.ob, rfl, _, rfl, m, dx, ths, nt, D, .ref h, st, ms, kept, on, _, ws, ds, rfl, hM6, SqL.of (s6 _ _ (s5 _ _ (s4 _ _ hA))), hM2.nt_no hDn, hW.keep (Tp.same ((s4.trans s5).trans s6)), hkl, hon, fun H7 p7 ex7 hp7 e7 hM7 => ?_⟩
        have tp7 : Tp K H2 H7 := (Tp.same s26).trans (hM6.tp ex7 (by simp))
        have hD7 := (hD2.same s26).ex ex7 (by simp [hz.1, hz.2.1]) (by simp [hM6.ne.1.symm, hM6.ne.2.1.symm])
        have np := hM6.nt_no hp7
        refine deed_out (Q := fun _ H' => Q (.ref p7) H') (E := fun _ _ _ => False) hM7 hD7 lg (hd2.keep tp7) (hr2.keep tp7) (.inl rfl) fun H8 o8 hM8 => q e1 e2 H8 p7 ?_ ?_ (by rw [o8 _ np]; exact e7) (by rw [← out]; exact hM8) np
        · exact (ex2.trans (Ex.of_same s26)).free hp7 (by simpa using np)
        · exact (((ex2.mono (by simp)).trans (Ex.of_same s26)).trans (ex7.mono (by simp))).trans ((exO o8).mono (by simp))
      · refine ⟨c_Clash, rfl, fun e' t he' => deed_out (hM2.same (s25.trans s6)) (hD2.same (s25.trans s6)) lg (hd2.keep (Tp.same (s25.trans s6))) (hr2.keep (Tp.same (s25.trans s6))) (.inr ⟨_, rfl⟩) fun H7 o7 hM7 => ⟨rfl, ?_⟩⟩
        have := fin (s25.trans s6) hx H7 o7
        exact qc n i e1 e a H7 this.1 (by rw [← out]; exact hM7) this.2
    · refine ⟨c_NoInputs, rfl, fun e' t he' => deed_out (hM2.same (s3.trans s4)) (hD2.same (s3.trans s4)) lg (hd2.keep (Tp.same (s3.trans s4))) (hr2.keep (Tp.same (s3.trans s4))) (.inr ⟨_, rfl⟩) fun H7 o7 hM7 => ⟨rfl, ?_⟩⟩
      have := fin (s3.trans s4) hx H7 o7
      exact qi n e a H7 this.1 (by rw [← out]; exact hM7) this.2
def spBack (K : PySem.W.Frag) (C CN : Addr) : Sp := fun vs H Q E => ∃ (m dx ths nt : Addr) (hd st ms : V) (kept : List (Int × PyData)) (on : Int) (log : List PyData) (n : Int), vs = [.ref m, .int n] ∧ Mkr K C H m dx ths nt hd st ms kept on log ∧ log.length + 2 ≤ 5000 ∧
  ((∃ o ∈ kept, o.1 = n) → ∀ H', Ex [m, ths, nt] H H' → Mkr K C H' m dx ths nt hd st ms (kept.filter fun o => o.1 ≠ n) on (log ++ [inD "back", outD "back"]) → Q .non H') ∧
  ((∀ o ∈ kept, o.1 ≠ n) → ∀ a H', Ex [m, ths, nt] H H' → Mkr K C H' m dx ths nt hd st ms kept on (log ++ [inD "back", outD "back"]) → H' a = some (.xd [("number", .int n)]) → E (.ref CN) (some a) H')
theorem ok_Maker_back (B : Bt mg) (T_Maker : ClsAt K mg "Maker" c_Maker MF) (WI : WithC P w K mg base c_Deed (spEn c_Deed) (spEx c_Deed)) (M_Maker_deed : CalM P w K mg base 5 c_Maker "deed" ["self", "word"] (spDeed K c_Deed c_Maker)) (R_NotKept : RfV K mg "NotKept" "NotKept.__init__" c_NotKept i_NotKept f_NotKept s_NotKept ["number"]) (TY_NotKept : PySem.W.typeIn K (.ref c_NotKept) = some (.type "type"))
    (D : DefM K c_Maker "back" "Maker.back" s_Maker_back ["self", "number"]) : CalMX P w K mg base 6 c_Maker "back" ["self", "number"] (spBack K c_Maker c_NotKept) := by
  refine calmx_of D sc_Maker_back (fun vs H Q E h => ?_) (fun f cdv A outer s H vs Q E hr h => ?_)
  · obtain ⟨m, dx, ths, nt, hd, st, ms, kept, on, log, n, rfl, _⟩ := h
    rfl
  obtain ⟨m, dx, ths, nt, hd, st, ms, kept, on, log, n, rfl, hM, hll, q, qe⟩ := h
  have hr' : Room 5 _ := hr
  have hr'' : Room (1 + 1) _ := hr.mono (by decide)
  refine ⟨_, (pss_one (ps_withC rfl rfl rfl WI hr' (takes_of rfl rfl rfl rfl) (pe_calM M_Maker_deed T_Maker.c hr' (pv 0) (pa_cons pe_str pa_nil)) (fun W pn xe tk _ => (pss_cons (ps_if (pt_cmp (pc_dnotin (hu_of hr) (pv 1) (pe_fldK (K := K) rfl (pv 0) rfl)))
        (pss_one (ps_raise rfl tk (pmk_oe R_NotKept TY_NotKept (ini_NotKept R_NotKept) hr'' (by rfl) (pa_cons (pv 1) pa_nil))))
        pss_nil)
      (pss_one (ps_ddel (pe_fldK (K := K) rfl (pv 0) rfl) (pv 1))))))), ?_⟩
  refine with_deed hM hll rfl fun H2 z s d' r ls ex2 hD2 hM2 hd2 hr2 hz => ?_
  have tp2 : Tp K H H2 := hM.tp ex2 (by simp)
  have lg : (log ++ [inD "back"]).length < 5000 := by rw [List.length_append]; simp; omega
  have out : ∀ (o : PyData), log ++ [inD "back"] ++ [o] = log ++ [inD "back", o] := fun o => by rw [List.append_assoc]; rfl
  obtain ⟨kvs, hth, hkf⟩ := hM2.th
  refine ⟨_, rfl, _, rfl, m, c_Maker, dx, _, _, rfl, hM2.ob, T_Maker.c, T_Maker.n _ (by simp [MF]), rfl, ths, valV kvs (.inl n), rfl, .inl ⟨kvs, .inl n, .inl hth, rfl, rfl⟩, _, rfl, ?_⟩
  rcases kf_has hkf n with ⟨hv, hn⟩ | ⟨hv, hn⟩
  · rw [hv]
    refine iteT ⟨_, rfl, mkr_one (C := c_NotKept) (f := "number") (x := .int n) (H := H2) (Q := fun cls d H' => wExit z (spEx c_Deed) (fun cls d x H => E cls d H) cls d (L2.start ["self", "number"] [.ref m, .int n]) H') fun a' H3 r3 => ⟨c_NotKept, rfl, fun e' t he' => deed_out (hM2.same r3.same) (hD2.same r3.same) lg (hd2.keep (Tp.same r3.same)) (hr2.keep (Tp.same r3.same)) (.inr ⟨_, rfl⟩) fun H4 o4 hM4 => ⟨rfl, qe hn a' H4 ?_ (by rw [← out]; exact hM4) ?_⟩⟩⟩
    · exact ((ex2.mono (by simp)).trans (Ex.of_same r3.same)).trans ((exO o4).mono (by simp))
    · rw [o4 a' ((hM2.same r3.same).nt_xd r3.2.1)]
      exact r3.2.1
  · have hv' : (!(valV kvs (.inl n)).isSome) = false := by rw [hv]; rfl
    rw [hv']
    refine iteF ⟨_, rfl, m, c_Maker, dx, _, _, rfl, hM2.ob, T_Maker.c, T_Maker.n _ (by simp [MF]), rfl, _, rfl, ths, kvs, .inl n, rfl, hth, rfl, hv, ?_⟩
    have n2 := hM2.ne
    obtain ⟨ln, hln, hfn⟩ := hM2.lg
    have tpT : Tp K H2 (upd H2 ths (.dK (dropK kvs (.inl n)))) := hM2.tp (ws := [ths]) (Ex.at (by simp)) (by simp)
    have hM3 : Mkr K c_Maker (upd H2 ths (.dK (dropK kvs (.inl n)))) m dx ths nt hd st ms (kept.filter fun o => o.1 ≠ n) on (log ++ [inD "back"]) :=
      ⟨by rw [upd_ne n2.2.2]; exact hM2.ob, ⟨_, upd_same, (kf_drop hkf n).keep tpT⟩, ⟨ln, by rw [upd_ne n2.2.1.symm]; exact hln, Fds.keep hfn tpT⟩, fun d hd => hM2.lt d (List.mem_filter.mp hd).1, ⟨Nat.le_trans (List.length_filter_le _ _) hM2.sm.1, hM2.sm.2⟩, hM2.nn⟩
    have hD3 := hD2.ex (ws := [ths]) (Ex.at (p := ths) (o := .dK (dropK kvs (.inl n))) (by simp)) (by simp [hz.2.1]) (by simp [n2.2.1.symm])
    refine deed_out (Q := fun _ H' => Q .non H') (E := fun _ _ _ => False) hM3 hD3 lg (hd2.keep tpT) (hr2.keep tpT) (.inl rfl) fun H4 o4 hM4 => q hn H4 ?_ (by rw [← out]; exact hM4)
    exact ((ex2.mono (by simp)).trans (Ex.at (by simp))).trans ((exO o4).mono (by simp))
end
end Lm

set_option Elab.async false
set_option linter.all false
set_option maxRecDepth 100000
set_option maxHeartbeats 2000000
set_option pp.maxSteps 20000
set_option pp.deepTerms true
namespace Lm
open PySem PySem.Spec PyProof.Rows L2 LmR RZ
section
variable {P : Program} {w : World} {K : PySem.W.Frag} {mg : Str → Option Value} {base : Heap}
theorem pick3 {j : Int} (h0 : 0 ≤ j) (h3 : j < 3) : ∃ b : Bool, atI [V.str "num", V.str "truth", V.str "num"] j = some (.str (kS b)) := by
  rcases (show j = 0 ∨ j = 1 ∨ j = 2 by omega) with z | z | z
  · subst z; exact ⟨false, rfl⟩
  · subst z; exact ⟨true, rfl⟩
  · subst z; exact ⟨false, rfl⟩
theorem Flow.no {H : Hp} {f a : Addr} (fl : Flow H f) (h : H a = none) : a ≠ f := fun z => by
  obtain ⟨xs, e⟩ := fl.lst
  rw [z, e] at h
  cases h
theorem Flow.nt {H : Hp} {f a : Addr} {xs : List V} (fl : Flow H f) (h : H a = some (.tup xs)) : a ≠ f := fun z => by
  obtain ⟨ys, e⟩ := fl.lst
  rw [z, e] at h
  cases h
abbrev s_l_head : Stmt := topS 63
theorem sc_l_head : FnScope ["_law_flow_here", "_law_kinds", "_law_k"] ["_law_flow_here"] (defScope s_l_head) := ⟨rfl, rfl, rfl, by decide +kernel, rfl, by decide +kernel, by decide +kernel⟩
def spHead (K : PySem.W.Frag) : Sp := fun vs H Q _ => ∃ f : Addr, vs = [.ref f] ∧ Flow H f ∧ ∀ (t ka : Addr) (ks : List Bool) (k : Bool) (H' : Hp), Gr [] f H H' → ks.length ≤ 2 → H' t = some (.tup [.ref ka, .str (kS k)]) → H' ka = some (.tup (kVs ks)) → Q (.ref t) H'
theorem ok_l_head (B : Bt mg) (C_l_draw : Cal P w K mg base 1 "_law_draw" ["_law_flow_here", "_law_many"] (spDraw)) (D : DefAt K mg "_law_head" s_l_head ["_law_flow_here"]) : Cal P w K mg base 2 "_law_head" ["_law_flow_here"] (spHead K) := by
  refine cal_of D sc_l_head (fun vs H Q E h => ?_) (fun f cdv A outer s H vs Q E hr h => ?_)
  · obtain ⟨a, rfl, _⟩ := h
    rfl
  obtain ⟨f, rfl, fl, q⟩ := h
  have hr' : Room 1 _ := hr
  refine ⟨_, (pss_cons (ps_set (i := 1) sc_l_head.nd rfl (.inl rfl) (pe_callTy call_tuple_of (by rfl) B.tuple PyProof.Rows.boot_tuple (pa_cons (pe_lc (own := [("_law_k", 2)]) (g := gName 2) rfl sc_l_head.nd (pi_range1 (by rfl) B.range (pa_cons (pe_cal C_l_draw hr' (by rfl) (pa_cons (pv 0) (pa_cons pe_int pa_nil))) pa_nil)) (blkOk_by (own := [("_law_k", 2)]) (N := ["_law_flow_here", "_law_kinds", "_law_k"]) (sc := defScope s_l_head) (by decide +kernel)) (fun _ _ _ _ _ => (pg_name (i := 2) sc_l_head.nd rfl (.inl rfl))) (fun _ _ _ _ _ => pts_nil) (fun _ _ _ _ _ => (pe_ix (ix_listK (K := K) rfl) (pe_lst (pa_cons pe_str (pa_cons pe_str (pa_cons pe_str pa_nil)))) (pe_cal C_l_draw hr' (by rfl) (pa_cons (pv 0) (pa_cons pe_int pa_nil))) (fun _ _ => rfl)))) pa_nil)))
      (pss_one (ps_ret (pe_tup (pa_cons (pv 1) (pa_cons (pe_ix ix_list (pe_lst (pa_cons pe_str (pa_cons pe_str (pa_cons pe_str pa_nil)))) (pe_cal C_l_draw hr' (by rfl) (pa_cons (pv 0) (pa_cons pe_int pa_nil))) (fun _ _ => rfl)) pa_nil)))))), ?_⟩
  refine ⟨_, rfl, f, 3, rfl, fl, by decide, by decide, fun n H1 n0 n1 dr1 => ⟨n, rfl, by omega, by omega, fun D hD => lc_range (lo := 0) (n := n.toNat) (fun i H' => Gr [] f H H' ∧ ∃ ks : List Bool, ks.length = i ∧ H' D = some (.lst (kVs ks))) ?_ ?_ ?_⟩⟩
  · exact ⟨dr1.gr.trans (Gr.new dr1.fl hD), [], rfl, upd_same⟩
  · rintro i H' hi ⟨g, ks, hl, hA⟩
    refine ⟨rfl, (by show 3 ≤ sizeLine; decide), fun p hp => ?_⟩
    have gp : Gr [] f H (upd H' p (.lst [.str "num", .str "truth", .str "num"])) := g.trans (Gr.new g.fl hp)
    have nDf : D ≠ f := dr1.fl.no hD
    have npf : p ≠ f := g.fl.no hp
    have npD : p ≠ D := fun z => by
      rw [z, hA] at hp
      cases hp
    have D0 : H D = none := dr1.ex.free hD (by simp [nDf])
    refine ⟨_, rfl, f, 3, rfl, gp.fl, by decide, by decide, fun j H2 j0 j1 dr2 => ?_⟩
    have hp2 : H2 p = some (.lst [.str "num", .str "truth", .str "num"]) := by rw [dr2.off p npf]; exact upd_same
    have hA2 : H2 D = some (.lst (kVs ks)) := by rw [dr2.off D nDf, upd_ne npD.symm]; exact hA
    have g2 := gp.trans dr2.gr
    have kl : (kVs ks).length = ks.length := List.length_map _
    obtain ⟨b, hb⟩ := pick3 j0 j1
    exact ⟨p, _, j, .str (kS b), rfl, rfl, SqL.of hp2, hb, _, hA2, by rw [kl]; exact smallL (by omega), g2.put D0 nDf, ks ++ [b], by rw [List.length_append, hl]; rfl, by rw [upd_same]; unfold kVs; rw [List.map_append]; rfl⟩
  · rintro H' ⟨g, ks, hl, hA⟩
    refine ⟨D, _, rfl, .inl ⟨SqL.of hA, fun ka hka => ?_⟩⟩
    have g3 := g.trans (Gr.new (o := .tup (kVs ks)) g.fl hka)
    refine ⟨_, rfl, (by show 3 ≤ sizeLine; decide), fun p hp => ?_⟩
    have e1 : upd H' ka (.tup (kVs ks)) ka = some (.tup (kVs ks)) := upd_same
    generalize upd H' ka (.tup (kVs ks)) = H3 at g3 e1 hp
    have g4 := g3.trans (Gr.new (o := .lst [.str "num", .str "truth", .str "num"]) g3.fl hp)
    have npf : p ≠ f := g3.fl.no hp
    have e2 : upd H3 p (.lst [.str "num", .str "truth", .str "num"]) ka = some (.tup (kVs ks)) := by rw [upd_ne (ne_of_none e1 hp)]; exact e1
    refine ⟨_, rfl, f, 3, rfl, g4.fl, by decide, by decide, fun j H5 j0 j1 dr => ?_⟩
    have e5 : H5 ka = some (.tup (kVs ks)) := by rw [dr.off ka (g3.fl.nt e1)]; exact e2
    have hp5 : H5 p = some (.lst [.str "num", .str "truth", .str "num"]) := by rw [dr.off p npf]; exact upd_same
    obtain ⟨b, hb⟩ := pick3 j0 j1
    refine ⟨p, _, j, .str (kS b), rfl, rfl, SqL.of hp5, hb, (by show 2 ≤ sizeLine; decide), fun t ht => q t ka ks b _ ((g4.trans dr.gr).trans (Gr.new dr.fl ht)) (by omega) upd_same (by rw [upd_ne (ne_of_none e5 ht)]; exact e5)⟩
theorem cat_kinds {H : Hp} {ka t : Addr} {ks : List Bool} {k : Bool} {Q : VK} (h : SqT K H ka (kVs ks)) (ht : SqT K H t [.str (kS k)]) (hl : ks.length ≤ 100) (q : ∀ t2 H', Same H H' → SqT K H' t2 (kVs (ks ++ [k])) → Q (.ref t2) H') : rCatA K (.ref ka) (.ref t) H Q := by
  have e : kVs ks ++ [V.str (kS k)] = kVs (ks ++ [k]) := by unfold kVs; rw [List.map_append]; rfl
  refine ⟨ka, t, _, _, rfl, rfl, h, ht, by unfold kVs; rw [List.length_map]; exact Nat.le_of_lt (smallL (by simp; omega)), fun z => q t H (Same.refl _) ?_, (fun _ z => nomatch z), fun _ _ p hp => ?_⟩
  · rw [← e, z]
    exact ht
  · rw [e]
    exact q p _ (same_new hp) (.inl (.inl upd_same))
abbrev s_l_small_wish : Stmt := topS 62
theorem sc_l_small_wish : FnScope ["_law_flow_here", "_law_kinds", "_law_kind", "_law_world"] ["_law_flow_here", "_law_kinds", "_law_kind"] (defScope s_l_small_wish) := ⟨rfl, rfl, rfl, by decide +kernel, rfl, by decide +kernel, by decide +kernel⟩
def spSmW (K : PySem.W.Frag) : Sp := fun vs H Q _ => ∃ (f ka : Addr) (ks : List Bool) (k : Bool), vs = [.ref f, .ref ka, .str (kS k)] ∧ Flow H f ∧ SqT K H ka (kVs ks) ∧ ks.length ≤ 2 ∧
  ∀ (v : V) (p : Pg) (H' : Hp), Gr [] f H H' → At K H' v p → Wn (ks ++ [k]) p → own (ks ++ [k]) p = true → psz p ≤ 10 → Q v H'
theorem ok_l_small_wish (B : Bt mg) (C_l_draw : Cal P w K mg base 9 "_law_draw" ["_law_flow_here", "_law_many"] (spDraw)) (C_l_made : Cal P w K mg base 9 "_law_made" ["_law_flow_here", "_law_world", "_law_kind", "_law_room", "_law_down"] (spMade K 6)) (D : DefAt K mg "_law_small_wish" s_l_small_wish ["_law_flow_here", "_law_kinds", "_law_kind"]) : Cal P w K mg base 10 "_law_small_wish" ["_law_flow_here", "_law_kinds", "_law_kind"] (spSmW K) := by
  refine cal_of D sc_l_small_wish (fun vs H Q E h => ?_) (fun f cdv A outer s H vs Q E hr h => ?_)
  · obtain ⟨a, _, _, _, rfl, _⟩ := h
    rfl
  obtain ⟨f, ka, ks, k, rfl, fl, hk, hk2, q⟩ := h
  have hr' : Room 9 _ := hr
  refine ⟨_, (pss_cons (ps_set (i := 3) sc_l_small_wish.nd rfl (.inl rfl) (pe_disp (pps_cons pe_str (pe_op op_catA (pv 1) (pe_tup (pa_cons (pv 2) pa_nil))) (pps_cons pe_str pe_int (pps_cons pe_str pe_int (pps_cons pe_str pe_int pps_nil)))) (by rfl) (by rfl) (fun z => by cases z) (by decide)))
      (pss_one (ps_ret (pe_cal C_l_made hr' (by rfl) (pa_cons (pv 0) (pa_cons (pv 3) (pa_cons pe_str (pa_cons (pe_op op_add pe_int (pe_cal C_l_draw hr' (by rfl) (pa_cons (pv 0) (pa_cons pe_int pa_nil)))) (pa_cons pe_int pa_nil))))))))), ?_⟩
  refine fun wd hwd => ⟨_, rfl, _, rfl, (by show 1 ≤ sizeLine; decide), fun t ht => ?_⟩
  have s1 : Same H (upd H wd (.dK [])) := same_new hwd
  have ew : upd H wd (.dK []) wd = some (.dK []) := upd_same
  generalize upd H wd (.dK []) = H1 at s1 ew ht
  have s2 := same_new (o := .tup [.str (kS k)]) ht
  have et : upd H1 t (.tup [.str (kS k)]) t = some (.tup [.str (kS k)]) := upd_same
  generalize upd H1 t (.tup [.str (kS k)]) = H2 at s2 et
  refine cat_kinds (Tp.same (s1.trans s2) _ _ hk) (.inl (.inl et)) (by omega) fun ka2 H3 s3 hk3 => ?_
  have sA := (s1.trans s2).trans s3
  refine ⟨s3 _ _ (s2 _ _ ew), [(Sum.inr "kinds", .ref ka2), (Sum.inr "cmp", .int 3), (Sum.inr "if", .int 2), (Sum.inr "any", .int 99)], rfl, (by show 4 ≤ 15; decide), ?_⟩
  have nwf : wd ≠ f := fl.no hwd
  have e1 : (upd H3 wd (.dK (mergeK [] [(Sum.inr "kinds", .ref ka2), (Sum.inr "cmp", .int 3), (Sum.inr "if", .int 2), (Sum.inr "any", .int 99)]))) wd = some (.dK (wKV ka2 3 2 99)) := upd_same
  have sB : Same H (upd H3 wd (.dK (mergeK [] [(Sum.inr "kinds", .ref ka2), (Sum.inr "cmp", .int 3), (Sum.inr "if", .int 2), (Sum.inr "any", .int 99)]))) := fun b o z => by
    rw [upd_ne (ne_of_none z hwd)]
    exact sA _ _ z
  have tpB : Tp K H3 (upd H3 wd (.dK (mergeK [] [(Sum.inr "kinds", .ref ka2), (Sum.inr "cmp", .int 3), (Sum.inr "if", .int 2), (Sum.inr "any", .int 99)]))) := Ex.tp (ws := [wd]) (Ex.at (by simp)) fun b hb xs q' => by
    have ew3 := s3 _ _ (s2 _ _ ew)
    rw [List.mem_singleton.mp hb] at q'
    rcases q' with q' | ⟨o, q'⟩ <;> rw [ew3] at q' <;> cases q'
  have hk4 := tpB _ _ hk3
  generalize upd H3 wd (.dK (mergeK [] [(Sum.inr "kinds", .ref ka2), (Sum.inr "cmp", .int 3), (Sum.inr "if", .int 2), (Sum.inr "any", .int 99)])) = H4 at e1 sB hk4
  have fl4 : Flow H4 f := by
    obtain ⟨x, y, z, e, r⟩ := fl
    exact ⟨x, y, z, sB _ _ e, r⟩
  refine ⟨_, rfl, _, rfl, _, rfl, f, 9, rfl, fl4, by decide, by decide, fun n H5 n0 n1 dr => ⟨2, n, rfl, rfl, f, wd, ka2, ks ++ [k], true, 2 + n, 5, rfl, dr.fl, ⟨3, 2, 99, by rw [dr.off wd nwf]; exact e1⟩, dr.tp fl4 _ _ hk4, by rw [List.length_append]; simp; omega, by omega, by omega, by decide, by decide, fun v p H' g wl a wk ow sz => q v p H' ⟨fun b o z nb => ?_, g.fl⟩ a wk ow (by omega)⟩⟩
  have nb' : b ≠ f := by simpa using nb
  have nbw : b ≠ wd := ne_of_none z hwd
  exact g.ex b o (by rw [dr.off b nb']; exact sB _ _ z) (by simp [nb', nbw])
theorem pairApp {α β : Type} {F : α → β → Prop} : ∀ {a a2 : List α} {b b2 : List β}, Paired F a b → Paired F a2 b2 → Paired F (a ++ a2) (b ++ b2)
  | _, _, _, _, .nil, h => h
  | _, _, _, _, .cons x y, h => .cons x (pairApp y h)
abbrev s_l_near_inputs : Stmt := topS 64
theorem sc_l_near_inputs : FnScope ["_law_flow_here", "_law_kinds", "_law_found", "_law_kind", "_law_number"] ["_law_flow_here", "_law_kinds"] (defScope s_l_near_inputs) := ⟨rfl, rfl, rfl, by decide +kernel, rfl, by decide +kernel, by decide +kernel⟩
/-- a little input -/
def Lit : Bool → PyData → Prop
  | true, d => ∃ b, d = .bool b
  | false, d => ∃ n, d = .int n
theorem Lit.fd {H : Hp} {k : Bool} {d : PyData} (h : Lit k d) : hasKd k d = true ∧ flat d = true ∧ dsz d = 1 ∧ d.depth ≤ 1 ∧ ∃ v, Fd K H v d := by
  cases k with
  | true => obtain ⟨b, rfl⟩ := h; exact ⟨rfl, rfl, rfl, Nat.zero_le _, .bl b, rfl, .bl b⟩
  | false => obtain ⟨n, rfl⟩ := h; exact ⟨rfl, rfl, rfl, Nat.zero_le _, .int n, rfl, .int n⟩
def spNear (K : PySem.W.Frag) : Sp := fun vs H Q _ => ∃ (f ka : Addr) (ks : List Bool), vs = [.ref f, .ref ka] ∧ Flow H f ∧ SqT K H ka (kVs ks) ∧ ks.length ≤ 3 ∧
  ∀ (t : Addr) (us : List V) (ds : List PyData) (H' : Hp), Gr [] f H H' → H' t = some (.tup us) → Fds K H' us ds → Paired Lit ks ds → Q (.ref t) H'
theorem ok_l_near (B : Bt mg) (C_l_draw : Cal P w K mg base 1 "_law_draw" ["_law_flow_here", "_law_many"] (spDraw)) (D : DefAt K mg "_law_near_inputs" s_l_near_inputs ["_law_flow_here", "_law_kinds"]) : Cal P w K mg base 2 "_law_near_inputs" ["_law_flow_here", "_law_kinds"] (spNear K) := by
  refine cal_of D sc_l_near_inputs (fun vs H Q E h => ?_) (fun f cdv A outer s H vs Q E hr h => ?_)
  · obtain ⟨a, _, _, rfl, _⟩ := h
    rfl
  obtain ⟨f, ka, ks, rfl, fl, hk, hk3, q⟩ := h
  have hr' : Room 1 _ := hr
  refine ⟨_, (pss_cons (ps_set (i := 2) sc_l_near_inputs.nd rfl (.inl rfl) (pe_lst pa_nil))
      (pss_cons (ps_for PassesOwn.never rfl (pi_tup (pv 1)) (pg_name (i := 3) sc_l_near_inputs.nd rfl (.inl rfl))
        (pss_cons (ps_set (i := 4) sc_l_near_inputs.nd rfl (.inl rfl) (pe_op op_sub (pe_cal C_l_draw hr' (by rfl) (pa_cons (pv 0) (pa_cons pe_int pa_nil))) pe_int))
      (pss_one (ps_expr (pe_bm PySem.F.plainAttrs_list PySem.F.slot_list_append PySem.F.type_list_append mt_append (pv 2) (pa_cons (pe_ix ix_list (pe_lst (pa_cons (pv 4) (pa_cons (pe_cmpR op_eq (pe_cal C_l_draw hr' (by rfl) (pa_cons (pv 0) (pa_cons pe_int pa_nil))) pe_int (nomark _)) pa_nil))) (pe_callTy call_int1 (by rfl) B.int PyProof.Rows.boot_int (pa_cons (pe_cmpR op_eq (pv 3) pe_str (nomark _)) pa_nil)) (fun _ _ => rfl)) pa_nil))))))
      (pss_one (ps_ret (pe_callTy call_tuple_of (by rfl) B.tuple PyProof.Rows.boot_tuple (pa_cons (pv 2) pa_nil)))))), ?_⟩
  refine ⟨(by show 0 ≤ sizeLine; decide), fun D hD => ?_⟩
  have nDf : D ≠ f := fl.no hD
  have g0 : Gr [] f H (upd H D (.lst [])) := Gr.new fl hD
  have e0 : upd H D (.lst []) D = some (.lst []) := upd_same
  have kl : (kVs ks).length = ks.length := List.length_map _
  have keep : ∀ {H' : Hp}, Gr [] f H H' → Tp K H H' := fun {H'} g => g.tp fl
  generalize upd H D (.lst []) = H1 at g0 e0
  refine ⟨_, rfl, ka, rfl, ⟨_, keep g0 _ _ hk⟩, for_tup (K := K) (xs := kVs ks) (fun i σ H' => (∃ y3 y4 : Option V, σ = [some (V.ref f), some (V.ref ka), some (V.ref D), y3, y4]) ∧ Gr [] f H H' ∧ ∃ us ds, H' D = some (.lst us) ∧ us.length = i ∧ Fds K H' us ds ∧ Paired Lit (ks.take i) ds) ?_ ?_ ?_ ?_⟩
  · exact ⟨⟨_, _, rfl⟩, g0, [], [], e0, rfl, Fds.nil, by rw [List.take_zero]; exact .nil⟩
  · rintro i σ H' _ ⟨_, g, _⟩
    exact keep g _ _ hk
  · rintro i x _ H' hx ⟨⟨y3, y4, rfl⟩, g, us, ds, hA, ul, hU, hP⟩
    have hi := (List.getElem?_eq_some_iff.mp hx).1
    unfold kVs at hx
    rw [List.getElem?_map] at hx
    obtain ⟨b, hb, rfl⟩ := Option.map_eq_some_iff.mp hx
    refine ⟨_, rfl, f, 5, rfl, g.fl, by decide, by decide, fun n H2 n0 n1 dr1 => ⟨n, 2, rfl, rfl, ?_⟩⟩
    have hA2 : H2 D = some (.lst us) := by rw [dr1.off D nDf]; exact hA
    refine ⟨_, rfl, .inl ⟨rfl, us, SqL.of hA2⟩, _, rfl, _, rfl, f, 2, rfl, dr1.fl, by decide, by decide, fun m H3 m0 m1 dr2 => ⟨rfl, (by show 2 ≤ sizeLine; decide), fun p hp => ?_⟩⟩
    have hA3 : H3 D = some (.lst us) := by rw [dr2.off D nDf]; exact hA2
    have npD : p ≠ D := fun z => by rw [z, hA3] at hp; cases hp
    have g3 := (g.trans dr1.gr).trans (dr2.gr (ws := []))
    have g4 := g3.trans (Gr.new (o := .lst [.int (n - 2), .bl (decide (V.int m = V.int 0))]) g3.fl hp)
    have hA4 : upd H3 p (.lst [.int (n - 2), .bl (decide (V.int m = V.int 0))]) D = some (.lst us) := by rw [upd_ne npD.symm]; exact hA3
    have e4 : upd H3 p (.lst [.int (n - 2), .bl (decide (V.int m = V.int 0))]) p = some (.lst [.int (n - 2), .bl (decide (V.int m = V.int 0))]) := upd_same
    have tp4 : Tp K H' (upd H3 p (.lst [.int (n - 2), .bl (decide (V.int m = V.int 0))])) := ((dr1.tp g.fl).trans (dr2.tp dr1.fl)).trans (Tp.new hp)
    generalize upd H3 p (.lst [.int (n - 2), .bl (decide (V.int m = V.int 0))]) = H4 at g4 hA4 e4 tp4
    have fin : ∀ (v : V) (d : PyData), Fd K H4 v d → Lit b d → (us.length < sizeLine ∧ (∃ y3 y4 : Option V, [some (V.ref f), some (V.ref ka), some (V.ref D), some (V.str (kS b)), some (V.int (n - 2))] = [some (V.ref f), some (V.ref ka), some (V.ref D), y3, y4]) ∧ Gr [] f H (upd H4 D (.lst (us ++ [v]))) ∧ ∃ us' ds, (upd H4 D (.lst (us ++ [v]))) D = some (.lst us') ∧ us'.length = i + 1 ∧ Fds K (upd H4 D (.lst (us ++ [v]))) us' ds ∧ Paired Lit (ks.take (i + 1)) ds) := fun v d hv hl => by
      have tpD : Tp K H4 (upd H4 D (.lst (us ++ [v]))) := Tp.lst hA4
      refine ⟨smallL (by omega), ⟨_, _, rfl⟩, g4.put hD nDf, us ++ [v], ds ++ [d], upd_same, by rw [List.length_append, ul]; rfl, (Fds.keep hU (tp4.trans tpD)).app (Fds.cons (hv.keep tpD) Fds.nil), ?_⟩
      rw [List.take_add_one, hb]
      exact pairApp hP (.cons hl .nil)
    refine ⟨_, rfl, rfl, ?_⟩
    cases b with
    | true => exact .inr ⟨true, rfl, p, _, 1, .bl (decide (V.int m = V.int 0)), rfl, rfl, SqL.of e4, rfl, D, us, _, rfl, rfl, hA4, fin _ _ ⟨rfl, .bl _⟩ ⟨_, rfl⟩⟩
    | false => exact .inr ⟨false, rfl, p, _, 0, .int (n - 2), rfl, rfl, SqL.of e4, rfl, D, us, _, rfl, rfl, hA4, fin _ _ ⟨rfl, .int _⟩ ⟨_, rfl⟩⟩
  · rintro σ H' ⟨⟨y3, y4, rfl⟩, g, us, ds, hA, ul, hU, hP⟩
    rw [kl, List.take_length] at hP
    exact ⟨_, rfl, D, us, rfl, .inl ⟨SqL.of hA, fun t ht => q t us ds _ (g.trans (Gr.new g.fl ht)) upd_same (Fds.keep hU (Tp.new ht)) hP⟩⟩
abbrev s_l_example : Stmt := topS 65
theorem sc_l_example : FnScope ["_law_flow_here", "_law_head_here"] ["_law_flow_here", "_law_head_here"] (defScope s_l_example) := ⟨rfl, rfl, rfl, by decide +kernel, rfl, by decide +kernel, by decide +kernel⟩
def spExa (K : PySem.W.Frag) : Sp := fun vs H Q _ => ∃ (f h : Addr) (ks : List Bool) (k : Bool), vs = [.ref f, .ref h] ∧ Flow H f ∧ HdAt K H h ks k ∧ ks.length ≤ 2 ∧
  ∀ (e t : Addr) (us : List V) (v : V) (ds : List PyData) (d : PyData) (H' : Hp), Gr [] f H H' → H' e = some (.tup [.ref t, v]) → H' t = some (.tup us) → Fds K H' us ds → Fd K H' v d → Paired Lit ks ds → Lit k d → Q (.ref e) H'
theorem ok_l_example (B : Bt mg) (C_l_near_inputs : Cal P w K mg base 2 "_law_near_inputs" ["_law_flow_here", "_law_kinds"] (spNear K)) (D : DefAt K mg "_law_example" s_l_example ["_law_flow_here", "_law_head_here"]) : Cal P w K mg base 3 "_law_example" ["_law_flow_here", "_law_head_here"] (spExa K) := by
  refine cal_of D sc_l_example (fun vs H Q E h => ?_) (fun f cdv A outer s H vs Q E hr h => ?_)
  · obtain ⟨a, _, _, _, rfl, _⟩ := h
    rfl
  obtain ⟨f, h, ks, k, rfl, fl, hh, hk2, q⟩ := h
  have hr' : Room 2 _ := hr
  refine ⟨_, (pss_one (ps_ret (pe_tup (pa_cons (pe_cal C_l_near_inputs hr' (by rfl) (pa_cons (pv 0) (pa_cons (pe_ix ix_tup (pv 1) pe_int (fun _ _ => rfl)) pa_nil))) (pa_cons (pe_ix ix_tup (pe_cal C_l_near_inputs hr' (by rfl) (pa_cons (pv 0) (pa_cons (pe_tup (pa_cons (pe_ix ix_tup (pv 1) pe_int (fun _ _ => rfl)) pa_nil)) pa_nil))) pe_int (fun _ _ => rfl)) pa_nil))))), ?_⟩
  obtain ⟨ka, hh1, hh2⟩ := hh
  refine ⟨_, rfl, _, rfl, h, _, 0, .ref ka, rfl, rfl, hh1, rfl, f, ka, ks, rfl, fl, hh2, by omega, fun t us ds H1 g1 et hU hP => ?_⟩
  have tp1 := g1.tp fl (K := K)
  refine ⟨_, rfl, _, rfl, h, _, 1, .str (kS k), rfl, rfl, tp1 _ _ hh1, rfl, (by show 1 ≤ sizeLine; decide), fun t1 ht1 => ?_⟩
  have g2 := g1.trans (Gr.new (o := .tup [.str (kS k)]) g1.fl ht1)
  have e1 : upd H1 t1 (.tup [.str (kS k)]) t1 = some (.tup [.str (kS k)]) := upd_same
  have tp2 : Tp K H1 (upd H1 t1 (.tup [.str (kS k)])) := Tp.new ht1
  have et2 : upd H1 t1 (.tup [.str (kS k)]) t = some (.tup us) := by rw [upd_ne (ne_of_none et ht1)]; exact et
  generalize upd H1 t1 (.tup [.str (kS k)]) = H2 at g2 e1 tp2 et2
  refine ⟨f, t1, [k], rfl, g2.fl, .inl (.inl e1), (by show 1 ≤ 3; decide), fun t3 us3 ds3 H3 g3 e3 hU3 hP3 => ?_⟩
  have tp3 := g3.tp g2.fl (K := K)
  cases hP3 with
  | @cons _ d _ r hl hr =>
  cases hr
  obtain ⟨v, rfl, hv⟩ : ∃ v, us3 = [v] ∧ Fd K H3 v d := by
    have ln := hU3.len
    match us3, ln, hU3 with
    | [v], _, hU3 => exact ⟨v, rfl, by have := hU3.nth (i := 0) rfl; obtain ⟨d', e, f'⟩ := this; cases e; exact f'⟩
  have et3 : H3 t = some (.tup us) := g3.ex _ _ et2 (by simp [g2.fl.nt et2])
  refine ⟨t3, _, 0, v, rfl, rfl, .inl (.inl e3), rfl, (by show 2 ≤ sizeLine; decide), fun e he => ?_⟩
  exact q e t us v ds d _ ((g2.trans g3).trans (Gr.new g3.fl he)) upd_same (by rw [upd_ne (ne_of_none et3 he)]; exact et3) (Fds.keep hU ((tp2.trans tp3).trans (Tp.new he))) (hv.keep (Tp.new he)) hP hl
abbrev s_l_is_of : Stmt := topS 66
theorem sc_l_is_of : FnScope ["_law_kind", "_law_thing"] ["_law_kind", "_law_thing"] (defScope s_l_is_of) := ⟨rfl, rfl, rfl, by decide +kernel, rfl, by decide +kernel, by decide +kernel⟩
def spIsOf (K : PySem.W.Frag) : Sp := fun vs H Q _ => ∃ (k : Bool) (v : V) (d : PyData), vs = [.str (kS k), v] ∧ Fd K H v d ∧ Q (.bl (hasKd k d)) H
theorem ok_l_is_of (B : Bt mg) (D : DefAt K mg "_law_is_of" s_l_is_of ["_law_kind", "_law_thing"]) : Cal P w K mg base 1 "_law_is_of" ["_law_kind", "_law_thing"] (spIsOf K) := by
  refine cal_of D sc_l_is_of (fun vs H Q E h => ?_) (fun f cdv A outer s H vs Q E hr h => ?_)
  · obtain ⟨k, v, d, rfl, _⟩ := h
    rfl
  obtain ⟨k, v, d, rfl, hv, q⟩ := h
  refine ⟨_, (pss_cons (ps_if (pt_cmpR op_eq (pv 0) pe_str (nomark _))
        (pss_one (ps_ret (pe_callB call_isi (by rfl) B.isinstance (by decide +kernel) (pa_cons (pv 1) (pa_cons (pe_bltn (v := .ty "bool") (by rfl) B.bool PyProof.Rows.boot_bool rfl) pa_nil)))))
        pss_nil)
      (pss_one (ps_ret (pe_and (pe_callB call_isi (by rfl) B.isinstance (by decide +kernel) (pa_cons (pv 1) (pa_cons (pe_bltn (v := .ty "int") (by rfl) B.int PyProof.Rows.boot_int rfl) pa_nil))) (pe_one (pe_not (pe_callB call_isi (by rfl) B.isinstance (by decide +kernel) (pa_cons (pv 1) (pa_cons (pe_bltn (v := .ty "bool") (by rfl) B.bool PyProof.Rows.boot_bool rfl) pa_nil))))))))), ?_⟩
  cases k with
  | true => exact ⟨_, rfl, rfl, _, rfl, iteT ⟨_, rfl, v, _, _, _, _, rfl, .ty _, hv.ty, kit_bl d hv.1, q⟩⟩
  | false =>
    refine ⟨_, rfl, rfl, _, rfl, iteF ⟨_, rfl, v, _, _, _, _, rfl, .ty _, hv.ty, kit_int d hv.1, _, rfl, ite2 (fun c => ?_) (fun c => ?_)⟩⟩
    · have q' : Q (.bl (isInt d && !isBl d)) H := q
      rw [c] at q'
      exact ⟨_, rfl, v, _, _, _, _, rfl, .ty _, hv.ty, kit_bl d hv.1, _, rfl, q'⟩
    · have q' : Q (.bl (isInt d && !isBl d)) H := q
      rw [Bool.eq_false_iff.mpr c] at q'
      exact q'
end
end Lm

set_option Elab.async false
set_option linter.all false
set_option maxRecDepth 100000
set_option maxHeartbeats 2000000
set_option pp.maxSteps 20000
set_option pp.deepTerms true
namespace Lm
open PySem PySem.Spec PyProof.Rows L2 LmR RZ
section
variable {P : Program} {w : World} {K : PySem.W.Frag} {mg : Str → Option Value} {base : Heap}
theorem walk_items {d : Addr} {o : Obj} {kvs : List (Key × V)} : Walk (Iti d o kvs) kvs.length (fun H => H d = some (.frz o (.dK kvs))) (fun i H x H' => ∃ T k v, kvs[i]? = some (k, v) ∧ x = .ref T ∧ H T = none ∧ H' = upd H T (.tup [kV k, v])) :=
  ⟨fun _ _ h g => ⟨g, h⟩, fun _ g => ⟨g, Nat.le_refl _⟩, fun _ _ _ _ _ _ y => y⟩
/-- number, inputs, answer -/
def triD (o : Int × PyData) : PyData := .tuple [.int o.1, exI o.2, exA o.2]
theorem tri_read {H : Hp} {v : V} {o : Int × PyData} (h : Fd K H v (triD o)) : ∃ t x y, v = .ref t ∧ SqT K H t [.int o.1, x, y] ∧ Fd K H x (exI o.2) ∧ Fd K H y (exA o.2) := by
  obtain ⟨f, h⟩ := h
  have f2 : flat (exI o.2) = true ∧ flat (exA o.2) = true := by simpa [triD, flat, flat.flats] using f
  cases h with
  | tup q r =>
    cases r with
    | cons a r => cases r with
      | cons b r => cases r with
        | cons c r =>
          cases r
          cases a
          exact ⟨_, _, _, rfl, q, ⟨f2.1, b⟩, ⟨f2.2, c⟩⟩
theorem tri_put {H : Hp} {t : Addr} {x y : V} {o : Int × PyData} (h : H t = some (.tup [.int o.1, x, y])) (f : Fd K H x (exI o.2)) (g : Fd K H y (exA o.2)) : Fd K H (.ref t) (triD o) :=
  ⟨by simp [triD, flat, flat.flats, f.1, g.1], .tup (.inl (.inl h)) (.cons (.int _) (.cons f.2 (.cons g.2 .nil)))⟩
theorem cat_any {H : Hp} {a b : Addr} {xs : List V} {y : V} {Q : VK} (h : SqT K H a xs) (ht : SqT K H b [y]) (hl : xs.length + 1 ≤ sizeLine) (q : ∀ t2 H', Same H H' → SqT K H' t2 (xs ++ [y]) → Q (.ref t2) H') : rCatA K (.ref a) (.ref b) H Q := by
  refine ⟨a, b, _, _, rfl, rfl, h, ht, hl, fun z => q b H (Same.refl _) (by rw [z]; exact ht), (fun _ z => nomatch z), fun _ _ p hp => q p _ (same_new hp) (.inl (.inl upd_same))⟩
theorem all2_snoc : ∀ (ks : List Bool) (ds : List PyData) (k : Bool) (d : PyData), ds.length = ks.length → all2 (ks ++ [k]) (ds ++ [d]) = (all2 ks ds && hasKd k d)
  | [], [], k, d, _ => by simp [all2]
  | k :: ks, d :: ds, k2, d2, h => by
    show (hasKd k d && all2 (ks ++ [k2]) (ds ++ [d2])) = ((hasKd k d && all2 ks ds) && hasKd k2 d2)
    rw [all2_snoc ks ds k2 d2 (by simpa using h), Bool.and_assoc]
  | [], _ :: _, _, _, h => by simp at h
  | _ :: _, [], _, _, h => by simp at h
theorem kf_nth {H : Hp} : ∀ {kvs : List (Key × V)} {ds : List (Int × PyData)} {i : Nat} {c : Key} {v : V}, KF K H kvs ds → kvs[i]? = some (c, v) → ∃ o, ds[i]? = some o ∧ c = .inl o.1 ∧ Fd K H v o.2
  | _, _, _, _, _, .nil, h => by simp at h
  | _, _, 0, _, _, .cons ⟨e, f⟩ _, h => by
    have h' := Option.some.inj h
    rw [h'] at e f
    exact ⟨_, rfl, e, f⟩
  | _, _, i + 1, _, _, .cons _ t, h => kf_nth (i := i) t h
theorem numD_mem : ∀ (n : Int) (es : List PyData), ∀ o ∈ numD n es, o.2 ∈ es
  | _, [], o, h => by cases h
  | n, e :: es, o, h => by
    rcases List.mem_cons.mp h with z | z
    · rw [z]; exact List.mem_cons_self
    · exact List.mem_cons_of_mem _ (numD_mem (n + 1) es o z)
abbrev s_l_examples_due : Stmt := topS 67
theorem sc_l_examples_due : FnScope ["_law_head_here", "_law_kept", "_law_came", "_law_some", "_law_at", "_law_inputs", "_law_answer", "_law_ahead", "_law_some_kinds", "_law_number", "_law_other", "_law_due", "_law_thing", "_law_k", "_law_kind"] ["_law_head_here", "_law_kept", "_law_came", "_law_some"] (defScope s_l_examples_due) := ⟨rfl, rfl, rfl, by decide +kernel, rfl, by decide +kernel, by decide +kernel⟩
def spED (K : PySem.W.Frag) : Sp := fun vs H Q _ => ∃ (h kd sm : Addr) (ks : List Bool) (k : Bool) (kvs : List (Key × V)) (kept : List (Int × PyData)) (on : Int) (us : List V) (ds : List PyData), vs = [.ref h, .ref kd, .int on, .ref sm] ∧ HdAt K H h ks k ∧ ks.length ≤ 100 ∧ H kd = some (.dK kvs) ∧ KF K H kvs kept ∧ (SqL K H sm us ∨ SqT K H sm us) ∧ Fds K H us (ds.map inEx) ∧ (∀ d ∈ ds, isExD d) ∧
  (∀ o ∈ kept, isExB o.2 = true → isExD o.2) ∧ (∀ o ∈ kept, ∃ x r, o.2 = .tuple (.str x :: r)) ∧ kept.length ≤ 5000 ∧ ds.length ≤ 5000 ∧ (∀ o ∈ kept, o.2.depth ≤ 60) ∧ (∀ d ∈ ds, d.depth ≤ 60) ∧
  (firstBad (exOk ks k) ds 0 = none → firstClash kept on ds = none → ∀ H', Same H H' → Q .non H') ∧ (∀ n, firstBad (exOk ks k) ds 0 = some n → ∀ u H', Same H H' → Fd K H' u (.tuple [.str "no inputs", .int (n : Nat)]) → Q u H') ∧
  ∀ n i, firstBad (exOk ks k) ds 0 = none → firstClash kept on ds = some (n, i) → ∀ u H', Same H H' → Fd K H' u (.tuple [.str "clash", .int (n : Nat), .int i]) → Q u H'
theorem ok_l_examples_due (B : Bt mg) (C_l_is_of : Cal P w K mg base 1 "_law_is_of" ["_law_kind", "_law_thing"] (spIsOf K)) (D : DefAt K mg "_law_examples_due" s_l_examples_due ["_law_head_here", "_law_kept", "_law_came", "_law_some"]) : Cal P w K mg base 2 "_law_examples_due" ["_law_head_here", "_law_kept", "_law_came", "_law_some"] (spED K) := by
  refine cal_of D sc_l_examples_due (fun vs H Q E h => ?_) (fun f cdv A outer s H vs Q E hr h => ?_)
  · obtain ⟨h, kd, sm, ks, k, kvs, kept, on, us, ds, rfl, _⟩ := h
    rfl
  obtain ⟨h, kd, sm, ks, k, kvs, kept, on, us, ds, rfl, ⟨ka, hh, hk⟩, hkl, hkd, hkf, hsm, hus, hex, hke, hkt, hkl5, hdl, hkdp, hdd, q, qi, qc⟩ := h
  have hr' : Room 1 _ := hr
  rcases hsm with hsm | hsm
  · refine ⟨_, (pss_cons (ps_for PassesOwn.never rfl (pi_enum (by rfl) B.enumerate (pa_cons (pv 3) pa_nil)) (pg_tup rfl (pgs_cons (pg_name (i := 4) sc_l_examples_due.nd rfl (.inl rfl)) (pgs_cons (pg_tup rfl (pgs_cons (pg_name (i := 5) sc_l_examples_due.nd rfl (.inl rfl)) (pgs_cons (pg_name (i := 6) sc_l_examples_due.nd rfl (.inl rfl)) pgs_nil))) pgs_nil)))
        (pss_cons (ps_if (PW.pt (pw_or (pt_not (pt_val (pe_callB call_isi (by rfl) B.isinstance (by decide +kernel) (pa_cons (pv 5) (pa_cons (pe_bltn (v := .ty "tuple") (by rfl) B.tuple PyProof.Rows.boot_tuple rfl) pa_nil))))) (pw_or1 (pt_cmpR op_ne (pe_callB call_len_seq (by rfl) B.len PySem.boot_len (pa_cons (pv 5) pa_nil)) (pe_callB call_len_seq (by rfl) B.len PySem.boot_len (pa_cons (pe_ix ix_tup (pv 0) pe_int (fun _ _ => rfl)) pa_nil)) (nomark _)))))
        (pss_one (ps_ret (pe_tup (pa_cons pe_str (pa_cons (pv 4) pa_nil)))))
        pss_nil)
      (pss_cons (ps_set (i := 8) sc_l_examples_due.nd rfl (.inl rfl) (pe_op op_catA (pe_ix ix_tup (pv 0) pe_int (fun _ _ => rfl)) (pe_tup (pa_cons (pe_ix ix_tup (pv 0) pe_int (fun _ _ => rfl)) pa_nil))))
      (pss_one (ps_if (pt_not (pt_val (pe_callB (cr_all rfl) (by rfl) B.all PyProof.Rows.boot_all (pa_cons (pe_lc (own := [("_law_kind", 14), ("_law_thing", 12)]) (g := gTup K 2 (gCons (gName 14) (gCons (gName 12) gNil))) rfl sc_l_examples_due.nd (pi_zipA (by rfl) B.zip (pa_cons (pv 8) (pa_cons (pe_op op_catA (pv 5) (pe_tup (pa_cons (pv 6) pa_nil))) pa_nil))) (blkOk_by (own := [("_law_kind", 14), ("_law_thing", 12)]) (N := ["_law_head_here", "_law_kept", "_law_came", "_law_some", "_law_at", "_law_inputs", "_law_answer", "_law_ahead", "_law_some_kinds", "_law_number", "_law_other", "_law_due", "_law_thing", "_law_k", "_law_kind"]) (sc := defScope s_l_examples_due) (by decide +kernel)) (fun _ _ _ _ _ => (pg_tupK (K := K) rfl rfl (pgs_cons (pg_name (i := 14) sc_l_examples_due.nd rfl (.inl rfl)) (pgs_cons (pg_name (i := 12) sc_l_examples_due.nd rfl (.inl rfl)) pgs_nil)))) (fun _ _ _ _ _ => pts_nil) (fun _ _ _ _ _ => (pe_cal C_l_is_of hr' (by rfl) (pa_cons (pv 14) (pa_cons (pv 12) pa_nil))))) pa_nil))))
        (pss_one (ps_ret (pe_tup (pa_cons pe_str (pa_cons (pv 4) pa_nil)))))
        pss_nil)))))
      (pss_cons (ps_lock (ps_setLc (i := 7) (own := [("_law_number", 9), ("_law_thing", 12)]) (g := gTup K 2 (gCons (gName 9) (gCons (gName 12) gNil))) rfl sc_l_examples_due.nd rfl rfl (sw_true rfl rfl rfl (by decide +kernel)) (pi_items (pv 1)) (blkOk_by (own := [("_law_number", 9), ("_law_thing", 12)]) (N := ["_law_head_here", "_law_kept", "_law_came", "_law_some", "_law_at", "_law_inputs", "_law_answer", "_law_ahead", "_law_some_kinds", "_law_number", "_law_other", "_law_due", "_law_thing", "_law_k", "_law_kind"]) (sc := defScope s_l_examples_due) (by decide +kernel)) (fun _ _ _ _ _ => (pg_tupK (K := K) rfl rfl (pgs_cons (pg_name (i := 9) sc_l_examples_due.nd rfl (.inl rfl)) (pgs_cons (pg_name (i := 12) sc_l_examples_due.nd rfl (.inl rfl)) pgs_nil)))) (fun _ _ _ _ _ => (pts_one (pt_cmpR op_eq (pe_ix (ix_tupK (K := K) rfl) (pv 12) pe_int (fun _ _ => rfl)) pe_str (nomark _)))) (fun _ _ _ _ _ => (pe_tup (pa_cons (pv 9) (pa_cons (pe_ix (ix_tupK (K := K) rfl) (pv 12) pe_int (fun _ _ => rfl)) (pa_cons (pe_ix (ix_tupK (K := K) rfl) (pv 12) pe_int (fun _ _ => rfl)) pa_nil)))))))
      (pss_cons (ps_for PassesOwn.never rfl (pi_enum (by rfl) B.enumerate (pa_cons (pv 3) pa_nil)) (pg_tup rfl (pgs_cons (pg_name (i := 4) sc_l_examples_due.nd rfl (.inl rfl)) (pgs_cons (pg_tup rfl (pgs_cons (pg_name (i := 5) sc_l_examples_due.nd rfl (.inl rfl)) (pgs_cons (pg_name (i := 6) sc_l_examples_due.nd rfl (.inl rfl)) pgs_nil))) pgs_nil)))
        (pss_one (ps_for PassesOwn.never rfl (pi_list (pe_op op_cat (pv 7) (pe_lc (own := [("_law_k", 13)]) (g := gName 13) rfl sc_l_examples_due.nd (pi_range1 (by rfl) B.range (pa_cons (pv 4) pa_nil)) (blkOk_by (own := [("_law_k", 13)]) (N := ["_law_head_here", "_law_kept", "_law_came", "_law_some", "_law_at", "_law_inputs", "_law_answer", "_law_ahead", "_law_some_kinds", "_law_number", "_law_other", "_law_due", "_law_thing", "_law_k", "_law_kind"]) (sc := defScope s_l_examples_due) (by decide +kernel)) (fun _ _ _ _ _ => (pg_name (i := 13) sc_l_examples_due.nd rfl (.inl rfl))) (fun _ _ _ _ _ => pts_nil) (fun _ _ _ _ _ => (pe_tup (pa_cons (pe_op op_add (pv 2) (pv 13)) (pa_cons (pe_ix (ix_tupK (K := K) rfl) (pe_ix (ix_listK (K := K) rfl) (pv 3) (pv 13) (fun _ _ => rfl)) pe_int (fun _ _ => rfl)) (pa_cons (pe_ix (ix_tupK (K := K) rfl) (pe_ix (ix_listK (K := K) rfl) (pv 3) (pv 13) (fun _ _ => rfl)) pe_int (fun _ _ => rfl)) pa_nil)))))))) (pg_tup rfl (pgs_cons (pg_name (i := 9) sc_l_examples_due.nd rfl (.inl rfl)) (pgs_cons (pg_name (i := 10) sc_l_examples_due.nd rfl (.inl rfl)) (pgs_cons (pg_name (i := 11) sc_l_examples_due.nd rfl (.inl rfl)) pgs_nil))))
        (pss_one (ps_if (PW.pt (pw_and (pt_cmpR (op_eqP hr.units) (pv 10) (pv 5) (nomark _)) (pw_and1 (pt_cmpR (op_neP hr.units) (pv 11) (pv 6) (nomark _)))))
        (pss_one (ps_ret (pe_tup (pa_cons pe_str (pa_cons (pv 4) (pa_cons (pv 9) pa_nil))))))
        pss_nil)))))
      (pss_one (ps_ret pe_non))))), ?_⟩
    have ul : us.length = ds.length := by rw [hus.len, List.length_map]
    have kl : (kVs ks).length = ks.length := List.length_map _
    have dat : ∀ {i : Nat} {x : V} {H' : Hp}, us[i]? = some x → Same H H' → ∃ d t x1 x2, ds[i]? = some d ∧ isExD d ∧ x = .ref t ∧ SqT K H' t [x1, x2] ∧ Fd K H' x1 (exI d) ∧ Fd K H' x2 (exA d) := fun {i x H'} hx s' => by
      obtain ⟨d0, hd0, hDx⟩ := hus.nth hx
      rw [List.getElem?_map] at hd0
      obtain ⟨d, hd1, rfl⟩ := Option.map_eq_some_iff.mp hd0
      obtain ⟨t, x1, x2, rfl, ht, f1, f2⟩ := fd_two (hDx.keep (Tp.same s'))
      exact ⟨d, t, x1, x2, hd1, hex d (List.mem_of_getElem? hd1), rfl, ht, f1, f2⟩
    refine ⟨_, rfl, sm, us, rfl, hsm, for_enumL (K := K) (xs := us) (fun i σ H' => (∃ y4 y5 y6 y8 : Option V, σ = [some (V.ref h), some (V.ref kd), some (.int on), some (V.ref sm), y4, y5, y6, none, y8, none, none, none, none, none, none]) ∧ Same H H' ∧ firstBad (exOk ks k) ds 0 = firstBad (exOk ks k) (ds.drop i) i) ?_ ?_ ?_ ?_⟩
    · exact ⟨⟨_, _, _, _, rfl⟩, fun _ _ h => h, by rw [List.drop_zero]⟩
    · rintro i σ H' ⟨_, sm', _⟩
      exact sm'.seq hsm
    · rintro i x _ H' T hx ⟨⟨y4, y5, y6, y8, rfl⟩, sm', hbd⟩ hT
      have sm2 := sm'.trans (same_new (o := .tup [.int (i : Nat), x]) hT)
      obtain ⟨d, tx, a1, a2, hd, xd, rfl, hq, f1, f2⟩ := dat hx sm2
      rw [firstBad_step hd] at hbd
      refine ⟨T, _, rfl, .inl (.inl upd_same), rfl, _, _, rfl, _, _, rfl, tx, _, rfl, hq, rfl, _, _, rfl, _, _, rfl, rfl, rfl, ?_⟩
      generalize upd H' T (.tup [.int (i : Nat), .ref tx]) = H3 at sm2 hq f1 f2
      have bad : exOk ks k d = false → (2 ≤ sizeLine ∧ ∀ p, H3 p = none → Q (.ref p) (upd H3 p (.tup [.str "no inputs", .int (i : Nat)]))) := fun e => by
        rw [e] at hbd
        exact ⟨by decide, fun p hp => qi i hbd (.ref p) _ (sm2.trans (same_new hp)) (fd_tup upd_same (.cons (.str _) (.cons (.int _) .nil)) rfl)⟩
      have stepE : exOk ks k d = (areD ks (exI d) && hasKd k (exA d)) := rfl
      by_cases ht : isTup (exI d) = true
      · cases hI : exI d with
        | tuple es =>
          rw [hI] at f1
          obtain ⟨fe, fx⟩ := f1
          cases fx with
          | @tup t ws _ hw hr0 =>
            have wl := dpall_len hr0
            refine ⟨_, rfl, .ref t, _, _, _, _, rfl, .ty _, tyx_tup hw, kit_tup (.tuple []) rfl, _, rfl, iteF ⟨_, rfl, t, ws, rfl, .inr hw, _, rfl, h, _, 0, .ref ka, rfl, rfl, Tp.same sm2 _ _ hh, rfl, ka, _, rfl, .inr (Tp.same sm2 _ _ hk), rfl, _, rfl, ?_⟩⟩
            by_cases hl : es.length = ks.length
            · refine iteNS (by rw [kl, wl, hl]) ?_
              have ea : areD ks (.tuple es) = all2 ks es := by show (decide (es.length = ks.length) && all2 ks es) = _; rw [decide_eq_true hl]; rfl
              refine ⟨_, rfl, h, _, 0, .ref ka, rfl, rfl, Tp.same sm2 _ _ hh, rfl, _, rfl, h, _, 1, .str (kS k), rfl, rfl, Tp.same sm2 _ _ hh, rfl, (by show 1 ≤ sizeLine; decide), fun t1 h1 => ?_⟩
              have s1 := same_new (o := .tup [.str (kS k)]) h1
              have e1 : upd H3 t1 (.tup [.str (kS k)]) t1 = some (.tup [.str (kS k)]) := upd_same
              generalize upd H3 t1 (.tup [.str (kS k)]) = H4 at s1 e1
              refine cat_kinds (Tp.same (sm2.trans s1) _ _ hk) (.inl (.inl e1)) hkl fun t2 H5 s5 hk2 => ?_
              refine ⟨_, rfl, _, rfl, _, rfl, (by show 1 ≤ sizeLine; decide), fun t3 h3 => ?_⟩
              have s6 := same_new (o := .tup [a2]) h3
              have e3 : upd H5 t3 (.tup [a2]) t3 = some (.tup [a2]) := upd_same
              generalize upd H5 t3 (.tup [a2]) = H6 at s6 e3
              refine cat_any (Tp.same ((s1.trans s5).trans s6) _ _ hw) (.inl (.inl e3)) (by rw [wl, hl]; exact Nat.le_of_lt (smallL (by omega))) fun t4 H7 s7 hz => ?_
              have kl2 : (kVs (ks ++ [k])).length = ks.length + 1 := by unfold kVs; rw [List.length_map, List.length_append]; rfl
              have s37 := ((s1.trans s5).trans s6).trans s7
              have zl : (List.zipWith hasKd (ks ++ [k]) (es ++ [exA d])).length = ks.length + 1 := by rw [List.length_zipWith, List.length_append, List.length_append, hl]; simp
              have hus7 : Fds K H7 (ws ++ [a2]) (es ++ [exA d]) := (Fds.keep (show Fds K H3 ws es from ⟨fe, hr0⟩) (Tp.same s37)).app (Fds.cons (f2.keep (Tp.same s37)) Fds.nil)
              refine ⟨t2, t4, _, _, rfl, .inr ⟨Tp.same (s6.trans s7) _ _ hk2, hz, fun D hD => lc_it (walk_zipT (K := K) (a := t2) (b := t4) (xs := kVs (ks ++ [k])) (ys := ws ++ [a2]) (n := ks.length + 1) (by rw [kl2, List.length_append, wl, hl]; simp)) (fun i H' => Same H7 H' ∧ H' D = some (.lst (((List.zipWith hasKd (ks ++ [k]) (es ++ [exA d])).take i).map V.bl))) ?_ ?_ ?_ ?_⟩⟩
              · exact ⟨same_new hD, by rw [upd_same, List.take_zero]; rfl⟩
              · rintro j H' _ ⟨s', _⟩
                exact ⟨Tp.same ((s6.trans s7).trans s') _ _ hk2, Tp.same s' _ _ hz⟩
              · rintro j x H1 H2 hj ⟨s', hB⟩ ⟨T2, p, y, rfl, hT2, rfl, hp, hy⟩
                have sm9 : Same H1 (upd H1 T2 (.tup [p, y])) := same_new hT2
                refine ⟨T2, _, rfl, .inl (.inl upd_same), rfl, _, _, rfl, _, _, rfl, rfl, rfl, ?_⟩
                generalize upd H1 T2 (.tup [p, y]) = H8 at sm9
                have hj' : j < (ks ++ [k]).length := by rw [List.length_append]; exact hj
                have ek : (kVs (ks ++ [k]))[j]? = some (.str (kS (ks ++ [k])[j])) := by
                  unfold kVs
                  rw [List.getElem?_map, List.getElem?_eq_getElem hj']
                  rfl
                have hp : (kVs (ks ++ [k]))[j]? = some p := hp
                rw [ek] at hp
                cases hp
                obtain ⟨e, he, fe⟩ := hus7.nth hy
                have fe' := fe.keep (Tp.same (s'.trans sm9))
                have zi : (List.zipWith hasKd (ks ++ [k]) (es ++ [exA d]))[j]? = some (hasKd (ks ++ [k])[j] e) := by
                  rw [List.getElem?_zipWith, List.getElem?_eq_getElem hj', he]
                refine ⟨_, rfl, _, rfl, (ks ++ [k])[j], y, e, rfl, fe', _, sm9 _ _ hB, by rw [List.length_map, List.length_take, zl]; exact smallL (by omega), fun b o z => ?_, ?_⟩
                · rw [upd_ne (ne_of_none z hD)]
                  exact sm9 _ _ (s' _ _ z)
                · rw [upd_same, List.take_add_one, zi, List.map_append]
                  rfl
              · rintro H9 ⟨s9, hB⟩
                rw [List.take_of_length_le (by omega)] at hB
                refine ⟨D, _, rfl, SqL.of hB, ?_⟩
                rw [all2_zip, all2_snoc _ _ _ _ hl]
                cases hK : (all2 ks es && hasKd k (exA d)) with
                | false =>
                  have e : exOk ks k d = false := by rw [stepE, hI, ea]; exact hK
                  rw [e] at hbd
                  exact ⟨_, rfl, iteT ⟨_, rfl, (by show 2 ≤ sizeLine; decide), fun p hp => qi i hbd (.ref p) _ (((sm2.trans s37).trans s9).trans (same_new hp)) (fd_tup upd_same (.cons (.str _) (.cons (.int _) .nil)) rfl)⟩⟩
                | true =>
                  have e : exOk ks k d = true := by rw [stepE, hI, ea]; exact hK
                  rw [e] at hbd
                  exact ⟨_, rfl, iteF ⟨⟨_, _, _, _, rfl⟩, (sm2.trans s37).trans s9, hbd⟩⟩
            · have e : decide (V.int ((ws.length : Nat) : Int) = V.int (((kVs ks).length : Nat) : Int)) = false := decide_eq_false (fun z => hl (by injection z with z; rw [kl] at z; omega))
              rw [e]
              refine iteT ⟨_, rfl, bad ?_⟩
              rw [stepE, hI]
              show ((decide (es.length = ks.length) && all2 ks es) && _) = false
              rw [decide_eq_false hl]
              rfl
        | _ => rw [hI] at ht; simp [isTup] at ht
      · have hf : isTup (exI d) = false := by simpa using ht
        refine ⟨_, rfl, a1, _, _, _, _, rfl, .ty _, f1.ty, kit_tup _ f1.1, _, rfl, ?_⟩
        rw [hf]
        refine iteT ⟨_, rfl, bad ?_⟩
        rw [stepE]
        cases hI : exI d with
        | tuple ds => rw [hI] at hf; simp [isTup] at hf
        | _ => rfl
    · rintro σ H' ⟨⟨y4, y5, y6, y8, rfl⟩, s', hbd⟩
      rw [ul, List.drop_length] at hbd
      refine ⟨kd, .dK kvs, s' _ _ hkd, trivial, fun od => ⟨_, rfl, kd, od, kvs, rfl, upd_same, fun D hD => lc_it walk_items (fun i H2 => H2 kd = some (.frz od (.dK kvs)) ∧ (∀ b o, H' b = some o → b ≠ kd → H2 b = some o) ∧ ∃ ws, H2 D = some (.lst ws) ∧ ws.length ≤ i ∧ Fds K H2 ws (((kept.take i).filter (fun o => isExB o.2)).map triD)) ?_ ?_ ?_ ?_⟩⟩
      · refine ⟨by rw [upd_ne (fun z => by rw [← z, upd_same] at hD; cases hD), upd_same], fun b o e n => ?_, [], upd_same, Nat.le_refl _, by rw [List.take_zero]; exact Fds.nil⟩
        rw [upd_ne (ne_of_none (by rw [upd_ne n]; exact e) hD), upd_ne n]
        exact e
      · rintro i H2 _ ⟨g, _⟩
        exact g
      · rintro i x Ha Hb hi ⟨hz, hs, ws, hA, wl, hW⟩ ⟨T, c, v, hkv, rfl, hT, rfl⟩
        obtain ⟨o, ho, rfl, hv⟩ := kf_nth hkf hkv
        have tpa : Tp K H Ha := (Tp.same s').trans (Ex.tp (ws := [kd]) (fun b o e n => hs b o e (by simpa using n)) fun b hb xs q' => by
          rw [List.mem_singleton.mp hb] at q'
          rcases q' with q' | ⟨u, q'⟩ <;> rw [s' _ _ hkd] at q' <;> cases q')
        have hv1 := hv.keep (tpa.trans (Tp.same (same_new (o := .tup [kV (.inl o.1), v]) hT)))
        obtain ⟨w0, r0, ew⟩ := hkt o (List.mem_of_getElem? ho)
        have hv2 := hv1
        rw [ew] at hv2
        obtain ⟨ty, ys, rfl, hty⟩ := word_read hv2
        have hil : i < 5000 := by have := (List.getElem?_eq_some_iff.mp ho).1; omega
        have hD2 : D ≠ T := fun z => by rw [← z, hA] at hT; cases hT
        have hkT : kd ≠ T := fun z => by rw [← z, hz] at hT; cases hT
        have nkD : kd ≠ D := fun z => by rw [← z, upd_same] at hD; cases hD
        refine ⟨T, _, rfl, .inl (.inl upd_same), rfl, _, _, rfl, _, _, rfl, rfl, rfl, ?_⟩
        refine ⟨_, rfl, ty, _, 0, .str w0, rfl, rfl, hty, at_of (j := 0) rfl rfl, rfl, _, rfl, ite2 (fun c => ?_) (fun c => ?_)⟩
        · have ex : isExB o.2 = true := by
            rw [ew]
            exact decide_eq_true (V.str.inj (of_decide_eq_true c))
          obtain ⟨t0, x1, x2, e0, h0, f1, f2⟩ := ex_read hv1 (hke o (List.mem_of_getElem? ho) ex)
          cases e0
          refine ⟨_, rfl, _, rfl, ty, _, 1, x1, rfl, rfl, h0, rfl, _, rfl, ty, _, 2, x2, rfl, rfl, h0, rfl, (by show 3 ≤ sizeLine; decide), fun t' ht' => ?_⟩
          generalize hHb : upd Ha T (.tup [kV (.inl o.1), .ref ty]) = Hb at ht' h0 f1 f2
          have sAb : Same Ha Hb := by rw [← hHb]; exact same_new hT
          have sT := same_new (o := .tup [.int o.1, x1, x2]) ht'
          have nD : D ≠ t' := ne_of_none (sAb _ _ hA) ht'
          have nk : kd ≠ t' := ne_of_none (sAb _ _ hz) ht'
          have tpD : Tp K (upd Hb t' (.tup [.int o.1, x1, x2])) (upd (upd Hb t' (.tup [.int o.1, x1, x2])) D (.lst (ws ++ [.ref t']))) := Tp.lst (sT _ _ (sAb _ _ hA))
          refine ⟨ws, sT _ _ (sAb _ _ hA), smallL (by omega), by rw [upd_ne nkD]; exact sT _ _ (sAb _ _ hz), fun b u e n => ?_, ws ++ [.ref t'], upd_same, by rw [List.length_append]; simp; omega, ?_⟩
          · have hbD : b ≠ D := fun z => by
              rw [← z, upd_ne n, e] at hD
              cases hD
            rw [upd_ne hbD]
            exact sT _ _ (sAb _ _ (hs b u e n))
          · rw [List.take_add_one, ho, List.filter_append, List.map_append]
            have e1 : ((some o).toList.filter (fun o => isExB o.2)).map triD = [triD o] := by
              show ([o].filter (fun o => isExB o.2)).map triD = _
              rw [List.filter_cons, if_pos ex]
              rfl
            rw [e1]
            exact (hW.keep ((Tp.same (sAb.trans sT)).trans tpD)).app (Fds.cons (Fd.keep (tri_put upd_same (f1.keep (Tp.same sT)) (f2.keep (Tp.same sT))) tpD) Fds.nil)
        · have ex : isExB o.2 = false := by
            rw [ew]
            exact decide_eq_false (fun z => c (decide_eq_true (by rw [z])))
          have sAb : Same Ha (upd Ha T (.tup [kV (.inl o.1), .ref ty])) := same_new hT
          refine ⟨sAb _ _ hz, fun b u e n => sAb _ _ (hs b u e n), ws, sAb _ _ hA, by omega, ?_⟩
          rw [List.take_add_one, ho, List.filter_append, List.map_append]
          have e1 : ((some o).toList.filter (fun o => isExB o.2)).map triD = [] := by
            show ([o].filter (fun o => isExB o.2)).map triD = _
            rw [List.filter_cons, if_neg (by rw [ex]; decide)]
            rfl
          rw [e1, List.append_nil]
          exact hW.keep (Tp.same sAb)
      · rintro H2 ⟨hz, hs, ws, hA, wl, hW⟩
        refine ⟨hz, ?_⟩
        have nkD : kd ≠ D := fun z => by rw [← z, hz] at hA; cases hA
        have s5 : Same H' (upd H2 kd (.dK kvs)) := fun b o e => by
          by_cases z : b = kd
          · rw [z, upd_same]
            rw [z, s' _ _ hkd] at e
            exact e
          · rw [upd_ne z]
            exact hs b o e z
        have hA5 : upd H2 kd (.dK kvs) D = some (.lst ws) := by rw [upd_ne nkD.symm]; exact hA
        have hW5 := hW.keep (Ex.tp (H' := upd H2 kd (.dK kvs)) (ws := [kd]) (Ex.at (by simp)) fun b hb xs q' => by
          rw [List.mem_singleton.mp hb] at q'
          rcases q' with q' | ⟨u, q'⟩ <;> rw [hz] at q' <;> cases q')
        rw [List.take_of_length_le (by rw [hkf.len]; exact Nat.le_refl _)] at hW5
        have wl5 : ws.length ≤ 5000 := by
          have := (List.getElem?_eq_none_iff.mp (show kvs[kvs.length]? = none by simp))
          have h2 := hkf.len
          omega
        generalize upd H2 kd (.dK kvs) = H5 at s5 hA5 hW5
        have sm' := s'.trans s5
        refine ⟨_, rfl, sm, us, rfl, sm'.seq hsm, for_enumL (K := K) (xs := us) (fun i σ H' => (∃ y4 y5 y6 y8 y9 y10 y11 : Option V, σ = [some (V.ref h), some (V.ref kd), some (.int on), some (V.ref sm), y4, y5, y6, some (.ref D), y8, y9, y10, y11, none, none, none]) ∧ Same H5 H' ∧ ∀ j < i, clashAt kept on ds j = none) ?_ ?_ ?_ ?_⟩
        · exact ⟨⟨_, _, _, _, _, _, _, rfl⟩, Same.refl _, fun j hj => absurd hj (Nat.not_lt_zero _)⟩
        · rintro i σ H7 ⟨_, s7, _⟩
          have sm' := sm'.trans s7
          exact sm'.seq hsm
        · rintro i x _ H7 T hx ⟨⟨y4, y5, y6, y8, y9, y10, y11, rfl⟩, s7, hc⟩ hT
          have sm' := (sm'.trans s7).trans (same_new (o := .tup [.int (i : Nat), x]) hT)
          have s57 := s7.trans (same_new (o := .tup [.int (i : Nat), x]) hT)
          obtain ⟨d, tx, a1, a2, hd, xd, rfl, hq, g1, g2⟩ := dat hx sm'
          have hid : i < ds.length := (List.getElem?_eq_some_iff.mp hd).1
          have pd := dep_ex xd (hdd d (List.mem_of_getElem? hd))
          refine ⟨T, _, rfl, .inl (.inl upd_same), rfl, _, _, rfl, _, _, rfl, tx, _, rfl, hq, rfl, _, _, rfl, _, _, rfl, rfl, rfl, ?_⟩
          generalize upd H7 T (.tup [.int (i : Nat), .ref tx]) = H8 at sm' s57 hq g1 g2
          refine ⟨_, rfl, _, rfl, (i : Nat), rfl, by omega, by omega, fun D2 hD2 => lc_range (lo := 0) (n := i) (fun j H' => Same H8 H' ∧ ∃ vs, H' D2 = some (.lst vs) ∧ vs.length = j ∧ Fds K H' vs ((numD on (ds.take j)).map triD)) ?_ ?_ ?_⟩
          · exact ⟨same_new hD2, [], upd_same, rfl, by rw [List.take_zero]; exact Fds.nil⟩
          · rintro j H9 hj ⟨s9, vs, hB, vl, hV⟩
            have hxj : us[j]? = some us[j] := List.getElem?_eq_getElem (by omega)
            obtain ⟨dj, tj, b1, b2, hdj, xdj, ej, hqj, k1, k2⟩ := dat hxj (sm'.trans s9)
            rw [ej] at hxj
            have sm' := sm'.trans s9
            have hat : atI us (0 + ((j : Nat) : Int)) = some (V.ref tj) := at_of (j := j) (by omega) hxj
            refine ⟨rfl, _, rfl, _, rfl, on, _, rfl, rfl, _, rfl, _, rfl, sm, us, _, .ref tj, rfl, rfl, sm'.seq hsm, hat, tj, _, 0, b1, rfl, rfl, hqj, rfl, _, rfl, _, rfl, sm, us, _, .ref tj, rfl, rfl, sm'.seq hsm, hat, tj, _, 1, b2, rfl, rfl, hqj, rfl, (by show 3 ≤ sizeLine; decide), fun t' ht' => ?_⟩
            have sT := same_new (o := .tup [.int (on + (0 + (j : Int))), b1, b2]) ht'
            have nD : D2 ≠ t' := ne_of_none hB ht'
            have tpD : Tp K (upd H9 t' (.tup [.int (on + (0 + (j : Int))), b1, b2])) (upd (upd H9 t' (.tup [.int (on + (0 + (j : Int))), b1, b2])) D2 (.lst (vs ++ [.ref t']))) := Tp.lst (sT _ _ hB)
            refine ⟨vs, sT _ _ hB, smallL (by omega), fun b u e => ?_, vs ++ [.ref t'], upd_same, by rw [List.length_append, vl]; rfl, ?_⟩
            · rw [upd_ne (ne_of_none e hD2)]
              exact sT _ _ (s9 _ _ e)
            · have e1 : numD on (ds.take (j + 1)) = numD on (ds.take j) ++ [(on + (0 + (j : Int)), dj)] := by
                rw [List.take_add_one, hdj]
                show numD on (ds.take j ++ [dj]) = _
                rw [numD_snoc, List.length_take, Nat.min_eq_left (by omega), Int.zero_add]
              rw [e1, List.map_append]
              exact (hV.keep ((Tp.same sT).trans tpD)).app (Fds.cons (Fd.keep (tri_put (o := (on + (0 + (j : Int)), dj)) upd_same (k1.keep (Tp.same sT)) (k2.keep (Tp.same sT))) tpD) Fds.nil)
          · rintro H9 ⟨s9, vs, hB, vl, hV⟩
            have hA9 := s9 _ _ (s57 _ _ hA5)
            refine ⟨D, D2, ws, vs, rfl, rfl, hA9, hB, Nat.le_of_lt (smallL (by omega)), fun p hp => ?_⟩
            have s10 := same_new (o := .lst (ws ++ vs)) hp
            have hP : upd H9 p (.lst (ws ++ vs)) p = some (.lst (ws ++ vs)) := upd_same
            have hF : Fds K (upd H9 p (.lst (ws ++ vs))) (ws ++ vs) ((aheadD kept on ds i).map triD) := by
              unfold aheadD
              rw [List.map_append]
              exact (hW5.keep (Tp.same ((s57.trans s9).trans s10))).app (hV.keep (Tp.same s10))
            have sm' := (sm'.trans s9).trans s10
            have s510 := (s57.trans s9).trans s10
            have g1' := g1.keep (K := K) (Tp.same (s9.trans s10))
            have g2' := g2.keep (K := K) (Tp.same (s9.trans s10))
            generalize upd H9 p (.lst (ws ++ vs)) = H10 at hP hF sm' s510 g1' g2'
            have wl : (ws ++ vs).length = (aheadD kept on ds i).length := by rw [hF.len, List.length_map]
            refine ⟨p, rfl, ⟨_, SqL.of hP⟩, for_list (K := K) (xs := ws ++ vs) (fun j σ H' => (∃ y9 y10 y11 : Option V, σ = [some (V.ref h), some (V.ref kd), some (.int on), some (V.ref sm), some (.int (i : Nat)), some a1, some a2, some (.ref D), y8, y9, y10, y11, none, none, none]) ∧ Same H10 H' ∧ ((aheadD kept on ds i).take j).find? (fun o => clash1 o.2 d) = none) ?_ ?_ ?_ ?_⟩
            · exact ⟨⟨_, _, _, rfl⟩, Same.refl _, by rw [List.take_zero]; rfl⟩
            · rintro j σ H11 _ ⟨_, s11, _⟩
              exact SqL.of (s11 _ _ hP)
            · rintro j y _ H11 hy ⟨⟨y9, y10, y11, rfl⟩, s11, hf⟩
              obtain ⟨od, ho, hoD⟩ := hF.nth hy
              rw [List.getElem?_map] at ho
              obtain ⟨o, ho2, rfl⟩ := Option.map_eq_some_iff.mp ho
              have xo : isExD o.2 ∧ o.2.depth ≤ 60 := by
                rcases List.mem_append.mp (List.mem_of_getElem? ho2) with z | z
                · exact ⟨hke o (List.mem_filter.mp z).1 (List.mem_filter.mp z).2, hkdp o (List.mem_filter.mp z).1⟩
                · have m := List.mem_of_mem_take (numD_mem on _ o z)
                  exact ⟨hex _ m, hdd _ m⟩
              obtain ⟨t, c1, c2, rfl, ht, f1, f2⟩ := tri_read (hoD.keep (Tp.same s11))
              have po := dep_ex xo.1 xo.2
              have g1'' := g1'.keep (Tp.same s11)
              have g2'' := g2'.keep (Tp.same s11)
              refine ⟨t, _, rfl, ht, rfl, _, _, rfl, _, _, rfl, _, _, rfl, rfl, ?_⟩
              refine ⟨_, rfl, _, rfl, exI o.2, exI d, f1.2, g1''.2, plain_flat _ f1.1, plain_flat _ g1''.1, po.1, _, rfl, ?_⟩
              cases hq1 : PyData.eqv (exI o.2) (exI d) with
              | false => exact iteF (iteF ⟨⟨_, _, _, rfl⟩, s11, find_miss hf ho2 (by show (PyData.eqv (exI o.2) (exI d) && _) = false; rw [hq1]; rfl)⟩)
              | true =>
                refine iteT ⟨_, rfl, _, rfl, exA o.2, exA d, f2.2, g2''.2, plain_flat _ f2.1, plain_flat _ g2''.1, po.2, _, rfl, ?_⟩
                cases hq2 : PyData.eqv (exA o.2) (exA d) with
                | false =>
                  have hcl : clashAt kept on ds i = some o.1 := by
                    unfold clashAt
                    rw [hd]
                    show ((aheadD kept on ds i).find? _).map _ = _
                    rw [find_hit hf ho2 (by show (PyData.eqv (exI o.2) (exI d) && !PyData.eqv (exA o.2) (exA d)) = true; rw [hq1, hq2]; rfl)]
                    rfl
                  exact iteT ⟨_, rfl, _, rfl, (by show 3 ≤ sizeLine; decide), fun p2 hp2 => qc i o.1 hbd (fc_some hid hc hcl) (.ref p2) _ ((sm'.trans s11).trans (same_new hp2)) (fd_tup upd_same (.cons (.str _) (.cons (.int _) (.cons (.int _) .nil))) rfl)⟩
                | true => exact iteF ⟨⟨_, _, _, rfl⟩, s11, find_miss hf ho2 (by show (PyData.eqv (exI o.2) (exI d) && !PyData.eqv (exA o.2) (exA d)) = false; rw [hq1, hq2]; rfl)⟩
            · rintro σ H11 ⟨⟨y9, y10, y11, rfl⟩, s11, hf⟩
              rw [wl, List.take_length] at hf
              have hcn : clashAt kept on ds i = none := by
                unfold clashAt
                rw [hd]
                show ((aheadD kept on ds i).find? _).map _ = _
                rw [hf]
                rfl
              refine ⟨⟨_, _, _, _, _, _, _, rfl⟩, s510.trans s11, fun j hj => ?_⟩
              by_cases z : j = i
              · rw [z]; exact hcn
              · exact hc j (by omega)
        · rintro σ H7 ⟨_, s7, hc⟩
          rw [ul] at hc
          exact q hbd (fc_none hc) H7 (sm'.trans s7)
  · refine ⟨_, (pss_cons (ps_for PassesOwn.never rfl (pi_enumT (by rfl) B.enumerate (pa_cons (pv 3) pa_nil)) (pg_tup rfl (pgs_cons (pg_name (i := 4) sc_l_examples_due.nd rfl (.inl rfl)) (pgs_cons (pg_tup rfl (pgs_cons (pg_name (i := 5) sc_l_examples_due.nd rfl (.inl rfl)) (pgs_cons (pg_name (i := 6) sc_l_examples_due.nd rfl (.inl rfl)) pgs_nil))) pgs_nil)))
        (pss_cons (ps_if (PW.pt (pw_or (pt_not (pt_val (pe_callB call_isi (by rfl) B.isinstance (by decide +kernel) (pa_cons (pv 5) (pa_cons (pe_bltn (v := .ty "tuple") (by rfl) B.tuple PyProof.Rows.boot_tuple rfl) pa_nil))))) (pw_or1 (pt_cmpR op_ne (pe_callB call_len_seq (by rfl) B.len PySem.boot_len (pa_cons (pv 5) pa_nil)) (pe_callB call_len_seq (by rfl) B.len PySem.boot_len (pa_cons (pe_ix ix_tup (pv 0) pe_int (fun _ _ => rfl)) pa_nil)) (nomark _)))))
        (pss_one (ps_ret (pe_tup (pa_cons pe_str (pa_cons (pv 4) pa_nil)))))
        pss_nil)
      (pss_cons (ps_set (i := 8) sc_l_examples_due.nd rfl (.inl rfl) (pe_op op_catA (pe_ix ix_tup (pv 0) pe_int (fun _ _ => rfl)) (pe_tup (pa_cons (pe_ix ix_tup (pv 0) pe_int (fun _ _ => rfl)) pa_nil))))
      (pss_one (ps_if (pt_not (pt_val (pe_callB (cr_all rfl) (by rfl) B.all PyProof.Rows.boot_all (pa_cons (pe_lc (own := [("_law_kind", 14), ("_law_thing", 12)]) (g := gTup K 2 (gCons (gName 14) (gCons (gName 12) gNil))) rfl sc_l_examples_due.nd (pi_zipA (by rfl) B.zip (pa_cons (pv 8) (pa_cons (pe_op op_catA (pv 5) (pe_tup (pa_cons (pv 6) pa_nil))) pa_nil))) (blkOk_by (own := [("_law_kind", 14), ("_law_thing", 12)]) (N := ["_law_head_here", "_law_kept", "_law_came", "_law_some", "_law_at", "_law_inputs", "_law_answer", "_law_ahead", "_law_some_kinds", "_law_number", "_law_other", "_law_due", "_law_thing", "_law_k", "_law_kind"]) (sc := defScope s_l_examples_due) (by decide +kernel)) (fun _ _ _ _ _ => (pg_tupK (K := K) rfl rfl (pgs_cons (pg_name (i := 14) sc_l_examples_due.nd rfl (.inl rfl)) (pgs_cons (pg_name (i := 12) sc_l_examples_due.nd rfl (.inl rfl)) pgs_nil)))) (fun _ _ _ _ _ => pts_nil) (fun _ _ _ _ _ => (pe_cal C_l_is_of hr' (by rfl) (pa_cons (pv 14) (pa_cons (pv 12) pa_nil))))) pa_nil))))
        (pss_one (ps_ret (pe_tup (pa_cons pe_str (pa_cons (pv 4) pa_nil)))))
        pss_nil)))))
      (pss_cons (ps_lock (ps_setLc (i := 7) (own := [("_law_number", 9), ("_law_thing", 12)]) (g := gTup K 2 (gCons (gName 9) (gCons (gName 12) gNil))) rfl sc_l_examples_due.nd rfl rfl (sw_true rfl rfl rfl (by decide +kernel)) (pi_items (pv 1)) (blkOk_by (own := [("_law_number", 9), ("_law_thing", 12)]) (N := ["_law_head_here", "_law_kept", "_law_came", "_law_some", "_law_at", "_law_inputs", "_law_answer", "_law_ahead", "_law_some_kinds", "_law_number", "_law_other", "_law_due", "_law_thing", "_law_k", "_law_kind"]) (sc := defScope s_l_examples_due) (by decide +kernel)) (fun _ _ _ _ _ => (pg_tupK (K := K) rfl rfl (pgs_cons (pg_name (i := 9) sc_l_examples_due.nd rfl (.inl rfl)) (pgs_cons (pg_name (i := 12) sc_l_examples_due.nd rfl (.inl rfl)) pgs_nil)))) (fun _ _ _ _ _ => (pts_one (pt_cmpR op_eq (pe_ix (ix_tupK (K := K) rfl) (pv 12) pe_int (fun _ _ => rfl)) pe_str (nomark _)))) (fun _ _ _ _ _ => (pe_tup (pa_cons (pv 9) (pa_cons (pe_ix (ix_tupK (K := K) rfl) (pv 12) pe_int (fun _ _ => rfl)) (pa_cons (pe_ix (ix_tupK (K := K) rfl) (pv 12) pe_int (fun _ _ => rfl)) pa_nil)))))))
      (pss_cons (ps_for PassesOwn.never rfl (pi_enumT (by rfl) B.enumerate (pa_cons (pv 3) pa_nil)) (pg_tup rfl (pgs_cons (pg_name (i := 4) sc_l_examples_due.nd rfl (.inl rfl)) (pgs_cons (pg_tup rfl (pgs_cons (pg_name (i := 5) sc_l_examples_due.nd rfl (.inl rfl)) (pgs_cons (pg_name (i := 6) sc_l_examples_due.nd rfl (.inl rfl)) pgs_nil))) pgs_nil)))
        (pss_one (ps_for PassesOwn.never rfl (pi_list (pe_op op_cat (pv 7) (pe_lc (own := [("_law_k", 13)]) (g := gName 13) rfl sc_l_examples_due.nd (pi_range1 (by rfl) B.range (pa_cons (pv 4) pa_nil)) (blkOk_by (own := [("_law_k", 13)]) (N := ["_law_head_here", "_law_kept", "_law_came", "_law_some", "_law_at", "_law_inputs", "_law_answer", "_law_ahead", "_law_some_kinds", "_law_number", "_law_other", "_law_due", "_law_thing", "_law_k", "_law_kind"]) (sc := defScope s_l_examples_due) (by decide +kernel)) (fun _ _ _ _ _ => (pg_name (i := 13) sc_l_examples_due.nd rfl (.inl rfl))) (fun _ _ _ _ _ => pts_nil) (fun _ _ _ _ _ => (pe_tup (pa_cons (pe_op op_add (pv 2) (pv 13)) (pa_cons (pe_ix (ix_tupK (K := K) rfl) (pe_ix (ix_tupK (K := K) rfl) (pv 3) (pv 13) (fun _ _ => rfl)) pe_int (fun _ _ => rfl)) (pa_cons (pe_ix (ix_tupK (K := K) rfl) (pe_ix (ix_tupK (K := K) rfl) (pv 3) (pv 13) (fun _ _ => rfl)) pe_int (fun _ _ => rfl)) pa_nil)))))))) (pg_tup rfl (pgs_cons (pg_name (i := 9) sc_l_examples_due.nd rfl (.inl rfl)) (pgs_cons (pg_name (i := 10) sc_l_examples_due.nd rfl (.inl rfl)) (pgs_cons (pg_name (i := 11) sc_l_examples_due.nd rfl (.inl rfl)) pgs_nil))))
        (pss_one (ps_if (PW.pt (pw_and (pt_cmpR (op_eqP hr.units) (pv 10) (pv 5) (nomark _)) (pw_and1 (pt_cmpR (op_neP hr.units) (pv 11) (pv 6) (nomark _)))))
        (pss_one (ps_ret (pe_tup (pa_cons pe_str (pa_cons (pv 4) (pa_cons (pv 9) pa_nil))))))
        pss_nil)))))
      (pss_one (ps_ret pe_non))))), ?_⟩
    have ul : us.length = ds.length := by rw [hus.len, List.length_map]
    have kl : (kVs ks).length = ks.length := List.length_map _
    have dat : ∀ {i : Nat} {x : V} {H' : Hp}, us[i]? = some x → Same H H' → ∃ d t x1 x2, ds[i]? = some d ∧ isExD d ∧ x = .ref t ∧ SqT K H' t [x1, x2] ∧ Fd K H' x1 (exI d) ∧ Fd K H' x2 (exA d) := fun {i x H'} hx s' => by
      obtain ⟨d0, hd0, hDx⟩ := hus.nth hx
      rw [List.getElem?_map] at hd0
      obtain ⟨d, hd1, rfl⟩ := Option.map_eq_some_iff.mp hd0
      obtain ⟨t, x1, x2, rfl, ht, f1, f2⟩ := fd_two (hDx.keep (Tp.same s'))
      exact ⟨d, t, x1, x2, hd1, hex d (List.mem_of_getElem? hd1), rfl, ht, f1, f2⟩
    refine ⟨_, rfl, sm, us, rfl, hsm, for_enumT (K := K) (xs := us) (fun i σ H' => (∃ y4 y5 y6 y8 : Option V, σ = [some (V.ref h), some (V.ref kd), some (.int on), some (V.ref sm), y4, y5, y6, none, y8, none, none, none, none, none, none]) ∧ Same H H' ∧ firstBad (exOk ks k) ds 0 = firstBad (exOk ks k) (ds.drop i) i) ?_ ?_ ?_ ?_⟩
    · exact ⟨⟨_, _, _, _, rfl⟩, fun _ _ h => h, by rw [List.drop_zero]⟩
    · rintro i σ H' ⟨_, sm', _⟩
      exact Tp.same sm' _ _ hsm
    · rintro i x _ H' T hx ⟨⟨y4, y5, y6, y8, rfl⟩, sm', hbd⟩ hT
      have sm2 := sm'.trans (same_new (o := .tup [.int (i : Nat), x]) hT)
      obtain ⟨d, tx, a1, a2, hd, xd, rfl, hq, f1, f2⟩ := dat hx sm2
      rw [firstBad_step hd] at hbd
      refine ⟨T, _, rfl, .inl (.inl upd_same), rfl, _, _, rfl, _, _, rfl, tx, _, rfl, hq, rfl, _, _, rfl, _, _, rfl, rfl, rfl, ?_⟩
      generalize upd H' T (.tup [.int (i : Nat), .ref tx]) = H3 at sm2 hq f1 f2
      have bad : exOk ks k d = false → (2 ≤ sizeLine ∧ ∀ p, H3 p = none → Q (.ref p) (upd H3 p (.tup [.str "no inputs", .int (i : Nat)]))) := fun e => by
        rw [e] at hbd
        exact ⟨by decide, fun p hp => qi i hbd (.ref p) _ (sm2.trans (same_new hp)) (fd_tup upd_same (.cons (.str _) (.cons (.int _) .nil)) rfl)⟩
      have stepE : exOk ks k d = (areD ks (exI d) && hasKd k (exA d)) := rfl
      by_cases ht : isTup (exI d) = true
      · cases hI : exI d with
        | tuple es =>
          rw [hI] at f1
          obtain ⟨fe, fx⟩ := f1
          cases fx with
          | @tup t ws _ hw hr0 =>
            have wl := dpall_len hr0
            refine ⟨_, rfl, .ref t, _, _, _, _, rfl, .ty _, tyx_tup hw, kit_tup (.tuple []) rfl, _, rfl, iteF ⟨_, rfl, t, ws, rfl, .inr hw, _, rfl, h, _, 0, .ref ka, rfl, rfl, Tp.same sm2 _ _ hh, rfl, ka, _, rfl, .inr (Tp.same sm2 _ _ hk), rfl, _, rfl, ?_⟩⟩
            by_cases hl : es.length = ks.length
            · refine iteNS (by rw [kl, wl, hl]) ?_
              have ea : areD ks (.tuple es) = all2 ks es := by show (decide (es.length = ks.length) && all2 ks es) = _; rw [decide_eq_true hl]; rfl
              refine ⟨_, rfl, h, _, 0, .ref ka, rfl, rfl, Tp.same sm2 _ _ hh, rfl, _, rfl, h, _, 1, .str (kS k), rfl, rfl, Tp.same sm2 _ _ hh, rfl, (by show 1 ≤ sizeLine; decide), fun t1 h1 => ?_⟩
              have s1 := same_new (o := .tup [.str (kS k)]) h1
              have e1 : upd H3 t1 (.tup [.str (kS k)]) t1 = some (.tup [.str (kS k)]) := upd_same
              generalize upd H3 t1 (.tup [.str (kS k)]) = H4 at s1 e1
              refine cat_kinds (Tp.same (sm2.trans s1) _ _ hk) (.inl (.inl e1)) hkl fun t2 H5 s5 hk2 => ?_
              refine ⟨_, rfl, _, rfl, _, rfl, (by show 1 ≤ sizeLine; decide), fun t3 h3 => ?_⟩
              have s6 := same_new (o := .tup [a2]) h3
              have e3 : upd H5 t3 (.tup [a2]) t3 = some (.tup [a2]) := upd_same
              generalize upd H5 t3 (.tup [a2]) = H6 at s6 e3
              refine cat_any (Tp.same ((s1.trans s5).trans s6) _ _ hw) (.inl (.inl e3)) (by rw [wl, hl]; exact Nat.le_of_lt (smallL (by omega))) fun t4 H7 s7 hz => ?_
              have kl2 : (kVs (ks ++ [k])).length = ks.length + 1 := by unfold kVs; rw [List.length_map, List.length_append]; rfl
              have s37 := ((s1.trans s5).trans s6).trans s7
              have zl : (List.zipWith hasKd (ks ++ [k]) (es ++ [exA d])).length = ks.length + 1 := by rw [List.length_zipWith, List.length_append, List.length_append, hl]; simp
              have hus7 : Fds K H7 (ws ++ [a2]) (es ++ [exA d]) := (Fds.keep (show Fds K H3 ws es from ⟨fe, hr0⟩) (Tp.same s37)).app (Fds.cons (f2.keep (Tp.same s37)) Fds.nil)
              refine ⟨t2, t4, _, _, rfl, .inr ⟨Tp.same (s6.trans s7) _ _ hk2, hz, fun D hD => lc_it (walk_zipT (K := K) (a := t2) (b := t4) (xs := kVs (ks ++ [k])) (ys := ws ++ [a2]) (n := ks.length + 1) (by rw [kl2, List.length_append, wl, hl]; simp)) (fun i H' => Same H7 H' ∧ H' D = some (.lst (((List.zipWith hasKd (ks ++ [k]) (es ++ [exA d])).take i).map V.bl))) ?_ ?_ ?_ ?_⟩⟩
              · exact ⟨same_new hD, by rw [upd_same, List.take_zero]; rfl⟩
              · rintro j H' _ ⟨s', _⟩
                exact ⟨Tp.same ((s6.trans s7).trans s') _ _ hk2, Tp.same s' _ _ hz⟩
              · rintro j x H1 H2 hj ⟨s', hB⟩ ⟨T2, p, y, rfl, hT2, rfl, hp, hy⟩
                have sm9 : Same H1 (upd H1 T2 (.tup [p, y])) := same_new hT2
                refine ⟨T2, _, rfl, .inl (.inl upd_same), rfl, _, _, rfl, _, _, rfl, rfl, rfl, ?_⟩
                generalize upd H1 T2 (.tup [p, y]) = H8 at sm9
                have hj' : j < (ks ++ [k]).length := by rw [List.length_append]; exact hj
                have ek : (kVs (ks ++ [k]))[j]? = some (.str (kS (ks ++ [k])[j])) := by
                  unfold kVs
                  rw [List.getElem?_map, List.getElem?_eq_getElem hj']
                  rfl
                have hp : (kVs (ks ++ [k]))[j]? = some p := hp
                rw [ek] at hp
                cases hp
                obtain ⟨e, he, fe⟩ := hus7.nth hy
                have fe' := fe.keep (Tp.same (s'.trans sm9))
                have zi : (List.zipWith hasKd (ks ++ [k]) (es ++ [exA d]))[j]? = some (hasKd (ks ++ [k])[j] e) := by
                  rw [List.getElem?_zipWith, List.getElem?_eq_getElem hj', he]
                refine ⟨_, rfl, _, rfl, (ks ++ [k])[j], y, e, rfl, fe', _, sm9 _ _ hB, by rw [List.length_map, List.length_take, zl]; exact smallL (by omega), fun b o z => ?_, ?_⟩
                · rw [upd_ne (ne_of_none z hD)]
                  exact sm9 _ _ (s' _ _ z)
                · rw [upd_same, List.take_add_one, zi, List.map_append]
                  rfl
              · rintro H9 ⟨s9, hB⟩
                rw [List.take_of_length_le (by omega)] at hB
                refine ⟨D, _, rfl, SqL.of hB, ?_⟩
                rw [all2_zip, all2_snoc _ _ _ _ hl]
                cases hK : (all2 ks es && hasKd k (exA d)) with
                | false =>
                  have e : exOk ks k d = false := by rw [stepE, hI, ea]; exact hK
                  rw [e] at hbd
                  exact ⟨_, rfl, iteT ⟨_, rfl, (by show 2 ≤ sizeLine; decide), fun p hp => qi i hbd (.ref p) _ (((sm2.trans s37).trans s9).trans (same_new hp)) (fd_tup upd_same (.cons (.str _) (.cons (.int _) .nil)) rfl)⟩⟩
                | true =>
                  have e : exOk ks k d = true := by rw [stepE, hI, ea]; exact hK
                  rw [e] at hbd
                  exact ⟨_, rfl, iteF ⟨⟨_, _, _, _, rfl⟩, (sm2.trans s37).trans s9, hbd⟩⟩
            · have e : decide (V.int ((ws.length : Nat) : Int) = V.int (((kVs ks).length : Nat) : Int)) = false := decide_eq_false (fun z => hl (by injection z with z; rw [kl] at z; omega))
              rw [e]
              refine iteT ⟨_, rfl, bad ?_⟩
              rw [stepE, hI]
              show ((decide (es.length = ks.length) && all2 ks es) && _) = false
              rw [decide_eq_false hl]
              rfl
        | _ => rw [hI] at ht; simp [isTup] at ht
      · have hf : isTup (exI d) = false := by simpa using ht
        refine ⟨_, rfl, a1, _, _, _, _, rfl, .ty _, f1.ty, kit_tup _ f1.1, _, rfl, ?_⟩
        rw [hf]
        refine iteT ⟨_, rfl, bad ?_⟩
        rw [stepE]
        cases hI : exI d with
        | tuple ds => rw [hI] at hf; simp [isTup] at hf
        | _ => rfl
    · rintro σ H' ⟨⟨y4, y5, y6, y8, rfl⟩, s', hbd⟩
      rw [ul, List.drop_length] at hbd
      refine ⟨kd, .dK kvs, s' _ _ hkd, trivial, fun od => ⟨_, rfl, kd, od, kvs, rfl, upd_same, fun D hD => lc_it walk_items (fun i H2 => H2 kd = some (.frz od (.dK kvs)) ∧ (∀ b o, H' b = some o → b ≠ kd → H2 b = some o) ∧ ∃ ws, H2 D = some (.lst ws) ∧ ws.length ≤ i ∧ Fds K H2 ws (((kept.take i).filter (fun o => isExB o.2)).map triD)) ?_ ?_ ?_ ?_⟩⟩
      · refine ⟨by rw [upd_ne (fun z => by rw [← z, upd_same] at hD; cases hD), upd_same], fun b o e n => ?_, [], upd_same, Nat.le_refl _, by rw [List.take_zero]; exact Fds.nil⟩
        rw [upd_ne (ne_of_none (by rw [upd_ne n]; exact e) hD), upd_ne n]
        exact e
      · rintro i H2 _ ⟨g, _⟩
        exact g
      · rintro i x Ha Hb hi ⟨hz, hs, ws, hA, wl, hW⟩ ⟨T, c, v, hkv, rfl, hT, rfl⟩
        obtain ⟨o, ho, rfl, hv⟩ := kf_nth hkf hkv
        have tpa : Tp K H Ha := (Tp.same s').trans (Ex.tp (ws := [kd]) (fun b o e n => hs b o e (by simpa using n)) fun b hb xs q' => by
          rw [List.mem_singleton.mp hb] at q'
          rcases q' with q' | ⟨u, q'⟩ <;> rw [s' _ _ hkd] at q' <;> cases q')
        have hv1 := hv.keep (tpa.trans (Tp.same (same_new (o := .tup [kV (.inl o.1), v]) hT)))
        obtain ⟨w0, r0, ew⟩ := hkt o (List.mem_of_getElem? ho)
        have hv2 := hv1
        rw [ew] at hv2
        obtain ⟨ty, ys, rfl, hty⟩ := word_read hv2
        have hil : i < 5000 := by have := (List.getElem?_eq_some_iff.mp ho).1; omega
        have hD2 : D ≠ T := fun z => by rw [← z, hA] at hT; cases hT
        have hkT : kd ≠ T := fun z => by rw [← z, hz] at hT; cases hT
        have nkD : kd ≠ D := fun z => by rw [← z, upd_same] at hD; cases hD
        refine ⟨T, _, rfl, .inl (.inl upd_same), rfl, _, _, rfl, _, _, rfl, rfl, rfl, ?_⟩
        refine ⟨_, rfl, ty, _, 0, .str w0, rfl, rfl, hty, at_of (j := 0) rfl rfl, rfl, _, rfl, ite2 (fun c => ?_) (fun c => ?_)⟩
        · have ex : isExB o.2 = true := by
            rw [ew]
            exact decide_eq_true (V.str.inj (of_decide_eq_true c))
          obtain ⟨t0, x1, x2, e0, h0, f1, f2⟩ := ex_read hv1 (hke o (List.mem_of_getElem? ho) ex)
          cases e0
          refine ⟨_, rfl, _, rfl, ty, _, 1, x1, rfl, rfl, h0, rfl, _, rfl, ty, _, 2, x2, rfl, rfl, h0, rfl, (by show 3 ≤ sizeLine; decide), fun t' ht' => ?_⟩
          generalize hHb : upd Ha T (.tup [kV (.inl o.1), .ref ty]) = Hb at ht' h0 f1 f2
          have sAb : Same Ha Hb := by rw [← hHb]; exact same_new hT
          have sT := same_new (o := .tup [.int o.1, x1, x2]) ht'
          have nD : D ≠ t' := ne_of_none (sAb _ _ hA) ht'
          have nk : kd ≠ t' := ne_of_none (sAb _ _ hz) ht'
          have tpD : Tp K (upd Hb t' (.tup [.int o.1, x1, x2])) (upd (upd Hb t' (.tup [.int o.1, x1, x2])) D (.lst (ws ++ [.ref t']))) := Tp.lst (sT _ _ (sAb _ _ hA))
          refine ⟨ws, sT _ _ (sAb _ _ hA), smallL (by omega), by rw [upd_ne nkD]; exact sT _ _ (sAb _ _ hz), fun b u e n => ?_, ws ++ [.ref t'], upd_same, by rw [List.length_append]; simp; omega, ?_⟩
          · have hbD : b ≠ D := fun z => by
              rw [← z, upd_ne n, e] at hD
              cases hD
            rw [upd_ne hbD]
            exact sT _ _ (sAb _ _ (hs b u e n))
          · rw [List.take_add_one, ho, List.filter_append, List.map_append]
            have e1 : ((some o).toList.filter (fun o => isExB o.2)).map triD = [triD o] := by
              show ([o].filter (fun o => isExB o.2)).map triD = _
              rw [List.filter_cons, if_pos ex]
              rfl
            rw [e1]
            exact (hW.keep ((Tp.same (sAb.trans sT)).trans tpD)).app (Fds.cons (Fd.keep (tri_put upd_same (f1.keep (Tp.same sT)) (f2.keep (Tp.same sT))) tpD) Fds.nil)
        · have ex : isExB o.2 = false := by
            rw [ew]
            exact decide_eq_false (fun z => c (decide_eq_true (by rw [z])))
          have sAb : Same Ha (upd Ha T (.tup [kV (.inl o.1), .ref ty])) := same_new hT
          refine ⟨sAb _ _ hz, fun b u e n => sAb _ _ (hs b u e n), ws, sAb _ _ hA, by omega, ?_⟩
          rw [List.take_add_one, ho, List.filter_append, List.map_append]
          have e1 : ((some o).toList.filter (fun o => isExB o.2)).map triD = [] := by
            show ([o].filter (fun o => isExB o.2)).map triD = _
            rw [List.filter_cons, if_neg (by rw [ex]; decide)]
            rfl
          rw [e1, List.append_nil]
          exact hW.keep (Tp.same sAb)
      · rintro H2 ⟨hz, hs, ws, hA, wl, hW⟩
        refine ⟨hz, ?_⟩
        have nkD : kd ≠ D := fun z => by rw [← z, hz] at hA; cases hA
        have s5 : Same H' (upd H2 kd (.dK kvs)) := fun b o e => by
          by_cases z : b = kd
          · rw [z, upd_same]
            rw [z, s' _ _ hkd] at e
            exact e
          · rw [upd_ne z]
            exact hs b o e z
        have hA5 : upd H2 kd (.dK kvs) D = some (.lst ws) := by rw [upd_ne nkD.symm]; exact hA
        have hW5 := hW.keep (Ex.tp (H' := upd H2 kd (.dK kvs)) (ws := [kd]) (Ex.at (by simp)) fun b hb xs q' => by
          rw [List.mem_singleton.mp hb] at q'
          rcases q' with q' | ⟨u, q'⟩ <;> rw [hz] at q' <;> cases q')
        rw [List.take_of_length_le (by rw [hkf.len]; exact Nat.le_refl _)] at hW5
        have wl5 : ws.length ≤ 5000 := by
          have := (List.getElem?_eq_none_iff.mp (show kvs[kvs.length]? = none by simp))
          have h2 := hkf.len
          omega
        generalize upd H2 kd (.dK kvs) = H5 at s5 hA5 hW5
        have sm' := s'.trans s5
        refine ⟨_, rfl, sm, us, rfl, Tp.same sm' _ _ hsm, for_enumT (K := K) (xs := us) (fun i σ H' => (∃ y4 y5 y6 y8 y9 y10 y11 : Option V, σ = [some (V.ref h), some (V.ref kd), some (.int on), some (V.ref sm), y4, y5, y6, some (.ref D), y8, y9, y10, y11, none, none, none]) ∧ Same H5 H' ∧ ∀ j < i, clashAt kept on ds j = none) ?_ ?_ ?_ ?_⟩
        · exact ⟨⟨_, _, _, _, _, _, _, rfl⟩, Same.refl _, fun j hj => absurd hj (Nat.not_lt_zero _)⟩
        · rintro i σ H7 ⟨_, s7, _⟩
          have sm' := sm'.trans s7
          exact Tp.same sm' _ _ hsm
        · rintro i x _ H7 T hx ⟨⟨y4, y5, y6, y8, y9, y10, y11, rfl⟩, s7, hc⟩ hT
          have sm' := (sm'.trans s7).trans (same_new (o := .tup [.int (i : Nat), x]) hT)
          have s57 := s7.trans (same_new (o := .tup [.int (i : Nat), x]) hT)
          obtain ⟨d, tx, a1, a2, hd, xd, rfl, hq, g1, g2⟩ := dat hx sm'
          have hid : i < ds.length := (List.getElem?_eq_some_iff.mp hd).1
          have pd := dep_ex xd (hdd d (List.mem_of_getElem? hd))
          refine ⟨T, _, rfl, .inl (.inl upd_same), rfl, _, _, rfl, _, _, rfl, tx, _, rfl, hq, rfl, _, _, rfl, _, _, rfl, rfl, rfl, ?_⟩
          generalize upd H7 T (.tup [.int (i : Nat), .ref tx]) = H8 at sm' s57 hq g1 g2
          refine ⟨_, rfl, _, rfl, (i : Nat), rfl, by omega, by omega, fun D2 hD2 => lc_range (lo := 0) (n := i) (fun j H' => Same H8 H' ∧ ∃ vs, H' D2 = some (.lst vs) ∧ vs.length = j ∧ Fds K H' vs ((numD on (ds.take j)).map triD)) ?_ ?_ ?_⟩
          · exact ⟨same_new hD2, [], upd_same, rfl, by rw [List.take_zero]; exact Fds.nil⟩
          · rintro j H9 hj ⟨s9, vs, hB, vl, hV⟩
            have hxj : us[j]? = some us[j] := List.getElem?_eq_getElem (by omega)
            obtain ⟨dj, tj, b1, b2, hdj, xdj, ej, hqj, k1, k2⟩ := dat hxj (sm'.trans s9)
            rw [ej] at hxj
            have sm' := sm'.trans s9
            have hat : atI us (0 + ((j : Nat) : Int)) = some (V.ref tj) := at_of (j := j) (by omega) hxj
            refine ⟨rfl, _, rfl, _, rfl, on, _, rfl, rfl, _, rfl, _, rfl, sm, us, _, .ref tj, rfl, rfl, Tp.same sm' _ _ hsm, hat, tj, _, 0, b1, rfl, rfl, hqj, rfl, _, rfl, _, rfl, sm, us, _, .ref tj, rfl, rfl, Tp.same sm' _ _ hsm, hat, tj, _, 1, b2, rfl, rfl, hqj, rfl, (by show 3 ≤ sizeLine; decide), fun t' ht' => ?_⟩
            have sT := same_new (o := .tup [.int (on + (0 + (j : Int))), b1, b2]) ht'
            have nD : D2 ≠ t' := ne_of_none hB ht'
            have tpD : Tp K (upd H9 t' (.tup [.int (on + (0 + (j : Int))), b1, b2])) (upd (upd H9 t' (.tup [.int (on + (0 + (j : Int))), b1, b2])) D2 (.lst (vs ++ [.ref t']))) := Tp.lst (sT _ _ hB)
            refine ⟨vs, sT _ _ hB, smallL (by omega), fun b u e => ?_, vs ++ [.ref t'], upd_same, by rw [List.length_append, vl]; rfl, ?_⟩
            · rw [upd_ne (ne_of_none e hD2)]
              exact sT _ _ (s9 _ _ e)
            · have e1 : numD on (ds.take (j + 1)) = numD on (ds.take j) ++ [(on + (0 + (j : Int)), dj)] := by
                rw [List.take_add_one, hdj]
                show numD on (ds.take j ++ [dj]) = _
                rw [numD_snoc, List.length_take, Nat.min_eq_left (by omega), Int.zero_add]
              rw [e1, List.map_append]
              exact (hV.keep ((Tp.same sT).trans tpD)).app (Fds.cons (Fd.keep (tri_put (o := (on + (0 + (j : Int)), dj)) upd_same (k1.keep (Tp.same sT)) (k2.keep (Tp.same sT))) tpD) Fds.nil)
          · rintro H9 ⟨s9, vs, hB, vl, hV⟩
            have hA9 := s9 _ _ (s57 _ _ hA5)
            refine ⟨D, D2, ws, vs, rfl, rfl, hA9, hB, Nat.le_of_lt (smallL (by omega)), fun p hp => ?_⟩
            have s10 := same_new (o := .lst (ws ++ vs)) hp
            have hP : upd H9 p (.lst (ws ++ vs)) p = some (.lst (ws ++ vs)) := upd_same
            have hF : Fds K (upd H9 p (.lst (ws ++ vs))) (ws ++ vs) ((aheadD kept on ds i).map triD) := by
              unfold aheadD
              rw [List.map_append]
              exact (hW5.keep (Tp.same ((s57.trans s9).trans s10))).app (hV.keep (Tp.same s10))
            have sm' := (sm'.trans s9).trans s10
            have s510 := (s57.trans s9).trans s10
            have g1' := g1.keep (K := K) (Tp.same (s9.trans s10))
            have g2' := g2.keep (K := K) (Tp.same (s9.trans s10))
            generalize upd H9 p (.lst (ws ++ vs)) = H10 at hP hF sm' s510 g1' g2'
            have wl : (ws ++ vs).length = (aheadD kept on ds i).length := by rw [hF.len, List.length_map]
            refine ⟨p, rfl, ⟨_, SqL.of hP⟩, for_list (K := K) (xs := ws ++ vs) (fun j σ H' => (∃ y9 y10 y11 : Option V, σ = [some (V.ref h), some (V.ref kd), some (.int on), some (V.ref sm), some (.int (i : Nat)), some a1, some a2, some (.ref D), y8, y9, y10, y11, none, none, none]) ∧ Same H10 H' ∧ ((aheadD kept on ds i).take j).find? (fun o => clash1 o.2 d) = none) ?_ ?_ ?_ ?_⟩
            · exact ⟨⟨_, _, _, rfl⟩, Same.refl _, by rw [List.take_zero]; rfl⟩
            · rintro j σ H11 _ ⟨_, s11, _⟩
              exact SqL.of (s11 _ _ hP)
            · rintro j y _ H11 hy ⟨⟨y9, y10, y11, rfl⟩, s11, hf⟩
              obtain ⟨od, ho, hoD⟩ := hF.nth hy
              rw [List.getElem?_map] at ho
              obtain ⟨o, ho2, rfl⟩ := Option.map_eq_some_iff.mp ho
              have xo : isExD o.2 ∧ o.2.depth ≤ 60 := by
                rcases List.mem_append.mp (List.mem_of_getElem? ho2) with z | z
                · exact ⟨hke o (List.mem_filter.mp z).1 (List.mem_filter.mp z).2, hkdp o (List.mem_filter.mp z).1⟩
                · have m := List.mem_of_mem_take (numD_mem on _ o z)
                  exact ⟨hex _ m, hdd _ m⟩
              obtain ⟨t, c1, c2, rfl, ht, f1, f2⟩ := tri_read (hoD.keep (Tp.same s11))
              have po := dep_ex xo.1 xo.2
              have g1'' := g1'.keep (Tp.same s11)
              have g2'' := g2'.keep (Tp.same s11)
              refine ⟨t, _, rfl, ht, rfl, _, _, rfl, _, _, rfl, _, _, rfl, rfl, ?_⟩
              refine ⟨_, rfl, _, rfl, exI o.2, exI d, f1.2, g1''.2, plain_flat _ f1.1, plain_flat _ g1''.1, po.1, _, rfl, ?_⟩
              cases hq1 : PyData.eqv (exI o.2) (exI d) with
              | false => exact iteF (iteF ⟨⟨_, _, _, rfl⟩, s11, find_miss hf ho2 (by show (PyData.eqv (exI o.2) (exI d) && _) = false; rw [hq1]; rfl)⟩)
              | true =>
                refine iteT ⟨_, rfl, _, rfl, exA o.2, exA d, f2.2, g2''.2, plain_flat _ f2.1, plain_flat _ g2''.1, po.2, _, rfl, ?_⟩
                cases hq2 : PyData.eqv (exA o.2) (exA d) with
                | false =>
                  have hcl : clashAt kept on ds i = some o.1 := by
                    unfold clashAt
                    rw [hd]
                    show ((aheadD kept on ds i).find? _).map _ = _
                    rw [find_hit hf ho2 (by show (PyData.eqv (exI o.2) (exI d) && !PyData.eqv (exA o.2) (exA d)) = true; rw [hq1, hq2]; rfl)]
                    rfl
                  exact iteT ⟨_, rfl, _, rfl, (by show 3 ≤ sizeLine; decide), fun p2 hp2 => qc i o.1 hbd (fc_some hid hc hcl) (.ref p2) _ ((sm'.trans s11).trans (same_new hp2)) (fd_tup upd_same (.cons (.str _) (.cons (.int _) (.cons (.int _) .nil))) rfl)⟩
                | true => exact iteF ⟨⟨_, _, _, rfl⟩, s11, find_miss hf ho2 (by show (PyData.eqv (exI o.2) (exI d) && !PyData.eqv (exA o.2) (exA d)) = false; rw [hq1, hq2]; rfl)⟩
            · rintro σ H11 ⟨⟨y9, y10, y11, rfl⟩, s11, hf⟩
              rw [wl, List.take_length] at hf
              have hcn : clashAt kept on ds i = none := by
                unfold clashAt
                rw [hd]
                show ((aheadD kept on ds i).find? _).map _ = _
                rw [hf]
                rfl
              refine ⟨⟨_, _, _, _, _, _, _, rfl⟩, s510.trans s11, fun j hj => ?_⟩
              by_cases z : j = i
              · rw [z]; exact hcn
              · exact hc j (by omega)
        · rintro σ H7 ⟨_, s7, hc⟩
          rw [ul] at hc
          exact q hbd (fc_none hc) H7 (sm'.trans s7)
end
end Lm

set_option Elab.async false
set_option linter.all false
set_option maxRecDepth 100000
set_option maxHeartbeats 2000000
/-! try with several clauses, each with a name: except A as n: .. except B as n: .. -/
namespace L2
open PySem PySem.Spec PyProof.Rows
abbrev Suites := List (Value × (Addr → Value → Option Addr → TS))
/-- the ends of a suite whose name goes behind it -/
def Ends.gone (D : Ends) (i : Nat) : Ends := { nx := fun σ H => D.nx (σ.set i none) H, rt := D.rt, bk := fun σ H => D.bk (σ.set i none) H, ct := fun σ H => D.ct (σ.set i none) H }
def wSeveral (K : PySem.W.Frag) (i : Nat) (Wout : WX) (D : Ends) : Suites → WX
  | [] => Wout
  | (c, ts) :: r => fun cls d σ H => ∃ b, PySem.W.exmOne K cls c = some b ∧ (b = true → ∀ a, H a = none → ts a cls d (D.gone i) (σ.set i (some (.ref a))) H) ∧ (b = false → wSeveral K i Wout D r cls d σ H)
/-- the clauses and their suites, name n in slot i -/
inductive SuitesOk (X : Cx) (n : Str) : List ExceptHandler → Suites → Prop
  | nil : SuitesOk X n [] []
  | cons {x : Str} {c : Value} {ts : Addr → Value → Option Addr → TS} {b₀ : Stmt} {suite : List Stmt} {np p' : Pos} {hds : List ExceptHandler} {l : Suites} (hc : Names X x c)
      (hsu : ∀ (a : Addr) (oe : Obj) (cls : Value) (d : Option Addr) (pn : List (Addr × Obj)), Zc cls d oe → (∃ vs, oe.data = .fields vs) → PSs (X.suite a ((a, oe) :: pn)) (b₀ :: suite) (ts a cls d)) (r : SuitesOk X n hds l) :
      SuitesOk X n (.ExceptHandler (some (.Name x np)) (some n) (b₀ :: suite) p' :: hds) ((c, ts) :: l)
section
variable {X : Cx} {n : Str} {i : Nat} {body : List Stmt} {h₀ : ExceptHandler} {hds : List ExceptHandler} {l : Suites} {pos : Pos} {tb : WX → TS} {Wout : WX}
theorem ps_several (hs : X.stack = X.env :: X.outer) (hf : X.env.frame = some X.env.locals) (hN : X.N.Nodup) (hi : X.N[i]? = some n) (hln : X.env.kindOf n = some .local) (tk : Takes X Wout)
    (hb : ∀ (W : WX) (pn : List (Addr × Obj)) (xe : Value → Shared → Prop), Takes (X.tr pn xe) W → PassesOwn (model X.prog X.w) X.A X.env xe → PSs (X.tr pn xe) body (tb W)) (hh : SuitesOk X n (h₀ :: hds) l) :
    PS X (.Try body (h₀ :: hds) [] [] pos) (fun D σ H => tb (wSeveral X.K i Wout D l) D σ H) := by
  refine ⟨fun pins s σ H D I h => ?_⟩
  have ok := I.ok
  have frame := ok.frames
  rw [hs] at frame
  refine wpAny_Try_except (wpAny_mono ((hb (wSeveral X.K i Wout D l) (X.pn ++ pins) (fun e s₁ => wpAny (model X.prog X.w) X.A (noteFrame e X.env) (fun _ s₂ => wpAny (model X.prog X.w) X.A (setFlight e none) (fun _ s₃ =>
    wpAny (model X.prog X.w) X.A (handleBy e X.env (h₀ :: hds)) (SP X pins D) X.xe s₃) X.xe s₂) X.xe s₁) (fun u s' xx => ?_) PassesOwn.looking).run [] s σ H D (I.toTry _) h) (fun f s1 q => ?_) (fun _ _ he => he))
  · obtain ⟨a, B, sI, _, σ', H', cls, d, rfl, J0, nb, up, sky, na, os, ag, w⟩ := xx
    have J : Inv X pins σ' H' sI := J0.ofTry ok
    rw [hs] at sky
    show wpAny (model X.prog X.w) X.A (noteFrame (.ref a) X.env) _ _ _
    refine Sky.land Zc.steady frame hf sky fun h3 fl up3 => ?_
    obtain ⟨o3, v3, at3, z3, dt3⟩ := fl.there
    have up' := up.trans up3
    have J3 : Inv X pins σ' H' { s' with heap := h3 } := J.landed nb fl.1 up' os ag
    have apart : a ∉ frs (X.env :: X.outer) := fun hm => by
      obtain ⟨_, o, e, no⟩ := fl.2.2.1.mem hm
      cases at3.symm.trans e
      exact no _ dt3
    have a1 : a ≠ X.env.locals := fun z => apart (List.mem_filterMap.mpr ⟨X.env, List.mem_cons_self, by rw [hf, z]⟩)
    have a2 : a ∉ X.fs := fun hm => by
      obtain ⟨e, he, q⟩ := List.mem_filterMap.mp hm
      exact apart (List.mem_filterMap.mpr ⟨e, List.mem_cons_of_mem _ he, q⟩)
    have S3 := J3.suite at3 dt3 na a1 a2
    have look : PySem.W.Looks (model X.prog X.w) h3 (typeOf (.ref a)) cls := fun _ _ _ _ k q => wpAny_typeOf_ref (k _ _ at3) (by rw [z3.1]; exact q)
    have go : ∀ {hs' : List ExceptHandler} {l' : Suites}, SuitesOk X n hs' l' → wSeveral X.K i Wout D l' cls d σ' H' → wpAny (model X.prog X.w) X.A (handleBy (.ref a) X.env hs') (SP X pins D) X.xe { s' with heap := h3 } := by
      intro hs' l' hk
      induction hk with
      | nil =>
        intro w
        refine wpAny_handleBy_nil ?_
        obtain ⟨_, _, _, oe, vs, T, _, _, he, _, hd, h1, _⟩ := id fl
        unfold PySem.passOn
        refine wpAny_bind (wpAny_field he hd h1 ?_)
        rw [if_neg (show ¬ ((Value.ref T == Value.none) = true) from by simp)]
        have fin : wpAny (model X.prog X.w) X.A (setFlight (.ref a) X.env.frame) (fun _ s4 => wpAny (model X.prog X.w) X.A (throw (.ref a) : Sem PySem.Flow) (SP X pins D) X.xe s4) X.xe { s' with heap := h3 } := by
          rw [hf]
          exact HandSPX.setFlight_upZ fl fun h4 hh4 up4 => wpAny_throw (tk _ _ ⟨a, B, sI, pins, σ', H', cls, d, rfl, J, nb, up'.trans up4, .inr (.inr (by rw [hs]; exact hh4)), na, os, ag, w⟩)
        first
          | exact wpAny_bind (wpAny_pure (wpAny_bind fin))
          | exact wpAny_bind fin
      | @cons x c ts b₀ suite np p' hs2 l2 hc hsu r ih =>
        rintro ⟨b, eb, yes, no⟩
        have named : ∀ {Q : Value → Shared → Prop} {E : Value → Shared → Prop}, Q c { s' with heap := h3 } → wpAny (model X.prog X.w) (X.A.mark (some (.ref a))) (eval (.Name x np) X.env) Q E { s' with heap := h3 } := fun {Q E} q => by
          obtain ⟨g, db, m | ⟨m, v, nn⟩⟩ := hc
          · exact ld_glob (X := X.suite a ((a, o3) :: (X.pn ++ pins))) S3 g m q db
          · exact ld_blt (X := X.suite a ((a, o3) :: (X.pn ++ pins))) S3 g m v q nn db
        refine wpAny_handleBy_cons (codeAny_handlers_test (named ((PySem.W.exm_one (M := model X.prog X.w) J3.kIn look eb).here ?_))) (by intro q; cases q)
        cases b with
        | false => exact ih (no rfl)
        | true =>
          refine codeAny_handlers_suite_as (HandSPX.lands_againZ fl fun h4 fl4 up4 => ?_)
          obtain ⟨o4, v4, at4, z4, dt4⟩ := fl4.there
          have S4 := (J.landed nb fl4.1 (up'.trans up4) os ag : Inv X pins σ' H' { s' with heap := h4 }).suite at4 dt4 na a1 a2
          refine store_ok (X := X.suite a ((a, o4) :: (X.pn ++ pins))) (v := .ref a) S4 hN hi (.inl hln) rfl (fun s5 S5 => ?_) (.inr hln)
          refine wpAny_mono ((hsu a o4 cls d (X.pn ++ pins) z4 ⟨_, dt4⟩).run [] s5 _ H' _ S5 (yes rfl a na)) (fun f s6 q => ?_) (fun _ _ z => False.elim z)
          have bye : ∀ {σ6 : St} {H6 : Hp} {Q : Shared → Prop}, Inv (X.suite a ((a, o4) :: (X.pn ++ pins))) [] σ6 H6 s6 → (∀ s7, Inv X pins (σ6.set i none) H6 s7 → Q s7) →
              wpAny (model X.prog X.w) X.A (do bindName X.env n .none; unbindBehindTheSuite X.env n p') (fun _ s7 => Q s7) X.xe s6 := fun {σ6 H6 Q} S6 hq => gone_ok (S6.unsuite ok) hN hi hln hq
          cases f with
          | ret u => obtain ⟨v6, σ6, H6, S6, r6, q6⟩ := q; exact bye S6 fun s7 J7 => ⟨_, _, _, J7, r6, q6⟩
          | _ => obtain ⟨σ6, H6, S6, q6⟩ := q; exact bye S6 fun s7 J7 => ⟨_, _, J7, q6⟩
    exact go hh w
  · cases f with
    | next => obtain ⟨σ', H', J', q⟩ := q; exact wpAny_execs_nil ⟨σ', H', J'.ofTry ok, q⟩
    | ret u => obtain ⟨v, σ', H', J', r, q⟩ := q; exact ⟨v, σ', H', J'.ofTry ok, r, q⟩
    | _ => obtain ⟨σ', H', J', q⟩ := q; exact ⟨σ', H', J'.ofTry ok, q⟩
end
end L2

set_option Elab.async false
set_option linter.all false
set_option maxRecDepth 100000
set_option maxHeartbeats 2000000
set_option pp.maxSteps 20000
set_option pp.deepTerms true
namespace Lm
open PySem PySem.Spec PyProof.Rows L2 LmR RZ
section
variable {X : Cx} {K : PySem.W.Frag}
theorem ptNever {e : Expr} : PT X e (fun _ _ _ => False) := ⟨fun _ _ _ _ _ _ h => h.elim⟩
theorem psNever {st : Stmt} : PS X st (fun _ _ _ => False) := ⟨fun _ _ _ _ _ _ h => h.elim⟩
theorem pss_or {sts : List Stmt} {t u : TS} (a : PSs X sts t) (b : PSs X sts u) : PSs X sts (fun D σ H => t D σ H ∨ u D σ H) :=
  ⟨fun pins s σ H D I h => h.elim (fun x => a.run pins s σ H D I x) (fun x => b.run pins s σ H D I x)⟩
theorem pss_cls {sts : List Stmt} {cls : Value} {d : Option Addr} {oe : Obj} {T : Addr → TS} (C : Addr) (h : ∀ dd, Zc (.ref C) (some dd) oe → PSs X sts (T dd)) (hz : Zc cls d oe) : PSs X sts (fun D σ H => ∃ dd, d = some dd ∧ cls = .ref C ∧ T dd D σ H) :=
  ⟨fun pins s σ H D I ⟨dd, e1, e2, x⟩ => by subst e1 e2; exact (h dd hz).run pins s σ H D I x⟩
theorem call_isXK {a C dd : Addr} {oe : Obj} (e : X.K = K) (k : ExK K C) (hz : Zc (.ref C) (some dd) oe) (hf : ∃ vs, oe.data = .fields vs) (hp : (a, oe) ∈ X.pn) : CallR X (.builtin "isinstance") (rIsX K C a dd) := by
  subst e
  exact call_isX k hz hf hp
theorem mt_countBK (h : X.K = K) : MtR X "list.count" (rCountB K) := h ▸ mt_countB
theorem pe_countK {o e : Expr} {to : TE} {t : TA} {apos cpos : Pos} (h : X.K = K) (ho : PE X o to) (ha : PA X [e] t)
    (hbase : attributeBase o "count" X.env (eval o X.env) = eval o X.env := by rfl)
    (hfew : ((backTo cpos (starEach [e] X.env)).all (fun x => !x.1) && (backToKw cpos (keywordEach [] X.env)).all (fun x => x.1.isSome)
      && decide ([e].length + ([] : List Keyword).length + (if ([] : List Keyword).isEmpty then 0 else 1) < 30)) = true := by rfl)
    (hline : (apos.endLine == cpos.line) = true := by rfl) (hs : starEach [e] X.env = (false, eval e X.env) :: starEach [] X.env := by rfl) (hplain : (backTo cpos (starEach [] X.env)).any (·.1) = false := by rfl) :
    PE X (.Call (.Attribute o "count" apos) [e] [] cpos) (tBM K "list" (rCountB K) to t) := by
  subst h
  exact pe_bm PySem.F.plainAttrs_list PySem.F.slot_list_count PySem.F.type_list_count mt_countB ho ha hbase hfew hline hs hplain
end
section
variable {P : Program} {w : World} {K : PySem.W.Frag} {mg : Str → Option Value} {base : Heap} {c_Maker c_NotKept i_NotKept c_MakeError : Addr} {f_NotKept : FuncData}
abbrev s_l_maker_said : Stmt := topS 68
theorem sc_l_maker_said : FnScope ["_law_maker", "_law_word", "_law_thing", "_law_found", "_law_e", "_law_some"] ["_law_maker", "_law_word", "_law_thing"] (defScope s_l_maker_said) := ⟨rfl, rfl, rfl, by decide +kernel, rfl, by decide +kernel, by decide +kernel⟩
theorem ints_dp {H : Hp} (on : Int) : ∀ l : List Nat, DpAll K H (l.map fun (i : Nat) => V.int (on + (i : Int))) (l.map fun (i : Nat) => PyData.int (on + (i : Int)))
  | [] => .nil
  | _ :: l => .cons (.int _) (ints_dp on l)
theorem ints_flat (on : Int) : ∀ l : List Nat, flat.flats (l.map fun (i : Nat) => PyData.int (on + (i : Int))) = true
  | [] => rfl
  | _ :: l => by
    rw [List.map_cons]
    show (true && _) = true
    rw [Bool.true_and]
    exact ints_flat on l
/-- a deed that is asked for -/
inductive Act
  | wish (d : PyData)
  | exs (ds : List PyData)
  | back (n : Int)
def Act.word : Act → Str
  | .wish _ => "wish"
  | .exs _ => "examples"
  | .back _ => "back"
def Act.many : Act → Nat
  | .wish _ => 1
  | .exs ds => ds.length
  | .back _ => 0
def wishD (d : PyData) : PyData := .tuple [.str "wish", d]
/-- what is told, what is kept behind it, and how many came -/
noncomputable def stepD (ks : List Bool) (k : Bool) (kept : List (Int × PyData)) (on : Int) : Act → PyData × List (Int × PyData) × Int
  | .wish d => match dueW (ks ++ [k]) d with
    | none => (.tuple [.str "told", .int on], kept ++ [(on, wishD d)], on + 1)
    | some (x, n) => (.tuple [.str "no program", .str x, .int (n : Nat)], kept, on)
  | .exs ds => match firstBad (exOk ks k) ds 0, firstClash kept on ds with
    | some n, _ => (.tuple [.str "no inputs", .int (n : Nat)], kept, on)
    | none, some (n, i) => (.tuple [.str "clash", .int (n : Nat), .int i], kept, on)
    | none, none => (.tuple [.str "told", .tuple ((List.range ds.length).map fun (i : Nat) => PyData.int (on + (i : Int)))], kept ++ numD on ds, on + ds.length)
  | .back n => if kept.any (fun o => decide (o.1 = n)) then (.tuple [.str "told", .none], kept.filter (fun o => o.1 ≠ n), on) else (.tuple [.str "not kept", .int n], kept, on)
theorem st_w0 {ks : List Bool} {k : Bool} {kept : List (Int × PyData)} {on : Int} {d : PyData} (e : dueW (ks ++ [k]) d = none) : stepD ks k kept on (.wish d) = (.tuple [.str "told", .int on], kept ++ [(on, wishD d)], on + 1) := by
  show (match dueW (ks ++ [k]) d with | none => _ | some (x, n) => _) = _
  rw [e]
theorem st_w1 {ks : List Bool} {k : Bool} {kept : List (Int × PyData)} {on : Int} {d : PyData} {x : Str} {n : Nat} (e : dueW (ks ++ [k]) d = some (x, n)) : stepD ks k kept on (.wish d) = (.tuple [.str "no program", .str x, .int (n : Nat)], kept, on) := by
  show (match dueW (ks ++ [k]) d with | none => _ | some (x, n) => _) = _
  rw [e]
theorem st_e0 {ks : List Bool} {k : Bool} {kept : List (Int × PyData)} {on : Int} {ds : List PyData} (e : firstBad (exOk ks k) ds 0 = none) (e2 : firstClash kept on ds = none) : stepD ks k kept on (.exs ds) = (.tuple [.str "told", .tuple ((List.range ds.length).map fun (i : Nat) => PyData.int (on + (i : Int)))], kept ++ numD on ds, on + ds.length) := by
  simp only [stepD, e, e2]
theorem st_e1 {ks : List Bool} {k : Bool} {kept : List (Int × PyData)} {on : Int} {ds : List PyData} {n : Nat} (e : firstBad (exOk ks k) ds 0 = some n) : stepD ks k kept on (.exs ds) = (.tuple [.str "no inputs", .int (n : Nat)], kept, on) := by
  simp only [stepD, e]
theorem st_e2 {ks : List Bool} {k : Bool} {kept : List (Int × PyData)} {on : Int} {ds : List PyData} {n : Nat} {i : Int} (e : firstBad (exOk ks k) ds 0 = none) (e2 : firstClash kept on ds = some (n, i)) : stepD ks k kept on (.exs ds) = (.tuple [.str "clash", .int (n : Nat), .int i], kept, on) := by
  simp only [stepD, e, e2]
theorem st_b0 {ks : List Bool} {k : Bool} {kept : List (Int × PyData)} {on n : Int} (h : ∃ o ∈ kept, o.1 = n) : stepD ks k kept on (.back n) = (.tuple [.str "told", .none], kept.filter (fun o => o.1 ≠ n), on) := by
  show (if kept.any (fun o => decide (o.1 = n)) then _ else _) = _
  rw [if_pos (by rw [List.any_eq_true]; obtain ⟨o, a, b⟩ := h; exact ⟨o, a, decide_eq_true b⟩)]
theorem st_b1 {ks : List Bool} {k : Bool} {kept : List (Int × PyData)} {on n : Int} (h : ∀ o ∈ kept, o.1 ≠ n) : stepD ks k kept on (.back n) = (.tuple [.str "not kept", .int n], kept, on) := by
  show (if kept.any (fun o => decide (o.1 = n)) then _ else _) = _
  rw [if_neg (by rw [List.any_eq_true]; rintro ⟨o, a, b⟩; exact h o a (of_decide_eq_true b))]
def ActAt (K : PySem.W.Frag) (bad : List Str) (H : Hp) (nt : Addr) (v : V) : Act → Prop
  | .wish d => Fd K H v d ∧ (knD d).length ≤ 10000 ∧ ∀ x ∈ knD d, wordOk bad x ∧ dsz x ≤ 90000
  | .exs ds => ∃ sm us, v = .ref sm ∧ (SqL K H sm us ∨ SqT K H sm us) ∧ sm ≠ nt ∧ Fds K H us (ds.map inEx) ∧ (∀ d ∈ ds, isExD d) ∧ ∀ d ∈ ds, d.depth ≤ 60
  | .back n => v = .int n
/-- what is kept has the form of things -/
def OkK (kept : List (Int × PyData)) : Prop := (∀ o ∈ kept, isExB o.2 = true → isExD o.2) ∧ (∀ o ∈ kept, ∃ x r, o.2 = .tuple (.str x :: r)) ∧ ∀ o ∈ kept, o.2.depth ≤ 60
def spSaid (K : PySem.W.Frag) (C : Addr) (bad : List Str) : Sp := fun vs H Q _ => ∃ (m dx ths nt h : Addr) (ks : List Bool) (k : Bool) (st ms : V) (kept : List (Int × PyData)) (on : Int) (log : List PyData) (a : Act) (v : V), vs = [.ref m, .str a.word, v] ∧ Mkr K C H m dx ths nt (.ref h) st ms kept on log ∧ HdAt K H h ks k ∧ ks.length ≤ 100 ∧
  ActAt K bad H nt v a ∧ OkK kept ∧ kept.length + a.many ≤ 5000 ∧ on + a.many ≤ 9000 ∧ log.length + 2 ≤ 5000 ∧
  ∀ u H', Ex [m, ths, nt] H H' → Fd K H' u (stepD ks k kept on a).1 → Mkr K C H' m dx ths nt (.ref h) st ms (stepD ks k kept on a).2.1 (stepD ks k kept on a).2.2 (log ++ [inD a.word, outD a.word]) → Q u H'
theorem ok_l_maker_said {bad : List Str} {bs_NoProgram bs_NoInputs bs_Clash : List Bool} (B : Bt mg) (T_Maker : ClsAt K mg "Maker" c_Maker MF) (R_NoProgram : Rf K mg "NoProgram" "NoProgram.__init__" c_NoProgram i_NoProgram f_NoProgram s_NoProgram ["word", "at"]) (R_NoInputs : Rf K mg "NoInputs" "NoInputs.__init__" c_NoInputs i_NoInputs f_NoInputs s_NoInputs ["at"]) (R_Clash : Rf K mg "Clash" "Clash.__init__" c_Clash i_Clash f_Clash s_Clash ["at", "number"]) (R_NotKept : RfV K mg "NotKept" "NotKept.__init__" c_NotKept i_NotKept f_NotKept s_NotKept ["number"])
    (S_NoProgram : Sorts K mg c_NoProgram bs_NoProgram) (S_NoInputs : Sorts K mg c_NoInputs bs_NoInputs) (S_Clash : Sorts K mg c_Clash bs_Clash) (one1 : bs_NoProgram.count true = 1) (one2 : bs_NoInputs.count true = 1) (one3 : bs_Clash.count true = 1)
    (hc_MakeError : mg "MakeError" = some (.ref c_MakeError)) (D_sorts : DefAt K mg "_law_sorts" s_l_sorts ["_law_e"])
    (M_Maker_wish : CalMX P w K mg base 6 c_Maker "wish" ["self", "program"] (spWish K c_Maker c_NoProgram bad)) (M_Maker_examples : CalMX P w K mg base 6 c_Maker "examples" ["self", "some"] (spExs K c_Maker c_NoInputs c_Clash)) (M_Maker_back : CalMX P w K mg base 6 c_Maker "back" ["self", "number"] (spBack K c_Maker c_NotKept))
    (K_PP : PySem.W.kitOne K (.ref c_NoProgram) (.ref c_NoProgram) = some true) (K_PI : PySem.W.kitOne K (.ref c_NoProgram) (.ref c_NoInputs) = some false) (K_PC : PySem.W.kitOne K (.ref c_NoProgram) (.ref c_Clash) = some false)
    (K_IP : PySem.W.kitOne K (.ref c_NoInputs) (.ref c_NoProgram) = some false) (K_II : PySem.W.kitOne K (.ref c_NoInputs) (.ref c_NoInputs) = some true) (K_IC : PySem.W.kitOne K (.ref c_NoInputs) (.ref c_Clash) = some false)
    (K_CP : PySem.W.kitOne K (.ref c_Clash) (.ref c_NoProgram) = some false) (K_CI : PySem.W.kitOne K (.ref c_Clash) (.ref c_NoInputs) = some false) (K_CC : PySem.W.kitOne K (.ref c_Clash) (.ref c_Clash) = some true)
    (X_P : PySem.W.exmOne K (.ref c_NoProgram) (.ref c_MakeError) = some true) (X_I : PySem.W.exmOne K (.ref c_NoInputs) (.ref c_MakeError) = some true) (X_C : PySem.W.exmOne K (.ref c_Clash) (.ref c_MakeError) = some true)
    (X_N : PySem.W.exmOne K (.ref c_NotKept) (.ref c_MakeError) = some false) (X_K : PySem.W.exmOne K (.ref c_NotKept) (.ref c_NotKept) = some true)
    (D : DefAt K mg "_law_maker_said" s_l_maker_said ["_law_maker", "_law_word", "_law_thing"]) : Cal P w K mg base 7 "_law_maker_said" ["_law_maker", "_law_word", "_law_thing"] (spSaid K c_Maker bad) := by
  refine cal_of D sc_l_maker_said (fun vs H Q E h => ?_) (fun f cdv A outer s H vs Q E hr h => ?_)
  · obtain ⟨m, dx, ths, nt, h, ks, k, st, ms, kept, on, log, a, v, rfl, _⟩ := h
    rfl
  obtain ⟨m, dx, ths, nt, h, ks, k, st, ms, kept, on, log, act, v, rfl, hM, hH, hks, hact, ⟨hke, hkt, hkd⟩, hkl, hon, hll, q⟩ := h
  have hr' : Room 6 _ := hr
  obtain ⟨fs, fds, Fs, bs_, gs⟩ := D_sorts
  have hc_NoProgram := R_NoProgram.g
  have hc_NoInputs := R_NoInputs.g
  have hc_Clash := R_Clash.g
  have hc_NotKept := R_NotKept.g
  refine ⟨_, (pss_cons (ps_set (i := 3) sc_l_maker_said.nd rfl (.inl rfl) (pe_tup (pa_cons pe_str pa_nil)))
      (pss_cons (ps_several (Wout := fun _ _ _ _ => False) (i := 4) rfl rfl sc_l_maker_said.nd rfl rfl takes0 (fun W pn xe tk _ => (pss_cons (ps_if (pt_cmpR op_eq (pv 1) pe_str (nomark _))
        (pss_one (ps_set (i := 3) sc_l_maker_said.nd rfl (.inl rfl) (pe_tup (pa_cons pe_str (pa_cons (pe_calMX M_Maker_wish T_Maker.c tk hr' (pv 0) (pa_cons (pv 2) pa_nil)) pa_nil)))))
        pss_nil)
      (pss_cons (ps_if (pt_cmpR op_eq (pv 1) pe_str (nomark _))
        (pss_cons (ps_set (i := 5) sc_l_maker_said.nd rfl (.inl rfl) (pe_calMX M_Maker_examples T_Maker.c tk hr' (pv 0) (pa_cons (pv 2) pa_nil)))
      (pss_cons (ps_set (i := 3) sc_l_maker_said.nd rfl (.inl rfl) (pe_ifExp (pt_val (pe_callB (call_isiK (K := K) rfl) (by rfl) B.isinstance (by decide +kernel) (pa_cons (pv 5) (pa_cons (pe_bltn (v := .ty "list") (by rfl) B.list PyProof.Rows.boot_list rfl) pa_nil)))) (pe_tup (pa_cons pe_str (pa_cons (pe_callTy (call_tuple_ofK (K := K) rfl) (by rfl) B.tuple PyProof.Rows.boot_tuple (pa_cons (pv 5) pa_nil)) pa_nil))) (pe_tup (pa_cons pe_str pa_nil))))
      (pss_one (ps_expr (pe_bm0K (K := K) rfl PySem.F.plainAttrs_list PySem.F.slot_list_clear PySem.F.type_list_clear mt_clear (pv 5))))))
        pss_nil)
      (pss_one (ps_if (pt_cmpR op_eq (pv 1) pe_str (nomark _))
        (pss_one (ps_set (i := 3) sc_l_maker_said.nd rfl (.inl rfl) (pe_tup (pa_cons pe_str (pa_cons (pe_calMX M_Maker_back T_Maker.c tk hr' (pv 0) (pa_cons (pv 2) pa_nil)) pa_nil)))))
        pss_nil)))))
      (.cons (c := .ref c_MakeError) ⟨by rfl, by decide, .inl hc_MakeError⟩ (fun a oe cls d pn hz hf => (pss_or (pss_cls c_NoProgram (fun dd hz => (pss_cons (ps_if (PW.pt (pw_and (pt_val (pe_callB (call_isXK (K := K) rfl R_NoProgram.k hz hf (List.mem_cons_self ..)) (by rfl) B.isinstance (by decide +kernel) (pa_cons (pv 4) (pa_cons (pe_glob (v := .ref c_NoProgram) (by rfl) hc_NoProgram rfl) pa_nil)))) (pw_and1 (pt_cmpR op_eq (pe_countK (K := K) rfl (pe_callP (ok_l_sorts B S_NoProgram R_NoProgram.k Fs a oe _ _ hz hf) (roomH_mark4 (hr'.mono (by decide)) _) (List.mem_cons_self ..) (by rfl) gs Fs.kp bs_ (pa_cons (pv 4) pa_nil)) (pa_cons pe_bl pa_nil)) pe_int (nomark _))))) (pss_one (ps_set (i := 3) sc_l_maker_said.nd rfl (.inl rfl) (pe_tup (pa_cons pe_str (pa_cons (pe_xf R_NoProgram.f (R_NoProgram.fld _ (by simp)) hz hf (pv 4)) (pa_cons (pe_xf R_NoProgram.f (R_NoProgram.fld _ (by simp)) hz hf (pv 4)) pa_nil)))))) pss_nil) (pss_cons (ps_if (PW.pt (pw_and (pt_val (pe_callB (call_isXK (K := K) rfl R_NoProgram.k hz hf (List.mem_cons_self ..)) (by rfl) B.isinstance (by decide +kernel) (pa_cons (pv 4) (pa_cons (pe_glob (v := .ref c_NoInputs) (by rfl) hc_NoInputs rfl) pa_nil)))) (pw_and1 ptNever))) (pss_one psNever) pss_nil) (pss_one (ps_if (PW.pt (pw_and (pt_val (pe_callB (call_isXK (K := K) rfl R_NoProgram.k hz hf (List.mem_cons_self ..)) (by rfl) B.isinstance (by decide +kernel) (pa_cons (pv 4) (pa_cons (pe_glob (v := .ref c_Clash) (by rfl) hc_Clash rfl) pa_nil)))) (pw_and1 ptNever))) (pss_one psNever) pss_nil))))) hz) (pss_or (pss_cls c_NoInputs (fun dd hz => (pss_cons (ps_if (PW.pt (pw_and (pt_val (pe_callB (call_isXK (K := K) rfl R_NoInputs.k hz hf (List.mem_cons_self ..)) (by rfl) B.isinstance (by decide +kernel) (pa_cons (pv 4) (pa_cons (pe_glob (v := .ref c_NoProgram) (by rfl) hc_NoProgram rfl) pa_nil)))) (pw_and1 ptNever))) (pss_one psNever) pss_nil) (pss_cons (ps_if (PW.pt (pw_and (pt_val (pe_callB (call_isXK (K := K) rfl R_NoInputs.k hz hf (List.mem_cons_self ..)) (by rfl) B.isinstance (by decide +kernel) (pa_cons (pv 4) (pa_cons (pe_glob (v := .ref c_NoInputs) (by rfl) hc_NoInputs rfl) pa_nil)))) (pw_and1 (pt_cmpR op_eq (pe_countK (K := K) rfl (pe_callP (ok_l_sorts B S_NoInputs R_NoInputs.k Fs a oe _ _ hz hf) (roomH_mark4 (hr'.mono (by decide)) _) (List.mem_cons_self ..) (by rfl) gs Fs.kp bs_ (pa_cons (pv 4) pa_nil)) (pa_cons pe_bl pa_nil)) pe_int (nomark _))))) (pss_one (ps_set (i := 3) sc_l_maker_said.nd rfl (.inl rfl) (pe_tup (pa_cons pe_str (pa_cons (pe_xf R_NoInputs.f (R_NoInputs.fld _ (by simp)) hz hf (pv 4)) pa_nil))))) pss_nil) (pss_one (ps_if (PW.pt (pw_and (pt_val (pe_callB (call_isXK (K := K) rfl R_NoInputs.k hz hf (List.mem_cons_self ..)) (by rfl) B.isinstance (by decide +kernel) (pa_cons (pv 4) (pa_cons (pe_glob (v := .ref c_Clash) (by rfl) hc_Clash rfl) pa_nil)))) (pw_and1 ptNever))) (pss_one psNever) pss_nil))))) hz) (pss_cls c_Clash (fun dd hz => (pss_cons (ps_if (PW.pt (pw_and (pt_val (pe_callB (call_isXK (K := K) rfl R_Clash.k hz hf (List.mem_cons_self ..)) (by rfl) B.isinstance (by decide +kernel) (pa_cons (pv 4) (pa_cons (pe_glob (v := .ref c_NoProgram) (by rfl) hc_NoProgram rfl) pa_nil)))) (pw_and1 ptNever))) (pss_one psNever) pss_nil) (pss_cons (ps_if (PW.pt (pw_and (pt_val (pe_callB (call_isXK (K := K) rfl R_Clash.k hz hf (List.mem_cons_self ..)) (by rfl) B.isinstance (by decide +kernel) (pa_cons (pv 4) (pa_cons (pe_glob (v := .ref c_NoInputs) (by rfl) hc_NoInputs rfl) pa_nil)))) (pw_and1 ptNever))) (pss_one psNever) pss_nil) (pss_one (ps_if (PW.pt (pw_and (pt_val (pe_callB (call_isXK (K := K) rfl R_Clash.k hz hf (List.mem_cons_self ..)) (by rfl) B.isinstance (by decide +kernel) (pa_cons (pv 4) (pa_cons (pe_glob (v := .ref c_Clash) (by rfl) hc_Clash rfl) pa_nil)))) (pw_and1 (pt_cmpR op_eq (pe_countK (K := K) rfl (pe_callP (ok_l_sorts B S_Clash R_Clash.k Fs a oe _ _ hz hf) (roomH_mark4 (hr'.mono (by decide)) _) (List.mem_cons_self ..) (by rfl) gs Fs.kp bs_ (pa_cons (pv 4) pa_nil)) (pa_cons pe_bl pa_nil)) pe_int (nomark _))))) (pss_one (ps_set (i := 3) sc_l_maker_said.nd rfl (.inl rfl) (pe_tup (pa_cons pe_str (pa_cons (pe_xf R_Clash.f (R_Clash.fld _ (by simp)) hz hf (pv 4)) (pa_cons (pe_xf R_Clash.f (R_Clash.fld _ (by simp)) hz hf (pv 4)) pa_nil)))))) pss_nil))))) hz))))
      (.cons (c := .ref c_NotKept) ⟨by rfl, by decide, .inl hc_NotKept⟩ (fun a oe cls d pn hz hf => (pss_cls c_NotKept (fun dd hz => (pss_one (ps_set (i := 3) sc_l_maker_said.nd rfl (.inl rfl) (pe_tup (pa_cons pe_str (pa_cons (pe_xf R_NotKept.f (R_NotKept.fld _ (by simp)) hz hf (pv 4)) pa_nil)))))) hz))
      .nil)))
      (pss_one (ps_ret (pv 3))))), ?_⟩
  refine ⟨(by show 1 ≤ sizeLine; decide), fun t0 h0 => ?_⟩
  have s0 := same_new (o := .tup [.str "other"]) h0
  generalize upd H t0 (.tup [.str "other"]) = H0 at s0
  have hM0 := hM.same s0
  have hH0 := hH.keep (Tp.same s0)
  have ex0 : Ex [m, ths, nt] H H0 := Ex.of_same s0
  have exN : ∀ {H1 : Hp} {t : Addr} {o : HO}, Ex [m, ths, nt] H0 H1 → H1 t = none → Ex [m, ths, nt] H (upd H1 t o) := fun {H1 t o} e n => (ex0.trans e).trans (Ex.new n)
  cases act with
  | wish d =>
    obtain ⟨hv, hkn, hbd⟩ := hact
    refine ⟨_, rfl, rfl, _, rfl, iteT ⟨_, rfl, m, dx, _, rfl, hM0.ob, rfl, _, rfl, m, dx, ths, nt, h, ks, k, st, ms, kept, on, log, v, d, rfl, hM0, hH0, hks, hv.keep (Tp.same s0), hkn, hbd, hkl, hon, hll, fun e H1 ex hM1 => ?_, fun x n e a H1 ex hM1 hx => ?_⟩⟩
    · refine ⟨(by show 2 ≤ sizeLine; decide), fun t ht => ⟨_, rfl, rfl, _, rfl, iteF ⟨_, rfl, rfl, _, rfl, iteF ⟨_, rfl, q _ _ (exN ex ht) ?_ ?_⟩⟩⟩⟩
      · rw [st_w0 e]
        exact fd_tup upd_same (.cons (.str _) (.cons (.int _) .nil)) rfl
      · rw [st_w0 e]
        exact hM1.same (same_new ht)
    · refine ⟨true, X_P, fun _ ea hea => .inl ⟨a, rfl, rfl, _, rfl, c_NoProgram, true, rfl, K_PP, ⟨_, hx⟩, _, rfl, iteT ?_⟩, fun z => nomatch z⟩
      refine ⟨_, rfl, rfl, rfl, a, _, rfl, hx, fun H2 l sm2 hl => ⟨.inl ⟨rfl, _, SqL.of hl⟩, l, bs_NoProgram, rfl, rfl, SqL.of hl, rfl, _, rfl, ite2 (fun _ => ?_) (fun c => absurd (by rw [one1]; rfl) c)⟩⟩
      have hx2 := sm2 _ _ hx
      refine ⟨_, rfl, rfl, rfl, a, _, _, rfl, hx2, rfl, _, rfl, rfl, rfl, a, _, _, rfl, hx2, rfl, (by show 3 ≤ sizeLine; decide), fun t ht => ?_⟩
      have hx3 := same_new (o := .tup [.str "no program", .str x, .int (n : Nat)]) ht _ _ hx2
      refine ⟨_, rfl, c_NoInputs, false, rfl, K_PI, ⟨_, hx3⟩, _, rfl, iteF (iteF ⟨_, rfl, c_Clash, false, rfl, K_PC, ⟨_, hx3⟩, _, rfl, iteF (iteF ⟨_, rfl, q _ _ (exN (ex.trans (Ex.of_same sm2)) ht) ?_ ?_⟩)⟩)⟩
      · rw [st_w1 e]
        exact fd_tup upd_same (.cons (.str _) (.cons (.str _) (.cons (.int _) .nil))) rfl
      · rw [st_w1 e]
        exact hM1.same (sm2.trans (same_new ht))
  | exs ds =>
    obtain ⟨sm, us, rfl, hsm, hsn, hus, hex, hdd⟩ := hact
    have hsm0 : SqL K H0 sm us ∨ SqT K H0 sm us := hsm.elim (fun z => .inl (s0.seq z)) (fun z => .inr (Tp.same s0 _ _ z))
    refine ⟨_, rfl, rfl, _, rfl, iteF ⟨_, rfl, rfl, _, rfl, iteT ⟨_, rfl, m, dx, _, rfl, hM0.ob, rfl, _, rfl, m, dx, ths, nt, h, sm, ks, k, st, ms, kept, on, log, us, ds, rfl, hM0, hH0, hks, hsm0, hsn, Fds.keep hus (Tp.same s0), hex, hkl, hon, hll, hke, hkt, hkd, hdd, fun e e2 H1 p hp ex ep hM1 np => ?_, fun n e a H1 ex hM1 hx => ?_, fun n i e e2 a H1 ex hM1 hx => ?_⟩⟩⟩
    · generalize hL : ((List.range ds.length).map fun (i : Nat) => V.int (on + (i : Int))) = L at ep
      refine ⟨_, rfl, .ref p, _, _, _, _, rfl, .ty _, .base (.lst ep), kit_ty (a := "list") (r := true) (by decide +kernel), _, rfl, iteT ⟨_, rfl, p, L, rfl, .inl ⟨SqL.of ep, fun l hl => ⟨(by show 2 ≤ sizeLine; decide), fun t ht => ?_⟩⟩⟩⟩
      have sl := same_new (o := .tup L) hl
      have el : upd H1 l (.tup L) l = some (.tup L) := upd_same
      generalize upd H1 l (.tup L) = H2 at sl el ht
      have st' := same_new (o := .tup [.str "told", .ref l]) ht
      have et : upd H2 t (.tup [.str "told", .ref l]) t = some (.tup [.str "told", .ref l]) := upd_same
      generalize upd H2 t (.tup [.str "told", .ref l]) = H3 at st' et
      have s13 := sl.trans st'
      have ep3 := s13 _ _ ep
      refine ⟨_, rfl, .inl ⟨rfl, _, SqL.of ep3⟩, p, L, rfl, rfl, ep3, _, rfl, rfl, _, rfl, iteF ⟨_, rfl, q _ _ ?_ ?_ ?_⟩⟩
      · intro b o e nb
        have hbp : b ≠ p := ne_of_none (s0 _ _ e) hp
        rw [upd_ne hbp]
        exact s13 _ _ (((ex0.trans ex) b o e nb))
      · rw [st_e0 e e2]
        refine Fd.keep ⟨?_, .tup (.inl (.inl et)) (.cons (.str _) (.cons (.tup (.inl (.inl (st' _ _ el))) (hL ▸ ints_dp on _)) .nil))⟩ (Tp.lst ep3)
        simp only [flat, flat.flats, Bool.and_true, Bool.true_and]
        exact ints_flat on _
      · rw [st_e0 e e2]
        have hM3 := hM1.same s13
        refine hM3.off (fun b o eb hb => ?_) (Tp.lst ep3)
        have hbp : b ≠ p := by
          rcases hb with z | z | z
          · intro y
            have := hM3.ob
            rw [← z, y, ep3] at this
            cases this
          · intro y
            obtain ⟨_, c, _⟩ := hM3.th
            rw [← z, y, ep3] at c
            cases c
          · rw [z]; exact np.symm
        rw [upd_ne hbp]
        exact eb
    · refine ⟨true, X_I, fun _ ea hea => .inr (.inl ⟨a, rfl, rfl, _, rfl, c_NoProgram, false, rfl, K_IP, ⟨_, hx⟩, _, rfl, iteF (iteF ⟨_, rfl, c_NoInputs, true, rfl, K_II, ⟨_, hx⟩, _, rfl, iteT ?_⟩)⟩), fun z => nomatch z⟩
      refine ⟨_, rfl, rfl, rfl, a, _, rfl, hx, fun H2 l sm2 hl => ⟨.inl ⟨rfl, _, SqL.of hl⟩, l, bs_NoInputs, rfl, rfl, SqL.of hl, rfl, _, rfl, ite2 (fun _ => ?_) (fun c => absurd (by rw [one2]; rfl) c)⟩⟩
      have hx2 := sm2 _ _ hx
      refine ⟨_, rfl, rfl, rfl, a, _, _, rfl, hx2, rfl, (by show 2 ≤ sizeLine; decide), fun t ht => ?_⟩
      have hx3 := same_new (o := .tup [.str "no inputs", .int (n : Nat)]) ht _ _ hx2
      refine ⟨_, rfl, c_Clash, false, rfl, K_IC, ⟨_, hx3⟩, _, rfl, iteF (iteF ⟨_, rfl, q _ _ (exN (ex.trans (Ex.of_same sm2)) ht) ?_ ?_⟩)⟩
      · rw [st_e1 e]
        exact fd_tup upd_same (.cons (.str _) (.cons (.int _) .nil)) rfl
      · rw [st_e1 e]
        exact hM1.same (sm2.trans (same_new ht))
    · refine ⟨true, X_C, fun _ ea hea => .inr (.inr ⟨a, rfl, rfl, _, rfl, c_NoProgram, false, rfl, K_CP, ⟨_, hx⟩, _, rfl, iteF (iteF ⟨_, rfl, c_NoInputs, false, rfl, K_CI, ⟨_, hx⟩, _, rfl, iteF (iteF ⟨_, rfl, c_Clash, true, rfl, K_CC, ⟨_, hx⟩, _, rfl, iteT ?_⟩)⟩)⟩), fun z => nomatch z⟩
      refine ⟨_, rfl, rfl, rfl, a, _, rfl, hx, fun H2 l sm2 hl => ⟨.inl ⟨rfl, _, SqL.of hl⟩, l, bs_Clash, rfl, rfl, SqL.of hl, rfl, _, rfl, ite2 (fun _ => ?_) (fun c => absurd (by rw [one3]; rfl) c)⟩⟩
      have hx2 := sm2 _ _ hx
      refine ⟨_, rfl, rfl, rfl, a, _, _, rfl, hx2, rfl, _, rfl, rfl, rfl, a, _, _, rfl, hx2, rfl, (by show 3 ≤ sizeLine; decide), fun t ht => ?_⟩
      refine ⟨_, rfl, q _ _ (exN (ex.trans (Ex.of_same sm2)) ht) ?_ ?_⟩
      · rw [st_e2 e e2]
        exact fd_tup upd_same (.cons (.str _) (.cons (.int _) (.cons (.int _) .nil))) rfl
      · rw [st_e2 e e2]
        exact hM1.same (sm2.trans (same_new ht))
  | back n =>
    cases hact
    refine ⟨_, rfl, rfl, _, rfl, iteF ⟨_, rfl, rfl, _, rfl, iteF ⟨_, rfl, rfl, _, rfl, iteT ⟨_, rfl, m, dx, _, rfl, hM0.ob, rfl, _, rfl, m, dx, ths, nt, .ref h, st, ms, kept, on, log, n, rfl, hM0, hll, fun e H1 ex hM1 => ?_, fun e a H1 ex hM1 hx => ?_⟩⟩⟩⟩
    · refine ⟨(by show 2 ≤ sizeLine; decide), fun t ht => ⟨_, rfl, q _ _ (exN ex ht) ?_ ?_⟩⟩
      · rw [st_b0 e]
        exact fd_tup upd_same (.cons (.str _) (.cons .non .nil)) rfl
      · rw [st_b0 e]
        exact hM1.same (same_new ht)
    · refine ⟨false, X_N, (fun z => nomatch z), fun _ => ⟨true, X_K, fun _ ea hea => ⟨a, rfl, rfl, _, rfl, rfl, rfl, a, _, _, rfl, hx, rfl, (by show 2 ≤ sizeLine; decide), fun t ht => ⟨_, rfl, q _ _ (exN ex ht) ?_ ?_⟩⟩, fun z => nomatch z⟩⟩
      · rw [st_b1 e]
        exact fd_tup upd_same (.cons (.str _) (.cons (.int _) .nil)) rfl
      · rw [st_b1 e]
        exact hM1.same (same_new ht)
end
end Lm

set_option Elab.async false
set_option linter.all false
set_option maxRecDepth 100000
set_option maxHeartbeats 2000000
set_option pp.maxSteps 20000
set_option pp.deepTerms true
namespace Lm
open PySem PySem.Spec PyProof.Rows L2 LmR RZ
/-- the model of a maker -/
def mKV (h kd : Addr) (on : Int) (lg : Addr) : List (Key × V) := [(.inr "head", .ref h), (.inr "kept", .ref kd), (.inr "came", .int on), (.inr "log", .ref lg)]
structure Mdl (K : PySem.W.Frag) (H : Hp) (md kd lg h : Addr) (kept : List (Int × PyData)) (on : Int) (log : List PyData) : Prop where
  ob : H md = some (.dK (mKV h kd on lg))
  kp : ∃ kvs, H kd = some (.dK kvs) ∧ KF K H kvs kept
  lo : ∃ ls, H lg = some (.lst ls) ∧ Fds K H ls log
theorem Mdl.ne {K : PySem.W.Frag} {H : Hp} {md kd lg h : Addr} {kept : List (Int × PyData)} {on : Int} {log : List PyData} (m : Mdl K H md kd lg h kept on log) : md ≠ kd ∧ md ≠ lg ∧ kd ≠ lg := by
  obtain ⟨kvs, a, b⟩ := m.kp
  obtain ⟨ls, c, _⟩ := m.lo
  have o := m.ob
  refine ⟨fun z => ?_, fun z => ?_, fun z => ?_⟩
  · rw [z, a] at o
    cases Option.some.inj o
    cases b with
    | cons e _ => exact nomatch e.1
  · rw [z, c] at o; cases o
  · rw [z, c] at a; cases a
theorem Mdl.off {K : PySem.W.Frag} {H H' : Hp} {md kd lg h : Addr} {kept : List (Int × PyData)} {on : Int} {log : List PyData} (m : Mdl K H md kd lg h kept on log) (k : ∀ b o, H b = some o → (b = md ∨ b = kd ∨ b = lg) → H' b = some o) (t : Tp K H H') : Mdl K H' md kd lg h kept on log := by
  obtain ⟨kvs, a, b⟩ := m.kp
  obtain ⟨ls, c, d⟩ := m.lo
  exact ⟨k _ _ m.ob (.inl rfl), ⟨kvs, k _ _ a (.inr (.inl rfl)), b.keep t⟩, ⟨ls, k _ _ c (.inr (.inr rfl)), Fds.keep d t⟩⟩
theorem Mdl.same {K : PySem.W.Frag} {H H' : Hp} {md kd lg h : Addr} {kept : List (Int × PyData)} {on : Int} {log : List PyData} (m : Mdl K H md kd lg h kept on log) (s : Same H H') : Mdl K H' md kd lg h kept on log := m.off (fun b o e _ => s b o e) (Tp.same s)
theorem Mdl.tp {K : PySem.W.Frag} {H H' : Hp} {md kd lg h : Addr} {kept : List (Int × PyData)} {on : Int} {log : List PyData} (m : Mdl K H md kd lg h kept on log) {ws : List Addr} (e : Ex ws H H') (hw : ∀ b ∈ ws, b = md ∨ b = kd ∨ b = lg) : Tp K H H' := by
  obtain ⟨kvs, a, _⟩ := m.kp
  obtain ⟨ls, c, _⟩ := m.lo
  have b := m.ob
  refine e.tp fun x hx ys q => ?_
  rcases hw x hx with z | z | z <;> rw [z] at q <;> rcases q with q | ⟨o, q⟩
  · rw [b] at q; cases q
  · rw [b] at q; cases q
  · rw [a] at q; cases q
  · rw [a] at q; cases q
  · rw [c] at q; cases q
  · rw [c] at q; cases q
theorem Mdl.note {K : PySem.W.Frag} {H : Hp} {md kd lg h : Addr} {kept : List (Int × PyData)} {on : Int} {log : List PyData} {ls : List V} {s : V} {o : PyData} (m : Mdl K H md kd lg h kept on log) (hl : H lg = some (.lst ls)) (hs : Fd K H s o) : Mdl K (upd H lg (.lst (ls ++ [s]))) md kd lg h kept on (log ++ [o]) := by
  obtain ⟨kvs, a, b⟩ := m.kp
  obtain ⟨ls', c, d⟩ := m.lo
  cases hl.symm.trans c
  have n := m.ne
  have tp : Tp K H (upd H lg (.lst (ls ++ [s]))) := Tp.lst hl
  exact ⟨by rw [upd_ne n.2.1]; exact m.ob, ⟨kvs, by rw [upd_ne n.2.2]; exact a, b.keep tp⟩, ⟨_, upd_same, (Fds.keep d tp).app (Fds.cons (hs.keep tp) Fds.nil)⟩⟩
theorem Mdl.sq {K : PySem.W.Frag} {H H' : Hp} {md kd lg h a : Addr} {kept : List (Int × PyData)} {on : Int} {log : List PyData} {xs : List V} (m : Mdl K H md kd lg h kept on log) (h : SqL K H a xs) (n : a ≠ lg) (e : Ex [md, kd, lg] H H') : SqL K H' a xs := by
  have ob := m.ob
  obtain ⟨kvs, c, _⟩ := m.kp
  have no : ∀ o, H a = some o → (∀ kv, o ≠ .dK kv) → a ∉ [md, kd, lg] := fun o q hn => by
    simp only [List.mem_cons, List.not_mem_nil, or_false, not_or]
    refine ⟨fun z => ?_, fun z => ?_, n⟩
    · rw [z, ob] at q; exact hn _ (Option.some.inj q).symm
    · rw [z, c] at q; exact hn _ (Option.some.inj q).symm
  rcases h with (q | ⟨u, q⟩) | q
  · exact .inl (.inl (e _ _ q (no _ q fun _ z => nomatch z)))
  · exact .inl (.inr ⟨u, e _ _ q (no _ q fun _ z => nomatch z)⟩)
  · exact .inr q
theorem Mdl.putk {K : PySem.W.Frag} {H : Hp} {md kd lg h : Addr} {kept : List (Int × PyData)} {on n : Int} {log : List PyData} {kvs : List (Key × V)} {v : V} {d : PyData} (m : Mdl K H md kd lg h kept on log) (hk : H kd = some (.dK kvs)) (lt : ∀ o ∈ kept, o.1 < n) (f : Fd K H v d) : Mdl K (upd H kd (.dK (putK kvs (.inl n) v))) md kd lg h (kept ++ [(n, d)]) on log := by
  obtain ⟨kvs', a, b⟩ := m.kp
  obtain ⟨ls, c, e⟩ := m.lo
  cases hk.symm.trans a
  rw [putK_new _ (kf_no b lt)]
  have tp : Tp K H (upd H kd (.dK (kvs ++ [(.inl n, v)]))) := m.tp (ws := [kd]) (Ex.at (by simp)) (by simp)
  have ne := m.ne
  refine ⟨by rw [upd_ne ne.1]; exact m.ob, ⟨_, upd_same, ?_⟩, ⟨ls, by rw [upd_ne ne.2.2.symm]; exact c, Fds.keep e tp⟩⟩
  exact KF.snoc (b.keep tp) (f.keep tp)
theorem Mdl.came {K : PySem.W.Frag} {H : Hp} {md kd lg h : Addr} {kept : List (Int × PyData)} {on : Int} {log : List PyData} (m : Mdl K H md kd lg h kept on log) (n : Int) : Mdl K (upd H md (.dK (putK (mKV h kd on lg) (.inr "came") (.int n)))) md kd lg h kept n log := by
  have tp : Tp K H (upd H md (.dK (putK (mKV h kd on lg) (.inr "came") (.int n)))) := m.tp (ws := [md]) (Ex.at (by simp)) (by simp)
  obtain ⟨kvs, a, b⟩ := m.kp
  obtain ⟨ls, c, e⟩ := m.lo
  have ne := m.ne
  exact ⟨upd_same, ⟨kvs, by rw [upd_ne ne.1.symm]; exact a, b.keep tp⟩, ⟨ls, by rw [upd_ne ne.2.1.symm]; exact c, Fds.keep e tp⟩⟩
section
variable {P : Program} {w : World} {K : PySem.W.Frag} {mg : Str → Option Value} {base : Heap}
abbrev s_l_maker_due : Stmt := topS 69
theorem sc_l_maker_due : FnScope ["_law_model", "_law_word", "_law_thing", "_law_kept", "_law_came", "_law_head_here", "_law_due", "_law_k", "_law_inputs", "_law_answer"] ["_law_model", "_law_word", "_law_thing"] (defScope s_l_maker_due) := ⟨rfl, rfl, rfl, by decide +kernel, rfl, by decide +kernel, by decide +kernel⟩
def ActD (bad : List Str) (N : Nat) : Act → Prop
  | .wish d => okD bad d ∧ dsz d ≤ 10000 ∧ depD d ≤ N
  | _ => True
def spMDue (K : PySem.W.Frag) (bad : List Str) (N : Nat) : Sp := fun vs H Q _ => ∃ (md kd lg h : Addr) (ks : List Bool) (k : Bool) (kept : List (Int × PyData)) (on : Int) (log : List PyData) (a : Act) (v : V), vs = [.ref md, .str a.word, v] ∧ Mdl K H md kd lg h kept on log ∧ HdAt K H h ks k ∧ ks.length ≤ 100 ∧
  ActAt K bad H lg v a ∧ ActD bad N a ∧ OkK kept ∧ (∀ o ∈ kept, o.1 < on) ∧ 0 ≤ on ∧ kept.length + a.many ≤ 5000 ∧ on + a.many ≤ 9000 ∧ log.length + 2 ≤ 5000 ∧
  ∀ u H', Ex [md, kd, lg] H H' → Fd K H' u (stepD ks k kept on a).1 → Mdl K H' md kd lg h (stepD ks k kept on a).2.1 (stepD ks k kept on a).2.2 (log ++ [inD a.word, outD a.word]) → Q u H'
theorem ok_l_maker_due {bad : List Str} {N : Nat} (B : Bt mg) (C_l_due_kind : Cal P w K mg base (N + 3) "_law_due_kind" ["_law_kinds", "_law_program"] (spDue K bad N)) (C_l_examples_due : Cal P w K mg base (N + 3) "_law_examples_due" ["_law_head_here", "_law_kept", "_law_came", "_law_some"] (spED K)) (D : DefAt K mg "_law_maker_due" s_l_maker_due ["_law_model", "_law_word", "_law_thing"]) : Cal P w K mg base (N + 4) "_law_maker_due" ["_law_model", "_law_word", "_law_thing"] (spMDue K bad N) := by
  refine cal_of D sc_l_maker_due (fun vs H Q E h => ?_) (fun f cdv A outer s H vs Q E hr h => ?_)
  · obtain ⟨md, kd, lg, h, ks, k, kept, on, log, a, v, rfl, _⟩ := h
    rfl
  obtain ⟨md, kd, lg, h, ks, k, kept, on, log, act, v, rfl, hM, hH, hks, hact, hactD, ⟨hke, hkt, hkd⟩, hlt, hon0, hkl, hon, hll, q⟩ := h
  have hr' : Room (N + 3) _ := hr
  cases act with
  | wish d =>
    refine ⟨_, (pss_cons (ps_expr (pe_bm PySem.F.plainAttrs_list PySem.F.slot_list_append PySem.F.type_list_append mt_append (pe_dget (hu_of hr) (pv 0) pe_str (fun _ _ => rfl)) (pa_cons (pe_tup (pa_cons pe_str (pa_cons (pv 1) pa_nil))) pa_nil)))
      (pss_cons (ps_expr (pe_bm PySem.F.plainAttrs_list PySem.F.slot_list_append PySem.F.type_list_append mt_append (pe_dget (hu_of hr) (pv 0) pe_str (fun _ _ => rfl)) (pa_cons (pe_tup (pa_cons pe_str (pa_cons (pv 1) pa_nil))) pa_nil)))
      (pss_cons (ps_par3 (i := 3) (j := 4) (l := 5) rfl sc_l_maker_due.nd rfl rfl rfl (by decide) (by decide) (by decide) rfl rfl rfl (pa_cons (pe_dget (hu_of hr) (pv 0) pe_str (fun _ _ => rfl)) (pa_cons (pe_dget (hu_of hr) (pv 0) pe_str (fun _ _ => rfl)) (pa_cons (pe_dget (hu_of hr) (pv 0) pe_str (fun _ _ => rfl)) pa_nil))) rfl)
      (pss_cons (ps_if (pt_cmpR op_eq (pv 1) pe_str (nomark _))
        (pss_cons (ps_set (i := 6) sc_l_maker_due.nd rfl (.inl rfl) (pe_cal C_l_due_kind hr' (by rfl) (pa_cons (pe_op op_catA (pe_ix ix_tup (pv 5) pe_int (fun _ _ => rfl)) (pe_tup (pa_cons (pe_ix ix_tup (pv 5) pe_int (fun _ _ => rfl)) pa_nil))) (pa_cons (pv 2) pa_nil))))
      (pss_cons (ps_if (pt_cmpR (op_eqP hr.units) (pv 6) (pe_tup (pa_cons pe_str (pa_cons pe_str pa_nil))) (nomark _))
        (pss_one (ps_set (i := 6) sc_l_maker_due.nd rfl (.inl rfl) (pe_tup (pa_cons pe_str (pa_cons pe_str (pa_cons pe_int pa_nil))))))
        pss_nil)
      (pss_cons (ps_if (pt_cmpR op_ne (pe_ix ix_tup (pv 6) pe_int (fun _ _ => rfl)) pe_str (nomark _))
        (pss_one (ps_ret (pv 6)))
        pss_nil)
      (pss_cons (ps_asg (pe_tup (pa_cons (pe_tup (pa_cons pe_str (pa_cons (pv 2) pa_nil))) (pa_cons (pe_op op_add (pv 4) pe_int) pa_nil))) (pg_tup rfl (pgs_cons (pg_sub (pv 3) (pv 4) (set_dict (hu_of hr))) (pgs_cons (pg_sub (pv 0) pe_str (set_dict (hu_of hr))) pgs_nil))))
      (pss_one (ps_ret (pe_tup (pa_cons pe_str (pa_cons (pv 4) pa_nil)))))))))
        pss_nil)
      (pss_cons (ps_if (pt_cmpR op_eq (pv 1) pe_str (nomark _))
        (pss_cons (ps_set (i := 6) sc_l_maker_due.nd rfl (.inl rfl) (pe_cal C_l_examples_due hr' (by rfl) (pa_cons (pv 5) (pa_cons (pv 3) (pa_cons (pv 4) (pa_cons (pv 2) pa_nil))))))
      (pss_cons (ps_if (pt_cmpR op_notN (pv 6) pe_non (nomark _))
        (pss_one (ps_ret (pv 6)))
        pss_nil)
      (pss_cons (ps_for PassesOwn.never rfl (pi_enum (by rfl) B.enumerate (pa_cons (pv 2) pa_nil)) (pg_tup rfl (pgs_cons (pg_name (i := 7) sc_l_maker_due.nd rfl (.inl rfl)) (pgs_cons (pg_tup rfl (pgs_cons (pg_name (i := 8) sc_l_maker_due.nd rfl (.inl rfl)) (pgs_cons (pg_name (i := 9) sc_l_maker_due.nd rfl (.inl rfl)) pgs_nil))) pgs_nil)))
        (pss_one (ps_dput (hu_of hr) (pv 3) (pe_op op_add (pv 4) (pv 7)) (pe_tup (pa_cons pe_str (pa_cons (pv 8) (pa_cons (pv 9) pa_nil)))) rfl)))
      (pss_cons (ps_dput (hu_of hr) (pv 0) pe_str (pe_op op_add (pv 4) (pe_callB call_len_seq (by rfl) B.len PySem.boot_len (pa_cons (pv 2) pa_nil))) rfl)
      (pss_one (ps_ret (pe_tup (pa_cons pe_str (pa_cons (pe_tupRg rfl (by rfl) B.tuple (prg_2 (by rfl) B.range (pv 4) (pe_op op_add (pv 4) (pe_callB call_len_seq (by rfl) B.len PySem.boot_len (pa_cons (pv 2) pa_nil))))) pa_nil)))))))))
        pss_nil)
      (pss_cons (ps_if (pt_cmp (pc_dnotin (hu_of hr) (pv 2) (pv 3)))
        (pss_one (ps_ret (pe_tup (pa_cons pe_str (pa_cons (pv 2) pa_nil)))))
        pss_nil)
      (pss_cons (ps_expr (pe_dpop1 (pv 3) (pv 2) (by constructor <;> rfl)))
      (pss_one (ps_ret (pe_tup (pa_cons pe_str (pa_cons pe_non pa_nil)))))))))))), ?_⟩
    obtain ⟨ls, hls, hfl⟩ := hM.lo
    have ll : ls.length ≤ 5000 := by rw [Fds.len hfl]; omega
    refine ⟨_, rfl, md, .ref lg, rfl, .inl ⟨_, .inr "log", .inl hM.ob, rfl, rfl⟩, .inl ⟨rfl, _, SqL.of hls⟩, _, rfl, (by show 2 ≤ sizeLine; decide), fun t1 h1 => ?_⟩
    have s1 := same_new (o := .tup [.str "in", .str (Act.word (.wish d))]) h1
    have f1 : Fd K (upd H t1 (.tup [.str "in", .str (Act.word (.wish d))])) (.ref t1) (inD (Act.word (.wish d))) := fd_tup upd_same (.cons (.str _) (.cons (.str _) .nil)) rfl
    generalize upd H t1 (.tup [.str "in", .str (Act.word (.wish d))]) = H1 at s1 f1
    refine ⟨lg, ls, _, rfl, rfl, s1 _ _ hls, smallL (by omega), ?_⟩
    have M1 := (hM.same s1).note (s1 _ _ hls) f1
    have e1 : Ex [md, kd, lg] H (upd H1 lg (.lst (ls ++ [.ref t1]))) := (Ex.of_same s1).trans (Ex.at (by simp))
    have g1 : upd H1 lg (.lst (ls ++ [.ref t1])) lg = some (.lst (ls ++ [.ref t1])) := upd_same
    generalize upd H1 lg (.lst (ls ++ [.ref t1])) = H2 at M1 e1 g1
    refine ⟨_, rfl, md, .ref lg, rfl, .inl ⟨_, .inr "log", .inl M1.ob, rfl, rfl⟩, .inl ⟨rfl, _, SqL.of g1⟩, _, rfl, (by show 2 ≤ sizeLine; decide), fun t2 h2 => ?_⟩
    have s2 := same_new (o := .tup [.str "out", .str (Act.word (.wish d))]) h2
    have f2 : Fd K (upd H2 t2 (.tup [.str "out", .str (Act.word (.wish d))])) (.ref t2) (outD (Act.word (.wish d))) := fd_tup upd_same (.cons (.str _) (.cons (.str _) .nil)) rfl
    generalize upd H2 t2 (.tup [.str "out", .str (Act.word (.wish d))]) = H3 at s2 f2
    refine ⟨lg, _, _, rfl, rfl, s2 _ _ g1, smallL (by rw [List.length_append]; simp; omega), ?_⟩
    have M2 := (M1.same s2).note (s2 _ _ g1) f2
    have e2 : Ex [md, kd, lg] H (upd H3 lg (.lst (ls ++ [.ref t1] ++ [.ref t2]))) := (e1.trans (Ex.of_same s2)).trans (Ex.at (by simp))
    generalize upd H3 lg (.lst (ls ++ [.ref t1] ++ [.ref t2])) = H4 at M2 e2
    rw [show log ++ [inD (Act.word (.wish d))] ++ [outD (Act.word (.wish d))] = log ++ [inD (Act.word (.wish d)), outD (Act.word (.wish d))] by rw [List.append_assoc]; rfl] at M2
    have tp4 : Tp K H H4 := hM.tp e2 (by simp)
    obtain ⟨ka, hh, hk⟩ := hH.keep tp4
    refine ⟨_, rfl, md, .ref kd, rfl, .inl ⟨_, .inr "kept", .inl M2.ob, rfl, rfl⟩, _, rfl, md, .int on, rfl, .inl ⟨_, .inr "came", .inl M2.ob, rfl, rfl⟩, _, rfl, md, .ref h, rfl, .inl ⟨_, .inr "head", .inl M2.ob, rfl, rfl⟩, _, _, _, rfl, ?_⟩
    obtain ⟨hv, hkn, hbd⟩ := hact
    refine ⟨_, rfl, rfl, _, rfl, iteT ⟨_, rfl, h, _, 0, .ref ka, rfl, rfl, hh, rfl, _, rfl, h, _, 1, .str (kS k), rfl, rfl, hh, rfl, (by show 1 ≤ sizeLine; decide), fun t3 h3 => ?_⟩⟩
    have s3 := same_new (o := .tup [.str (kS k)]) h3
    have e3 : upd H4 t3 (.tup [.str (kS k)]) t3 = some (.tup [.str (kS k)]) := upd_same
    generalize upd H4 t3 (.tup [.str (kS k)]) = H5 at s3 e3
    refine cat_kinds (Tp.same s3 _ _ hk) (.inl (.inl e3)) hks fun ka2 H6 s6 hk2 => ?_
    have tp6 := tp4.trans (Tp.same (s3.trans s6))
    refine ⟨_, rfl, ka2, ks ++ [k], v, d, rfl, hk2, hv.keep tp6, hactD.1, hactD.2.1, hactD.2.2, fun u H7 s7 hu => ?_⟩
    have s47 := (s3.trans s6).trans s7
    refine ⟨_, rfl, (by show 2 ≤ sizeLine; decide), fun t8 h8 => ?_⟩
    have s8 := same_new (o := .tup [.str "kind", .str "num"]) h8
    have f8 : Fd K (upd H7 t8 (.tup [.str "kind", .str "num"])) (.ref t8) (.tuple [.str "kind", .str "num"]) := fd_tup upd_same (.cons (.str _) (.cons (.str _) .nil)) rfl
    generalize upd H7 t8 (.tup [.str "kind", .str "num"]) = H8 at s8 f8
    have hu8 := hu.keep (Tp.same s8)
    have M8 := M2.same (s47.trans s8)
    have e8 := e2.trans (Ex.of_same (s47.trans s8))
    cases hw : wrongD (ks ++ [k]) d with
    | some xn =>
      obtain ⟨x, n⟩ := xn
      have dw : dueW (ks ++ [k]) d = some (x, n) := by unfold dueW; rw [hw]
      rw [due_some hw] at hu8
      obtain ⟨tu, ys, rfl, htu⟩ := word_read hu8
      refine ⟨_, _, hu8.2, f8.2, plain_flat _ hu8.1, plain_flat _ f8.1, by show (0 + 1 : Nat) ≤ 64; decide, _, rfl, iteF' (by rfl) ⟨_, rfl, tu, _, 0, .str "no program", rfl, rfl, htu, at_of (j := 0) rfl rfl, rfl, _, rfl, iteT' (by decide +kernel) ⟨_, rfl, q _ _ e8 ?_ ?_⟩⟩⟩
      · rw [st_w1 dw]; exact hu8
      · rw [st_w1 dw]; exact M8
    | none =>
      rw [due_none hw] at hu8
      obtain ⟨tu, ys, rfl, htu⟩ := word_read hu8
      cases ho : own (ks ++ [k]) (pgOf d) with
      | false =>
        have dw : dueW (ks ++ [k]) d = some (("kind" : Str), 0) := by unfold dueW; rw [hw]; simp [ho]
        rw [ho] at hu8
        refine ⟨_, _, hu8.2, f8.2, plain_flat _ hu8.1, plain_flat _ f8.1, by show (0 + 1 : Nat) ≤ 64; decide, _, rfl, iteT' (by decide +kernel) ⟨(by show 3 ≤ sizeLine; decide), fun t9 h9 => ?_⟩⟩
        have s9 := same_new (o := .tup [.str "no program", .str "kind", .int 0]) h9
        have f9 : Fd K (upd H8 t9 (.tup [.str "no program", .str "kind", .int 0])) (.ref t9) (.tuple [.str "no program", .str "kind", .int 0]) := fd_tup upd_same (.cons (.str _) (.cons (.str _) (.cons (.int _) .nil))) rfl
        have g9 : SqT K (upd H8 t9 (.tup [.str "no program", .str "kind", .int 0])) t9 [.str "no program", .str "kind", .int 0] := .inl (.inl upd_same)
        generalize upd H8 t9 (.tup [.str "no program", .str "kind", .int 0]) = H9 at s9 f9 g9
        refine ⟨_, rfl, t9, _, 0, .str "no program", rfl, rfl, g9, rfl, rfl, _, rfl, iteT' (by decide +kernel) ⟨_, rfl, q _ _ (e8.trans (Ex.of_same s9)) ?_ ?_⟩⟩
        · rw [st_w1 dw]; exact f9
        · rw [st_w1 dw]; exact M8.same s9
      | true =>
        have dw : dueW (ks ++ [k]) d = none := by unfold dueW; rw [hw]; simp [ho]
        rw [ho] at hu8
        have hv8 := hv.keep (tp6.trans (Tp.same (s7.trans s8)))
        refine ⟨_, _, hu8.2, f8.2, plain_flat _ hu8.1, plain_flat _ f8.1, by show (0 + 1 : Nat) ≤ 64; decide, _, rfl, iteF' (by decide +kernel) ⟨_, rfl, tu, _, 0, .str "kind", rfl, rfl, htu, at_of (j := 0) rfl rfl, rfl, _, rfl, iteF' (by decide +kernel) ⟨_, rfl, (by show 2 ≤ sizeLine; decide), fun t9 h9 => ⟨_, rfl, on, 1, rfl, rfl, (by show 2 ≤ sizeLine; decide), fun t10 h10 => ?_⟩⟩⟩⟩
        have s9 := same_new (o := .tup [.str "wish", v]) h9
        have f9 : Fd K (upd H8 t9 (.tup [.str "wish", v])) (.ref t9) (wishD d) := fd_tup upd_same (.cons (.str _) (.cons (hv8.keep (Tp.same s9)).2 .nil)) (by simp [flat.flats, flat, hv.1])
        generalize upd H8 t9 (.tup [.str "wish", v]) = H9 at s9 f9 h10
        have s10 := same_new (o := .tup [.ref t9, .int (on + 1)]) h10
        have g10 : SqT K (upd H9 t10 (.tup [.ref t9, .int (on + 1)])) t10 [.ref t9, .int (on + 1)] := .inl (.inl upd_same)
        generalize upd H9 t10 (.tup [.ref t9, .int (on + 1)]) = H10 at s10 g10
        have M10 := M8.same (s9.trans s10)
        have f10 := f9.keep (Tp.same s10)
        obtain ⟨kvs, hkv, hkf⟩ := M10.kp
        have M11 := M10.putk hkv hlt f10
        have M12 := M11.came (on + 1)
        refine ⟨t10, _, rfl, g10, rfl, _, _, rfl, _, rfl, _, rfl, kd, _, rfl, .inl ⟨kvs, .inl on, hkv, rfl, smallL (by rw [hkf.len]; omega), rfl⟩, _, _, rfl, _, rfl, md, _, rfl, .inl ⟨_, .inr "came", M11.ob, rfl, by show 4 < sizeLine; decide, rfl⟩, rfl, ?_⟩
        have e12 : Ex [md, kd, lg] H (upd (upd H10 kd (.dK (putK kvs (.inl on) (.ref t9)))) md (.dK (putK (mKV h kd on lg) (.inr "came") (.int (on + 1))))) := ((e8.trans (Ex.of_same (s9.trans s10))).trans (Ex.at (by simp))).trans (Ex.at (by simp))
        generalize upd (upd H10 kd (.dK (putK kvs (.inl on) (.ref t9)))) md (.dK (putK (mKV h kd on lg) (.inr "came") (.int (on + 1)))) = H12 at M12 e12
        refine ⟨_, rfl, (by show 2 ≤ sizeLine; decide), fun t13 h13 => q _ _ (e12.trans (Ex.new h13)) ?_ ?_⟩
        · rw [st_w0 dw]
          exact fd_tup upd_same (.cons (.str _) (.cons (.int _) .nil)) rfl
        · rw [st_w0 dw]
          exact M12.same (same_new h13)
  | back n =>
    refine ⟨_, (pss_cons (ps_expr (pe_bm PySem.F.plainAttrs_list PySem.F.slot_list_append PySem.F.type_list_append mt_append (pe_dget (hu_of hr) (pv 0) pe_str (fun _ _ => rfl)) (pa_cons (pe_tup (pa_cons pe_str (pa_cons (pv 1) pa_nil))) pa_nil)))
      (pss_cons (ps_expr (pe_bm PySem.F.plainAttrs_list PySem.F.slot_list_append PySem.F.type_list_append mt_append (pe_dget (hu_of hr) (pv 0) pe_str (fun _ _ => rfl)) (pa_cons (pe_tup (pa_cons pe_str (pa_cons (pv 1) pa_nil))) pa_nil)))
      (pss_cons (ps_par3 (i := 3) (j := 4) (l := 5) rfl sc_l_maker_due.nd rfl rfl rfl (by decide) (by decide) (by decide) rfl rfl rfl (pa_cons (pe_dget (hu_of hr) (pv 0) pe_str (fun _ _ => rfl)) (pa_cons (pe_dget (hu_of hr) (pv 0) pe_str (fun _ _ => rfl)) (pa_cons (pe_dget (hu_of hr) (pv 0) pe_str (fun _ _ => rfl)) pa_nil))) rfl)
      (pss_cons (ps_if (pt_cmpR op_eq (pv 1) pe_str (nomark _))
        (pss_cons (ps_set (i := 6) sc_l_maker_due.nd rfl (.inl rfl) (pe_cal C_l_due_kind hr' (by rfl) (pa_cons (pe_op op_catA (pe_ix ix_tup (pv 5) pe_int (fun _ _ => rfl)) (pe_tup (pa_cons (pe_ix ix_tup (pv 5) pe_int (fun _ _ => rfl)) pa_nil))) (pa_cons (pv 2) pa_nil))))
      (pss_cons (ps_if (pt_cmpR (op_eqP hr.units) (pv 6) (pe_tup (pa_cons pe_str (pa_cons pe_str pa_nil))) (nomark _))
        (pss_one (ps_set (i := 6) sc_l_maker_due.nd rfl (.inl rfl) (pe_tup (pa_cons pe_str (pa_cons pe_str (pa_cons pe_int pa_nil))))))
        pss_nil)
      (pss_cons (ps_if (pt_cmpR op_ne (pe_ix ix_tup (pv 6) pe_int (fun _ _ => rfl)) pe_str (nomark _))
        (pss_one (ps_ret (pv 6)))
        pss_nil)
      (pss_cons (ps_asg (pe_tup (pa_cons (pe_tup (pa_cons pe_str (pa_cons (pv 2) pa_nil))) (pa_cons (pe_op op_add (pv 4) pe_int) pa_nil))) (pg_tup rfl (pgs_cons (pg_sub (pv 3) (pv 4) (set_dict (hu_of hr))) (pgs_cons (pg_sub (pv 0) pe_str (set_dict (hu_of hr))) pgs_nil))))
      (pss_one (ps_ret (pe_tup (pa_cons pe_str (pa_cons (pv 4) pa_nil)))))))))
        pss_nil)
      (pss_cons (ps_if (pt_cmpR op_eq (pv 1) pe_str (nomark _))
        (pss_cons (ps_set (i := 6) sc_l_maker_due.nd rfl (.inl rfl) (pe_cal C_l_examples_due hr' (by rfl) (pa_cons (pv 5) (pa_cons (pv 3) (pa_cons (pv 4) (pa_cons (pv 2) pa_nil))))))
      (pss_cons (ps_if (pt_cmpR op_notN (pv 6) pe_non (nomark _))
        (pss_one (ps_ret (pv 6)))
        pss_nil)
      (pss_cons (ps_for PassesOwn.never rfl (pi_enum (by rfl) B.enumerate (pa_cons (pv 2) pa_nil)) (pg_tup rfl (pgs_cons (pg_name (i := 7) sc_l_maker_due.nd rfl (.inl rfl)) (pgs_cons (pg_tup rfl (pgs_cons (pg_name (i := 8) sc_l_maker_due.nd rfl (.inl rfl)) (pgs_cons (pg_name (i := 9) sc_l_maker_due.nd rfl (.inl rfl)) pgs_nil))) pgs_nil)))
        (pss_one (ps_dput (hu_of hr) (pv 3) (pe_op op_add (pv 4) (pv 7)) (pe_tup (pa_cons pe_str (pa_cons (pv 8) (pa_cons (pv 9) pa_nil)))) rfl)))
      (pss_cons (ps_dput (hu_of hr) (pv 0) pe_str (pe_op op_add (pv 4) (pe_callB call_len_seq (by rfl) B.len PySem.boot_len (pa_cons (pv 2) pa_nil))) rfl)
      (pss_one (ps_ret (pe_tup (pa_cons pe_str (pa_cons (pe_tupRg rfl (by rfl) B.tuple (prg_2 (by rfl) B.range (pv 4) (pe_op op_add (pv 4) (pe_callB call_len_seq (by rfl) B.len PySem.boot_len (pa_cons (pv 2) pa_nil))))) pa_nil)))))))))
        pss_nil)
      (pss_cons (ps_if (pt_cmp (pc_dnotin (hu_of hr) (pv 2) (pv 3)))
        (pss_one (ps_ret (pe_tup (pa_cons pe_str (pa_cons (pv 2) pa_nil)))))
        pss_nil)
      (pss_cons (ps_expr (pe_dpop1 (pv 3) (pv 2) (by constructor <;> rfl)))
      (pss_one (ps_ret (pe_tup (pa_cons pe_str (pa_cons pe_non pa_nil)))))))))))), ?_⟩
    obtain ⟨ls, hls, hfl⟩ := hM.lo
    have ll : ls.length ≤ 5000 := by rw [Fds.len hfl]; omega
    refine ⟨_, rfl, md, .ref lg, rfl, .inl ⟨_, .inr "log", .inl hM.ob, rfl, rfl⟩, .inl ⟨rfl, _, SqL.of hls⟩, _, rfl, (by show 2 ≤ sizeLine; decide), fun t1 h1 => ?_⟩
    have s1 := same_new (o := .tup [.str "in", .str (Act.word (.back n))]) h1
    have f1 : Fd K (upd H t1 (.tup [.str "in", .str (Act.word (.back n))])) (.ref t1) (inD (Act.word (.back n))) := fd_tup upd_same (.cons (.str _) (.cons (.str _) .nil)) rfl
    generalize upd H t1 (.tup [.str "in", .str (Act.word (.back n))]) = H1 at s1 f1
    refine ⟨lg, ls, _, rfl, rfl, s1 _ _ hls, smallL (by omega), ?_⟩
    have M1 := (hM.same s1).note (s1 _ _ hls) f1
    have e1 : Ex [md, kd, lg] H (upd H1 lg (.lst (ls ++ [.ref t1]))) := (Ex.of_same s1).trans (Ex.at (by simp))
    have g1 : upd H1 lg (.lst (ls ++ [.ref t1])) lg = some (.lst (ls ++ [.ref t1])) := upd_same
    generalize upd H1 lg (.lst (ls ++ [.ref t1])) = H2 at M1 e1 g1
    refine ⟨_, rfl, md, .ref lg, rfl, .inl ⟨_, .inr "log", .inl M1.ob, rfl, rfl⟩, .inl ⟨rfl, _, SqL.of g1⟩, _, rfl, (by show 2 ≤ sizeLine; decide), fun t2 h2 => ?_⟩
    have s2 := same_new (o := .tup [.str "out", .str (Act.word (.back n))]) h2
    have f2 : Fd K (upd H2 t2 (.tup [.str "out", .str (Act.word (.back n))])) (.ref t2) (outD (Act.word (.back n))) := fd_tup upd_same (.cons (.str _) (.cons (.str _) .nil)) rfl
    generalize upd H2 t2 (.tup [.str "out", .str (Act.word (.back n))]) = H3 at s2 f2
    refine ⟨lg, _, _, rfl, rfl, s2 _ _ g1, smallL (by rw [List.length_append]; simp; omega), ?_⟩
    have M2 := (M1.same s2).note (s2 _ _ g1) f2
    have e2 : Ex [md, kd, lg] H (upd H3 lg (.lst (ls ++ [.ref t1] ++ [.ref t2]))) := (e1.trans (Ex.of_same s2)).trans (Ex.at (by simp))
    generalize upd H3 lg (.lst (ls ++ [.ref t1] ++ [.ref t2])) = H4 at M2 e2
    rw [show log ++ [inD (Act.word (.back n))] ++ [outD (Act.word (.back n))] = log ++ [inD (Act.word (.back n)), outD (Act.word (.back n))] by rw [List.append_assoc]; rfl] at M2
    have tp4 : Tp K H H4 := hM.tp e2 (by simp)
    obtain ⟨ka, hh, hk⟩ := hH.keep tp4
    refine ⟨_, rfl, md, .ref kd, rfl, .inl ⟨_, .inr "kept", .inl M2.ob, rfl, rfl⟩, _, rfl, md, .int on, rfl, .inl ⟨_, .inr "came", .inl M2.ob, rfl, rfl⟩, _, rfl, md, .ref h, rfl, .inl ⟨_, .inr "head", .inl M2.ob, rfl, rfl⟩, _, _, _, rfl, ?_⟩
    cases hact
    obtain ⟨kvs, hkv, hkf⟩ := M2.kp
    refine ⟨_, rfl, rfl, _, rfl, iteF ⟨_, rfl, rfl, _, rfl, iteF ⟨_, rfl, _, rfl, kd, valV kvs (.inl n), rfl, .inl ⟨kvs, .inl n, .inl hkv, rfl, rfl⟩, _, rfl, ?_⟩⟩⟩
    rcases kf_has hkf n with ⟨hv, hn⟩ | ⟨hv, hn⟩
    · rw [hv]
      refine iteT ⟨_, rfl, (by show 2 ≤ sizeLine; decide), fun t5 h5 => q _ _ (e2.trans (Ex.new h5)) ?_ ?_⟩
      · rw [st_b1 hn]
        exact fd_tup upd_same (.cons (.str _) (.cons (.int _) .nil)) rfl
      · rw [st_b1 hn]
        exact M2.same (same_new h5)
    · obtain ⟨v', hv'⟩ := Option.isSome_iff_exists.mp hv
      refine iteF' (by rw [hv]; rfl) ⟨_, rfl, kd, rfl, .inl ⟨kvs, .inl hkv⟩, _, rfl, kvs, .inl n, v', hkv, rfl, hv', (by show 2 ≤ sizeLine; decide), fun t5 h5 => ?_⟩
      have tpT : Tp K H4 (upd H4 kd (.dK (dropK kvs (.inl n)))) := M2.tp (ws := [kd]) (Ex.at (by simp)) (by simp)
      have M3 : Mdl K (upd H4 kd (.dK (dropK kvs (.inl n)))) md kd lg h (kept.filter fun o => o.1 ≠ n) on (log ++ [inD (Act.word (.back n)), outD (Act.word (.back n))]) := by
        obtain ⟨ln, a, b⟩ := M2.lo
        exact ⟨by rw [upd_ne M2.ne.1]; exact M2.ob, ⟨_, upd_same, (kf_drop hkf n).keep tpT⟩, ⟨ln, by rw [upd_ne M2.ne.2.2.symm]; exact a, Fds.keep b tpT⟩⟩
      refine q _ _ ((e2.trans (Ex.at (by simp))).trans (Ex.new h5)) ?_ ?_
      · rw [st_b0 hn]
        exact fd_tup upd_same (.cons (.str _) (.cons .non .nil)) rfl
      · rw [st_b0 hn]
        exact M3.same (same_new h5)
  | exs ds =>
    obtain ⟨sm, us, rfl, hsm, hsn, hus, hex, hdd⟩ := hact
    rcases hsm with hsm | hsm
    · refine ⟨_, (pss_cons (ps_expr (pe_bm PySem.F.plainAttrs_list PySem.F.slot_list_append PySem.F.type_list_append mt_append (pe_dget (hu_of hr) (pv 0) pe_str (fun _ _ => rfl)) (pa_cons (pe_tup (pa_cons pe_str (pa_cons (pv 1) pa_nil))) pa_nil)))
      (pss_cons (ps_expr (pe_bm PySem.F.plainAttrs_list PySem.F.slot_list_append PySem.F.type_list_append mt_append (pe_dget (hu_of hr) (pv 0) pe_str (fun _ _ => rfl)) (pa_cons (pe_tup (pa_cons pe_str (pa_cons (pv 1) pa_nil))) pa_nil)))
      (pss_cons (ps_par3 (i := 3) (j := 4) (l := 5) rfl sc_l_maker_due.nd rfl rfl rfl (by decide) (by decide) (by decide) rfl rfl rfl (pa_cons (pe_dget (hu_of hr) (pv 0) pe_str (fun _ _ => rfl)) (pa_cons (pe_dget (hu_of hr) (pv 0) pe_str (fun _ _ => rfl)) (pa_cons (pe_dget (hu_of hr) (pv 0) pe_str (fun _ _ => rfl)) pa_nil))) rfl)
      (pss_cons (ps_if (pt_cmpR op_eq (pv 1) pe_str (nomark _))
        (pss_cons (ps_set (i := 6) sc_l_maker_due.nd rfl (.inl rfl) (pe_cal C_l_due_kind hr' (by rfl) (pa_cons (pe_op op_catA (pe_ix ix_tup (pv 5) pe_int (fun _ _ => rfl)) (pe_tup (pa_cons (pe_ix ix_tup (pv 5) pe_int (fun _ _ => rfl)) pa_nil))) (pa_cons (pv 2) pa_nil))))
      (pss_cons (ps_if (pt_cmpR (op_eqP hr.units) (pv 6) (pe_tup (pa_cons pe_str (pa_cons pe_str pa_nil))) (nomark _))
        (pss_one (ps_set (i := 6) sc_l_maker_due.nd rfl (.inl rfl) (pe_tup (pa_cons pe_str (pa_cons pe_str (pa_cons pe_int pa_nil))))))
        pss_nil)
      (pss_cons (ps_if (pt_cmpR op_ne (pe_ix ix_tup (pv 6) pe_int (fun _ _ => rfl)) pe_str (nomark _))
        (pss_one (ps_ret (pv 6)))
        pss_nil)
      (pss_cons (ps_asg (pe_tup (pa_cons (pe_tup (pa_cons pe_str (pa_cons (pv 2) pa_nil))) (pa_cons (pe_op op_add (pv 4) pe_int) pa_nil))) (pg_tup rfl (pgs_cons (pg_sub (pv 3) (pv 4) (set_dict (hu_of hr))) (pgs_cons (pg_sub (pv 0) pe_str (set_dict (hu_of hr))) pgs_nil))))
      (pss_one (ps_ret (pe_tup (pa_cons pe_str (pa_cons (pv 4) pa_nil)))))))))
        pss_nil)
      (pss_cons (ps_if (pt_cmpR op_eq (pv 1) pe_str (nomark _))
        (pss_cons (ps_set (i := 6) sc_l_maker_due.nd rfl (.inl rfl) (pe_cal C_l_examples_due hr' (by rfl) (pa_cons (pv 5) (pa_cons (pv 3) (pa_cons (pv 4) (pa_cons (pv 2) pa_nil))))))
      (pss_cons (ps_if (pt_cmpR op_notN (pv 6) pe_non (nomark _))
        (pss_one (ps_ret (pv 6)))
        pss_nil)
      (pss_cons (ps_for PassesOwn.never rfl (pi_enum (by rfl) B.enumerate (pa_cons (pv 2) pa_nil)) (pg_tup rfl (pgs_cons (pg_name (i := 7) sc_l_maker_due.nd rfl (.inl rfl)) (pgs_cons (pg_tup rfl (pgs_cons (pg_name (i := 8) sc_l_maker_due.nd rfl (.inl rfl)) (pgs_cons (pg_name (i := 9) sc_l_maker_due.nd rfl (.inl rfl)) pgs_nil))) pgs_nil)))
        (pss_one (ps_dput (hu_of hr) (pv 3) (pe_op op_add (pv 4) (pv 7)) (pe_tup (pa_cons pe_str (pa_cons (pv 8) (pa_cons (pv 9) pa_nil)))) rfl)))
      (pss_cons (ps_dput (hu_of hr) (pv 0) pe_str (pe_op op_add (pv 4) (pe_callB call_len_seq (by rfl) B.len PySem.boot_len (pa_cons (pv 2) pa_nil))) rfl)
      (pss_one (ps_ret (pe_tup (pa_cons pe_str (pa_cons (pe_tupRg rfl (by rfl) B.tuple (prg_2 (by rfl) B.range (pv 4) (pe_op op_add (pv 4) (pe_callB call_len_seq (by rfl) B.len PySem.boot_len (pa_cons (pv 2) pa_nil))))) pa_nil)))))))))
        pss_nil)
      (pss_cons (ps_if (pt_cmp (pc_dnotin (hu_of hr) (pv 2) (pv 3)))
        (pss_one (ps_ret (pe_tup (pa_cons pe_str (pa_cons (pv 2) pa_nil)))))
        pss_nil)
      (pss_cons (ps_expr (pe_dpop1 (pv 3) (pv 2) (by constructor <;> rfl)))
      (pss_one (ps_ret (pe_tup (pa_cons pe_str (pa_cons pe_non pa_nil)))))))))))), ?_⟩
      obtain ⟨ls, hls, hfl⟩ := hM.lo
      have ll : ls.length ≤ 5000 := by rw [Fds.len hfl]; omega
      refine ⟨_, rfl, md, .ref lg, rfl, .inl ⟨_, .inr "log", .inl hM.ob, rfl, rfl⟩, .inl ⟨rfl, _, SqL.of hls⟩, _, rfl, (by show 2 ≤ sizeLine; decide), fun t1 h1 => ?_⟩
      have s1 := same_new (o := .tup [.str "in", .str (Act.word (.exs ds))]) h1
      have f1 : Fd K (upd H t1 (.tup [.str "in", .str (Act.word (.exs ds))])) (.ref t1) (inD (Act.word (.exs ds))) := fd_tup upd_same (.cons (.str _) (.cons (.str _) .nil)) rfl
      generalize upd H t1 (.tup [.str "in", .str (Act.word (.exs ds))]) = H1 at s1 f1
      refine ⟨lg, ls, _, rfl, rfl, s1 _ _ hls, smallL (by omega), ?_⟩
      have M1 := (hM.same s1).note (s1 _ _ hls) f1
      have e1 : Ex [md, kd, lg] H (upd H1 lg (.lst (ls ++ [.ref t1]))) := (Ex.of_same s1).trans (Ex.at (by simp))
      have g1 : upd H1 lg (.lst (ls ++ [.ref t1])) lg = some (.lst (ls ++ [.ref t1])) := upd_same
      generalize upd H1 lg (.lst (ls ++ [.ref t1])) = H2 at M1 e1 g1
      refine ⟨_, rfl, md, .ref lg, rfl, .inl ⟨_, .inr "log", .inl M1.ob, rfl, rfl⟩, .inl ⟨rfl, _, SqL.of g1⟩, _, rfl, (by show 2 ≤ sizeLine; decide), fun t2 h2 => ?_⟩
      have s2 := same_new (o := .tup [.str "out", .str (Act.word (.exs ds))]) h2
      have f2 : Fd K (upd H2 t2 (.tup [.str "out", .str (Act.word (.exs ds))])) (.ref t2) (outD (Act.word (.exs ds))) := fd_tup upd_same (.cons (.str _) (.cons (.str _) .nil)) rfl
      generalize upd H2 t2 (.tup [.str "out", .str (Act.word (.exs ds))]) = H3 at s2 f2
      refine ⟨lg, _, _, rfl, rfl, s2 _ _ g1, smallL (by rw [List.length_append]; simp; omega), ?_⟩
      have M2 := (M1.same s2).note (s2 _ _ g1) f2
      have e2 : Ex [md, kd, lg] H (upd H3 lg (.lst (ls ++ [.ref t1] ++ [.ref t2]))) := (e1.trans (Ex.of_same s2)).trans (Ex.at (by simp))
      generalize upd H3 lg (.lst (ls ++ [.ref t1] ++ [.ref t2])) = H4 at M2 e2
      rw [show log ++ [inD (Act.word (.exs ds))] ++ [outD (Act.word (.exs ds))] = log ++ [inD (Act.word (.exs ds)), outD (Act.word (.exs ds))] by rw [List.append_assoc]; rfl] at M2
      have tp4 : Tp K H H4 := hM.tp e2 (by simp)
      obtain ⟨ka, hh, hk⟩ := hH.keep tp4
      refine ⟨_, rfl, md, .ref kd, rfl, .inl ⟨_, .inr "kept", .inl M2.ob, rfl, rfl⟩, _, rfl, md, .int on, rfl, .inl ⟨_, .inr "came", .inl M2.ob, rfl, rfl⟩, _, rfl, md, .ref h, rfl, .inl ⟨_, .inr "head", .inl M2.ob, rfl, rfl⟩, _, _, _, rfl, ?_⟩
      have many : (Act.exs ds).many = ds.length := rfl
      rw [many] at hkl hon
      have ul : us.length = ds.length := by rw [hus.len, List.length_map]
      have sq : ∀ {H' : Hp}, Ex [md, kd, lg] H H' → SqL K H' sm us := fun {H'} ex => hM.sq hsm hsn ex
      obtain ⟨kvs, hkv, hkf⟩ := M2.kp
      have dat : ∀ {i : Nat} {x : V} {H' : Hp}, us[i]? = some x → Tp K H H' → ∃ d t x1 x2, ds[i]? = some d ∧ isExD d ∧ x = .ref t ∧ SqT K H' t [x1, x2] ∧ Fd K H' x1 (exI d) ∧ Fd K H' x2 (exA d) := fun {i x H'} hx s' => by
        obtain ⟨d0, hd0, hDx⟩ := hus.nth hx
        rw [List.getElem?_map] at hd0
        obtain ⟨d, hd1, rfl⟩ := Option.map_eq_some_iff.mp hd0
        obtain ⟨t, x1, x2, rfl, ht, f1, f2⟩ := fd_two (hDx.keep s')
        exact ⟨d, t, x1, x2, hd1, hex d (List.mem_of_getElem? hd1), rfl, ht, f1, f2⟩
      refine ⟨_, rfl, rfl, _, rfl, iteF ⟨_, rfl, rfl, _, rfl, iteT ⟨_, rfl, _, rfl, _, rfl, _, rfl, h, kd, sm, ks, k, kvs, kept, on, us, ds, rfl, ⟨ka, hh, hk⟩, hks, hkv, hkf, .inl (sq e2), Fds.keep hus tp4, hex, hke, hkt, by omega, by omega, hkd, hdd, fun x1 x2 H5 s5 => ?_, fun n x1 u H5 s5 hu => ?_, fun n i x1 x2 u H5 s5 hu => ?_⟩⟩⟩
      · have M5 := M2.same s5
        have e5 := e2.trans (Ex.of_same s5)
        refine ⟨_, rfl, rfl, _, rfl, iteF' (by decide +kernel) ⟨_, rfl, sm, us, rfl, sq e5, for_enumL (K := K) (xs := us) (fun i σ H' => (∃ y7 y8 y9 : Option V, σ = [some (V.ref md), some (V.str (Act.word (.exs ds))), some (V.ref sm), some (V.ref kd), some (.int on), some (V.ref h), some .non, y7, y8, y9]) ∧ Ex [md, kd, lg] H H' ∧ Mdl K H' md kd lg h (kept ++ numD on (ds.take i)) on (log ++ [inD (Act.word (.exs ds)), outD (Act.word (.exs ds))])) ?_ ?_ ?_ ?_⟩⟩
        · exact ⟨⟨_, _, _, rfl⟩, e5, by rw [List.take_zero, numD, List.append_nil]; exact M5⟩
        · rintro i σ H' ⟨_, ex, _⟩
          exact sq ex
        · rintro i x _ H' T hx ⟨⟨y7, y8, y9, rfl⟩, ex, M⟩ hT
          have sT := same_new (o := .tup [.int (i : Nat), x]) hT
          have exT := ex.trans (Ex.of_same sT)
          obtain ⟨d, tx, a1, a2, hd, xd, rfl, hq, g1, g2⟩ := dat hx (hM.tp exT (by simp))
          have hi : i < ds.length := (List.getElem?_eq_some_iff.mp hd).1
          refine ⟨T, _, rfl, .inl (.inl upd_same), rfl, _, _, rfl, _, _, rfl, tx, _, rfl, hq, rfl, _, _, rfl, _, _, rfl, rfl, rfl, ?_⟩
          generalize upd H' T (.tup [.int (i : Nat), .ref tx]) = H6 at sT exT hq g1 g2
          refine ⟨_, rfl, _, rfl, (by show 3 ≤ sizeLine; decide), fun t7 h7 => ?_⟩
          have s7 := same_new (o := .tup [.str "example", a1, a2]) h7
          have f7 : Fd K (upd H6 t7 (.tup [.str "example", a1, a2])) (.ref t7) d := by
            rw [ex_of xd]
            exact ⟨by simp [exD, flat, flat.flats, g1.1, g2.1], .tup (.inl (.inl upd_same)) (.cons (.str _) (.cons (g1.keep (Tp.same s7)).2 (.cons (g2.keep (Tp.same s7)).2 .nil)))⟩
          have ex7 := exT.trans (Ex.of_same s7)
          have M7 := M.same (sT.trans s7)
          generalize upd H6 t7 (.tup [.str "example", a1, a2]) = H7 at s7 f7 ex7 M7
          obtain ⟨kv7, hk7, kf7⟩ := M7.kp
          have kl : kv7.length = kept.length + i := by
            rw [kf7.len, List.length_append, numD_len, List.length_take, Nat.min_eq_left (by omega)]
          refine ⟨_, rfl, _, rfl, _, rfl, on, (i : Nat), rfl, rfl, kd, _, rfl, .inl ⟨kv7, .inl (on + (i : Int)), hk7, rfl, smallL (by omega), rfl⟩, ⟨_, _, _, rfl⟩, ex7.trans (Ex.at (by simp)), ?_⟩
          have e1 : numD on (ds.take (i + 1)) = numD on (ds.take i) ++ [(on + (i : Int), d)] := by
            rw [List.take_add_one, hd]
            show numD on (ds.take i ++ [d]) = _
            rw [numD_snoc, List.length_take, Nat.min_eq_left (by omega)]
          rw [e1, ← List.append_assoc]
          refine M7.putk hk7 (fun o ho => ?_) f7
          rcases List.mem_append.mp ho with z | z
          · have := hlt o z
            omega
          · have := (numD_lt on _ o z).2
            rw [List.length_take, Nat.min_eq_left (by omega)] at this
            exact this
        · rintro σ H' ⟨⟨y7, y8, y9, rfl⟩, ex, M⟩
          rw [ul, List.take_length] at M
          have M6 := M.came (on + (ds.length : Nat))
          have e6 : Ex [md, kd, lg] H (upd H' md (.dK (putK (mKV h kd on lg) (.inr "came") (.int (on + (ds.length : Nat)))))) := ex.trans (Ex.at (by simp))
          refine ⟨_, rfl, _, rfl, sm, us, rfl, .inl (sq ex), on, (us.length : Nat), rfl, rfl, _, rfl, md, _, rfl, .inl ⟨_, .inr "came", M.ob, rfl, (by show 4 < sizeLine; decide), rfl⟩, ?_⟩
          rw [ul]
          generalize upd H' md (.dK (putK (mKV h kd on lg) (.inr "came") (.int (on + (ds.length : Nat))))) = H6 at M6 e6
          refine ⟨_, rfl, _, rfl, _, rfl, sm, us, rfl, .inl (sq e6), on, (us.length : Nat), rfl, rfl, ?_⟩
          have erg : rgV on (on + ((us.length : Nat) : Int)) = (List.range ds.length).map fun (i : Nat) => V.int (on + (i : Int)) := by
            unfold rgV
            rw [show (on + ((us.length : Nat) : Int) - on).toNat = ds.length by omega]
          refine ⟨on, _, rfl, rfl, RgOk.of_le hon0 (by omega) (by omega) (by omega), fun p hp => ?_⟩
          rw [erg]
          refine ⟨(by show 2 ≤ sizeLine; decide), fun t ht => q _ _ ((e6.trans (Ex.new hp)).trans (Ex.new ht)) ?_ ?_⟩
          · rw [st_e0 x1 x2]
            refine ⟨?_, .tup (.inl (.inl upd_same)) (.cons (.str _) (.cons (.tup (.inl (.inl (by rw [upd_ne (fun z => by rw [← z, upd_same] at ht; cases ht), upd_same]))) (ints_dp on _)) .nil))⟩
            simp only [flat, flat.flats, Bool.and_true, Bool.true_and]
            exact ints_flat on _
          · rw [st_e0 x1 x2]
            exact M6.same ((same_new hp).trans (same_new ht))
      · refine ⟨_, rfl, rfl, _, rfl, ?_⟩
        obtain ⟨tu, ys, rfl, htu⟩ := word_read hu
        refine iteT' (by rfl) ⟨_, rfl, q _ _ (e2.trans (Ex.of_same s5)) ?_ ?_⟩
        · rw [st_e1 x1]; exact hu
        · rw [st_e1 x1]; exact M2.same s5
      · refine ⟨_, rfl, rfl, _, rfl, ?_⟩
        obtain ⟨tu, ys, rfl, htu⟩ := word_read hu
        refine iteT' (by rfl) ⟨_, rfl, q _ _ (e2.trans (Ex.of_same s5)) ?_ ?_⟩
        · rw [st_e2 x1 x2]; exact hu
        · rw [st_e2 x1 x2]; exact M2.same s5
    · refine ⟨_, (pss_cons (ps_expr (pe_bm PySem.F.plainAttrs_list PySem.F.slot_list_append PySem.F.type_list_append mt_append (pe_dget (hu_of hr) (pv 0) pe_str (fun _ _ => rfl)) (pa_cons (pe_tup (pa_cons pe_str (pa_cons (pv 1) pa_nil))) pa_nil)))
      (pss_cons (ps_expr (pe_bm PySem.F.plainAttrs_list PySem.F.slot_list_append PySem.F.type_list_append mt_append (pe_dget (hu_of hr) (pv 0) pe_str (fun _ _ => rfl)) (pa_cons (pe_tup (pa_cons pe_str (pa_cons (pv 1) pa_nil))) pa_nil)))
      (pss_cons (ps_par3 (i := 3) (j := 4) (l := 5) rfl sc_l_maker_due.nd rfl rfl rfl (by decide) (by decide) (by decide) rfl rfl rfl (pa_cons (pe_dget (hu_of hr) (pv 0) pe_str (fun _ _ => rfl)) (pa_cons (pe_dget (hu_of hr) (pv 0) pe_str (fun _ _ => rfl)) (pa_cons (pe_dget (hu_of hr) (pv 0) pe_str (fun _ _ => rfl)) pa_nil))) rfl)
      (pss_cons (ps_if (pt_cmpR op_eq (pv 1) pe_str (nomark _))
        (pss_cons (ps_set (i := 6) sc_l_maker_due.nd rfl (.inl rfl) (pe_cal C_l_due_kind hr' (by rfl) (pa_cons (pe_op op_catA (pe_ix ix_tup (pv 5) pe_int (fun _ _ => rfl)) (pe_tup (pa_cons (pe_ix ix_tup (pv 5) pe_int (fun _ _ => rfl)) pa_nil))) (pa_cons (pv 2) pa_nil))))
      (pss_cons (ps_if (pt_cmpR (op_eqP hr.units) (pv 6) (pe_tup (pa_cons pe_str (pa_cons pe_str pa_nil))) (nomark _))
        (pss_one (ps_set (i := 6) sc_l_maker_due.nd rfl (.inl rfl) (pe_tup (pa_cons pe_str (pa_cons pe_str (pa_cons pe_int pa_nil))))))
        pss_nil)
      (pss_cons (ps_if (pt_cmpR op_ne (pe_ix ix_tup (pv 6) pe_int (fun _ _ => rfl)) pe_str (nomark _))
        (pss_one (ps_ret (pv 6)))
        pss_nil)
      (pss_cons (ps_asg (pe_tup (pa_cons (pe_tup (pa_cons pe_str (pa_cons (pv 2) pa_nil))) (pa_cons (pe_op op_add (pv 4) pe_int) pa_nil))) (pg_tup rfl (pgs_cons (pg_sub (pv 3) (pv 4) (set_dict (hu_of hr))) (pgs_cons (pg_sub (pv 0) pe_str (set_dict (hu_of hr))) pgs_nil))))
      (pss_one (ps_ret (pe_tup (pa_cons pe_str (pa_cons (pv 4) pa_nil)))))))))
        pss_nil)
      (pss_cons (ps_if (pt_cmpR op_eq (pv 1) pe_str (nomark _))
        (pss_cons (ps_set (i := 6) sc_l_maker_due.nd rfl (.inl rfl) (pe_cal C_l_examples_due hr' (by rfl) (pa_cons (pv 5) (pa_cons (pv 3) (pa_cons (pv 4) (pa_cons (pv 2) pa_nil))))))
      (pss_cons (ps_if (pt_cmpR op_notN (pv 6) pe_non (nomark _))
        (pss_one (ps_ret (pv 6)))
        pss_nil)
      (pss_cons (ps_for PassesOwn.never rfl (pi_enumT (by rfl) B.enumerate (pa_cons (pv 2) pa_nil)) (pg_tup rfl (pgs_cons (pg_name (i := 7) sc_l_maker_due.nd rfl (.inl rfl)) (pgs_cons (pg_tup rfl (pgs_cons (pg_name (i := 8) sc_l_maker_due.nd rfl (.inl rfl)) (pgs_cons (pg_name (i := 9) sc_l_maker_due.nd rfl (.inl rfl)) pgs_nil))) pgs_nil)))
        (pss_one (ps_dput (hu_of hr) (pv 3) (pe_op op_add (pv 4) (pv 7)) (pe_tup (pa_cons pe_str (pa_cons (pv 8) (pa_cons (pv 9) pa_nil)))) rfl)))
      (pss_cons (ps_dput (hu_of hr) (pv 0) pe_str (pe_op op_add (pv 4) (pe_callB call_len_seq (by rfl) B.len PySem.boot_len (pa_cons (pv 2) pa_nil))) rfl)
      (pss_one (ps_ret (pe_tup (pa_cons pe_str (pa_cons (pe_tupRg rfl (by rfl) B.tuple (prg_2 (by rfl) B.range (pv 4) (pe_op op_add (pv 4) (pe_callB call_len_seq (by rfl) B.len PySem.boot_len (pa_cons (pv 2) pa_nil))))) pa_nil)))))))))
        pss_nil)
      (pss_cons (ps_if (pt_cmp (pc_dnotin (hu_of hr) (pv 2) (pv 3)))
        (pss_one (ps_ret (pe_tup (pa_cons pe_str (pa_cons (pv 2) pa_nil)))))
        pss_nil)
      (pss_cons (ps_expr (pe_dpop1 (pv 3) (pv 2) (by constructor <;> rfl)))
      (pss_one (ps_ret (pe_tup (pa_cons pe_str (pa_cons pe_non pa_nil)))))))))))), ?_⟩
      obtain ⟨ls, hls, hfl⟩ := hM.lo
      have ll : ls.length ≤ 5000 := by rw [Fds.len hfl]; omega
      refine ⟨_, rfl, md, .ref lg, rfl, .inl ⟨_, .inr "log", .inl hM.ob, rfl, rfl⟩, .inl ⟨rfl, _, SqL.of hls⟩, _, rfl, (by show 2 ≤ sizeLine; decide), fun t1 h1 => ?_⟩
      have s1 := same_new (o := .tup [.str "in", .str (Act.word (.exs ds))]) h1
      have f1 : Fd K (upd H t1 (.tup [.str "in", .str (Act.word (.exs ds))])) (.ref t1) (inD (Act.word (.exs ds))) := fd_tup upd_same (.cons (.str _) (.cons (.str _) .nil)) rfl
      generalize upd H t1 (.tup [.str "in", .str (Act.word (.exs ds))]) = H1 at s1 f1
      refine ⟨lg, ls, _, rfl, rfl, s1 _ _ hls, smallL (by omega), ?_⟩
      have M1 := (hM.same s1).note (s1 _ _ hls) f1
      have e1 : Ex [md, kd, lg] H (upd H1 lg (.lst (ls ++ [.ref t1]))) := (Ex.of_same s1).trans (Ex.at (by simp))
      have g1 : upd H1 lg (.lst (ls ++ [.ref t1])) lg = some (.lst (ls ++ [.ref t1])) := upd_same
      generalize upd H1 lg (.lst (ls ++ [.ref t1])) = H2 at M1 e1 g1
      refine ⟨_, rfl, md, .ref lg, rfl, .inl ⟨_, .inr "log", .inl M1.ob, rfl, rfl⟩, .inl ⟨rfl, _, SqL.of g1⟩, _, rfl, (by show 2 ≤ sizeLine; decide), fun t2 h2 => ?_⟩
      have s2 := same_new (o := .tup [.str "out", .str (Act.word (.exs ds))]) h2
      have f2 : Fd K (upd H2 t2 (.tup [.str "out", .str (Act.word (.exs ds))])) (.ref t2) (outD (Act.word (.exs ds))) := fd_tup upd_same (.cons (.str _) (.cons (.str _) .nil)) rfl
      generalize upd H2 t2 (.tup [.str "out", .str (Act.word (.exs ds))]) = H3 at s2 f2
      refine ⟨lg, _, _, rfl, rfl, s2 _ _ g1, smallL (by rw [List.length_append]; simp; omega), ?_⟩
      have M2 := (M1.same s2).note (s2 _ _ g1) f2
      have e2 : Ex [md, kd, lg] H (upd H3 lg (.lst (ls ++ [.ref t1] ++ [.ref t2]))) := (e1.trans (Ex.of_same s2)).trans (Ex.at (by simp))
      generalize upd H3 lg (.lst (ls ++ [.ref t1] ++ [.ref t2])) = H4 at M2 e2
      rw [show log ++ [inD (Act.word (.exs ds))] ++ [outD (Act.word (.exs ds))] = log ++ [inD (Act.word (.exs ds)), outD (Act.word (.exs ds))] by rw [List.append_assoc]; rfl] at M2
      have tp4 : Tp K H H4 := hM.tp e2 (by simp)
      obtain ⟨ka, hh, hk⟩ := hH.keep tp4
      refine ⟨_, rfl, md, .ref kd, rfl, .inl ⟨_, .inr "kept", .inl M2.ob, rfl, rfl⟩, _, rfl, md, .int on, rfl, .inl ⟨_, .inr "came", .inl M2.ob, rfl, rfl⟩, _, rfl, md, .ref h, rfl, .inl ⟨_, .inr "head", .inl M2.ob, rfl, rfl⟩, _, _, _, rfl, ?_⟩
      have many : (Act.exs ds).many = ds.length := rfl
      rw [many] at hkl hon
      have ul : us.length = ds.length := by rw [hus.len, List.length_map]
      have sq : ∀ {H' : Hp}, Ex [md, kd, lg] H H' → SqT K H' sm us := fun {H'} ex => hM.tp ex (by simp) _ _ hsm
      obtain ⟨kvs, hkv, hkf⟩ := M2.kp
      have dat : ∀ {i : Nat} {x : V} {H' : Hp}, us[i]? = some x → Tp K H H' → ∃ d t x1 x2, ds[i]? = some d ∧ isExD d ∧ x = .ref t ∧ SqT K H' t [x1, x2] ∧ Fd K H' x1 (exI d) ∧ Fd K H' x2 (exA d) := fun {i x H'} hx s' => by
        obtain ⟨d0, hd0, hDx⟩ := hus.nth hx
        rw [List.getElem?_map] at hd0
        obtain ⟨d, hd1, rfl⟩ := Option.map_eq_some_iff.mp hd0
        obtain ⟨t, x1, x2, rfl, ht, f1, f2⟩ := fd_two (hDx.keep s')
        exact ⟨d, t, x1, x2, hd1, hex d (List.mem_of_getElem? hd1), rfl, ht, f1, f2⟩
      refine ⟨_, rfl, rfl, _, rfl, iteF ⟨_, rfl, rfl, _, rfl, iteT ⟨_, rfl, _, rfl, _, rfl, _, rfl, h, kd, sm, ks, k, kvs, kept, on, us, ds, rfl, ⟨ka, hh, hk⟩, hks, hkv, hkf, .inr (sq e2), Fds.keep hus tp4, hex, hke, hkt, by omega, by omega, hkd, hdd, fun x1 x2 H5 s5 => ?_, fun n x1 u H5 s5 hu => ?_, fun n i x1 x2 u H5 s5 hu => ?_⟩⟩⟩
      · have M5 := M2.same s5
        have e5 := e2.trans (Ex.of_same s5)
        refine ⟨_, rfl, rfl, _, rfl, iteF' (by decide +kernel) ⟨_, rfl, sm, us, rfl, sq e5, for_enumT (K := K) (xs := us) (fun i σ H' => (∃ y7 y8 y9 : Option V, σ = [some (V.ref md), some (V.str (Act.word (.exs ds))), some (V.ref sm), some (V.ref kd), some (.int on), some (V.ref h), some .non, y7, y8, y9]) ∧ Ex [md, kd, lg] H H' ∧ Mdl K H' md kd lg h (kept ++ numD on (ds.take i)) on (log ++ [inD (Act.word (.exs ds)), outD (Act.word (.exs ds))])) ?_ ?_ ?_ ?_⟩⟩
        · exact ⟨⟨_, _, _, rfl⟩, e5, by rw [List.take_zero, numD, List.append_nil]; exact M5⟩
        · rintro i σ H' ⟨_, ex, _⟩
          exact sq ex
        · rintro i x _ H' T hx ⟨⟨y7, y8, y9, rfl⟩, ex, M⟩ hT
          have sT := same_new (o := .tup [.int (i : Nat), x]) hT
          have exT := ex.trans (Ex.of_same sT)
          obtain ⟨d, tx, a1, a2, hd, xd, rfl, hq, g1, g2⟩ := dat hx (hM.tp exT (by simp))
          have hi : i < ds.length := (List.getElem?_eq_some_iff.mp hd).1
          refine ⟨T, _, rfl, .inl (.inl upd_same), rfl, _, _, rfl, _, _, rfl, tx, _, rfl, hq, rfl, _, _, rfl, _, _, rfl, rfl, rfl, ?_⟩
          generalize upd H' T (.tup [.int (i : Nat), .ref tx]) = H6 at sT exT hq g1 g2
          refine ⟨_, rfl, _, rfl, (by show 3 ≤ sizeLine; decide), fun t7 h7 => ?_⟩
          have s7 := same_new (o := .tup [.str "example", a1, a2]) h7
          have f7 : Fd K (upd H6 t7 (.tup [.str "example", a1, a2])) (.ref t7) d := by
            rw [ex_of xd]
            exact ⟨by simp [exD, flat, flat.flats, g1.1, g2.1], .tup (.inl (.inl upd_same)) (.cons (.str _) (.cons (g1.keep (Tp.same s7)).2 (.cons (g2.keep (Tp.same s7)).2 .nil)))⟩
          have ex7 := exT.trans (Ex.of_same s7)
          have M7 := M.same (sT.trans s7)
          generalize upd H6 t7 (.tup [.str "example", a1, a2]) = H7 at s7 f7 ex7 M7
          obtain ⟨kv7, hk7, kf7⟩ := M7.kp
          have kl : kv7.length = kept.length + i := by
            rw [kf7.len, List.length_append, numD_len, List.length_take, Nat.min_eq_left (by omega)]
          refine ⟨_, rfl, _, rfl, _, rfl, on, (i : Nat), rfl, rfl, kd, _, rfl, .inl ⟨kv7, .inl (on + (i : Int)), hk7, rfl, smallL (by omega), rfl⟩, ⟨_, _, _, rfl⟩, ex7.trans (Ex.at (by simp)), ?_⟩
          have e1 : numD on (ds.take (i + 1)) = numD on (ds.take i) ++ [(on + (i : Int), d)] := by
            rw [List.take_add_one, hd]
            show numD on (ds.take i ++ [d]) = _
            rw [numD_snoc, List.length_take, Nat.min_eq_left (by omega)]
          rw [e1, ← List.append_assoc]
          refine M7.putk hk7 (fun o ho => ?_) f7
          rcases List.mem_append.mp ho with z | z
          · have := hlt o z
            omega
          · have := (numD_lt on _ o z).2
            rw [List.length_take, Nat.min_eq_left (by omega)] at this
            exact this
        · rintro σ H' ⟨⟨y7, y8, y9, rfl⟩, ex, M⟩
          rw [ul, List.take_length] at M
          have M6 := M.came (on + (ds.length : Nat))
          have e6 : Ex [md, kd, lg] H (upd H' md (.dK (putK (mKV h kd on lg) (.inr "came") (.int (on + (ds.length : Nat)))))) := ex.trans (Ex.at (by simp))
          refine ⟨_, rfl, _, rfl, sm, us, rfl, .inr (sq ex), on, (us.length : Nat), rfl, rfl, _, rfl, md, _, rfl, .inl ⟨_, .inr "came", M.ob, rfl, (by show 4 < sizeLine; decide), rfl⟩, ?_⟩
          rw [ul]
          generalize upd H' md (.dK (putK (mKV h kd on lg) (.inr "came") (.int (on + (ds.length : Nat))))) = H6 at M6 e6
          refine ⟨_, rfl, _, rfl, _, rfl, sm, us, rfl, .inr (sq e6), on, (us.length : Nat), rfl, rfl, ?_⟩
          have erg : rgV on (on + ((us.length : Nat) : Int)) = (List.range ds.length).map fun (i : Nat) => V.int (on + (i : Int)) := by
            unfold rgV
            rw [show (on + ((us.length : Nat) : Int) - on).toNat = ds.length by omega]
          refine ⟨on, _, rfl, rfl, RgOk.of_le hon0 (by omega) (by omega) (by omega), fun p hp => ?_⟩
          rw [erg]
          refine ⟨(by show 2 ≤ sizeLine; decide), fun t ht => q _ _ ((e6.trans (Ex.new hp)).trans (Ex.new ht)) ?_ ?_⟩
          · rw [st_e0 x1 x2]
            refine ⟨?_, .tup (.inl (.inl upd_same)) (.cons (.str _) (.cons (.tup (.inl (.inl (by rw [upd_ne (fun z => by rw [← z, upd_same] at ht; cases ht), upd_same]))) (ints_dp on _)) .nil))⟩
            simp only [flat, flat.flats, Bool.and_true, Bool.true_and]
            exact ints_flat on _
          · rw [st_e0 x1 x2]
            exact M6.same ((same_new hp).trans (same_new ht))
      · refine ⟨_, rfl, rfl, _, rfl, ?_⟩
        obtain ⟨tu, ys, rfl, htu⟩ := word_read hu
        refine iteT' (by rfl) ⟨_, rfl, q _ _ (e2.trans (Ex.of_same s5)) ?_ ?_⟩
        · rw [st_e1 x1]; exact hu
        · rw [st_e1 x1]; exact M2.same s5
      · refine ⟨_, rfl, rfl, _, rfl, ?_⟩
        obtain ⟨tu, ys, rfl, htu⟩ := word_read hu
        refine iteT' (by rfl) ⟨_, rfl, q _ _ (e2.trans (Ex.of_same s5)) ?_ ?_⟩
        · rw [st_e2 x1 x2]; exact hu
        · rw [st_e2 x1 x2]; exact M2.same s5
end
end Lm

set_option Elab.async false
set_option linter.all false
set_option maxRecDepth 100000
set_option maxHeartbeats 2000000
/-! tuple(d.items()) -/
namespace L2
open PySem PySem.Spec PyProof.Rows PyProof.V
section
variable {prog : Program} {w : World} {A : Around} {E : Value → Shared → Prop} {s : Shared}
theorem code_tupItems {r d : Addr} {es : Array DictEntry} {ep : Nat} {Q₁ : Value → Shared → Prop} (hh : A.handled = none) (hv : s.heap.IsItemsView r d) (hm : DT.Raw s.heap d es ep) (hn : es.size ≤ sizeLine)
    (h : ∀ (h' : Heap) (tk : Nat) (as : List Addr), (∀ b o, s.heap.get? b = some o → h'.get? b = some o) → s.heap.objs.size < h'.objs.size → as.length = es.size → DT.Made es s.heap.objs.size h' as →
      Q₁ (.ref h'.objs.size) { s with heap := h'.push { cls := .type "tuple", data := .seq (as.map Value.ref).toArray }, toks := tk }) :
    codeAny (model prog w) A (.call (.builtin "tuple.__new__") ⟨[.type "tuple", .ref r], []⟩) (wants Q₁ E) s := by
  refine codeAny_of_tree ?_
  show wpAny _ A.in1 (do checkBuiltinCall "tuple.__new__" ⟨[.type "tuple", .ref r], []⟩; again (.builtin "tuple.__new__" ⟨[.type "tuple", .ref r], []⟩)) _ _ s
  refine wpAny_bind (wpAny_of_eq (F.newCall_tuple_1 _) (wpAny_pure ⟨plainId_quiet F.plain_tuple_new _, codeAny_builtin F.entry_tuple_new ?_⟩))
  rw [Around.under_plainId F.plain_tuple_new _]
  have hsub := sub_tuple_self
  have hinit := init_tuple_lookup
  have hmh := madeHere_tuple
  have hTI : s.TypeIs (.ref r) "dict_items" := let ⟨o, ho, hc, _⟩ := hv; ⟨o, ho, hc⟩
  have hh1 : A.in1.handled = none := hh
  wp_walk using wpAny_typeOf hTI, DT.collectI (A := A.in1) hh1 hv hm hn
  intro h' tk as hk hlt hl hg
  show wpAny _ _ (Builtin.Tuple.tupleExact (as.map Value.ref).toArray >>= fun v => ret v) _ _ _
  unfold Builtin.Tuple.tupleExact
  refine wpAny_bind (wpAny_newObj_type ?_ (by show (as.map Value.ref).toArray.size ≤ sizeLine; simp only [List.size_toArray, List.length_map]; omega))
  exact wpAny_pure (h h' tk as hk hlt hl hg)
theorem call_tupItems {r d : Addr} {es : Array DictEntry} {ep : Nat} {Q : Value → Shared → Prop} (hh : A.handled = none) (hv : s.heap.IsItemsView r d) (hm : DT.Raw s.heap d es ep) (hn : es.size ≤ sizeLine)
    (h : ∀ (h' : Heap) (tk : Nat) (as : List Addr), (∀ b o, s.heap.get? b = some o → h'.get? b = some o) → s.heap.objs.size < h'.objs.size → as.length = es.size → DT.Made es s.heap.objs.size h' as →
      Q (.ref h'.objs.size) { s with heap := h'.push { cls := .type "tuple", data := .seq (as.map Value.ref).toArray }, toks := tk }) :
    wpAny (model prog w) A (call (.type "tuple") [.ref r]) Q E s := by
  refine callType_codes (Q₁ := fun obj s₁ => s₁.TypeIs obj "tuple" ∧ Q obj s₁) F.called_tuple (F.typeCall_tuple_1 _) F.entry_object_init
    (code_tupItems (A := A.in1) hh hv hm hn fun h' tk as hk hlt hl hg => ⟨⟨_, Heap.get?_push_size _ rfl, rfl⟩, h h' tk as hk hlt hl hg⟩) fun obj s₁ h₁ => ?_
  exact ⟨h₁.1, F.args_object_init_2 obj _, object_init_meets F.called_tuple.init.lookup F.called_tuple.made (by decide) prog w A.in1 _ s₁ ⟨h₁.1, rfl, h₁.2⟩⟩
end
theorem paired_at {α β : Type} {F : α → β → Prop} : ∀ {xs : List α} {ys : List β}, xs.length = ys.length → (∀ (j : Nat) (x : α) (y : β), xs[j]? = some x → ys[j]? = some y → F x y) → Paired F xs ys
  | [], [], _, _ => .nil
  | [], _ :: _, h, _ => by cases h
  | _ :: _, [], h, _ => by cases h
  | x :: xs, y :: ys, h, k => .cons (k 0 x y rfl rfl) (paired_at (Nat.succ.inj h) fun j x' y' a b => k (j + 1) x' y' a b)
def rItemsTu : V → Hp → VK → Prop := fun x H Q => ∃ (d : Addr) (kvs : List (Key × V)), x = .ref d ∧ H d = some (.dK kvs) ∧
  ∀ (H' : Hp) (p : Addr) (ts : List Addr), (∀ b o, H b = some o → H' b = some o) → H p = none → H' p = some (.tup (ts.map V.ref)) → Paired (fun (t : Addr) (q : Key × V) => H' t = some (.tup [kV q.1, q.2])) ts kvs → Q (.ref p) H'
def tTupItems (te : TE) : TE := fun σ H Q => te σ H fun x H1 => rItemsTu x H1 Q
section
variable {X : Cx} {e : Expr} {te : TE} {p apos cpos pos : Pos}
theorem pe_tupItems (hc : X.calm = true) (he : PE X e te) (hg : Gl X "tuple") (hm : X.mg "tuple" = none) (hbase : attributeBase e "items" X.env (eval e X.env) = eval e X.env := by rfl) (hline : (apos.endLine == cpos.line) = true := by rfl)
    (hs : starEach [.Call (.Attribute e "items" apos) [] [] cpos] X.env = (false, eval (.Call (.Attribute e "items" apos) [] [] cpos) X.env) :: starEach [] X.env := by rfl) :
    PE X (.Call (.Name "tuple" p) [.Call (.Attribute e "items" apos) [] [] cpos] [] pos) (tTupItems te) := by
  refine ⟨fun pins s σ H Q I hq => ?_⟩
  refine wpAny_Call_Name_kw (ld_blt I hg hm boot_tuple (PyProof.Rows.callWith_type1 ?_ hs rfl))
  rw [hs]
  refine Calls.spliced_cons (wpAny_Call_method (T := "dict") (id := "dict.items") hbase rfl hline F.plainAttrs_dict F.slot_dict_items F.type_dict_items (thn (he.run pins s σ H _ I hq) fun u s1 ⟨x, H1, I1, rx, d, kvs, ex, hd, q⟩ => ?_))
  subst ex
  obtain rfl : u = Value.ref d := rx
  obtain ⟨hz, hs0, vs, kv, hdo⟩ := I1.hok d _ hd
  obtain ⟨ep, od, es, g1, g2, g3, g4, g5, g6⟩ := hdo.dictAt
  have lk : kvs.length = vs.length := Paired.length kv
  have le : es.size = vs.length := by rw [← g5.length]; simp
  have I2 : Inv X pins σ H1 { s1 with heap := s1.heap.push { cls := .type "dict_items", data := .fields #[.ref d] } } := I1.kept (t' := s1.toks) fun b ob q => Heap.get?_push_of_some _ q
  refine ⟨hdo.typeIs, hdo.mapOf.noDict, ?_⟩
  show wpAny _ _ (callWith cpos (.builtin "dict.items") [.ref d] [] []) _ X.xe s1
  refine method_meetsIn F.slot_dict_items F.entry_dict_items rfl (PySem.evalArgs_none ⟨rfl, hdo.typeIs, F.args_dict_items_1 _, _, meets_dict_items (mixKind X.prog X.w) d hs0, ⟨vs, hdo⟩, ?_⟩)
  refine Calls.spliced_nil (call_tupItems (es := es) (ep := ep) (I1.ok.hd hc) ⟨_, Heap.get?_push_size _ rfl, rfl, rfl⟩ ⟨od, Heap.get?_push_of_some _ g1, g2, g3⟩ (by omega) fun h' tk as hk hlt hl hG => ?_)
  have I3 : Inv X pins σ H1 { s1 with heap := h', toks := tk } := I2.kept (t' := tk) hk
  have nd : as.Nodup := List.Pairwise.imp (fun {a b} (h : a < b) => Nat.ne_of_lt h) hG.rise
  obtain ⟨H2, I4, same, got⟩ := DX.takeT (P := fun b us => ∃ (j : Nat) (z : Key × V), as[j]? = some b ∧ kvs[j]? = some z ∧ us = [kV z.1, z.2]) I2 as H1 I3 nd fun b hb => by
    obtain ⟨j, hj⟩ := List.mem_iff_getElem?.mp hb
    obtain ⟨en, he, hg⟩ := hG.pairs j b hj
    have hjv : j < vs.length := by have := (Array.getElem?_eq_some_iff.mp he).1; omega
    obtain ⟨k1, k2⟩ := g5.get? (e := en) (i := j) (k := vs[j].1) (v := vs[j].2) (by rw [Array.getElem?_toList]; exact he) (List.getElem?_eq_getElem hjv)
    have hkj : kvs[j]? = some kvs[j] := List.getElem?_eq_getElem (by omega)
    obtain ⟨y, y1, y2, y3⟩ := LiI.paired_get kv hkj
    rw [List.getElem?_eq_getElem hjv] at y1
    cases Option.some.inj y1
    have rk : RelV (kV kvs[j].1) en.key := by
      rw [y2]
      exact relV_key (show keyIs vs[j].1 en.key = true from k1)
    refine ⟨Nat.le_of_lt (hG.above b hb), I2.hok.fresh (Nat.le_of_lt (hG.above b hb)), [kV kvs[j].1, kvs[j].2], ⟨j, _, hj, hkj, rfl⟩, fun H3 => ⟨by show 2 ≤ sizeLine; decide, [en.key, en.val], .cons rk (.cons (by rw [k2]; exact y3) .nil), ⟨_, hg, rfl, _, rfl⟩⟩⟩
  have fresh : H2 h'.objs.size = none := I4.hok.fresh (Nat.le_refl _)
  have I5 : Inv X pins σ (upd H2 h'.objs.size (.tup (as.map V.ref))) { s1 with heap := h'.push { cls := .type "tuple", data := .seq (as.map Value.ref).toArray }, toks := tk } :=
    I4.laid (t' := tk) (fun c o e => Heap.get?_push_of_some _ e) (Nat.le_refl _) (show ObjOk X.prog X.w _ _ _ (.tup (as.map V.ref)) from ⟨by rw [List.length_map]; omega, as.map Value.ref, LiI.vals_refs as, IsTup.new _ _⟩)
  have pf : H1 h'.objs.size = none := by
    cases z : H1 h'.objs.size with
    | none => rfl
    | some o => rw [same _ _ z] at fresh; cases fresh
  have up : ∀ b o, H2 b = some o → upd H2 h'.objs.size (.tup (as.map V.ref)) b = some o := fun b o e => by rw [upd_ne (ne_of_none e fresh)]; exact e
  refine ⟨.ref h'.objs.size, _, I5, rfl, q _ h'.objs.size as (fun b o e => up _ _ (same b o e)) pf upd_same (paired_at (by omega) fun j a z e1 e2 => up _ _ ?_)⟩
  obtain ⟨us, ⟨i, y, f1, f2, rfl⟩, f3⟩ := got a (List.mem_of_getElem? e1)
  have eij : i = j := (List.getElem?_inj (List.getElem?_eq_some_iff.mp f1).1 nd).mp (f1.trans e1.symm)
  subst eij
  rw [e2] at f2
  cases f2
  exact f3
end
end L2

set_option Elab.async false
set_option linter.all false
set_option maxRecDepth 100000
set_option maxHeartbeats 2000000
set_option pp.maxSteps 20000
set_option pp.deepTerms true
namespace Lm
open PySem PySem.Spec PyProof.Rows L2 LmR RZ
section
variable {P : Program} {w : World} {K : PySem.W.Frag} {mg : Str → Option Value} {base : Heap} {c_Maker : Addr}
abbrev s_l_new_model : Stmt := topS 71
theorem sc_l_new_model : FnScope ["_law_head_here"] ["_law_head_here"] (defScope s_l_new_model) := ⟨rfl, rfl, rfl, by decide +kernel, rfl, by decide +kernel, by decide +kernel⟩
def spNewM (K : PySem.W.Frag) : Sp := fun vs H Q _ => ∃ (h : Addr), vs = [.ref h] ∧ ∀ (H' : Hp) (md kd lg : Addr), Same H H' → H md = none → H kd = none → H lg = none → Mdl K H' md kd lg h [] 0 [] → Q (.ref md) H'
theorem ok_l_new_model (D : DefAt K mg "_law_new_model" s_l_new_model ["_law_head_here"]) : Cal P w K mg base 1 "_law_new_model" ["_law_head_here"] (spNewM K) := by
  refine cal_of D sc_l_new_model (fun vs H Q E h => ?_) (fun f cdv A outer s H vs Q E hr h => ?_)
  · obtain ⟨h, rfl, _⟩ := h
    rfl
  obtain ⟨h, rfl, q⟩ := h
  refine ⟨_, (pss_one (ps_ret (pe_disp (pps_cons pe_str (pv 0) (pps_cons pe_str pe_dnewK (pps_cons pe_str pe_int (pps_cons pe_str (pe_lst pa_nil) pps_nil)))) (by rfl) (by rfl) (fun z => by cases z) (by decide)))), ?_⟩
  refine fun md hmd => ⟨_, rfl, fun kd hkd => ⟨(by show 0 ≤ sizeLine; decide), fun lg hlg => ?_⟩⟩
  have n1 : md ≠ kd := fun z => by rw [← z, upd_same] at hkd; cases hkd
  have n2 : kd ≠ lg := fun z => by rw [← z, upd_same] at hlg; cases hlg
  have n3 : md ≠ lg := fun z => by rw [← z, upd_ne n1, upd_same] at hlg; cases hlg
  have f2 : H kd = none := by rw [upd_ne n1.symm] at hkd; exact hkd
  have f3 : H lg = none := by rw [upd_ne n2.symm, upd_ne n3.symm] at hlg; exact hlg
  refine ⟨by rw [upd_ne n3, upd_ne n1, upd_same], mKV h kd 0 lg, rfl, (by show 4 ≤ 15; decide), ?_⟩
  refine q _ md kd lg (fun b o e => ?_) hmd f2 f3 ⟨upd_same, ⟨[], by rw [upd_ne n1.symm, upd_ne n2, upd_same], .nil⟩, ⟨[], by rw [upd_ne n3.symm, upd_same], Fds.nil⟩⟩
  rw [upd_ne (ne_of_none e hmd), upd_ne (ne_of_none e f3), upd_ne (ne_of_none e f2), upd_ne (ne_of_none e hmd)]
  exact e
theorem depAll : ∀ {ds : List PyData} {n : Nat}, (∀ d ∈ ds, d.depth ≤ n) → PyData.depthAll ds ≤ n
  | [], _, _ => Nat.zero_le _
  | d :: ds, n, h => by
    have h1 := h d List.mem_cons_self
    have h2 := depAll fun x hx => h x (List.mem_cons_of_mem _ hx)
    simp only [PyData.depthAll]
    omega
theorem depL {ds : List PyData} (h : ∀ d ∈ ds, d.depth ≤ 2) : (PyData.list ds).depth ≤ 64 := by
  have := depAll h
  show PyData.depthAll ds + 1 ≤ 64
  omega
theorem eqKD_refl {ds : List (Int × PyData)} (h : ds.Pairwise fun a b => a.1 < b.1) (pl : ∀ d ∈ ds, d.2.plain = true) : eqKD ds ds = true := by
  unfold eqKD
  rw [List.all_eq_true]
  intro d hd
  have : atD ds d.1 = some d.2 := by
    unfold atD
    clear pl
    induction ds with
    | nil => cases hd
    | cons e es ih =>
      rw [List.pairwise_cons] at h
      rcases List.mem_cons.mp hd with z | z
      · rw [List.find?_cons, z, decide_eq_true rfl]
        rfl
      · have := h.1 d z
        rw [List.find?_cons, decide_eq_false (by omega)]
        exact ih h.2 z
  rw [this]
  exact SeqAt.eqv_refl_plain _ (pl d hd)
/-- a maker and its model stand alike, apart -/
structure Both (K : PySem.W.Frag) (C : Addr) (H : Hp) (m dx ths nt md kd lg h : Addr) (st ms : V) (kept : List (Int × PyData)) (on : Int) (log : List PyData) : Prop where
  a1 : Mkr K C H m dx ths nt (.ref h) st ms kept on log
  a2 : Mdl K H md kd lg h kept on log
  ap : kd ≠ ths ∧ lg ≠ nt ∧ md ≠ ths
abbrev s_l_stands : Stmt := topS 70
theorem sc_l_stands : FnScope ["_law_maker", "_law_model", "_law_kept", "_law_log"] ["_law_maker", "_law_model"] (defScope s_l_stands) := ⟨rfl, rfl, rfl, by decide +kernel, rfl, by decide +kernel, by decide +kernel⟩
def kSz (kept : List (Int × PyData)) : Nat := dsz (.tuple (kept.map pairD))
def spStands (K : PySem.W.Frag) (C : Addr) : Sp := fun vs H Q _ => ∃ (m dx ths nt md kd lg h : Addr) (st ms : V) (kept : List (Int × PyData)) (on : Int) (log : List PyData), vs = [.ref m, .ref md] ∧ Both K C H m dx ths nt md kd lg h st ms kept on log ∧
  kept.Pairwise (fun a b => a.1 < b.1) ∧ kSz kept ≤ 90000 ∧ (∀ o ∈ kept, o.2.depth ≤ 60) ∧ (∀ d ∈ log, d.depth ≤ 2) ∧ (log = [] ∨ ∃ (l : List PyData) (x : Str), log = l ++ [.tuple [.str "out", .str x]]) ∧ ∀ H', Same H H' → Q (.bl true) H'
theorem ok_l_stands (B : Bt mg) (Bd : mg "dict" = none) (T_Maker : ClsAt K mg "Maker" c_Maker MF) (C_l_alike : Cal P w K mg base 1 "_law_alike" ["_law_found", "_law_due"] (spAlike K)) (M_Maker_kept : CalM P w K mg base 1 c_Maker "kept" ["self"] (spKept K c_Maker)) (M_Maker_log : CalM P w K mg base 1 c_Maker "log" ["self"] (spLog K c_Maker)) (M_Maker_is_busy : CalM P w K mg base 1 c_Maker "is_busy" ["self"] (spBusy K c_Maker)) (M_Maker_len : CalM P w K mg base 1 c_Maker "__len__" ["self"] (spMLen K c_Maker))
    (D : DefAt K mg "_law_stands" s_l_stands ["_law_maker", "_law_model"]) : Cal P w K mg base 3 "_law_stands" ["_law_maker", "_law_model"] (spStands K c_Maker) := by
  refine cal_of D sc_l_stands (fun vs H Q E h => ?_) (fun f cdv A outer s H vs Q E hr h => ?_)
  · obtain ⟨m, dx, ths, nt, md, kd, lg, h, st, ms, kept, on, log, rfl, _⟩ := h
    rfl
  obtain ⟨m, dx, ths, nt, md, kd, lg, h, st, ms, kept, on, log, rfl, hB, hpw, hsz, hdp, hld, hlg, q⟩ := h
  have hr' : Room 1 _ := hr.mono (by decide)
  refine ⟨_, (pss_cons (ps_par (i := 2) (j := 3) rfl sc_l_stands.nd rfl rfl (by decide) rfl rfl (pa_cons (pe_calM0 M_Maker_kept T_Maker.c hr' (pv 0)) (pa_cons (pe_calM0 M_Maker_log T_Maker.c hr' (pv 0)) pa_nil)) rfl)
      (pss_cons (ps_if (PW.pt (pw_or (pt_not (pt_val (pe_callB call_isi (by rfl) B.isinstance (by decide +kernel) (pa_cons (pv 2) (pa_cons (pe_bltn (v := .ty "dict") (by rfl) Bd PyProof.Rows.boot_dict rfl) pa_nil))))) (pw_or (pt_not (pt_val (pe_callB call_isi (by rfl) B.isinstance (by decide +kernel) (pa_cons (pv 3) (pa_cons (pe_bltn (v := .ty "list") (by rfl) B.list PyProof.Rows.boot_list rfl) pa_nil))))) (pw_or1 (pt_cmpR op_isnot_bl (pe_calM0 M_Maker_is_busy T_Maker.c hr' (pv 0)) pe_bl (nomark _))))))
        (pss_one (ps_ret pe_bl))
        pss_nil)
      (pss_cons (ps_if (PW.pt (pw_or (pt_cmpR (op_neP hr.units) (pv 3) (pe_dget (hu_of hr) (pv 1) pe_str (fun _ _ => rfl)) (nomark _)) (pw_or1 (pt_cmpR op_ne (pe_callB (call_lenO M_Maker_len hr) (by rfl) B.len PySem.boot_len (pa_cons (pv 0) pa_nil)) (pe_callB call_lenD (by rfl) B.len PySem.boot_len (pa_cons (pe_dget (hu_of hr) (pv 1) pe_str (fun _ _ => rfl)) pa_nil)) (nomark _)))))
        (pss_one (ps_ret pe_bl))
        pss_nil)
      (pss_cons (ps_if (pt_not (pt_val (pe_cal C_l_alike hr' (by rfl) (pa_cons (pe_tupItems rfl (pv 2) (by rfl) B.tuple) (pa_cons (pe_tupItems rfl (pe_dget (hu_of hr) (pv 1) pe_str (fun _ _ => rfl)) (by rfl) B.tuple) pa_nil)))))
        (pss_one (ps_ret pe_bl))
        pss_nil)
      (pss_cons (ps_expr (pe_dclear (pv 2)))
      (pss_cons (ps_expr (pe_bm0 PySem.F.plainAttrs_list PySem.F.slot_list_clear PySem.F.type_list_clear mt_clear (pv 3)))
      (pss_one (ps_ret (pe_and (pe_cmpR (op_eqKD hr.units) (pe_calM0 M_Maker_kept T_Maker.c hr' (pv 0)) (pe_dget (hu_of hr) (pv 1) pe_str (fun _ _ => rfl)) (nomark _)) (pe_one (pe_cmpR (op_eqP hr.units) (pe_calM0 M_Maker_log T_Maker.c hr' (pv 0)) (pe_dget (hu_of hr) (pv 1) pe_str (fun _ _ => rfl)) (nomark _)))))))))))), ?_⟩
  have hM := hB.a1
  have hL := hB.a2
  refine ⟨_, rfl, m, dx, _, rfl, hM.ob, rfl, m, dx, ths, nt, .ref h, st, ms, kept, on, log, rfl, hM, fun p kvs hp hkf => ?_⟩
  have s1 := same_new (o := .dK kvs) hp
  have e1 : upd H p (.dK kvs) p = some (.dK kvs) := upd_same
  have hkf1 := hkf.keep (Tp.same s1)
  generalize upd H p (.dK kvs) = H1 at s1 e1 hkf1
  have hM1 := hM.same s1
  refine ⟨_, rfl, m, dx, _, rfl, hM1.ob, rfl, m, dx, ths, nt, .ref h, st, ms, kept, on, log, rfl, hM1, fun p2 ls hp2 hls => ⟨_, _, rfl, ?_⟩⟩
  have s2 := same_new (o := .lst ls) hp2
  have e2 : upd H1 p2 (.lst ls) p2 = some (.lst ls) := upd_same
  have hls2 := Fds.keep hls (Tp.same s2)
  generalize upd H1 p2 (.lst ls) = H2 at s2 e2 hls2
  have s12 := s1.trans s2
  have hM2 := hM.same s12
  have hL2 := hL.same s12
  have p2H := s2 _ _ e1
  have hkf2 := hkf1.keep (Tp.same s2)
  obtain ⟨kv2, hkd, hkf'⟩ := hL2.kp
  obtain ⟨ll, hlg2, hll⟩ := hL2.lo
  have plL : (PyData.list log).plain = true := plains_flat _ hls2.1
  have dpL : (PyData.list log).depth ≤ 64 := depL hld
  refine ⟨_, rfl, .ref p, _, _, _, _, rfl, .ty _, .base (.dK p2H), kit_ty (a := "dict") (r := true) (by decide +kernel), _, rfl, iteF ⟨_, rfl, .ref p2, _, _, _, _, rfl, .ty _, .base (.lst e2), kit_ty (a := "list") (r := true) (by decide +kernel), _, rfl, iteF ⟨_, rfl, m, dx, _, rfl, hM2.ob, rfl, m, dx, ths, nt, .ref h, st, ms, kept, on, log, rfl, hM2, hlg, false, false, rfl, rfl, _, rfl, iteF ?_⟩⟩⟩
  refine ⟨_, rfl, _, rfl, md, .ref lg, rfl, .inl ⟨_, .inr "log", .inl hL2.ob, rfl, rfl⟩, .list log, .list log, .lst (SqL.of e2) hls2.2, .lst (SqL.of hlg2) hll.2, plL, plL, dpL, _, rfl, iteF' (by rw [SeqAt.eqv_refl_plain _ plL]; rfl) ⟨_, rfl, m, dx, _, rfl, hM2.ob, m, dx, ths, nt, .ref h, st, ms, kept, on, log, rfl, hM2, ⟨_, rfl, by omega, by have := hM2.sm.1; omega, ?_⟩⟩⟩
  refine ⟨_, rfl, md, .ref kd, rfl, .inl ⟨_, .inr "kept", .inl hL2.ob, rfl, rfl⟩, kd, kv2, rfl, hkd, rfl, _, rfl, iteF' (by rw [hkf'.len]; simp) ?_⟩
  refine ⟨_, rfl, p, kvs, rfl, p2H, fun H4 t1 ts s4 ht1 g1 hp1 => ⟨_, rfl, md, .ref kd, rfl, .inl ⟨_, .inr "kept", .inl (s4 _ _ hL2.ob), rfl, rfl⟩, kd, kv2, rfl, s4 _ _ hkd, fun H5 t2 ts2 s5 ht2 g2 hp2' => ?_⟩⟩
  have s24 : Same H2 H4 := fun b o e => s4 b o e
  have s45 : Same H4 H5 := fun b o e => s5 b o e
  have f1 := items_fds (hkf2.keep (Tp.same s24)) hp1
  have f2 := items_fds (hkf'.keep (Tp.same (s24.trans s45))) hp2'
  refine ⟨.ref t1, .ref t2, .tuple (kept.map pairD), rfl, Fd.keep ⟨f1.1, .tup (.inl (.inl g1)) f1.2⟩ (Tp.same s45), ⟨f2.1, .tup (.inl (.inl g2)) f2.2⟩, hsz, fun H6 s6 => ⟨_, rfl, iteF ?_⟩⟩
  have s26 := (s24.trans s45).trans s6
  have p6 := s26 _ _ p2H
  have q6 := s26 _ _ e2
  have hM6 := hM2.same s26
  have hL6 := hL2.same s26
  have npp : p ≠ p2 := ne_of_none e1 hp2
  have pH : H p = none := hp
  have p2H' : H p2 = none := by cases z : H p2 with | none => rfl | some o => rw [s1 _ _ z] at hp2; cases hp2
  refine ⟨_, rfl, .inr (.inr (.inl ⟨rfl, .inl ⟨_, p6⟩⟩)), p, kvs, rfl, rfl, p6, ?_⟩
  refine ⟨_, rfl, .inl ⟨rfl, _, SqL.of (by rw [upd_ne npp.symm]; exact q6)⟩, p2, ls, rfl, rfl, by rw [upd_ne npp.symm]; exact q6, ?_⟩
  have sF : Same H (upd (upd H6 p (.dK [])) p2 (.lst [])) := fun b o e => by
    rw [upd_ne (ne_of_none e p2H'), upd_ne (ne_of_none e pH)]
    exact s26 _ _ (s12 _ _ e)
  generalize upd (upd H6 p (.dK [])) p2 (.lst []) = H7 at sF
  have hM7 := hM.same sF
  have hL7 := hL.same sF
  refine ⟨_, rfl, m, dx, _, rfl, hM7.ob, rfl, m, dx, ths, nt, .ref h, st, ms, kept, on, log, rfl, hM7, fun p8 kv8 hp8 hk8 => ?_⟩
  have s8 := same_new (o := .dK kv8) hp8
  have e8 : upd H7 p8 (.dK kv8) p8 = some (.dK kv8) := upd_same
  have hk8' := hk8.keep (Tp.same s8)
  generalize upd H7 p8 (.dK kv8) = H8 at s8 e8 hk8'
  have hM8 := hM7.same s8
  have hL8 := hL7.same s8
  obtain ⟨kv9, hkd9, hkf9⟩ := hL8.kp
  refine ⟨_, rfl, md, .ref kd, rfl, .inl ⟨_, .inr "kept", .inl hL8.ob, rfl, rfl⟩, p8, kd, kv8, kv9, kept, kept, rfl, rfl, e8, hkd9, hk8'.kd, hkf9.kd, fun d hd => ⟨hk8'.plain d hd, by have := hdp d hd; omega⟩, fun d hd => hk8'.plain d hd, ?_⟩
  rw [eqKD_refl hpw fun d hd => hk8'.plain d hd]
  refine ⟨_, rfl, iteT' (by simp) ?_⟩
  refine ⟨_, rfl, m, dx, _, rfl, hM8.ob, rfl, m, dx, ths, nt, .ref h, st, ms, kept, on, log, rfl, hM8, fun p9 ls9 hp9 hl9 => ?_⟩
  have s9 := same_new (o := .lst ls9) hp9
  have e9 : upd H8 p9 (.lst ls9) p9 = some (.lst ls9) := upd_same
  have hl9' := Fds.keep hl9 (Tp.same s9)
  generalize upd H8 p9 (.lst ls9) = H9 at s9 e9 hl9'
  have hL9 := hL8.same s9
  obtain ⟨la, hla, hlb⟩ := hL9.lo
  refine ⟨_, rfl, md, .ref lg, rfl, .inl ⟨_, .inr "log", .inl hL9.ob, rfl, rfl⟩, .list log, .list log, .lst (SqL.of e9) hl9'.2, .lst (SqL.of hla) hlb.2, plL, plL, dpL, ?_⟩
  rw [SeqAt.eqv_refl_plain _ plL]
  exact q _ ((sF.trans s8).trans s9)
end
end Lm

set_option Elab.async false
set_option linter.all false
set_option maxRecDepth 100000
set_option maxHeartbeats 2000000
set_option pp.maxSteps 20000
set_option pp.deepTerms true
namespace Lm
open PySem PySem.Spec PyProof.Rows L2 LmR RZ
section
variable {P : Program} {w : World} {K : PySem.W.Frag} {mg : Str → Option Value} {base : Heap} {c_Maker : Addr}
/-- a tuple of tiny things -/
def TT (K : PySem.W.Frag) (H : Hp) (a : Addr) (n : Nat) : Prop := ∃ us ds, SqT K H a us ∧ Fds K H us ds ∧ ds.length ≤ n ∧ ∀ d ∈ ds, dsz d ≤ 1 ∧ d.depth ≤ 1
theorem TT.keep {H H' : Hp} {a : Addr} {n : Nat} (h : TT K H a n) (t : Tp K H H') : TT K H' a n := by
  obtain ⟨us, ds, q, f, l, g⟩ := h
  exact ⟨us, ds, t _ _ q, Fds.keep f t, l, g⟩
theorem fds_take : ∀ (n : Nat) {H : Hp} {vs : List V} {ds : List PyData}, Fds K H vs ds → Fds K H (vs.take n) (ds.take n)
  | 0, _, _, _, _ => by rw [List.take_zero, List.take_zero]; exact Fds.nil
  | _ + 1, _, [], [], _ => by exact Fds.nil
  | n + 1, _, v :: vs, d :: ds, h => by
    obtain ⟨f, h⟩ := h
    have f' : flat d = true ∧ flat.flats ds = true := by simpa [flat.flats] using f
    cases h with
    | cons a b => exact Fds.cons ⟨f'.1, a⟩ (fds_take n ⟨f'.2, b⟩)
  | _ + 1, _, [], _ :: _, h => by cases h.2
  | _ + 1, _, _ :: _, [], h => by cases h.2
theorem TT.sl {H : Hp} {a : Addr} {n : Nat} {lo hi : Option Int} {Q : VK} (h : TT K H a n) (q : ∀ b H', Same H H' → TT K H' b n → Q (.ref b) H') : rSlA K (.ref a) lo hi H Q := by
  obtain ⟨us, ds, s, f, l, g⟩ := h
  refine ⟨a, us, rfl, s, fun _ => q a H (Same.refl _) ⟨us, ds, s, f, l, g⟩, fun _ p hp => q p _ (same_new hp) ⟨_, _, .inl (.inl upd_same), Fds.keep (fds_take _ (Fds.drop _ f)) (Tp.new hp), ?_, fun d hd => g d (List.mem_of_mem_drop (List.mem_of_mem_take hd))⟩⟩
  rw [List.length_take, List.length_drop]
  omega
theorem TT.cat {H : Hp} {a b : Addr} {n m : Nat} {Q : VK} (h : TT K H a n) (h2 : TT K H b m) (z : n + m ≤ 1000) (q : ∀ c H', Same H H' → TT K H' c (n + m) → Q (.ref c) H') : rCatA K (.ref a) (.ref b) H Q := by
  obtain ⟨us, ds, s, f, l, g⟩ := h
  obtain ⟨us2, ds2, s2, f2, l2, g2⟩ := h2
  refine ⟨a, b, us, us2, rfl, rfl, s, s2, ?_, fun _ => q b H (Same.refl _) ⟨us2, ds2, s2, f2, by omega, g2⟩, fun _ _ => q a H (Same.refl _) ⟨us, ds, s, f, by omega, g⟩, fun _ _ p hp => q p _ (same_new hp) ⟨_, _, .inl (.inl upd_same), Fds.keep (f.app f2) (Tp.new hp), ?_, fun d hd => ?_⟩⟩
  · have := f.len; have := f2.len
    exact Nat.le_of_lt (smallL (by omega))
  · rw [List.length_append]; omega
  · rcases List.mem_append.mp hd with y | y
    · exact g d y
    · exact g2 d y
theorem TT.one {H : Hp} {v : V} {d : PyData} {t : Addr} (h : Fd K H v d) (s : dsz d ≤ 1 ∧ d.depth ≤ 1) (ht : H t = none) : TT K (upd H t (.tup [v])) t 1 :=
  ⟨[v], [d], .inl (.inl upd_same), Fds.cons (h.keep (Tp.new ht)) Fds.nil, Nat.le_refl _, fun x hx => by rw [List.mem_singleton.mp hx]; exact s⟩
theorem szs_le : ∀ {ds : List PyData}, (∀ d ∈ ds, dsz d ≤ 1 ∧ d.depth ≤ 1) → dsz.dszs ds ≤ ds.length
  | [], _ => Nat.le_refl _
  | d :: ds, h => by
    have h1 := (h d List.mem_cons_self).1
    have h2 := szs_le fun x hx => h x (List.mem_cons_of_mem _ hx)
    simp only [dsz.dszs, List.length_cons]
    omega
theorem TT.fd {H : Hp} {a : Addr} {n : Nat} (h : TT K H a n) : ∃ d, Fd K H (.ref a) d ∧ dsz d ≤ 1 + n ∧ d.depth ≤ 2 := by
  obtain ⟨us, ds, s, f, l, g⟩ := h
  refine ⟨.tuple ds, ⟨f.1, .tup s f.2⟩, ?_, ?_⟩
  · have := szs_le g
    show 1 + dsz.dszs ds ≤ 1 + n
    omega
  · have := depAll fun d hd => (g d hd).2
    show PyData.depthAll ds + 1 ≤ 2
    omega
theorem lit_sz {k : Bool} {d : PyData} (h : Lit k d) : dsz d = 1 ∧ d.depth ≤ 1 := by
  cases k with
  | true => obtain ⟨b, rfl⟩ := h; exact ⟨rfl, Nat.zero_le _⟩
  | false => obtain ⟨n, rfl⟩ := h; exact ⟨rfl, Nat.zero_le _⟩
theorem lit_small : ∀ {ks : List Bool} {ds : List PyData}, Paired Lit ks ds → ds.length = ks.length ∧ ∀ d ∈ ds, dsz d ≤ 1 ∧ d.depth ≤ 1
  | _, _, .nil => ⟨rfl, fun _ h => nomatch h⟩
  | _, _, .cons a t => by
    obtain ⟨l, g⟩ := lit_small t
    refine ⟨by rw [List.length_cons, List.length_cons, l], fun d hd => ?_⟩
    obtain ⟨z, dd⟩ := lit_sz a
    rcases List.mem_cons.mp hd with y | y
    · rw [y]; exact ⟨Nat.le_of_eq z, dd⟩
    · exact g d y
abbrev s_l_bad_example : Stmt := topS 72
theorem sc_l_bad_example : FnScope ["_law_flow_here", "_law_head_here", "_law_inputs", "_law_answer", "_law_form", "_law_at", "_law_odd"] ["_law_flow_here", "_law_head_here"] (defScope s_l_bad_example) := ⟨rfl, rfl, rfl, by decide +kernel, rfl, by decide +kernel, by decide +kernel⟩
/-- an example that may be anything, and is little -/
def OddEx (d : PyData) : Prop := isExD d ∧ dsz d ≤ 40 ∧ d.depth ≤ 10
def spBadE (K : PySem.W.Frag) : Sp := fun vs H Q _ => ∃ (f h : Addr) (ks : List Bool) (k : Bool), vs = [.ref f, .ref h] ∧ Flow H f ∧ HdAt K H h ks k ∧ ks.length ≤ 2 ∧
  ∀ (e : Addr) (d : PyData) (H' : Hp), Gr [] f H H' → Fd K H' (.ref e) (inEx d) → OddEx d → Q (.ref e) H'
theorem ok_l_bad_example (B : Bt mg) (C_l_draw : Cal P w K mg base 3 "_law_draw" ["_law_flow_here", "_law_many"] (spDraw)) (C_l_example : Cal P w K mg base 3 "_law_example" ["_law_flow_here", "_law_head_here"] (spExa K)) (D : DefAt K mg "_law_bad_example" s_l_bad_example ["_law_flow_here", "_law_head_here"]) : Cal P w K mg base 4 "_law_bad_example" ["_law_flow_here", "_law_head_here"] (spBadE K) := by
  refine cal_of D sc_l_bad_example (fun vs H Q E h => ?_) (fun f cdv A outer s H vs Q E hr h => ?_)
  · obtain ⟨a, _, _, _, rfl, _⟩ := h
    rfl
  obtain ⟨f, h, ks, k, rfl, fl, hh, hk2, q⟩ := h
  have hr' : Room 3 _ := hr
  refine ⟨_, (pss_cons (ps_asg (pe_cal C_l_example hr' (by rfl) (pa_cons (pv 0) (pa_cons (pv 1) pa_nil))) (pg_tup rfl (pgs_cons (pg_name (i := 2) sc_l_bad_example.nd rfl (.inl rfl)) (pgs_cons (pg_name (i := 3) sc_l_bad_example.nd rfl (.inl rfl)) pgs_nil))))
      (pss_cons (ps_par (i := 4) (j := 5) rfl sc_l_bad_example.nd rfl rfl (by decide) rfl rfl (pa_cons (pe_cal C_l_draw hr' (by rfl) (pa_cons (pv 0) (pa_cons pe_int pa_nil))) (pa_cons (pe_cal C_l_draw hr' (by rfl) (pa_cons (pv 0) (pa_cons (pe_op op_add (pe_callB call_len_seq (by rfl) B.len PySem.boot_len (pa_cons (pv 2) pa_nil)) pe_int) pa_nil))) pa_nil)) rfl)
      (pss_cons (ps_set (i := 6) sc_l_bad_example.nd rfl (.inl rfl) (pe_ix ix_list (pe_lst (pa_cons pe_non (pa_cons pe_bl (pa_cons pe_int (pa_cons pe_str (pa_cons (pe_tup pa_nil) (pa_cons pe_int (pa_cons pe_bl pa_nil)))))))) (pe_cal C_l_draw hr' (by rfl) (pa_cons (pv 0) (pa_cons pe_int pa_nil))) (fun _ _ => rfl)))
      (pss_cons (ps_if (pt_cmpR op_eq (pv 4) pe_int (nomark _))
        (pss_one (ps_ret (pe_tup (pa_cons (pe_op op_catA (pe_op op_catA (pe_slice sl_tupA (pv 2) po_none (po_some (pv 5))) (pe_tup (pa_cons (pv 6) pa_nil))) (pe_slice sl_tupA (pv 2) (po_some (pe_op op_add (pv 5) pe_int)) po_none)) (pa_cons (pv 3) pa_nil)))))
        pss_nil)
      (pss_cons (ps_if (pt_cmpR op_eq (pv 4) pe_int (nomark _))
        (pss_one (ps_ret (pe_tup (pa_cons (pe_op op_catA (pe_op op_catA (pe_slice sl_tupA (pv 2) po_none (po_some (pv 5))) (pe_tup (pa_cons (pv 6) pa_nil))) (pe_slice sl_tupA (pv 2) (po_some (pv 5)) po_none)) (pa_cons (pv 3) pa_nil)))))
        pss_nil)
      (pss_cons (ps_if (pt_cmpR op_eq (pv 4) pe_int (nomark _))
        (pss_one (ps_ret (pe_tup (pa_cons (pe_op op_catA (pe_slice sl_tupA (pv 2) po_none (po_some (pv 5))) (pe_slice sl_tupA (pv 2) (po_some (pe_op op_add (pv 5) pe_int)) po_none)) (pa_cons (pv 3) pa_nil)))))
        pss_nil)
      (pss_cons (ps_if (pt_cmpR op_eq (pv 4) pe_int (nomark _))
        (pss_one (ps_ret (pe_tup (pa_cons (pe_ix ix_list (pe_lst (pa_cons pe_non (pa_cons pe_int (pa_cons pe_str (pa_cons pe_bl pa_nil))))) (pe_cal C_l_draw hr' (by rfl) (pa_cons (pv 0) (pa_cons pe_int pa_nil))) (fun _ _ => rfl)) (pa_cons (pv 3) pa_nil)))))
        pss_nil)
      (pss_one (ps_ret (pe_tup (pa_cons (pv 2) (pa_cons (pv 6) pa_nil)))))))))))), ?_⟩
  refine ⟨_, rfl, _, rfl, f, h, ks, k, rfl, fl, hh, hk2, fun e t us v ds d H1 g1 he ht hU hv hP hl => ?_⟩
  obtain ⟨dl, dsm⟩ := lit_small hP
  obtain ⟨hlz, hld⟩ := lit_sz hl
  have T1 : TT K H1 t 2 := ⟨us, ds, .inl (.inl ht), hU, by omega, dsm⟩
  have ul : us.length ≤ 2 := by rw [hU.len]; omega
  refine ⟨e, _, rfl, .inl (.inl he), rfl, _, _, rfl, _, _, rfl, rfl, ?_⟩
  refine ⟨_, rfl, f, 6, rfl, g1.fl, by decide, by decide, fun fm H2 fm0 fm1 dr1 => ?_⟩
  have tp2 : Tp K H1 H2 := dr1.tp g1.fl
  refine ⟨_, rfl, _, rfl, t, us, rfl, .inr (tp2 _ _ (.inl (.inl ht))), _, _, rfl, rfl, f, _, rfl, dr1.fl, by omega, by omega, fun ta H3 ta0 ta1 dr2 => ⟨_, _, rfl, ?_⟩⟩
  have tp3 : Tp K H1 H3 := tp2.trans (dr2.tp dr1.fl)
  have g3 : Gr [] f H H3 := (g1.trans dr1.gr).trans dr2.gr
  refine ⟨(by show 0 ≤ sizeLine; decide), fun t0 h0 => ?_⟩
  have g4 := g3.trans (Gr.new (o := .tup []) g3.fl h0)
  have tp4 : Tp K H1 (upd H3 t0 (.tup [])) := tp3.trans (Tp.new h0)
  have e0 : upd H3 t0 (.tup []) t0 = some (.tup []) := upd_same
  generalize upd H3 t0 (.tup []) = H4 at g4 tp4 e0
  refine ⟨(by show 7 ≤ sizeLine; decide), fun l hl5 => ?_⟩
  have g5 := g4.trans (Gr.new (o := .lst [.non, .bl true, .int 1, .str "num", .ref t0, .int 0, .bl false]) g4.fl hl5)
  have tp5 : Tp K H4 (upd H4 l (.lst [.non, .bl true, .int 1, .str "num", .ref t0, .int 0, .bl false])) := Tp.new hl5
  have e5 : upd H4 l (.lst [.non, .bl true, .int 1, .str "num", .ref t0, .int 0, .bl false]) l = some (.lst [.non, .bl true, .int 1, .str "num", .ref t0, .int 0, .bl false]) := upd_same
  have e05 : upd H4 l (.lst [.non, .bl true, .int 1, .str "num", .ref t0, .int 0, .bl false]) t0 = some (.tup []) := by rw [upd_ne (ne_of_none e0 hl5)]; exact e0
  have nlf : l ≠ f := g4.fl.no hl5
  generalize upd H4 l (.lst [.non, .bl true, .int 1, .str "num", .ref t0, .int 0, .bl false]) = H5 at g5 tp5 e5 e05
  refine ⟨_, rfl, f, 7, rfl, g5.fl, by decide, by decide, fun j H6 j0 j1 dr3 => ?_⟩
  have g6 := g5.trans dr3.gr
  have tp56 : Tp K H5 H6 := dr3.tp g5.fl
  have tp6 : Tp K H1 H6 := (tp4.trans tp5).trans tp56
  have e6 : H6 l = some (.lst [.non, .bl true, .int 1, .str "num", .ref t0, .int 0, .bl false]) := by rw [dr3.off l nlf]; exact e5
  have F6 : Fds K H6 [.non, .bl true, .int 1, .str "num", .ref t0, .int 0, .bl false] [.none, .bool true, .int 1, .str "num", .tuple [], .int 0, .bool false] :=
    Fds.keep (H := H5) ⟨rfl, .cons .non (.cons (.bl _) (.cons (.int _) (.cons (.str _) (.cons (.tup (.inl (.inl e05)) .nil) (.cons (.int _) (.cons (.bl _) .nil))))))⟩ tp56
  have hjn : j.toNat < 7 := by omega
  have hx : ([V.non, .bl true, .int 1, .str "num", .ref t0, .int 0, .bl false] : List V)[j.toNat]? = some (([V.non, .bl true, .int 1, .str "num", .ref t0, .int 0, .bl false] : List V)[j.toNat]'hjn) := List.getElem?_eq_getElem hjn
  obtain ⟨od, hod, hoF⟩ := F6.nth hx
  have osm : dsz od ≤ 1 ∧ od.depth ≤ 1 := by
    have : ∀ d ∈ ([.none, .bool true, .int 1, .str "num", .tuple [], .int 0, .bool false] : List PyData), dsz d ≤ 1 ∧ d.depth ≤ 1 := by
      intro d hd
      simp only [List.mem_cons, List.not_mem_nil, or_false] at hd
      rcases hd with z | z | z | z | z | z | z <;> rw [z] <;> exact ⟨Nat.le_refl _, by first | exact Nat.zero_le _ | exact Nat.le_refl _⟩
    exact this od (List.mem_of_getElem? hod)
  generalize ([V.non, .bl true, .int 1, .str "num", .ref t0, .int 0, .bl false] : List V)[j.toNat]'hjn = ov at hx hoF
  refine ⟨l, _, j, ov, rfl, rfl, SqL.of e6, at_of (j := j.toNat) (by omega) hx, ?_⟩
  have fin : ∀ (Hx : Hp) (u v' : V) (i a : PyData), Same H6 Hx → Fd K Hx u i → Fd K Hx v' a → dsz i ≤ 20 → i.depth ≤ 5 → dsz a ≤ 1 → a.depth ≤ 1 → (2 ≤ sizeLine ∧ ∀ e', Hx e' = none → Q (.ref e') (upd Hx e' (.tup [u, v']))) := fun Hx u v' i a sm hu hv' z1 z2 z3 z4 => by
    refine ⟨by decide, fun e' he' => q e' (exD i a) _ ((g6.trans (Gr.same g6.fl sm)).trans (Gr.new (by exact (Gr.same g6.fl sm).fl) he')) (fd_tup upd_same (.cons (hu.keep (Tp.new he')).2 (.cons (hv'.keep (Tp.new he')).2 .nil)) (by simp [flat.flats, hu.1, hv'.1, exI, exA, exD])) ⟨⟨i, a, rfl⟩, ?_, ?_⟩⟩
    · show 1 + (1 + (dsz i + (dsz a + 0))) ≤ 40
      omega
    · show max 0 (max i.depth (max a.depth 0)) + 1 ≤ 10
      omega
  have T6 := T1.keep tp6
  have v6 := hv.keep tp6
  have body : ∀ {c : Addr} {Hx : Hp} {n : Nat}, Same H6 Hx → TT K Hx c n → n ≤ 10 → (2 ≤ sizeLine ∧ ∀ e', Hx e' = none → Q (.ref e') (upd Hx e' (.tup [.ref c, v]))) := fun {c Hx n} sm hT hn => by
    obtain ⟨dd, fd', z1, z2⟩ := hT.fd
    exact fin Hx _ _ dd d sm fd' (v6.keep (Tp.same sm)) (by omega) (by omega) (Nat.le_of_eq hlz) hld
  refine ⟨_, rfl, rfl, _, rfl, ite2 (fun _ => ?_) (fun _ => ⟨_, rfl, rfl, _, rfl, ite2 (fun _ => ?_) (fun _ => ⟨_, rfl, rfl, _, rfl, ite2 (fun _ => ?_) (fun _ => ⟨_, rfl, rfl, _, rfl, ite2 (fun _ => ?_) (fun _ => ?_)⟩)⟩)⟩)⟩
  · refine ⟨_, rfl, _, rfl, ta, rfl, TT.sl T6 fun b1 H7 s7 T7 => ⟨_, rfl, (by show 1 ≤ sizeLine; decide), fun t8 h8 => ?_⟩⟩
    refine TT.cat (T7.keep (Tp.new h8)) (TT.one (hoF.keep (Tp.same s7)) osm h8) (by decide) fun c H9 s9 T9 => ⟨_, rfl, _, rfl, ta, 1, rfl, rfl, _, rfl, ?_⟩
    have s69 := (s7.trans (same_new h8)).trans s9
    dsimp only [tNoPart]
    refine TT.sl (T6.keep (Tp.same s69)) fun b2 H10 s10 T10 => ?_
    exact TT.cat (T9.keep (Tp.same s10)) T10 (by decide) fun c2 H11 s11 T11 => ⟨_, rfl, body ((s69.trans s10).trans s11) T11 (by decide)⟩
  · refine ⟨_, rfl, _, rfl, ta, rfl, TT.sl T6 fun b1 H7 s7 T7 => ⟨_, rfl, (by show 1 ≤ sizeLine; decide), fun t8 h8 => ?_⟩⟩
    refine TT.cat (T7.keep (Tp.new h8)) (TT.one (hoF.keep (Tp.same s7)) osm h8) (by decide) fun c H9 s9 T9 => ⟨_, rfl, _, rfl, ta, rfl, ?_⟩
    have s69 := (s7.trans (same_new h8)).trans s9
    dsimp only [tNoPart]
    refine TT.sl (T6.keep (Tp.same s69)) fun b2 H10 s10 T10 => ?_
    exact TT.cat (T9.keep (Tp.same s10)) T10 (by decide) fun c2 H11 s11 T11 => ⟨_, rfl, body ((s69.trans s10).trans s11) T11 (by decide)⟩
  · refine ⟨_, rfl, _, rfl, ta, rfl, TT.sl T6 fun b1 H7 s7 T7 => ⟨_, rfl, _, rfl, ta, 1, rfl, rfl, _, rfl, ?_⟩⟩
    dsimp only [tNoPart]
    refine TT.sl (T6.keep (Tp.same s7)) fun b2 H10 s10 T10 => ?_
    exact TT.cat (T7.keep (Tp.same s10)) T10 (by decide) fun c2 H11 s11 T11 => ⟨_, rfl, body ((s7.trans s10).trans s11) T11 (by decide)⟩
  · refine ⟨(by show 4 ≤ sizeLine; decide), fun l2 h2 => ?_⟩
    have g7 := g6.trans (Gr.new (o := .lst [.non, .int 5, .str "inputs", .bl true]) g6.fl h2)
    have e7 : upd H6 l2 (.lst [.non, .int 5, .str "inputs", .bl true]) l2 = some (.lst [.non, .int 5, .str "inputs", .bl true]) := upd_same
    have s7 : Same H6 (upd H6 l2 (.lst [.non, .int 5, .str "inputs", .bl true])) := same_new h2
    have n2 : l2 ≠ f := g6.fl.no h2
    have v7 := v6.keep (Tp.same s7)
    generalize upd H6 l2 (.lst [.non, .int 5, .str "inputs", .bl true]) = H7 at g7 e7 s7 v7
    refine ⟨_, rfl, f, 4, rfl, g7.fl, by decide, by decide, fun i8 H8 i80 i81 dr8 => ?_⟩
    have e8 : H8 l2 = some (.lst [.non, .int 5, .str "inputs", .bl true]) := by rw [dr8.off l2 n2]; exact e7
    have g8 := g7.trans dr8.gr
    have v8 := v7.keep (dr8.tp g7.fl)
    have F8 : Fds K H8 [.non, .int 5, .str "inputs", .bl true] [.none, .int 5, .str "inputs", .bool true] := ⟨rfl, .cons .non (.cons (.int _) (.cons (.str _) (.cons (.bl _) .nil)))⟩
    have hin : i8.toNat < 4 := by omega
    have hx8 : ([V.non, .int 5, .str "inputs", .bl true] : List V)[i8.toNat]? = some (([V.non, .int 5, .str "inputs", .bl true] : List V)[i8.toNat]'hin) := List.getElem?_eq_getElem hin
    obtain ⟨id, hid, hiF⟩ := F8.nth hx8
    have ism : dsz id ≤ 1 ∧ id.depth ≤ 1 := by
      have : ∀ d ∈ ([.none, .int 5, .str "inputs", .bool true] : List PyData), dsz d ≤ 1 ∧ d.depth ≤ 1 := by
        intro d hd
        simp only [List.mem_cons, List.not_mem_nil, or_false] at hd
        rcases hd with z | z | z | z <;> rw [z] <;> exact ⟨Nat.le_refl _, Nat.zero_le _⟩
      exact this id (List.mem_of_getElem? hid)
    generalize ([V.non, .int 5, .str "inputs", .bl true] : List V)[i8.toNat]'hin = iv at hx8 hiF
    refine ⟨l2, _, i8, iv, rfl, rfl, SqL.of e8, at_of (j := i8.toNat) (by omega) hx8, _, rfl, (by show 2 ≤ sizeLine; decide), fun e' he' => ?_⟩
    refine q e' (exD id d) _ (g8.trans (Gr.new g8.fl he')) (fd_tup upd_same (.cons (hiF.keep (Tp.new he')).2 (.cons (v8.keep (Tp.new he')).2 .nil)) (by simp [flat.flats, hiF.1, v8.1, exI, exA, exD])) ⟨⟨id, d, rfl⟩, ?_, ?_⟩
    · show 1 + (1 + (dsz id + (dsz d + 0))) ≤ 40
      omega
    · show max 0 (max id.depth (max d.depth 0)) + 1 ≤ 10
      omega
  · obtain ⟨dd, fd', z1, z2⟩ := T6.fd
    exact ⟨_, rfl, _, rfl, fin H6 _ _ dd od (Same.refl _) fd' hoF (by omega) (by omega) osm.1 osm.2⟩
end
end Lm

set_option Elab.async false
set_option linter.all false
set_option maxRecDepth 100000
set_option maxHeartbeats 2000000
set_option pp.maxSteps 20000
set_option pp.deepTerms true
namespace Lm
open PySem PySem.Spec PyProof.Rows L2 LmR RZ
theorem dsz_enc3 : ∀ p : Pg, dsz (enc p) ≤ 3 * psz p
  | .inp k => by show 1 + (1 + (1 + 0)) ≤ 3; decide
  | .num c => by show 1 + (1 + (1 + 0)) ≤ 3; decide
  | .tr b => by cases b <;> (show 1 + (1 + 0) ≤ 3; decide)
  | .plus c a => by
    have := dsz_enc3 a
    show 1 + (1 + (1 + (dsz (enc a) + 0))) ≤ 3 * (psz a + 1)
    omega
  | .bin w a b => by
    have := dsz_enc3 a
    have := dsz_enc3 b
    show 1 + (1 + (dsz (enc a) + (dsz (enc b) + 0))) ≤ 3 * (psz a + psz b + 1)
    omega
  | .neg a => by
    have := dsz_enc3 a
    show 1 + (1 + (dsz (enc a) + 0)) ≤ 3 * (psz a + 1)
    omega
  | .ite p a b => by
    have := dsz_enc3 p
    have := dsz_enc3 a
    have := dsz_enc3 b
    show 1 + (1 + (dsz (enc p) + (dsz (enc a) + (dsz (enc b) + 0)))) ≤ 3 * (psz p + psz a + psz b + 1)
    omega
section
variable {P : Program} {w : World} {K : PySem.W.Frag} {mg : Str → Option Value} {base : Heap} {c_Maker : Addr}
theorem Flow.ndk {H : Hp} {f a : Addr} {kvs : List (Key × V)} (fl : Flow H f) (h : H a = some (.dK kvs)) : a ≠ f := fun z => by
  obtain ⟨xs, e⟩ := fl.lst
  rw [z, e] at h
  cases h
theorem Mdl.gr {H H' : Hp} {f md kd lg h : Addr} {kept : List (Int × PyData)} {on : Int} {log : List PyData} (m : Mdl K H md kd lg h kept on log) (g : Gr [] f H H') (fl : Flow H f) (n : lg ≠ f) : Mdl K H' md kd lg h kept on log := by
  have n1 := fl.ndk m.ob
  obtain ⟨kvs, c, _⟩ := m.kp
  have n2 := fl.ndk c
  refine m.off (fun b o e hb => g.ex b o e ?_) (g.tp fl)
  rcases hb with z | z | z <;> rw [z] <;> simp [n1, n2, n]
theorem walk_vals {d : Addr} {o : Obj} {kvs : List (Key × V)} : Walk (Itd d o kvs) kvs.length (fun H => H d = some (.frz o (.dK kvs))) (fun i H x H' => H' = H ∧ ∃ k, kvs[i]? = some (k, x)) :=
  ⟨fun _ _ h g => ⟨g, h⟩, fun _ g => ⟨g, Nat.le_refl _⟩, fun _ _ _ _ _ _ y => y⟩
theorem Dr.tp' {f : Addr} {H H' : Hp} (d : Dr f H H') {a : Addr} {xs : List V} (fl : Flow H f) (h : H a = some (.tup xs)) : H' a = some (.tup xs) := (d.off a (fl.nt h)).trans h
/-- how many of a sort are kept -/
theorem cnt_of {H : Hp} {md kd lg h : Addr} {kept : List (Int × PyData)} {on : Int} {log : List PyData} {x : Str} {s0 s1 s2 s3 s4 s5 s6 s7 s8 : Option V} {N : Int} {Q : Bool → Hp → Prop} (hM : Mdl K H md kd lg h kept on log) (h1 : s1 = some (.ref md)) (hkt : ∀ o ∈ kept, ∃ x r, o.2 = .tuple (.str x :: r)) (hkl : kept.length ≤ 5000)
    (q : ∀ (b : Bool) H', Same H H' → Q b H') : tTest (tOp (rI0 fun i j => V.bl (decide (i < j))) (tCB (fun xs H Q => ∃ p ys, xs = [V.ref p] ∧ (SqL K H p ys ∨ SqT K H p ys) ∧ Q (.int (ys.length : Nat)) H) (tCons (tLockE (tLc (iVals (tDGet (tVar 1) (tC (.str "kept")))) (gName 8) (tTest (tOp rEq (tOp (rIxT K) (tVar 8) (tC (.int 0))) (tC (.str x)))) (tC (.int 1)) [8])) tNil)) (tC (.int N))) [s0, s1, s2, s3, s4, s5, s6, s7, s8] H Q := by
  subst h1
  obtain ⟨kvs, hkd, hkf⟩ := hM.kp
  have nm := hM.ne.1
  refine ⟨kd, .dK kvs, hkd, trivial, fun od => ⟨_, rfl, md, .ref kd, rfl, .inl ⟨_, .inr "kept", .inl (by rw [upd_ne nm]; exact hM.ob), rfl, rfl⟩, kd, od, kvs, rfl, upd_same, fun D hD => lc_it walk_vals (fun i H2 => H2 kd = some (.frz od (.dK kvs)) ∧ (∀ b o, H b = some o → b ≠ kd → H2 b = some o) ∧ ∃ ws, H2 D = some (.lst ws) ∧ ws.length ≤ i) ?_ ?_ ?_ ?_⟩⟩
  · refine ⟨by rw [upd_ne (fun z => by rw [← z, upd_same] at hD; cases hD), upd_same], fun b o e n => ?_, [], upd_same, Nat.le_refl _⟩
    rw [upd_ne (ne_of_none (by rw [upd_ne n]; exact e) hD), upd_ne n]
    exact e
  · rintro i H2 _ ⟨g, _⟩
    exact g
  · rintro i y Ha Hb hi ⟨hz, hs, ws, hA, wl⟩ ⟨eH, c, hkv⟩
    subst eH
    obtain ⟨o, ho, rfl, hv⟩ := kf_nth hkf hkv
    have tpa : Tp K H Hb := Ex.tp (ws := [kd]) (fun b o e n => hs b o e (by simpa using n)) fun b hb xs q' => by
      rw [List.mem_singleton.mp hb] at q'
      rcases q' with q' | ⟨u, q'⟩ <;> rw [hkd] at q' <;> cases q'
    have hv1 := hv.keep tpa
    obtain ⟨w0, r0, ew⟩ := hkt o (List.mem_of_getElem? ho)
    rw [ew] at hv1
    obtain ⟨ty, ys, rfl, hty⟩ := word_read hv1
    have hil : i < 5000 := by have := (List.getElem?_eq_some_iff.mp ho).1; omega
    have nkD : kd ≠ D := fun z => by rw [← z, upd_same] at hD; cases hD
    refine ⟨rfl, _, rfl, ty, _, 0, .str w0, rfl, rfl, hty, at_of (j := 0) rfl rfl, rfl, _, rfl, ite2 (fun c => ?_) (fun c => ?_)⟩
    · refine ⟨ws, hA, smallL (by omega), by rw [upd_ne nkD]; exact hz, fun b u e n => ?_, ws ++ [.int 1], upd_same, by rw [List.length_append]; simp; omega⟩
      have hbD : b ≠ D := fun z => by
        rw [← z, upd_ne n, e] at hD
        cases hD
      rw [upd_ne hbD]
      exact hs b u e n
    · exact ⟨hz, hs, ws, hA, by omega⟩
  · rintro H2 ⟨hz, hs, ws, hA, wl⟩
    have nkD : kd ≠ D := fun z => by rw [← z, hz] at hA; cases hA
    refine ⟨hz, D, ws, rfl, .inl (SqL.of (by rw [upd_ne nkD.symm]; exact hA)), _, _, rfl, rfl, _, rfl, q _ _ fun b o e => ?_⟩
    by_cases z : b = kd
    · rw [z, upd_same]
      rw [z, hkd] at e
      exact e
    · rw [upd_ne z]
      exact hs b o e z
/-- examples in a list -/
def LExs (K : PySem.W.Frag) (H : Hp) (D : Addr) (n : Nat) : Prop := ∃ (us : List V) (ds : List PyData), H D = some (.lst us) ∧ Fds K H us (ds.map inEx) ∧ ds.length = n ∧ ∀ d ∈ ds, OddEx d
theorem LExs.keep {H H' : Hp} {D : Addr} {n : Nat} (h : LExs K H D n) (t : Tp K H H') (e : H' D = H D) : LExs K H' D n := by
  obtain ⟨us, ds, a, b, c, d⟩ := h
  exact ⟨us, ds, e.trans a, Fds.keep b t, c, d⟩
/-- a deed asked for is little -/
def ActS : Act → Prop
  | .wish d => dsz d ≤ 60
  | .exs ds => ds.length ≤ 6 ∧ ∀ d ∈ ds, dsz d ≤ 62
  | .back _ => True
end
end Lm

set_option Elab.async false
set_option linter.all false
set_option maxRecDepth 100000
set_option maxHeartbeats 2000000
set_option pp.maxSteps 20000
set_option pp.deepTerms true
namespace Lm
open PySem PySem.Spec PyProof.Rows L2 LmR RZ
mutual
theorem depth_dsz : ∀ d : PyData, flat d = true → d.depth ≤ dsz d
  | .none, _ => Nat.zero_le _
  | .bool _, _ => Nat.zero_le _
  | .int _, _ => Nat.zero_le _
  | .str _, _ => Nat.zero_le _
  | .list _, h => by simp [flat] at h
  | .tuple xs, h => by
    have := depths_dszs xs h
    show PyData.depthAll xs + 1 ≤ 1 + dsz.dszs xs
    omega
  | .dict _, h => by simp [flat] at h
theorem depths_dszs : ∀ ds : List PyData, flat.flats ds = true → PyData.depthAll ds ≤ dsz.dszs ds
  | [], _ => Nat.le_refl _
  | d :: ds, h => by
    have h' : flat d = true ∧ flat.flats ds = true := by simpa [flat.flats] using h
    have h1 := depth_dsz d h'.1
    have h2 := depths_dszs ds h'.2
    show max d.depth (PyData.depthAll ds) ≤ dsz d + dsz.dszs ds
    omega
end
theorem enc_word (p : Pg) : ∃ x r, enc p = .tuple (.str x :: r) := by cases p <;> exact ⟨_, _, rfl⟩
theorem enc_depth (p : Pg) : (enc p).depth + 1 ≤ dsz (enc p) := by
  have hf := flat_enc p
  obtain ⟨x, r, e⟩ := enc_word p
  rw [e] at hf ⊢
  have hr : flat.flats r = true := by simpa [flat, flat.flats] using hf
  have := depths_dszs r hr
  show max 0 (PyData.depthAll r) + 1 + 1 ≤ 1 + (1 + dsz.dszs r)
  omega
theorem dueW_none {ks : List Bool} {d : PyData} (h : dueW ks d = none) : ∃ p, d = enc p := by
  unfold dueW at h
  cases hw : wrongD ks d with
  | none => exact ⟨_, (wrong_none hw).1⟩
  | some x => rw [hw] at h; cases h
/-- what n deeds leave -/
structure Good (n : Nat) (kept : List (Int × PyData)) (on : Int) (log : List PyData) : Prop where
  ok : OkK kept
  lt : ∀ o ∈ kept, o.1 < on
  pw : kept.Pairwise fun a b => a.1 < b.1
  o0 : 0 ≤ on
  o1 : on ≤ 6 * n
  kl : kept.length ≤ 6 * n
  ll : log.length = 2 * n
  sz : ∀ o ∈ kept, dsz o.2 ≤ 62
  ld : ∀ d ∈ log, d.depth ≤ 2
  lf : log = [] ∨ ∃ (l : List PyData) (x : Str), log = l ++ [.tuple [.str "out", .str x]]
theorem Good.zero : Good 0 [] 0 [] := ⟨⟨fun _ h => (nomatch h), fun _ h => (nomatch h), fun _ h => nomatch h⟩, fun _ h => (nomatch h), .nil, by decide, by decide, by decide, rfl, fun _ h => (nomatch h), fun _ h => (nomatch h), .inl rfl⟩
def ActF : Act → Prop
  | .wish d => flat d = true
  | .exs ds => ∀ d ∈ ds, isExD d ∧ d.depth ≤ 60
  | .back _ => True
theorem numD_pw : ∀ (n : Int) (ds : List PyData), (numD n ds).Pairwise fun a b => a.1 < b.1
  | _, [] => .nil
  | n, d :: ds => List.Pairwise.cons (fun o ho => by have := (numD_lt (n + 1) ds o ho).1; show n < o.1; omega) (numD_pw (n + 1) ds)
theorem Good.step {n : Nat} {kept : List (Int × PyData)} {on : Int} {log : List PyData} {ks : List Bool} {k : Bool} {a : Act} (g : Good n kept on log) (hs : ActS a) (hf : ActF a) : Good (n + 1) (stepD ks k kept on a).2.1 (stepD ks k kept on a).2.2 (log ++ [inD a.word, outD a.word]) := by
  have LL : (log ++ [inD a.word, outD a.word]).length = 2 * (n + 1) := by rw [List.length_append, g.ll]; rfl
  have LD : ∀ d ∈ log ++ [inD a.word, outD a.word], d.depth ≤ 2 := fun d hd => by
    rcases List.mem_append.mp hd with y | y
    · exact g.ld d y
    · simp only [List.mem_cons, List.not_mem_nil, or_false] at y
      rcases y with y | y <;> rw [y] <;> (show max 0 (max 0 0) + 1 ≤ 2; decide)
  have LF : (log ++ [inD a.word, outD a.word]) = [] ∨ ∃ (l : List PyData) (x : Str), log ++ [inD a.word, outD a.word] = l ++ [.tuple [.str "out", .str x]] := .inr ⟨log ++ [inD a.word], a.word, by rw [List.append_assoc]; rfl⟩
  have same : Good (n + 1) kept on (log ++ [inD a.word, outD a.word]) := ⟨g.ok, g.lt, g.pw, g.o0, by have := g.o1; omega, by have := g.kl; omega, LL, g.sz, LD, LF⟩
  cases a with
  | wish d =>
    cases e : dueW (ks ++ [k]) d with
    | some xn => obtain ⟨x, m⟩ := xn; rw [st_w1 e]; exact same
    | none =>
      rw [st_w0 e]
      obtain ⟨p, rfl⟩ := dueW_none e
      have z : dsz (enc p) ≤ 60 := hs
      have dp := enc_depth p
      refine ⟨⟨fun o ho hb => ?_, fun o ho => ?_, fun o ho => ?_⟩, fun o ho => ?_, ?_, by have := g.o0; show 0 ≤ on + 1; omega, by have := g.o1; show on + 1 ≤ _; omega, by have := g.kl; show (kept ++ [(on, wishD (enc p))]).length ≤ _; rw [List.length_append]; show kept.length + 1 ≤ _; omega, LL, fun o ho => ?_, LD, LF⟩
      · rcases List.mem_append.mp ho with y | y
        · exact g.ok.1 o y hb
        · rw [List.mem_singleton.mp y] at hb
          exact absurd hb (by show ¬ decide (("wish" : Str) = "example") = true; decide +kernel)
      · rcases List.mem_append.mp ho with y | y
        · exact g.ok.2.1 o y
        · rw [List.mem_singleton.mp y]; exact ⟨_, _, rfl⟩
      · rcases List.mem_append.mp ho with y | y
        · exact g.ok.2.2 o y
        · rw [List.mem_singleton.mp y]
          show max 0 (max (enc p).depth 0) + 1 ≤ 60
          omega
      · rcases List.mem_append.mp ho with y | y
        · have := g.lt o y; show o.1 < on + 1; omega
        · rw [List.mem_singleton.mp y]; show on < on + 1; omega
      · refine List.pairwise_append.mpr ⟨g.pw, .cons (fun _ h => nomatch h) .nil, fun x hx y hy => ?_⟩
        rw [List.mem_singleton.mp hy]
        exact g.lt x hx
      · rcases List.mem_append.mp ho with y | y
        · exact g.sz o y
        · rw [List.mem_singleton.mp y]
          show 1 + (1 + (dsz (enc p) + 0)) ≤ 62
          omega
  | exs ds =>
    cases e : firstBad (exOk ks k) ds 0 with
    | some m => rw [st_e1 e]; exact same
    | none =>
      cases e2 : firstClash kept on ds with
      | some xn => obtain ⟨x, m⟩ := xn; rw [st_e2 e e2]; exact same
      | none =>
        rw [st_e0 e e2]
        have l5 := hs.1
        refine ⟨⟨fun o ho hb => ?_, fun o ho => ?_, fun o ho => ?_⟩, fun o ho => ?_, ?_, by have := g.o0; show 0 ≤ on + (ds.length : Int); omega, by have := g.o1; show on + (ds.length : Int) ≤ _; omega, by have := g.kl; show (kept ++ numD on ds).length ≤ _; rw [List.length_append, numD_len]; omega, LL, fun o ho => ?_, LD, LF⟩
        · rcases List.mem_append.mp ho with y | y
          · exact g.ok.1 o y hb
          · exact (hf _ (numD_mem _ _ o y)).1
        · rcases List.mem_append.mp ho with y | y
          · exact g.ok.2.1 o y
          · obtain ⟨i, a, e⟩ := (hf _ (numD_mem _ _ o y)).1
            exact ⟨_, _, e⟩
        · rcases List.mem_append.mp ho with y | y
          · exact g.ok.2.2 o y
          · exact (hf _ (numD_mem _ _ o y)).2
        · rcases List.mem_append.mp ho with y | y
          · have := g.lt o y; show o.1 < on + (ds.length : Int); omega
          · exact (numD_lt _ _ o y).2
        · refine List.pairwise_append.mpr ⟨g.pw, numD_pw _ _, fun x hx y hy => ?_⟩
          have := g.lt x hx
          have := (numD_lt _ _ y hy).1
          omega
        · rcases List.mem_append.mp ho with y | y
          · exact g.sz o y
          · have := hs.2 _ (numD_mem _ _ o y); omega
  | back m =>
    by_cases e : ∃ o ∈ kept, o.1 = m
    · rw [st_b0 e]
      have sub : ∀ o ∈ kept.filter (fun o => o.1 ≠ m), o ∈ kept := fun o h => (List.mem_filter.mp h).1
      exact ⟨⟨fun o h => g.ok.1 o (sub o h), fun o h => g.ok.2.1 o (sub o h), fun o h => g.ok.2.2 o (sub o h)⟩, fun o h => g.lt o (sub o h), g.pw.filter _, g.o0, by have := g.o1; show on ≤ _; omega, by have := g.kl; have := List.length_filter_le (fun o : Int × PyData => decide (o.1 ≠ m)) kept; show (kept.filter _).length ≤ _; omega, LL, fun o h => g.sz o (sub o h), LD, LF⟩
    · rw [st_b1 fun o h z => e ⟨o, h, z⟩]
      exact same
theorem Good.kz {n : Nat} {kept : List (Int × PyData)} {on : Int} {log : List PyData} (g : Good n kept on log) (h : n ≤ 14) : kSz kept ≤ 90000 := by
  have : ∀ l : List (Int × PyData), (∀ o ∈ l, dsz o.2 ≤ 62) → dsz.dszs (l.map pairD) ≤ 64 * l.length := by
    intro l
    induction l with
    | nil => intro _; exact Nat.le_refl _
    | cons o l ih =>
      intro h
      have h1 := h o List.mem_cons_self
      have h2 := ih fun x hx => h x (List.mem_cons_of_mem _ hx)
      show (1 + (1 + (dsz o.2 + 0))) + dsz.dszs (l.map pairD) ≤ 64 * (l.length + 1)
      omega
  have h1 := this kept g.sz
  have h2 := g.kl
  show 1 + dsz.dszs (kept.map pairD) ≤ 90000
  omega
theorem step_sz {ks : List Bool} {k : Bool} {kept : List (Int × PyData)} {on : Int} {a : Act} (hs : ActS a) : dsz (stepD ks k kept on a).1 ≤ 90000 := by
  cases a with
  | wish d =>
    cases e : dueW (ks ++ [k]) d with
    | some xn => obtain ⟨x, m⟩ := xn; rw [st_w1 e]; show 1 + (1 + (1 + (1 + 0))) ≤ 90000; decide
    | none => rw [st_w0 e]; show 1 + (1 + (1 + 0)) ≤ 90000; decide
  | exs ds =>
    cases e : firstBad (exOk ks k) ds 0 with
    | some m => rw [st_e1 e]; show 1 + (1 + (1 + 0)) ≤ 90000; decide
    | none =>
      cases e2 : firstClash kept on ds with
      | some xn => obtain ⟨x, m⟩ := xn; rw [st_e2 e e2]; show 1 + (1 + (1 + (1 + 0))) ≤ 90000; decide
      | none =>
        rw [st_e0 e e2]
        have l5 := hs.1
        have : ∀ l : List Nat, dsz.dszs (l.map fun (i : Nat) => PyData.int (on + (i : Int))) = l.length := by
          intro l
          induction l with
          | nil => rfl
          | cons i l ih => show 1 + dsz.dszs _ = l.length + 1; rw [ih]; omega
        have h2 := this (List.range ds.length)
        rw [List.length_range] at h2
        show 1 + (1 + ((1 + dsz.dszs ((List.range ds.length).map fun (i : Nat) => PyData.int (on + (i : Int)))) + 0)) ≤ 90000
        omega
  | back m =>
    by_cases e : ∃ o ∈ kept, o.1 = m
    · rw [st_b0 e]; show 1 + (1 + (1 + 0)) ≤ 90000; decide
    · rw [st_b1 fun o h z => e ⟨o, h, z⟩]; show 1 + (1 + (1 + 0)) ≤ 90000; decide
section
variable {P : Program} {w : World} {K : PySem.W.Frag} {mg : Str → Option Value} {base : Heap} {c_Maker : Addr}
theorem tyx_lst {H : Hp} {a : Addr} {xs : List V} (q : SqL K H a xs) : TyX K H (.ref a) (.type "list") := by
  rcases q with (q | ⟨o, q⟩) | ⟨o, its, n, hk, hc, _⟩
  · exact .base (.lst q)
  · exact .base (.frz q)
  · exact .kList hk hc
theorem kit_lstF {d : PyData} (h : flat d = true) : PySem.W.kitOne K (.type (tyn d)) (.type "list") = some false := by
  cases d with
  | none => exact kit_ty (a := "NoneType") (r := false) (by decide +kernel)
  | bool _ => exact kit_ty (a := "bool") (r := false) (by decide +kernel)
  | int _ => exact kit_ty (a := "int") (r := false) (by decide +kernel)
  | str _ => exact kit_ty (a := "str") (r := false) (by decide +kernel)
  | tuple _ => exact kit_ty (a := "tuple") (r := false) (by decide +kernel)
  | list _ => simp [flat] at h
  | dict _ => simp [flat] at h
theorem ActAt.same {bad : List Str} {H H' : Hp} {nt : Addr} {v : V} {a : Act} (h : ActAt K bad H nt v a) (s : Same H H') : ActAt K bad H' nt v a := by
  cases a with
  | wish d => exact ⟨h.1.keep (Tp.same s), h.2⟩
  | back n => exact h
  | exs ds =>
    obtain ⟨sm, us, e, q, n, f, r⟩ := h
    exact ⟨sm, us, e, q.elim (fun z => .inl (s.seq z)) (fun z => .inr (Tp.same s _ _ z)), n, Fds.keep f (Tp.same s), r⟩
theorem Both.sepM {H : Hp} {C m dx ths nt md kd lg h : Addr} {st ms : V} {kept : List (Int × PyData)} {on : Int} {log : List PyData} (hB : Both K C H m dx ths nt md kd lg h st ms kept on log) : ∀ b, (b = m ∨ b = ths ∨ b = nt) → b ∉ [md, kd, lg] := fun b hb => by
  have a := hB.a2.ob
  obtain ⟨_, c, _⟩ := hB.a2.kp
  obtain ⟨_, d, _⟩ := hB.a2.lo
  have a' := hB.a1.ob
  obtain ⟨_, c', _⟩ := hB.a1.th
  obtain ⟨_, d', _⟩ := hB.a1.lg
  obtain ⟨p1, p2, p3⟩ := hB.ap
  simp only [List.mem_cons, List.not_mem_nil, or_false, not_or]
  rcases hb with z | z | z <;> subst z
  · refine ⟨fun y => ?_, fun y => ?_, fun y => ?_⟩
    · rw [y, a] at a'; cases a'
    · rw [y, c] at a'; cases a'
    · rw [y, d] at a'; cases a'
  · exact ⟨p3.symm, p1.symm, fun y => by rw [y, d] at c'; cases c'⟩
  · exact ⟨fun y => (by rw [y, a] at d'; cases d'), fun y => (by rw [y, c] at d'; cases d'), p2.symm⟩
end
end Lm

set_option Elab.async false
set_option linter.all false
set_option maxRecDepth 100000
set_option maxHeartbeats 2000000
set_option pp.maxSteps 20000
set_option pp.deepTerms true
namespace Lm
open PySem PySem.Spec PyProof.Rows L2 LmR RZ
section
variable {P : Program} {w : World} {K : PySem.W.Frag} {mg : Str → Option Value} {base : Heap} {c_Maker : Addr}
/-- an example of a moderate size -/
def OddE2 (d : PyData) : Prop := isExD d ∧ dsz d ≤ 62 ∧ d.depth ≤ 60
theorem OddEx.two {d : PyData} (h : OddEx d) : OddE2 d := ⟨h.1, Nat.le_trans h.2.1 (by decide), Nat.le_trans h.2.2 (by decide)⟩
theorem pair_open {H : Hp} {v : V} {d e : PyData} (h : Fd K H v (.tuple [d, e])) : ∃ a x y, v = .ref a ∧ SqT K H a [x, y] ∧ Fd K H x d ∧ Fd K H y e := by
  obtain ⟨f, h⟩ := h
  have f' : (flat d && (flat e && true)) = true := f
  rw [Bool.and_eq_true, Bool.and_eq_true] at f'
  cases h with
  | tup q r =>
    cases r with
    | cons a r => cases r with
      | cons b r => cases r; exact ⟨_, _, _, rfl, q, ⟨f'.1, a⟩, ⟨f'.2.1, b⟩⟩
theorem Dr.sq {f l : Addr} {H H' : Hp} {us : List V} (d : Dr f H H') (n : l ≠ f) (h : SqL K H l us) : SqL K H' l us := by
  rcases h with (q | ⟨o, q⟩) | q
  · exact .inl (.inl ((d.off l n).trans q))
  · exact .inl (.inr ⟨o, (d.off l n).trans q⟩)
  · exact .inr q
theorem isBl_bool {d : PyData} (h : isBl d = true) : ∃ b, d = .bool b := by
  cases d <;> first | exact ⟨_, rfl⟩ | cases h
theorem isInt_int {d : PyData} (h : (isInt d && !isBl d) = true) : ∃ n, d = .int n := by
  cases d <;> first | exact ⟨_, rfl⟩ | cases h
abbrev s_l_clashing : Stmt := topS 73
theorem sc_l_clashing : FnScope ["_law_flow_here", "_law_head_here", "_law_some", "_law_inputs", "_law_answer"] ["_law_flow_here", "_law_head_here", "_law_some"] (defScope s_l_clashing) := ⟨rfl, rfl, rfl, by decide +kernel, rfl, by decide +kernel, by decide +kernel⟩
def spClash (K : PySem.W.Frag) : Sp := fun vs H Q _ => ∃ (f h l : Addr) (ks : List Bool) (k : Bool) (us : List V) (ds : List PyData), vs = [.ref f, .ref h, .ref l] ∧ Flow H f ∧ HdAt K H h ks k ∧ SqL K H l us ∧ l ≠ f ∧ Fds K H us (ds.map inEx) ∧ 0 < ds.length ∧ ds.length ≤ 5000 ∧ (∀ d ∈ ds, OddE2 d) ∧
  ∀ (e : Addr) (d : PyData) (H' : Hp), Gr [] f H H' → Fd K H' (.ref e) (inEx d) → OddE2 d → Q (.ref e) H'
theorem ok_l_clashing (B : Bt mg) (C_l_draw : Cal P w K mg base 1 "_law_draw" ["_law_flow_here", "_law_many"] (spDraw)) (C_l_is_of : Cal P w K mg base 1 "_law_is_of" ["_law_kind", "_law_thing"] (spIsOf K)) (D : DefAt K mg "_law_clashing" s_l_clashing ["_law_flow_here", "_law_head_here", "_law_some"]) : Cal P w K mg base 2 "_law_clashing" ["_law_flow_here", "_law_head_here", "_law_some"] (spClash K) := by
  refine cal_of D sc_l_clashing (fun vs H Q E h => ?_) (fun f cdv A outer s H vs Q E hr h => ?_)
  · obtain ⟨a, _, _, _, _, _, _, rfl, _⟩ := h
    rfl
  obtain ⟨f, h, l, ks, k, us, ds, rfl, fl, hh, hl, hlf, hU, h0, hn, hO, q⟩ := h
  have hr' : Room 1 _ := hr
  refine ⟨_, (pss_cons (ps_asg (pe_ix ix_list (pv 2) (pe_cal C_l_draw hr' (by rfl) (pa_cons (pv 0) (pa_cons (pe_callB call_len_seq (by rfl) B.len PySem.boot_len (pa_cons (pv 2) pa_nil)) pa_nil))) (fun _ _ => rfl)) (pg_tup rfl (pgs_cons (pg_name (i := 3) sc_l_clashing.nd rfl (.inl rfl)) (pgs_cons (pg_name (i := 4) sc_l_clashing.nd rfl (.inl rfl)) pgs_nil))))
      (pss_cons (ps_if (pt_not (pt_val (pe_cal C_l_is_of hr' (by rfl) (pa_cons (pe_ix ix_tup (pv 1) pe_int (fun _ _ => rfl)) (pa_cons (pv 4) pa_nil)))))
        (pss_one (ps_ret (pe_tup (pa_cons (pv 3) (pa_cons (pv 4) pa_nil)))))
        pss_nil)
      (pss_cons (ps_if (pt_cmpR op_eq (pe_ix ix_tup (pv 1) pe_int (fun _ _ => rfl)) pe_str (nomark _))
        (pss_one (ps_ret (pe_tup (pa_cons (pv 3) (pa_cons (pe_not (pv 4)) pa_nil)))))
        pss_nil)
      (pss_one (ps_ret (pe_tup (pa_cons (pv 3) (pa_cons (pe_op op_add (pe_op op_add (pv 4) pe_int) (pe_cal C_l_draw hr' (by rfl) (pa_cons (pv 0) (pa_cons pe_int pa_nil)))) pa_nil)))))))), ?_⟩
  have ul : us.length = ds.length := by rw [hU.len, List.length_map]
  obtain ⟨ka, hh1, hh2⟩ := hh
  refine ⟨_, rfl, _, rfl, _, rfl, l, us, rfl, .inl hl, f, _, rfl, fl, by omega, by omega, fun j H1 j0 j1 dr1 => ?_⟩
  have tp1 := dr1.tp fl (K := K)
  have hj : j.toNat < ds.length := by omega
  have hx : us[j.toNat]? = some us[j.toNat] := List.getElem?_eq_getElem (by omega)
  obtain ⟨dd, hd, hF⟩ := (Fds.keep hU tp1).nth hx
  rw [List.getElem?_map] at hd
  obtain ⟨d, hdm, rfl⟩ := Option.map_eq_some_iff.mp hd
  obtain ⟨⟨i, a, rfl⟩, oz, od⟩ := hO d (List.mem_of_getElem? hdm)
  generalize us[j.toNat] = x at hx hF
  obtain ⟨t, u, v, rfl, ht, hu, hv⟩ := pair_open (show Fd K H1 x (.tuple [i, a]) from hF)
  have oz : 1 + (1 + (dsz i + (dsz a + 0))) ≤ 62 := oz
  have od : max 0 (max i.depth (max a.depth 0)) + 1 ≤ 60 := od
  refine ⟨l, _, j, .ref t, rfl, rfl, dr1.sq hlf hl, at_of (j := j.toNat) (by omega) hx, ?_⟩
  refine ⟨t, _, rfl, ht, rfl, _, _, rfl, _, _, rfl, rfl, ?_⟩
  have fin : ∀ (Hx : Hp) (v' : V) (a' : PyData), Gr [] f H Hx → Tp K H1 Hx → Fd K Hx v' a' → dsz a' ≤ dsz a → a'.depth ≤ a.depth → (2 ≤ sizeLine ∧ ∀ e', Hx e' = none → Q (.ref e') (upd Hx e' (.tup [u, v']))) := fun Hx v' a' g tp hv' z1 z2 => by
    refine ⟨by decide, fun e' he' => q e' (exD i a') _ (g.trans (Gr.new g.fl he')) (fd_tup upd_same (.cons ((hu.keep tp).keep (Tp.new he')).2 (.cons (hv'.keep (Tp.new he')).2 .nil)) (by simp [flat.flats, hu.1, hv'.1, exI, exA, exD])) ⟨⟨i, a', rfl⟩, ?_, ?_⟩⟩
    · show 1 + (1 + (dsz i + (dsz a' + 0))) ≤ 62
      omega
    · show max 0 (max i.depth (max a'.depth 0)) + 1 ≤ 60
      omega
  refine ⟨_, rfl, h, _, 1, .str (kS k), rfl, rfl, tp1 _ _ hh1, rfl, _, rfl, k, v, a, rfl, hv, _, rfl, ite2 (fun c => ?_) (fun c => ?_)⟩
  · exact ⟨_, rfl, _, rfl, fin H1 v a dr1.gr (Tp.refl K _) hv (Nat.le_refl _) (Nat.le_refl _)⟩
  have c : hasKd k a = true := by simpa using c
  cases k with
  | true =>
    obtain ⟨b, rfl⟩ := isBl_bool (show isBl a = true from c)
    obtain ⟨_, hv⟩ := hv
    cases hv
    refine ⟨_, rfl, h, _, 1, .str (kS true), rfl, rfl, tp1 _ _ hh1, rfl, rfl, _, rfl, iteT ⟨_, rfl, _, rfl, b, rfl, fin H1 _ (.bool (!b)) dr1.gr (Tp.refl K _) ⟨rfl, .bl _⟩ (Nat.le_refl _) (Nat.le_refl _)⟩⟩
  | false =>
    obtain ⟨n, rfl⟩ := isInt_int (show (isInt a && !isBl a) = true from c)
    obtain ⟨_, hv⟩ := hv
    cases hv
    refine ⟨_, rfl, h, _, 1, .str (kS false), rfl, rfl, tp1 _ _ hh1, rfl, rfl, _, rfl, iteF ⟨_, rfl, _, rfl, n, 1, rfl, rfl, _, rfl, f, 3, rfl, dr1.fl, by decide, by decide, fun m H2 m0 m1 dr2 => ⟨n + 1, m, rfl, rfl, fin H2 _ (.int (n + 1 + m)) (dr1.gr.trans dr2.gr) (dr2.tp dr1.fl) ⟨rfl, .int _⟩ (Nat.le_refl _) (Nat.le_refl _)⟩⟩⟩
theorem step_dp {ks : List Bool} {k : Bool} {kept : List (Int × PyData)} {on : Int} {a : Act} : (stepD ks k kept on a).1.depth ≤ 64 := by
  cases a with
  | wish d =>
    cases e : dueW (ks ++ [k]) d with
    | some xn => obtain ⟨x, m⟩ := xn; rw [st_w1 e]; show max 0 (max 0 (max 0 0)) + 1 ≤ 64; decide
    | none => rw [st_w0 e]; show max 0 (max 0 0) + 1 ≤ 64; decide
  | exs ds =>
    cases e : firstBad (exOk ks k) ds 0 with
    | some m => rw [st_e1 e]; show max 0 (max 0 0) + 1 ≤ 64; decide
    | none =>
      cases e2 : firstClash kept on ds with
      | some xn => obtain ⟨x, m⟩ := xn; rw [st_e2 e e2]; show max 0 (max 0 (max 0 0)) + 1 ≤ 64; decide
      | none =>
        rw [st_e0 e e2]
        have : ∀ l : List Nat, PyData.depthAll (l.map fun (i : Nat) => PyData.int (on + (i : Int))) = 0 := by
          intro l
          induction l with
          | nil => rfl
          | cons i l ih => show max 0 (PyData.depthAll _) = 0; rw [ih]; rfl
        have h2 := this (List.range ds.length)
        show max 0 (max (PyData.depthAll ((List.range ds.length).map fun (i : Nat) => PyData.int (on + (i : Int))) + 1) 0) + 1 ≤ 64
        omega
  | back m =>
    by_cases e : ∃ o ∈ kept, o.1 = m
    · rw [st_b0 e]; show max 0 (max 0 0) + 1 ≤ 64; decide
    · rw [st_b1 fun o h z => e ⟨o, h, z⟩]; show max 0 (max 0 0) + 1 ≤ 64; decide
theorem Both.gr {H H' : Hp} {f C m dx ths nt md kd lg h : Addr} {st ms : V} {kept : List (Int × PyData)} {on : Int} {log : List PyData} (hB : Both K C H m dx ths nt md kd lg h st ms kept on log) (g : Gr [] f H H') (fl : Flow H f) (n1 : nt ≠ f) (n2 : lg ≠ f) : Both K C H' m dx ths nt md kd lg h st ms kept on log := by
  refine ⟨hB.a1.off (fun b o e hb => g.ex b o e ?_) (g.tp fl), hB.a2.gr g fl n2, hB.ap⟩
  have a := hB.a1.ob
  obtain ⟨_, c, _⟩ := hB.a1.th
  have z1 : m ≠ f := fun z => by obtain ⟨xs, e⟩ := fl.lst; rw [z, e] at a; cases a
  have z2 : ths ≠ f := fl.ndk c
  rcases hb with z | z | z <;> rw [z] <;> simp [z1, z2, n1]
theorem Both.nf {H : Hp} {f C m dx ths nt md kd lg h : Addr} {st ms : V} {kept : List (Int × PyData)} {on : Int} {log : List PyData} (hB : Both K C H m dx ths nt md kd lg h st ms kept on log) (fl : Flow H f) (n1 : nt ≠ f) (n2 : lg ≠ f) : f ∉ [m, ths, nt, md, kd, lg] := by
  have a := hB.a1.ob
  obtain ⟨_, c, _⟩ := hB.a1.th
  obtain ⟨_, c', _⟩ := hB.a2.kp
  have z1 : m ≠ f := fun z => by obtain ⟨xs, e⟩ := fl.lst; rw [z, e] at a; cases a
  simp [z1.symm, (fl.ndk c).symm, (fl.ndk hB.a2.ob).symm, (fl.ndk c').symm, n1.symm, n2.symm]
/-- what a maker and its model are kept apart from -/
theorem Both.tp {H H' : Hp} {f C m dx ths nt md kd lg h : Addr} {st ms : V} {kept : List (Int × PyData)} {on : Int} {log : List PyData} (hB : Both K C H m dx ths nt md kd lg h st ms kept on log) (fl : Flow H f) (e : Ex [f, m, ths, nt, md, kd, lg] H H') : Tp K H H' := by
  have a := hB.a1.ob
  obtain ⟨_, b, _⟩ := hB.a1.th
  obtain ⟨_, c, _⟩ := hB.a1.lg
  have a' := hB.a2.ob
  obtain ⟨_, b', _⟩ := hB.a2.kp
  obtain ⟨_, c', _⟩ := hB.a2.lo
  obtain ⟨xs, d⟩ := fl.lst
  refine e.tp fun x hx ys q => ?_
  simp only [List.mem_cons, List.not_mem_nil, or_false] at hx
  rcases hx with z | z | z | z | z | z | z <;> rw [z] at q <;> rcases q with q | ⟨o, q⟩
  · rw [d] at q; cases q
  · rw [d] at q; cases q
  · rw [a] at q; cases q
  · rw [a] at q; cases q
  · rw [b] at q; cases q
  · rw [b] at q; cases q
  · rw [c] at q; cases q
  · rw [c] at q; cases q
  · rw [a'] at q; cases q
  · rw [a'] at q; cases q
  · rw [b'] at q; cases q
  · rw [b'] at q; cases q
  · rw [c'] at q; cases q
  · rw [c'] at q; cases q
theorem Both.no {H : Hp} {C m dx ths nt md kd lg h b : Addr} {st ms : V} {kept : List (Int × PyData)} {on : Int} {log : List PyData} (hB : Both K C H m dx ths nt md kd lg h st ms kept on log) (n : H b = none) : b ∉ [m, ths, nt, md, kd, lg] := by
  have a := hB.a1.ob
  obtain ⟨_, c, _⟩ := hB.a1.th
  obtain ⟨_, d, _⟩ := hB.a1.lg
  have a' := hB.a2.ob
  obtain ⟨_, c', _⟩ := hB.a2.kp
  obtain ⟨_, d', _⟩ := hB.a2.lo
  simp [(ne_of_none a n).symm, (ne_of_none c n).symm, (ne_of_none d n).symm, (ne_of_none a' n).symm, (ne_of_none c' n).symm, (ne_of_none d' n).symm]
/-- a deed told to a maker, then to its model -/
theorem deed2 {H : Hp} {m dx ths nt md kd lg h : Addr} {ks : List Bool} {k : Bool} {st ms : V} {kept : List (Int × PyData)} {on : Int} {log : List PyData} {n : Nat} {act : Act} {v : V} {Qs : V → Hp → Prop} {Es : XK} (hB : Both K c_Maker H m dx ths nt md kd lg h st ms kept on log) (hH : HdAt K H h ks k) (hks : ks.length ≤ 2) (G : Good n kept on log) (hn : n < 14)
    (hact : ActAt K ["foo"] H nt v act) (hact2 : ∀ H', Ex [m, ths, nt] H H' → Tp K H H' → ActAt K ["foo"] H' lg v act) (hD : ActD ["foo"] 42 act) (hS : ActS act)
    (q : ∀ u1 H1, (∀ (Q2 : V → Hp → Prop) (E2 : XK), (∀ u2 H2, Ex [m, ths, nt, md, kd, lg] H H2 → Fd K H2 u1 (stepD ks k kept on act).1 → Fd K H2 u2 (stepD ks k kept on act).1 → Both K c_Maker H2 m dx ths nt md kd lg h st ms (stepD ks k kept on act).2.1 (stepD ks k kept on act).2.2 (log ++ [inD act.word, outD act.word]) → Q2 u2 H2) → spMDue K ["foo"] 42 [.ref md, .str act.word, v] H1 Q2 E2) → Qs u1 H1) : spSaid K c_Maker ["foo"] [.ref m, .str act.word, v] H Qs Es := by
  have am : act.many ≤ 6 := by
    cases act with
    | wish d => show 1 ≤ 6; decide
    | exs ds => exact hS.1
    | back z => show 0 ≤ 6; decide
  have kl := G.kl
  have o1 := G.o1
  have ll := G.ll
  have M := hB.a1
  have L := hB.a2
  obtain ⟨ap1, ap2, ap3⟩ := hB.ap
  have sepL : ∀ b, (b = md ∨ b = kd ∨ b = lg) → b ∉ [m, ths, nt] := fun b hb hm => by
    simp only [List.mem_cons, List.not_mem_nil, or_false] at hm
    exact hB.sepM b hm (by simp only [List.mem_cons, List.not_mem_nil, or_false]; exact hb)
  refine ⟨m, dx, ths, nt, h, ks, k, st, ms, kept, on, log, act, v, rfl, M, hH, by omega, hact, G.ok, by omega, by omega, by omega, fun u1 H1 e1 hu1 M1 => q u1 H1 fun Q2 E2 q2 => ?_⟩
  have tp1 : Tp K H H1 := M.tp e1 (by simp)
  have L1 : Mdl K H1 md kd lg h kept on log := L.off (fun b o e hb => e1 b o e (sepL b hb)) tp1
  refine ⟨md, kd, lg, h, ks, k, kept, on, log, act, v, rfl, L1, hH.keep tp1, by omega, hact2 H1 e1 tp1, hD, G.ok, G.lt, G.o0, by omega, by omega, by omega, fun u2 H2 e2 hu2 L2 => ?_⟩
  have tp2 : Tp K H1 H2 := L1.tp e2 (by simp)
  exact q2 u2 H2 ((e1.mono (by simp)).trans (e2.mono (by simp))) (hu1.keep tp2) hu2 ⟨M1.off (fun b o e hb => e2 b o e (hB.sepM b hb)) tp2, L2, ap1, ap2, ap3⟩
theorem ActAt.f {bad : List Str} {H : Hp} {nt : Addr} {v : V} {act : Act} (h : ActAt K bad H nt v act) : ActF act := by
  cases act with
  | wish d => exact h.1.1
  | exs ds => obtain ⟨_, _, _, _, _, _, a, b⟩ := h; exact fun d hd => ⟨a d hd, b d hd⟩
  | back z => trivial
theorem lit_odd {ks : List Bool} {k : Bool} {ds : List PyData} {d : PyData} (hk : ks.length ≤ 2) (hP : Paired Lit ks ds) (hL : Lit k d) : OddEx (exD (.tuple ds) d) := by
  obtain ⟨dl2, dsm⟩ := lit_small hP
  obtain ⟨hlz, hld⟩ := lit_sz hL
  have z1 := szs_le dsm
  have z2 := depAll fun x hx => (dsm x hx).2
  refine ⟨⟨_, _, rfl⟩, ?_, ?_⟩
  · show 1 + (1 + ((1 + dsz.dszs ds) + (dsz d + 0))) ≤ 40
    omega
  · show max 0 (max (PyData.depthAll ds + 1) (max d.depth 0)) + 1 ≤ 10
    omega
theorem ex_fd {H : Hp} {e t : Addr} {us : List V} {v : V} {ds : List PyData} {d : PyData} (he : H e = some (.tup [.ref t, v])) (ht : H t = some (.tup us)) (hU : Fds K H us ds) (hv : Fd K H v d) : Fd K H (.ref e) (inEx (exD (.tuple ds) d)) :=
  ⟨by simp [inEx, exI, exA, exD, flat, flat.flats, hv.1]; exact hU.1, .tup (.inl (.inl he)) (.cons (.tup (.inl (.inl ht)) hU.2) (.cons hv.2 .nil))⟩
abbrev s_l_begun : Stmt := topS 74
theorem sc_l_begun : FnScope ["_law_flow_here", "_law_head_here", "_law_maker", "_law_model", "_law_turn", "_law_wish", "_law_some"] ["_law_flow_here", "_law_head_here", "_law_maker", "_law_model"] (defScope s_l_begun) := ⟨rfl, rfl, rfl, by decide +kernel, rfl, by decide +kernel, by decide +kernel⟩
/-- all that a maker and its model are -/
def mAll (f m ths nt md kd lg : Addr) : List Addr := [f, m, ths, nt, md, kd, lg]
def spBegun (K : PySem.W.Frag) (C : Addr) : Sp := fun vs H Q _ => ∃ (f m dx ths nt md kd lg h : Addr) (ks : List Bool) (k : Bool) (st ms : V), vs = [.ref f, .ref h, .ref m, .ref md] ∧ Flow H f ∧ nt ≠ f ∧ lg ≠ f ∧ Both K C H m dx ths nt md kd lg h st ms [] 0 [] ∧ HdAt K H h ks k ∧ ks.length ≤ 2 ∧
  ∀ (n : Nat) (kept : List (Int × PyData)) (on : Int) (log : List PyData) (H' : Hp), n ≤ 5 → Ex [f, m, ths, nt, md, kd, lg] H H' → Flow H' f → Both K C H' m dx ths nt md kd lg h st ms kept on log → Good n kept on log → Q (.bl true) H'
theorem ok_l_begun (B : Bt mg) (C_l_draw : Cal P w K mg base 46 "_law_draw" ["_law_flow_here", "_law_many"] (spDraw)) (C_l_small_wish : Cal P w K mg base 46 "_law_small_wish" ["_law_flow_here", "_law_kinds", "_law_kind"] (spSmW K)) (C_l_maker_due : Cal P w K mg base 46 "_law_maker_due" ["_law_model", "_law_word", "_law_thing"] (spMDue K ["foo"] 42)) (C_l_maker_said : Cal P w K mg base 46 "_law_maker_said" ["_law_maker", "_law_word", "_law_thing"] (spSaid K c_Maker ["foo"])) (C_l_example : Cal P w K mg base 46 "_law_example" ["_law_flow_here", "_law_head_here"] (spExa K)) (D : DefAt K mg "_law_begun" s_l_begun ["_law_flow_here", "_law_head_here", "_law_maker", "_law_model"]) : Cal P w K mg base 47 "_law_begun" ["_law_flow_here", "_law_head_here", "_law_maker", "_law_model"] (spBegun K c_Maker) := by
  refine cal_of D sc_l_begun (fun vs H Q E h => ?_) (fun f cdv A outer s H vs Q E hr h => ?_)
  · obtain ⟨f, m, dx, ths, nt, md, kd, lg, h, ks, k, st, ms, rfl, _⟩ := h
    rfl
  obtain ⟨f, m, dx, ths, nt, md, kd, lg, h, ks, k, st, ms, rfl, fl, n1, n2, hB, hH, hks, q⟩ := h
  have hr' : Room 46 _ := hr
  refine ⟨_, (pss_cons (ps_for PassesOwn.never rfl (pi_range1 (by rfl) B.range (pa_cons (pe_cal C_l_draw hr' (by rfl) (pa_cons (pv 0) (pa_cons pe_int pa_nil))) pa_nil)) (pg_name (i := 4) sc_l_begun.nd rfl (.inl rfl))
        (pss_cons (ps_set (i := 5) sc_l_begun.nd rfl (.inl rfl) (pe_cal C_l_small_wish hr' (by rfl) (pa_cons (pv 0) (pa_cons (pe_ix ix_tup (pv 1) pe_int (fun _ _ => rfl)) (pa_cons (pe_ix ix_tup (pv 1) pe_int (fun _ _ => rfl)) pa_nil)))))
      (pss_one (ps_if (pt_cmpR (op_neP hr.units) (pe_cal C_l_maker_said hr' (by rfl) (pa_cons (pv 2) (pa_cons pe_str (pa_cons (pv 5) pa_nil)))) (pe_cal C_l_maker_due hr' (by rfl) (pa_cons (pv 3) (pa_cons pe_str (pa_cons (pv 5) pa_nil)))) (nomark _))
        (pss_one (ps_ret pe_bl))
        pss_nil))))
      (pss_cons (ps_for PassesOwn.never rfl (pi_range1 (by rfl) B.range (pa_cons (pe_cal C_l_draw hr' (by rfl) (pa_cons (pv 0) (pa_cons pe_int pa_nil))) pa_nil)) (pg_name (i := 4) sc_l_begun.nd rfl (.inl rfl))
        (pss_cons (ps_set (i := 6) sc_l_begun.nd rfl (.inl rfl) (pe_lst (pa_cons (pe_cal C_l_example hr' (by rfl) (pa_cons (pv 0) (pa_cons (pv 1) pa_nil))) pa_nil)))
      (pss_one (ps_if (pt_cmpR (op_neP hr.units) (pe_cal C_l_maker_said hr' (by rfl) (pa_cons (pv 2) (pa_cons pe_str (pa_cons (pv 6) pa_nil)))) (pe_cal C_l_maker_due hr' (by rfl) (pa_cons (pv 3) (pa_cons pe_str (pa_cons (pv 6) pa_nil)))) (nomark _))
        (pss_one (ps_ret pe_bl))
        pss_nil))))
      (pss_one (ps_ret pe_bl)))), ?_⟩
  refine ⟨_, rfl, f, 4, rfl, fl, by decide, by decide, fun n H1 x0 x1 dr1 => ⟨n, rfl, by omega, by omega, for_range (lo := 0) (n := n.toNat) (fun i σ' H' => (∃ y4 y5 y6 : Option V, σ' = [some (.ref f), some (.ref h), some (.ref m), some (.ref md), y4, y5, y6]) ∧ Ex [f, m, ths, nt, md, kd, lg] H H' ∧ Flow H' f ∧ ∃ kept on log, Both K c_Maker H' m dx ths nt md kd lg h st ms kept on log ∧ Good i kept on log) ⟨⟨_, _, _, rfl⟩, dr1.ex.mono (by simp), dr1.fl, [], 0, [], hB.gr dr1.gr fl n1 n2, Good.zero⟩ ?_ ?_⟩⟩
  · rintro i _ H2 hi ⟨⟨y4, y5, y6, rfl⟩, e2, fl2, kept, on, log, B2, G2⟩
    have hH2 := hH.keep (hB.tp fl e2)
    obtain ⟨ka, hh1, hh2⟩ := id hH2
    refine ⟨_, rfl, _, rfl, h, _, 0, .ref ka, rfl, rfl, hh1, rfl, _, rfl, h, _, 1, .str (kS k), rfl, rfl, hh1, rfl, f, ka, ks, k, rfl, fl2, hh2, hks, fun v p H3 g3 hat wn ow sz => ?_⟩
    have dz := dsz_enc3 p
    have dd := depD_enc p
    have dl := dep_le p
    have okp : okD ["foo"] (enc p) := okD_enc p
    obtain ⟨kg1, kg2⟩ := kn_good okp (by omega)
    have B3 := B2.gr g3 fl2 n1 n2
    have hA : ∀ nt', ActAt K ["foo"] H3 nt' v (.wish (enc p)) := fun _ => ⟨hat.fd, kg1, kg2⟩
    have hS : ActS (.wish (enc p)) := show dsz (enc p) ≤ 60 by omega
    refine ⟨_, rfl, _, rfl, deed2 (Es := fun _ _ _ => False) (act := .wish (enc p)) B3 (hH2.keep (g3.tp fl2)) hks G2 (by omega) (hA nt) (fun H' _ tp => ⟨hat.fd.keep tp, kg1, kg2⟩) ⟨okp, by omega, by omega⟩ hS fun u1 H4 nxt => ⟨_, rfl, _, rfl, nxt _ (fun _ _ _ => False) fun u2 H5 e5 f1 f2 B5 => ?_⟩⟩
    have pl := plain_flat _ f1.1
    refine ⟨_, _, f1.2, f2.2, pl, pl, step_dp, _, rfl, iteF' (by rw [SeqAt.eqv_refl_plain _ pl]; rfl) ⟨⟨_, _, _, rfl⟩, ?_, ?_, _, _, _, B5, G2.step hS (hA nt).f⟩⟩
    · exact (e2.trans (g3.ex.mono (by simp))).trans (e5.mono (by simp))
    · obtain ⟨x, y, z, e, r⟩ := g3.fl
      exact ⟨x, y, z, e5 _ _ e (B3.nf g3.fl n1 n2), r⟩
  rintro _ H2 ⟨⟨y4, y5, y6, rfl⟩, e2, fl2, kept, on, log, B2, G2⟩
  refine ⟨_, rfl, f, 3, rfl, fl2, by decide, by decide, fun n' H3 z0 z1 dr3 => ⟨n', rfl, by omega, by omega, for_range (lo := 0) (n := n'.toNat) (fun i σ' H' => (∃ y4 y5 y6 : Option V, σ' = [some (.ref f), some (.ref h), some (.ref m), some (.ref md), y4, y5, y6]) ∧ Ex [f, m, ths, nt, md, kd, lg] H H' ∧ Flow H' f ∧ ∃ kept on log, Both K c_Maker H' m dx ths nt md kd lg h st ms kept on log ∧ Good (n.toNat + i) kept on log) ⟨⟨_, _, _, rfl⟩, e2.trans (dr3.ex.mono (by simp)), dr3.fl, kept, on, log, B2.gr dr3.gr fl2 n1 n2, G2⟩ ?_ ?_⟩⟩
  · rintro i _ H4 hi ⟨⟨y4, y5, y6, rfl⟩, e4, fl4, kept, on, log, B4, G4⟩
    have hH4 := hH.keep (hB.tp fl e4)
    refine ⟨_, rfl, _, rfl, f, h, ks, k, rfl, fl4, hH4, hks, fun e t us v ds d H5 g5 he ht hU hv hP hL => ⟨(by show 1 ≤ sizeLine; decide), fun l hl => ?_⟩⟩
    have s6 := same_new (o := .lst [.ref e]) hl
    have e6 : upd H5 l (.lst [.ref e]) l = some (.lst [.ref e]) := upd_same
    have g6 := g5.trans (Gr.new (o := .lst [.ref e]) g5.fl hl)
    have B5 := B4.gr g5 fl4 n1 n2
    have fx := (ex_fd he ht hU hv).keep (K := K) (Tp.same s6)
    have nb := B5.no hl
    simp only [List.mem_cons, List.not_mem_nil, or_false, not_or] at nb
    obtain ⟨nb1, nb2, nl, nb4, nb5, nlg⟩ := nb
    generalize upd H5 l (.lst [.ref e]) = H6 at s6 e6 g6 fx
    have B6 := B4.gr g6 fl4 n1 n2
    have od := lit_odd hks hP hL
    have fxs : Fds K H6 [.ref e] (List.map inEx [exD (.tuple ds) d]) := Fds.cons fx Fds.nil
    have hA : ∀ H', Tp K H6 H' → H' l = some (.lst [.ref e]) → ∀ nt', l ≠ nt' → ActAt K ["foo"] H' nt' (.ref l) (.exs [exD (.tuple ds) d]) := fun H' tp el nt' hne => ⟨l, _, rfl, .inl (SqL.of el), hne, Fds.keep fxs tp, fun x hx => (by rw [List.mem_singleton.mp hx]; exact ⟨_, _, rfl⟩), fun x hx => (by rw [List.mem_singleton.mp hx]; exact Nat.le_trans od.2.2 (by decide))⟩
    have hS : ActS (.exs [exD (.tuple ds) d]) := ⟨(by show 1 ≤ 6; decide), fun x hx => (by rw [List.mem_singleton.mp hx]; exact Nat.le_trans od.2.1 (by decide))⟩
    have nm : l ∉ [m, ths, nt] := by simp [nb1, nb2, nl]
    refine ⟨_, rfl, _, rfl, deed2 (Es := fun _ _ _ => False) (act := .exs [exD (.tuple ds) d]) B6 (hH4.keep (g6.tp fl4)) hks G4 (by omega) (hA H6 (Tp.refl K _) e6 nt nl) (fun H' ex tp => hA H' tp (ex _ _ e6 nm) lg nlg) trivial hS fun u1 H7 nxt => ⟨_, rfl, _, rfl, nxt _ (fun _ _ _ => False) fun u2 H8 e8 f1 f2 B8 => ?_⟩⟩
    have pl := plain_flat _ f1.1
    refine ⟨_, _, f1.2, f2.2, pl, pl, step_dp, _, rfl, iteF' (by rw [SeqAt.eqv_refl_plain _ pl]; rfl) ⟨⟨_, _, _, rfl⟩, ?_, ?_, _, _, _, B8, G4.step hS (hA H6 (Tp.refl K _) e6 nt nl).f⟩⟩
    · exact (e4.trans (g6.ex.mono (by simp))).trans (e8.mono (by simp))
    · obtain ⟨x, y, z, e, r⟩ := g6.fl
      exact ⟨x, y, z, e8 _ _ e (B6.nf g6.fl n1 n2), r⟩
  rintro _ H4 ⟨⟨y4, y5, y6, rfl⟩, e4, fl4, kept, on, log, B4, G4⟩
  exact q _ kept on log H4 (by omega) e4 fl4 B4 G4
end
end Lm

set_option Elab.async false
set_option linter.all false
set_option maxRecDepth 100000
set_option maxHeartbeats 2000000
set_option pp.maxSteps 20000
set_option pp.deepTerms true
namespace Lm
open PySem PySem.Spec PyProof.Rows L2 LmR RZ
section
variable {P : Program} {w : World} {K : PySem.W.Frag} {mg : Str → Option Value} {base : Heap} {c_Maker : Addr}
theorem triple_open {H : Hp} {v : V} {d e g : PyData} (h : Fd K H v (.tuple [d, e, g])) : ∃ a x y z, v = .ref a ∧ SqT K H a [x, y, z] ∧ Fd K H x d ∧ Fd K H y e ∧ Fd K H z g := by
  obtain ⟨f, h⟩ := h
  have f' : (flat d && (flat e && (flat g && true))) = true := f
  rw [Bool.and_eq_true, Bool.and_eq_true, Bool.and_eq_true] at f'
  cases h with
  | tup q r =>
    cases r with
    | cons a r => cases r with
      | cons b r => cases r with
        | cons c r => cases r; exact ⟨_, _, _, _, rfl, q, ⟨f'.1, a⟩, ⟨f'.2.1, b⟩, ⟨f'.2.2.1, c⟩⟩
theorem slA_any3 {a : Addr} {xs : List V} {lo hi : Option Int} {H : Hp} {Q : VK} (ha : SqT K H a xs) (q : ∀ p H', (H' = H ∨ (H p = none ∧ H' = upd H p (.tup (cutV xs lo hi)))) → SqT K H' p (cutV xs lo hi) → Q (.ref p) H') : rSlA K (.ref a) lo hi H Q :=
  ⟨a, xs, rfl, ha, fun h => q a H (.inl rfl) (by rw [cutV_all h]; exact ha), fun _ p hp => q p _ (.inr ⟨hp, rfl⟩) (.inl (.inl upd_same))⟩
/-- the examples that are kept, as pairs, in a new list -/
theorem ahead_of {H : Hp} {md kd lg h : Addr} {kept : List (Int × PyData)} {on : Int} {log : List PyData} {s0 s1 s2 s3 s4 s5 s6 s7 s8 s9 s10 s11 s12 s13 : Option V} {Q : VK} (hM : Mdl K H md kd lg h kept on log) (h5 : s5 = some (.ref md)) (hok : OkK kept) (hsz : ∀ o ∈ kept, dsz o.2 ≤ 62) (hkl : kept.length ≤ 5000)
    (q : ∀ (D : Addr) (us : List V) (ds : List PyData) (H' : Hp), Same H H' → H D = none → H' D = some (.lst us) → Fds K H' us (ds.map inEx) → (∀ d ∈ ds, OddE2 d) → ds.length ≤ kept.length → Q (.ref D) H') : tLockE (tLc (iVals (tDGet (tVar 5) (tC (.str "kept")))) (gName 13) (tTest (tOp rEq (tOp (rIxT K) (tVar 13) (tC (.int 0))) (tC (.str "example")))) (tSl (rSlA K) (tVar 13) (tPart (tC (.int 1))) tNoPart) [13]) [s0, s1, s2, s3, s4, s5, s6, s7, s8, s9, s10, s11, s12, s13] H Q := by
  subst h5
  obtain ⟨kvs, hkd, hkf⟩ := hM.kp
  have nm := hM.ne.1
  refine ⟨kd, .dK kvs, hkd, trivial, fun od => ⟨_, rfl, md, .ref kd, rfl, .inl ⟨_, .inr "kept", .inl (by rw [upd_ne nm]; exact hM.ob), rfl, rfl⟩, kd, od, kvs, rfl, upd_same, fun D hD => lc_it walk_vals (fun i H2 => H2 kd = some (.frz od (.dK kvs)) ∧ (∀ b o, H b = some o → b ≠ kd → H2 b = some o) ∧ ∃ (ws : List V) (ds : List PyData), H2 D = some (.lst ws) ∧ Fds K H2 ws (ds.map inEx) ∧ (∀ d ∈ ds, OddE2 d) ∧ ds.length ≤ i) ?_ ?_ ?_ ?_⟩⟩
  · refine ⟨by rw [upd_ne (fun z => by rw [← z, upd_same] at hD; cases hD), upd_same], fun b o e n => ?_, [], [], upd_same, Fds.nil, fun _ h => (nomatch h), Nat.le_refl _⟩
    rw [upd_ne (ne_of_none (by rw [upd_ne n]; exact e) hD), upd_ne n]
    exact e
  · rintro i H2 _ ⟨g, _⟩
    exact g
  · rintro i y Ha Hb hi ⟨hz, hs, ws, ds, hA, hF, hO, wl⟩ ⟨eH, c, hkv⟩
    subst eH
    obtain ⟨o, ho, rfl, hv⟩ := kf_nth hkf hkv
    have tpa : Tp K H Hb := Ex.tp (ws := [kd]) (fun b o e n => hs b o e (by simpa using n)) fun b hb xs q' => by
      rw [List.mem_singleton.mp hb] at q'
      rcases q' with q' | ⟨u, q'⟩ <;> rw [hkd] at q' <;> cases q'
    have hv1 := hv.keep tpa
    have hom := List.mem_of_getElem? ho
    obtain ⟨w0, r0, ew⟩ := hok.2.1 o hom
    have hv2 := hv1
    rw [ew] at hv2
    obtain ⟨ty, ys, rfl, hty⟩ := word_read hv2
    have hil : i < 5000 := by have := (List.getElem?_eq_some_iff.mp ho).1; omega
    have nkD : kd ≠ D := fun z => by rw [← z, upd_same] at hD; cases hD
    refine ⟨rfl, _, rfl, ty, _, 0, .str w0, rfl, rfl, hty, at_of (j := 0) rfl rfl, rfl, _, rfl, ite2 (fun c => ?_) (fun c => ?_)⟩
    · have ew0 : w0 = "example" := V.str.inj (of_decide_eq_true c)
      have hb : isExB o.2 = true := by rw [ew, ew0]; rfl
      obtain ⟨ii, aa, eo⟩ := hok.1 o hom hb
      have hz1 := hsz o hom
      have hd1 := hok.2.2 o hom
      rw [eo] at hv1 hz1 hd1
      obtain ⟨ty', u0, u1, u2, e', hty', f0, f1, f2⟩ := triple_open (show Fd K Hb (.ref ty) (.tuple [.str "example", ii, aa]) from hv1)
      cases e'
      refine ⟨_, rfl, 1, rfl, ?_⟩
      delta tNoPart
      refine slA_any3 hty' fun p H4 hp ht => ?_
      have ht : SqT K H4 p [u1, u2] := ht
      have s4 : Same Hb H4 := by
        rcases hp with e | ⟨n, e⟩
        · rw [e]; exact fun _ _ z => z
        · rw [e]; exact same_new n
      have hA4 := s4 _ _ hA
      have tpD : Tp K H4 (upd H4 D (.lst (ws ++ [.ref p]))) := Tp.lst hA4
      have tp4 : Tp K Hb (upd H4 D (.lst (ws ++ [.ref p]))) := (Tp.same s4).trans tpD
      have wsl : ws.length = ds.length := by rw [hF.len, List.length_map]
      refine ⟨ws, hA4, smallL (by omega), by rw [upd_ne nkD]; exact s4 _ _ hz, fun b u e n => ?_, ws ++ [.ref p], ds ++ [exD ii aa], upd_same, ?_, fun d hd => ?_, by rw [List.length_append]; simp; omega⟩
      · have hbD : b ≠ D := fun z => by
          rw [← z, upd_ne n, e] at hD
          cases hD
        rw [upd_ne hbD]
        exact s4 _ _ (hs b u e n)
      · rw [List.map_append]
        exact (Fds.keep hF tp4).app (Fds.cons (Fd.keep (H := H4) ⟨by simp [inEx, exI, exA, exD, flat, flat.flats, f1.1, f2.1], .tup ht (.cons (f1.keep (Tp.same s4)).2 (.cons (f2.keep (Tp.same s4)).2 .nil))⟩ tpD) Fds.nil)
      · rcases List.mem_append.mp hd with y | y
        · exact hO d y
        · rw [List.mem_singleton.mp y]
          exact ⟨⟨_, _, rfl⟩, hz1, hd1⟩
    · exact ⟨hz, hs, ws, ds, hA, hF, hO, by omega⟩
  · rintro H2 ⟨hz, hs, ws, ds, hA, hF, hO, wl⟩
    have nkD : kd ≠ D := fun z => by rw [← z, hz] at hA; cases hA
    have s2 : Same H (upd H2 kd (.dK kvs)) := fun b o e => by
      by_cases z : b = kd
      · rw [z, upd_same]
        rw [z, hkd] at e
        exact e
      · rw [upd_ne z]
        exact hs b o e z
    have tp2 : Tp K H2 (upd H2 kd (.dK kvs)) := Ex.tp (ws := [kd]) (Ex.at (by simp)) fun b hb xs q' => by
      rw [List.mem_singleton.mp hb] at q'
      rcases q' with q' | ⟨u, q'⟩ <;> rw [hz] at q' <;> cases q'
    have D0 : H D = none := by
      cases e : H D with
      | none => rfl
      | some o => rw [upd_ne nkD.symm, e] at hD; cases hD
    refine ⟨hz, q D ws ds _ s2 D0 (by rw [upd_ne nkD.symm]; exact hA) (Fds.keep hF tp2) hO (by rw [← hkf.len]; exact wl)⟩
theorem sl_tupAK {X : Cx} {K : PySem.W.Frag} (h : X.K = K) : SlR X (rSlA K) := h ▸ sl_tupA
/-- examples in a list, of a moderate size -/
def LE2 (K : PySem.W.Frag) (H : Hp) (D : Addr) (n : Nat) : Prop := ∃ (us : List V) (ds : List PyData), H D = some (.lst us) ∧ Fds K H us (ds.map inEx) ∧ ds.length = n ∧ ∀ d ∈ ds, OddE2 d
theorem LE2.keep {H H' : Hp} {D : Addr} {n : Nat} (h : LE2 K H D n) (t : Tp K H H') (e : H' D = H D) : LE2 K H' D n := by
  obtain ⟨us, ds, a, b, c, d⟩ := h
  exact ⟨us, ds, e.trans a, Fds.keep b t, c, d⟩
theorem Both.same' {H H' : Hp} {C m dx ths nt md kd lg h : Addr} {st ms : V} {kept : List (Int × PyData)} {on : Int} {log : List PyData} (hB : Both K C H m dx ths nt md kd lg h st ms kept on log) (s : Same H H') : Both K C H' m dx ths nt md kd lg h st ms kept on log := ⟨hB.a1.same s, hB.a2.same s, hB.ap⟩
abbrev s_law : Stmt := topS 75
theorem sc_law : FnScope ["_law_script", "_law_k", "_law_flow_here", "_law_head_here", "_law_maker", "_law_model", "_law_some", "_law_good", "_law_turn", "_law_one", "_law_ahead", "_law_new", "_law_j", "_law_thing"] ["_law_script"] (defScope s_law) := ⟨rfl, rfl, rfl, by decide +kernel, rfl, by decide +kernel, by decide +kernel⟩
def spLaw (K : PySem.W.Frag) : Sp := fun vs H Q _ => ∃ (a : Addr) (ns : List Int), vs = [.ref a] ∧ SqL K H a (ns.map V.int) ∧ ns.length ≤ 63 ∧ ∀ H', Q (.bl true) H'
theorem ok_law {v1 v2 : V} (B : Bt mg) (C_l_flow : Cal P w K mg base 48 "_law_flow" ["_law_script", "_law_k"] (spFlow K)) (C_l_head : Cal P w K mg base 48 "_law_head" ["_law_flow_here"] (spHead K)) (C_l_new_model : Cal P w K mg base 48 "_law_new_model" ["_law_head_here"] (spNewM K)) (C_l_stands : Cal P w K mg base 48 "_law_stands" ["_law_maker", "_law_model"] (spStands K c_Maker)) (C_l_begun : Cal P w K mg base 48 "_law_begun" ["_law_flow_here", "_law_head_here", "_law_maker", "_law_model"] (spBegun K c_Maker)) (C_l_draw : Cal P w K mg base 48 "_law_draw" ["_law_flow_here", "_law_many"] (spDraw)) (C_l_example : Cal P w K mg base 48 "_law_example" ["_law_flow_here", "_law_head_here"] (spExa K)) (C_l_clashing : Cal P w K mg base 48 "_law_clashing" ["_law_flow_here", "_law_head_here", "_law_some"] (spClash K)) (C_l_bad_example : Cal P w K mg base 48 "_law_bad_example" ["_law_flow_here", "_law_head_here"] (spBadE K)) (C_l_alike : Cal P w K mg base 48 "_law_alike" ["_law_found", "_law_due"] (spAlike K))
    (C_l_maker_due : Cal P w K mg base 48 "_law_maker_due" ["_law_model", "_law_word", "_law_thing"] (spMDue K ["foo"] 42)) (C_l_maker_said : Cal P w K mg base 48 "_law_maker_said" ["_law_maker", "_law_word", "_law_thing"] (spSaid K c_Maker ["foo"]))
    (I_Maker : CalIW P w K mg base 47 c_Maker "Maker" ["self", "head", "stock", "most"] [v1, v2] (spMI c_Maker)) {f : Addr} {fd : FuncData} (F : Fun K "law" "law" s_law f fd) : FnOk P w K mg base CX0 49 f fd ["_law_script"] (spLaw K) := by
  refine F.ok sc_law (fun vs H Q E h => ?_) (fun cdv A outer s H vs Q E hr h => ?_)
  · obtain ⟨a, ns, rfl, _⟩ := h
    rfl
  obtain ⟨a, ns, rfl, hS, h63, q⟩ := h
  have hr' : Room 48 _ := hr
  refine ⟨_, (pss_cons (ps_for PassesOwn.never rfl (pi_range1 (by rfl) B.range (pa_cons (pe_callB (call_max2 rfl) (by rfl) B.max PyProof.Rows.boot_max (pa_cons pe_int (pa_cons (pe_callB call_len_seq (by rfl) B.len PySem.boot_len (pa_cons (pe_slice sl_list (pv 0) po_none (po_some pe_int)) pa_nil)) pa_nil))) pa_nil)) (pg_name (i := 1) sc_law.nd rfl (.inl rfl))
        (pss_cons (ps_set (i := 2) sc_law.nd rfl (.inr rfl) (pe_cal C_l_flow hr' (by rfl) (pa_cons (pv 0) (pa_cons (pv 1) pa_nil))))
      (pss_cons (ps_set (i := 3) sc_law.nd rfl (.inr rfl) (pe_cal C_l_head hr' (by rfl) (pa_cons (pv 2) pa_nil)))
      (pss_cons (ps_par (i := 4) (j := 5) rfl sc_law.nd rfl rfl (by decide) rfl rfl (pa_cons (pe_calIW I_Maker hr' (by rfl) (pa_cons (pv 3) pa_nil)) (pa_cons (pe_cal C_l_new_model hr' (by rfl) (pa_cons (pv 3) pa_nil)) pa_nil)) rfl)
      (pss_cons (ps_if (pt_not (pt_val (pe_cal C_l_begun hr' (by rfl) (pa_cons (pv 2) (pa_cons (pv 3) (pa_cons (pv 4) (pa_cons (pv 5) pa_nil)))))))
        (pss_one (ps_ret pe_bl))
        pss_nil)
      (C8.pss_cut (ps_setLc (i := 6) (own := [("_law_j", 12)]) (g := gName 12) rfl sc_law.nd rfl rfl (sw_true rfl rfl rfl (by decide +kernel)) (pi_range1 (by rfl) B.range (pa_cons (pe_op op_add pe_int (pe_cal C_l_draw hr' (by rfl) (pa_cons (pv 2) (pa_cons pe_int pa_nil)))) pa_nil)) (blkOk_by (own := [("_law_j", 12)]) (N := ["_law_script", "_law_k", "_law_flow_here", "_law_head_here", "_law_maker", "_law_model", "_law_some", "_law_good", "_law_turn", "_law_one", "_law_ahead", "_law_new", "_law_j", "_law_thing"]) (sc := defScope s_law) (by decide +kernel)) (fun _ _ _ _ _ => (pg_name (i := 12) sc_law.nd rfl (.inl rfl))) (fun _ _ _ _ _ => pts_nil) (fun _ _ _ _ _ => (pe_cal C_l_example hr' (by rfl) (pa_cons (pv 2) (pa_cons (pv 3) pa_nil)))))
      (pss_cons (ps_set (i := 7) sc_law.nd rfl (.inl rfl) (pe_callTy call_list_of (by rfl) B.list PyProof.Rows.boot_list (pa_cons (pv 6) pa_nil)))
      (pss_cons (ps_for PassesOwn.never rfl (pi_range1 (by rfl) B.range (pa_cons (pe_op op_add pe_int (pe_cal C_l_draw hr' (by rfl) (pa_cons (pv 2) (pa_cons pe_int pa_nil)))) pa_nil)) (pg_name (i := 8) sc_law.nd rfl (.inl rfl))
        (pss_cons (ps_set (i := 10) sc_law.nd rfl (.inl rfl) (pe_op op_cat (pe_lock (pe_lc (own := [("_law_thing", 13)]) (g := gName 13) rfl sc_law.nd (pi_values (pe_dget (hu_of hr) (pv 5) pe_str (fun _ _ => rfl))) (blkOk_by (own := [("_law_thing", 13)]) (N := ["_law_script", "_law_k", "_law_flow_here", "_law_head_here", "_law_maker", "_law_model", "_law_some", "_law_good", "_law_turn", "_law_one", "_law_ahead", "_law_new", "_law_j", "_law_thing"]) (sc := defScope s_law) (by decide +kernel)) (fun _ _ _ _ _ => (pg_name (i := 13) sc_law.nd rfl (.inl rfl))) (fun _ _ _ _ _ => (pts_one (pt_cmpR op_eq (pe_ix (ix_tupK (K := K) rfl) (pv 13) pe_int (fun _ _ => rfl)) pe_str (nomark _)))) (fun _ _ _ _ _ => (pe_slice (sl_tupAK (K := K) rfl) (pv 13) (po_some pe_int) po_none)))) (pv 6)))
      (pss_cons (ps_par (i := 9) (j := 11) rfl sc_law.nd rfl rfl (by decide) rfl rfl (pa_cons (pe_cal C_l_clashing hr' (by rfl) (pa_cons (pv 2) (pa_cons (pv 3) (pa_cons (pv 10) pa_nil)))) (pa_cons (pe_cal C_l_bad_example hr' (by rfl) (pa_cons (pv 2) (pa_cons (pv 3) pa_nil))) pa_nil)) rfl)
      (pss_one (ps_expr (pe_bm PySem.F.plainAttrs_list PySem.F.slot_list_insert PySem.F.type_list_insert mt_insert (pv 6) (pa_cons (pe_cal C_l_draw hr' (by rfl) (pa_cons (pv 2) (pa_cons (pe_op op_add (pe_callB call_len_seq (by rfl) B.len PySem.boot_len (pa_cons (pv 6) pa_nil)) pe_int) pa_nil))) (pa_cons (pe_ix ix_list (pe_lst (pa_cons (pv 11) (pa_cons (pv 9) (pa_cons (pv 9) pa_nil)))) (pe_cal C_l_draw hr' (by rfl) (pa_cons (pv 2) (pa_cons pe_int pa_nil))) (fun _ _ => rfl)) pa_nil))))))))
      (pss_one (ps_for PassesOwn.never rfl (pi_tup (pe_tup (pa_cons (pv 6) (pa_cons (pv 7) (pa_cons (pv 6) (pa_cons (pe_lst pa_nil) pa_nil)))))) (pg_name (i := 9) sc_law.nd rfl (.inl rfl))
        (pss_cons (ps_if (pt_cmpR op_gt (pe_op op_add (pe_callB call_lenD (by rfl) B.len PySem.boot_len (pa_cons (pe_dget (hu_of hr) (pv 5) pe_str (fun _ _ => rfl)) pa_nil)) (pe_callB call_len_seq (by rfl) B.len PySem.boot_len (pa_cons (pv 9) pa_nil))) pe_int (nomark _))
        (pss_one (ps_ret pe_bl))
        pss_nil)
      (pss_cons (ps_if (pt_not (pt_val (pe_cal C_l_alike hr' (by rfl) (pa_cons (pe_cal C_l_maker_said hr' (by rfl) (pa_cons (pv 4) (pa_cons pe_str (pa_cons (pv 9) pa_nil)))) (pa_cons (pe_cal C_l_maker_due hr' (by rfl) (pa_cons (pv 5) (pa_cons pe_str (pa_cons (pv 9) pa_nil)))) pa_nil)))))
        (pss_one (ps_ret pe_bl))
        pss_nil)
      (pss_one (ps_if (pt_not (pt_val (pe_cal C_l_stands hr' (by rfl) (pa_cons (pv 4) (pa_cons (pv 5) pa_nil)))))
        (pss_one (ps_ret pe_bl))
        pss_nil))))))))))))))
      (pss_one (ps_ret pe_bl))), ?_⟩
  refine ⟨_, rfl, 4, rfl, a, _, rfl, hS, fun p0 hp0 => ?_⟩
  have sA : Same H (upd H p0 (.lst (cutV (ns.map V.int) none (some 4)))) := same_new hp0
  have lc : (cutV (ns.map V.int) none (some 4)).length ≤ 63 := Nat.le_trans (cutV_length _ _ _) (by rw [List.length_map]; exact h63)
  have hS1 := sA.seq hS
  generalize cutV (ns.map V.int) none (some 4) = cs at lc sA hS1
  refine ⟨p0, cs, rfl, .inl (SqL.of upd_same), 2, _, rfl, ?_⟩
  obtain ⟨mm, em, m0, m63⟩ : ∃ m : Int, (if ((cs.length : Nat) : Int) > 2 then ((cs.length : Nat) : Int) else 2) = m ∧ 0 ≤ m ∧ m ≤ 63 := by
    refine ⟨_, rfl, ?_, ?_⟩
    · split <;> omega
    · split <;> omega
  show ∃ n : Int, [V.int (if ((cs.length : Nat) : Int) > 2 then ((cs.length : Nat) : Int) else 2)] = [V.int n] ∧ _
  rw [em]
  generalize upd H p0 (.lst cs) = H1 at sA hS1
  refine ⟨mm, rfl, by omega, by omega, for_range (lo := 0) (n := mm.toNat) (fun i σ' H' => (∃ y1 y2 y3 y4 y5 y6 y7 y8 y9 y10 y11 y12 y13 : Option V, σ' = [some (.ref a), y1, y2, y3, y4, y5, y6, y7, y8, y9, y10, y11, y12, y13]) ∧ SqL K H' a (ns.map V.int)) ⟨⟨_, _, _, _, _, _, _, _, _, _, _, _, _, rfl⟩, hS1⟩ ?_ ?_⟩
  · rintro i _ H2 hi ⟨⟨y1, y2, y3, y4, y5, y6, y7, y8, y9, y10, y11, y12, y13, rfl⟩, hS2⟩
    refine ⟨_, rfl, _, rfl, a, ns, _, rfl, hS2, by omega, by omega, fun f o hf fl => ?_⟩
    have s2 : Same H2 (upd H2 f o) := same_new hf
    generalize upd H2 f o = H3 at s2 fl
    refine ⟨_, rfl, f, rfl, fl, fun h ka ks k H4 g4 hks eh eka => ?_⟩
    have s24 : Same H2 H4 := fun b u e => g4.ex b u (s2 _ _ e) (by simp [ne_of_none e hf])
    refine ⟨_, rfl, rfl, rfl, fun m dx hm hdx ne => ⟨m, dx, .ref h, v1, v2, rfl, upd_same, fun H5 ths nt hths hnt eM eT eN kp => ⟨rfl, ?_⟩⟩⟩
    have s45 : Same H4 H5 := fun b u e => kp b u (by rw [upd_ne (ne_of_none e hm), upd_ne (ne_of_none e hdx)]; exact e) (ne_of_none e hm)
    have nn : ∀ b, (upd (upd H4 dx (.own m)) m (.ins c_Maker dx [])) b = none → H4 b = none := fun b e => by
      cases z : H4 b with
      | none => rfl
      | some u => rw [upd_ne (ne_of_none z hm), upd_ne (ne_of_none z hdx), z] at e; cases e
    have hths4 := nn _ hths
    have hnt4 := nn _ hnt
    refine ⟨_, rfl, h, rfl, fun H6 md kd lg s56 hmd hkd hlg hMd => ⟨_, _, rfl, ?_⟩⟩
    have n4 : ∀ b, H5 b = none → H4 b = none := fun b e => by
      cases z : H4 b with
      | none => rfl
      | some u => rw [s45 _ _ z] at e; cases e
    have s46 := s45.trans s56
    have hMk : Mkr K c_Maker H6 m dx ths nt (.ref h) v1 v2 [] 0 [] := ⟨s56 _ _ eM, ⟨[], s56 _ _ eT, .nil⟩, ⟨[], s56 _ _ eN, Fds.nil⟩, (fun _ h => nomatch h), ⟨by decide, by decide⟩, ⟨by decide, by decide⟩⟩
    have hB0 : Both K c_Maker H6 m dx ths nt md kd lg h v1 v2 [] 0 [] := ⟨hMk, hMd, (ne_of_none eT hkd).symm, (ne_of_none eN hlg).symm, (ne_of_none eT hmd).symm⟩
    obtain ⟨xf, hxf⟩ := g4.fl.lst
    have nf1 : nt ≠ f := fun z => by rw [z, hxf] at hnt4; cases hnt4
    have nf2 : lg ≠ f := fun z => by have := n4 _ hlg; rw [z, hxf] at this; cases this
    have fl6 : Flow H6 f := (Gr.same g4.fl s46).fl
    have hH6 : HdAt K H6 h ks k := ⟨ka, .inl (.inl (s46 _ _ eh)), .inl (.inl (s46 _ _ eka))⟩
    have fresh : ∀ b ∈ [f, m, ths, nt, md, kd, lg], H2 b = none := by
      have up : ∀ b, H4 b = none → H2 b = none := fun b e => by
        cases z : H2 b with
        | none => rfl
        | some u => rw [s24 _ _ z] at e; cases e
      intro b hb
      simp only [List.mem_cons, List.not_mem_nil, or_false] at hb
      rcases hb with z | z | z | z | z | z | z <;> rw [z]
      · exact hf
      · exact up _ hm
      · exact up _ hths4
      · exact up _ hnt4
      · exact up _ (n4 _ hmd)
      · exact up _ (n4 _ hkd)
      · exact up _ (n4 _ hlg)
    have s26 := s24.trans s46
    refine ⟨_, rfl, _, rfl, _, rfl, _, rfl, f, m, dx, ths, nt, md, kd, lg, h, ks, k, v1, v2, rfl, fl6, nf1, nf2, hB0, hH6, hks, fun n kept on log H7 hn e7 fl7 B7 G7 => ⟨_, rfl, iteF ?_⟩⟩
    have hH7 := hH6.keep (hB0.tp fl6 e7)
    have kl7 := G7.kl
    have back : ∀ H', Ex [f, m, ths, nt, md, kd, lg] H7 H' → SqL K H' a (ns.map V.int) := fun H' e => by
      have s28 : Same H2 H' := fun b u q => (e7.trans e) b u (s26 _ _ q) fun hb => by rw [fresh b hb] at q; cases q
      exact s28.seq hS2
    clear hS1 sA fresh s26 s24 s46 hm hdx ne hths hnt eM eT eN kp s45 nn hths4 hnt4 s56 hmd hkd hlg hMd n4 hMk
    refine ⟨fun σ' H' => ∃ (y1 y7 y8 y9 y10 y11 y12 y13 : Option V) (D : Addr) (c : Nat), σ' = [some (.ref a), y1, some (.ref f), some (.ref h), some (.ref m), some (.ref md), some (.ref D), y7, y8, y9, y10, y11, y12, y13] ∧ Gr [] f H7 H' ∧ H7 D = none ∧ 1 ≤ c ∧ c ≤ 3 ∧ LE2 K H' D c, ?_, ?_⟩
    · refine ⟨_, rfl, f, 3, rfl, fl7, by decide, by decide, fun c H8 c0 c1 dr8 => ⟨1, c, rfl, rfl, 1 + c, rfl, by omega, by omega, fun D hD => lc_range (lo := 0) (n := (1 + c).toNat) (fun i H' => Gr [] f H7 H' ∧ LE2 K H' D i) ?_ ?_ ?_⟩⟩
      · exact ⟨dr8.gr.trans (Gr.new dr8.fl hD), [], [], upd_same, Fds.nil, rfl, fun _ h => nomatch h⟩
      · rintro i H' hi ⟨g, us, dl, hA, hU, hl, hO⟩
        have nDf : D ≠ f := dr8.fl.no hD
        have D0 : H7 D = none := (dr8.gr (ws := [])).ex.free hD (by simp [nDf])
        refine ⟨rfl, _, rfl, _, rfl, f, h, ks, k, rfl, g.fl, hH7.keep (g.tp fl7), hks, fun e t ts v ds d H6 g6 he ht hT hv hP hL => ?_⟩
        have hA6 : H6 D = some (.lst us) := g6.ex _ _ hA (by simp [nDf])
        have tp6 := g6.tp g.fl (K := K)
        have tpD : Tp K H6 (upd H6 D (.lst (us ++ [.ref e]))) := Tp.lst hA6
        have ul : us.length = i := by rw [hU.len, List.length_map, hl]
        refine ⟨_, hA6, smallL (by omega), (g.trans g6).put D0 nDf, us ++ [.ref e], dl ++ [exD (.tuple ds) d], upd_same, ?_, by rw [List.length_append, hl]; rfl, fun x hx => ?_⟩
        · rw [List.map_append]
          exact (Fds.keep hU (tp6.trans tpD)).app (Fds.cons (Fd.keep (H := H6) (ex_fd he ht hT hv) tpD) Fds.nil)
        · rcases List.mem_append.mp hx with y | y
          · exact hO x y
          · rw [List.mem_singleton.mp y]
            exact (lit_odd hks hP hL).two
      · rintro H9 ⟨g9, hL⟩
        have nDf : D ≠ f := dr8.fl.no hD
        exact ⟨_, _, _, _, _, _, _, _, D, (1 + c).toNat, rfl, g9, (dr8.gr (ws := [])).ex.free hD (by simp [nDf]), by omega, by omega, hL⟩
    rintro _ H8 ⟨y1, y7, y8, y9, y10, y11, y12, y13, D, c, rfl, g8, D0, c1, c3, hL8⟩
    obtain ⟨us, ds, hA, hU, hl, hO⟩ := id hL8
    refine ⟨_, rfl, D, us, rfl, .inl (SqL.of hA), fun G hG => ?_⟩
    have g9 := g8.trans (Gr.new (o := .lst us) g8.fl hG)
    have nDf : D ≠ f := fl7.no D0
    have nGf : G ≠ f := g8.fl.no hG
    have G0 : H7 G = none := g8.ex.free hG (by simp [nGf])
    have nGD : G ≠ D := fun z => by rw [z, hA] at hG; cases hG
    have eG : upd H8 G (.lst us) G = some (.lst us) := upd_same
    have sG := same_new (o := .lst us) hG
    have hD9 : LE2 K (upd H8 G (.lst us)) D c := ⟨us, ds, sG _ _ hA, Fds.keep hU (Tp.same sG), hl, hO⟩
    have hG9 : LE2 K (upd H8 G (.lst us)) G c := ⟨us, ds, eG, Fds.keep hU (Tp.same sG), hl, hO⟩
    generalize upd H8 G (.lst us) = H9 at g9 hD9 hG9
    clear hL8 hA hU hO eG sG
    have nb1 := B7.no D0
    have nb2 := B7.no G0
    refine ⟨_, rfl, f, 3, rfl, g9.fl, by decide, by decide, fun t H10 t0 t1 dr10 => ⟨1, t, rfl, rfl, 1 + t, rfl, by omega, by omega, for_range (lo := 0) (n := (1 + t).toNat) (fun i σ' H' => (∃ y1 y8 y9 y10 y11 y12 y13 : Option V, σ' = [some (.ref a), y1, some (.ref f), some (.ref h), some (.ref m), some (.ref md), some (.ref D), some (.ref G), y8, y9, y10, y11, y12, y13]) ∧ Gr [] f H7 H' ∧ LE2 K H' D (c + i) ∧ LE2 K H' G c) ⟨⟨_, _, _, _, _, _, _, rfl⟩, g9.trans dr10.gr, hD9.keep (dr10.tp g9.fl) (dr10.off D nDf), hG9.keep (dr10.tp g9.fl) (dr10.off G nGf)⟩ ?_ ?_⟩⟩
    · rintro i _ Ha hi ⟨⟨y1, y8, y9, y10, y11, y12, y13, rfl⟩, ga, ⟨us, ds, hA, hU, hl, hO⟩, hGa⟩
      have Ba := B7.gr ga fl7 nf1 nf2
      have ul : us.length = ds.length := by rw [hU.len, List.length_map]
      delta gName tSeq tAsg tOp
      refine ahead_of Ba.a2 rfl G7.ok G7.sz (by omega) fun A ua da Hb sb A0 hAA hUA hOA hlA => ?_
      refine ⟨_, rfl, A, D, ua, us, rfl, rfl, hAA, sb _ _ hA, by (have := hUA.len; rw [List.length_map] at this; exact Nat.le_of_lt (smallL (by omega))), fun p hp => ?_⟩
      have gb := ga.trans (Gr.same ga.fl sb)
      have sp := same_new (o := .lst (ua ++ us)) hp
      have gc := gb.trans (Gr.new (o := .lst (ua ++ us)) gb.fl hp)
      have npf : p ≠ f := gb.fl.no hp
      have npD : p ≠ D := fun z => by rw [z, sb _ _ hA] at hp; cases hp
      have ep : upd Hb p (.lst (ua ++ us)) p = some (.lst (ua ++ us)) := upd_same
      generalize upd Hb p (.lst (ua ++ us)) = Hc at sp gc ep
      have tac : Tp K Ha Hc := Tp.same (sb.trans sp)
      have hAc : Hc D = some (.lst us) := sp _ _ (sb _ _ hA)
      have hUc := Fds.keep hU tac
      have hUAc := Fds.keep hUA (Tp.same sp)
      have sGc : LE2 K Hc G c := by
        obtain ⟨u, d, e, r, x⟩ := hGa
        exact ⟨u, d, sp _ _ (sb _ _ e), Fds.keep r tac, x⟩
      refine ⟨_, rfl, _, rfl, _, rfl, f, h, p, ks, k, ua ++ us, da ++ ds, rfl, gc.fl, hH7.keep (gc.tp fl7), SqL.of ep, npf, by rw [List.map_append]; exact hUAc.app hUc, by rw [List.length_append]; omega, by rw [List.length_append]; omega, fun d hd => ?_, fun e1 d1 Hd gd fd1 od1 => ⟨_, rfl, _, rfl, f, h, ks, k, rfl, gd.fl, hH7.keep ((gc.trans gd).tp fl7), hks, fun e2 d2 He ge fd2 od2 => ⟨_, _, rfl, ?_⟩⟩⟩
      · rcases List.mem_append.mp hd with y | y
        · exact hOA d y
        · exact hO d y
      have g0e := (gc.trans gd).trans ge
      have tce := (gd.trans ge).tp gc.fl (K := K)
      have hAe : He D = some (.lst us) := (gd.trans ge).ex _ _ hAc (by simp [nDf])
      refine ⟨_, rfl, .inl ⟨rfl, _, SqL.of hAe⟩, _, rfl, _, rfl, D, us, rfl, .inl (SqL.of hAe), _, _, rfl, rfl, f, _, rfl, ge.fl, by omega, by omega, fun j Hf j0 j1 drf => ⟨_, rfl, _, rfl, _, rfl, (by show 3 ≤ sizeLine; decide), fun l3 hl3 => ?_⟩⟩
      have g0f := g0e.trans drf.gr
      have g0g := g0f.trans (Gr.new (o := .lst [.ref e2, .ref e1, .ref e1]) g0f.fl hl3)
      have sg := same_new (o := .lst [.ref e2, .ref e1, .ref e1]) hl3
      have eg : upd Hf l3 (.lst [.ref e2, .ref e1, .ref e1]) l3 = some (.lst [.ref e2, .ref e1, .ref e1]) := upd_same
      have nlf : l3 ≠ f := g0f.fl.no hl3
      generalize upd Hf l3 (.lst [.ref e2, .ref e1, .ref e1]) = Hg at g0g sg eg
      refine ⟨_, rfl, f, 3, rfl, g0g.fl, by decide, by decide, fun j2 Hh z0 z1 drh => ?_⟩
      have g0h := g0g.trans drh.gr
      have teh : Tp K He Hh := ((drf.tp ge.fl).trans (Tp.same sg)).trans (drh.tp g0g.fl)
      have tch := tce.trans teh
      obtain ⟨x, dx', hx, fx, ox⟩ : ∃ (x : V) (d : PyData), atI [V.ref e2, .ref e1, .ref e1] j2 = some x ∧ Fd K Hh x (inEx d) ∧ OddE2 d := by
        rcases (show j2 = 0 ∨ j2 = 1 ∨ j2 = 2 by omega) with z | z | z <;> subst z
        · exact ⟨_, _, rfl, fd2.keep teh, od2.two⟩
        · exact ⟨_, _, rfl, (fd1.keep (ge.tp gd.fl)).keep teh, od1⟩
        · exact ⟨_, _, rfl, (fd1.keep (ge.tp gd.fl)).keep teh, od1⟩
      have hAh : Hh D = some (.lst us) := (drh.off D nDf).trans (sg _ _ ((drf.off D nDf).trans hAe))
      have sGh : LE2 K Hh G c := by
        obtain ⟨u, d, e, r, y⟩ := sGc
        exact ⟨u, d, (drh.off G nGf).trans (sg _ _ ((drf.off G nGf).trans ((gd.trans ge).ex _ _ e (by simp [nGf])))), Fds.keep r tch, y⟩
      have tpD : Tp K Hh (upd Hh D (.lst (us.take j.toNat ++ [x] ++ us.drop j.toNat))) := Tp.lst hAh
      have hUh := Fds.keep hUc (tch.trans tpD)
      refine ⟨l3, _, j2, x, rfl, rfl, SqL.of ((drh.off l3 nlf).trans eg), hx, D, us, j, x, rfl, rfl, hAh, smallL (by omega), j0, by omega, ⟨_, _, _, _, _, _, _, rfl⟩, g0h.put D0 nDf, ⟨us.take j.toNat ++ [x] ++ us.drop j.toNat, ds.take j.toNat ++ [dx'] ++ ds.drop j.toNat, upd_same, ?_, ?_, fun z hz => ?_⟩, ?_⟩
      · rw [List.map_append, List.map_append, List.map_take, List.map_drop]
        exact ((fds_take _ hUh).app (Fds.cons (fx.keep tpD) Fds.nil)).app (Fds.drop _ hUh)
      · rw [List.length_append, List.length_append, List.length_take, List.length_drop]
        simp
        omega
      · rcases List.mem_append.mp hz with y | y
        · rcases List.mem_append.mp y with y | y
          · exact hO z (List.mem_of_mem_take y)
          · rw [List.mem_singleton.mp y]; exact ox
        · exact hO z (List.mem_of_mem_drop y)
      · exact sGh.keep tpD (upd_ne nGD)
    rintro _ Ha ⟨⟨y1, y8, y9, y10, y11, y12, y13, rfl⟩, ga, hDa, hGa⟩
    have Ba := B7.gr ga fl7 nf1 nf2
    refine ⟨_, rfl, _, rfl, _, rfl, (by show 0 ≤ sizeLine; decide), fun Z hZ => ⟨(by show 4 ≤ sizeLine; decide), fun p4 hp4 => ?_⟩⟩
    have sz := same_new (o := .lst []) hZ
    have eZ : upd Ha Z (.lst []) Z = some (.lst []) := upd_same
    have nb3 := Ba.no hZ
    have nZf : Z ≠ f := ga.fl.no hZ
    have gz := ga.trans (Gr.new (o := .lst []) ga.fl hZ)
    generalize upd Ha Z (.lst []) = Hz at sz eZ gz hp4
    have s4 := same_new (o := .tup [.ref D, .ref G, .ref D, .ref Z]) hp4
    have e4 : upd Hz p4 (.tup [.ref D, .ref G, .ref D, .ref Z]) p4 = some (.tup [.ref D, .ref G, .ref D, .ref Z]) := upd_same
    have g4' := gz.trans (Gr.new (o := .tup [.ref D, .ref G, .ref D, .ref Z]) gz.fl hp4)
    have eZ4 := s4 _ _ eZ
    generalize upd Hz p4 (.tup [.ref D, .ref G, .ref D, .ref Z]) = Hw at s4 e4 g4' eZ4
    have sw := sz.trans s4
    have LEs : ∀ {b : Addr} {n : Nat}, LE2 K Ha b n → LE2 K Hw b n := fun h => by
      obtain ⟨u, d, e, r, y⟩ := h
      exact ⟨u, d, sw _ _ e, Fds.keep r (Tp.same sw), y⟩
    have Bw := Ba.same' sw
    have hHw := hH7.keep (g4'.tp fl7)
    have all : ∀ b ∈ [D, G, Z], b ∉ [f, m, ths, nt, md, kd, lg] := by
      intro b hb
      simp only [List.mem_cons, List.not_mem_nil, or_false] at hb
      rcases hb with z | z | z <;> subst z <;> simp_all
    refine ⟨p4, rfl, ⟨_, .inl (.inl e4)⟩, for_tup (K := K) (xs := [.ref D, .ref G, .ref D, .ref Z]) (fun i σ' H' => (∃ y1 y8 y9 y10 y11 y12 y13 : Option V, σ' = [some (.ref a), y1, some (.ref f), some (.ref h), some (.ref m), some (.ref md), some (.ref D), some (.ref G), y8, y9, y10, y11, y12, y13]) ∧ Ex [f, m, ths, nt, md, kd, lg] Hw H' ∧ Flow H' f ∧ ∃ kept on log, Both K c_Maker H' m dx ths nt md kd lg h v1 v2 kept on log ∧ Good (n + i) kept on log) ?_ ?_ ?_ ?_⟩
    · exact ⟨⟨_, _, _, _, _, _, _, rfl⟩, Ex.refl _ _, g4'.fl, kept, on, log, Bw, G7⟩
    · rintro i σ H' _ ⟨_, e, _⟩
      exact Bw.tp g4'.fl e _ _ (.inl (.inl e4))
    · rintro i x _ Hx hx ⟨⟨y1, y8, y9, y10, y11, y12, y13, rfl⟩, ex, flx, kept, on, log, Bx, Gx⟩
      have hi : i < 4 := (List.getElem?_eq_some_iff.mp hx).1
      have tpx := Bw.tp g4'.fl ex
      obtain ⟨b, cc, rfl, hb, hc, us, ds, hA, hU, hl, hO⟩ : ∃ (b : Addr) (cc : Nat), x = .ref b ∧ b ∈ [D, G, Z] ∧ cc ≤ 6 ∧ LE2 K Hw b cc := by
        rcases (show i = 0 ∨ i = 1 ∨ i = 2 ∨ i = 3 by omega) with z | z | z | z <;> subst z <;> cases hx
        · exact ⟨D, _, rfl, by simp, by omega, LEs hDa⟩
        · exact ⟨G, _, rfl, by simp, by omega, LEs hGa⟩
        · exact ⟨D, _, rfl, by simp, by omega, LEs hDa⟩
        · exact ⟨Z, 0, rfl, by simp, by omega, [], [], eZ4, Fds.nil, rfl, fun _ h => nomatch h⟩
      have nba := all b hb
      have hAx := ex _ _ hA nba
      have hUx := Fds.keep hU tpx
      simp only [List.mem_cons, List.not_mem_nil, or_false, not_or] at nba
      obtain ⟨k0, k1, k2, k3, k4, k5, k6⟩ := nba
      obtain ⟨kvs, hkd, hkf⟩ := Bx.a2.kp
      refine ⟨_, rfl, md, .ref kd, rfl, .inl ⟨_, .inr "kept", .inl Bx.a2.ob, rfl, rfl⟩, kd, kvs, rfl, hkd, _, rfl, b, us, rfl, .inl (SqL.of hAx), _, _, rfl, rfl, _, _, rfl, rfl, _, rfl, ite2 (fun _ => q _) (fun _ => ?_)⟩
      have hA' : ∀ H', Tp K Hx H' → H' b = some (.lst us) → ∀ nt', b ≠ nt' → ActAt K ["foo"] H' nt' (.ref b) (.exs ds) := fun H' tp el nt' hne => ⟨b, us, rfl, .inl (SqL.of el), hne, Fds.keep hUx tp, fun d hd => (hO d hd).1, fun d hd => (hO d hd).2.2⟩
      have hS' : ActS (.exs ds) := ⟨by omega, fun d hd => (hO d hd).2.1⟩
      refine ⟨_, rfl, _, rfl, deed2 (Es := fun _ _ _ => False) (act := .exs ds) Bx (hHw.keep tpx) hks Gx (by omega) (hA' Hx (Tp.refl K _) hAx nt k3) (fun H' ex' tp => hA' H' tp (ex' _ _ hAx (by simp [k1, k2, k3])) lg k6) trivial hS' fun u1 H20 nxt => ⟨_, rfl, _, rfl, nxt _ (fun _ _ _ => False) fun u2 H21 e21 f1 f2 B21 => ⟨u1, u2, _, rfl, f1, f2, step_sz hS', fun H22 s22 => ⟨_, rfl, iteF ?_⟩⟩⟩⟩
      have G2 := Gx.step (ks := ks) (k := k) hS' (hA' Hx (Tp.refl K _) hAx nt k3).f
      have B22 := B21.same' s22
      refine ⟨_, rfl, _, rfl, m, dx, ths, nt, md, kd, lg, h, v1, v2, _, _, _, rfl, B22, G2.pw, G2.kz (by omega), G2.ok.2.2, G2.ld, G2.lf, fun H23 s23 => ⟨_, rfl, iteF ⟨⟨_, _, _, _, _, _, _, rfl⟩, ?_, ?_, _, _, _, B22.same' s23, G2⟩⟩⟩
      · exact (ex.trans (e21.mono (by simp))).trans ((Ex.of_same s22).trans (Ex.of_same s23))
      · obtain ⟨x, y, z, e, r⟩ := id flx
        exact ⟨x, y, z, s23 _ _ (s22 _ _ (e21 _ _ e (Bx.nf flx nf1 nf2))), r⟩
    · rintro _ Hx ⟨⟨y1, y8, y9, y10, y11, y12, y13, rfl⟩, ex, _⟩
      refine ⟨⟨_, _, _, _, _, _, _, _, _, _, _, _, _, rfl⟩, back Hx ?_⟩
      exact (g4'.ex.mono (by simp)).trans ex
  · rintro _ H2 ⟨⟨y1, y2, y3, y4, y5, y6, y7, y8, y9, y10, y11, y12, y13, rfl⟩, _⟩
    exact q _
end
end Lm

set_option Elab.async false
set_option linter.all false
set_option maxRecDepth 100000
set_option maxHeartbeats 2000000
namespace Lm
open PySem PySem.Spec PyProof.Rows L2 LmR
theorem CalX.up {P : Program} {w : World} {K : PySem.W.Frag} {mg : Str → Option Value} {base : Heap} {j k : Nat} {x : Str} {ps : List Str} {sp : Sp} (c : CalX P w K mg base j x ps sp) (h : j ≤ k) : CalX P w K mg base k x ps sp := by
  obtain ⟨f, fd, F, g⟩ := c
  exact ⟨f, fd, F.mono h, g⟩
theorem withC_mk {P : Program} {w : World} {K : PySem.W.Frag} {mg : Str → Option Value} {base : Heap} {c_Deed : Addr} (B : Bt mg) (T_Deed : ClsAt K mg "Deed" c_Deed DF) (De : DefM K c_Deed "__enter__" "Deed.__enter__" s_Deed___enter__ ["self"]) (Dx : DefM K c_Deed "__exit__" "Deed.__exit__" s_Deed___exit__ ["self", "kind", "value", "trace"]) : WithC P w K mg base c_Deed (spEn c_Deed) (spEx c_Deed) := by
  obtain ⟨fe, fdE, a, b, c⟩ := ok_Deed_enter (P := P) (w := w) (base := base) T_Deed De
  obtain ⟨fx, fdX, F, g, e⟩ := Dx
  exact ⟨fe, fx, fdE, fdX, _, _, b, g, a, c, ok_Deed_exit B T_Deed F, e, fun p => ok_Deed_exitP B T_Deed F p⟩
theorem defiw_mk {K : PySem.W.Frag} {mg : Str → Option Value} {C f D : Addr} {oc : Value} {od an : Option Addr} {osl : Array (Option Value)} {doc pm cdv ct u1 u2 : Value} {v1 v2 : V} {st : Stmt}
    (l : K.lookup f = some ⟨oc, od, .func (PySem.W.fnOf "__init__" "Maker.__init__" (defArgs st) (defBody st) (defScope st) .none (.ref D) doc pm an cdv ct), osl⟩) (c : PySem.W.codeIn K cdv "Maker.__init__" = true) (k : PySem.W.keepIn K (.ref f) = true)
    (d1 : PySem.W.nsIn K D "stock" = some (some u1)) (d2 : PySem.W.nsIn K D "most" = some (some u2)) (r1 : RelV v1 u1) (r2 : RelV v2 u2) (M : Mk K C f) (g : mg "Maker" = some (.ref C))
    (hd : ∀ (doc pm : Value) (an : Option Addr) (cdv ct a b w1 w2 : Value), KwChain D [("stock", w1), ("most", w2)] (bindArgs (PySem.W.fnOf "__init__" "Maker.__init__" (defArgs st) (defBody st) (defScope st) .none (.ref D) doc pm an cdv ct) ⟨[a, b], []⟩) [("self", a), ("head", b), ("stock", w1), ("most", w2)]) :
    DefIW K mg C "Maker" "Maker.__init__" st ["self", "head", "stock", "most"] [v1, v2] := by
  refine ⟨f, _, [], ⟨⟨oc, od, .none, .ref D, doc, pm, an, cdv, ct, osl, rfl, l, c, .inl ⟨rfl, rfl⟩, .inl rfl⟩, k⟩, M, g, fun us _ => us ++ [u1, u2], ⟨fun s us ws X' h1 h2 => ?_, fun r _ => r.append (.cons r1 (.cons r2 .nil))⟩⟩
  match us, ws, h1, h2 with
  | [a, b], [], _, _ =>
    refine BindsTo.of_looks fun M => KwChain.looks X' (fun q hq => ?_) (hd _ _ _ _ _ a b u1 u2)
    simp only [List.mem_cons, List.not_mem_nil, or_false] at hq
    rcases hq with z | z <;> rw [z] <;> assumption
end Lm

set_option Elab.async false
set_option linter.all false
set_option maxRecDepth 100000
set_option maxHeartbeats 2000000
namespace Lm
open PySem PySem.Spec PyProof.Rows L2 LmR
theorem defAt_mk {K : PySem.W.Frag} {h : Heap} {mg : Str → Option Value} {x : Str} {st : Stmt} {ps : List Str} {f : Addr} {oc : Value} {od an : Option Addr} {osl : Array (Option Value)} {kV doc pm cdv ct : Value} (X : K.In h) (G : h.Ns mainGlobals mg)
    (a : PySem.W.nsIn K mainGlobals x = some (some (.ref f))) (l : K.lookup f = some ⟨oc, od, .func (PySem.W.fnOf x x (defArgs st) (defBody st) (defScope st) .none kV doc pm an cdv ct), osl⟩) (c : PySem.W.codeIn K cdv x = true) (k : PySem.W.keepIn K (.ref f) = true)
    (hb : ∀ (kV doc pm : Value) (an : Option Addr) (cdv ct : Value) (us : List Value), us.length = ps.length → bindArgs (PySem.W.fnOf x x (defArgs st) (defBody st) (defScope st) .none kV doc pm an cdv ct) ⟨us, []⟩ = pure (ps.zip us)) : DefAt K mg x st ps :=
  ⟨f, _, fun_mk l c k, (fun_mk l c k).binds hb, PySem.W.mg_of X G a⟩
theorem all_mk {l : PySem.W.OpenLaw} {w : World} {K : PySem.W.Frag} {h : Heap} {mg : Str → Option Value} {fa : Addr} (X : K.In h) (G : h.Ns mainGlobals mg) (hfa : mg "law" = some (.ref fa))
    {f0 : Addr} {od0 an0 : Option Addr} {sl0 : Array (Option Value)} {oc0 kV0 dc0 pm0 cd0 ct0 : Value} {f1 : Addr} {od1 an1 : Option Addr} {sl1 : Array (Option Value)} {oc1 kV1 dc1 pm1 cd1 ct1 : Value} {f2 : Addr} {od2 an2 : Option Addr} {sl2 : Array (Option Value)} {oc2 kV2 dc2 pm2 cd2 ct2 : Value} {f3 : Addr} {od3 an3 : Option Addr} {sl3 : Array (Option Value)} {oc3 kV3 dc3 pm3 cd3 ct3 : Value} {f4 : Addr} {od4 an4 : Option Addr} {sl4 : Array (Option Value)} {oc4 kV4 dc4 pm4 cd4 ct4 : Value} {f5 : Addr} {od5 an5 : Option Addr} {sl5 : Array (Option Value)} {oc5 kV5 dc5 pm5 cd5 ct5 : Value} {f6 : Addr} {od6 an6 : Option Addr} {sl6 : Array (Option Value)} {oc6 kV6 dc6 pm6 cd6 ct6 : Value} {f7 : Addr} {od7 an7 : Option Addr} {sl7 : Array (Option Value)} {oc7 kV7 dc7 pm7 cd7 ct7 : Value} {f8 : Addr} {od8 an8 : Option Addr} {sl8 : Array (Option Value)} {oc8 kV8 dc8 pm8 cd8 ct8 : Value} {f9 : Addr} {od9 an9 : Option Addr} {sl9 : Array (Option Value)} {oc9 kV9 dc9 pm9 cd9 ct9 : Value} {f10 : Addr} {od10 an10 : Option Addr} {sl10 : Array (Option Value)} {oc10 kV10 dc10 pm10 cd10 ct10 : Value} {f11 : Addr} {od11 an11 : Option Addr} {sl11 : Array (Option Value)} {oc11 kV11 dc11 pm11 cd11 ct11 : Value} {f12 : Addr} {od12 an12 : Option Addr} {sl12 : Array (Option Value)} {oc12 kV12 dc12 pm12 cd12 ct12 : Value} {f13 : Addr} {od13 an13 : Option Addr} {sl13 : Array (Option Value)} {oc13 kV13 dc13 pm13 cd13 ct13 : Value} {f14 : Addr} {od14 an14 : Option Addr} {sl14 : Array (Option Value)} {oc14 kV14 dc14 pm14 cd14 ct14 : Value} {f15 : Addr} {od15 an15 : Option Addr} {sl15 : Array (Option Value)} {oc15 kV15 dc15 pm15 cd15 ct15 : Value} {f16 : Addr} {od16 an16 : Option Addr} {sl16 : Array (Option Value)} {oc16 kV16 dc16 pm16 cd16 ct16 : Value} {f17 : Addr} {od17 an17 : Option Addr} {sl17 : Array (Option Value)} {oc17 kV17 dc17 pm17 cd17 ct17 : Value} {f18 : Addr} {od18 an18 : Option Addr} {sl18 : Array (Option Value)} {oc18 kV18 dc18 pm18 cd18 ct18 : Value} {f19 : Addr} {od19 an19 : Option Addr} {sl19 : Array (Option Value)} {oc19 kV19 dc19 pm19 cd19 ct19 : Value} {f20 : Addr} {od20 an20 : Option Addr} {sl20 : Array (Option Value)} {oc20 kV20 dc20 pm20 cd20 ct20 : Value} {f21 : Addr} {od21 an21 : Option Addr} {sl21 : Array (Option Value)} {oc21 kV21 dc21 pm21 cd21 ct21 : Value} {f22 : Addr} {od22 an22 : Option Addr} {sl22 : Array (Option Value)} {oc22 kV22 dc22 pm22 cd22 ct22 : Value} {f23 : Addr} {od23 an23 : Option Addr} {sl23 : Array (Option Value)} {oc23 kV23 dc23 pm23 cd23 ct23 : Value} {f24 : Addr} {od24 an24 : Option Addr} {sl24 : Array (Option Value)} {oc24 kV24 dc24 pm24 cd24 ct24 : Value} {f25 : Addr} {od25 an25 : Option Addr} {sl25 : Array (Option Value)} {oc25 kV25 dc25 pm25 cd25 ct25 : Value} {f26 : Addr} {od26 an26 : Option Addr} {sl26 : Array (Option Value)} {oc26 kV26 dc26 pm26 cd26 ct26 : Value} {f27 : Addr} {od27 an27 : Option Addr} {sl27 : Array (Option Value)} {oc27 kV27 dc27 pm27 cd27 ct27 : Value} {f28 : Addr} {od28 an28 : Option Addr} {sl28 : Array (Option Value)} {oc28 kV28 dc28 pm28 cd28 ct28 : Value} {f29 : Addr} {od29 an29 : Option Addr} {sl29 : Array (Option Value)} {oc29 kV29 dc29 pm29 cd29 ct29 : Value} {f30 : Addr} {od30 an30 : Option Addr} {sl30 : Array (Option Value)} {oc30 kV30 dc30 pm30 cd30 ct30 : Value} {f31 : Addr} {od31 an31 : Option Addr} {sl31 : Array (Option Value)} {oc31 kV31 dc31 pm31 cd31 ct31 : Value} {f32 : Addr} {od32 an32 : Option Addr} {sl32 : Array (Option Value)} {oc32 kV32 dc32 pm32 cd32 ct32 : Value} {f33 : Addr} {od33 an33 : Option Addr} {sl33 : Array (Option Value)} {oc33 kV33 dc33 pm33 cd33 ct33 : Value} {f34 : Addr} {od34 an34 : Option Addr} {sl34 : Array (Option Value)} {oc34 kV34 dc34 pm34 cd34 ct34 : Value} {f35 : Addr} {od35 an35 : Option Addr} {sl35 : Array (Option Value)} {oc35 kV35 dc35 pm35 cd35 ct35 : Value} {f36 : Addr} {od36 an36 : Option Addr} {sl36 : Array (Option Value)} {oc36 kV36 dc36 pm36 cd36 ct36 : Value} {f37 : Addr} {od37 an37 : Option Addr} {sl37 : Array (Option Value)} {oc37 kV37 dc37 pm37 cd37 ct37 : Value} {f38 : Addr} {od38 an38 : Option Addr} {sl38 : Array (Option Value)} {oc38 kV38 dc38 pm38 cd38 ct38 : Value} {f39 : Addr} {od39 an39 : Option Addr} {sl39 : Array (Option Value)} {oc39 kV39 dc39 pm39 cd39 ct39 : Value} {f40 : Addr} {od40 an40 : Option Addr} {sl40 : Array (Option Value)} {oc40 kV40 dc40 pm40 cd40 ct40 : Value} {f41 : Addr} {od41 an41 : Option Addr} {sl41 : Array (Option Value)} {oc41 kV41 dc41 pm41 cd41 ct41 : Value} {f42 : Addr} {od42 an42 : Option Addr} {sl42 : Array (Option Value)} {oc42 kV42 dc42 pm42 cd42 ct42 : Value} {f43 : Addr} {od43 an43 : Option Addr} {sl43 : Array (Option Value)} {oc43 kV43 dc43 pm43 cd43 ct43 : Value} {f44 : Addr} {od44 an44 : Option Addr} {sl44 : Array (Option Value)} {oc44 kV44 dc44 pm44 cd44 ct44 : Value} {dF : Addr} {esF : Array DictEntry} {nF : Nat} {t0 u0 : Addr} {dt0 du0 : Option Addr} {st0 su0 : Array (Option Value)} {nt0 nu0 : Nat} {q0_0 : Tok} {t1 u1 : Addr} {dt1 du1 : Option Addr} {st1 su1 : Array (Option Value)} {nt1 nu1 : Nat} {q0_1 q1_1 : Tok} {t2 u2 : Addr} {dt2 du2 : Option Addr} {st2 su2 : Array (Option Value)} {nt2 nu2 : Nat} {q0_2 q1_2 : Tok} {t3 u3 : Addr} {dt3 du3 : Option Addr} {st3 su3 : Array (Option Value)} {nt3 nu3 : Nat} {q0_3 q1_3 : Tok} {t4 u4 : Addr} {dt4 du4 : Option Addr} {st4 su4 : Array (Option Value)} {nt4 nu4 : Nat} {q0_4 q1_4 q2_4 : Tok} {t5 u5 : Addr} {dt5 du5 : Option Addr} {st5 su5 : Array (Option Value)} {nt5 nu5 : Nat} {q0_5 q1_5 q2_5 q3_5 : Tok} {t6 u6 : Addr} {dt6 du6 : Option Addr} {st6 su6 : Array (Option Value)} {nt6 nu6 : Nat} {q0_6 q1_6 q2_6 q3_6 : Tok} {t7 u7 : Addr} {dt7 du7 : Option Addr} {st7 su7 : Array (Option Value)} {nt7 nu7 : Nat} {q0_7 q1_7 q2_7 q3_7 : Tok} {t8 u8 : Addr} {dt8 du8 : Option Addr} {st8 su8 : Array (Option Value)} {nt8 nu8 : Nat} {q0_8 q1_8 q2_8 : Tok} {t9 u9 : Addr} {dt9 du9 : Option Addr} {st9 su9 : Array (Option Value)} {nt9 nu9 : Nat} {q0_9 q1_9 q2_9 q3_9 : Tok} {t10 u10 : Addr} {dt10 du10 : Option Addr} {st10 su10 : Array (Option Value)} {nt10 nu10 : Nat} {q0_10 q1_10 q2_10 q3_10 : Tok} {t11 u11 : Addr} {dt11 du11 : Option Addr} {st11 su11 : Array (Option Value)} {nt11 nu11 : Nat} {q0_11 q2_11 : Tok} {tk_MOST : Tok} {c_NoProgram i_NoProgram u_NoProgram N_NoProgram : Addr} {nm_NoProgram qn_NoProgram : Str} {bs_NoProgram sub_NoProgram : List Value} {sn_NoProgram : List Str} {ab_NoProgram : Bool} {col_NoProgram : Option Bool} {dd_NoProgram od_NoProgram an_NoProgram : Option Addr} {m0_NoProgram m1_NoProgram m2_NoProgram m3_NoProgram m5_NoProgram : Option Value} {osl_NoProgram : Array (Option Value)} {oc_NoProgram kV_NoProgram doc_NoProgram pm_NoProgram cdv_NoProgram ct_NoProgram : Value} {c_NoInputs i_NoInputs u_NoInputs N_NoInputs : Addr} {nm_NoInputs qn_NoInputs : Str} {bs_NoInputs sub_NoInputs : List Value} {sn_NoInputs : List Str} {ab_NoInputs : Bool} {col_NoInputs : Option Bool} {dd_NoInputs od_NoInputs an_NoInputs : Option Addr} {m0_NoInputs m1_NoInputs m2_NoInputs m3_NoInputs m5_NoInputs : Option Value} {osl_NoInputs : Array (Option Value)} {oc_NoInputs kV_NoInputs doc_NoInputs pm_NoInputs cdv_NoInputs ct_NoInputs : Value} {c_Clash i_Clash u_Clash N_Clash : Addr} {nm_Clash qn_Clash : Str} {bs_Clash sub_Clash : List Value} {sn_Clash : List Str} {ab_Clash : Bool} {col_Clash : Option Bool} {dd_Clash od_Clash an_Clash : Option Addr} {m0_Clash m1_Clash m2_Clash m3_Clash m5_Clash : Option Value} {osl_Clash : Array (Option Value)} {oc_Clash kV_Clash doc_Clash pm_Clash cdv_Clash ct_Clash : Value} {w0 w1 w2 w3 w4 w5 w6 w7 w8 w9 w10 w11 cMk c_NotKept : Addr} {i_NotKept : Addr} {od_NotKept an_NotKept : Option Addr} {osl_NotKept : Array (Option Value)} {oc_NotKept kV_NotKept doc_NotKept pm_NotKept cdv_NotKept ct_NotKept : Value} {cO_Deed fI_Deed : Addr} {ooc_Deed odc_Deed opm_Deed ocd_Deed oct_Deed : Value} {ood_Deed oan_Deed : Option Addr} {osl_Deed : Array (Option Value)} {okV_Deed : Value} {fM_Deed___enter__ : Addr} {moc_Deed___enter__ mkV_Deed___enter__ mdc_Deed___enter__ mpm_Deed___enter__ mcd_Deed___enter__ mct_Deed___enter__ : Value} {mod_Deed___enter__ man_Deed___enter__ : Option Addr} {msl_Deed___enter__ : Array (Option Value)} {fM_Deed___exit__ : Addr} {moc_Deed___exit__ mkV_Deed___exit__ mdc_Deed___exit__ mpm_Deed___exit__ mcd_Deed___exit__ mct_Deed___exit__ : Value} {mod_Deed___exit__ man_Deed___exit__ : Option Addr} {msl_Deed___exit__ : Array (Option Value)} {cO_Maker fI_Maker : Addr} {ooc_Maker odc_Maker opm_Maker ocd_Maker oct_Maker : Value} {ood_Maker oan_Maker : Option Addr} {osl_Maker : Array (Option Value)} {okD_Maker : Addr} {aStk : Addr} {nMst : Int} {tMst : Tok} {fM_Maker_wish : Addr} {moc_Maker_wish mkV_Maker_wish mdc_Maker_wish mpm_Maker_wish mcd_Maker_wish mct_Maker_wish : Value} {mod_Maker_wish man_Maker_wish : Option Addr} {msl_Maker_wish : Array (Option Value)} {fM_Maker_examples : Addr} {moc_Maker_examples mkV_Maker_examples mdc_Maker_examples mpm_Maker_examples mcd_Maker_examples mct_Maker_examples : Value} {mod_Maker_examples man_Maker_examples : Option Addr} {msl_Maker_examples : Array (Option Value)} {fM_Maker_back : Addr} {moc_Maker_back mkV_Maker_back mdc_Maker_back mpm_Maker_back mcd_Maker_back mct_Maker_back : Value} {mod_Maker_back man_Maker_back : Option Addr} {msl_Maker_back : Array (Option Value)} {fM_Maker_kept : Addr} {moc_Maker_kept mkV_Maker_kept mdc_Maker_kept mpm_Maker_kept mcd_Maker_kept mct_Maker_kept : Value} {mod_Maker_kept man_Maker_kept : Option Addr} {msl_Maker_kept : Array (Option Value)} {fM_Maker_log : Addr} {moc_Maker_log mkV_Maker_log mdc_Maker_log mpm_Maker_log mcd_Maker_log mct_Maker_log : Value} {mod_Maker_log man_Maker_log : Option Addr} {msl_Maker_log : Array (Option Value)} {fM_Maker_is_busy : Addr} {moc_Maker_is_busy mkV_Maker_is_busy mdc_Maker_is_busy mpm_Maker_is_busy mcd_Maker_is_busy mct_Maker_is_busy : Value} {mod_Maker_is_busy man_Maker_is_busy : Option Addr} {msl_Maker_is_busy : Array (Option Value)} {fM_Maker___len__ : Addr} {moc_Maker___len__ mkV_Maker___len__ mdc_Maker___len__ mpm_Maker___len__ mcd_Maker___len__ mct_Maker___len__ : Value} {mod_Maker___len__ man_Maker___len__ : Option Addr} {msl_Maker___len__ : Array (Option Value)} {fM_Maker_deed : Addr} {moc_Maker_deed mkV_Maker_deed mdc_Maker_deed mpm_Maker_deed mcd_Maker_deed mct_Maker_deed : Value} {mod_Maker_deed man_Maker_deed : Option Addr} {msl_Maker_deed : Array (Option Value)} {fM_Maker_numbered : Addr} {moc_Maker_numbered mkV_Maker_numbered mdc_Maker_numbered mpm_Maker_numbered mcd_Maker_numbered mct_Maker_numbered : Value} {mod_Maker_numbered man_Maker_numbered : Option Addr} {msl_Maker_numbered : Array (Option Value)}
    (a0 : PySem.W.nsIn K mainGlobals "kind_of" = some (some (.ref f0))) (l0 : K.lookup f0 = some ⟨oc0, od0, .func (PySem.W.fnOf "kind_of" "kind_of" (defArgs s_kind_of) (defBody s_kind_of) (defScope s_kind_of) .none kV0 dc0 pm0 an0 cd0 ct0), sl0⟩) (c0 : PySem.W.codeIn K cd0 "kind_of" = true) (k0 : PySem.W.keepIn K (.ref f0) = true)
    (a1 : PySem.W.nsIn K mainGlobals "knots" = some (some (.ref f1))) (l1 : K.lookup f1 = some ⟨oc1, od1, .func (PySem.W.fnOf "knots" "knots" (defArgs s_knots) (defBody s_knots) (defScope s_knots) .none kV1 dc1 pm1 an1 cd1 ct1), sl1⟩) (c1 : PySem.W.codeIn K cd1 "knots" = true) (k1 : PySem.W.keepIn K (.ref f1) = true)
    (a2 : PySem.W.nsIn K mainGlobals "is_whole" = some (some (.ref f2))) (l2 : K.lookup f2 = some ⟨oc2, od2, .func (PySem.W.fnOf "is_whole" "is_whole" (defArgs s_is_whole) (defBody s_is_whole) (defScope s_is_whole) .none kV2 dc2 pm2 an2 cd2 ct2), sl2⟩) (c2 : PySem.W.codeIn K cd2 "is_whole" = true) (k2 : PySem.W.keepIn K (.ref f2) = true)
    (a3 : PySem.W.nsIn K mainGlobals "has_kind" = some (some (.ref f3))) (l3 : K.lookup f3 = some ⟨oc3, od3, .func (PySem.W.fnOf "has_kind" "has_kind" (defArgs s_has_kind) (defBody s_has_kind) (defScope s_has_kind) .none kV3 dc3 pm3 an3 cd3 ct3), sl3⟩) (c3 : PySem.W.codeIn K cd3 "has_kind" = true) (k3 : PySem.W.keepIn K (.ref f3) = true)
    (a4 : PySem.W.nsIn K mainGlobals "has_form" = some (some (.ref f4))) (l4 : K.lookup f4 = some ⟨oc4, od4, .func (PySem.W.fnOf "has_form" "has_form" (defArgs s_has_form) (defBody s_has_form) (defScope s_has_form) .none kV4 dc4 pm4 an4 cd4 ct4), sl4⟩) (c4 : PySem.W.codeIn K cd4 "has_form" = true) (k4 : PySem.W.keepIn K (.ref f4) = true)
    (a5 : PySem.W.nsIn K mainGlobals "many_numbers" = some (some (.ref f5))) (l5 : K.lookup f5 = some ⟨oc5, od5, .func (PySem.W.fnOf "many_numbers" "many_numbers" (defArgs s_many_numbers) (defBody s_many_numbers) (defScope s_many_numbers) .none kV5 dc5 pm5 an5 cd5 ct5), sl5⟩) (c5 : PySem.W.codeIn K cd5 "many_numbers" = true) (k5 : PySem.W.keepIn K (.ref f5) = true)
    (a6 : PySem.W.nsIn K mainGlobals "many_parts" = some (some (.ref f6))) (l6 : K.lookup f6 = some ⟨oc6, od6, .func (PySem.W.fnOf "many_parts" "many_parts" (defArgs s_many_parts) (defBody s_many_parts) (defScope s_many_parts) .none kV6 dc6 pm6 an6 cd6 ct6), sl6⟩) (c6 : PySem.W.codeIn K cd6 "many_parts" = true) (k6 : PySem.W.keepIn K (.ref f6) = true)
    (a7 : PySem.W.nsIn K mainGlobals "parts_of" = some (some (.ref f7))) (l7 : K.lookup f7 = some ⟨oc7, od7, .func (PySem.W.fnOf "parts_of" "parts_of" (defArgs s_parts_of) (defBody s_parts_of) (defScope s_parts_of) .none kV7 dc7 pm7 an7 cd7 ct7), sl7⟩) (c7 : PySem.W.codeIn K cd7 "parts_of" = true) (k7 : PySem.W.keepIn K (.ref f7) = true)
    (a8 : PySem.W.nsIn K mainGlobals "taken" = some (some (.ref f8))) (l8 : K.lookup f8 = some ⟨oc8, od8, .func (PySem.W.fnOf "taken" "taken" (defArgs s_taken) (defBody s_taken) (defScope s_taken) .none kV8 dc8 pm8 an8 cd8 ct8), sl8⟩) (c8 : PySem.W.codeIn K cd8 "taken" = true) (k8 : PySem.W.keepIn K (.ref f8) = true)
    (a9 : PySem.W.nsIn K mainGlobals "refuse_forms" = some (some (.ref f9))) (l9 : K.lookup f9 = some ⟨oc9, od9, .func (PySem.W.fnOf "refuse_forms" "refuse_forms" (defArgs s_refuse_forms) (defBody s_refuse_forms) (defScope s_refuse_forms) .none kV9 dc9 pm9 an9 cd9 ct9), sl9⟩) (c9 : PySem.W.codeIn K cd9 "refuse_forms" = true) (k9 : PySem.W.keepIn K (.ref f9) = true)
    (a10 : PySem.W.nsIn K mainGlobals "refuse_inputs" = some (some (.ref f10))) (l10 : K.lookup f10 = some ⟨oc10, od10, .func (PySem.W.fnOf "refuse_inputs" "refuse_inputs" (defArgs s_refuse_inputs) (defBody s_refuse_inputs) (defScope s_refuse_inputs) .none kV10 dc10 pm10 an10 cd10 ct10), sl10⟩) (c10 : PySem.W.codeIn K cd10 "refuse_inputs" = true) (k10 : PySem.W.keepIn K (.ref f10) = true)
    (a11 : PySem.W.nsIn K mainGlobals "parts_fit" = some (some (.ref f11))) (l11 : K.lookup f11 = some ⟨oc11, od11, .func (PySem.W.fnOf "parts_fit" "parts_fit" (defArgs s_parts_fit) (defBody s_parts_fit) (defScope s_parts_fit) .none kV11 dc11 pm11 an11 cd11 ct11), sl11⟩) (c11 : PySem.W.codeIn K cd11 "parts_fit" = true) (k11 : PySem.W.keepIn K (.ref f11) = true)
    (a12 : PySem.W.nsIn K mainGlobals "own_kind" = some (some (.ref f12))) (l12 : K.lookup f12 = some ⟨oc12, od12, .func (PySem.W.fnOf "own_kind" "own_kind" (defArgs s_own_kind) (defBody s_own_kind) (defScope s_own_kind) .none kV12 dc12 pm12 an12 cd12 ct12), sl12⟩) (c12 : PySem.W.codeIn K cd12 "own_kind" = true) (k12 : PySem.W.keepIn K (.ref f12) = true)
    (a13 : PySem.W.nsIn K mainGlobals "refuse_wish" = some (some (.ref f13))) (l13 : K.lookup f13 = some ⟨oc13, od13, .func (PySem.W.fnOf "refuse_wish" "refuse_wish" (defArgs s_refuse_wish) (defBody s_refuse_wish) (defScope s_refuse_wish) .none kV13 dc13 pm13 an13 cd13 ct13), sl13⟩) (c13 : PySem.W.codeIn K cd13 "refuse_wish" = true) (k13 : PySem.W.keepIn K (.ref f13) = true)
    (a14 : PySem.W.nsIn K mainGlobals "refuse_examples" = some (some (.ref f14))) (l14 : K.lookup f14 = some ⟨oc14, od14, .func (PySem.W.fnOf "refuse_examples" "refuse_examples" (defArgs s_refuse_examples) (defBody s_refuse_examples) (defScope s_refuse_examples) .none kV14 dc14 pm14 an14 cd14 ct14), sl14⟩) (c14 : PySem.W.codeIn K cd14 "refuse_examples" = true) (k14 : PySem.W.keepIn K (.ref f14) = true)
    (a15 : PySem.W.nsIn K mainGlobals "are_inputs" = some (some (.ref f15))) (l15 : K.lookup f15 = some ⟨oc15, od15, .func (PySem.W.fnOf "are_inputs" "are_inputs" (defArgs s_are_inputs) (defBody s_are_inputs) (defScope s_are_inputs) .none kV15 dc15 pm15 an15 cd15 ct15), sl15⟩) (c15 : PySem.W.codeIn K cd15 "are_inputs" = true) (k15 : PySem.W.keepIn K (.ref f15) = true)
    (a16 : PySem.W.nsIn K mainGlobals "refuse_clashes" = some (some (.ref f16))) (l16 : K.lookup f16 = some ⟨oc16, od16, .func (PySem.W.fnOf "refuse_clashes" "refuse_clashes" (defArgs s_refuse_clashes) (defBody s_refuse_clashes) (defScope s_refuse_clashes) .none kV16 dc16 pm16 an16 cd16 ct16), sl16⟩) (c16 : PySem.W.codeIn K cd16 "refuse_clashes" = true) (k16 : PySem.W.keepIn K (.ref f16) = true)
    (a17 : PySem.W.nsIn K mainGlobals "_law_cell" = some (some (.ref f17))) (l17 : K.lookup f17 = some ⟨oc17, od17, .func (PySem.W.fnOf "_law_cell" "_law_cell" (defArgs s_l_cell) (defBody s_l_cell) (defScope s_l_cell) .none kV17 dc17 pm17 an17 cd17 ct17), sl17⟩) (c17 : PySem.W.codeIn K cd17 "_law_cell" = true) (k17 : PySem.W.keepIn K (.ref f17) = true)
    (a18 : PySem.W.nsIn K mainGlobals "_law_flow" = some (some (.ref f18))) (l18 : K.lookup f18 = some ⟨oc18, od18, .func (PySem.W.fnOf "_law_flow" "_law_flow" (defArgs s_l_flow) (defBody s_l_flow) (defScope s_l_flow) .none kV18 dc18 pm18 an18 cd18 ct18), sl18⟩) (c18 : PySem.W.codeIn K cd18 "_law_flow" = true) (k18 : PySem.W.keepIn K (.ref f18) = true)
    (a19 : PySem.W.nsIn K mainGlobals "_law_draw" = some (some (.ref f19))) (l19 : K.lookup f19 = some ⟨oc19, od19, .func (PySem.W.fnOf "_law_draw" "_law_draw" (defArgs s_l_draw) (defBody s_l_draw) (defScope s_l_draw) .none kV19 dc19 pm19 an19 cd19 ct19), sl19⟩) (c19 : PySem.W.codeIn K cd19 "_law_draw" = true) (k19 : PySem.W.keepIn K (.ref f19) = true)
    (a20 : PySem.W.nsIn K mainGlobals "_law_numeral" = some (some (.ref f20))) (l20 : K.lookup f20 = some ⟨oc20, od20, .func (PySem.W.fnOf "_law_numeral" "_law_numeral" (defArgs s_l_numeral) (defBody s_l_numeral) (defScope s_l_numeral) .none kV20 dc20 pm20 an20 cd20 ct20), sl20⟩) (c20 : PySem.W.codeIn K cd20 "_law_numeral" = true) (k20 : PySem.W.keepIn K (.ref f20) = true)
    (a21 : PySem.W.nsIn K mainGlobals "_law_leaf" = some (some (.ref f21))) (l21 : K.lookup f21 = some ⟨oc21, od21, .func (PySem.W.fnOf "_law_leaf" "_law_leaf" (defArgs s_l_leaf) (defBody s_l_leaf) (defScope s_l_leaf) .none kV21 dc21 pm21 an21 cd21 ct21), sl21⟩) (c21 : PySem.W.codeIn K cd21 "_law_leaf" = true) (k21 : PySem.W.keepIn K (.ref f21) = true)
    (a22 : PySem.W.nsIn K mainGlobals "_law_made" = some (some (.ref f22))) (l22 : K.lookup f22 = some ⟨oc22, od22, .func (PySem.W.fnOf "_law_made" "_law_made" (defArgs s_l_made) (defBody s_l_made) (defScope s_l_made) .none kV22 dc22 pm22 an22 cd22 ct22), sl22⟩) (c22 : PySem.W.codeIn K cd22 "_law_made" = true) (k22 : PySem.W.keepIn K (.ref f22) = true)
    (a23 : PySem.W.nsIn K mainGlobals "_law_has_form" = some (some (.ref f23))) (l23 : K.lookup f23 = some ⟨oc23, od23, .func (PySem.W.fnOf "_law_has_form" "_law_has_form" (defArgs s_l_has_form) (defBody s_l_has_form) (defScope s_l_has_form) .none kV23 dc23 pm23 an23 cd23 ct23), sl23⟩) (c23 : PySem.W.codeIn K cd23 "_law_has_form" = true) (k23 : PySem.W.keepIn K (.ref f23) = true)
    (a24 : PySem.W.nsIn K mainGlobals "_law_parts" = some (some (.ref f24))) (l24 : K.lookup f24 = some ⟨oc24, od24, .func (PySem.W.fnOf "_law_parts" "_law_parts" (defArgs s_l_parts) (defBody s_l_parts) (defScope s_l_parts) .none kV24 dc24 pm24 an24 cd24 ct24), sl24⟩) (c24 : PySem.W.codeIn K cd24 "_law_parts" = true) (k24 : PySem.W.keepIn K (.ref f24) = true)
    (a25 : PySem.W.nsIn K mainGlobals "_law_knots" = some (some (.ref f25))) (l25 : K.lookup f25 = some ⟨oc25, od25, .func (PySem.W.fnOf "_law_knots" "_law_knots" (defArgs s_l_knots) (defBody s_l_knots) (defScope s_l_knots) .none kV25 dc25 pm25 an25 cd25 ct25), sl25⟩) (c25 : PySem.W.codeIn K cd25 "_law_knots" = true) (k25 : PySem.W.keepIn K (.ref f25) = true)
    (a26 : PySem.W.nsIn K mainGlobals "_law_own" = some (some (.ref f26))) (l26 : K.lookup f26 = some ⟨oc26, od26, .func (PySem.W.fnOf "_law_own" "_law_own" (defArgs s_l_own) (defBody s_l_own) (defScope s_l_own) .none kV26 dc26 pm26 an26 cd26 ct26), sl26⟩) (c26 : PySem.W.codeIn K cd26 "_law_own" = true) (k26 : PySem.W.keepIn K (.ref f26) = true)
    (a27 : PySem.W.nsIn K mainGlobals "_law_wrong" = some (some (.ref f27))) (l27 : K.lookup f27 = some ⟨oc27, od27, .func (PySem.W.fnOf "_law_wrong" "_law_wrong" (defArgs s_l_wrong) (defBody s_l_wrong) (defScope s_l_wrong) .none kV27 dc27 pm27 an27 cd27 ct27), sl27⟩) (c27 : PySem.W.codeIn K cd27 "_law_wrong" = true) (k27 : PySem.W.keepIn K (.ref f27) = true)
    (a28 : PySem.W.nsIn K mainGlobals "_law_alike" = some (some (.ref f28))) (l28 : K.lookup f28 = some ⟨oc28, od28, .func (PySem.W.fnOf "_law_alike" "_law_alike" (defArgs s_l_alike) (defBody s_l_alike) (defScope s_l_alike) .none kV28 dc28 pm28 an28 cd28 ct28), sl28⟩) (c28 : PySem.W.codeIn K cd28 "_law_alike" = true) (k28 : PySem.W.keepIn K (.ref f28) = true)
    (a29 : PySem.W.nsIn K mainGlobals "_law_sorts" = some (some (.ref f29))) (l29 : K.lookup f29 = some ⟨oc29, od29, .func (PySem.W.fnOf "_law_sorts" "_law_sorts" (defArgs s_l_sorts) (defBody s_l_sorts) (defScope s_l_sorts) .none kV29 dc29 pm29 an29 cd29 ct29), sl29⟩) (c29 : PySem.W.codeIn K cd29 "_law_sorts" = true) (k29 : PySem.W.keepIn K (.ref f29) = true)
    (a30 : PySem.W.nsIn K mainGlobals "_law_due_kind" = some (some (.ref f30))) (l30 : K.lookup f30 = some ⟨oc30, od30, .func (PySem.W.fnOf "_law_due_kind" "_law_due_kind" (defArgs s_l_due_kind) (defBody s_l_due_kind) (defScope s_l_due_kind) .none kV30 dc30 pm30 an30 cd30 ct30), sl30⟩) (c30 : PySem.W.codeIn K cd30 "_law_due_kind" = true) (k30 : PySem.W.keepIn K (.ref f30) = true)
    (a31 : PySem.W.nsIn K mainGlobals "_law_small_wish" = some (some (.ref f31))) (l31 : K.lookup f31 = some ⟨oc31, od31, .func (PySem.W.fnOf "_law_small_wish" "_law_small_wish" (defArgs s_l_small_wish) (defBody s_l_small_wish) (defScope s_l_small_wish) .none kV31 dc31 pm31 an31 cd31 ct31), sl31⟩) (c31 : PySem.W.codeIn K cd31 "_law_small_wish" = true) (k31 : PySem.W.keepIn K (.ref f31) = true)
    (a32 : PySem.W.nsIn K mainGlobals "_law_head" = some (some (.ref f32))) (l32 : K.lookup f32 = some ⟨oc32, od32, .func (PySem.W.fnOf "_law_head" "_law_head" (defArgs s_l_head) (defBody s_l_head) (defScope s_l_head) .none kV32 dc32 pm32 an32 cd32 ct32), sl32⟩) (c32 : PySem.W.codeIn K cd32 "_law_head" = true) (k32 : PySem.W.keepIn K (.ref f32) = true)
    (a33 : PySem.W.nsIn K mainGlobals "_law_near_inputs" = some (some (.ref f33))) (l33 : K.lookup f33 = some ⟨oc33, od33, .func (PySem.W.fnOf "_law_near_inputs" "_law_near_inputs" (defArgs s_l_near_inputs) (defBody s_l_near_inputs) (defScope s_l_near_inputs) .none kV33 dc33 pm33 an33 cd33 ct33), sl33⟩) (c33 : PySem.W.codeIn K cd33 "_law_near_inputs" = true) (k33 : PySem.W.keepIn K (.ref f33) = true)
    (a34 : PySem.W.nsIn K mainGlobals "_law_example" = some (some (.ref f34))) (l34 : K.lookup f34 = some ⟨oc34, od34, .func (PySem.W.fnOf "_law_example" "_law_example" (defArgs s_l_example) (defBody s_l_example) (defScope s_l_example) .none kV34 dc34 pm34 an34 cd34 ct34), sl34⟩) (c34 : PySem.W.codeIn K cd34 "_law_example" = true) (k34 : PySem.W.keepIn K (.ref f34) = true)
    (a35 : PySem.W.nsIn K mainGlobals "_law_is_of" = some (some (.ref f35))) (l35 : K.lookup f35 = some ⟨oc35, od35, .func (PySem.W.fnOf "_law_is_of" "_law_is_of" (defArgs s_l_is_of) (defBody s_l_is_of) (defScope s_l_is_of) .none kV35 dc35 pm35 an35 cd35 ct35), sl35⟩) (c35 : PySem.W.codeIn K cd35 "_law_is_of" = true) (k35 : PySem.W.keepIn K (.ref f35) = true)
    (a36 : PySem.W.nsIn K mainGlobals "_law_examples_due" = some (some (.ref f36))) (l36 : K.lookup f36 = some ⟨oc36, od36, .func (PySem.W.fnOf "_law_examples_due" "_law_examples_due" (defArgs s_l_examples_due) (defBody s_l_examples_due) (defScope s_l_examples_due) .none kV36 dc36 pm36 an36 cd36 ct36), sl36⟩) (c36 : PySem.W.codeIn K cd36 "_law_examples_due" = true) (k36 : PySem.W.keepIn K (.ref f36) = true)
    (a37 : PySem.W.nsIn K mainGlobals "_law_maker_said" = some (some (.ref f37))) (l37 : K.lookup f37 = some ⟨oc37, od37, .func (PySem.W.fnOf "_law_maker_said" "_law_maker_said" (defArgs s_l_maker_said) (defBody s_l_maker_said) (defScope s_l_maker_said) .none kV37 dc37 pm37 an37 cd37 ct37), sl37⟩) (c37 : PySem.W.codeIn K cd37 "_law_maker_said" = true) (k37 : PySem.W.keepIn K (.ref f37) = true)
    (a38 : PySem.W.nsIn K mainGlobals "_law_maker_due" = some (some (.ref f38))) (l38 : K.lookup f38 = some ⟨oc38, od38, .func (PySem.W.fnOf "_law_maker_due" "_law_maker_due" (defArgs s_l_maker_due) (defBody s_l_maker_due) (defScope s_l_maker_due) .none kV38 dc38 pm38 an38 cd38 ct38), sl38⟩) (c38 : PySem.W.codeIn K cd38 "_law_maker_due" = true) (k38 : PySem.W.keepIn K (.ref f38) = true)
    (a39 : PySem.W.nsIn K mainGlobals "_law_stands" = some (some (.ref f39))) (l39 : K.lookup f39 = some ⟨oc39, od39, .func (PySem.W.fnOf "_law_stands" "_law_stands" (defArgs s_l_stands) (defBody s_l_stands) (defScope s_l_stands) .none kV39 dc39 pm39 an39 cd39 ct39), sl39⟩) (c39 : PySem.W.codeIn K cd39 "_law_stands" = true) (k39 : PySem.W.keepIn K (.ref f39) = true)
    (a40 : PySem.W.nsIn K mainGlobals "_law_new_model" = some (some (.ref f40))) (l40 : K.lookup f40 = some ⟨oc40, od40, .func (PySem.W.fnOf "_law_new_model" "_law_new_model" (defArgs s_l_new_model) (defBody s_l_new_model) (defScope s_l_new_model) .none kV40 dc40 pm40 an40 cd40 ct40), sl40⟩) (c40 : PySem.W.codeIn K cd40 "_law_new_model" = true) (k40 : PySem.W.keepIn K (.ref f40) = true)
    (a41 : PySem.W.nsIn K mainGlobals "_law_bad_example" = some (some (.ref f41))) (l41 : K.lookup f41 = some ⟨oc41, od41, .func (PySem.W.fnOf "_law_bad_example" "_law_bad_example" (defArgs s_l_bad_example) (defBody s_l_bad_example) (defScope s_l_bad_example) .none kV41 dc41 pm41 an41 cd41 ct41), sl41⟩) (c41 : PySem.W.codeIn K cd41 "_law_bad_example" = true) (k41 : PySem.W.keepIn K (.ref f41) = true)
    (a42 : PySem.W.nsIn K mainGlobals "_law_clashing" = some (some (.ref f42))) (l42 : K.lookup f42 = some ⟨oc42, od42, .func (PySem.W.fnOf "_law_clashing" "_law_clashing" (defArgs s_l_clashing) (defBody s_l_clashing) (defScope s_l_clashing) .none kV42 dc42 pm42 an42 cd42 ct42), sl42⟩) (c42 : PySem.W.codeIn K cd42 "_law_clashing" = true) (k42 : PySem.W.keepIn K (.ref f42) = true)
    (a43 : PySem.W.nsIn K mainGlobals "_law_begun" = some (some (.ref f43))) (l43 : K.lookup f43 = some ⟨oc43, od43, .func (PySem.W.fnOf "_law_begun" "_law_begun" (defArgs s_l_begun) (defBody s_l_begun) (defScope s_l_begun) .none kV43 dc43 pm43 an43 cd43 ct43), sl43⟩) (c43 : PySem.W.codeIn K cd43 "_law_begun" = true) (k43 : PySem.W.keepIn K (.ref f43) = true)
    (a44 : PySem.W.nsIn K mainGlobals "law" = some (some (.ref f44))) (l44 : K.lookup f44 = some ⟨oc44, od44, .func (PySem.W.fnOf "law" "law" (defArgs s_law) (defBody s_law) (defScope s_law) .none kV44 dc44 pm44 an44 cd44 ct44), sl44⟩) (c44 : PySem.W.codeIn K cd44 "law" = true) (k44 : PySem.W.keepIn K (.ref f44) = true)
    (z0 : PySem.W.nsIn K mainGlobals "len" = some none)
    (z1 : PySem.W.nsIn K mainGlobals "isinstance" = some none)
    (z2 : PySem.W.nsIn K mainGlobals "tuple" = some none)
    (z3 : PySem.W.nsIn K mainGlobals "list" = some none)
    (z4 : PySem.W.nsIn K mainGlobals "str" = some none)
    (z5 : PySem.W.nsIn K mainGlobals "int" = some none)
    (z6 : PySem.W.nsIn K mainGlobals "bool" = some none)
    (z7 : PySem.W.nsIn K mainGlobals "range" = some none)
    (z8 : PySem.W.nsIn K mainGlobals "zip" = some none)
    (z9 : PySem.W.nsIn K mainGlobals "enumerate" = some none)
    (z10 : PySem.W.nsIn K mainGlobals "reversed" = some none)
    (z11 : PySem.W.nsIn K mainGlobals "max" = some none)
    (z12 : PySem.W.nsIn K mainGlobals "all" = some none)
    (z13 : PySem.W.nsIn K mainGlobals "min" = some none)
    (z14 : PySem.W.nsIn K mainGlobals "sum" = some none)
    (z15 : PySem.W.nsIn K mainGlobals "any" = some none)
    (z16 : PySem.W.nsIn K mainGlobals "sorted" = some none)
    (z17 : PySem.W.nsIn K mainGlobals "set" = some none)
    (z18 : PySem.W.nsIn K mainGlobals "repr" = some none)
    (z19 : PySem.W.nsIn K mainGlobals "abs" = some none)
    (aF : PySem.W.nsIn K mainGlobals "FORMS" = some (some (.ref dF))) (lF : K.lookup dF = some ⟨.type "dict", none, .dict esF nF, #[]⟩) (kF : PySem.W.KeysLit w.params esF.toList) (wF : (dF == sysModules) = false)
    (e0 : PySem.W.nsIn K dF "in" = some (some (.ref t0))) (m0 : K.lookup t0 = some ⟨.type "tuple", dt0, .seq #[.int 1 q0_0, .ref u0, .none] nt0, st0⟩) (v0 : K.lookup u0 = some ⟨.type "tuple", du0, .seq #[] nu0, su0⟩)
    (e1 : PySem.W.nsIn K dF "num" = some (some (.ref t1))) (m1 : K.lookup t1 = some ⟨.type "tuple", dt1, .seq #[.int 1 q0_1, .ref u1, .str "num" q1_1] nt1, st1⟩) (v1 : K.lookup u1 = some ⟨.type "tuple", du1, .seq #[] nu1, su1⟩)
    (e2 : PySem.W.nsIn K dF "yes" = some (some (.ref t2))) (m2 : K.lookup t2 = some ⟨.type "tuple", dt2, .seq #[.int 0 q0_2, .ref u2, .str "truth" q1_2] nt2, st2⟩) (v2 : K.lookup u2 = some ⟨.type "tuple", du2, .seq #[] nu2, su2⟩)
    (e3 : PySem.W.nsIn K dF "no" = some (some (.ref t3))) (m3 : K.lookup t3 = some ⟨.type "tuple", dt3, .seq #[.int 0 q0_3, .ref u3, .str "truth" q1_3] nt3, st3⟩) (v3 : K.lookup u3 = some ⟨.type "tuple", du3, .seq #[] nu3, su3⟩)
    (e4 : PySem.W.nsIn K dF "plus" = some (some (.ref t4))) (m4 : K.lookup t4 = some ⟨.type "tuple", dt4, .seq #[.int 1 q0_4, .ref u4, .str "num" q1_4] nt4, st4⟩) (v4 : K.lookup u4 = some ⟨.type "tuple", du4, .seq #[.str "num" q2_4] nu4, su4⟩)
    (e5 : PySem.W.nsIn K dF "least" = some (some (.ref t5))) (m5 : K.lookup t5 = some ⟨.type "tuple", dt5, .seq #[.int 0 q0_5, .ref u5, .str "num" q1_5] nt5, st5⟩) (v5 : K.lookup u5 = some ⟨.type "tuple", du5, .seq #[.str "num" q2_5, .str "num" q3_5] nu5, su5⟩)
    (e6 : PySem.W.nsIn K dF "most" = some (some (.ref t6))) (m6 : K.lookup t6 = some ⟨.type "tuple", dt6, .seq #[.int 0 q0_6, .ref u6, .str "num" q1_6] nt6, st6⟩) (v6 : K.lookup u6 = some ⟨.type "tuple", du6, .seq #[.str "num" q2_6, .str "num" q3_6] nu6, su6⟩)
    (e7 : PySem.W.nsIn K dF "atmost" = some (some (.ref t7))) (m7 : K.lookup t7 = some ⟨.type "tuple", dt7, .seq #[.int 0 q0_7, .ref u7, .str "truth" q1_7] nt7, st7⟩) (v7 : K.lookup u7 = some ⟨.type "tuple", du7, .seq #[.str "num" q2_7, .str "num" q3_7] nu7, su7⟩)
    (e8 : PySem.W.nsIn K dF "not" = some (some (.ref t8))) (m8 : K.lookup t8 = some ⟨.type "tuple", dt8, .seq #[.int 0 q0_8, .ref u8, .str "truth" q1_8] nt8, st8⟩) (v8 : K.lookup u8 = some ⟨.type "tuple", du8, .seq #[.str "truth" q2_8] nu8, su8⟩)
    (e9 : PySem.W.nsIn K dF "both" = some (some (.ref t9))) (m9 : K.lookup t9 = some ⟨.type "tuple", dt9, .seq #[.int 0 q0_9, .ref u9, .str "truth" q1_9] nt9, st9⟩) (v9 : K.lookup u9 = some ⟨.type "tuple", du9, .seq #[.str "truth" q2_9, .str "truth" q3_9] nu9, su9⟩)
    (e10 : PySem.W.nsIn K dF "either" = some (some (.ref t10))) (m10 : K.lookup t10 = some ⟨.type "tuple", dt10, .seq #[.int 0 q0_10, .ref u10, .str "truth" q1_10] nt10, st10⟩) (v10 : K.lookup u10 = some ⟨.type "tuple", du10, .seq #[.str "truth" q2_10, .str "truth" q3_10] nu10, su10⟩)
    (e11 : PySem.W.nsIn K dF "if" = some (some (.ref t11))) (m11 : K.lookup t11 = some ⟨.type "tuple", dt11, .seq #[.int 0 q0_11, .ref u11, .none] nt11, st11⟩) (v11 : K.lookup u11 = some ⟨.type "tuple", du11, .seq #[.str "truth" q2_11, .none, .none] nu11, su11⟩)
    (cn_MOST : PySem.W.nsIn K mainGlobals "MOST" = some (some (.int 5 tk_MOST)))
    (nFoo : PySem.W.nsIn K dF "foo" = some none)
    (a_NoProgram : PySem.W.nsIn K mainGlobals "NoProgram" = some (some (.ref c_NoProgram)))
    (x_NoProgram : K.lookup c_NoProgram = some (excClassObj nm_NoProgram qn_NoProgram c_NoProgram N_NoProgram bs_NoProgram [.ref u_NoProgram, .type "ValueError", .type "Exception", .type "BaseException", .type "object"] true sn_NoProgram sub_NoProgram ab_NoProgram col_NoProgram dd_NoProgram m0_NoProgram m1_NoProgram m2_NoProgram m3_NoProgram m5_NoProgram "ValueError.__new__"))
    (sa_NoProgram : PySem.W.findIn K (.ref c_NoProgram) "__setattr__" = some (some (.builtin "object.__setattr__")))
    (ga_NoProgram : PySem.W.findIn K (.ref c_NoProgram) "__getattribute__" = some (some (.builtin "BaseException.__getattribute__")))
    (gg_NoProgram : PySem.W.findIn K (.ref c_NoProgram) "__getattr__" = some none)
    (i_NoProgram' : PySem.W.findIn K (.ref c_NoProgram) "__init__" = some (some (.ref i_NoProgram)))
    (ca_NoProgram : PySem.W.findIn K (.ref c_NoProgram) "__class__" = some (some (.builtin "object.__class__")))
    (t_NoProgram : PySem.W.typeIn K (.ref i_NoProgram) = some (.type "function"))
    (l_NoProgram : K.lookup i_NoProgram = some ⟨oc_NoProgram, od_NoProgram, .func (PySem.W.fnOf "__init__" "NoProgram.__init__" (defArgs s_NoProgram) (defBody s_NoProgram) (defScope s_NoProgram) .none kV_NoProgram doc_NoProgram pm_NoProgram an_NoProgram cdv_NoProgram ct_NoProgram), osl_NoProgram⟩)
    (c_NoProgram' : PySem.W.codeIn K cdv_NoProgram "NoProgram.__init__" = true)
    (kf_NoProgram : PySem.W.keepIn K (.ref i_NoProgram) = true)
    (kc_NoProgram : PySem.W.keepIn K (.ref c_NoProgram) = true)
    (ex_NoProgram : PySem.W.subIn K (.ref c_NoProgram) (.type "BaseException") = some true)
    (ty_NoProgram : PySem.W.typeIn K (.ref c_NoProgram) = some (.type "type"))
    (hd_NoProgram : PySem.W.hasDictIn K c_NoProgram = true)
    (is_NoProgram : PySem.W.isClsIn K c_NoProgram = true)
    (te_NoProgram : PySem.W.exmOne K (.ref c_NoProgram) (.ref c_NoProgram) = some true)
    (ob_NoProgram : PySem.W.mroIn K c_NoProgram (.type "object") = some true)
    (gn_NoProgram : PySem.W.specialIn K (.builtin "object.__class__") "__get__" = some (some (.builtin "getset_descriptor.__get__")))
    (tk_NoProgram : PySem.W.takesIn K (.builtin "object.__class__") = some true)
    (f0_NoProgram : PySem.W.findIn K (.ref c_NoProgram) "word" = some none)
    (f1_NoProgram : PySem.W.findIn K (.ref c_NoProgram) "at" = some none)
    (a_NoInputs : PySem.W.nsIn K mainGlobals "NoInputs" = some (some (.ref c_NoInputs)))
    (x_NoInputs : K.lookup c_NoInputs = some (excClassObj nm_NoInputs qn_NoInputs c_NoInputs N_NoInputs bs_NoInputs [.ref u_NoInputs, .type "ValueError", .type "Exception", .type "BaseException", .type "object"] true sn_NoInputs sub_NoInputs ab_NoInputs col_NoInputs dd_NoInputs m0_NoInputs m1_NoInputs m2_NoInputs m3_NoInputs m5_NoInputs "ValueError.__new__"))
    (sa_NoInputs : PySem.W.findIn K (.ref c_NoInputs) "__setattr__" = some (some (.builtin "object.__setattr__")))
    (ga_NoInputs : PySem.W.findIn K (.ref c_NoInputs) "__getattribute__" = some (some (.builtin "BaseException.__getattribute__")))
    (gg_NoInputs : PySem.W.findIn K (.ref c_NoInputs) "__getattr__" = some none)
    (i_NoInputs' : PySem.W.findIn K (.ref c_NoInputs) "__init__" = some (some (.ref i_NoInputs)))
    (ca_NoInputs : PySem.W.findIn K (.ref c_NoInputs) "__class__" = some (some (.builtin "object.__class__")))
    (t_NoInputs : PySem.W.typeIn K (.ref i_NoInputs) = some (.type "function"))
    (l_NoInputs : K.lookup i_NoInputs = some ⟨oc_NoInputs, od_NoInputs, .func (PySem.W.fnOf "__init__" "NoInputs.__init__" (defArgs s_NoInputs) (defBody s_NoInputs) (defScope s_NoInputs) .none kV_NoInputs doc_NoInputs pm_NoInputs an_NoInputs cdv_NoInputs ct_NoInputs), osl_NoInputs⟩)
    (c_NoInputs' : PySem.W.codeIn K cdv_NoInputs "NoInputs.__init__" = true)
    (kf_NoInputs : PySem.W.keepIn K (.ref i_NoInputs) = true)
    (kc_NoInputs : PySem.W.keepIn K (.ref c_NoInputs) = true)
    (ex_NoInputs : PySem.W.subIn K (.ref c_NoInputs) (.type "BaseException") = some true)
    (ty_NoInputs : PySem.W.typeIn K (.ref c_NoInputs) = some (.type "type"))
    (hd_NoInputs : PySem.W.hasDictIn K c_NoInputs = true)
    (is_NoInputs : PySem.W.isClsIn K c_NoInputs = true)
    (te_NoInputs : PySem.W.exmOne K (.ref c_NoInputs) (.ref c_NoInputs) = some true)
    (ob_NoInputs : PySem.W.mroIn K c_NoInputs (.type "object") = some true)
    (gn_NoInputs : PySem.W.specialIn K (.builtin "object.__class__") "__get__" = some (some (.builtin "getset_descriptor.__get__")))
    (tk_NoInputs : PySem.W.takesIn K (.builtin "object.__class__") = some true)
    (f0_NoInputs : PySem.W.findIn K (.ref c_NoInputs) "at" = some none)
    (a_Clash : PySem.W.nsIn K mainGlobals "Clash" = some (some (.ref c_Clash)))
    (x_Clash : K.lookup c_Clash = some (excClassObj nm_Clash qn_Clash c_Clash N_Clash bs_Clash [.ref u_Clash, .type "ValueError", .type "Exception", .type "BaseException", .type "object"] true sn_Clash sub_Clash ab_Clash col_Clash dd_Clash m0_Clash m1_Clash m2_Clash m3_Clash m5_Clash "ValueError.__new__"))
    (sa_Clash : PySem.W.findIn K (.ref c_Clash) "__setattr__" = some (some (.builtin "object.__setattr__")))
    (ga_Clash : PySem.W.findIn K (.ref c_Clash) "__getattribute__" = some (some (.builtin "BaseException.__getattribute__")))
    (gg_Clash : PySem.W.findIn K (.ref c_Clash) "__getattr__" = some none)
    (i_Clash' : PySem.W.findIn K (.ref c_Clash) "__init__" = some (some (.ref i_Clash)))
    (ca_Clash : PySem.W.findIn K (.ref c_Clash) "__class__" = some (some (.builtin "object.__class__")))
    (t_Clash : PySem.W.typeIn K (.ref i_Clash) = some (.type "function"))
    (l_Clash : K.lookup i_Clash = some ⟨oc_Clash, od_Clash, .func (PySem.W.fnOf "__init__" "Clash.__init__" (defArgs s_Clash) (defBody s_Clash) (defScope s_Clash) .none kV_Clash doc_Clash pm_Clash an_Clash cdv_Clash ct_Clash), osl_Clash⟩)
    (c_Clash' : PySem.W.codeIn K cdv_Clash "Clash.__init__" = true)
    (kf_Clash : PySem.W.keepIn K (.ref i_Clash) = true)
    (kc_Clash : PySem.W.keepIn K (.ref c_Clash) = true)
    (ex_Clash : PySem.W.subIn K (.ref c_Clash) (.type "BaseException") = some true)
    (ty_Clash : PySem.W.typeIn K (.ref c_Clash) = some (.type "type"))
    (hd_Clash : PySem.W.hasDictIn K c_Clash = true)
    (is_Clash : PySem.W.isClsIn K c_Clash = true)
    (te_Clash : PySem.W.exmOne K (.ref c_Clash) (.ref c_Clash) = some true)
    (ob_Clash : PySem.W.mroIn K c_Clash (.type "object") = some true)
    (gn_Clash : PySem.W.specialIn K (.builtin "object.__class__") "__get__" = some (some (.builtin "getset_descriptor.__get__")))
    (tk_Clash : PySem.W.takesIn K (.builtin "object.__class__") = some true)
    (f0_Clash : PySem.W.findIn K (.ref c_Clash) "at" = some none)
    (f1_Clash : PySem.W.findIn K (.ref c_Clash) "number" = some none)
    (yt0 : PySem.W.nsIn K mainGlobals "NoHead" = some (some (.ref w0)))
    (yt1 : PySem.W.nsIn K mainGlobals "NoProgram" = some (some (.ref w1)))
    (yt2 : PySem.W.nsIn K mainGlobals "NoText" = some (some (.ref w2)))
    (yt3 : PySem.W.nsIn K mainGlobals "NoStock" = some (some (.ref w3)))
    (yt4 : PySem.W.nsIn K mainGlobals "NoAnswer" = some (some (.ref w4)))
    (yt5 : PySem.W.nsIn K mainGlobals "NoInputs" = some (some (.ref w5)))
    (yt6 : PySem.W.nsIn K mainGlobals "Clash" = some (some (.ref w6)))
    (yt7 : PySem.W.nsIn K mainGlobals "NoRow" = some (some (.ref w7)))
    (yt8 : PySem.W.nsIn K mainGlobals "NoQuestion" = some (some (.ref w8)))
    (yt9 : PySem.W.nsIn K mainGlobals "NoDoer" = some (some (.ref w9)))
    (yt10 : PySem.W.nsIn K mainGlobals "NotKept" = some (some (.ref w10)))
    (yt11 : PySem.W.nsIn K mainGlobals "NoName" = some (some (.ref w11)))
    (aMk : PySem.W.nsIn K mainGlobals "MakeError" = some (some (.ref cMk)))
    (vs0NoProgram : PySem.W.kitOne K (.ref c_NoProgram) (.ref w0) = some false)
    (vs1NoProgram : PySem.W.kitOne K (.ref c_NoProgram) (.ref w1) = some true)
    (vs2NoProgram : PySem.W.kitOne K (.ref c_NoProgram) (.ref w2) = some false)
    (vs3NoProgram : PySem.W.kitOne K (.ref c_NoProgram) (.ref w3) = some false)
    (vs4NoProgram : PySem.W.kitOne K (.ref c_NoProgram) (.ref w4) = some false)
    (vs5NoProgram : PySem.W.kitOne K (.ref c_NoProgram) (.ref w5) = some false)
    (vs6NoProgram : PySem.W.kitOne K (.ref c_NoProgram) (.ref w6) = some false)
    (vs7NoProgram : PySem.W.kitOne K (.ref c_NoProgram) (.ref w7) = some false)
    (vs8NoProgram : PySem.W.kitOne K (.ref c_NoProgram) (.ref w8) = some false)
    (vs9NoProgram : PySem.W.kitOne K (.ref c_NoProgram) (.ref w9) = some false)
    (vs10NoProgram : PySem.W.kitOne K (.ref c_NoProgram) (.ref w10) = some false)
    (vs11NoProgram : PySem.W.kitOne K (.ref c_NoProgram) (.ref w11) = some false)
    (vs9NoProgramNoProgram : PySem.W.kitOne K (.ref c_NoProgram) (.ref c_NoProgram) = some true)
    (vs9NoProgramNoInputs : PySem.W.kitOne K (.ref c_NoProgram) (.ref c_NoInputs) = some false)
    (vs9NoProgramClash : PySem.W.kitOne K (.ref c_NoProgram) (.ref c_Clash) = some false)
    (te_MNoProgram : PySem.W.exmOne K (.ref c_NoProgram) (.ref cMk) = some true)
    (vs0NoInputs : PySem.W.kitOne K (.ref c_NoInputs) (.ref w0) = some false)
    (vs1NoInputs : PySem.W.kitOne K (.ref c_NoInputs) (.ref w1) = some false)
    (vs2NoInputs : PySem.W.kitOne K (.ref c_NoInputs) (.ref w2) = some false)
    (vs3NoInputs : PySem.W.kitOne K (.ref c_NoInputs) (.ref w3) = some false)
    (vs4NoInputs : PySem.W.kitOne K (.ref c_NoInputs) (.ref w4) = some false)
    (vs5NoInputs : PySem.W.kitOne K (.ref c_NoInputs) (.ref w5) = some true)
    (vs6NoInputs : PySem.W.kitOne K (.ref c_NoInputs) (.ref w6) = some false)
    (vs7NoInputs : PySem.W.kitOne K (.ref c_NoInputs) (.ref w7) = some false)
    (vs8NoInputs : PySem.W.kitOne K (.ref c_NoInputs) (.ref w8) = some false)
    (vs9NoInputs : PySem.W.kitOne K (.ref c_NoInputs) (.ref w9) = some false)
    (vs10NoInputs : PySem.W.kitOne K (.ref c_NoInputs) (.ref w10) = some false)
    (vs11NoInputs : PySem.W.kitOne K (.ref c_NoInputs) (.ref w11) = some false)
    (vs9NoInputsNoProgram : PySem.W.kitOne K (.ref c_NoInputs) (.ref c_NoProgram) = some false)
    (vs9NoInputsNoInputs : PySem.W.kitOne K (.ref c_NoInputs) (.ref c_NoInputs) = some true)
    (vs9NoInputsClash : PySem.W.kitOne K (.ref c_NoInputs) (.ref c_Clash) = some false)
    (te_MNoInputs : PySem.W.exmOne K (.ref c_NoInputs) (.ref cMk) = some true)
    (vs0Clash : PySem.W.kitOne K (.ref c_Clash) (.ref w0) = some false)
    (vs1Clash : PySem.W.kitOne K (.ref c_Clash) (.ref w1) = some false)
    (vs2Clash : PySem.W.kitOne K (.ref c_Clash) (.ref w2) = some false)
    (vs3Clash : PySem.W.kitOne K (.ref c_Clash) (.ref w3) = some false)
    (vs4Clash : PySem.W.kitOne K (.ref c_Clash) (.ref w4) = some false)
    (vs5Clash : PySem.W.kitOne K (.ref c_Clash) (.ref w5) = some false)
    (vs6Clash : PySem.W.kitOne K (.ref c_Clash) (.ref w6) = some true)
    (vs7Clash : PySem.W.kitOne K (.ref c_Clash) (.ref w7) = some false)
    (vs8Clash : PySem.W.kitOne K (.ref c_Clash) (.ref w8) = some false)
    (vs9Clash : PySem.W.kitOne K (.ref c_Clash) (.ref w9) = some false)
    (vs10Clash : PySem.W.kitOne K (.ref c_Clash) (.ref w10) = some false)
    (vs11Clash : PySem.W.kitOne K (.ref c_Clash) (.ref w11) = some false)
    (vs9ClashNoProgram : PySem.W.kitOne K (.ref c_Clash) (.ref c_NoProgram) = some false)
    (vs9ClashNoInputs : PySem.W.kitOne K (.ref c_Clash) (.ref c_NoInputs) = some false)
    (vs9ClashClash : PySem.W.kitOne K (.ref c_Clash) (.ref c_Clash) = some true)
    (te_MClash : PySem.W.exmOne K (.ref c_Clash) (.ref cMk) = some true)
    (a_NotKept : PySem.W.nsIn K mainGlobals "NotKept" = some (some (.ref c_NotKept)))
    (ga_NotKept : PySem.W.findIn K (.ref c_NotKept) "__getattribute__" = some (some (.builtin "BaseException.__getattribute__")))
    (gg_NotKept : PySem.W.findIn K (.ref c_NotKept) "__getattr__" = some none)
    (ca_NotKept : PySem.W.findIn K (.ref c_NotKept) "__class__" = some (some (.builtin "object.__class__")))
    (ex_NotKept : PySem.W.subIn K (.ref c_NotKept) (.type "BaseException") = some true)
    (is_NotKept : PySem.W.isClsIn K c_NotKept = true)
    (gn_NotKept : PySem.W.specialIn K (.builtin "object.__class__") "__get__" = some (some (.builtin "getset_descriptor.__get__")))
    (tk_NotKept : PySem.W.takesIn K (.builtin "object.__class__") = some true)
    (ob_NotKept : PySem.W.mroIn K c_NotKept (.type "object") = some true)
    (kc_NotKept : PySem.W.keepIn K (.ref c_NotKept) = true)
    (ty_NotKept : PySem.W.typeIn K (.ref c_NotKept) = some (.type "type"))
    (te_NotKept : PySem.W.exmOne K (.ref c_NotKept) (.ref c_NotKept) = some true)
    (te_M_NotKept : PySem.W.exmOne K (.ref c_NotKept) (.ref cMk) = some false)
    (iv_NotKept : PySem.W.findIn K (.ref c_NotKept) "__init__" = some (some (.ref i_NotKept)))
    (lv_NotKept : K.lookup i_NotKept = some ⟨oc_NotKept, od_NotKept, .func (PySem.W.fnOf "__init__" "NotKept.__init__" (defArgs s_NotKept) (defBody s_NotKept) (defScope s_NotKept) .none kV_NotKept doc_NotKept pm_NotKept an_NotKept cdv_NotKept ct_NotKept), osl_NotKept⟩)
    (cv_NotKept : PySem.W.codeIn K cdv_NotKept "NotKept.__init__" = true)
    (kf_NotKept : PySem.W.keepIn K (.ref i_NotKept) = true)
    (tv_NotKept : PySem.W.typeIn K (.ref i_NotKept) = some (.type "function"))
    (hd_NotKept : PySem.W.hasDictIn K c_NotKept = true)
    (sa_NotKept : PySem.W.findIn K (.ref c_NotKept) "__setattr__" = some (some (.builtin "object.__setattr__")))
    (DKq_NotKept : PySem.W.excInitIn K c_NotKept ieT "IndexError.__new__" = true)
    (DKo_NotKept : PySem.W.excOver K c_NotKept ieT = true)
    (f0_NotKept : PySem.W.findIn K (.ref c_NotKept) "number" = some none)
    (z_dict : PySem.W.nsIn K mainGlobals "dict" = some none)
    (oa_Deed : PySem.W.nsIn K mainGlobals "Deed" = some (some (.ref cO_Deed)))
    (opg_Deed : PySem.W.plainGet K cO_Deed Str.empty = true)
    (ohd_Deed : PySem.W.hasDictIn K cO_Deed = true)
    (opo_Deed : PySem.W.plainOver K cO_Deed = true)
    (osa_Deed : PySem.W.findIn K (.ref cO_Deed) "__setattr__" = some (some (.builtin "object.__setattr__")))
    (omk_Deed : PySem.W.makesIn K cO_Deed = true)
    (okc_Deed : PySem.W.keepIn K (.ref cO_Deed) = true)
    (onnoted_Deed : PySem.W.findIn K (.ref cO_Deed) "noted" = some none)
    (onstart_Deed : PySem.W.findIn K (.ref cO_Deed) "start" = some none)
    (ondone_Deed : PySem.W.findIn K (.ref cO_Deed) "done" = some none)
    (onrefused_Deed : PySem.W.findIn K (.ref cO_Deed) "refused" = some none)
    (oi_Deed : PySem.W.findIn K (.ref cO_Deed) "__init__" = some (some (.ref fI_Deed)))
    (oif_Deed : PySem.W.isFn K (.ref fI_Deed) = true)
    (ol_Deed : K.lookup fI_Deed = some ⟨ooc_Deed, ood_Deed, .func (PySem.W.fnOf "__init__" "Deed.__init__" (defArgs s_Deed___init__) (defBody s_Deed___init__) (defScope s_Deed___init__) .none okV_Deed odc_Deed opm_Deed oan_Deed ocd_Deed oct_Deed), osl_Deed⟩)
    (oc_Deed : PySem.W.codeIn K ocd_Deed "Deed.__init__" = true)
    (ok_Deed : PySem.W.keepIn K (.ref fI_Deed) = true)
    (ma__enter___Deed : PySem.W.findIn K (.ref cO_Deed) "__enter__" = some (some (.ref fM_Deed___enter__)))
    (mi__enter___Deed : PySem.W.isFn K (.ref fM_Deed___enter__) = true)
    (ml__enter___Deed : K.lookup fM_Deed___enter__ = some ⟨moc_Deed___enter__, mod_Deed___enter__, .func (PySem.W.fnOf "__enter__" "Deed.__enter__" (defArgs s_Deed___enter__) (defBody s_Deed___enter__) (defScope s_Deed___enter__) .none mkV_Deed___enter__ mdc_Deed___enter__ mpm_Deed___enter__ man_Deed___enter__ mcd_Deed___enter__ mct_Deed___enter__), msl_Deed___enter__⟩)
    (mc__enter___Deed : PySem.W.codeIn K mcd_Deed___enter__ "Deed.__enter__" = true)
    (mk__enter___Deed : PySem.W.keepIn K (.ref fM_Deed___enter__) = true)
    (ma__exit___Deed : PySem.W.findIn K (.ref cO_Deed) "__exit__" = some (some (.ref fM_Deed___exit__)))
    (mi__exit___Deed : PySem.W.isFn K (.ref fM_Deed___exit__) = true)
    (ml__exit___Deed : K.lookup fM_Deed___exit__ = some ⟨moc_Deed___exit__, mod_Deed___exit__, .func (PySem.W.fnOf "__exit__" "Deed.__exit__" (defArgs s_Deed___exit__) (defBody s_Deed___exit__) (defScope s_Deed___exit__) .none mkV_Deed___exit__ mdc_Deed___exit__ mpm_Deed___exit__ man_Deed___exit__ mcd_Deed___exit__ mct_Deed___exit__), msl_Deed___exit__⟩)
    (mc__exit___Deed : PySem.W.codeIn K mcd_Deed___exit__ "Deed.__exit__" = true)
    (mk__exit___Deed : PySem.W.keepIn K (.ref fM_Deed___exit__) = true)
    (oa_Maker : PySem.W.nsIn K mainGlobals "Maker" = some (some (.ref cO_Maker)))
    (opg_Maker : PySem.W.plainGet K cO_Maker Str.empty = true)
    (ohd_Maker : PySem.W.hasDictIn K cO_Maker = true)
    (opo_Maker : PySem.W.plainOver K cO_Maker = true)
    (osa_Maker : PySem.W.findIn K (.ref cO_Maker) "__setattr__" = some (some (.builtin "object.__setattr__")))
    (omk_Maker : PySem.W.makesIn K cO_Maker = true)
    (okc_Maker : PySem.W.keepIn K (.ref cO_Maker) = true)
    (onhead_Maker : PySem.W.findIn K (.ref cO_Maker) "head" = some none)
    (onstock_Maker : PySem.W.findIn K (.ref cO_Maker) "stock" = some none)
    (onmost_Maker : PySem.W.findIn K (.ref cO_Maker) "most" = some none)
    (onthings_Maker : PySem.W.findIn K (.ref cO_Maker) "things" = some none)
    (ononward_Maker : PySem.W.findIn K (.ref cO_Maker) "onward" = some none)
    (onnoted_Maker : PySem.W.findIn K (.ref cO_Maker) "noted" = some none)
    (oi_Maker : PySem.W.findIn K (.ref cO_Maker) "__init__" = some (some (.ref fI_Maker)))
    (oif_Maker : PySem.W.isFn K (.ref fI_Maker) = true)
    (ol_Maker : K.lookup fI_Maker = some ⟨ooc_Maker, ood_Maker, .func (PySem.W.fnOf "__init__" "Maker.__init__" (defArgs s_Maker___init__) (defBody s_Maker___init__) (defScope s_Maker___init__) .none (.ref okD_Maker) odc_Maker opm_Maker oan_Maker ocd_Maker oct_Maker), osl_Maker⟩)
    (oc_Maker : PySem.W.codeIn K ocd_Maker "Maker.__init__" = true)
    (ok_Maker : PySem.W.keepIn K (.ref fI_Maker) = true)
    (okd1_Maker : PySem.W.nsIn K okD_Maker "stock" = some (some (.ref aStk)))
    (okd2_Maker : PySem.W.nsIn K okD_Maker "most" = some (some (.int nMst tMst)))
    (mawish_Maker : PySem.W.findIn K (.ref cO_Maker) "wish" = some (some (.ref fM_Maker_wish)))
    (miwish_Maker : PySem.W.isFn K (.ref fM_Maker_wish) = true)
    (mlwish_Maker : K.lookup fM_Maker_wish = some ⟨moc_Maker_wish, mod_Maker_wish, .func (PySem.W.fnOf "wish" "Maker.wish" (defArgs s_Maker_wish) (defBody s_Maker_wish) (defScope s_Maker_wish) .none mkV_Maker_wish mdc_Maker_wish mpm_Maker_wish man_Maker_wish mcd_Maker_wish mct_Maker_wish), msl_Maker_wish⟩)
    (mcwish_Maker : PySem.W.codeIn K mcd_Maker_wish "Maker.wish" = true)
    (mkwish_Maker : PySem.W.keepIn K (.ref fM_Maker_wish) = true)
    (maexamples_Maker : PySem.W.findIn K (.ref cO_Maker) "examples" = some (some (.ref fM_Maker_examples)))
    (miexamples_Maker : PySem.W.isFn K (.ref fM_Maker_examples) = true)
    (mlexamples_Maker : K.lookup fM_Maker_examples = some ⟨moc_Maker_examples, mod_Maker_examples, .func (PySem.W.fnOf "examples" "Maker.examples" (defArgs s_Maker_examples) (defBody s_Maker_examples) (defScope s_Maker_examples) .none mkV_Maker_examples mdc_Maker_examples mpm_Maker_examples man_Maker_examples mcd_Maker_examples mct_Maker_examples), msl_Maker_examples⟩)
    (mcexamples_Maker : PySem.W.codeIn K mcd_Maker_examples "Maker.examples" = true)
    (mkexamples_Maker : PySem.W.keepIn K (.ref fM_Maker_examples) = true)
    (maback_Maker : PySem.W.findIn K (.ref cO_Maker) "back" = some (some (.ref fM_Maker_back)))
    (miback_Maker : PySem.W.isFn K (.ref fM_Maker_back) = true)
    (mlback_Maker : K.lookup fM_Maker_back = some ⟨moc_Maker_back, mod_Maker_back, .func (PySem.W.fnOf "back" "Maker.back" (defArgs s_Maker_back) (defBody s_Maker_back) (defScope s_Maker_back) .none mkV_Maker_back mdc_Maker_back mpm_Maker_back man_Maker_back mcd_Maker_back mct_Maker_back), msl_Maker_back⟩)
    (mcback_Maker : PySem.W.codeIn K mcd_Maker_back "Maker.back" = true)
    (mkback_Maker : PySem.W.keepIn K (.ref fM_Maker_back) = true)
    (makept_Maker : PySem.W.findIn K (.ref cO_Maker) "kept" = some (some (.ref fM_Maker_kept)))
    (mikept_Maker : PySem.W.isFn K (.ref fM_Maker_kept) = true)
    (mlkept_Maker : K.lookup fM_Maker_kept = some ⟨moc_Maker_kept, mod_Maker_kept, .func (PySem.W.fnOf "kept" "Maker.kept" (defArgs s_Maker_kept) (defBody s_Maker_kept) (defScope s_Maker_kept) .none mkV_Maker_kept mdc_Maker_kept mpm_Maker_kept man_Maker_kept mcd_Maker_kept mct_Maker_kept), msl_Maker_kept⟩)
    (mckept_Maker : PySem.W.codeIn K mcd_Maker_kept "Maker.kept" = true)
    (mkkept_Maker : PySem.W.keepIn K (.ref fM_Maker_kept) = true)
    (malog_Maker : PySem.W.findIn K (.ref cO_Maker) "log" = some (some (.ref fM_Maker_log)))
    (milog_Maker : PySem.W.isFn K (.ref fM_Maker_log) = true)
    (mllog_Maker : K.lookup fM_Maker_log = some ⟨moc_Maker_log, mod_Maker_log, .func (PySem.W.fnOf "log" "Maker.log" (defArgs s_Maker_log) (defBody s_Maker_log) (defScope s_Maker_log) .none mkV_Maker_log mdc_Maker_log mpm_Maker_log man_Maker_log mcd_Maker_log mct_Maker_log), msl_Maker_log⟩)
    (mclog_Maker : PySem.W.codeIn K mcd_Maker_log "Maker.log" = true)
    (mklog_Maker : PySem.W.keepIn K (.ref fM_Maker_log) = true)
    (mais_busy_Maker : PySem.W.findIn K (.ref cO_Maker) "is_busy" = some (some (.ref fM_Maker_is_busy)))
    (miis_busy_Maker : PySem.W.isFn K (.ref fM_Maker_is_busy) = true)
    (mlis_busy_Maker : K.lookup fM_Maker_is_busy = some ⟨moc_Maker_is_busy, mod_Maker_is_busy, .func (PySem.W.fnOf "is_busy" "Maker.is_busy" (defArgs s_Maker_is_busy) (defBody s_Maker_is_busy) (defScope s_Maker_is_busy) .none mkV_Maker_is_busy mdc_Maker_is_busy mpm_Maker_is_busy man_Maker_is_busy mcd_Maker_is_busy mct_Maker_is_busy), msl_Maker_is_busy⟩)
    (mcis_busy_Maker : PySem.W.codeIn K mcd_Maker_is_busy "Maker.is_busy" = true)
    (mkis_busy_Maker : PySem.W.keepIn K (.ref fM_Maker_is_busy) = true)
    (ma__len___Maker : PySem.W.findIn K (.ref cO_Maker) "__len__" = some (some (.ref fM_Maker___len__)))
    (mi__len___Maker : PySem.W.isFn K (.ref fM_Maker___len__) = true)
    (ml__len___Maker : K.lookup fM_Maker___len__ = some ⟨moc_Maker___len__, mod_Maker___len__, .func (PySem.W.fnOf "__len__" "Maker.__len__" (defArgs s_Maker___len__) (defBody s_Maker___len__) (defScope s_Maker___len__) .none mkV_Maker___len__ mdc_Maker___len__ mpm_Maker___len__ man_Maker___len__ mcd_Maker___len__ mct_Maker___len__), msl_Maker___len__⟩)
    (mc__len___Maker : PySem.W.codeIn K mcd_Maker___len__ "Maker.__len__" = true)
    (mk__len___Maker : PySem.W.keepIn K (.ref fM_Maker___len__) = true)
    (madeed_Maker : PySem.W.findIn K (.ref cO_Maker) "deed" = some (some (.ref fM_Maker_deed)))
    (mideed_Maker : PySem.W.isFn K (.ref fM_Maker_deed) = true)
    (mldeed_Maker : K.lookup fM_Maker_deed = some ⟨moc_Maker_deed, mod_Maker_deed, .func (PySem.W.fnOf "deed" "Maker.deed" (defArgs s_Maker_deed) (defBody s_Maker_deed) (defScope s_Maker_deed) .none mkV_Maker_deed mdc_Maker_deed mpm_Maker_deed man_Maker_deed mcd_Maker_deed mct_Maker_deed), msl_Maker_deed⟩)
    (mcdeed_Maker : PySem.W.codeIn K mcd_Maker_deed "Maker.deed" = true)
    (mkdeed_Maker : PySem.W.keepIn K (.ref fM_Maker_deed) = true)
    (manumbered_Maker : PySem.W.findIn K (.ref cO_Maker) "numbered" = some (some (.ref fM_Maker_numbered)))
    (minumbered_Maker : PySem.W.isFn K (.ref fM_Maker_numbered) = true)
    (mlnumbered_Maker : K.lookup fM_Maker_numbered = some ⟨moc_Maker_numbered, mod_Maker_numbered, .func (PySem.W.fnOf "numbered" "Maker.numbered" (defArgs s_Maker_numbered) (defBody s_Maker_numbered) (defScope s_Maker_numbered) .none mkV_Maker_numbered mdc_Maker_numbered mpm_Maker_numbered man_Maker_numbered mcd_Maker_numbered mct_Maker_numbered), msl_Maker_numbered⟩)
    (mcnumbered_Maker : PySem.W.codeIn K mcd_Maker_numbered "Maker.numbered" = true)
    (mknumbered_Maker : PySem.W.keepIn K (.ref fM_Maker_numbered) = true)
    : ∃ fd : FuncData, (∀ (s : Shared) (v : Value), BindsTo s fd ⟨[v], []⟩ [("_law_script", v)]) ∧ ∀ base : Heap, K.In base → base.Ns mainGlobals mg → FnOk l.prog w K mg base CX0 49 fa fd ["_law_script"] (spLaw K) := by
  have e := hfa.symm.trans (PySem.W.mg_of X G a44)
  cases e
  have D_kind_of : DefAt K mg "kind_of" s_kind_of ["kinds", "program"] := defAt_mk X G a0 l0 c0 k0 fun _ _ _ _ _ _ us hl => match us, hl with | [_, _], _ => rfl
  have D_knots : DefAt K mg "knots" s_knots ["program"] := defAt_mk X G a1 l1 c1 k1 fun _ _ _ _ _ _ us hl => match us, hl with | [_], _ => rfl
  have D_is_whole : DefAt K mg "is_whole" s_is_whole ["thing"] := defAt_mk X G a2 l2 c2 k2 fun _ _ _ _ _ _ us hl => match us, hl with | [_], _ => rfl
  have D_has_kind : DefAt K mg "has_kind" s_has_kind ["kind", "thing"] := defAt_mk X G a3 l3 c3 k3 fun _ _ _ _ _ _ us hl => match us, hl with | [_, _], _ => rfl
  have D_has_form : DefAt K mg "has_form" s_has_form ["thing"] := defAt_mk X G a4 l4 c4 k4 fun _ _ _ _ _ _ us hl => match us, hl with | [_], _ => rfl
  have D_many_numbers : DefAt K mg "many_numbers" s_many_numbers ["word"] := defAt_mk X G a5 l5 c5 k5 fun _ _ _ _ _ _ us hl => match us, hl with | [_], _ => rfl
  have D_many_parts : DefAt K mg "many_parts" s_many_parts ["word"] := defAt_mk X G a6 l6 c6 k6 fun _ _ _ _ _ _ us hl => match us, hl with | [_], _ => rfl
  have D_parts_of : DefAt K mg "parts_of" s_parts_of ["knot"] := defAt_mk X G a7 l7 c7 k7 fun _ _ _ _ _ _ us hl => match us, hl with | [_], _ => rfl
  have D_taken : DefAt K mg "taken" s_taken ["pile", "many"] := defAt_mk X G a8 l8 c8 k8 fun _ _ _ _ _ _ us hl => match us, hl with | [_, _], _ => rfl
  have D_refuse_forms : DefAt K mg "refuse_forms" s_refuse_forms ["every"] := defAt_mk X G a9 l9 c9 k9 fun _ _ _ _ _ _ us hl => match us, hl with | [_], _ => rfl
  have D_refuse_inputs : DefAt K mg "refuse_inputs" s_refuse_inputs ["every", "many"] := defAt_mk X G a10 l10 c10 k10 fun _ _ _ _ _ _ us hl => match us, hl with | [_, _], _ => rfl
  have D_parts_fit : DefAt K mg "parts_fit" s_parts_fit ["word", "told"] := defAt_mk X G a11 l11 c11 k11 fun _ _ _ _ _ _ us hl => match us, hl with | [_, _], _ => rfl
  have D_own_kind : DefAt K mg "own_kind" s_own_kind ["kinds", "knot", "told"] := defAt_mk X G a12 l12 c12 k12 fun _ _ _ _ _ _ us hl => match us, hl with | [_, _, _], _ => rfl
  have D_refuse_wish : DefAt K mg "refuse_wish" s_refuse_wish ["head", "program"] := defAt_mk X G a13 l13 c13 k13 fun _ _ _ _ _ _ us hl => match us, hl with | [_, _], _ => rfl
  have D_refuse_examples : DefAt K mg "refuse_examples" s_refuse_examples ["head", "fresh"] := defAt_mk X G a14 l14 c14 k14 fun _ _ _ _ _ _ us hl => match us, hl with | [_, _], _ => rfl
  have D_are_inputs : DefAt K mg "are_inputs" s_are_inputs ["kinds", "inputs"] := defAt_mk X G a15 l15 c15 k15 fun _ _ _ _ _ _ us hl => match us, hl with | [_, _], _ => rfl
  have D_refuse_clashes : DefAt K mg "refuse_clashes" s_refuse_clashes ["kept", "fresh", "onward"] := defAt_mk X G a16 l16 c16 k16 fun _ _ _ _ _ _ us hl => match us, hl with | [_, _, _], _ => rfl
  have D_l_cell : DefAt K mg "_law_cell" s_l_cell ["_law_script", "_law_k"] := defAt_mk X G a17 l17 c17 k17 fun _ _ _ _ _ _ us hl => match us, hl with | [_, _], _ => rfl
  have D_l_flow : DefAt K mg "_law_flow" s_l_flow ["_law_script", "_law_k"] := defAt_mk X G a18 l18 c18 k18 fun _ _ _ _ _ _ us hl => match us, hl with | [_, _], _ => rfl
  have D_l_draw : DefAt K mg "_law_draw" s_l_draw ["_law_flow_here", "_law_many"] := defAt_mk X G a19 l19 c19 k19 fun _ _ _ _ _ _ us hl => match us, hl with | [_, _], _ => rfl
  have D_l_numeral : DefAt K mg "_law_numeral" s_l_numeral ["_law_flow_here"] := defAt_mk X G a20 l20 c20 k20 fun _ _ _ _ _ _ us hl => match us, hl with | [_], _ => rfl
  have D_l_leaf : DefAt K mg "_law_leaf" s_l_leaf ["_law_flow_here", "_law_world", "_law_kind"] := defAt_mk X G a21 l21 c21 k21 fun _ _ _ _ _ _ us hl => match us, hl with | [_, _, _], _ => rfl
  have D_l_made : DefAt K mg "_law_made" s_l_made ["_law_flow_here", "_law_world", "_law_kind", "_law_room", "_law_down"] := defAt_mk X G a22 l22 c22 k22 fun _ _ _ _ _ _ us hl => match us, hl with | [_, _, _, _, _], _ => rfl
  have D_l_has_form : DefAt K mg "_law_has_form" s_l_has_form ["_law_knot"] := defAt_mk X G a23 l23 c23 k23 fun _ _ _ _ _ _ us hl => match us, hl with | [_], _ => rfl
  have D_l_parts : DefAt K mg "_law_parts" s_l_parts ["_law_knot"] := defAt_mk X G a24 l24 c24 k24 fun _ _ _ _ _ _ us hl => match us, hl with | [_], _ => rfl
  have D_l_knots : DefAt K mg "_law_knots" s_l_knots ["_law_program"] := defAt_mk X G a25 l25 c25 k25 fun _ _ _ _ _ _ us hl => match us, hl with | [_], _ => rfl
  have D_l_own : DefAt K mg "_law_own" s_l_own ["_law_kinds", "_law_knot"] := defAt_mk X G a26 l26 c26 k26 fun _ _ _ _ _ _ us hl => match us, hl with | [_, _], _ => rfl
  have D_l_wrong : DefAt K mg "_law_wrong" s_l_wrong ["_law_kinds", "_law_program"] := defAt_mk X G a27 l27 c27 k27 fun _ _ _ _ _ _ us hl => match us, hl with | [_, _], _ => rfl
  have D_l_alike : DefAt K mg "_law_alike" s_l_alike ["_law_found", "_law_due"] := defAt_mk X G a28 l28 c28 k28 fun _ _ _ _ _ _ us hl => match us, hl with | [_, _], _ => rfl
  have D_l_sorts : DefAt K mg "_law_sorts" s_l_sorts ["_law_e"] := defAt_mk X G a29 l29 c29 k29 fun _ _ _ _ _ _ us hl => match us, hl with | [_], _ => rfl
  have D_l_due_kind : DefAt K mg "_law_due_kind" s_l_due_kind ["_law_kinds", "_law_program"] := defAt_mk X G a30 l30 c30 k30 fun _ _ _ _ _ _ us hl => match us, hl with | [_, _], _ => rfl
  have D_l_small_wish : DefAt K mg "_law_small_wish" s_l_small_wish ["_law_flow_here", "_law_kinds", "_law_kind"] := defAt_mk X G a31 l31 c31 k31 fun _ _ _ _ _ _ us hl => match us, hl with | [_, _, _], _ => rfl
  have D_l_head : DefAt K mg "_law_head" s_l_head ["_law_flow_here"] := defAt_mk X G a32 l32 c32 k32 fun _ _ _ _ _ _ us hl => match us, hl with | [_], _ => rfl
  have D_l_near_inputs : DefAt K mg "_law_near_inputs" s_l_near_inputs ["_law_flow_here", "_law_kinds"] := defAt_mk X G a33 l33 c33 k33 fun _ _ _ _ _ _ us hl => match us, hl with | [_, _], _ => rfl
  have D_l_example : DefAt K mg "_law_example" s_l_example ["_law_flow_here", "_law_head_here"] := defAt_mk X G a34 l34 c34 k34 fun _ _ _ _ _ _ us hl => match us, hl with | [_, _], _ => rfl
  have D_l_is_of : DefAt K mg "_law_is_of" s_l_is_of ["_law_kind", "_law_thing"] := defAt_mk X G a35 l35 c35 k35 fun _ _ _ _ _ _ us hl => match us, hl with | [_, _], _ => rfl
  have D_l_examples_due : DefAt K mg "_law_examples_due" s_l_examples_due ["_law_head_here", "_law_kept", "_law_came", "_law_some"] := defAt_mk X G a36 l36 c36 k36 fun _ _ _ _ _ _ us hl => match us, hl with | [_, _, _, _], _ => rfl
  have D_l_maker_said : DefAt K mg "_law_maker_said" s_l_maker_said ["_law_maker", "_law_word", "_law_thing"] := defAt_mk X G a37 l37 c37 k37 fun _ _ _ _ _ _ us hl => match us, hl with | [_, _, _], _ => rfl
  have D_l_maker_due : DefAt K mg "_law_maker_due" s_l_maker_due ["_law_model", "_law_word", "_law_thing"] := defAt_mk X G a38 l38 c38 k38 fun _ _ _ _ _ _ us hl => match us, hl with | [_, _, _], _ => rfl
  have D_l_stands : DefAt K mg "_law_stands" s_l_stands ["_law_maker", "_law_model"] := defAt_mk X G a39 l39 c39 k39 fun _ _ _ _ _ _ us hl => match us, hl with | [_, _], _ => rfl
  have D_l_new_model : DefAt K mg "_law_new_model" s_l_new_model ["_law_head_here"] := defAt_mk X G a40 l40 c40 k40 fun _ _ _ _ _ _ us hl => match us, hl with | [_], _ => rfl
  have D_l_bad_example : DefAt K mg "_law_bad_example" s_l_bad_example ["_law_flow_here", "_law_head_here"] := defAt_mk X G a41 l41 c41 k41 fun _ _ _ _ _ _ us hl => match us, hl with | [_, _], _ => rfl
  have D_l_clashing : DefAt K mg "_law_clashing" s_l_clashing ["_law_flow_here", "_law_head_here", "_law_some"] := defAt_mk X G a42 l42 c42 k42 fun _ _ _ _ _ _ us hl => match us, hl with | [_, _, _], _ => rfl
  have D_l_begun : DefAt K mg "_law_begun" s_l_begun ["_law_flow_here", "_law_head_here", "_law_maker", "_law_model"] := defAt_mk X G a43 l43 c43 k43 fun _ _ _ _ _ _ us hl => match us, hl with | [_, _, _, _], _ => rfl
  have D_law : DefAt K mg "law" s_law ["_law_script"] := defAt_mk X G a44 l44 c44 k44 fun _ _ _ _ _ _ us hl => match us, hl with | [_], _ => rfl
  have R_NoProgram : Rf K mg "NoProgram" "NoProgram.__init__" c_NoProgram i_NoProgram _ s_NoProgram ["word", "at"] := { g := PySem.W.mg_of X G a_NoProgram, o := ⟨⟨_, _, _, _, _, _, _, _, _, _, _, _, _, _, _, x_NoProgram, rfl⟩, sa_NoProgram, ex_NoProgram, ty_NoProgram, kc_NoProgram⟩, f := ⟨ga_NoProgram, gg_NoProgram, ex_NoProgram, hd_NoProgram⟩, k := ⟨is_NoProgram, ga_NoProgram, gg_NoProgram, ex_NoProgram, ca_NoProgram, gn_NoProgram, tk_NoProgram, ob_NoProgram⟩, te := te_NoProgram, fld := fun n hn => by simp only [List.mem_cons, List.not_mem_nil, or_false] at hn; rcases hn with h | h <;> subst h <;> assumption, iC := i_NoProgram', tI := t_NoProgram, F := fun_mk l_NoProgram c_NoProgram' kf_NoProgram, b := (fun_mk l_NoProgram c_NoProgram' kf_NoProgram).binds fun _ _ _ _ _ _ us hl => match us, hl with | [_, _, _], _ => rfl }
  have R_NoInputs : Rf K mg "NoInputs" "NoInputs.__init__" c_NoInputs i_NoInputs _ s_NoInputs ["at"] := { g := PySem.W.mg_of X G a_NoInputs, o := ⟨⟨_, _, _, _, _, _, _, _, _, _, _, _, _, _, _, x_NoInputs, rfl⟩, sa_NoInputs, ex_NoInputs, ty_NoInputs, kc_NoInputs⟩, f := ⟨ga_NoInputs, gg_NoInputs, ex_NoInputs, hd_NoInputs⟩, k := ⟨is_NoInputs, ga_NoInputs, gg_NoInputs, ex_NoInputs, ca_NoInputs, gn_NoInputs, tk_NoInputs, ob_NoInputs⟩, te := te_NoInputs, fld := fun n hn => by simp only [List.mem_cons, List.not_mem_nil, or_false] at hn; subst hn; assumption, iC := i_NoInputs', tI := t_NoInputs, F := fun_mk l_NoInputs c_NoInputs' kf_NoInputs, b := (fun_mk l_NoInputs c_NoInputs' kf_NoInputs).binds fun _ _ _ _ _ _ us hl => match us, hl with | [_, _], _ => rfl }
  have R_Clash : Rf K mg "Clash" "Clash.__init__" c_Clash i_Clash _ s_Clash ["at", "number"] := { g := PySem.W.mg_of X G a_Clash, o := ⟨⟨_, _, _, _, _, _, _, _, _, _, _, _, _, _, _, x_Clash, rfl⟩, sa_Clash, ex_Clash, ty_Clash, kc_Clash⟩, f := ⟨ga_Clash, gg_Clash, ex_Clash, hd_Clash⟩, k := ⟨is_Clash, ga_Clash, gg_Clash, ex_Clash, ca_Clash, gn_Clash, tk_Clash, ob_Clash⟩, te := te_Clash, fld := fun n hn => by simp only [List.mem_cons, List.not_mem_nil, or_false] at hn; rcases hn with h | h <;> subst h <;> assumption, iC := i_Clash', tI := t_Clash, F := fun_mk l_Clash c_Clash' kf_Clash, b := (fun_mk l_Clash c_Clash' kf_Clash).binds fun _ _ _ _ _ _ us hl => match us, hl with | [_, _, _], _ => rfl }
  have S_NoProgram : Sorts K mg c_NoProgram [false, true, false, false, false, false, false, false, false, false, false, false] := ⟨_, _, _, _, _, _, _, _, _, _, _, _, _, _, _, _, _, _, _, _, _, _, _, _, ⟨PySem.W.mg_of X G yt0, PySem.W.mg_of X G yt1, PySem.W.mg_of X G yt2, PySem.W.mg_of X G yt3, PySem.W.mg_of X G yt4, PySem.W.mg_of X G yt5, PySem.W.mg_of X G yt6, PySem.W.mg_of X G yt7, PySem.W.mg_of X G yt8, PySem.W.mg_of X G yt9, PySem.W.mg_of X G yt10, PySem.W.mg_of X G yt11, vs0NoProgram, vs1NoProgram, vs2NoProgram, vs3NoProgram, vs4NoProgram, vs5NoProgram, vs6NoProgram, vs7NoProgram, vs8NoProgram, vs9NoProgram, vs10NoProgram, vs11NoProgram⟩, rfl⟩
  have S_NoInputs : Sorts K mg c_NoInputs [false, false, false, false, false, true, false, false, false, false, false, false] := ⟨_, _, _, _, _, _, _, _, _, _, _, _, _, _, _, _, _, _, _, _, _, _, _, _, ⟨PySem.W.mg_of X G yt0, PySem.W.mg_of X G yt1, PySem.W.mg_of X G yt2, PySem.W.mg_of X G yt3, PySem.W.mg_of X G yt4, PySem.W.mg_of X G yt5, PySem.W.mg_of X G yt6, PySem.W.mg_of X G yt7, PySem.W.mg_of X G yt8, PySem.W.mg_of X G yt9, PySem.W.mg_of X G yt10, PySem.W.mg_of X G yt11, vs0NoInputs, vs1NoInputs, vs2NoInputs, vs3NoInputs, vs4NoInputs, vs5NoInputs, vs6NoInputs, vs7NoInputs, vs8NoInputs, vs9NoInputs, vs10NoInputs, vs11NoInputs⟩, rfl⟩
  have S_Clash : Sorts K mg c_Clash [false, false, false, false, false, false, true, false, false, false, false, false] := ⟨_, _, _, _, _, _, _, _, _, _, _, _, _, _, _, _, _, _, _, _, _, _, _, _, ⟨PySem.W.mg_of X G yt0, PySem.W.mg_of X G yt1, PySem.W.mg_of X G yt2, PySem.W.mg_of X G yt3, PySem.W.mg_of X G yt4, PySem.W.mg_of X G yt5, PySem.W.mg_of X G yt6, PySem.W.mg_of X G yt7, PySem.W.mg_of X G yt8, PySem.W.mg_of X G yt9, PySem.W.mg_of X G yt10, PySem.W.mg_of X G yt11, vs0Clash, vs1Clash, vs2Clash, vs3Clash, vs4Clash, vs5Clash, vs6Clash, vs7Clash, vs8Clash, vs9Clash, vs10Clash, vs11Clash⟩, rfl⟩
  have EK_NotKept : ExK K c_NotKept := ⟨is_NotKept, ga_NotKept, gg_NotKept, ex_NotKept, ca_NotKept, gn_NotKept, tk_NotKept, ob_NotKept⟩
  have F_NotKept : Fun K "__init__" "NotKept.__init__" s_NotKept i_NotKept _ := fun_mk lv_NotKept cv_NotKept kf_NotKept
  have R_NotKept : RfV K mg "NotKept" "NotKept.__init__" c_NotKept i_NotKept _ s_NotKept ["number"] := { g := PySem.W.mg_of X G a_NotKept, o := ⟨⟨_, _, _, _, _, _, nf_IE, PySem.F.store_IndexError, DKq_NotKept, DKo_NotKept⟩, hd_NotKept, sa_NotKept, kc_NotKept⟩, f := ⟨ga_NotKept, gg_NotKept, ex_NotKept, hd_NotKept⟩, k := EK_NotKept, fld := fun n hn => by simp only [List.mem_cons, List.not_mem_nil, or_false] at hn; subst hn; assumption, iC := iv_NotKept, tI := tv_NotKept, F := F_NotKept, b := F_NotKept.binds fun _ _ _ _ _ _ us hl => match us, hl with | [_, _], _ => rfl }
  have hc_MakeError := PySem.W.mg_of X G aMk
  have Bd := PySem.W.mg_none_of X G z_dict
  have T_Deed : ClsAt K mg "Deed" cO_Deed DF := ⟨PySem.W.mg_of X G oa_Deed, ⟨opg_Deed, ohd_Deed, opo_Deed, osa_Deed⟩, fun n hn => by simp only [DF, List.mem_cons, List.not_mem_nil, or_false] at hn; rcases hn with h | h | h | h <;> subst h <;> assumption⟩
  have FI_Deed : FunD K "__init__" "Deed.__init__" (defArgs s_Deed___init__) (defBody s_Deed___init__) (defScope s_Deed___init__) [] [] fI_Deed _ := ⟨⟨_, _, _, _, _, _, _, _, _, _, rfl, ol_Deed, oc_Deed, .inl ⟨rfl, rfl⟩, .inl rfl⟩, ok_Deed⟩
  have DI_Deed : DefI K mg cO_Deed "Deed" "Deed.__init__" s_Deed___init__ ["self", "noted", "start", "done", "refused"] [] 0 := ⟨_, _, FI_Deed, ⟨omk_Deed, oi_Deed, oif_Deed, okc_Deed⟩, PySem.W.mg_of X G oa_Deed, [], .nil, FI_Deed.bindsN (ps := ["self", "noted", "start", "done", "refused"]) fun _ _ _ _ _ _ us hl => match us, hl with | [_, _, _, _, _], _ => rfl⟩
  have DM_Deed___enter__ : DefM K cO_Deed "__enter__" "Deed.__enter__" s_Deed___enter__ ["self"] := ⟨_, _, fun_mk ml__enter___Deed mc__enter___Deed mk__enter___Deed, ⟨ma__enter___Deed, mi__enter___Deed, mk__enter___Deed⟩, (fun_mk ml__enter___Deed mc__enter___Deed mk__enter___Deed).binds fun _ _ _ _ _ _ us hl => match us, hl with | [_], _ => rfl⟩
  have DM_Deed___exit__ : DefM K cO_Deed "__exit__" "Deed.__exit__" s_Deed___exit__ ["self", "kind", "value", "trace"] := ⟨_, _, fun_mk ml__exit___Deed mc__exit___Deed mk__exit___Deed, ⟨ma__exit___Deed, mi__exit___Deed, mk__exit___Deed⟩, (fun_mk ml__exit___Deed mc__exit___Deed mk__exit___Deed).binds fun _ _ _ _ _ _ us hl => match us, hl with | [_, _, _, _], _ => rfl⟩
  have T_Maker : ClsAt K mg "Maker" cO_Maker MF := ⟨PySem.W.mg_of X G oa_Maker, ⟨opg_Maker, ohd_Maker, opo_Maker, osa_Maker⟩, fun n hn => by simp only [MF, List.mem_cons, List.not_mem_nil, or_false] at hn; rcases hn with h | h | h | h | h | h <;> subst h <;> assumption⟩
  have DI_Maker : DefIW K mg cO_Maker "Maker" "Maker.__init__" s_Maker___init__ ["self", "head", "stock", "most"] [V.ref aStk, V.int nMst] := defiw_mk ol_Maker oc_Maker ok_Maker okd1_Maker okd2_Maker rfl ⟨_, rfl⟩ ⟨omk_Maker, oi_Maker, oif_Maker, okc_Maker⟩ (PySem.W.mg_of X G oa_Maker) (fun _ _ _ _ _ _ _ _ _ => ⟨_, _, _, _, _, _, rfl, rfl, ⟨_, _, _, _, _, _, rfl, rfl, rfl⟩⟩)
  have DM_Maker_wish : DefM K cO_Maker "wish" "Maker.wish" s_Maker_wish ["self", "program"] := ⟨_, _, fun_mk mlwish_Maker mcwish_Maker mkwish_Maker, ⟨mawish_Maker, miwish_Maker, mkwish_Maker⟩, (fun_mk mlwish_Maker mcwish_Maker mkwish_Maker).binds fun _ _ _ _ _ _ us hl => match us, hl with | [_, _], _ => rfl⟩
  have DM_Maker_examples : DefM K cO_Maker "examples" "Maker.examples" s_Maker_examples ["self", "some"] := ⟨_, _, fun_mk mlexamples_Maker mcexamples_Maker mkexamples_Maker, ⟨maexamples_Maker, miexamples_Maker, mkexamples_Maker⟩, (fun_mk mlexamples_Maker mcexamples_Maker mkexamples_Maker).binds fun _ _ _ _ _ _ us hl => match us, hl with | [_, _], _ => rfl⟩
  have DM_Maker_back : DefM K cO_Maker "back" "Maker.back" s_Maker_back ["self", "number"] := ⟨_, _, fun_mk mlback_Maker mcback_Maker mkback_Maker, ⟨maback_Maker, miback_Maker, mkback_Maker⟩, (fun_mk mlback_Maker mcback_Maker mkback_Maker).binds fun _ _ _ _ _ _ us hl => match us, hl with | [_, _], _ => rfl⟩
  have DM_Maker_kept : DefM K cO_Maker "kept" "Maker.kept" s_Maker_kept ["self"] := ⟨_, _, fun_mk mlkept_Maker mckept_Maker mkkept_Maker, ⟨makept_Maker, mikept_Maker, mkkept_Maker⟩, (fun_mk mlkept_Maker mckept_Maker mkkept_Maker).binds fun _ _ _ _ _ _ us hl => match us, hl with | [_], _ => rfl⟩
  have DM_Maker_log : DefM K cO_Maker "log" "Maker.log" s_Maker_log ["self"] := ⟨_, _, fun_mk mllog_Maker mclog_Maker mklog_Maker, ⟨malog_Maker, milog_Maker, mklog_Maker⟩, (fun_mk mllog_Maker mclog_Maker mklog_Maker).binds fun _ _ _ _ _ _ us hl => match us, hl with | [_], _ => rfl⟩
  have DM_Maker_is_busy : DefM K cO_Maker "is_busy" "Maker.is_busy" s_Maker_is_busy ["self"] := ⟨_, _, fun_mk mlis_busy_Maker mcis_busy_Maker mkis_busy_Maker, ⟨mais_busy_Maker, miis_busy_Maker, mkis_busy_Maker⟩, (fun_mk mlis_busy_Maker mcis_busy_Maker mkis_busy_Maker).binds fun _ _ _ _ _ _ us hl => match us, hl with | [_], _ => rfl⟩
  have DM_Maker___len__ : DefM K cO_Maker "__len__" "Maker.__len__" s_Maker___len__ ["self"] := ⟨_, _, fun_mk ml__len___Maker mc__len___Maker mk__len___Maker, ⟨ma__len___Maker, mi__len___Maker, mk__len___Maker⟩, (fun_mk ml__len___Maker mc__len___Maker mk__len___Maker).binds fun _ _ _ _ _ _ us hl => match us, hl with | [_], _ => rfl⟩
  have DM_Maker_deed : DefM K cO_Maker "deed" "Maker.deed" s_Maker_deed ["self", "word"] := ⟨_, _, fun_mk mldeed_Maker mcdeed_Maker mkdeed_Maker, ⟨madeed_Maker, mideed_Maker, mkdeed_Maker⟩, (fun_mk mldeed_Maker mcdeed_Maker mkdeed_Maker).binds fun _ _ _ _ _ _ us hl => match us, hl with | [_, _], _ => rfl⟩
  have DM_Maker_numbered : DefM K cO_Maker "numbered" "Maker.numbered" s_Maker_numbered ["self", "fresh"] := ⟨_, _, fun_mk mlnumbered_Maker mcnumbered_Maker mknumbered_Maker, ⟨manumbered_Maker, minumbered_Maker, mknumbered_Maker⟩, (fun_mk mlnumbered_Maker mcnumbered_Maker mknumbered_Maker).binds fun _ _ _ _ _ _ us hl => match us, hl with | [_, _], _ => rfl⟩
  have B : Bt mg := ⟨PySem.W.mg_none_of X G z0, PySem.W.mg_none_of X G z1, PySem.W.mg_none_of X G z2, PySem.W.mg_none_of X G z3, PySem.W.mg_none_of X G z4, PySem.W.mg_none_of X G z5, PySem.W.mg_none_of X G z6, PySem.W.mg_none_of X G z7, PySem.W.mg_none_of X G z8, PySem.W.mg_none_of X G z9, PySem.W.mg_none_of X G z10, PySem.W.mg_none_of X G z11, PySem.W.mg_none_of X G z12, PySem.W.mg_none_of X G z13, PySem.W.mg_none_of X G z14, PySem.W.mg_none_of X G z15, PySem.W.mg_none_of X G z16, PySem.W.mg_none_of X G z17, PySem.W.mg_none_of X G z18, PySem.W.mg_none_of X G z19⟩
  have F : Forms K w mg dF := by
    refine ⟨PySem.W.mg_of X G aF, ⟨esF, nF, lF, kF, wF⟩, fun p => ?_⟩
    cases p with
    | inp k => exact ⟨t0, u0, e0, ⟨_, _, _, m0, rfl, rfl, (by show 3 ≤ sizeLine; decide), (.cons ⟨_, rfl⟩ (.cons rfl (.cons rfl .nil)))⟩, ⟨_, _, _, v0, rfl, rfl, (by show 0 ≤ sizeLine; decide), .nil⟩⟩
    | num c => exact ⟨t1, u1, e1, ⟨_, _, _, m1, rfl, rfl, (by show 3 ≤ sizeLine; decide), (.cons ⟨_, rfl⟩ (.cons rfl (.cons ⟨_, rfl⟩ .nil)))⟩, ⟨_, _, _, v1, rfl, rfl, (by show 0 ≤ sizeLine; decide), .nil⟩⟩
    | tr b =>
      cases b with
      | true => exact ⟨t2, u2, e2, ⟨_, _, _, m2, rfl, rfl, (by show 3 ≤ sizeLine; decide), (.cons ⟨_, rfl⟩ (.cons rfl (.cons ⟨_, rfl⟩ .nil)))⟩, ⟨_, _, _, v2, rfl, rfl, (by show 0 ≤ sizeLine; decide), .nil⟩⟩
      | false => exact ⟨t3, u3, e3, ⟨_, _, _, m3, rfl, rfl, (by show 3 ≤ sizeLine; decide), (.cons ⟨_, rfl⟩ (.cons rfl (.cons ⟨_, rfl⟩ .nil)))⟩, ⟨_, _, _, v3, rfl, rfl, (by show 0 ≤ sizeLine; decide), .nil⟩⟩
    | plus c a => exact ⟨t4, u4, e4, ⟨_, _, _, m4, rfl, rfl, (by show 3 ≤ sizeLine; decide), (.cons ⟨_, rfl⟩ (.cons rfl (.cons ⟨_, rfl⟩ .nil)))⟩, ⟨_, _, _, v4, rfl, rfl, (by show 1 ≤ sizeLine; decide), (.cons ⟨_, rfl⟩ .nil)⟩⟩
    | bin w a b =>
      cases w with
      | least => exact ⟨t5, u5, e5, ⟨_, _, _, m5, rfl, rfl, (by show 3 ≤ sizeLine; decide), (.cons ⟨_, rfl⟩ (.cons rfl (.cons ⟨_, rfl⟩ .nil)))⟩, ⟨_, _, _, v5, rfl, rfl, (by show 2 ≤ sizeLine; decide), (.cons ⟨_, rfl⟩ (.cons ⟨_, rfl⟩ .nil))⟩⟩
      | most => exact ⟨t6, u6, e6, ⟨_, _, _, m6, rfl, rfl, (by show 3 ≤ sizeLine; decide), (.cons ⟨_, rfl⟩ (.cons rfl (.cons ⟨_, rfl⟩ .nil)))⟩, ⟨_, _, _, v6, rfl, rfl, (by show 2 ≤ sizeLine; decide), (.cons ⟨_, rfl⟩ (.cons ⟨_, rfl⟩ .nil))⟩⟩
      | atmost => exact ⟨t7, u7, e7, ⟨_, _, _, m7, rfl, rfl, (by show 3 ≤ sizeLine; decide), (.cons ⟨_, rfl⟩ (.cons rfl (.cons ⟨_, rfl⟩ .nil)))⟩, ⟨_, _, _, v7, rfl, rfl, (by show 2 ≤ sizeLine; decide), (.cons ⟨_, rfl⟩ (.cons ⟨_, rfl⟩ .nil))⟩⟩
      | both => exact ⟨t9, u9, e9, ⟨_, _, _, m9, rfl, rfl, (by show 3 ≤ sizeLine; decide), (.cons ⟨_, rfl⟩ (.cons rfl (.cons ⟨_, rfl⟩ .nil)))⟩, ⟨_, _, _, v9, rfl, rfl, (by show 2 ≤ sizeLine; decide), (.cons ⟨_, rfl⟩ (.cons ⟨_, rfl⟩ .nil))⟩⟩
      | either => exact ⟨t10, u10, e10, ⟨_, _, _, m10, rfl, rfl, (by show 3 ≤ sizeLine; decide), (.cons ⟨_, rfl⟩ (.cons rfl (.cons ⟨_, rfl⟩ .nil)))⟩, ⟨_, _, _, v10, rfl, rfl, (by show 2 ≤ sizeLine; decide), (.cons ⟨_, rfl⟩ (.cons ⟨_, rfl⟩ .nil))⟩⟩
    | neg a => exact ⟨t8, u8, e8, ⟨_, _, _, m8, rfl, rfl, (by show 3 ≤ sizeLine; decide), (.cons ⟨_, rfl⟩ (.cons rfl (.cons ⟨_, rfl⟩ .nil)))⟩, ⟨_, _, _, v8, rfl, rfl, (by show 1 ≤ sizeLine; decide), (.cons ⟨_, rfl⟩ .nil)⟩⟩
    | ite p a b => exact ⟨t11, u11, e11, ⟨_, _, _, m11, rfl, rfl, (by show 3 ≤ sizeLine; decide), (.cons ⟨_, rfl⟩ (.cons rfl (.cons rfl .nil)))⟩, ⟨_, _, _, v11, rfl, rfl, (by show 3 ≤ sizeLine; decide), (.cons ⟨_, rfl⟩ (.cons rfl (.cons rfl .nil)))⟩⟩
  have hc_MOST := PySem.W.mg_of X G cn_MOST
  have NF : NoForms K dF ([("foo" : Str)] : List Str) := fun x hx => by rw [List.mem_singleton.mp hx]; exact ⟨nFoo, by decide +kernel⟩
  have BW : BadW ([("foo" : Str)] : List Str) := fun x hx => by rw [List.mem_singleton.mp hx]; decide +kernel
  refine ⟨PySem.W.fnOf "law" "law" (defArgs s_law) (defBody s_law) (defScope s_law) .none kV44 dc44 pm44 an44 cd44 ct44, fun s v => .of_eq rfl, fun base _ _ => ?_⟩
  have C_cell := ok_l_cell (P := l.prog) (w := w) (base := base) B D_l_cell
  have C_flow := ok_l_flow C_cell D_l_flow
  have C_draw := ok_l_draw (P := l.prog) (w := w) (base := base) D_l_draw
  have C_numeral := ok_l_numeral C_draw D_l_numeral
  have C_leaf := ok_l_leaf B C_draw C_numeral D_l_leaf
  have C_made := ok_l_made B C_draw C_numeral C_leaf D_l_made 6
  have C_whole := ok_is_whole (P := l.prog) (w := w) (base := base) B D_is_whole
  have C_mn := ok_many_numbers (P := l.prog) (base := base) F D_many_numbers
  have C_mp := ok_many_parts (P := l.prog) (base := base) B F D_many_parts
  have C_hf := ok_has_formD B F NF C_whole C_mn C_mp D_has_form
  have C_po := ok_parts_ofD (K := K) C_mn D_parts_of
  have C_tk := ok_taken (P := l.prog) (w := w) (base := base) B D_taken
  have C_kn := ok_knotsD C_hf C_po D_knots
  have C_rf := ok_refuse_formsD B R_NoProgram C_hf D_refuse_forms
  have C_ri := ok_refuse_inputsD (P := l.prog) (w := w) (base := base) B R_NoProgram D_refuse_inputs
  have C_pf := ok_parts_fitA (P := l.prog) (base := base) F D_parts_fit
  have C_ok := ok_own_kindA (P := l.prog) (base := base) F D_own_kind
  have C_ko := ok_kind_ofD B R_NoProgram C_kn C_rf C_ri C_tk C_mp C_pf C_ok D_kind_of
  have C_lhf := ok_l_has_formD (P := l.prog) (w := w) (base := base) (K := K) B BW D_l_has_form
  have C_lp := ok_l_partsD (P := l.prog) (w := w) (base := base) (K := K) B D_l_parts
  have C_lk := ok_l_knotsD C_lhf C_lp D_l_knots 42
  have C_lo := ok_l_ownA (P := l.prog) (w := w) (base := base) (K := K) B D_l_own 42
  have C_wr := ok_l_wrong (by decide) B C_lhf C_lp C_lk C_lo D_l_wrong
  have C_due := ok_l_due C_wr C_lo D_l_due_kind
  have C_al := ok_l_alike (P := l.prog) (w := w) (base := base) (K := K) B D_l_alike
  -- MKR
  have I_Deed := ok_Deed_init (P := l.prog) (w := w) (base := base) B T_Deed DI_Deed
  have WI := withC_mk (P := l.prog) (w := w) (base := base) B T_Deed DM_Deed___enter__ DM_Deed___exit__
  have I_Maker := ok_Maker_init (P := l.prog) (w := w) (base := base) T_Maker DI_Maker
  have M_deed := (ok_Maker_deed T_Maker I_Deed DM_Maker_deed).mono (k := 5) (by decide)
  have M_num := (ok_Maker_numbered (P := l.prog) (w := w) (base := base) B T_Maker DM_Maker_numbered).mono (k := 5) (by decide)
  have M_kept := ok_Maker_kept (P := l.prog) (w := w) (base := base) Bd T_Maker DM_Maker_kept
  have M_log := ok_Maker_log (P := l.prog) (w := w) (base := base) B T_Maker DM_Maker_log
  have M_busy := ok_Maker_busy (P := l.prog) (w := w) (base := base) B T_Maker DM_Maker_is_busy
  have M_len := ok_Maker_len (P := l.prog) (w := w) (base := base) B T_Maker DM_Maker___len__
  have C_hk := ok_has_kind B C_whole D_has_kind
  have C_ai := ok_are_inputs B C_hk D_are_inputs
  have C_rw := ok_refuse_wish B R_NoProgram C_ko D_refuse_wish
  have C_re := (ok_refuse_examples B R_NoInputs C_ai C_hk D_refuse_examples).up (k := 5) (by decide)
  have C_rc := (ok_refuse_clashes (P := l.prog) (w := w) (base := base) B R_Clash D_refuse_clashes).up (k := 5) (by decide)
  have M_wish := ok_Maker_wish B T_Maker WI M_deed M_num C_rw DM_Maker_wish
  have M_exs := ok_Maker_examples B T_Maker WI M_deed M_num C_re C_rc DM_Maker_examples
  have M_back := ok_Maker_back B T_Maker WI M_deed R_NotKept ty_NotKept DM_Maker_back
  have C_hd := ok_l_head (K := K) B C_draw D_l_head
  have C_sw := ok_l_small_wish B (C_draw.mono (k := 9) (by decide)) C_made D_l_small_wish
  have C_ne := ok_l_near (K := K) B C_draw D_l_near_inputs
  have C_ex := ok_l_example B C_ne D_l_example
  have C_io := ok_l_is_of (P := l.prog) (w := w) (base := base) (K := K) B D_l_is_of
  have C_ed := ok_l_examples_due B C_io D_l_examples_due
  have C_said := ok_l_maker_said B T_Maker R_NoProgram R_NoInputs R_Clash R_NotKept S_NoProgram S_NoInputs S_Clash rfl rfl rfl hc_MakeError D_l_sorts M_wish M_exs M_back vs9NoProgramNoProgram vs9NoProgramNoInputs vs9NoProgramClash vs9NoInputsNoProgram vs9NoInputsNoInputs vs9NoInputsClash vs9ClashNoProgram vs9ClashNoInputs vs9ClashClash te_MNoProgram te_MNoInputs te_MClash te_M_NotKept te_NotKept D_l_maker_said
  have C_mdue := ok_l_maker_due B C_due (C_ed.mono (k := 45) (by decide)) D_l_maker_due
  have C_nm := ok_l_new_model (P := l.prog) (w := w) (base := base) (K := K) D_l_new_model
  have C_st := ok_l_stands B Bd T_Maker C_al M_kept M_log M_busy M_len D_l_stands
  have C_be := ok_l_bad_example B (C_draw.mono (k := 3) (by decide)) C_ex D_l_bad_example
  have C_cl := ok_l_clashing B (C_draw.mono (k := 1) (by decide)) C_io D_l_clashing
  have C_bg := ok_l_begun B (C_draw.mono (k := 46) (by decide)) (C_sw.mono (k := 46) (by decide)) (C_mdue.mono (k := 46) (by decide)) (C_said.mono (k := 46) (by decide)) (C_ex.mono (k := 46) (by decide)) D_l_begun
  exact ok_law B (C_flow.mono (k := 48) (by decide)) (C_hd.mono (k := 48) (by decide)) (C_nm.mono (k := 48) (by decide)) (C_st.mono (k := 48) (by decide)) (C_bg.mono (k := 48) (by decide)) (C_draw.mono (k := 48) (by decide)) (C_ex.mono (k := 48) (by decide)) (C_cl.mono (k := 48) (by decide)) (C_be.mono (k := 48) (by decide)) (C_al.mono (k := 48) (by decide)) (C_mdue.mono (k := 48) (by decide)) (C_said.mono (k := 48) (by decide)) (I_Maker.mono (k := 47) (by decide)) (fun_mk l44 c44 k44)

end Lm
open PySem PySem.W PyProof.Rows
set_option maxRecDepth 100000 in
set_option maxHeartbeats 0 in
theorem PySem.Challenge.cw_leastmaker_k68_refused_in_the_middle_holds : PySem.Challenge.rw_leastmaker_k68_refused_in_the_middle.Holds := by
  w_on; o_law; k_head; (case hw => w_witness2)
  k_fill
  refine L2.walk_of (l := PySem.Challenge.rw_leastmaker_k68_refused_in_the_middle) (n := 63) (k := 49) (x := "_law_script") (CX := fun _ => L2.CX0) (sp := fun w => Lm.spLaw _) rfl (by decide) rfl ⟨rfl, by decide, by decide⟩ (fun w h Y => PySem.W.kIn_of Y) ?F (fun _ _ a ns hl _ hS => ⟨a, ns, rfl, hS, hl, fun _ => rfl⟩) (fun _ _ _ _ _ h => h)
  case F =>
    intro w mg fa h KX G hmg
    refine' Lm.all_mk KX G hmg ?a0 ?l0 ?c0 ?k0 ?a1 ?l1 ?c1 ?k1 ?a2 ?l2 ?c2 ?k2 ?a3 ?l3 ?c3 ?k3 ?a4 ?l4 ?c4 ?k4 ?a5 ?l5 ?c5 ?k5 ?a6 ?l6 ?c6 ?k6 ?a7 ?l7 ?c7 ?k7 ?a8 ?l8 ?c8 ?k8 ?a9 ?l9 ?c9 ?k9 ?a10 ?l10 ?c10 ?k10 ?a11 ?l11 ?c11 ?k11 ?a12 ?l12 ?c12 ?k12 ?a13 ?l13 ?c13 ?k13 ?a14 ?l14 ?c14 ?k14 ?a15 ?l15 ?c15 ?k15 ?a16 ?l16 ?c16 ?k16 ?a17 ?l17 ?c17 ?k17 ?a18 ?l18 ?c18 ?k18 ?a19 ?l19 ?c19 ?k19 ?a20 ?l20 ?c20 ?k20 ?a21 ?l21 ?c21 ?k21 ?a22 ?l22 ?c22 ?k22 ?a23 ?l23 ?c23 ?k23 ?a24 ?l24 ?c24 ?k24 ?a25 ?l25 ?c25 ?k25 ?a26 ?l26 ?c26 ?k26 ?a27 ?l27 ?c27 ?k27 ?a28 ?l28 ?c28 ?k28 ?a29 ?l29 ?c29 ?k29 ?a30 ?l30 ?c30 ?k30 ?a31 ?l31 ?c31 ?k31 ?a32 ?l32 ?c32 ?k32 ?a33 ?l33 ?c33 ?k33 ?a34 ?l34 ?c34 ?k34 ?a35 ?l35 ?c35 ?k35 ?a36 ?l36 ?c36 ?k36 ?a37 ?l37 ?c37 ?k37 ?a38 ?l38 ?c38 ?k38 ?a39 ?l39 ?c39 ?k39 ?a40 ?l40 ?c40 ?k40 ?a41 ?l41 ?c41 ?k41 ?a42 ?l42 ?c42 ?k42 ?a43 ?l43 ?c43 ?k43 ?a44 ?l44 ?c44 ?k44 ?z0 ?z1 ?z2 ?z3 ?z4 ?z5 ?z6 ?z7 ?z8 ?z9 ?z10 ?z11 ?z12 ?z13 ?z14 ?z15 ?z16 ?z17 ?z18 ?z19 ?aF ?lF ?kF ?wF ?e0 ?m0 ?v0 ?e1 ?m1 ?v1 ?e2 ?m2 ?v2 ?e3 ?m3 ?v3 ?e4 ?m4 ?v4 ?e5 ?m5 ?v5 ?e6 ?m6 ?v6 ?e7 ?m7 ?v7 ?e8 ?m8 ?v8 ?e9 ?m9 ?v9 ?e10 ?m10 ?v10 ?e11 ?m11 ?v11 ?cn_MOST ?nFoo ?a_NoProgram ?x_NoProgram ?sa_NoProgram ?ga_NoProgram ?gg_NoProgram ?i_NoProgram' ?ca_NoProgram ?t_NoProgram ?l_NoProgram ?c_NoProgram' ?kf_NoProgram ?kc_NoProgram ?ex_NoProgram ?ty_NoProgram ?hd_NoProgram ?is_NoProgram ?te_NoProgram ?ob_NoProgram ?gn_NoProgram ?tk_NoProgram ?f0_NoProgram ?f1_NoProgram ?a_NoInputs ?x_NoInputs ?sa_NoInputs ?ga_NoInputs ?gg_NoInputs ?i_NoInputs' ?ca_NoInputs ?t_NoInputs ?l_NoInputs ?c_NoInputs' ?kf_NoInputs ?kc_NoInputs ?ex_NoInputs ?ty_NoInputs ?hd_NoInputs ?is_NoInputs ?te_NoInputs ?ob_NoInputs ?gn_NoInputs ?tk_NoInputs ?f0_NoInputs ?a_Clash ?x_Clash ?sa_Clash ?ga_Clash ?gg_Clash ?i_Clash' ?ca_Clash ?t_Clash ?l_Clash ?c_Clash' ?kf_Clash ?kc_Clash ?ex_Clash ?ty_Clash ?hd_Clash ?is_Clash ?te_Clash ?ob_Clash ?gn_Clash ?tk_Clash ?f0_Clash ?f1_Clash ?yt0 ?yt1 ?yt2 ?yt3 ?yt4 ?yt5 ?yt6 ?yt7 ?yt8 ?yt9 ?yt10 ?yt11 ?aMk ?vs0NoProgram ?vs1NoProgram ?vs2NoProgram ?vs3NoProgram ?vs4NoProgram ?vs5NoProgram ?vs6NoProgram ?vs7NoProgram ?vs8NoProgram ?vs9NoProgram ?vs10NoProgram ?vs11NoProgram ?vs9NoProgramNoProgram ?vs9NoProgramNoInputs ?vs9NoProgramClash ?te_MNoProgram ?vs0NoInputs ?vs1NoInputs ?vs2NoInputs ?vs3NoInputs ?vs4NoInputs ?vs5NoInputs ?vs6NoInputs ?vs7NoInputs ?vs8NoInputs ?vs9NoInputs ?vs10NoInputs ?vs11NoInputs ?vs9NoInputsNoProgram ?vs9NoInputsNoInputs ?vs9NoInputsClash ?te_MNoInputs ?vs0Clash ?vs1Clash ?vs2Clash ?vs3Clash ?vs4Clash ?vs5Clash ?vs6Clash ?vs7Clash ?vs8Clash ?vs9Clash ?vs10Clash ?vs11Clash ?vs9ClashNoProgram ?vs9ClashNoInputs ?vs9ClashClash ?te_MClash ?a_NotKept ?ga_NotKept ?gg_NotKept ?ca_NotKept ?ex_NotKept ?is_NotKept ?gn_NotKept ?tk_NotKept ?ob_NotKept ?kc_NotKept ?ty_NotKept ?te_NotKept ?te_M_NotKept ?iv_NotKept ?lv_NotKept ?cv_NotKept ?kf_NotKept ?tv_NotKept ?hd_NotKept ?sa_NotKept ?DKq_NotKept ?DKo_NotKept ?f0_NotKept ?z_dict ?oa_Deed ?opg_Deed ?ohd_Deed ?opo_Deed ?osa_Deed ?omk_Deed ?okc_Deed ?onnoted_Deed ?onstart_Deed ?ondone_Deed ?onrefused_Deed ?oi_Deed ?oif_Deed ?ol_Deed ?oc_Deed ?ok_Deed ?ma__enter___Deed ?mi__enter___Deed ?ml__enter___Deed ?mc__enter___Deed ?mk__enter___Deed ?ma__exit___Deed ?mi__exit___Deed ?ml__exit___Deed ?mc__exit___Deed ?mk__exit___Deed ?oa_Maker ?opg_Maker ?ohd_Maker ?opo_Maker ?osa_Maker ?omk_Maker ?okc_Maker ?onhead_Maker ?onstock_Maker ?onmost_Maker ?onthings_Maker ?ononward_Maker ?onnoted_Maker ?oi_Maker ?oif_Maker ?ol_Maker ?oc_Maker ?ok_Maker ?okd1_Maker ?okd2_Maker ?mawish_Maker ?miwish_Maker ?mlwish_Maker ?mcwish_Maker ?mkwish_Maker ?maexamples_Maker ?miexamples_Maker ?mlexamples_Maker ?mcexamples_Maker ?mkexamples_Maker ?maback_Maker ?miback_Maker ?mlback_Maker ?mcback_Maker ?mkback_Maker ?makept_Maker ?mikept_Maker ?mlkept_Maker ?mckept_Maker ?mkkept_Maker ?malog_Maker ?milog_Maker ?mllog_Maker ?mclog_Maker ?mklog_Maker ?mais_busy_Maker ?miis_busy_Maker ?mlis_busy_Maker ?mcis_busy_Maker ?mkis_busy_Maker ?ma__len___Maker ?mi__len___Maker ?ml__len___Maker ?mc__len___Maker ?mk__len___Maker ?madeed_Maker ?mideed_Maker ?mldeed_Maker ?mcdeed_Maker ?mkdeed_Maker ?manumbered_Maker ?minumbered_Maker ?mlnumbered_Maker ?mcnumbered_Maker ?mknumbered_Maker
    (case a0 => k_is)
    (case l0 => k_is)
    (case c0 => k_is)
    (case k0 => k_is)
    (case a1 => k_is)
    (case l1 => k_is)
    (case c1 => k_is)
    (case k1 => k_is)
    (case a2 => k_is)
    (case l2 => k_is)
    (case c2 => k_is)
    (case k2 => k_is)
    (case a3 => k_is)
    (case l3 => k_is)
    (case c3 => k_is)
    (case k3 => k_is)
    (case a4 => k_is)
    (case l4 => k_is)
    (case c4 => k_is)
    (case k4 => k_is)
    (case a5 => k_is)
    (case l5 => k_is)
    (case c5 => k_is)
    (case k5 => k_is)
    (case a6 => k_is)
    (case l6 => k_is)
    (case c6 => k_is)
    (case k6 => k_is)
    (case a7 => k_is)
    (case l7 => k_is)
    (case c7 => k_is)
    (case k7 => k_is)
    (case a8 => k_is)
    (case l8 => k_is)
    (case c8 => k_is)
    (case k8 => k_is)
    (case a9 => k_is)
    (case l9 => k_is)
    (case c9 => k_is)
    (case k9 => k_is)
    (case a10 => k_is)
    (case l10 => k_is)
    (case c10 => k_is)
    (case k10 => k_is)
    (case a11 => k_is)
    (case l11 => k_is)
    (case c11 => k_is)
    (case k11 => k_is)
    (case a12 => k_is)
    (case l12 => k_is)
    (case c12 => k_is)
    (case k12 => k_is)
    (case a13 => k_is)
    (case l13 => k_is)
    (case c13 => k_is)
    (case k13 => k_is)
    (case a14 => k_is)
    (case l14 => k_is)
    (case c14 => k_is)
    (case k14 => k_is)
    (case a15 => k_is)
    (case l15 => k_is)
    (case c15 => k_is)
    (case k15 => k_is)
    (case a16 => k_is)
    (case l16 => k_is)
    (case c16 => k_is)
    (case k16 => k_is)
    (case a17 => k_is)
    (case l17 => k_is)
    (case c17 => k_is)
    (case k17 => k_is)
    (case a18 => k_is)
    (case l18 => k_is)
    (case c18 => k_is)
    (case k18 => k_is)
    (case a19 => k_is)
    (case l19 => k_is)
    (case c19 => k_is)
    (case k19 => k_is)
    (case a20 => k_is)
    (case l20 => k_is)
    (case c20 => k_is)
    (case k20 => k_is)
    (case a21 => k_is)
    (case l21 => k_is)
    (case c21 => k_is)
    (case k21 => k_is)
    (case a22 => k_is)
    (case l22 => k_is)
    (case c22 => k_is)
    (case k22 => k_is)
    (case a23 => k_is)
    (case l23 => k_is)
    (case c23 => k_is)
    (case k23 => k_is)
    (case a24 => k_is)
    (case l24 => k_is)
    (case c24 => k_is)
    (case k24 => k_is)
    (case a25 => k_is)
    (case l25 => k_is)
    (case c25 => k_is)
    (case k25 => k_is)
    (case a26 => k_is)
    (case l26 => k_is)
    (case c26 => k_is)
    (case k26 => k_is)
    (case a27 => k_is)
    (case l27 => k_is)
    (case c27 => k_is)
    (case k27 => k_is)
    (case a28 => k_is)
    (case l28 => k_is)
    (case c28 => k_is)
    (case k28 => k_is)
    (case a29 => k_is)
    (case l29 => k_is)
    (case c29 => k_is)
    (case k29 => k_is)
    (case a30 => k_is)
    (case l30 => k_is)
    (case c30 => k_is)
    (case k30 => k_is)
    (case a31 => k_is)
    (case l31 => k_is)
    (case c31 => k_is)
    (case k31 => k_is)
    (case a32 => k_is)
    (case l32 => k_is)
    (case c32 => k_is)
    (case k32 => k_is)
    (case a33 => k_is)
    (case l33 => k_is)
    (case c33 => k_is)
    (case k33 => k_is)
    (case a34 => k_is)
    (case l34 => k_is)
    (case c34 => k_is)
    (case k34 => k_is)
    (case a35 => k_is)
    (case l35 => k_is)
    (case c35 => k_is)
    (case k35 => k_is)
    (case a36 => k_is)
    (case l36 => k_is)
    (case c36 => k_is)
    (case k36 => k_is)
    (case a37 => k_is)
    (case l37 => k_is)
    (case c37 => k_is)
    (case k37 => k_is)
    (case a38 => k_is)
    (case l38 => k_is)
    (case c38 => k_is)
    (case k38 => k_is)
    (case a39 => k_is)
    (case l39 => k_is)
    (case c39 => k_is)
    (case k39 => k_is)
    (case a40 => k_is)
    (case l40 => k_is)
    (case c40 => k_is)
    (case k40 => k_is)
    (case a41 => k_is)
    (case l41 => k_is)
    (case c41 => k_is)
    (case k41 => k_is)
    (case a42 => k_is)
    (case l42 => k_is)
    (case c42 => k_is)
    (case k42 => k_is)
    (case a43 => k_is)
    (case l43 => k_is)
    (case c43 => k_is)
    (case k43 => k_is)
    (case a44 => k_is)
    (case l44 => k_is)
    (case c44 => k_is)
    (case k44 => k_is)
    (case z0 => k_is)
    (case z1 => k_is)
    (case z2 => k_is)
    (case z3 => k_is)
    (case z4 => k_is)
    (case z5 => k_is)
    (case z6 => k_is)
    (case z7 => k_is)
    (case z8 => k_is)
    (case z9 => k_is)
    (case z10 => k_is)
    (case z11 => k_is)
    (case z12 => k_is)
    (case z13 => k_is)
    (case z14 => k_is)
    (case z15 => k_is)
    (case z16 => k_is)
    (case z17 => k_is)
    (case z18 => k_is)
    (case z19 => k_is)
    (case aF => k_is)
    (case lF => k_is)
    (case kF => k_keys)
    (case wF => first | rfl | decide | k_is)
    (case e0 => k_is)
    (case m0 => k_is)
    (case v0 => k_is)
    (case e1 => k_is)
    (case m1 => k_is)
    (case v1 => k_is)
    (case e2 => k_is)
    (case m2 => k_is)
    (case v2 => k_is)
    (case e3 => k_is)
    (case m3 => k_is)
    (case v3 => k_is)
    (case e4 => k_is)
    (case m4 => k_is)
    (case v4 => k_is)
    (case e5 => k_is)
    (case m5 => k_is)
    (case v5 => k_is)
    (case e6 => k_is)
    (case m6 => k_is)
    (case v6 => k_is)
    (case e7 => k_is)
    (case m7 => k_is)
    (case v7 => k_is)
    (case e8 => k_is)
    (case m8 => k_is)
    (case v8 => k_is)
    (case e9 => k_is)
    (case m9 => k_is)
    (case v9 => k_is)
    (case e10 => k_is)
    (case m10 => k_is)
    (case v10 => k_is)
    (case e11 => k_is)
    (case m11 => k_is)
    (case v11 => k_is)
    (case cn_MOST => k_is)
    (case nFoo => k_is)
    (case a_NoProgram => k_is)
    (case x_NoProgram => k_is)
    (case sa_NoProgram => k_is)
    (case ga_NoProgram => k_is)
    (case gg_NoProgram => k_is)
    (case i_NoProgram' => k_is)
    (case ca_NoProgram => k_is)
    (case t_NoProgram => k_is)
    (case l_NoProgram => k_is)
    (case c_NoProgram' => k_is)
    (case kf_NoProgram => k_is)
    (case kc_NoProgram => k_is)
    (case ex_NoProgram => k_is)
    (case ty_NoProgram => k_is)
    (case hd_NoProgram => k_is)
    (case is_NoProgram => k_is)
    (case te_NoProgram => first | rfl | k_is)
    (case ob_NoProgram => first | rfl | k_is)
    (case gn_NoProgram => first | rfl | k_is)
    (case tk_NoProgram => first | rfl | k_is)
    (case f0_NoProgram => k_is)
    (case f1_NoProgram => k_is)
    (case a_NoInputs => k_is)
    (case x_NoInputs => k_is)
    (case sa_NoInputs => k_is)
    (case ga_NoInputs => k_is)
    (case gg_NoInputs => k_is)
    (case i_NoInputs' => k_is)
    (case ca_NoInputs => k_is)
    (case t_NoInputs => k_is)
    (case l_NoInputs => k_is)
    (case c_NoInputs' => k_is)
    (case kf_NoInputs => k_is)
    (case kc_NoInputs => k_is)
    (case ex_NoInputs => k_is)
    (case ty_NoInputs => k_is)
    (case hd_NoInputs => k_is)
    (case is_NoInputs => k_is)
    (case te_NoInputs => first | rfl | k_is)
    (case ob_NoInputs => first | rfl | k_is)
    (case gn_NoInputs => first | rfl | k_is)
    (case tk_NoInputs => first | rfl | k_is)
    (case f0_NoInputs => k_is)
    (case a_Clash => k_is)
    (case x_Clash => k_is)
    (case sa_Clash => k_is)
    (case ga_Clash => k_is)
    (case gg_Clash => k_is)
    (case i_Clash' => k_is)
    (case ca_Clash => k_is)
    (case t_Clash => k_is)
    (case l_Clash => k_is)
    (case c_Clash' => k_is)
    (case kf_Clash => k_is)
    (case kc_Clash => k_is)
    (case ex_Clash => k_is)
    (case ty_Clash => k_is)
    (case hd_Clash => k_is)
    (case is_Clash => k_is)
    (case te_Clash => first | rfl | k_is)
    (case ob_Clash => first | rfl | k_is)
    (case gn_Clash => first | rfl | k_is)
    (case tk_Clash => first | rfl | k_is)
    (case f0_Clash => k_is)
    (case f1_Clash => k_is)
    (case yt0 => k_is)
    (case yt1 => k_is)
    (case yt2 => k_is)
    (case yt3 => k_is)
    (case yt4 => k_is)
    (case yt5 => k_is)
    (case yt6 => k_is)
    (case yt7 => k_is)
    (case yt8 => k_is)
    (case yt9 => k_is)
    (case yt10 => k_is)
    (case yt11 => k_is)
    (case aMk => k_is)
    (case vs0NoProgram => first | rfl | k_is)
    (case vs1NoProgram => first | rfl | k_is)
    (case vs2NoProgram => first | rfl | k_is)
    (case vs3NoProgram => first | rfl | k_is)
    (case vs4NoProgram => first | rfl | k_is)
    (case vs5NoProgram => first | rfl | k_is)
    (case vs6NoProgram => first | rfl | k_is)
    (case vs7NoProgram => first | rfl | k_is)
    (case vs8NoProgram => first | rfl | k_is)
    (case vs9NoProgram => first | rfl | k_is)
    (case vs10NoProgram => first | rfl | k_is)
    (case vs11NoProgram => first | rfl | k_is)
    (case vs9NoProgramNoProgram => first | rfl | k_is)
    (case vs9NoProgramNoInputs => first | rfl | k_is)
    (case vs9NoProgramClash => first | rfl | k_is)
    (case te_MNoProgram => first | rfl | k_is)
    (case vs0NoInputs => first | rfl | k_is)
    (case vs1NoInputs => first | rfl | k_is)
    (case vs2NoInputs => first | rfl | k_is)
    (case vs3NoInputs => first | rfl | k_is)
    (case vs4NoInputs => first | rfl | k_is)
    (case vs5NoInputs => first | rfl | k_is)
    (case vs6NoInputs => first | rfl | k_is)
    (case vs7NoInputs => first | rfl | k_is)
    (case vs8NoInputs => first | rfl | k_is)
    (case vs9NoInputs => first | rfl | k_is)
    (case vs10NoInputs => first | rfl | k_is)
    (case vs11NoInputs => first | rfl | k_is)
    (case vs9NoInputsNoProgram => first | rfl | k_is)
    (case vs9NoInputsNoInputs => first | rfl | k_is)
    (case vs9NoInputsClash => first | rfl | k_is)
    (case te_MNoInputs => first | rfl | k_is)
    (case vs0Clash => first | rfl | k_is)
    (case vs1Clash => first | rfl | k_is)
    (case vs2Clash => first | rfl | k_is)
    (case vs3Clash => first | rfl | k_is)
    (case vs4Clash => first | rfl | k_is)
    (case vs5Clash => first | rfl | k_is)
    (case vs6Clash => first | rfl | k_is)
    (case vs7Clash => first | rfl | k_is)
    (case vs8Clash => first | rfl | k_is)
    (case vs9Clash => first | rfl | k_is)
    (case vs10Clash => first | rfl | k_is)
    (case vs11Clash => first | rfl | k_is)
    (case vs9ClashNoProgram => first | rfl | k_is)
    (case vs9ClashNoInputs => first | rfl | k_is)
    (case vs9ClashClash => first | rfl | k_is)
    (case te_MClash => first | rfl | k_is)
    (case a_NotKept => k_is)
    (case ga_NotKept => k_is)
    (case gg_NotKept => k_is)
    (case ca_NotKept => k_is)
    (case ex_NotKept => k_is)
    (case is_NotKept => k_is)
    (case gn_NotKept => first | rfl | k_is)
    (case tk_NotKept => first | rfl | k_is)
    (case ob_NotKept => first | rfl | k_is)
    (case kc_NotKept => k_is)
    (case ty_NotKept => k_is)
    (case te_NotKept => first | rfl | k_is)
    (case te_M_NotKept => first | rfl | k_is)
    (case iv_NotKept => k_is)
    (case lv_NotKept => k_is)
    (case cv_NotKept => k_is)
    (case kf_NotKept => k_is)
    (case tv_NotKept => k_is)
    (case hd_NotKept => k_is)
    (case sa_NotKept => k_is)
    (case DKq_NotKept => kernel_rfl)
    (case DKo_NotKept => kernel_rfl)
    (case f0_NotKept => k_is)
    (case z_dict => k_is)
    (case oa_Deed => k_is)
    (case opg_Deed => k_is)
    (case ohd_Deed => k_is)
    (case opo_Deed => k_is)
    (case osa_Deed => k_is)
    (case omk_Deed => k_is)
    (case okc_Deed => k_is)
    (case onnoted_Deed => k_is)
    (case onstart_Deed => k_is)
    (case ondone_Deed => k_is)
    (case onrefused_Deed => k_is)
    (case oi_Deed => k_is)
    (case oif_Deed => k_is)
    (case ol_Deed => k_is)
    (case oc_Deed => k_is)
    (case ok_Deed => k_is)
    (case ma__enter___Deed => k_is)
    (case mi__enter___Deed => k_is)
    (case ml__enter___Deed => k_is)
    (case mc__enter___Deed => k_is)
    (case mk__enter___Deed => k_is)
    (case ma__exit___Deed => k_is)
    (case mi__exit___Deed => k_is)
    (case ml__exit___Deed => k_is)
    (case mc__exit___Deed => k_is)
    (case mk__exit___Deed => k_is)
    (case oa_Maker => k_is)
    (case opg_Maker => k_is)
    (case ohd_Maker => k_is)
    (case opo_Maker => k_is)
    (case osa_Maker => k_is)
    (case omk_Maker => k_is)
    (case okc_Maker => k_is)
    (case onhead_Maker => k_is)
    (case onstock_Maker => k_is)
    (case onmost_Maker => k_is)
    (case onthings_Maker => k_is)
    (case ononward_Maker => k_is)
    (case onnoted_Maker => k_is)
    (case oi_Maker => k_is)
    (case oif_Maker => k_is)
    (case ol_Maker => k_is)
    (case oc_Maker => k_is)
    (case ok_Maker => k_is)
    (case okd1_Maker => k_is)
    (case okd2_Maker => k_is)
    (case mawish_Maker => k_is)
    (case miwish_Maker => k_is)
    (case mlwish_Maker => k_is)
    (case mcwish_Maker => k_is)
    (case mkwish_Maker => k_is)
    (case maexamples_Maker => k_is)
    (case miexamples_Maker => k_is)
    (case mlexamples_Maker => k_is)
    (case mcexamples_Maker => k_is)
    (case mkexamples_Maker => k_is)
    (case maback_Maker => k_is)
    (case miback_Maker => k_is)
    (case mlback_Maker => k_is)
    (case mcback_Maker => k_is)
    (case mkback_Maker => k_is)
    (case makept_Maker => k_is)
    (case mikept_Maker => k_is)
    (case mlkept_Maker => k_is)
    (case mckept_Maker => k_is)
    (case mkkept_Maker => k_is)
    (case malog_Maker => k_is)
    (case milog_Maker => k_is)
    (case mllog_Maker => k_is)
    (case mclog_Maker => k_is)
    (case mklog_Maker => k_is)
    (case mais_busy_Maker => k_is)
    (case miis_busy_Maker => k_is)
    (case mlis_busy_Maker => k_is)
    (case mcis_busy_Maker => k_is)
    (case mkis_busy_Maker => k_is)
    (case ma__len___Maker => k_is)
    (case mi__len___Maker => k_is)
    (case ml__len___Maker => k_is)
    (case mc__len___Maker => k_is)
    (case mk__len___Maker => k_is)
    (case madeed_Maker => k_is)
    (case mideed_Maker => k_is)
    (case mldeed_Maker => k_is)
    (case mcdeed_Maker => k_is)
    (case mkdeed_Maker => k_is)
    (case manumbered_Maker => k_is)
    (case minumbered_Maker => k_is)
    (case mlnumbered_Maker => k_is)
    (case mcnumbered_Maker => k_is)
    (case mknumbered_Maker => k_is)

