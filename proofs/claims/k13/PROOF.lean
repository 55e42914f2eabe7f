import PyProof.Rows.All
import Wide.All
import OpenK.AllK
import Wide.FinOn
import HandS.ForMost
import HandS.IsInst
import HandS.TupAny
import HandS.Flow
import HandS.Style
import HandS.RevRange
import HandS.Conv
import HandS.More
import HandS.Zip
import KE.KDictZip
import KE.KDictList
import KE.KRevSl
import HandS.ForExc
import HandS.ExcInit
import HandS.ExcField
import HandS.HotCalls
import HandS.SetFor
import KE.KExcIs
import KE.GoesEnum
import KE.GoesMore
import HandS.Star
import HandS.ExcOwn
import HandS.WordsExc
import HandS.Walk
import HandS.Codes
import HandS.Text
import PySem.Challenge.RW_leastmaker_k13_stocks_looked_at
set_option Elab.async false
set_option linter.all false
set_option maxRecDepth 100000
set_option maxHeartbeats 2000000
namespace LmR
open PySem PySem.Spec PyProof.Rows L2
/-! ### t[::-1] of a tuple -/
section
variable {prog : Program} {w : World} {A : Around} {E : Value → Shared → Prop} {s : Shared}
theorem pick_rev (xs : Array Value) : ((List.range xs.size).filterMap fun (m : Nat) => xs[(((xs.size : Int) - 1) + (m : Int) * (-1)).toNat]?).toArray = xs.toList.reverse.toArray := by
  congr 1
  have e : ∀ n, n ≤ xs.size → ((List.range n).filterMap fun (m : Nat) => xs[(((xs.size : Int) - 1) + (m : Int) * (-1)).toNat]?) = (xs.toList.reverse).take n := by
    intro n
    induction n with
    | zero => intro _; rfl
    | succ n ih =>
      intro h
      rw [List.range_succ, List.filterMap_append, ih (by omega), List.take_add_one]
      congr 1
      have e1 : (((xs.size : Int) - 1) + (n : Int) * (-1)).toNat = xs.size - 1 - n := by omega
      have e2 : xs.toList.reverse[n]? = xs[xs.size - 1 - n]? := by
        rw [List.getElem?_reverse (by rw [Array.length_toList]; omega), Array.length_toList, Array.getElem?_toList]
      rw [e2]
      have hlt : xs.size - 1 - n < xs.size := by omega
      simp only [List.filterMap_cons, List.filterMap_nil]
      rw [e1, Array.getElem?_eq_getElem hlt]
      rfl
  rw [e xs.size (Nat.le_refl _)]
  exact List.take_of_length_le (by rw [List.length_reverse, Array.length_toList]; exact Nat.le_refl _)
theorem rev_applied {sl : Addr} {vl vu vs : Value} {n : Nat} {Q : Int × Int × Nat → Shared → Prop} (hs : s.heap.IsSliceOf sl vl vu vs) (pl : IsPart vl none) (pu : IsPart vu none) (ps : IsPart vs (some (-1)))
    (h : Q ((n : Int) - 1, -1, n) s) : wpAny (model prog w) A (Builtin.Slice.sliceApplied (.ref sl) (pure (n : Int))) Q E s := by
  obtain ⟨os, hos, hcs, hds⟩ := id hs
  unfold Builtin.Slice.sliceApplied Builtin.Slice.sliceFields
  refine wpAny_bind (wpAny_bind (wpAny_field hos hds (x := vl) rfl (wpAny_bind (wpAny_field hos hds (x := vu) rfl (wpAny_bind (wpAny_field hos hds (x := vs) rfl (wpAny_pure ?_)))))))
  refine wpAny_bind (HT.slicePart_ ps ?_)
  show wpAny _ _ (if ((-1 : Int) == 0) = true then _ else _) _ _ s
  rw [if_neg (by decide)]
  refine wpAny_bind (HT.slicePart_ pl (wpAny_bind (HT.slicePart_ pu (wpAny_bind (wpAny_pure ?_)))))
  have e : Builtin.Slice.sliceAdjust none none (-1) (n : Int) = ((n : Int) - 1, -1) := by
    simp [Builtin.Slice.sliceAdjust]
  have e2 : Builtin.Slice.slicePlaces ((n : Int) - 1) (-1) (-1) = n := by
    unfold Builtin.Slice.slicePlaces
    simp
    omega
  show wpAny _ _ (match Builtin.Slice.sliceAdjust none none (-1) (n : Int) with | (lo, hi) => pure (lo, (-1 : Int), Builtin.Slice.slicePlaces lo hi (-1))) _ _ s
  rw [e]
  show wpAny _ _ (pure ((n : Int) - 1, (-1 : Int), Builtin.Slice.slicePlaces ((n : Int) - 1) (-1) (-1))) _ _ s
  rw [e2]
  exact wpAny_pure h
theorem getItem_tuple_rev {t sl : Addr} {items : Array Value} {vl vu vs : Value} {Q : Value → Shared → Prop} (ht : IsTup s.heap t items) (hs : s.heap.IsSliceOf sl vl vu vs) (pl : IsPart vl none) (pu : IsPart vu none) (ps : IsPart vs (some (-1)))
    (h : Q (.ref s.heap.objs.size) { s with heap := s.heap.push { cls := .type "tuple", data := .seq items.toList.reverse.toArray } })
    (hsz : items.size ≤ sizeLine) : wpAny (model prog w) A (getItem (.ref t) (.ref sl)) Q E s := by
  have htake : sizeOk (.seq items.toList.reverse.toArray) := by
    show (items.toList.reverse).toArray.size ≤ sizeLine
    rw [List.size_toArray, List.length_reverse, Array.length_toList]
    omega
  obtain ⟨os, hos, hcs, hds⟩ := id hs
  have hTs : s.TypeIs (.ref sl) "slice" := ⟨os, hos, hcs⟩
  unfold getItem
  try with_reducible refine wpAny_holding ?_
  first | refine wpAny_bind (wpAny_pure ?_) | skip
  refine wpAny_bind (wpAny_sequenceKey ht.typeIs (by decide) ?_)
  refine wpAny_bind (wpAny_callSpecial?_slot (name := Str.ofString "__getitem__") ht.typeIs PyProof.Rows.slot_tuple_getitem
    (wpAny_call_entry PyProof.Rows.slot_tuple_getitem ht.typeIs PyProof.Rows.entry_tuple_getitem ?_ (PyProof.Rows.args_tuple_getitem _ _)))
  show wpAny _ _ (Builtin.Tuple.tupleItemsOf (.ref t) >>= _) _ _ s
  refine wpAny_bind (PyProof.Rows.tupleItemsOf_ ht ?_)
  refine wpAny_bind (wpAny_typeOf hTs ?_)
  rw [if_pos (by decide)]
  refine wpAny_bind (rev_applied hs pl pu ps ?_)
  have hno : ¬ (((items.size : Int) - 1 == 0 && (-1 : Int) == 1 && items.size == items.size) = true) := by
    intro q
    rw [Bool.and_eq_true, Bool.and_eq_true] at q
    exact absurd q.1.2 (by decide)
  show wpAny _ _ (if ((items.size : Int) - 1 == 0 && (-1 : Int) == 1 && items.size == items.size) = true then _ else _) _ _ s
  rw [if_neg hno, pick_rev]
  first
    | exact wpAny_bind (m := Builtin.Tuple.tupleExact _) (wpAny_newObj_type (wpAny_pure ⟨_, rfl, wpAny_pure h⟩) htake)
    | exact wpAny_bind (m := Builtin.Tuple.tupleExact _) (wpAny_newObj_type (wpAny_bind (wpAny_pure (wpAny_pure ⟨_, rfl, wpAny_pure h⟩))) htake)
    | exact wpAny_bind (wpAny_bind (m := Builtin.Tuple.tupleExact _) (wpAny_newObj_type (wpAny_pure (wpAny_pure ⟨_, rfl, wpAny_pure h⟩)) htake))
    | exact wpAny_bind (wpAny_bind (m := Builtin.Tuple.tupleExact _) (wpAny_newObj_type (wpAny_pure ⟨_, rfl, wpAny_pure h⟩) htake))
end
def tRevT (K : PySem.W.Frag) (te : TE) : TE := fun σ H Q => te σ H fun x H1 => ∃ a xs, x = .ref a ∧ SqT K H1 a xs ∧ ∀ p, H1 p = none → Q (.ref p) (upd H1 p (.tup xs.reverse))
section
variable {X : Cx}
theorem pe_revT {e : Expr} {te : TE} {k : Nat} {p1 p2 p3 pos : Pos} (he : PE X e te) : PE X (.Subscript e (.Slice none none (some (.UnaryOp .USub (.Constant (.int 1) k p1) p2)) p3) pos) (tRevT X.K te) := by
  refine ⟨fun pins s σ H Q I h => ?_⟩
  refine Subscript_ (thn (he.run pins s σ H _ I h) fun v s1 ⟨x, H1, I1, r1, q1⟩ => ?_)
  obtain ⟨a, xs, ex, hx, q⟩ := q1
  subst ex
  cases r1
  have hst : PO X (some (.UnaryOp .USub (.Constant (.int 1) k p1) p2)) (tPart (tUn (rU fun i => .int (-i)) (tC (.int 1)))) := po_some (pe_un un_neg pe_int)
  refine wpAny_Slice (thn (po_none.run pins s1 σ H1 (fun o H2 => o = none ∧ H2 = H1) I1 ⟨rfl, rfl⟩) fun vl s2 ⟨l, H2, I2, pl, el, e2⟩ => ?_)
  subst el e2
  refine thn (po_none.run pins s2 σ H2 (fun o H3 => o = none ∧ H3 = H2) I2 ⟨rfl, rfl⟩) fun vu s3 ⟨u, H3, I3, pu, eu, e3⟩ => ?_
  subst eu e3
  refine thn (hst.run pins s3 σ H3 (fun o H4 => o = some (-1) ∧ H4 = H3) I3 ⟨1, rfl, -1, rfl, rfl, rfl⟩) fun vs s4 ⟨o, H4, I4, ps, eo, e4⟩ => ?_
  subst eo e4
  have I5 : Inv X pins σ H4 { s4 with heap := s4.heap.push { cls := .type "slice", data := .fields #[vl, vu, vs] } } := I4.kept (t' := s4.toks) fun b ob q => Heap.get?_push_of_some _ q
  obtain ⟨its, r, ht, hz⟩ := I5.tuple hx
  have hlen := r.length
  show wpAny (model X.prog X.w) X.A (subscriptTail e (.Slice none none (some (.UnaryOp .USub (.Constant (.int 1) k p1) p2)) p3) (.ref a) (.ref s4.heap.objs.size)) (EP X pins σ Q) X.xe { s4 with heap := s4.heap.push { cls := .type "slice", data := .fields #[vl, vu, vs] } }
  refine tail_any (ops := [.ref a, .ref s4.heap.objs.size]) ht.typeIs (PyProof.Rows.slot_tuple_getitem.lookup) ?_ (by with_unfolding_all rfl)
  refine getItem_tuple_rev ht (Heap.IsSliceOf.new _ vl vu vs) pl pu ps ?_ (by rw [List.size_toArray]; omega)
  refine ⟨.ref _, _, I5.laid (t' := s4.toks) (o := .tup xs.reverse) (fun b ob q => Heap.get?_push_of_some _ q) (Nat.le_refl _) ?_, rfl, q _ (I5.hok.fresh (Nat.le_refl _))⟩
  exact ⟨by rw [List.length_reverse]; exact hz, its.reverse, r.reverse, ⟨_, Heap.get?_push_size _ rfl, rfl, _, rfl⟩⟩
end
/-! ### l.extend(t), t a tuple -/
theorem extend_tuple (l : Addr) (items : Array Value) (n : Nat) (b : Addr) (items2 : Array Value) (n2 : Nat) (dd : Option Addr) (sl : Array (Option Value)) (hs0 : ¬(!items.isEmpty && Builtin.List.listTooLong (items.size + items2.size)) = true) (hs1 : items.size ≤ sizeLine) (hs2 : items.size + items2.size ≤ sizeLine + 1 := by seq_fits) :
    Meets (Builtin.«list.extend» ⟨[.ref l, .ref b], []⟩) (fun _ R s => s.heap.get? l = some { cls := .type "list", dict := none, data := .seq items n, slots := #[] } ∧ s.heap.get? b = some { cls := .type "tuple", dict := dd, data := .seq items2 n2, slots := sl } ∧ R (.ok (.ret Value.none)) { s with heap := s.heap.update l (Obj.mapSeq fun x => x ++ items2), toks := s.toks }) :=
  .of_wp fun prog w A R s h => by
    obtain ⟨hp, g, d, tk, os⟩ := s; obtain ⟨hl, hb, h⟩ := h; have f1 := AutoSeq1.idx_int; have f2 := AutoSeq1.sub_tuple_tuple; have f3 := AutoSeq1.sub_list_list; have f4 := AutoSeq1.sub_tuple_list; have f5 := AutoSeq1.sub_list_tuple;
    have hz' : (items ++ items2).size ≤ sizeLine + 1 := by rw [Array.size_append]; exact hs2
    wp_walk using (wpAny_updateSeq hl rfl (hz := hs1) (_hz' := hz')), wpAny_loadPart' hl, wpAny_loadPart' hb; exact ⟨_, rfl, h⟩
def rExtT (K : PySem.W.Frag) : V → List V → Hp → VK → Prop := fun x vs H Q => ∃ l b xs zs, x = .ref l ∧ vs = [.ref b] ∧ H l = some (.lst xs) ∧ SqT K H b zs ∧ xs.length + zs.length ≤ sizeLine ∧ Q .non (upd H l (.lst (xs ++ zs)))
theorem mt_extendT {X : Cx} : MtM X "list.extend" (rExtT X.K) := by
  intro pins s σ H x vs v us Q I rx rv h
  obtain ⟨l, b, xs, zs, rfl, rfl, hH, hB, hz, q⟩ := h
  cases rx
  obtain ⟨u, rfl, ru⟩ := rv.one
  cases ru
  obtain ⟨z, its, n, r, hl, e⟩ := I.lstM hH
  obtain ⟨its2, r2, ⟨⟨cls, dd, dt, sl⟩, ho, hc, n2, hd⟩, _⟩ := I.tuple hB
  simp only at hc hd
  subst hc hd
  have hl2 := r2.length
  have hsz : its.toArray.size + its2.toArray.size ≤ sizeLine := by rw [List.size_toArray, List.size_toArray]; omega
  have hlong : ¬ (!its.toArray.isEmpty && Builtin.List.listTooLong (its.toArray.size + its2.toArray.size)) = true := by
    rw [notLongL hsz, Bool.and_false]
    exact Bool.false_ne_true
  refine call_meets F.slot_list_extend ⟨_, e, rfl⟩ F.entry_list_extend (F.args_list_extend_2 _ _)
    (extend_tuple l its.toArray n b its2.toArray n2 dd sl hlong (by rw [List.size_toArray]; omega) (by omega)) ⟨e, ho, ?_⟩
  refine ⟨.non, _, I.lset (its' := its ++ its2) hH e (by simp) (r.append r2) ?_, rfl, q⟩
  rw [List.length_append]
  omega
end LmR

set_option Elab.async false
set_option linter.all false
set_option maxRecDepth 100000
set_option maxHeartbeats 2000000
namespace LmR
open PySem PySem.Spec PyProof.Rows L2 RZ
theorem zip_no_len : typeLookup (.type "zip") "__len__" = pure none := by rw [typeLookup_type, builtinLookup_eq_fast]; kernel_rfl
theorem zip_no_hint : typeLookup (.type "zip") "__length_hint__" = pure none := by rw [typeLookup_type, builtinLookup_eq_fast]; kernel_rfl
section
variable {prog : Program} {w : World} {A : Around} {E : Value → Shared → Prop} {s : Shared}
theorem zipT_item_held {z TI TO T i1 i2 l1 l2 : Addr} {f : Bool} {oT : Obj} {k1 k2 : Nat} {xs ys : Array Value} {x y : Value} {Q : Value → Shared → Prop} (D : ZipApart z TI TO i1 i2 l1 l2)
    (hz : IsZipHeld s.heap z TI TO T f) (hT : s.heap.get? T = some oT) (hTI : IsPair s.heap TI (.ref i1) (.ref i2))
    (h1 : s.heap.IsTupleIter i1 l1 k1) (h2 : s.heap.IsTupleIter i2 l2 k2) (hl1 : s.heap.IsTuple l1 xs) (hl2 : s.heap.IsTuple l2 ys) (hx : xs[k1]? = some x) (hy : ys[k2]? = some y)
    (hQ : ∀ h', IsZipHeld h' z TI TO T true → h'.IsTupleIter i1 l1 (k1 + 1) → h'.IsTupleIter i2 l2 (k2 + 1) → IsPair h' s.heap.objs.size x y → h'.objs.size = s.heap.objs.size + 1 →
      (∀ c o, c ≠ z → c ≠ i1 → c ≠ i2 → s.heap.get? c = some o → h'.get? c = some o) → Q (.ref s.heap.objs.size) { s with heap := h' }) :
    wpAny (model prog w) A (Builtin.«zip.__next__» ⟨[.ref z], []⟩) (fun fin s' => ∃ v, fin = .done (.ret v) ∧ Q v s') E s := by
  show wpAny _ _ (field (.ref z) 2 >>= _) _ _ _
  refine wpAny_bind (wpAny_field hz rfl (x := .bool false) rfl ?_)
  show wpAny _ _ (field (.ref z) 3 >>= _) _ _ _
  refine wpAny_bind (wpAny_field hz rfl (x := .ref TI) rfl ?_)
  refine wpAny_bind (wpAny_seqItems hTI rfl ?_)
  show wpAny _ _ (Builtin.SmallTypes.ownedTupleIsFree (.ref z) >>= _) _ _ _
  refine wpAny_bind (wpAny_tupleHeld_zip hz hT fun h₁ hz₁ hs₁ => ?_)
  simp only [Bool.false_eq_true, if_false]
  refine wpAny_bind ?_
  rw [← Array.forIn_toList]
  simp only [List.forIn_cons, List.forIn_nil]
  refine wpAny_bind (wpAny_bind (wpAny_holding ?_))
  show wpAny _ _ (Builtin.SmallTypes.nextOf (.ref i1) >>= _) _ _ _
  refine wpAny_bind (nextOf_tuple_item (s := { s with heap := h₁ }) (h1.extBut hs₁.extBut D.i1z) (hl1.extBut hs₁.extBut D.l1z) hx fun h₂ h1₂ hs₂ => wpAny_pure ?_)
  refine wpAny_pure ?_
  refine wpAny_bind (wpAny_bind (wpAny_holding ?_))
  show wpAny _ _ (Builtin.SmallTypes.nextOf (.ref i2) >>= _) _ _ _
  refine wpAny_bind (nextOf_tuple_item (s := { s with heap := h₂ }) ((h2.extBut hs₁.extBut D.i2z).extBut hs₂.extBut D.i12.symm) ((hl2.extBut hs₁.extBut D.l2z).extBut hs₂.extBut D.l2i1) hy fun h₃ h2₃ hs₃ => wpAny_pure ?_)
  refine wpAny_pure (wpAny_pure ?_)
  show wpAny _ _ (newTuple [x, y] >>= _) _ _ _
  refine wpAny_bind (wpAny_newTuple ?_)
  have hsz : h₃.objs.size = s.heap.objs.size := by rw [hs₃.1, hs₂.1, hs₁.1]
  have hz₃ : IsZipHeld h₃ z TI TO T true := hs₃.extBut _ _ D.i2z.symm (hs₂.extBut _ _ D.i1z.symm hz₁)
  have hk : ∀ c o, c ≠ z → c ≠ i1 → c ≠ i2 → s.heap.get? c = some o → h₃.get? c = some o := fun c o c1 c2 c3 e => hs₃.extBut _ _ c3 (hs₂.extBut _ _ c2 (hs₁.extBut _ _ c1 e))
  have h1₃ : h₃.IsTupleIter i1 l1 (k1 + 1) := h1₂.extBut hs₃.extBut D.i12
  refine wpAny_pure ⟨_, rfl, ?_⟩
  show Q (.ref h₃.objs.size) _
  have hp : IsPair (h₃.push { cls := .type "tuple", data := .seq #[x, y] }) h₃.objs.size x y := Heap.get?_push_size _ rfl
  have hz4 : (h₃.push { cls := .type "tuple", data := .seq #[x, y] }).objs.size = h₃.objs.size + 1 := Heap.size_push ..
  rw [hsz] at hp hz4 ⊢
  exact hQ _ (Heap.get?_push_of_some _ hz₃) (h1₃.at fun o e => Heap.get?_push_of_some _ e) (h2₃.at fun o e => Heap.get?_push_of_some _ e) hp hz4 fun c o c1 c2 c3 e => Heap.get?_push_of_some _ (hk c o c1 c2 c3 e)
theorem zipT_end_held {z TI TO T i1 i2 l1 l2 : Addr} {f : Bool} {oT : Obj} {k1 k2 : Nat} {xs ys : Array Value} {Q : Fin → Shared → Prop} (hh : A.handled = none) (D : ZipApart z TI TO i1 i2 l1 l2)
    (hz : IsZipHeld s.heap z TI TO T f) (hT : s.heap.get? T = some oT) (hTI : IsPair s.heap TI (.ref i1) (.ref i2))
    (h1 : s.heap.IsTupleIter i1 l1 k1) (h2 : s.heap.IsTupleIter i2 l2 k2) (hl1 : s.heap.IsTuple l1 xs) (hl2 : s.heap.IsTuple l2 ys) (hx : xs[k1]? = none)
    (hE : ∀ h' e, (∀ c o, c ≠ z → c ≠ i1 → c ≠ i2 → s.heap.get? c = some o → h'.get? c = some o) → (∃ o, h'.get? e = some o ∧ o.cls = .type "StopIteration") → E (.ref e) { s with heap := h' }) :
    wpAny (model prog w) A (Builtin.«zip.__next__» ⟨[.ref z], []⟩) Q E s := by
  show wpAny _ _ (field (.ref z) 2 >>= _) _ _ _
  refine wpAny_bind (wpAny_field hz rfl (x := .bool false) rfl ?_)
  show wpAny _ _ (field (.ref z) 3 >>= _) _ _ _
  refine wpAny_bind (wpAny_field hz rfl (x := .ref TI) rfl ?_)
  refine wpAny_bind (wpAny_seqItems hTI rfl ?_)
  show wpAny _ _ (Builtin.SmallTypes.ownedTupleIsFree (.ref z) >>= _) _ _ _
  refine wpAny_bind (wpAny_tupleHeld_zip hz hT fun h₁ hz₁ hs₁ => ?_)
  simp only [Bool.false_eq_true, if_false]
  refine wpAny_bind ?_
  rw [← Array.forIn_toList]
  simp only [List.forIn_cons, List.forIn_nil]
  refine wpAny_bind (wpAny_bind (wpAny_holding ?_))
  show wpAny _ _ (Builtin.SmallTypes.nextOf (.ref i1) >>= _) _ _ _
  refine wpAny_bind (nextOf_tuple_end (s := { s with heap := h₁ }) hh (h1.extBut hs₁.extBut D.i1z) (hl1.extBut hs₁.extBut D.l1z) hx fun h₂ e hs₂ he => ?_)
  exact hE h₂ e (fun c o c1 c2 _ x => hs₂ _ _ c2 (hs₁.extBut _ _ c1 x)) he
/-- a zip of two tuples between two turns of list(..) -/
structure ZSt (h : Heap) (z TI TO i1 i2 l1 l2 S lo : Addr) (xs ys : Array Value) (i : Nat) : Prop where
  zip : (i = 0 ∧ IsZip h z TI TO .none ∧ ∃ a b, IsPair h TO a b) ∨ ∃ T f oT, IsZipHeld h z TI TO T f ∧ h.get? T = some oT ∧ lo ≤ T
  ti : IsPair h TI (.ref i1) (.ref i2)
  h1 : h.IsTupleIter i1 l1 i
  h2 : h.IsTupleIter i2 l2 i
  l1' : h.IsTuple l1 xs
  l2' : h.IsTuple l2 ys
/-- the addresses that are there ahead of the pairs -/
structure ZLo (z TI TO i1 i2 l1 l2 S lo : Addr) : Prop where
  z' : z < lo
  TI' : TI < lo
  TO' : TO < lo
  i1' : i1 < lo
  i2' : i2 < lo
  l1' : l1 < lo
  l2' : l2 < lo
  S' : S < lo
  Sz : S ≠ z
  STI : S ≠ TI
  STO : S ≠ TO
  Si1 : S ≠ i1
  Si2 : S ≠ i2
  Sl1 : S ≠ l1
  Sl2 : S ≠ l2
variable {z TI TO i1 i2 l1 l2 S lo : Addr} {xs ys : Array Value}
theorem ZSt.upd {h h' : Heap} {i : Nat} (L : ZLo z TI TO i1 i2 l1 l2 S lo) (st : ZSt h z TI TO i1 i2 l1 l2 S lo xs ys i) (k : ∀ b o, b ≠ S → h.get? b = some o → h'.get? b = some o) : ZSt h' z TI TO i1 i2 l1 l2 S lo xs ys i where
  zip := by
    rcases st.zip with ⟨e, hz, a, b, ht⟩ | ⟨T, f, oT, hz, hT, hl⟩
    · exact .inl ⟨e, k _ _ L.Sz.symm hz, a, b, k _ _ L.STO.symm ht⟩
    · exact .inr ⟨T, f, oT, k _ _ L.Sz.symm hz, k _ _ (fun e => by have := L.S'; rw [e] at hl; exact absurd hl (Nat.not_le.mpr this)) hT, hl⟩
  ti := k _ _ L.STI.symm st.ti
  h1 := st.h1.at fun o e => k _ _ L.Si1.symm e
  h2 := st.h2.at fun o e => k _ _ L.Si2.symm e
  l1' := by
    obtain ⟨o, ho, r⟩ := st.l1'
    exact ⟨o, k _ _ L.Sl1.symm ho, r⟩
  l2' := by
    obtain ⟨o, ho, r⟩ := st.l2'
    exact ⟨o, k _ _ L.Sl2.symm ho, r⟩
theorem tup_keep {h h' : Heap} {l : Addr} {its : Array Value} (t : h.IsTuple l its) (k : ∀ o, h.get? l = some o → h'.get? l = some o) : h'.IsTuple l its := by
  obtain ⟨o, ho, r⟩ := t
  exact ⟨o, k o ho, r⟩
theorem zst_item {i : Nat} {x y : Value} {Q : Option Value → Shared → Prop} (D : ZipApart z TI TO i1 i2 l1 l2) (L : ZLo z TI TO i1 i2 l1 l2 S lo) (hlo : lo ≤ s.heap.objs.size) (st : ZSt s.heap z TI TO i1 i2 l1 l2 S lo xs ys i) (hx : xs[i]? = some x) (hy : ys[i]? = some y)
    (hQ : ∀ h', ZSt h' z TI TO i1 i2 l1 l2 S lo xs ys (i + 1) → IsPair h' s.heap.objs.size x y → h'.objs.size = s.heap.objs.size + 1 →
      (∀ c o, c ≠ z → c ≠ TO → c ≠ i1 → c ≠ i2 → s.heap.get? c = some o → h'.get? c = some o) → Q (some (.ref s.heap.objs.size)) { s with heap := h' }) :
    wpAny (model prog w) A (pyNext (.ref z)) Q E s := by
  rcases st.zip with ⟨e, hz, a, b, ht⟩ | ⟨T, f, oT, hz, hT, hl⟩
  · refine pyNext_zipT_item D hz st.ti ht st.h1 st.h2 st.l1' st.l2' hx hy fun h' z' to' a1 a2 pr sz k => hQ h' ⟨.inr ⟨s.heap.objs.size, false, _, z', pr, hlo⟩, ?_, a1, a2, ?_, ?_⟩ pr sz k
    · exact k _ _ D.TIz D.TITO D.TIi1 D.TIi2 st.ti
    · exact tup_keep st.l1' fun o q => k _ _ D.l1z D.l1TO D.l1i1 D.l1i2 q
    · exact tup_keep st.l2' fun o q => k _ _ D.l2z D.l2TO D.l2i1 D.l2i2 q
  · have hTy : s.TypeIs (.ref z) "zip" := ⟨_, hz, rfl⟩
    unfold pyNext
    refine wpAny_bind (wpAny_attempt (wpAny_callSpecial?_slot (name := Str.ofString "__next__") hTy F.slot_zip_next
      (wpAny_call_entry F.slot_zip_next hTy F.entry_zip_next
        (zipT_item_held D hz hT st.ti st.h1 st.h2 st.l1' st.l2' hx hy fun h' z' a1 a2 pr sz k => wpAny_pure (hQ h' ⟨.inr ⟨T, true, oT, z', ?_, hl⟩, ?_, a1, a2, ?_, ?_⟩ pr sz fun c o c1 _ c3 c4 q => k c o c1 c3 c4 q)) (F.args_zip_next_1 _))))
    · exact k _ _ (fun e => by rw [e] at hl; exact absurd hl (Nat.not_le.mpr L.z')) (fun e => by rw [e] at hl; exact absurd hl (Nat.not_le.mpr L.i1')) (fun e => by rw [e] at hl; exact absurd hl (Nat.not_le.mpr L.i2')) hT
    · exact k _ _ D.TIz D.TIi1 D.TIi2 st.ti
    · exact tup_keep st.l1' fun o q => k _ _ D.l1z D.l1i1 D.l1i2 q
    · exact tup_keep st.l2' fun o q => k _ _ D.l2z D.l2i1 D.l2i2 q
theorem zst_done {i : Nat} {Q : Option Value → Shared → Prop} (hh : A.handled = none) (D : ZipApart z TI TO i1 i2 l1 l2) (st : ZSt s.heap z TI TO i1 i2 l1 l2 S lo xs ys i) (hx : xs[i]? = none)
    (hQ : ∀ h', (∀ c o, c ≠ z → c ≠ TO → c ≠ i1 → c ≠ i2 → s.heap.get? c = some o → h'.get? c = some o) → Q none { s with heap := h' }) : wpAny (model prog w) A (pyNext (.ref z)) Q E s := by
  rcases st.zip with ⟨e, hz, a, b, ht⟩ | ⟨T, f, oT, hz, hT, hl⟩
  · exact pyNext_zipT_end hh D hz st.ti ht st.h1 st.h2 st.l1' st.l2' (.inl hx) hQ
  · have hTy : s.TypeIs (.ref z) "zip" := ⟨_, hz, rfl⟩
    unfold pyNext
    refine wpAny_bind (wpAny_attempt (wpAny_callSpecial?_slot (name := Str.ofString "__next__") hTy F.slot_zip_next
      (wpAny_call_entry F.slot_zip_next hTy F.entry_zip_next (zipT_end_held hh D hz hT st.ti st.h1 st.h2 st.l1' st.l2' hx fun h' e hk he => ?_) (F.args_zip_next_1 _))))
    obtain ⟨o, ho, hc⟩ := he
    refine wpAny_bind (wpAny_isInstance (T := "StopIteration") (b := true) ⟨o, ho, hc⟩ isSubtype_stop ?_)
    exact wpAny_pure (hQ _ fun c o c1 _ c3 c4 q => hk c o c1 c3 c4 q)
/-- the pairs made so far -/
structure ZG (xs ys : Array Value) (lo : Addr) (h : Heap) (as : List Addr) : Prop where
  rise : as.Pairwise (· < ·)
  above : ∀ a ∈ as, lo ≤ a
  pairs : ∀ (j : Nat) (a : Addr), as[j]? = some a → ∃ x y, xs[j]? = some x ∧ ys[j]? = some y ∧ IsPair h a x y
theorem ZG.there {h : Heap} {as : List Addr} (g : ZG xs ys lo h as) {a : Addr} (ha : a ∈ as) : a < h.objs.size := by
  obtain ⟨j, hj⟩ := List.mem_iff_getElem?.mp ha
  obtain ⟨_, _, _, _, e⟩ := g.pairs j a hj
  exact Heap.lt_size e
theorem zl_loop {R : Result → Shared → Prop} (hh : A.handled = none) (D : ZipApart z TI TO i1 i2 l1 l2) (L : ZLo z TI TO i1 i2 l1 l2 S lo) (hl : xs.size = ys.size) (hn : xs.size ≤ sizeLine) (res : Value) {h₁ : Heap}
    (hR : ∀ h' tk acc c as, (∀ b o, b ≠ S → b ≠ z → b ≠ TO → b ≠ i1 → b ≠ i2 → h₁.get? b = some o → h'.get? b = some o) → h'.get? S = some { cls := .type "list", dict := none, data := .seq acc c, slots := #[] } → as.length = xs.size → ZG xs ys lo h' as →
      acc.toList = as.map Value.ref → R (.ok (.ret res)) { s with heap := h', toks := tk }) :
    ∀ (k i : Nat) (h : Heap) (tk c : Nat) (acc : Array Value) (as : List Addr), xs.size - i = k → i ≤ xs.size → ZSt h z TI TO i1 i2 l1 l2 S lo xs ys i → (∀ b o, b ≠ S → b ≠ z → b ≠ TO → b ≠ i1 → b ≠ i2 → h₁.get? b = some o → h.get? b = some o) →
      h.get? S = some { cls := .type "list", dict := none, data := .seq acc c, slots := #[] } → acc.toList = as.map Value.ref → as.length = i → ZG xs ys lo h as → lo ≤ h.objs.size →
      codeAny (model prog w) A (.builtin "list.extend.loop" ⟨[.ref S, .ref z, res], []⟩) R { s with heap := h, toks := tk } := by
  intro k
  induction k with
  | zero =>
    intro i h tk c acc as hk hi st hkeep hS hacc hal hG hlo
    have hin : i = xs.size := by omega
    refine codeAny_builtin PySem.F.entry_extend_loop ?_
    rw [Around.under_plainId PySem.F.plain_extend_loop _]
    show wpAny _ A.in1 (pyNext (.ref z) >>= _) _ _ _
    refine wpAny_bind (zst_done (s := { s with heap := h, toks := tk }) (A := A.in1) hh D st (Array.getElem?_eq_none (by omega)) fun h' he => ?_)
    refine wpAny_pure (hR h' tk acc c as (fun b o h1 h2 h3 h4 h5 e => he b o h2 h3 h4 h5 (hkeep b o h1 h2 h3 h4 h5 e)) (he S _ L.Sz L.STO L.Si1 L.Si2 hS) (by omega) ⟨hG.rise, hG.above, fun j a hj => ?_⟩ hacc)
    obtain ⟨x, y, e1, e2, e3⟩ := hG.pairs j a hj
    have ha := hG.above a (List.mem_of_getElem? hj)
    exact ⟨x, y, e1, e2, he a _ (Nat.ne_of_gt (Nat.lt_of_lt_of_le L.z' ha)) (Nat.ne_of_gt (Nat.lt_of_lt_of_le L.TO' ha)) (Nat.ne_of_gt (Nat.lt_of_lt_of_le L.i1' ha)) (Nat.ne_of_gt (Nat.lt_of_lt_of_le L.i2' ha)) e3⟩
  | succ k ih =>
    intro i h tk c acc as hk hi st hkeep hS hacc hal hG hlo
    have hlt : i < xs.size := by omega
    have hx : xs[i]? = some xs[i] := Array.getElem?_eq_getElem hlt
    have hlt2 : i < ys.size := by omega
    have hy : ys[i]? = some ys[i] := Array.getElem?_eq_getElem hlt2
    have hsz : acc.size = i := by rw [← Array.length_toList, hacc, List.length_map, hal]
    refine codeAny_builtin PySem.F.entry_extend_loop ?_
    rw [Around.under_plainId PySem.F.plain_extend_loop _]
    show wpAny _ A.in1 (pyNext (.ref z) >>= _) _ _ _
    refine wpAny_bind (zst_item (s := { s with heap := h, toks := tk }) (A := A.in1) D L hlo st hx hy fun h' st' ht hz hkp => ?_)
    dsimp only at ht hz hkp ⊢
    have hS' := hkp S _ L.Sz L.STO L.Si1 L.Si2 hS
    have up : ∀ b o, b ≠ S → h'.get? b = some o → (h'.update S (Obj.mapSeq (·.push (Value.ref h.objs.size)))).get? b = some o := fun b o hb e => (Heap.get?_update_other _ _ (Ne.symm hb)).trans e
    have hSl : S < h.objs.size := Heap.lt_size hS
    show wpAny _ A.in1 (updateSeq S (·.push (Value.ref h.objs.size)) >>= _) _ _ _
    refine wpAny_bind ?_
    refine wpAny_updateSeq hS' rfl (wpAny_pure ⟨plainId_quiet PySem.F.plain_extend_loop _, ih (i + 1) _ tk _ (acc.push (Value.ref h.objs.size)) (as ++ [h.objs.size]) (by omega) hlt (st'.upd L up)
      (fun b o h1 h2 h3 h4 h5 e => up b o h1 (hkp b o h2 h3 h4 h5 (hkeep b o h1 h2 h3 h4 h5 e))) (Heap.get?_update_self _ hS' rfl) (by rw [Array.toList_push, hacc, List.map_append]; rfl) (by rw [List.length_append, hal]; rfl) ⟨?_, ?_, ?_⟩ ?_⟩) (by rw [hsz]; omega) (by show (acc.push (Value.ref h.objs.size)).size ≤ sizeLine + 1; rw [Array.size_push, hsz]; omega)
    · refine List.pairwise_append.mpr ⟨hG.rise, List.pairwise_singleton _ _, fun a ha b hb => ?_⟩
      rw [List.mem_singleton.mp hb]
      exact hG.there ha
    · intro a ha
      rcases List.mem_append.mp ha with ha | ha
      · exact hG.above a ha
      · rw [List.mem_singleton.mp ha]; exact hlo
    · intro j b hj
      rcases Nat.lt_trichotomy j as.length with h1 | h1 | h1
      · rw [List.getElem?_append_left h1] at hj
        obtain ⟨x', y', e1, e2, e3⟩ := hG.pairs j b hj
        have hb := hG.above b (List.mem_of_getElem? hj)
        exact ⟨x', y', e1, e2, up b _ (Nat.ne_of_gt (Nat.lt_of_lt_of_le L.S' hb)) (hkp b _ (Nat.ne_of_gt (Nat.lt_of_lt_of_le L.z' hb)) (Nat.ne_of_gt (Nat.lt_of_lt_of_le L.TO' hb)) (Nat.ne_of_gt (Nat.lt_of_lt_of_le L.i1' hb)) (Nat.ne_of_gt (Nat.lt_of_lt_of_le L.i2' hb)) e3)⟩
      · subst h1
        have hb : h.objs.size = b := by simpa using hj
        subst hb
        exact ⟨xs[i], ys[i], by rw [hal]; exact hx, by rw [hal]; exact hy, up _ _ (Nat.ne_of_gt hSl) ht⟩
      · have hnone : (as ++ [h.objs.size])[j]? = none := List.getElem?_eq_none (by rw [List.length_append, List.length_singleton]; omega)
        rw [hnone] at hj; cases hj
    · have e : (h'.update S (Obj.mapSeq (·.push (Value.ref h.objs.size)))).get? h.objs.size = _ := up _ _ (Nat.ne_of_gt hSl) ht
      exact Nat.le_trans hlo (Nat.le_of_lt (Heap.lt_size e))
end
end LmR

set_option Elab.async false
set_option linter.all false
set_option maxRecDepth 100000
set_option maxHeartbeats 2000000
namespace LmR
open PySem PySem.Spec PyProof.Rows L2 RZ
section
variable {prog : Program} {w : World} {A : Around} {E : Value → Shared → Prop} {s : Shared}
variable {z TI TO i1 i2 l1 l2 S lo : Addr} {xs ys : Array Value}
theorem zl_extend {R : Result → Shared → Prop} (hh : A.handled = none) (D : ZipApart z TI TO i1 i2 l1 l2) (L : ZLo z TI TO i1 i2 l1 l2 S lo) (hl : xs.size = ys.size) (hn : xs.size ≤ sizeLine) (res : Value) (c₀ : Nat) (hlo : lo ≤ s.heap.objs.size)
    (st : ZSt s.heap z TI TO i1 i2 l1 l2 S lo xs ys 0) (hz : IsZip s.heap z TI TO .none) (hS : s.heap.get? S = some { cls := .type "list", data := .seq #[] c₀ })
    (hR : ∀ h' tk acc c as, (∀ b o, b ≠ S → b ≠ z → b ≠ TO → b ≠ i1 → b ≠ i2 → s.heap.get? b = some o → h'.get? b = some o) → h'.get? S = some { cls := .type "list", dict := none, data := .seq acc c, slots := #[] } → as.length = xs.size → ZG xs ys lo h' as →
      acc.toList = as.map Value.ref → R (.ok (.ret res)) { s with heap := h', toks := tk }) :
    wpAny (model prog w) A.in1 (Builtin.List.listExtendWith (.ref S) (.ref z) res)
      (fun fin s' => match fin with | .done f => R (.ok f) s' | .again c' => c'.quiet = true ∧ codeAny (model prog w) A c' R s') (fun e s' => R (.error e) s') s := by
  have hT : s.TypeIs (.ref z) "zip" := ⟨_, hz, rfl⟩
  unfold Builtin.List.listExtendWith
  refine wpAny_bind (wpAny_typeOf hT ?_)
  have h1 : Builtin.List.listSameRef (.ref S) (.ref z) = false := by simp [Builtin.List.listSameRef, L.Sz]
  have h2 : (Value.type "zip" == Value.type "list") = false := by decide
  have h3 : (Value.type "zip" == Value.type "tuple") = false := by decide
  simp only [h1, h2, h3, Bool.or_false, Bool.false_eq_true, if_false]
  refine wpAny_bind (wpAny_pyIter_zip hz ?_)
  refine wpAny_bind (wpAny_holding ?_)
  unfold Builtin.List.listLengthHint
  refine wpAny_bind (wpAny_specialOf hT zip_no_len ?_)
  show wpAny _ A.in1 (specialOf (Value.ref z) (Str.ofString "__length_hint__") >>= _) _ _ _
  refine wpAny_bind (wpAny_specialOf hT zip_no_hint ?_)
  refine wpAny_pure ?_
  show wpAny _ A.in1 (rule "list.extend.makes-room" >>= fun _ => Builtin.List.listTouch (.ref S) >>= fun _ =>
    again (.builtin "list.extend.loop" ⟨[.ref S, .ref z, res], []⟩)) _ _ _
  refine wpAny_bind (wpAny_rule ?_)
  refine wpAny_bind ?_
  show wpAny _ A.in1 (updateSeq S (·.push .none) >>= fun _ => updateSeq S (·.pop)) _ _ _
  refine wpAny_bind (wpAny_updateSeq hS rfl ?_)
  have hS₂ := Heap.get?_update_self (Obj.mapSeq (·.push Value.none)) hS rfl
  refine wpAny_updateSeq (hz := by seq_fits) hS₂ rfl ?_
  have hS₃ := Heap.get?_update_self (Obj.mapSeq (·.pop)) hS₂ rfl
  have oth : ∀ b o, b ≠ S → s.heap.get? b = some o → ((s.heap.update S (Obj.mapSeq (·.push Value.none))).update S (Obj.mapSeq (·.pop))).get? b = some o :=
    fun b o hb e => (Heap.get?_update_other _ _ (Ne.symm hb)).trans ((Heap.get?_update_other _ _ (Ne.symm hb)).trans e)
  refine wpAny_pure ⟨plainId_quiet PySem.F.plain_extend_loop _, zl_loop (s := s) (h₁ := s.heap) hh D L hl hn res hR xs.size 0 _ s.toks _ #[] [] (Nat.sub_zero _) (Nat.zero_le _) (st.upd L oth) (fun b o h1 _ _ _ _ e => oth b o h1 e) hS₃ rfl rfl ⟨List.Pairwise.nil, (fun _ ha => nomatch ha), (fun j a hj => by simp at hj)⟩ ?_⟩
  have zz := oth z _ L.Sz.symm hz
  have e1 : ((s.heap.update S (Obj.mapSeq (·.push Value.none))).update S (Obj.mapSeq (·.pop))).objs.size = s.heap.objs.size := by
    first
      | (rw [Heap.size_update, Heap.size_update])
      | (simp [Heap.update])
  rw [e1]
  exact hlo
theorem zl_init {R : Result → Shared → Prop} (hh : A.handled = none) (D : ZipApart z TI TO i1 i2 l1 l2) (L : ZLo z TI TO i1 i2 l1 l2 S lo) (hl : xs.size = ys.size) (hn : xs.size ≤ sizeLine) (hlo : lo ≤ s.heap.objs.size)
    (st : ZSt s.heap z TI TO i1 i2 l1 l2 S lo xs ys 0) (hz : IsZip s.heap z TI TO .none) (hS : s.heap.get? S = some { cls := .type "list", data := .seq #[] })
    (hR : ∀ h' tk acc c as, (∀ b o, b ≠ S → b ≠ z → b ≠ TO → b ≠ i1 → b ≠ i2 → s.heap.get? b = some o → h'.get? b = some o) → h'.get? S = some { cls := .type "list", dict := none, data := .seq acc c, slots := #[] } → as.length = xs.size → ZG xs ys lo h' as →
      acc.toList = as.map Value.ref → R (.ok (.ret .none)) { s with heap := h', toks := tk }) :
    wpAny (model prog w) A.in1 (Builtin.«list.__init__» ⟨[.ref S, .ref z], []⟩)
      (fun fin s' => match fin with | .done f => R (.ok f) s' | .again c' => c'.quiet = true ∧ codeAny (model prog w) A c' R s') (fun e s' => R (.error e) s') s := by
  show wpAny _ _ (do let old ← Builtin.List.listItems (.ref S); Builtin.List.listUpdate (.ref S) (fun _ => #[]); letGo old.toList.reverse; Builtin.List.listExtendWith (.ref S) (.ref z) .none) _ _ s
  refine wpAny_bind ?_
  unfold Builtin.List.listItems
  refine wpAny_bind (wpAny_seqItems hS rfl (wpAny_pure ?_))
  show wpAny _ _ (updateSeq S (fun _ => #[]) >>= fun _ => letGo (#[] : Array Value).toList.reverse >>= fun _ => Builtin.List.listExtendWith (.ref S) (.ref z) .none) _ _ s
  refine wpAny_bind (wpAny_updateSeq hS rfl ?_)
  have hS₂ := Heap.get?_update_self (Obj.mapSeq (fun _ => (#[] : Array Value))) hS rfl
  have oth : ∀ b o, b ≠ S → s.heap.get? b = some o → (s.heap.update S (Obj.mapSeq (fun _ => (#[] : Array Value)))).get? b = some o :=
    fun b o hb e => (Heap.get?_update_other _ _ (Ne.symm hb)).trans e
  refine wpAny_bind (wpAny_letGo ?_)
  have e1 : (s.heap.update S (Obj.mapSeq (fun _ => (#[] : Array Value)))).objs.size = s.heap.objs.size := by
    first
      | (rw [Heap.size_update])
      | (simp [Heap.update])
  refine zl_extend hh D L hl hn .none _ (by show lo ≤ (s.heap.update S _).objs.size; rw [e1]; exact hlo) (st.upd L oth) (oth z _ L.Sz.symm hz) hS₂ (fun h' tk acc c as hk hS' hl' hG hacc => ?_)
  exact hR h' tk acc c as (fun b o h1 h2 h3 h4 h5 e => hk b o h1 h2 h3 h4 h5 (oth b o h1 e)) hS' hl' hG hacc
theorem zl_call {Q : Value → Shared → Prop} (hh : A.handled = none) (D : ZipApart z TI TO i1 i2 l1 l2) (hl : xs.size = ys.size) (hn : xs.size ≤ sizeLine)
    (hz : IsZip s.heap z TI TO .none) (hTI : IsPair s.heap TI (.ref i1) (.ref i2)) (hTO : ∃ a b, IsPair s.heap TO a b) (h1 : s.heap.IsTupleIter i1 l1 0) (h2 : s.heap.IsTupleIter i2 l2 0) (hl1 : s.heap.IsTuple l1 xs) (hl2 : s.heap.IsTuple l2 ys)
    (hQ : ∀ h' tk acc c as, (∀ b o, b ≠ z → b ≠ TO → b ≠ i1 → b ≠ i2 → s.heap.get? b = some o → h'.get? b = some o) → h'.get? s.heap.objs.size = some { cls := .type "list", dict := none, data := .seq acc c, slots := #[] } → as.length = xs.size → ZG xs ys (s.heap.objs.size + 1) h' as →
      acc.toList = as.map Value.ref → Q (.ref s.heap.objs.size) { s with heap := h', toks := tk }) :
    wpAny (model prog w) A (call (.type "list") [.ref z]) Q E s := by
  refine callType_codes (Q₁ := fun obj s₁ => obj = .ref s.heap.objs.size ∧ s₁ = { s with heap := s.heap.push { cls := .type "list", data := .seq #[] } }) PySem.F.called_list (PySem.F.typeCall_list_1 _) PySem.F.entry_list_init
    (code_list_new _ ⟨rfl, rfl⟩) fun obj s₁ h₁ => ?_
  obtain ⟨rfl, rfl⟩ := h₁
  have hS : (s.heap.push { cls := .type "list", data := .seq #[] }).get? s.heap.objs.size = some { cls := .type "list", data := .seq #[] } := Heap.get?_push_size _ rfl
  have kp : ∀ b o, s.heap.get? b = some o → (s.heap.push { cls := .type "list", data := .seq #[] }).get? b = some o := fun b o e => Heap.get?_push_of_some _ e
  have lz := Heap.lt_size hz
  have lTI := Heap.lt_size hTI
  obtain ⟨ta, tb, hTO'⟩ := hTO
  have lTO := Heap.lt_size hTO'
  have li1 : i1 < s.heap.objs.size := let ⟨_, e, _⟩ := h1; Heap.lt_size e
  have li2 : i2 < s.heap.objs.size := let ⟨_, e, _⟩ := h2; Heap.lt_size e
  have ll1 : l1 < s.heap.objs.size := let ⟨_, e, _⟩ := hl1; Heap.lt_size e
  have ll2 : l2 < s.heap.objs.size := let ⟨_, e, _⟩ := hl2; Heap.lt_size e
  have L : ZLo z TI TO i1 i2 l1 l2 s.heap.objs.size (s.heap.objs.size + 1) := ⟨Nat.lt_succ_of_lt lz, Nat.lt_succ_of_lt lTI, Nat.lt_succ_of_lt lTO, Nat.lt_succ_of_lt li1, Nat.lt_succ_of_lt li2, Nat.lt_succ_of_lt ll1, Nat.lt_succ_of_lt ll2, Nat.lt_succ_self _,
    Nat.ne_of_gt lz, Nat.ne_of_gt lTI, Nat.ne_of_gt lTO, Nat.ne_of_gt li1, Nat.ne_of_gt li2, Nat.ne_of_gt ll1, Nat.ne_of_gt ll2⟩
  have st : ZSt (s.heap.push { cls := .type "list", data := .seq #[] }) z TI TO i1 i2 l1 l2 s.heap.objs.size (s.heap.objs.size + 1) xs ys 0 :=
    ⟨.inl ⟨rfl, kp _ _ hz, ta, tb, kp _ _ hTO'⟩, kp _ _ hTI, h1.at fun o e => kp _ _ e, h2.at fun o e => kp _ _ e, tup_keep hl1 fun o e => kp _ _ e, tup_keep hl2 fun o e => kp _ _ e⟩
  refine ⟨⟨_, hS, rfl⟩, PySem.F.args_list_init_2 _ _, zl_init (A := A.in1) hh D L hl hn (by show s.heap.objs.size + 1 ≤ (s.heap.push _).objs.size; rw [Heap.size_push]; exact Nat.le_refl _) st (kp _ _ hz) hS (fun h' tk acc c as hk hS' hl' hG hacc => ?_)⟩
  exact ⟨rfl, hQ h' tk acc c as (fun b o c1 c2 c3 c4 e => hk b o (Nat.ne_of_lt (Heap.lt_size e)) c1 c2 c3 c4 (kp b o e)) hS' hl' hG hacc⟩
end
/-! ### the rule -/
/-- pairs tracked at their addresses -/
def putZ : Hp → List Addr → List (V × V) → Hp
  | H, a :: as, p :: ps => putZ (upd H a (.tup [p.1, p.2])) as ps
  | H, _, _ => H
theorem putZ_off {b : Addr} : ∀ (as : List Addr) (ps : List (V × V)) (H : Hp), b ∉ as → putZ H as ps b = H b
  | [], _, _, _ => rfl
  | _ :: _, [], _, _ => rfl
  | a :: as, p :: ps, H, h => by
    show putZ (upd H a (.tup [p.1, p.2])) as ps b = H b
    rw [putZ_off as ps _ (fun z => h (List.mem_cons_of_mem _ z)), upd_ne (fun z => h (by rw [z]; exact List.mem_cons_self))]
theorem putZ_at : ∀ (as : List Addr) (ps : List (V × V)) (H : Hp) (j : Nat) (a : Addr) (p : V × V), as.Nodup → as[j]? = some a → ps[j]? = some p → putZ H as ps a = some (.tup [p.1, p.2])
  | [], _, _, j, _, _, _, h, _ => by simp at h
  | _ :: _, [], _, j, _, _, _, _, h => by simp at h
  | a :: as, p :: ps, H, 0, b, q, nd, h1, h2 => by
    have e1 : a = b := Option.some.inj h1
    have e2 : p = q := Option.some.inj h2
    subst e1 e2
    show putZ (upd H a (.tup [p.1, p.2])) as ps a = some (.tup [p.1, p.2])
    rw [putZ_off as ps _ (List.nodup_cons.mp nd).1, upd_same]
  | a :: as, p :: ps, H, j + 1, b, q, nd, h1, h2 => putZ_at as ps _ j b q (List.nodup_cons.mp nd).2 h1 h2
/-- list(zip(t, u)) of two tuples of one length -/
def tListZip (K : PySem.W.Frag) (ta : TA) : TE := fun σ H Q => ta σ H fun vs H1 => ∃ (a b : Addr) (xs ys : List V), vs = [.ref a, .ref b] ∧ SqT K H1 a xs ∧ SqT K H1 b ys ∧ xs.length = ys.length ∧
  ∀ (H' : Hp) (p : Addr) (ts : List Addr), Same H1 H' → H1 p = none → (∀ t ∈ ts, H1 t = none) → H' p = some (.lst (ts.map V.ref)) → ts.length = xs.length →
    (∀ (j : Nat) (t : Addr), ts[j]? = some t → ∃ x y, xs[j]? = some x ∧ ys[j]? = some y ∧ H' t = some (.tup [x, y])) → Q (.ref p) H'
section
variable {X : Cx}
theorem pe_listZip {e e2 : Expr} {ta : TA} {p p2 pos pos2 : Pos} (hc : X.calm = true) (hgl : Gl X "list") (hml : X.mg "list" = none) (hgz : Gl X "zip") (hmz : X.mg "zip" = none) (ha : PA X [e, e2] ta)
    (hs : starEach [e, e2] X.env = (false, eval e X.env) :: starEach [e2] X.env := by rfl) (hpl : (backTo pos2 (starEach [e2] X.env)).any (·.1) = false := by rfl)
    (hs2 : starEach [.Call (.Name "zip" p2) [e, e2] [] pos2] X.env = (false, eval (.Call (.Name "zip" p2) [e, e2] [] pos2) X.env) :: starEach [] X.env := by rfl) :
    PE X (.Call (.Name "list" p) [.Call (.Name "zip" p2) [e, e2] [] pos2] [] pos) (tListZip X.K ta) := by
  refine ⟨fun pins s σ H Q I h => ?_⟩
  refine wpAny_Call_Name_kw (ld_blt I hgl hml PyProof.Rows.boot_list ?_)
  refine PyProof.Rows.callWith_type1 ?_ hs2 rfl
  rw [hs2]
  show wpAny _ _ (spliced ((false, eval (.Call (.Name "zip" p2) [e, e2] [] pos2) X.env) :: backTo pos (starEach [] X.env))) _ _ s
  refine Calls.spliced_cons ?_
  refine Call_ (ld_blt I hgz hmz PyProof.Rows.boot_zip (PyProof.Rows.callWith_type1 (thn (ha.run pos2 pins s σ H _ I h) fun us s1 ⟨vs, H1, I1, r1, q1⟩ => ?_) hs hpl))
  obtain ⟨a, b, xs, ys, ex, hqx, hqy, hxy, q⟩ := q1
  subst ex
  cases r1 with
  | cons r rr =>
    cases rr with
    | cons r' rr =>
      cases rr
      cases r
      cases r'
      obtain ⟨its, rv, p1, hz1⟩ := I1.tuple hqx
      obtain ⟨its2, rv2, p2', _⟩ := I1.tuple hqy
      obtain ⟨o1, ho1, _⟩ := id p1
      obtain ⟨o2, ho2, _⟩ := id p2'
      have e1 := rv.length
      have e2 := rv2.length
      refine call_zipT (show s1.heap.IsTuple a its.toArray from p1) (show s1.heap.IsTuple b its2.toArray from p2') fun h' hz hTI hTO h1 h2 hsz hk => ?_
      refine Calls.spliced_nil ?_
      have D := PySem.W.ktu_apart s1.heap.objs.size a b (Heap.lt_size ho1) (Heap.lt_size ho2)
      refine zl_call (s := { s1 with heap := h' }) (xs := its.toArray) (ys := its2.toArray) (I1.ok.hd hc) D (by rw [List.size_toArray, List.size_toArray]; omega) (by rw [List.size_toArray]; omega) hz hTI ⟨_, _, hTO⟩ h1 h2 (tup_keep p1 fun o q => hk _ _ q) (tup_keep p2' fun o q => hk _ _ q) fun h2' tk acc c as hkk hS hl hG hacc => ?_
      have lo : ∀ b o, s1.heap.get? b = some o → h2'.get? b = some o := fun b o q => by
        have lb := Heap.lt_size q
        exact hkk b o (fun z => by rw [z] at lb; exact absurd lb (Nat.not_lt.mpr (Nat.le_add_right _ _))) (fun z => by rw [z] at lb; exact absurd lb (Nat.not_lt.mpr (Nat.le_add_right _ _))) (fun z => by rw [z] at lb; exact absurd lb (Nat.lt_irrefl _)) (fun z => by rw [z] at lb; exact absurd lb (Nat.not_lt.mpr (Nat.le_add_right _ _))) (hk b o q)
      have hsz' : h'.objs.size = s1.heap.objs.size + 5 := hsz
      have hal : as.length = xs.length := by
        rw [hl, List.size_toArray]
        omega
      have nd : as.Nodup := List.Pairwise.imp (fun {a b} (h : a < b) => Nat.ne_of_lt h) hG.rise
      have big : ∀ t ∈ as, h'.objs.size < t := fun t ht => hG.above t ht
      have hSn : h'.objs.size ∉ as := fun z => Nat.lt_irrefl _ (big _ z)
      have new : ∀ t ∈ as, H1 t = none := fun t ht => I1.hok.fresh (by have := big t ht; rw [hsz'] at this; exact Nat.le_of_lt (Nat.lt_of_le_of_lt (Nat.le_add_right _ _) this))
      have newS : H1 h'.objs.size = none := I1.hok.fresh (by rw [hsz']; exact Nat.le_add_right _ _)
      have lk : ∀ b o, s1.heap.get? b = some o → b ∉ as ∧ b ≠ h'.objs.size := fun b o q => by
        have lb := Heap.lt_size q
        refine ⟨fun z => ?_, fun z => ?_⟩
        · have := big b z
          rw [hsz'] at this
          exact absurd lb (Nat.not_lt.mpr (Nat.le_trans (Nat.le_add_right _ 5) (Nat.le_of_lt this)))
        · rw [z, hsz'] at lb
          exact absurd lb (Nat.not_lt.mpr (Nat.le_add_right _ _))
      have off : ∀ b, b ∉ as → b ≠ h'.objs.size → putZ (upd H1 h'.objs.size (.lst (as.map V.ref))) as (xs.zip ys) b = H1 b := fun b h1 h2 => by rw [putZ_off as _ _ h1, upd_ne h2]
      have kp : ∀ b u, H1 b = some u → putZ (upd H1 h'.objs.size (.lst (as.map V.ref))) as (xs.zip ys) b = some u := fun b u e => by
        rw [off b (fun z => by rw [new b z] at e; cases e) (fun z => by rw [z, newS] at e; cases e)]
        exact e
      have eS : putZ (upd H1 h'.objs.size (.lst (as.map V.ref))) as (xs.zip ys) h'.objs.size = some (.lst (as.map V.ref)) := by rw [putZ_off as _ _ hSn, upd_same]
      have prs : ∀ (j : Nat) (t : Addr), as[j]? = some t → ∃ x y u1 u2, xs[j]? = some x ∧ ys[j]? = some y ∧ RelV x u1 ∧ RelV y u2 ∧ IsPair h2' t u1 u2 ∧ putZ (upd H1 h'.objs.size (.lst (as.map V.ref))) as (xs.zip ys) t = some (.tup [x, y]) := fun j t ht => by
        obtain ⟨u1, u2, f1, f2, f3⟩ := hG.pairs j t ht
        have hj : j < xs.length := by
          have := (List.getElem?_eq_some_iff.mp ht).1
          omega
        have hj2 : j < ys.length := by omega
        have g1 : xs[j]? = some xs[j] := List.getElem?_eq_getElem hj
        have g2 : ys[j]? = some ys[j] := List.getElem?_eq_getElem hj2
        obtain ⟨w1, k1, r1⟩ := rv.get g1
        obtain ⟨w2, k2, r2⟩ := rv2.get g2
        have m1 : u1 = w1 := by
          rw [List.getElem?_toArray, k1] at f1
          exact (Option.some.inj f1).symm
        have m2 : u2 = w2 := by
          rw [List.getElem?_toArray, k2] at f2
          exact (Option.some.inj f2).symm
        subst m1 m2
        refine ⟨xs[j], ys[j], u1, u2, g1, g2, r1, r2, f3, ?_⟩
        exact putZ_at as (xs.zip ys) _ j t (xs[j], ys[j]) nd ht (by rw [List.getElem?_zip_eq_some]; exact ⟨g1, g2⟩)
      refine ⟨.ref _, putZ (upd H1 h'.objs.size (.lst (as.map V.ref))) as (xs.zip ys), ?_, rfl, q _ _ as kp newS new eS hal fun j t ht => ?_⟩
      · have Ik : Inv X pins σ H1 { s1 with heap := h2', toks := tk } := I1.kept (t' := tk) lo
        refine I1.call' (ch := []) rfl ⟨fun b o q _ _ _ => lo b o q, fun b o q _ _ _ => ⟨o.slots, lo b o q⟩, fun b o q n _ => ?_, fun b o q _ => ⟨o, lo b o q⟩, fun b zs q => kp b _ q, fun b o u q => kp b _ q, fun b ps q => ⟨#[], by rw [kp b _ q]; simp⟩⟩ (fun b u q => ?_) I1.bare fun b z => by simp at z
        · obtain ⟨z1, z2⟩ := lk b o q
          rw [off b z1 z2]
          exact n
        · by_cases hb : b ∈ as
          · obtain ⟨j, hj⟩ := List.mem_iff_getElem?.mp hb
            obtain ⟨x, y, u1, u2, _, _, r1, r2, f3, e⟩ := prs j b hj
            rw [e] at q
            cases q
            exact ⟨by show 2 ≤ sizeLine; decide, [u1, u2], .cons r1 (.cons r2 .nil), ⟨_, f3, rfl, _, rfl⟩⟩
          · by_cases hb2 : b = h'.objs.size
            · rw [hb2] at q ⊢
              rw [eS] at q
              cases q
              refine ⟨by rw [List.length_map]; omega, acc.toList, c, by rw [hacc]; exact (let rec go : ∀ as : List Addr, Vals (as.map V.ref) (as.map Value.ref) | [] => .nil | _ :: as => .cons rfl (go as); go as), ?_⟩
              rw [Array.toArray_toList]
              exact hS
            · rw [off b hb hb2] at q
              exact (I1.hok b u q).stay (fun d v _ y => lo d v y) (fun d y => kp d _ y) fun d xs y => kp d _ y
      · obtain ⟨x, y, _, _, g1, g2, _, _, _, e⟩ := prs j t ht
        exact ⟨x, y, g1, g2, e⟩
end
end LmR

set_option Elab.async false
set_option linter.all false
set_option maxRecDepth 100000
set_option maxHeartbeats 2000000
namespace Lm
open PySem PySem.Spec PyProof.Rows L2 LmR
/-! ### defs of the text, callable -/
/-- the def st stands in the text under the name x -/
def DefAt (K : PySem.W.Frag) (mg : Str → Option Value) (x : Str) (st : Stmt) (ps : List Str) : Prop := ∃ f fd, Fun K x x st f fd ∧ Binds K fd ps [] ∧ mg x = some (.ref f)
/-- what stands under the name x keeps sp, by at most level k -/
def Cal (P : Program) (w : World) (K : PySem.W.Frag) (mg : Str → Option Value) (base : Heap) (k : Nat) (x : Str) (ps : List Str) (sp : Sp) : Prop :=
  ∃ f fd, FnOk P w K mg base CX0 k f fd ps sp ∧ mg x = some (.ref f) ∧ PySem.W.keepIn K (.ref f) = true ∧ Binds K fd ps []
section
variable {P : Program} {w : World} {K : PySem.W.Frag} {mg : Str → Option Value} {base : Heap}
theorem Cal.mono {j k : Nat} {x : Str} {ps : List Str} {sp : Sp} (c : Cal P w K mg base j x ps sp) (h : j ≤ k) : Cal P w K mg base k x ps sp := by
  obtain ⟨f, fd, F, g, kp, b⟩ := c
  exact ⟨f, fd, F.mono h, g, kp, b⟩
theorem Cal.weak {k : Nat} {x : Str} {ps : List Str} {sp sp' : Sp} (c : Cal P w K mg base k x ps sp) (h : ∀ vs H Q E, sp' vs H Q E → sp vs H Q E) : Cal P w K mg base k x ps sp' := by
  obtain ⟨f, fd, F, g, kp, b⟩ := c
  exact ⟨f, fd, ⟨fun vs H Q E z => F.len vs H Q E (h vs H Q E z), fun A outer s H args us vs Q E r e b v z => F.run A outer s H args us vs Q E r e b v (h vs H Q E z)⟩, g, kp, b⟩
theorem cal_of {x : Str} {st : Stmt} {N ps : List Str} {k : Nat} {sp : Sp} (D : DefAt K mg x st ps) (S : FnScope N ps (defScope st)) (len : ∀ vs H Q E, sp vs H Q E → vs.length = ps.length)
    (hbody : ∀ (f : Addr) (cdv : Value) (A : Around) (outer : List Env) (s : Shared) (H : Hp) (vs : List V) (Q : VK) (E : XK), Room k (A.deeper (envOfC x (defScope st) s.heap.objs.size f cdv)) → sp vs H Q E →
      ∃ t, PSs (cxOf CX0 P w K mg base N x (defScope st) f cdv A outer s H E).nox (defBody st) t ∧ t { nx := fun _ H' => Q .non H', rt := Q } (start N vs) H) : Cal P w K mg base (k + 1) x ps sp := by
  obtain ⟨f, fd, F, b, g⟩ := D
  exact ⟨f, fd, F.ok S len (hbody f), g, F.kp, b⟩
/-- nothing is asked: no call is allowed -/
theorem cal_no {x : Str} {st : Stmt} {ps : List Str} {sp : Sp} (D : DefAt K mg x st ps) (no : ∀ vs H Q E, ¬ sp vs H Q E) {k : Nat} : Cal P w K mg base k x ps sp := by
  obtain ⟨f, fd, F, b, g⟩ := D
  exact ⟨f, fd, ⟨fun vs H Q E h => absurd h (no vs H Q E), fun A outer s H args us vs Q E _ _ _ _ h => absurd h (no vs H Q E)⟩, g, F.kp, b⟩
end
/-- f(e, ..) -/
theorem pe_cal {X : Cx} {k : Nat} {x : Str} {ps : List Str} {sp : Sp} {e : Expr} {es : List Expr} {t : TA} {p pos : Pos} (C : Cal X.prog X.w X.K X.mg X.base k x ps sp) (hr : Room k X.A) (hg : Gl X x) (ha : PA X (e :: es) t)
    (hdb : (x == ("__debug__" : Str)) = false := by decide) (he : starEach (e :: es) X.env = (false, eval e X.env) :: starEach es X.env := by rfl) (hpl : (backTo pos (starEach es X.env)).any (·.1) = false := by rfl) :
    PE X (.Call (.Name x p) (e :: es) [] pos) (tCall sp [] (fun _ _ _ => False) t) := by
  obtain ⟨f, fd, F, g, kp, b⟩ := C
  exact pe_call F hr hg g kp b .nil pass0 ha hdb he hpl
/-- the built-ins that the text names and no one has rebound -/
structure Bt (mg : Str → Option Value) : Prop where
  len : mg "len" = none
  isinstance : mg "isinstance" = none
  tuple : mg "tuple" = none
  list : mg "list" = none
  str : mg "str" = none
  int : mg "int" = none
  bool : mg "bool" = none
  range : mg "range" = none
  zip : mg "zip" = none
  enumerate : mg "enumerate" = none
  reversed : mg "reversed" = none
  max : mg "max" = none
  all : mg "all" = none
  min : mg "min" = none
  sum : mg "sum" = none
  any : mg "any" = none
  sorted : mg "sorted" = none
  set : mg "set" = none
  repr : mg "repr" = none
  abs : mg "abs" = none
/-! ### heaps -/
/-- all that was tracked is as it was, but what stands at ws -/
def Ex (ws : List Addr) (H H' : Hp) : Prop := ∀ b o, H b = some o → b ∉ ws → H' b = some o
theorem Ex.refl (ws : List Addr) (H : Hp) : Ex ws H H := fun _ _ h _ => h
theorem Ex.trans {ws : List Addr} {H H1 H2 : Hp} (a : Ex ws H H1) (b : Ex ws H1 H2) : Ex ws H H2 := fun c o h n => b c o (a c o h n) n
theorem Ex.mono {ws us : List Addr} {H H' : Hp} (a : Ex ws H H') (h : ∀ b ∈ ws, b ∈ us) : Ex us H H' := fun c o e n => a c o e fun m => n (h c m)
theorem Ex.of_same {ws : List Addr} {H H' : Hp} (a : Same H H') : Ex ws H H' := fun c o e _ => a c o e
theorem Ex.same {H H' : Hp} (a : Ex [] H H') : Same H H' := fun c o e => a c o e (by simp)
theorem Ex.new {ws : List Addr} {H : Hp} {p : Addr} {o : HO} (h : H p = none) : Ex ws H (upd H p o) := fun b u q _ => by rw [upd_ne (ne_of_none q h)]; exact q
theorem Ex.at {ws : List Addr} {H : Hp} {p : Addr} {o : HO} (h : p ∈ ws) : Ex ws H (upd H p o) := fun b u q n => by rw [upd_ne (fun z => n (by rw [z]; exact h))]; exact q
theorem same_new {H : Hp} {p : Addr} {o : HO} (h : H p = none) : Same H (upd H p o) := fun b u q => by rw [upd_ne (ne_of_none q h)]; exact q
theorem Ex.free {ws : List Addr} {H H' : Hp} (a : Ex ws H H') {p : Addr} (h : H' p = none) (n : p ∉ ws) : H p = none := by
  cases q : H p with
  | none => rfl
  | some o =>
    rw [a p o q n] at h
    cases h
theorem Ex.ne {ws : List Addr} {H H' : Hp} (a : Ex ws H H') {p q : Addr} {o : HO} (h : H q = some o) (hq : q ∉ ws) (hp : H' p = none) : q ≠ p := fun z => by
  rw [← z, a q o h hq] at hp
  cases hp
theorem small {n : Nat} (h : n ≤ 100000) : n ≤ sizeLine := Nat.le_trans h (by decide)
theorem smallL {n : Nat} (h : n ≤ 100000) : n < sizeLine := Nat.lt_of_le_of_lt h (by decide)
/-! ### data: None, truths, ints, texts, tuples of these -/
/-- without lists and dicts -/
def flat : PyData → Bool
  | .none => true
  | .bool _ => true
  | .int _ => true
  | .str _ => true
  | .list _ => false
  | .tuple xs => flats xs
  | .dict _ => false
where flats : List PyData → Bool
  | [] => true
  | d :: ds => flat d && flats ds
/-- the tuples that were there are there -/
def Tp (K : PySem.W.Frag) (H H' : Hp) : Prop := ∀ a xs, SqT K H a xs → SqT K H' a xs
theorem Ex.tp {K : PySem.W.Frag} {ws : List Addr} {H H' : Hp} (a : Ex ws H H') (h : ∀ b ∈ ws, ∀ xs, ¬ Rd H b (.tup xs)) : Tp K H H' := fun b xs q => by
  rcases q with (q | ⟨o, q⟩) | q
  · exact .inl (.inl (a b _ q fun m => h b m xs (.inl q)))
  · exact .inl (.inr ⟨o, a b _ q fun m => h b m xs (.inr ⟨o, q⟩)⟩)
  · exact .inr q
theorem Tp.refl (K : PySem.W.Frag) (H : Hp) : Tp K H H := fun _ _ h => h
theorem Tp.trans {K : PySem.W.Frag} {H H1 H2 : Hp} (a : Tp K H H1) (b : Tp K H1 H2) : Tp K H H2 := fun c xs h => b c xs (a c xs h)
theorem Tp.same {K : PySem.W.Frag} {H H' : Hp} (a : Same H H') : Tp K H H' := fun b xs q => by
  rcases q with (q | ⟨o, q⟩) | q
  · exact .inl (.inl (a b _ q))
  · exact .inl (.inr ⟨o, a b _ q⟩)
  · exact .inr q
/-- a list (or dict) that is written -/
theorem Tp.put {K : PySem.W.Frag} {H : Hp} {p : Addr} {o o' : HO} (h : H p = some o) (n1 : ∀ xs, o ≠ .tup xs) (n2 : ∀ u v, o ≠ .frz u v) : Tp K H (upd H p o') := fun b xs q => by
  rcases q with (q | ⟨u, q⟩) | q
  · have nb : b ≠ p := fun z => by
      rw [z, h] at q
      exact n1 xs (Option.some.inj q)
    exact .inl (.inl (by rw [upd_ne nb]; exact q))
  · have nb : b ≠ p := fun z => by
      rw [z, h] at q
      exact n2 _ _ (Option.some.inj q)
    exact .inl (.inr ⟨u, by rw [upd_ne nb]; exact q⟩)
  · exact .inr q
theorem Tp.lst {K : PySem.W.Frag} {H : Hp} {p : Addr} {xs : List V} {o' : HO} (h : H p = some (.lst xs)) : Tp K H (upd H p o') := Tp.put h (fun _ z => nomatch z) (fun _ _ z => nomatch z)
theorem Tp.dct {K : PySem.W.Frag} {H : Hp} {p : Addr} {xs : List (Key × V)} {o' : HO} (h : H p = some (.dK xs)) : Tp K H (upd H p o') := Tp.put h (fun _ z => nomatch z) (fun _ _ z => nomatch z)
theorem Tp.new {K : PySem.W.Frag} {H : Hp} {p : Addr} {o : HO} (h : H p = none) : Tp K H (upd H p o) := Tp.same (same_new h)
mutual
theorem dp_keep {K : PySem.W.Frag} {H H' : Hp} (t : Tp K H H') : ∀ (d : PyData) (v : V), flat d = true → Dp K H v d → Dp K H' v d
  | .none, _, _, h => by cases h; exact .non
  | .bool b, _, _, h => by cases h; exact .bl b
  | .int i, _, _, h => by cases h; exact .int i
  | .str x, _, _, h => by cases h; exact .str x
  | .list ds, _, f, _ => by simp [flat] at f
  | .tuple ds, _, f, h => by
    cases h with
    | tup q r => exact .tup (t _ _ q) (dps_keep t ds _ f r)
  | .dict ds, _, f, _ => by simp [flat] at f
theorem dps_keep {K : PySem.W.Frag} {H H' : Hp} (t : Tp K H H') : ∀ (ds : List PyData) (vs : List V), flat.flats ds = true → DpAll K H vs ds → DpAll K H' vs ds
  | [], _, _, h => by cases h; exact .nil
  | d :: ds, _, f, h => by
    rw [flat.flats, Bool.and_eq_true] at f
    cases h with
    | cons a b => exact .cons (dp_keep t d _ f.1 a) (dps_keep t ds _ f.2 b)
end
/-- flat data at v -/
def Fd (K : PySem.W.Frag) (H : Hp) (v : V) (d : PyData) : Prop := flat d = true ∧ Dp K H v d
theorem Fd.keep {K : PySem.W.Frag} {H H' : Hp} {v : V} {d : PyData} (h : Fd K H v d) (t : Tp K H H') : Fd K H' v d := ⟨h.1, dp_keep t d v h.1 h.2⟩
/-! ### rules within a comprehension: the written part by its name -/
section
variable {X : Cx} {K : PySem.W.Frag}
theorem ix_tupK (h : X.K = K) : IxR X (rIxT K) := h ▸ ix_tup
theorem ix_listK (h : X.K = K) : IxR X (rIxL K) := h ▸ ix_list
def rLenK (K : PySem.W.Frag) : List V → Hp → VK → Prop := fun xs H Q => ∃ p ys, xs = [.ref p] ∧ (SqL K H p ys ∨ SqT K H p ys) ∧ Q (.int ys.length) H
theorem call_len_seqK (h : X.K = K) : CallR X (.builtin "len") (rLenK K) := h ▸ call_len_seq
theorem pe_bm0K {T : String} {name : Str} {id : String} {r : V → List V → Hp → VK → Prop} {o : Expr} {to : TE} {apos cpos : Pos} (h : X.K = K) (pa : PlainAttrs T) (slot : Slot T name id) (hty : typeOf (.builtin id) = pure (.type "method_descriptor")) (hm : MtR X id r) (ho : PE X o to)
    (hbase : attributeBase o name X.env (eval o X.env) = eval o X.env := by rfl) (hline : (apos.endLine == cpos.line) = true := by rfl) : PE X (.Call (.Attribute o name apos) [] [] cpos) (tBM0 K T r to) := h ▸ pe_bm0 pa slot hty hm ho hbase hline
end
end Lm

set_option Elab.async false
set_option linter.all false
set_option maxRecDepth 100000
set_option maxHeartbeats 2000000
namespace Lm
open PySem PySem.Spec PyProof.Rows L2 LmR
/-! ### programs -/
inductive Bw where
  | least
  | most
  | atmost
  | both
  | either
def Bw.str : Bw → Str
  | .least => "least"
  | .most => "most"
  | .atmost => "atmost"
  | .both => "both"
  | .either => "either"
/-- the kind due to its parts; its own (true: truth) -/
def Bw.arg : Bw → Bool
  | .least => false
  | .most => false
  | .atmost => false
  | .both => true
  | .either => true
def Bw.own : Bw → Bool
  | .least => false
  | .most => false
  | .atmost => true
  | .both => true
  | .either => true
inductive Pg where
  | inp (k : Nat)
  | num (c : Int)
  | tr (b : Bool)
  | plus (c : Int) (a : Pg)
  | bin (w : Bw) (a b : Pg)
  | neg (a : Pg)
  | ite (p a b : Pg)
def trS : Bool → Str
  | true => "yes"
  | false => "no"
def kS : Bool → Str
  | true => "truth"
  | false => "num"
def word : Pg → Str
  | .inp _ => "in"
  | .num _ => "num"
  | .tr b => trS b
  | .plus _ _ => "plus"
  | .bin w _ _ => w.str
  | .neg _ => "not"
  | .ite _ _ _ => "if"
def enc : Pg → PyData
  | .inp k => .tuple [.str "in", .int k]
  | .num c => .tuple [.str "num", .int c]
  | .tr b => .tuple [.str (trS b)]
  | .plus c a => .tuple [.str "plus", .int c, enc a]
  | .bin w a b => .tuple [.str w.str, enc a, enc b]
  | .neg a => .tuple [.str "not", enc a]
  | .ite p a b => .tuple [.str "if", enc p, enc a, enc b]
theorem flat_enc : ∀ p : Pg, flat (enc p) = true
  | .inp _ => rfl
  | .num _ => rfl
  | .tr _ => rfl
  | .plus c a => by simp [enc, flat, flat.flats, flat_enc a]
  | .bin w a b => by simp [enc, flat, flat.flats, flat_enc a, flat_enc b]
  | .neg a => by simp [enc, flat, flat.flats, flat_enc a]
  | .ite p a b => by simp [enc, flat, flat.flats, flat_enc a, flat_enc b, flat_enc p]
/-- its kind by itself -/
def own (ks : List Bool) : Pg → Bool
  | .inp k => ks.getD k false
  | .num _ => false
  | .tr _ => true
  | .plus _ _ => false
  | .bin w _ _ => w.own
  | .neg _ => true
  | .ite _ a _ => own ks a
/-- it is let by -/
def Wk (ks : List Bool) : Pg → Prop
  | .inp k => k < ks.length
  | .num _ => True
  | .tr _ => True
  | .plus _ a => Wk ks a ∧ own ks a = false
  | .bin w a b => Wk ks a ∧ Wk ks b ∧ own ks a = w.arg ∧ own ks b = w.arg
  | .neg a => Wk ks a ∧ own ks a = true
  | .ite p a b => Wk ks p ∧ Wk ks a ∧ Wk ks b ∧ own ks p = true ∧ own ks b = own ks a
def parts : Pg → List Pg
  | .inp _ => []
  | .num _ => []
  | .tr _ => []
  | .plus _ a => [a]
  | .bin _ a b => [a, b]
  | .neg a => [a]
  | .ite p a b => [p, a, b]
def psz : Pg → Nat
  | .inp _ => 1
  | .num _ => 1
  | .tr _ => 1
  | .plus _ a => psz a + 1
  | .bin _ a b => psz a + psz b + 1
  | .neg a => psz a + 1
  | .ite p a b => psz p + psz a + psz b + 1
def dep : Pg → Nat
  | .inp _ => 1
  | .num _ => 1
  | .tr _ => 1
  | .plus _ a => dep a + 1
  | .bin _ a b => max (dep a) (dep b) + 1
  | .neg a => dep a + 1
  | .ite p a b => max (dep p) (max (dep a) (dep b)) + 1
def kn : Pg → List Pg
  | .inp k => [.inp k]
  | .num c => [.num c]
  | .tr b => [.tr b]
  | .plus c a => .plus c a :: kn a
  | .bin w a b => .bin w a b :: (kn a ++ kn b)
  | .neg a => .neg a :: kn a
  | .ite p a b => .ite p a b :: (kn p ++ (kn a ++ kn b))
theorem kn_len : ∀ p : Pg, (kn p).length = psz p
  | .inp _ => rfl
  | .num _ => rfl
  | .tr _ => rfl
  | .plus c a => by simp [kn, psz, kn_len a]
  | .bin w a b => by simp [kn, psz, kn_len a, kn_len b]
  | .neg a => by simp [kn, psz, kn_len a]
  | .ite p a b => by simp [kn, psz, kn_len a, kn_len b, kn_len p]; omega
theorem psz_pos (p : Pg) : 1 ≤ psz p := by cases p <;> simp [psz]
theorem dep_pos (p : Pg) : 1 ≤ dep p := by cases p <;> simp [dep]
theorem dep_le : ∀ p : Pg, dep p ≤ psz p
  | .inp _ => Nat.le_refl _
  | .num _ => Nat.le_refl _
  | .tr _ => Nat.le_refl _
  | .plus c a => by have := dep_le a; simp only [dep, psz]; omega
  | .bin w a b => by have := dep_le a; have := dep_le b; simp only [dep, psz]; omega
  | .neg a => by have := dep_le a; simp only [dep, psz]; omega
  | .ite p a b => by have := dep_le a; have := dep_le b; have := dep_le p; simp only [dep, psz]; omega
theorem kn_eq (p : Pg) : kn p = p :: (parts p).flatMap kn := by cases p <;> simp [kn, parts]
theorem psz_eq (p : Pg) : psz p = 1 + ((parts p).map psz).sum := by cases p <;> simp [psz, parts] <;> omega
/-- the things behind its word, as they stand in the tuple -/
def front : Pg → List V
  | .inp k => [.str "in", .int k]
  | .num c => [.str "num", .int c]
  | .tr b => [.str (trS b)]
  | .plus c _ => [.str "plus", .int c]
  | .bin w _ _ => [.str w.str]
  | .neg _ => [.str "not"]
  | .ite _ _ _ => [.str "if"]
/-- the program p stands at v -/
def At (K : PySem.W.Frag) (H : Hp) (v : V) (p : Pg) : Prop := Dp K H v (enc p)
def Ats (K : PySem.W.Frag) (H : Hp) (vs : List V) (ps : List Pg) : Prop := DpAll K H vs (ps.map enc)
theorem At.fd {K : PySem.W.Frag} {H : Hp} {v : V} {p : Pg} (h : At K H v p) : Fd K H v (enc p) := ⟨flat_enc p, h⟩
theorem At.keep {K : PySem.W.Frag} {H H' : Hp} {v : V} {p : Pg} (h : At K H v p) (t : Tp K H H') : At K H' v p := dp_keep t _ _ (flat_enc p) h
theorem flats_encs : ∀ ps : List Pg, flat.flats (ps.map enc) = true
  | [] => rfl
  | p :: ps => by simp [flat.flats, flat_enc p, flats_encs ps]
theorem Ats.keep {K : PySem.W.Frag} {H H' : Hp} {vs : List V} {ps : List Pg} (h : Ats K H vs ps) (t : Tp K H H') : Ats K H' vs ps := dps_keep t _ _ (flats_encs ps) h
theorem Ats.nil {K : PySem.W.Frag} {H : Hp} : Ats K H [] [] := DpAll.nil
theorem Ats.cons {K : PySem.W.Frag} {H : Hp} {v : V} {vs : List V} {p : Pg} {ps : List Pg} (h : At K H v p) (t : Ats K H vs ps) : Ats K H (v :: vs) (p :: ps) := DpAll.cons h t
theorem Ats.app {K : PySem.W.Frag} {H : Hp} : ∀ {vs us : List V} {ps qs : List Pg}, Ats K H vs ps → Ats K H us qs → Ats K H (vs ++ us) (ps ++ qs)
  | [], _, [], _, _, b => b
  | v :: vs, _, p :: ps, _, a, b => by
    cases a with
    | cons h t => exact Ats.cons h (Ats.app (vs := vs) (ps := ps) t b)
  | [], _, p :: ps, _, a, _ => by cases a
  | v :: vs, _, [], _, a, _ => by cases a
theorem Ats.len {K : PySem.W.Frag} {H : Hp} : ∀ {vs : List V} {ps : List Pg}, Ats K H vs ps → vs.length = ps.length
  | [], [], _ => rfl
  | v :: vs, p :: ps, a => by
    cases a with
    | cons h t => rw [List.length_cons, List.length_cons, Ats.len (vs := vs) (ps := ps) t]
  | [], p :: ps, a => by cases a
  | v :: vs, [], a => by cases a
theorem Ats.get {K : PySem.W.Frag} {H : Hp} : ∀ {vs : List V} {ps : List Pg}, Ats K H vs ps → ∀ (j : Nat) (v : V), vs[j]? = some v → ∃ p, ps[j]? = some p ∧ At K H v p
  | [], [], _, j, v, h => by simp at h
  | u :: vs, p :: ps, a, 0, v, h => by
    cases a with
    | cons x t =>
      have e := Option.some.inj h
      subst e
      exact ⟨p, rfl, x⟩
  | u :: vs, p :: ps, a, j + 1, v, h => by
    cases a with
    | cons x t => exact Ats.get (vs := vs) (ps := ps) t j v h
  | [], p :: ps, a, _, _, _ => by cases a
  | v :: vs, [], a, _, _, _ => by cases a
/-- the tuple that it is -/
theorem At.open {K : PySem.W.Frag} {H : Hp} {v : V} {p : Pg} (h : At K H v p) : ∃ (a : Addr) (vs : List V), v = .ref a ∧ SqT K H a (front p ++ vs) ∧ Ats K H vs (parts p) := by
  cases p with
  | inp k =>
    cases h with
    | tup q r =>
      cases r with
      | cons r1 r =>
        cases r with
        | cons r2 r =>
          cases r
          cases r1
          cases r2
          exact ⟨_, [], rfl, q, .nil⟩
  | num c =>
    cases h with
    | tup q r =>
      cases r with
      | cons r1 r =>
        cases r with
        | cons r2 r =>
          cases r
          cases r1
          cases r2
          exact ⟨_, [], rfl, q, .nil⟩
  | tr b =>
    cases h with
    | tup q r =>
      cases r with
      | cons r1 r =>
        cases r
        cases r1
        exact ⟨_, [], rfl, q, .nil⟩
  | plus c a =>
    cases h with
    | tup q r =>
      cases r with
      | cons r1 r =>
        cases r with
        | cons r2 r =>
          cases r1
          cases r2
          exact ⟨_, _, rfl, q, r⟩
  | bin w a b =>
    cases h with
    | tup q r =>
      cases r with
      | cons r1 r =>
        cases r1
        exact ⟨_, _, rfl, q, r⟩
  | neg a =>
    cases h with
    | tup q r =>
      cases r with
      | cons r1 r =>
        cases r1
        exact ⟨_, _, rfl, q, r⟩
  | ite p a b =>
    cases h with
    | tup q r =>
      cases r with
      | cons r1 r =>
        cases r1
        exact ⟨_, _, rfl, q, r⟩
theorem Ats.one {K : PySem.W.Frag} {H : Hp} {vs : List V} {p : Pg} (h : Ats K H vs [p]) : ∃ v, vs = [v] ∧ At K H v p := by
  cases h with
  | cons a r =>
    cases r
    exact ⟨_, rfl, a⟩
theorem Ats.two {K : PySem.W.Frag} {H : Hp} {vs : List V} {p q : Pg} (h : Ats K H vs [p, q]) : ∃ u v, vs = [u, v] ∧ At K H u p ∧ At K H v q := by
  cases h with
  | cons a r =>
    cases r with
    | cons b r =>
      cases r
      exact ⟨_, _, rfl, a, b⟩
theorem Ats.three {K : PySem.W.Frag} {H : Hp} {vs : List V} {p q r : Pg} (h : Ats K H vs [p, q, r]) : ∃ u v w, vs = [u, v, w] ∧ At K H u p ∧ At K H v q ∧ At K H w r := by
  cases h with
  | cons a t =>
    cases t with
    | cons b t =>
      cases t with
      | cons c t =>
        cases t
        exact ⟨_, _, _, rfl, a, b, c⟩
/-! ### sums of sizes -/
theorem kn_le : ∀ (p q : Pg), q ∈ kn p → psz q ≤ psz p
  | .inp _, q, h => by simp [kn] at h; rw [h]; exact Nat.le_refl _
  | .num _, q, h => by simp [kn] at h; rw [h]; exact Nat.le_refl _
  | .tr _, q, h => by simp [kn] at h; rw [h]; exact Nat.le_refl _
  | .plus c a, q, h => by
    simp only [kn, List.mem_cons] at h
    rcases h with h | h
    · rw [h]; exact Nat.le_refl _
    · have := kn_le a q h; simp only [psz]; omega
  | .bin w a b, q, h => by
    simp only [kn, List.mem_cons, List.mem_append] at h
    rcases h with h | h | h
    · rw [h]; exact Nat.le_refl _
    · have := kn_le a q h; simp only [psz]; omega
    · have := kn_le b q h; simp only [psz]; omega
  | .neg a, q, h => by
    simp only [kn, List.mem_cons] at h
    rcases h with h | h
    · rw [h]; exact Nat.le_refl _
    · have := kn_le a q h; simp only [psz]; omega
  | .ite p a b, q, h => by
    simp only [kn, List.mem_cons, List.mem_append] at h
    rcases h with h | h | h | h
    · rw [h]; exact Nat.le_refl _
    · have := kn_le p q h; simp only [psz]; omega
    · have := kn_le a q h; simp only [psz]; omega
    · have := kn_le b q h; simp only [psz]; omega
theorem kn_wk (ks : List Bool) : ∀ (p q : Pg), Wk ks p → q ∈ kn p → Wk ks q
  | .inp _, q, w, h => by simp [kn] at h; rw [h]; exact w
  | .num _, q, w, h => by simp [kn] at h; rw [h]; exact w
  | .tr _, q, w, h => by simp [kn] at h; rw [h]; exact w
  | .plus c a, q, w, h => by
    simp only [kn, List.mem_cons] at h
    rcases h with h | h
    · rw [h]; exact w
    · exact kn_wk ks a q w.1 h
  | .bin _ a b, q, w, h => by
    simp only [kn, List.mem_cons, List.mem_append] at h
    rcases h with h | h | h
    · rw [h]; exact w
    · exact kn_wk ks a q w.1 h
    · exact kn_wk ks b q w.2.1 h
  | .neg a, q, w, h => by
    simp only [kn, List.mem_cons] at h
    rcases h with h | h
    · rw [h]; exact w
    · exact kn_wk ks a q w.1 h
  | .ite p a b, q, w, h => by
    simp only [kn, List.mem_cons, List.mem_append] at h
    rcases h with h | h | h | h
    · rw [h]; exact w
    · exact kn_wk ks p q w.1 h
    · exact kn_wk ks a q w.2.1 h
    · exact kn_wk ks b q w.2.2.1 h
end Lm

set_option Elab.async false
set_option linter.all false
set_option maxRecDepth 100000
set_option maxHeartbeats 2000000
namespace Lm
open PySem PySem.Spec PyProof.Rows L2 LmR
/-! ### a def called within an except suite, handed the exception -/
structure FnP (P : Program) (w : World) (K : PySem.W.Frag) (mg : Str → Option Value) (base : Heap) (p : Addr × Obj) (k : Nat) (f : Addr) (fd : FuncData) (ps : List Str) (sp : Sp) : Prop where
  len : ∀ vs H Q E, sp vs H Q E → vs.length = ps.length
  run : ∀ (A : Around) (outer : List Env) (s : Shared) (H : Hp) (args : Args) (us : List Value) (vs : List V) (Q : VK) (E : XK), L2H.RoomH k A → L2H.PinOk outer H s p → Env0 P w K mg base A outer s H → BindsTo s fd args (ps.zip us) → Vals vs us → sp vs H Q E →
    codeAny (model P w) A (.call (.ref f) args) (CR CX0 outer P w H s Q E) s
theorem fn_ofP {P : Program} {w : World} {K : PySem.W.Frag} {mg : Str → Option Value} {base : Heap} {k : Nat} {x : Str} {st : Stmt} {f : Addr} {fd : FuncData} {N ps : List Str} {sp : Sp} {p : Addr × Obj} (F : Fun K x x st f fd) (S : FnScope N ps (defScope st))
    (len : ∀ vs H Q E, sp vs H Q E → vs.length = ps.length)
    (hbody : ∀ (cdv : Value) (A : Around) (outer : List Env) (s : Shared) (H : Hp) (vs : List V) (Q : VK) (E : XK), L2H.RoomH k (A.deeper (envOfC x (defScope st) s.heap.objs.size f cdv)) → sp vs H Q E →
      ∃ t, PSs (L2H.cxH CX0 P w K mg base N x (defScope st) f cdv A outer s H E p) (defBody st) t ∧ t { nx := fun _ H' => Q .non H', rt := Q } (L2.start N vs) H) : FnP P w K mg base p (k + 1) f fd ps sp := by
  obtain ⟨oc, od, kV, doc, pm, an, cdv, ct, osl, rfl, lk, hcd⟩ := F.ex
  refine ⟨len, fun A outer s H args us vs Q E hr hpin e0 hb r hsp => ?_⟩
  have hl := len _ _ _ _ hsp
  have KX : K.In s.heap := e0.mod.kin.keeps fun b o e => (e0.bs b o e).1
  have lim : s.heap.NoLimit := e0.mod.nolimit.keeps fun b o e => (e0.bs b o e).1
  have hkind : ∀ y ∈ ps.zip us, (defScope st).names.lookup y.1 = some .local ∨ ((defScope st).names.lookup y.1 = some .cell ∧ ((cellsFrom (s.heap.objs.size + 1) (defScope st).names []).lookup y.1).isSome = true) := fun ⟨n, v⟩ hy => by
    rcases S.par n (List.of_mem_zip hy).1 with q | q
    · exact .inl q
    · exact .inr ⟨q, PySem.W.cellsFrom_some _ _ _ (.inl q)⟩
  refine codeAny_call_function hr.depth (KX _ _ lk) rfl S.co S.gen rfl (PySem.W.codeRec_of KX hcd) (hb _ _ _ _ ?_)
  refine wpAny_newFunctionEnv_cells S.kind hkind fun env he s1 y => ?_
  subst he
  refine ⟨lim.keeps y.toInCall.keep, codeAny_func ?_⟩
  obtain ⟨t, ht, hq⟩ := hbody cdv A outer s H vs Q E (hr.deeper _) hsp
  have I : Inv (L2H.cxH CX0 P w K mg base N x (defScope st) f cdv A outer s H E p) [] (L2.start N vs) H s1 := L2H.inv_startH S hpin e0 hl r y
  refine wpAny_mono (ht.run [] s1 (L2.start N vs) H _ I hq) (fun fl s' hs => ?_) fun e s' hs => hs
  have fin : ∀ {σ' : L2.St} {H' : Hp} {v : V} {u : Value}, Inv (L2H.cxH CX0 P w K mg base N x (defScope st) f cdv A outer s H E p) [] σ' H' s' → RelV v u → Q v H' → CE outer P w H s Q u s' :=
    fun {σ' H' v u} J rv q => ⟨v, H', J.os, J.bare, J.base, J.hok, rv, q⟩
  cases fl with
  | ret u =>
    obtain ⟨v, σ', H', J, rv, q⟩ := hs
    exact fin J rv q
  | next =>
    obtain ⟨σ', H', J, q⟩ := hs
    exact fin (v := V.non) (u := Value.none) J rfl q
  | brk =>
    obtain ⟨_, _, _, q⟩ := hs
    exact False.elim q
  | cont =>
    obtain ⟨_, _, _, q⟩ := hs
    exact False.elim q
theorem pe_callP {X : Cx} {k : Nat} {f : Addr} {fd : FuncData} {ps : List Str} {sp : Sp} {x : Str} {q pos : Pos} {e : Expr} {es : List Expr} {t : TA} {p : Addr × Obj} (F : FnP X.prog X.w X.K X.mg X.base p k f fd ps sp) (hr : L2H.RoomH k X.A) (hp : p ∈ X.pn) (hg : Gl X x) (hm : X.mg x = some (.ref f)) (hk : PySem.W.keepIn X.K (.ref f) = true) (hb : Binds X.K fd ps [])
    (ha : PA X (e :: es) t) (hdb : (x == ("__debug__" : Str)) = false := by decide) (he : starEach (e :: es) X.env = (false, eval e X.env) :: starEach es X.env := by rfl) (hpl : (backTo pos (starEach es X.env)).any (·.1) = false := by rfl) :
    PE X (.Call (.Name x q) (e :: es) [] pos) (tCall sp [] (fun _ _ _ => False) t) := by
  refine ⟨fun pins s σ H Q I h => ?_⟩
  refine wpAny_Call_Name_kw (ld_glob I hg hm ?_ hdb)
  refine PySem.W.callWith_K (h₀ := X.base) I.ok.mod.kin hk (thn (ha.run pos pins s σ H _ I h) fun us s1 ⟨vs, H1, I1, r, q⟩ => ⟨I1.kIn, ?_⟩) he hpl
  have q : sp vs H1 Q (fun _ _ _ => False) := by
    have z : sp (vs ++ []) H1 Q (fun _ _ _ => False) := q
    rw [List.append_nil] at z
    exact z
  have hl : us.length = ps.length := by rw [← r.length]; exact F.len _ _ _ _ q
  have b := hb s1 us I1.kIn (by rw [List.append_nil]; exact hl)
  rw [List.append_nil] at b
  have P1 := I1.pin p (List.mem_append_left _ hp)
  have hpin : L2H.PinOk X.stack H1 s1 p := ⟨P1.1, P1.2.1, fun hm => (List.mem_cons.mp (I1.stkSub p.1 hm)).elim P1.2.2.1 P1.2.2.2.1, P1.2.2.2.2⟩
  refine wpAny_call (codeAny_mono (F.run X.A X.stack s1 H1 ⟨us, []⟩ us vs Q (fun _ _ _ => False) hr hpin I1.env0 b r q) fun r s' hq => ?_)
  cases r with
  | error e => exact hq.elim
  | ok fl =>
    cases fl with
    | ret u => exact I1.after hq
    | next => exact False.elim hq
    | brk => exact False.elim hq
    | cont => exact False.elim hq
/-! ### isinstance of an exception that is pinned -/
structure ExK (K : PySem.W.Frag) (C : Addr) : Prop where
  cl : (PySem.W.clsIn K C).isSome = true
  ga : PySem.W.findIn K (.ref C) "__getattribute__" = some (some (.builtin "BaseException.__getattribute__"))
  gg : PySem.W.findIn K (.ref C) "__getattr__" = some none
  ex : PySem.W.subIn K (.ref C) (.type "BaseException") = some true
  ca : PySem.W.findIn K (.ref C) "__class__" = some (some (.builtin "object.__class__"))
  gn : PySem.W.specialIn K (.builtin "object.__class__") "__get__" = some (some (.builtin "getset_descriptor.__get__"))
  tk : PySem.W.takesIn K (.builtin "object.__class__") = some true
  ob : PySem.W.mroIn K C (.type "object") = some true
/-- isinstance(e, c), e the exception at a of the class at C -/
def rIsP (K : PySem.W.Frag) (C a : Addr) : List V → Hp → VK → Prop := fun xs H Q => ∃ (D : Addr) (b : Bool), xs = [.ref a, .ref D] ∧ PySem.W.kitOne K (.ref C) (.ref D) = some b ∧ Q (.bl b) H
theorem call_isP {X : Cx} {a C : Addr} {oe : Obj} {dct : Option Addr} (k : ExK X.K C) (hz : Zc (.ref C) dct oe) (hf : ∃ vs, oe.data = .fields vs) (hp : (a, oe) ∈ X.pn) (hd : ∀ pins σ H s, Inv X pins σ H s → ∃ od : Option Obj, PySem.W.InstAt s.heap a oe C od) : CallR X (.builtin "isinstance") (rIsP X.K C a) := by
  intro pins s σ H xs us Q I r h
  obtain ⟨D, b, rfl, e, q⟩ := h
  obtain ⟨u1, u2, rfl, r1, r2⟩ := vals2 r
  cases (show u1 = Value.ref a from r1)
  cases (show u2 = Value.ref D from r2)
  obtain ⟨od, J⟩ := hd pins σ H s I
  exact PySem.W.kia_one (PySem.W.kitx_exc k.cl k.ga k.gg k.ex k.ca k.gn k.tk k.ob) I.kIn J e (fun z => nomatch z) fun tk => ⟨.bl b, H, I.tok tk, rfl, q⟩
/-! ### xs.count(True) of truths -/
theorem mt_countB {X : Cx} : MtR X "list.count" (fun x xs H Q => ∃ (p : Addr) (bs : List Bool), x = .ref p ∧ xs = [.bl true] ∧ SqL X.K H p (bs.map V.bl) ∧ Q (.int (bs.count true : Nat)) H) := by
  intro pins s σ H x xs v us Q I rx rxs h
  obtain ⟨p, bs, rfl, rfl, hs, q⟩ := h
  cases rx
  obtain ⟨u, rfl, ru⟩ := rxs.one
  cases (show u = Value.bool true from ru)
  obtain ⟨its, rv, ⟨⟨cls, dd, data, sl⟩, n, ho, hc, hdn, hd⟩, hlen⟩ := I.list hs
  simp only at hc hd
  subst hc hd
  have key : ∀ (bs : List Bool) (its : List Value), Vals (bs.map V.bl) its → its = bs.map Value.bool := by
    intro bs
    induction bs with
    | nil => intro its r; cases r; rfl
    | cons b bs ih =>
      intro its r
      cases r with
      | cons a r =>
        rename_i u us'
        rw [List.map_cons, ih us' r]
        congr 1
  have ei := key bs its rv
  subst ei
  let g : Value → Bool := fun y => y == .bool true
  refine call_meets PySem.F.slot_list_count ⟨_, ho, rfl⟩ PySem.F.entry_list_count (PySem.F.args_list_count_2 _ _)
    (SeqAt.list_countAt p (bs.map Value.bool).toArray n dd sl (.bool true) g) ⟨ho, fun y hy => ?_, ?_⟩
  · have hy' : y ∈ bs.map Value.bool := by simpa using hy
    obtain ⟨b, _, rfl⟩ := List.mem_map.mp hy'
    have eg : g (.bool b) = eqV (.bl b) (.bl true) := by cases b <;> rfl
    rw [eg]
    exact eqAt_V (y := .bl b) (x := .bl true) rfl rfl rfl rfl
  · have ec : ((bs.map Value.bool).toArray.toList.countP g) = bs.count true := by
      show (bs.map Value.bool).countP g = _
      rw [List.countP_map]
      unfold List.count
      congr 1
      funext b
      cases b <;> rfl
    refine ⟨.int (bs.count true : Nat), H, I.tok _, ⟨s.toks, ?_⟩, q⟩
    show Value.int (((bs.map Value.bool).toArray.toList.countP g : Nat) : Int) s.toks = Value.int ((bs.count true : Nat) : Int) s.toks
    rw [ec]
end Lm

set_option Elab.async false
set_option linter.all false
set_option maxRecDepth 100000
set_option maxHeartbeats 2000000
namespace Lm
open PySem PySem.Spec PyProof.Rows L2 LmR
abbrev oEnum (a : Addr) : Obj := { cls := .type "enumerate", data := .fields #[.none, .bool false, .ref a, rawInt 0, .none, .none] }
/-- enumerate(v): two new cells -/
theorem enum_new1 {v : Value} {o : Obj} {G : Heap → Prop} (B : Begins v o G) :
    Meets (Builtin.«enumerate.__new__» ⟨[.type "enumerate", v], []⟩) (fun _ R s => G s.heap ∧ R (.ok (.ret (.ref (s.heap.push o).objs.size))) { s with heap := (s.heap.push o).push (oEnum s.heap.objs.size) }) :=
  .of_wp fun prog w A R s hh => by
    obtain ⟨hp, g, d, tk, os⟩ := s
    obtain ⟨hG, hR⟩ := hh
    have hsub := sub_enumerate
    have go : ∀ {A' : Around} {E : Value → Shared → Prop} {Q : Value → Shared → Prop}, Q (.ref hp.objs.size) ⟨hp.push o, g, d, tk, os⟩ → wpAny (model prog w) A' (pyIter v) Q E ⟨hp, g, d, tk, os⟩ :=
      fun q => B.iter prog w _ _ _ _ hG q
    wp_walk using go
    refine wpAny_stack_any fun st => wpAny_pure ?_
    split
    · rename_i c _ _ _ _ _
      cases (c == Value.type "enumerate") <;> (wp_walk using go; exact ⟨_, rfl, hR⟩)
    · wp_walk using go
      exact ⟨_, rfl, hR⟩
theorem enum_call1 {prog : Program} {w : World} {A : Around} {E : Value → Shared → Prop} {s : Shared} {v : Value} {o : Obj} {G : Heap → Prop} {Q : Value → Shared → Prop} (B : Begins v o G) (hG : G s.heap)
    (hQ : ∀ h2, IsEnum h2 (s.heap.objs.size + 1) s.heap.objs.size 0 .none → h2.get? s.heap.objs.size = some o → (∀ b ob, s.heap.get? b = some ob → h2.get? b = some ob) → Q (.ref (s.heap.objs.size + 1)) { s with heap := h2 }) :
    wpAny (model prog w) A (call (.type "enumerate") [v]) Q E s := by
  refine callType_new F.called_enumerate (by decide) (F.typeCall_enumerate_1 _) (F.newCall_enumerate_1 _) (fun obj => F.args_object_init_2 obj _) F.entry_enumerate_new (enum_new1 B) ⟨hG, ?_⟩
  have z : (s.heap.push o).objs.size = s.heap.objs.size + 1 := Heap.size_push ..
  show _ ∧ _
  rw [z]
  have he : IsEnum ((s.heap.push o).push (oEnum s.heap.objs.size)) (s.heap.objs.size + 1) s.heap.objs.size 0 .none := by
    have y := Heap.get?_push_size (s.heap.push o) (o := oEnum s.heap.objs.size) rfl
    rw [z] at y
    exact y
  exact ⟨⟨_, he, rfl⟩, hQ _ he (Heap.get?_push_of_some _ (Heap.get?_push_size _ B.free)) fun b ob x => Heap.get?_push_of_some _ (Heap.get?_push_of_some _ x)⟩
theorem enum_over {prog : Program} {w : World} {A : Around} {E : Value → Shared → Prop} {s : Shared} {e it a : Addr} {i : Nat} {items : Array Value} {c : Int} {old : Value} {Q : Option Value → Shared → Prop} (hd : A.handled = none)
    (he : IsEnum s.heap e it c old) (hit : s.heap.IsTupleIter it a i) (ht : s.heap.IsTuple a items) (hx : items[i]? = none) (hQ : ∀ h2, Heap.ExtBut it s.heap h2 → Q none { s with heap := h2 }) : wpAny (model prog w) A (pyNext (.ref e)) Q E s := by
  have D : Draws prog w A.in1 it [it, a] i (fun _ _ => True) (fun j h => j = i ∧ h.IsTupleIter it a i ∧ h.IsTuple a items) :=
    { live := fun _ _ st => by obtain ⟨_, ⟨o, ho, _⟩, _⟩ := st; exact ⟨o, ho⟩
      frame := fun _ _ _ st hk => ⟨st.1, st.2.1.at fun o q => hk it (by simp) o q, st.2.2.at fun o q => hk a (by simp) o q⟩
      item := fun j s Q E hj st _ => absurd st.1 (Nat.ne_of_lt hj)
      done := fun s Q E st hE => wpAny_nextOf_tuple_end (by first | exact hd | (show A.in1.handled = none; exact hd)) st.2.1 st.2.2 hx hE }
  exact wpAny_pyNext_enum_endD D he ⟨rfl, hit, ht⟩ hQ
/-- the tuple at a: each item, its number ahead of it, in a new pair -/
def IteT (K : PySem.W.Frag) (a : Addr) : It :=
  ⟨fun i H => ∃ (xs : List V) (x : V), SqT K H a xs ∧ xs[i]? = some x,
    fun i H v H' => ∃ T x, v = .ref T ∧ H T = none ∧ H' = upd H T (.tup [.int (i : Nat), x]) ∧ ∀ xs, SqT K H a xs → xs[i]? = some x,
    fun i H => ∃ xs : List V, SqT K H a xs ∧ xs.length ≤ i⟩
theorem turn_enumT {P : Program} {w : World} {K : PySem.W.Frag} {elts : List Expr} {kk : Nat} {tpos : Pos} (a e it : Addr) :
    Turn P w K (.Tuple elts kk tpos) (IteT K a) [e, it] e (fun i h => (∃ old, IsEnum h e it ((i : Nat) : Int) old) ∧ h.IsTupleIter it a i ∧ e ≠ it ∧ a ≠ e ∧ a ≠ it) where
  mem := by simp
  obj := fun i h st b hb => by
    obtain ⟨⟨old, he⟩, ⟨o, ho, hc, hd⟩, _⟩ := st
    have e' : b = e ∨ b = it := by simpa using hb
    rcases e' with z | z
    · rw [z]; exact ⟨_, he, fun v q => nomatch q⟩
    · rw [z]; exact ⟨o, ho, fun v q => by rw [hd] at q; cases q⟩
  keep := fun i h h' st k => by
    obtain ⟨⟨old, he⟩, hi, r⟩ := st
    exact ⟨⟨old, k e (by simp) _ he⟩, hi.at fun o q => k it (by simp) o q, r⟩
  item := by
    intro X hP hw hK hc i pins s σ H E I hf st hg
    subst hP hw hK
    obtain ⟨⟨old, he⟩, hit, hne, hae, hai⟩ := st
    obtain ⟨xs, x, hq, hx⟩ := hg
    obtain ⟨its, rv, p, hz⟩ := I.tuple hq
    obtain ⟨u, hu, ru⟩ := rv.get hx
    have ht : s.heap.IsTuple a its.toArray := p
    have hel : e < s.heap.objs.size := Heap.lt_size he
    have hil : it < s.heap.objs.size := by obtain ⟨_, q, _⟩ := hit; exact Heap.lt_size q
    have D := Draws.tuple (prog := X.prog) (w := X.w) (A := X.A.in1) (I.ok.hd hc) it a hai its.toArray
    have hlt : i < its.toArray.size := by
      have z : i < its.length := (List.getElem?_eq_some_iff.mp hu).1
      simpa using z
    refine wpAny_pyNext_enum_itemD D he ⟨hit, ht⟩ hlt hne (by simp [hne, Ne.symm hae]) fun y h' tk hy ho hst hT hsz hk => ?_
    have ey : y = u := by
      have z : its[i]? = some y := by simpa using hy
      rw [hu] at z
      exact (Option.some.inj z).symm
    subst ey
    refine ⟨_, rfl, wpAny_letOwnedTupleGo_enum (s := { s with heap := h', toks := tk + 1 }) ho fun h'' he' sb => ?_⟩
    have hT2 : h''.get? s.heap.objs.size = some { cls := .type "tuple", data := .seq #[.int i tk, y] } := (sb.2 _ (Nat.ne_of_gt hel)).trans hT
    have new : ObjOk X.prog X.w (upd H s.heap.objs.size (.tup [.int (i : Nat), x])) h'' s.heap.objs.size (.tup [.int (i : Nat), x]) :=
      ⟨by show 2 ≤ sizeLine; decide, [.int i tk, y], .cons ⟨_, rfl⟩ (.cons ru .nil), ⟨_, hT2, rfl, _, rfl⟩⟩
    have I1 : Inv X pins σ (upd H s.heap.objs.size (.tup [.int (i : Nat), x])) { s with heap := h'', toks := tk + 1 } :=
      I.turnedNew (ch := [e, it]) (fun b ob hb q => (sb.2 b (fun z => hb (by simp [z]))).trans (hk b ob (fun z => hb (by simp [z])) (fun z => hb (by simp [z])) q)) hf (Nat.le_refl _) new
    have fr : H s.heap.objs.size = none := I.hok.fresh (Nat.le_refl _)
    refine ⟨.ref s.heap.objs.size, _, I1, rfl, ⟨_, x, rfl, fr, rfl, fun ys hy => by rw [I.tuple_inj hy hq]; exact hx⟩, ⟨⟨y, ?_⟩, hst.1.at fun o q => (sb.2 it (Ne.symm hne)).trans q, hne, hae, hai⟩, fun b hb => ?_⟩
    · have e1 : ((i + 1 : Nat) : Int) = (i : Int) + 1 := by omega
      rw [e1]; exact he'
    · have e' : b = e ∨ b = it := by simpa using hb
      have hb' : b < s.heap.objs.size := by rcases e' with z | z <;> rw [z] <;> assumption
      rw [upd_ne (Nat.ne_of_lt hb')]
      exact (hf b hb).1
  done := by
    intro X hP hw hK hc i pins s σ H E I hf st hg
    subst hP hw hK
    obtain ⟨⟨old, he⟩, hit, hne, hae, hai⟩ := st
    obtain ⟨xs, hq, hx⟩ := hg
    obtain ⟨its, rv, p, hz⟩ := I.tuple hq
    have ht : s.heap.IsTuple a its.toArray := p
    obtain ⟨f0, f1, f2, f3, f4, f5⟩ := hf it (by simp)
    have hl := rv.length
    have hT : s.TypeIs (.ref e) "enumerate" := ⟨_, he, rfl⟩
    refine enum_over (I.ok.hd hc) he hit ht (by simp; omega) fun h' eb => ⟨rfl, I.turned (t' := s.toks) (fun b o hb q => eb b o hb q) f0 f1 f3 f4 f5⟩
  self := fun A i s Q E st h => by
    obtain ⟨⟨_, he⟩, _⟩ := st
    exact wpAny_pyIter_enum he h
def iEnumT (K : PySem.W.Frag) (ta : TA) : TI := fun σ H R => ta σ H fun vs H1 => ∃ a xs, vs = [.ref a] ∧ SqT K H1 a xs ∧ R (IteT K a) H1
theorem pi_enumT {X : Cx} {e : Expr} {ta : TA} {p pos tpos : Pos} {elts : List Expr} {kk : Nat} (hg : Gl X "enumerate") (hm : X.mg "enumerate" = none) (ha : PA X [e] ta) (hs : starEach [e] X.env = [(false, eval e X.env)] := by rfl) :
    PI X (.Tuple elts kk tpos) (.Call (.Name "enumerate" p) [e] [] pos) (iEnumT X.K ta) := by
  refine ⟨fun pins s σ H R I h => ?_⟩
  refine Call_ (ld_blt I hg hm boot_enumerate (PyProof.Rows.callWith_type1 (thn (ha.run pos pins s σ H _ I h) fun us s1 ⟨vs, H1, I1, r1, q1⟩ => ?_) hs rfl))
  obtain ⟨a, xs, ex, hq, q⟩ := q1
  subst ex
  cases r1 with
  | cons r rr =>
    cases rr
    cases r
    obtain ⟨its, rv, pt, hz⟩ := I1.tuple hq
    have ht : s1.heap.IsTuple a its.toArray := pt
    have hal : a < s1.heap.objs.size := by obtain ⟨_, q, _⟩ := ht; exact Heap.lt_size q
    refine enum_call1 (begins_tuple a its.toArray) ht fun h2 he hit hk => wpAny_pyIter_enum he ?_
    have I2 : Inv X pins σ H1 { s1 with heap := h2 } := I1.kept (t' := s1.toks) hk
    refine ⟨s1.heap.objs.size + 1, [s1.heap.objs.size + 1, s1.heap.objs.size], _, _, H1, rfl, I2, turn_enumT a (s1.heap.objs.size + 1) s1.heap.objs.size, ⟨⟨.none, he⟩, ⟨_, hit, rfl, rfl⟩, Nat.succ_ne_self _, Nat.ne_of_lt (Nat.lt_succ_of_lt hal), Nat.ne_of_lt hal⟩, fun b hb => ?_, q⟩
    have e' : b = s1.heap.objs.size + 1 ∨ b = s1.heap.objs.size := by simpa using hb
    have hle : s1.heap.objs.size ≤ b := by rcases e' with z | z <;> rw [z] <;> first | exact Nat.le_succ _ | exact Nat.le_refl _
    exact I1.fpOk hle (I1.hok.fresh hle)
end Lm

set_option Elab.async false
set_option linter.all false
set_option maxRecDepth 100000
set_option maxHeartbeats 2000000
namespace Lm
open PySem PySem.Spec PyProof.Rows L2 LmR
/-! ### defs that may refuse -/
def CalX (P : Program) (w : World) (K : PySem.W.Frag) (mg : Str → Option Value) (base : Heap) (k : Nat) (x : Str) (ps : List Str) (sp : Sp) : Prop :=
  ∃ f fd, FnOk P w K mg base (L2.CX P w) k f fd ps sp ∧ mg x = some (.ref f) ∧ PySem.W.keepIn K (.ref f) = true ∧ Binds K fd ps []
section
variable {P : Program} {w : World} {K : PySem.W.Frag} {mg : Str → Option Value} {base : Heap}
theorem calx_of {x : Str} {st : Stmt} {N ps : List Str} {k : Nat} {sp : Sp} (D : DefAt K mg x st ps) (S : FnScope N ps (defScope st)) (len : ∀ vs H Q E, sp vs H Q E → vs.length = ps.length)
    (hbody : ∀ (f : Addr) (cdv : Value) (A : Around) (outer : List Env) (s : Shared) (H : Hp) (vs : List V) (Q : VK) (E : XK), Room k (A.deeper (envOfC x (defScope st) s.heap.objs.size f cdv)) → sp vs H Q E →
      ∃ t, PSs (cxOf (L2.CX P w) P w K mg base N x (defScope st) f cdv A outer s H E) (defBody st) t ∧ t { nx := fun _ H' => Q .non H', rt := Q } (start N vs) H) : CalX P w K mg base (k + 1) x ps sp := by
  obtain ⟨f, fd, F, b, g⟩ := D
  exact ⟨f, fd, F.okX S len (hbody f), g, F.kp, b⟩
end
theorem pe_calX {X : Cx} {W : WX} {k : Nat} {x : Str} {ps : List Str} {sp : Sp} {e : Expr} {es : List Expr} {t : TA} {p pos : Pos} (C : CalX X.prog X.w X.K X.mg X.base k x ps sp) (tk : Takes X W) (hr : Room k X.A) (hg : Gl X x) (ha : PA X (e :: es) t)
    (hdb : (x == ("__debug__" : Str)) = false := by decide) (he : starEach (e :: es) X.env = (false, eval e X.env) :: starEach es X.env := by rfl) (hpl : (backTo pos (starEach es X.env)).any (·.1) = false := by rfl) :
    PE X (.Call (.Name x p) (e :: es) [] pos) (tCallS sp (WE W) t) := by
  obtain ⟨f, fd, F, g, kp, b⟩ := C
  exact pe_callS F hr hg g kp b (fun σ => passAt tk σ) ha hdb he hpl
/-! ### classes of refusals -/
/-- the class x at C, its __init__ (st) keeps the fields fs -/
structure Rf (K : PySem.W.Frag) (mg : Str → Option Value) (x q : Str) (C fI : Addr) (fd : FuncData) (st : Stmt) (fs : List Str) : Prop where
  g : mg x = some (.ref C)
  o : OexC K C
  f : XfC K C
  k : ExK K C
  te : PySem.W.exmOne K (.ref C) (.ref C) = some true
  fld : ∀ n ∈ fs, PySem.W.findIn K (.ref C) n = some none
  iC : PySem.W.findIn K (.ref C) "__init__" = some (some (.ref fI))
  tI : PySem.W.typeIn K (.ref fI) = some (.type "function")
  F : Fun K "__init__" q st fI fd
  b : Binds K fd ("self" :: fs) []
/-- __init__(self, f, g) -/
def spIni2 (C : Addr) (f g : Str) : Sp := fun vs H Q E => ∃ a x y, vs = [.ref a, x, y] ∧ H a = some (exo a C none) ∧
  ∀ (d : Addr) (H' : Hp), H d = none → H' a = some (exo a C (some d)) → H' d = some (exd d [(g, y), (f, x)]) → (∀ b, b ≠ a → b ≠ d → H' b = H b) → Q .non H'
def spIni1 (C : Addr) (f : Str) : Sp := fun vs H Q E => ∃ a x, vs = [.ref a, x] ∧ H a = some (exo a C none) ∧
  ∀ (d : Addr) (H' : Hp), H d = none → H' a = some (exo a C (some d)) → H' d = some (exd d [(f, x)]) → (∀ b, b ≠ a → b ≠ d → H' b = H b) → Q .non H'
/-- what refusing leaves: the fields at d, all else as it was -/
def Raised (H H' : Hp) (d : Addr) (fs : List (Str × V)) : Prop := H d = none ∧ H' d = some (.xd fs) ∧ ∀ b, b ≠ d → H' b = H b
theorem Raised.same {H H' : Hp} {d : Addr} {fs : List (Str × V)} (r : Raised H H' d fs) : Same H H' := fun b o e => by
  have n : b ≠ d := fun z => by rw [z, r.1] at e; cases e
  rw [r.2.2 b n]; exact e
theorem mk_two {C : Addr} {f g : Str} {x y : V} {H : Hp} {Q : XK} (hq : ∀ d H', Raised H H' d [(g, y), (f, x)] → Q (.ref C) (some d) H') :
    [x, y].length ≤ 1000 ∧ ∀ a, H a = none → spIni2 C f g (.ref a :: ([x, y] ++ [])) (upd H a (exo a C none))
      (fun v H2 => v = .non ∧ ∃ (d : Addr) (fs : List (Str × V)), H2 a = some (exo a C (some d)) ∧ H2 d = some (exd d fs) ∧ H d = none ∧ Q (.ref C) (some d) (upd (del H2 a) d (.xd fs))) (fun _ _ _ => False) := by
  refine ⟨by show 2 ≤ 1000; decide, fun a ha => ⟨a, x, y, rfl, upd_same, fun d H' hd h1 h2 h3 => ⟨rfl, d, _, h1, h2, ?_, hq d _ ⟨?_, upd_same, fun b hb => ?_⟩⟩⟩⟩
  all_goals
    have nd : d ≠ a := fun z => by rw [z, upd_same] at hd; cases hd
  · rw [upd_ne nd] at hd; exact hd
  · rw [upd_ne nd] at hd; exact hd
  · rw [upd_ne hb]
    by_cases z : b = a
    · rw [z, del_same, ha]
    · rw [del_ne z, h3 b z hb, upd_ne z]
theorem mk_one {C : Addr} {f : Str} {x : V} {H : Hp} {Q : XK} (hq : ∀ d H', Raised H H' d [(f, x)] → Q (.ref C) (some d) H') :
    [x].length ≤ 1000 ∧ ∀ a, H a = none → spIni1 C f (.ref a :: ([x] ++ [])) (upd H a (exo a C none))
      (fun v H2 => v = .non ∧ ∃ (d : Addr) (fs : List (Str × V)), H2 a = some (exo a C (some d)) ∧ H2 d = some (exd d fs) ∧ H d = none ∧ Q (.ref C) (some d) (upd (del H2 a) d (.xd fs))) (fun _ _ _ => False) := by
  refine ⟨by show 1 ≤ 1000; decide, fun a ha => ⟨a, x, rfl, upd_same, fun d H' hd h1 h2 h3 => ⟨rfl, d, _, h1, h2, ?_, hq d _ ⟨?_, upd_same, fun b hb => ?_⟩⟩⟩⟩
  all_goals
    have nd : d ≠ a := fun z => by rw [z, upd_same] at hd; cases hd
  · rw [upd_ne nd] at hd; exact hd
  · rw [upd_ne nd] at hd; exact hd
  · rw [upd_ne hb]
    by_cases z : b = a
    · rw [z, del_same, ha]
    · rw [del_ne z, h3 b z hb, upd_ne z]
theorem pass_no {X : Cx} : Passes (L2.CX X.prog X.w) X (fun _ _ _ => False) := fun _ _ _ _ _ _ _ c => by
  obtain ⟨_, _, _, _, _, _, _, _, _, _, _, _, z⟩ := c
  exact z.elim
/-- raise x(e, ..) -/
theorem ps_ref {X : Cx} {W : WX} {x q : Str} {C fI : Addr} {fd : FuncData} {st : Stmt} {fs : List Str} {sp : Sp} {k : Nat} {e : Expr} {es : List Expr} {ta : TA} {p pos pos' : Pos} (R : Rf X.K X.mg x q C fI fd st fs) (F : FnOk X.prog X.w X.K X.mg X.base (L2.CX X.prog X.w) k fI fd ("self" :: fs) sp) (hr : Room (k + 1) X.A)
    (hc : X.calm = true) (tk : Takes X W) (hg : Gl X x) (ha : PA X (e :: es) ta)
    (hdb : (x == ("__debug__" : Str)) = false := by decide) (he : starEach (e :: es) X.env = (false, eval e X.env) :: starEach es X.env := by rfl) (hpl : (backTo pos (starEach es X.env)).any (·.1) = false := by rfl) :
    PS X (.Raise (some (.Call (.Name x p) (e :: es) [] pos)) none pos') (fun _ σ H => tMkO C sp [] ta σ H fun cls d H' => W cls d σ H') :=
  ps_raise hc tk (pmk_oex R.o R.iC R.tI F hr R.b .nil pass_no hg R.g ha hdb he hpl)
end Lm
namespace Lm
open PySem PySem.Spec PyProof.Rows L2 LmR
/-! ### x not in a tuple of texts, x any flat data -/
def strIn (ss : List Str) : PyData → Bool
  | .str s => ss.any fun y => y == s
  | _ => false
def rNotInD (K : PySem.W.Frag) : R2 := fun x y H Q => ∃ (p : Addr) (ss : List Str) (d : PyData), y = .ref p ∧ SqT K H p (ss.map V.str) ∧ Fd K H x d ∧ Q (.bl (!strIn ss d)) H
theorem all_str : ∀ ss : List Str, (ss.map V.str).all flatV = true
  | [] => rfl
  | _ :: ss => by rw [List.map_cons, List.all_cons, all_str ss]; rfl
theorem inV_str (ss : List Str) (x : V) (d : PyData) (h : ∀ y : Str, eqV (.str y) x = strIn [y] d) : inV x (ss.map V.str) = strIn ss d := by
  unfold inV
  induction ss with
  | nil => cases d <;> rfl
  | cons s ss ih =>
    rw [List.map_cons, List.any_cons, ih, h s]
    cases d with
    | str z => simp [strIn]
    | _ => rfl
theorem op_notInD {X : Cx} {K : PySem.W.Frag} (hK : X.K = K) (hu : X.A.units + 1 < cLine) : OpR X (compareOp .NotIn) (rNotInD K) := by
  subst hK
  intro pins s σ H x y v u Q I rx ry h
  obtain ⟨p, ss, d, rfl, hq, ⟨fd, hd⟩, q⟩ := h
  by_cases ht : ∃ ds, d = .tuple ds
  · obtain ⟨ds, rfl⟩ := ht
    cases hd with
    | tup qa r =>
      rename_i a vs
      cases rx
      cases ry
      obtain ⟨its, rv, pl, hz⟩ := I.tuple hq
      obtain ⟨itz, rz, plz, hzz⟩ := I.tuple qa
      refine SeqAt.notIn_tupleAt (fun _ => false) pl (fun w hw => ?_) ⟨.bl _, H, I, rfl, ?_⟩
      · have hw' : w ∈ its := by simpa using hw
        have st : ∀ (ss : List Str) (its : List Value), Vals (ss.map V.str) its → ∀ w ∈ its, ∃ b t, w = .str b t := by
          intro ss
          induction ss with
          | nil => intro its r w hw; cases r; cases hw
          | cons z ss ih =>
            intro its r w hw
            cases r with
            | cons ra rb =>
              rcases List.mem_cons.mp hw with e | e
              · obtain ⟨t, et⟩ := ra
                exact ⟨z, t, e.trans et⟩
              · exact ih _ rb w e
        obtain ⟨b, t, rfl⟩ := st ss its rv w hw'
        exact SeqAt.EqAt.str_tuple b t plz (by first | exact hu | (show X.A.units + 1 < cLine; exact hu) | (have := hu; omega))
      · have e : (!(its.toArray.any fun _ => false)) = !strIn ss (.tuple ds) := by simp [strIn]
        rw [e]
        exact q
  · have fx : flatV x = true ∧ ∀ y : Str, eqV (.str y) x = strIn [y] d := by
      cases hd with
      | non => exact ⟨rfl, fun _ => rfl⟩
      | bl b => exact ⟨rfl, fun _ => rfl⟩
      | int i => exact ⟨rfl, fun _ => rfl⟩
      | str z => exact ⟨rfl, fun y => by simp [strIn, eqV]⟩
      | lst q r => simp [flat] at fd
      | tup q r => exact absurd ⟨_, rfl⟩ ht
    refine op_notIn_seq pins s σ H x _ v u Q I rx ry ⟨p, _, rfl, .inr hq, fx.1, all_str ss, ?_⟩
    rw [if_pos rfl, inV_str ss x d fx.2]
    exact q
/-! ### for i, x in enumerate(tuple) -/
theorem for_enumT {K : PySem.W.Frag} {a : Addr} {xs : List V} {g : TG} {tb : TS} {D : Ends} {σ : L2.St} {H : Hp} (Pv : Nat → L2.St → Hp → Prop) (h0 : Pv 0 σ H) (hq : ∀ i σ H, Pv i σ H → SqT K H a xs)
    (hstep : ∀ i x σ H T, xs[i]? = some x → Pv i σ H → H T = none → g (.ref T) σ (upd H T (.tup [.int (i : Nat), x])) fun σ2 H2 => tb { D with nx := Pv (i + 1), ct := Pv (i + 1), bk := D.nx } σ2 H2)
    (hend : ∀ σ H, Pv xs.length σ H → D.nx σ H) :
    ∃ W : Nat → Nat → L2.St → Hp → Prop, (∃ m, W 0 m σ H) ∧ ∀ i m σ H, W i m σ H →
      ((IteT K a).stop i H ∧ D.nx σ H) ∨ ((IteT K a).go i H ∧ ∃ N : L2.St → Hp → Prop, (∀ σ' H', N σ' H' → ∃ m', m' < m ∧ W (i + 1) m' σ' H') ∧ ∀ x H', (IteT K a).yld i H x H' → g x σ H' fun σ2 H2 => tb { D with nx := N, ct := N, bk := D.nx } σ2 H2) := by
  refine ⟨fun i m σ H => i ≤ xs.length ∧ m = xs.length - i ∧ Pv i σ H, ⟨_, Nat.zero_le _, rfl, h0⟩, fun i m σ H ⟨hi, hm, hp⟩ => ?_⟩
  have hs := hq i σ H hp
  rcases Nat.lt_or_ge i xs.length with hlt | hge
  · obtain ⟨x, hx⟩ : ∃ x, xs[i]? = some x := ⟨xs[i], List.getElem?_eq_getElem hlt⟩
    refine .inr ⟨⟨xs, x, hs, hx⟩, Pv (i + 1), fun σ' H' h' => ⟨xs.length - (i + 1), by omega, hlt, rfl, h'⟩, ?_⟩
    rintro y H' ⟨T, z, rfl, hT, rfl, hz⟩
    have e := hz xs hs
    rw [hx] at e
    cases e
    exact hstep i x σ H T hx hp hT
  · have e : i = xs.length := Nat.le_antisymm hi hge
    refine .inl ⟨⟨xs, hs, hge⟩, hend σ H (e ▸ hp)⟩
/-- the defs within a class -/
def clsBody : Stmt → List Stmt
  | .ClassDef _ _ _ b _ _ _ _ _ _ _ => b
  | _ => []
end Lm
namespace Lm
open PySem PySem.Spec PyProof.Rows L2 LmR
/-- isinstance(e, c), e the exception at a, of the class at C, its fields at dd -/
def rIsX (K : PySem.W.Frag) (C a dd : Addr) : List V → Hp → VK → Prop := fun xs H Q => ∃ (D : Addr) (b : Bool), xs = [.ref a, .ref D] ∧ PySem.W.kitOne K (.ref C) (.ref D) = some b ∧ (∃ fs, H dd = some (.xd fs)) ∧ Q (.bl b) H
theorem call_isX {X : Cx} {a C dd : Addr} {oe : Obj} (k : ExK X.K C) (hz : Zc (.ref C) (some dd) oe) (hf : ∃ vs, oe.data = .fields vs) (hp : (a, oe) ∈ X.pn) : CallR X (.builtin "isinstance") (rIsX X.K C a dd) := by
  intro pins s σ H xs us Q I r h
  obtain ⟨D, b, rfl, e, ⟨fs, ea⟩, q⟩ := h
  obtain ⟨u1, u2, rfl, r1, r2⟩ := vals2 r
  cases (show u1 = Value.ref a from r1)
  cases (show u2 = Value.ref D from r2)
  obtain ⟨ha, _⟩ := I.pin (a, oe) (List.mem_append_left _ hp)
  obtain ⟨vs, hd⟩ := hf
  have hx : ObjOk X.prog X.w H s.heap dd (.xd fs) := I.hok dd _ ea
  obtain ⟨mA, hns, hr⟩ := hx
  obtain ⟨od, ho, hl⟩ := lookIn_ns hns
  have J : PySem.W.InstAt s.heap a oe C (some od) := ⟨ha, hz.1, by unfold PySem.W.notCls; rw [hd] <;> rfl, by rw [hz.2]; exact ho⟩
  exact PySem.W.kia_one (PySem.W.kitx_exc k.cl k.ga k.gg k.ex k.ca k.gn k.tk k.ob) I.kIn J e (fun z => nomatch z) fun tk => ⟨.bl b, H, I.tok tk, rfl, q⟩
/-- the twelve classes, and of which of them the class at C is -/
structure Srt (K : PySem.W.Frag) (mg : Str → Option Value) (C : Addr) (c1 c2 c3 c4 c5 c6 c7 c8 c9 c10 c11 c12 : Addr) (b1 b2 b3 b4 b5 b6 b7 b8 b9 b10 b11 b12 : Bool) : Prop where
  g1 : mg "NoHead" = some (.ref c1)
  g2 : mg "NoProgram" = some (.ref c2)
  g3 : mg "NoText" = some (.ref c3)
  g4 : mg "NoStock" = some (.ref c4)
  g5 : mg "NoAnswer" = some (.ref c5)
  g6 : mg "NoInputs" = some (.ref c6)
  g7 : mg "Clash" = some (.ref c7)
  g8 : mg "NoRow" = some (.ref c8)
  g9 : mg "NoQuestion" = some (.ref c9)
  g10 : mg "NoDoer" = some (.ref c10)
  g11 : mg "NotKept" = some (.ref c11)
  g12 : mg "NoName" = some (.ref c12)
  k1 : PySem.W.kitOne K (.ref C) (.ref c1) = some b1
  k2 : PySem.W.kitOne K (.ref C) (.ref c2) = some b2
  k3 : PySem.W.kitOne K (.ref C) (.ref c3) = some b3
  k4 : PySem.W.kitOne K (.ref C) (.ref c4) = some b4
  k5 : PySem.W.kitOne K (.ref C) (.ref c5) = some b5
  k6 : PySem.W.kitOne K (.ref C) (.ref c6) = some b6
  k7 : PySem.W.kitOne K (.ref C) (.ref c7) = some b7
  k8 : PySem.W.kitOne K (.ref C) (.ref c8) = some b8
  k9 : PySem.W.kitOne K (.ref C) (.ref c9) = some b9
  k10 : PySem.W.kitOne K (.ref C) (.ref c10) = some b10
  k11 : PySem.W.kitOne K (.ref C) (.ref c11) = some b11
  k12 : PySem.W.kitOne K (.ref C) (.ref c12) = some b12
def Sorts (K : PySem.W.Frag) (mg : Str → Option Value) (C : Addr) (bs : List Bool) : Prop := ∃ c1 c2 c3 c4 c5 c6 c7 c8 c9 c10 c11 c12 b1 b2 b3 b4 b5 b6 b7 b8 b9 b10 b11 b12,
  Srt K mg C c1 c2 c3 c4 c5 c6 c7 c8 c9 c10 c11 c12 b1 b2 b3 b4 b5 b6 b7 b8 b9 b10 b11 b12 ∧ bs = [b1, b2, b3, b4, b5, b6, b7, b8, b9, b10, b11, b12]
def spSorts (C a : Addr) (cls : Value) (d : Option Addr) (bs : List Bool) : Sp := fun vs H Q _ => vs = [.ref a] ∧ cls = .ref C ∧ ∃ dd fs, d = some dd ∧ H dd = some (.xd fs) ∧ ∀ H' l, Same H H' → H' l = some (.lst (bs.map V.bl)) → Q (.ref l) H'
end Lm

set_option Elab.async false
set_option linter.all false
set_option maxRecDepth 100000
set_option maxHeartbeats 2000000
namespace Lm
open PySem PySem.Spec PyProof.Rows L2 LmR
/-! ### displays of data, read as data -/
def FdL (K : PySem.W.Frag) (H : Hp) (vs : List V) (ds : List PyData) : Prop := flat.flats ds = true ∧ DpAll K H vs ds
theorem FdL.keep {K : PySem.W.Frag} {H H' : Hp} {vs : List V} {ds : List PyData} (h : FdL K H vs ds) (t : Tp K H H') : FdL K H' vs ds := ⟨h.1, dps_keep t ds vs h.1 h.2⟩
theorem dpall_len' {K : PySem.W.Frag} {H : Hp} : ∀ {vs : List V} {ds : List PyData}, DpAll K H vs ds → vs.length = ds.length
  | [], [], _ => rfl
  | v :: vs, d :: ds, h => by
    cases h with
    | cons a b => rw [List.length_cons, List.length_cons, dpall_len' b]
  | [], d :: ds, h => by cases h
  | v :: vs, [], h => by cases h
abbrev PrD := L2.St → Hp → PyData → Prop
abbrev PrL := L2.St → Hp → List PyData → Prop
def tFd (K : PySem.W.Frag) (p : PrD) : TE := fun σ H Q => ∃ d, p σ H d ∧ ∀ v H', Same H H' → Fd K H' v d → Q v H'
def tFds (K : PySem.W.Frag) (p : PrL) : TA := fun σ H Q => ∃ ds, p σ H ds ∧ ∀ vs H', Same H H' → FdL K H' vs ds → Q vs H'
def tFl (K : PySem.W.Frag) (p : PrL) : TE := fun σ H Q => ∃ ds, ds.length ≤ 1000 ∧ p σ H ds ∧ ∀ l us H', Same H H' → H l = none → H' l = some (.lst us) → FdL K H' us ds → Q (.ref l) H'
structure PFd (X : Cx) (e : Expr) (p : PrD) : Prop where
  pe : PE X e (tFd X.K p)
  up : ∀ σ H H' d, Same H H' → p σ H d → p σ H' d
structure PFs (X : Cx) (es : List Expr) (p : PrL) : Prop where
  pa : PA X es (tFds X.K p)
  up : ∀ σ H H' ds, Same H H' → p σ H ds → p σ H' ds
section
variable {X : Cx} {e : Expr} {es : List Expr} {te te' : TE} {ta ta' : TA} {p : PrD} {ps : PrL} {pos : Pos}
theorem pe_weak (h : PE X e te) (w : ∀ σ H Q, te' σ H Q → te σ H Q) : PE X e te' := ⟨fun pins s σ H Q I hq => h.run pins s σ H Q I (w σ H Q hq)⟩
theorem pa_weak (h : PA X es ta) (w : ∀ σ H Q, ta' σ H Q → ta σ H Q) : PA X es ta' := ⟨fun pos pins s σ H Q I hq => h.run pos pins s σ H Q I (w σ H Q hq)⟩
theorem fd_of (h : PE X e te) (w : ∀ σ H Q, tFd X.K p σ H Q → te σ H Q) (up : ∀ σ H H' d, Same H H' → p σ H d → p σ H' d) : PFd X e p := ⟨pe_weak h w, up⟩
theorem fd_str {x j} : PFd X (.Constant (.str x) j pos) (fun _ _ d => d = .str x) := fd_of pe_str (fun σ H Q ⟨d, e, k⟩ => by subst e; exact k _ _ (Same.refl _) ⟨rfl, .str _⟩) fun _ _ _ _ _ h => h
theorem fd_int {x j} : PFd X (.Constant (.int x) j pos) (fun _ _ d => d = .int x) := fd_of pe_int (fun σ H Q ⟨d, e, k⟩ => by subst e; exact k _ _ (Same.refl _) ⟨rfl, .int _⟩) fun _ _ _ _ _ h => h
theorem fd_bl {x j} : PFd X (.Constant (.bool x) j pos) (fun _ _ d => d = .bool x) := fd_of pe_bl (fun σ H Q ⟨d, e, k⟩ => by subst e; exact k _ _ (Same.refl _) ⟨rfl, .bl _⟩) fun _ _ _ _ _ h => h
theorem fd_non {j} : PFd X (.Constant .none j pos) (fun _ _ d => d = .none) := fd_of pe_non (fun σ H Q ⟨d, e, k⟩ => by subst e; exact k _ _ (Same.refl _) ⟨rfl, .non⟩) fun _ _ _ _ _ h => h
theorem fd_var (i : Nat) {x : Str} (hN : X.N[i]? = some x := by rfl) (hv : Vis X.env.scope x := by first | exact Or.inl rfl | exact Or.inr (Or.inl rfl) | exact Or.inr (Or.inr rfl)) (hd : (x == ("__debug__" : Str)) = false := by decide)
    (hcd : (x == ("__classdict__" : Str)) = false := by decide) : PFd X (.Name x pos) (fun σ H d => ∃ v, σ[i]? = some (some v) ∧ Fd X.K H v d) :=
  fd_of (pe_var hN hv hd hcd) (fun σ H Q ⟨d, ⟨v, e, h⟩, k⟩ => ⟨v, e, k _ _ (Same.refl _) h⟩) fun _ _ _ _ s ⟨v, e, h⟩ => ⟨v, e, h.keep (Tp.same s)⟩
theorem fd_nil : PFs X [] (fun _ _ ds => ds = []) := ⟨pa_weak pa_nil fun σ H Q ⟨ds, e, k⟩ => by subst e; exact k [] H (Same.refl _) ⟨rfl, .nil⟩, fun _ _ _ _ _ h => h⟩
theorem fd_cons (h : PFd X e p) (hs : PFs X es ps) (hst : starEach (e :: es) X.env = (false, eval e X.env) :: starEach es X.env := by rfl) : PFs X (e :: es) (fun σ H ds => ∃ d ds', ds = d :: ds' ∧ p σ H d ∧ ps σ H ds') := by
  refine ⟨pa_weak (pa_cons h.pe hs.pa hst) fun σ H Q ⟨ds, ⟨d, ds', e, h1, h2⟩, k⟩ => ?_, fun σ H H' ds s ⟨d, ds', e, h1, h2⟩ => ⟨d, ds', e, h.up σ H H' d s h1, hs.up σ H H' ds' s h2⟩⟩
  subst e
  refine ⟨d, h1, fun v H1 s1 hv => ⟨ds', hs.up σ H H1 ds' s1 h2, fun vs H2 s2 hvs => k (v :: vs) H2 (s1.trans s2) ⟨?_, .cons (hv.keep (Tp.same s2)).2 hvs.2⟩⟩⟩
  rw [flat.flats, hv.1, hvs.1]
  rfl
theorem fd_tupE {x1} (h : PFs X es ps) : PFd X (.Tuple es x1 pos) (fun σ H d => ∃ ds, d = .tuple ds ∧ ds.length ≤ 1000 ∧ ps σ H ds) := by
  refine ⟨pe_weak (pe_tup h.pa) fun σ H Q ⟨d, ⟨ds, e, hl, h1⟩, k⟩ => ?_, fun σ H H' d s ⟨ds, e, hl, h1⟩ => ⟨ds, e, hl, h.up σ H H' ds s h1⟩⟩
  subst e
  refine ⟨ds, h1, fun vs H1 s1 hv => ⟨by rw [dpall_len' hv.2]; exact small (by omega), fun q hq => ?_⟩⟩
  have s2 : Same H1 (upd H1 q (.tup vs)) := same_new hq
  exact k _ _ (s1.trans s2) ⟨hv.1, .tup (.inl (.inl upd_same)) (hv.keep (Tp.same s2)).2⟩
theorem fd_lst (h : PFs X es ps) : PE X (.List es pos) (tFl X.K ps) := by
  refine pe_weak (pe_lst h.pa) fun σ H Q ⟨ds, hl, h1, k⟩ => ?_
  refine ⟨ds, h1, fun vs H1 s1 hv => ⟨by rw [dpall_len' hv.2]; exact small (by omega), fun q hq => ?_⟩⟩
  have s2 : Same H1 (upd H1 q (.lst vs)) := same_new hq
  have q0 : H q = none := by
    cases e : H q with
    | none => rfl
    | some o => rw [s1 _ _ e] at hq; cases hq
  exact k q vs _ (s1.trans s2) q0 upd_same (hv.keep (Tp.same s2))
/-- a number by an expression that writes nothing -/
theorem fd_num (h : PE X e te) (f : L2.St → Hp → Int → Prop) (w : ∀ σ H Q i, f σ H i → Q (.int i) H → te σ H Q) (up : ∀ σ H H' i, Same H H' → f σ H i → f σ H' i) : PFd X e (fun σ H d => ∃ i, d = .int i ∧ f σ H i) :=
  fd_of h (fun σ H Q ⟨d, ⟨i, e, hf⟩, k⟩ => w σ H Q i hf (k _ _ (Same.refl _) ⟨by rw [e]; rfl, by rw [e]; exact .int _⟩)) fun σ H H' d s ⟨i, e, hf⟩ => ⟨i, e, up σ H H' i s hf⟩
end
end Lm

set_option Elab.async false
set_option linter.all false
set_option maxRecDepth 100000
set_option maxHeartbeats 2000000
namespace Lm
open PySem PySem.Spec PyProof.Rows L2 LmR
theorem call_isiK {X : Cx} {K : PySem.W.Frag} (h : X.K = K) : CallR X (.builtin "isinstance") (rIsi K) := h ▸ call_isi
theorem walk_enumT {K : PySem.W.Frag} {a : Addr} {xs : List V} : Walk (IteT K a) xs.length (fun H => SqT K H a xs) (YPair (fun i => some (.int (i : Nat))) (fun i => xs[i]?)) := by
  refine ⟨fun i H hi q => ⟨xs, xs[i], q, by simp [hi]⟩, fun H q => ⟨xs, q, Nat.le_refl _⟩, fun i H x H' hi q y => ?_⟩
  obtain ⟨T, z, h1, h2, h3, h4⟩ := y
  exact ⟨T, _, z, h1, h2, h3, rfl, h4 xs q⟩
end Lm

set_option Elab.async false
set_option linter.all false
set_option maxRecDepth 100000
set_option maxHeartbeats 2000000
namespace Lm
open PySem PySem.Spec PyProof.Rows L2 LmR
def topS (i : Nat) : Stmt := PySem.Challenge.pw_leastmaker_k13_stocks_looked_at.main.body.getD i (.Pass ⟨0, 0, 0, 0⟩)
section
variable {P : Program} {w : World} {K : PySem.W.Frag} {mg : Str → Option Value} {base : Heap}
/-! ### cell, flow, draw -/
abbrev s_l_cell : Stmt := topS 27
theorem sc_l_cell : FnScope ["_law_script", "_law_k", "_law_number"] ["_law_script", "_law_k"] (defScope s_l_cell) := ⟨rfl, rfl, rfl, by decide +kernel, rfl, by decide +kernel, by decide +kernel⟩
def spCell (K : PySem.W.Frag) : Sp := fun vs H Q _ => ∃ (a : Addr) (ns : List Int) (k : Int), vs = [.ref a, .int k] ∧ SqL K H a (ns.map V.int) ∧ 0 ≤ k ∧ ∀ i, Q (.int i) H
theorem ok_l_cell (B : Bt mg) (D : DefAt K mg "_law_cell" s_l_cell ["_law_script", "_law_k"]) : Cal P w K mg base 1 "_law_cell" ["_law_script", "_law_k"] (spCell K) := by
  refine cal_of D sc_l_cell (fun vs H Q E h => ?_) (fun f cdv A outer s H vs Q E hr h => ?_)
  · obtain ⟨a, ns, k, rfl, _⟩ := h
    rfl
  obtain ⟨a, ns, k, rfl, hS, h0, q⟩ := h
  refine ⟨_, (pss_cons (ps_if (pt_cmpR op_lt (pv 1) (pe_callB call_len_seq (by rfl) B.len PySem.boot_len (pa_cons (pv 0) pa_nil)) (nomark _))
        (pss_one (ps_ret (pe_ix ix_list (pv 0) (pv 1) (fun _ _ => rfl))))
        pss_nil)
      (pss_cons (ps_set (i := 2) sc_l_cell.nd rfl (.inl rfl) (pe_op op_add (pe_op op_mul (pv 1) pe_int) pe_int))
      (pss_cons (ps_if (pt_cmpR op_gt (pe_callB call_len_seq (by rfl) B.len PySem.boot_len (pa_cons (pv 0) pa_nil)) pe_int (nomark _))
        (pss_one (ps_set (i := 2) sc_l_cell.nd rfl (.inl rfl) (pe_op op_add (pe_op op_mul (pe_op op_mod (pe_ix ix_list (pv 0) (pe_op op_mod (pe_op op_mul (pv 1) pe_int) (pe_callB call_len_seq (by rfl) B.len PySem.boot_len (pa_cons (pv 0) pa_nil))) (fun _ _ => rfl)) pe_int) pe_int) (pe_op op_mul (pv 1) pe_int))))
        pss_nil)
      (pss_one (ps_ret (pe_op op_mul (pe_op op_mod (pv 2) pe_int) pe_int)))))), ?_⟩
  have hl : (ns.map V.int).length = ns.length := List.length_map _
  refine ⟨_, rfl, _, rfl, a, _, rfl, .inl hS, _, _, rfl, rfl, _, rfl, ite2 (fun c => ?_) (fun c => ?_)⟩
  · have c' : k < (((ns.map V.int).length : Nat) : Int) := of_decide_eq_true c
    rw [hl] at c'
    have e : (ns.map V.int)[k.toNat]? = some (.int ns[k.toNat]) := by
      rw [List.getElem?_map, List.getElem?_eq_getElem (by omega)]
      rfl
    exact ⟨_, rfl, _, rfl, a, _, _, _, rfl, rfl, hS, at_of (j := k.toNat) (by omega) e, q _⟩
  · refine ⟨_, rfl, _, _, rfl, rfl, .inr ⟨by decide, by decide⟩, _, _, rfl, rfl, ?_⟩
    refine ⟨_, rfl, a, _, rfl, .inl hS, _, _, rfl, rfl, _, rfl, ite2 (fun c2 => ?_) (fun c2 => ?_)⟩
    · have c2' : (((ns.map V.int).length : Nat) : Int) > 0 := of_decide_eq_true c2
      rw [hl] at c2'
      have hp : (0 : Int) < (((ns.map V.int).length : Nat) : Int) := by rw [hl]; omega
      have b1 : 0 ≤ (k * 7) % (((ns.map V.int).length : Nat) : Int) := Int.emod_nonneg _ (by omega)
      have b2 : (k * 7) % (((ns.map V.int).length : Nat) : Int) < (((ns.map V.int).length : Nat) : Int) := Int.emod_lt_of_pos _ hp
      generalize hj : (k * 7) % (((ns.map V.int).length : Nat) : Int) = j at b1 b2
      rw [hl] at b2
      have e : (ns.map V.int)[j.toNat]? = some (.int ns[j.toNat]) := by
        rw [List.getElem?_map, List.getElem?_eq_getElem (by omega)]
        rfl
      have m1 : 0 ≤ ns[j.toNat] % 2147483629 := Int.emod_nonneg _ (by decide)
      have m2 : ns[j.toNat] % 2147483629 < 2147483629 := Int.emod_lt_of_pos _ (by decide)
      refine ⟨_, rfl, _, rfl, _, _, rfl, rfl, .inr ⟨by decide, by decide⟩, _, rfl, a, _, rfl, .inl hS, _, _, rfl, rfl, hp, a, _, _, V.int ns[j.toNat], rfl, rfl, hS, ?_, _, _, rfl, rfl, (by show (0 : Int) < 2147483629; decide), _, _, rfl, rfl, .inl ⟨by omega, by omega⟩, _, rfl, _, _, rfl, rfl, .inr ⟨by decide, by decide⟩, _, _, rfl, rfl, ?_⟩
      · rw [hj]
        exact at_of (j := j.toNat) (by omega) e
      · have n1 := Int.emod_nonneg (ns[j.toNat] % 2147483629 * 48271 + k * 7919) (show (2147483647 : Int) ≠ 0 by decide)
        have n2 := Int.emod_lt_of_pos (ns[j.toNat] % 2147483629 * 48271 + k * 7919) (show (0 : Int) < 2147483647 by decide)
        exact ⟨_, rfl, _, _, rfl, rfl, (by show (0 : Int) < 2147483647; decide), _, _, rfl, rfl, .inr ⟨by decide, by decide⟩, q _⟩
    · exact ⟨_, rfl, _, _, rfl, rfl, (by show (0 : Int) < 2147483647; decide), _, _, rfl, rfl, .inr ⟨by decide, by decide⟩, q _⟩
/-! the flow that is drawn from -/
def Flow (H : Hp) (f : Addr) : Prop := ∃ own cnt seed : Int, H f = some (.lst [.int own, .int cnt, .int seed]) ∧ 0 ≤ seed ∧ seed < 2 ^ 40
abbrev s_l_flow : Stmt := topS 28
theorem sc_l_flow : FnScope ["_law_script", "_law_k", "_law_cell_here", "_law_own"] ["_law_script", "_law_k"] (defScope s_l_flow) := ⟨rfl, rfl, rfl, by decide +kernel, rfl, by decide +kernel, by decide +kernel⟩
def spFlow (K : PySem.W.Frag) : Sp := fun vs H Q _ => ∃ (a : Addr) (ns : List Int) (k : Int), vs = [.ref a, .int k] ∧ SqL K H a (ns.map V.int) ∧ 0 ≤ k ∧ k ≤ 63 ∧ ∀ (p : Addr) (o : HO), H p = none → Flow (upd H p o) p → Q (.ref p) (upd H p o)
theorem ok_l_flow (C_l_cell : Cal P w K mg base 1 "_law_cell" ["_law_script", "_law_k"] (spCell K)) (D : DefAt K mg "_law_flow" s_l_flow ["_law_script", "_law_k"]) : Cal P w K mg base 2 "_law_flow" ["_law_script", "_law_k"] (spFlow K) := by
  refine cal_of D sc_l_flow (fun vs H Q E h => ?_) (fun f cdv A outer s H vs Q E hr h => ?_)
  · obtain ⟨a, ns, k, rfl, _⟩ := h
    rfl
  obtain ⟨a, ns, k, rfl, hS, h0, h1, q⟩ := h
  have hr' : Room 1 _ := hr
  refine ⟨_, (pss_cons (ps_set (i := 2) sc_l_flow.nd rfl (.inl rfl) (pe_cal C_l_cell hr' (by rfl) (pa_cons (pv 0) (pa_cons (pv 1) pa_nil))))
      (pss_cons (ps_set (i := 3) sc_l_flow.nd rfl (.inl rfl) pe_int)
      (pss_cons (ps_if (pt_cmpR op_ge (pv 2) (pe_op op_pow pe_int pe_int) (nomark _))
        (pss_one (ps_set (i := 3) sc_l_flow.nd rfl (.inl rfl) (pv 2)))
        pss_nil)
      (pss_one (ps_ret (pe_lst (pa_cons (pv 3) (pa_cons pe_int (pa_cons (pe_op op_add (pe_op op_mod (pv 2) pe_int) (pe_op op_mul pe_int (pv 1))) pa_nil))))))))), ?_⟩
  refine ⟨_, rfl, _, rfl, a, ns, k, rfl, hS, h0, fun i => ?_⟩
  have m1 : 0 ≤ i % 2147483629 := Int.emod_nonneg _ (by decide)
  have m2 : i % 2147483629 < 2147483629 := Int.emod_lt_of_pos _ (by decide)
  have pw : CPow 10 18 := ⟨by decide, by decide, by decide⟩
  refine ⟨_, rfl, _, _, rfl, rfl, pw, _, _, rfl, rfl, _, rfl, ite2 (fun c => ?_) (fun c => ?_)⟩
  · refine ⟨_, rfl, _, rfl, _, rfl, _, _, rfl, rfl, (by show (0 : Int) < 2147483629; decide), _, rfl, _, _, rfl, rfl, .inl ⟨by decide, by decide⟩, _, _, rfl, rfl, (by show 3 ≤ sizeLine; decide), fun p hp => q p _ hp ⟨_, _, _, upd_same, by omega, by omega⟩⟩
  · refine ⟨_, rfl, _, rfl, _, _, rfl, rfl, (by show (0 : Int) < 2147483629; decide), _, rfl, _, _, rfl, rfl, .inl ⟨by decide, by decide⟩, _, _, rfl, rfl, (by show 3 ≤ sizeLine; decide), fun p hp => q p _ hp ⟨_, _, _, upd_same, by omega, by omega⟩⟩
/-- the flow at f was drawn from, nothing else changed -/
structure Dr (f : Addr) (H H' : Hp) : Prop where
  off : ∀ b, b ≠ f → H' b = H b
  fl : Flow H' f
theorem Flow.lst {H : Hp} {f : Addr} (h : Flow H f) : ∃ xs, H f = some (.lst xs) := by
  obtain ⟨a, b, c, e, _⟩ := h
  exact ⟨_, e⟩
theorem Dr.ex {f : Addr} {H H' : Hp} (d : Dr f H H') : Ex [f] H H' := fun b o h n => by
  rw [d.off b (fun z => n (by rw [z]; simp))]
  exact h
theorem Dr.trans {f : Addr} {H H1 H2 : Hp} (a : Dr f H H1) (b : Dr f H1 H2) : Dr f H H2 := ⟨fun c n => (b.off c n).trans (a.off c n), b.fl⟩
theorem Dr.tp {f : Addr} {H H' : Hp} (d : Dr f H H') (h : Flow H f) : Tp K H H' := by
  obtain ⟨xs, e⟩ := h.lst
  refine d.ex.tp fun b hb ys q => ?_
  rw [List.mem_singleton.mp hb] at q
  rcases q with q | ⟨o, q⟩
  · rw [e] at q; cases q
  · rw [e] at q; cases q
abbrev s_l_draw : Stmt := topS 29
theorem sc_l_draw : FnScope ["_law_flow_here", "_law_many", "_law_number", "_law_digit"] ["_law_flow_here", "_law_many"] (defScope s_l_draw) := ⟨rfl, rfl, rfl, by decide +kernel, rfl, by decide +kernel, by decide +kernel⟩
def spDraw : Sp := fun vs H Q _ => ∃ (f : Addr) (m : Int), vs = [.ref f, .int m] ∧ Flow H f ∧ 0 < m ∧ m < 1073741824 ∧ ∀ (d : Int) (H' : Hp), 0 ≤ d → d < m → Dr f H H' → Q (.int d) H'
theorem dr_put {f : Addr} {H H0 : Hp} {xs : List V} (o : ∀ b, b ≠ f → H0 b = H b) (fl : Flow (upd H0 f (.lst xs)) f) : Dr f H (upd H0 f (.lst xs)) := ⟨fun b n => by rw [upd_ne n]; exact o b n, fl⟩
theorem ok_l_draw (D : DefAt K mg "_law_draw" s_l_draw ["_law_flow_here", "_law_many"]) : Cal P w K mg base 1 "_law_draw" ["_law_flow_here", "_law_many"] (spDraw) := by
  refine cal_of D sc_l_draw (fun vs H Q E h => ?_) (fun f cdv A outer s H vs Q E hr h => ?_)
  · obtain ⟨a, m, rfl, _⟩ := h
    rfl
  obtain ⟨a, m, rfl, ⟨own, cnt, seed, hf, s0, s1⟩, m0, m1, q⟩ := h
  refine ⟨_, (pss_cons (ps_if (pt_cmpR op_gt (pe_ix ix_list (pv 0) pe_int (fun _ _ => rfl)) pe_int (nomark _))
        (pss_cons (ps_set (i := 3) sc_l_draw.nd rfl (.inl rfl) (pe_op op_mod (pe_ix ix_list (pv 0) pe_int (fun _ _ => rfl)) (pv 1)))
      (pss_cons (ps_asg (pe_op op_fdiv (pe_ix ix_list (pv 0) pe_int (fun _ _ => rfl)) (pv 1)) (pg_sub (pv 0) pe_int set_list))
      (pss_one (ps_ret (pv 3)))))
        pss_nil)
      (pss_cons (ps_asg (pe_op op_add (pe_ix ix_list (pv 0) pe_int (fun _ _ => rfl)) pe_int) (pg_sub (pv 0) pe_int set_list))
      (pss_cons (ps_set (i := 2) sc_l_draw.nd rfl (.inl rfl) (pe_op op_mod (pe_op op_add (pe_op op_add (pe_op op_mul (pe_ix ix_list (pv 0) pe_int (fun _ _ => rfl)) (pe_op op_add pe_int (pe_op op_mul pe_int (pe_ix ix_list (pv 0) pe_int (fun _ _ => rfl))))) (pe_op op_mul pe_int (pe_ix ix_list (pv 0) pe_int (fun _ _ => rfl)))) pe_int) pe_int))
      (pss_cons (ps_set (i := 2) sc_l_draw.nd rfl (.inl rfl) (pe_op op_mod (pe_op op_mul (pv 2) (pv 2)) pe_int))
      (pss_one (ps_ret (pe_op op_mod (pe_op op_fdiv (pe_op op_mod (pe_op op_mul (pe_op op_add (pv 2) pe_int) (pe_op op_add (pv 2) pe_int)) pe_int) pe_int) (pv 1)))))))), ?_⟩
  have L : SqL K H a [.int own, .int cnt, .int seed] := SqL.of hf
  refine ⟨_, rfl, a, _, 0, .int own, rfl, rfl, L, rfl, _, _, rfl, rfl, _, rfl, ite2 (fun c => ?_) (fun c => ?_)⟩
  · have b1 : 0 ≤ own % m := Int.emod_nonneg _ (by omega)
    have b2 : own % m < m := Int.emod_lt_of_pos _ m0
    refine ⟨_, rfl, a, _, 0, .int own, rfl, rfl, L, rfl, _, rfl, _, _, rfl, rfl, m0, ?_⟩
    refine ⟨_, rfl, a, _, 0, .int own, rfl, rfl, L, rfl, _, rfl, _, _, rfl, rfl, ⟨m0, m1⟩, ?_⟩
    refine ⟨_, rfl, a, _, 0, 0, rfl, rfl, hf, rfl, ?_⟩
    exact ⟨_, rfl, q _ _ b1 b2 (dr_put (fun _ _ => rfl) ⟨_, _, _, upd_same, s0, s1⟩)⟩
  · refine ⟨_, rfl, a, _, 1, .int cnt, rfl, rfl, L, rfl, _, _, rfl, rfl, ?_⟩
    refine ⟨_, rfl, a, _, 1, 1, rfl, rfl, hf, rfl, ?_⟩
    have hf2 : (upd H a (.lst (List.set [.int own, .int cnt, .int seed] 1 (.int (cnt + 1))))) a = some (.lst [.int own, .int (cnt + 1), .int seed]) := upd_same
    generalize hH : upd H a (.lst (List.set [.int own, .int cnt, .int seed] 1 (.int (cnt + 1)))) = H2 at hf2
    have off : ∀ b, b ≠ a → H2 b = H b := fun b n => by
      rw [← hH, upd_ne n]
    have L2' : SqL K H2 a [.int own, .int (cnt + 1), .int seed] := SqL.of hf2
    refine ⟨_, rfl, a, _, 2, .int seed, rfl, rfl, L2', rfl, _, rfl, a, _, 1, .int (cnt + 1), rfl, rfl, L2', rfl, _, _, rfl, rfl, .inl ⟨by decide, by decide⟩, _, _, rfl, rfl, _, _, rfl, rfl, .inl ⟨by omega, by omega⟩, ?_⟩
    refine ⟨_, rfl, a, _, 1, .int (cnt + 1), rfl, rfl, L2', rfl, _, _, rfl, rfl, .inl ⟨by decide, by decide⟩, _, _, rfl, rfl, _, _, rfl, rfl, _, _, rfl, rfl, (by show (0 : Int) < 2147483629; decide), ?_⟩
    have n1 := Int.emod_nonneg (seed * (48271 + 2 * (cnt + 1)) + 7919 * (cnt + 1) + 1) (show (2147483629 : Int) ≠ 0 by decide)
    have n2 := Int.emod_lt_of_pos (seed * (48271 + 2 * (cnt + 1)) + 7919 * (cnt + 1) + 1) (show (0 : Int) < 2147483629 by decide)
    generalize (seed * (48271 + 2 * (cnt + 1)) + 7919 * (cnt + 1) + 1) % 2147483629 = n at n1 n2
    refine ⟨_, rfl, _, rfl, _, _, rfl, rfl, .inl ⟨by omega, by omega⟩, _, _, rfl, rfl, (by show (0 : Int) < 2147483587; decide), ?_⟩
    have k1 := Int.emod_nonneg (n * n) (show (2147483587 : Int) ≠ 0 by decide)
    have k2 := Int.emod_lt_of_pos (n * n) (show (0 : Int) < 2147483587 by decide)
    generalize n * n % 2147483587 = k at k1 k2
    refine ⟨_, rfl, _, _, rfl, rfl, _, rfl, _, _, rfl, rfl, _, _, rfl, rfl, .inl ⟨by omega, by omega⟩, _, _, rfl, rfl, (by show (0 : Int) < 2147483579; decide), _, _, rfl, rfl, ⟨by decide, by decide⟩, _, rfl, _, _, rfl, rfl, m0, ?_⟩
    exact q _ _ (Int.emod_nonneg _ (by omega)) (Int.emod_lt_of_pos _ m0) ⟨off, ⟨_, _, _, hf2, s0, s1⟩⟩
end
end Lm

set_option Elab.async false
set_option linter.all false
set_option maxRecDepth 100000
set_option maxHeartbeats 2000000
namespace Lm
open PySem PySem.Spec PyProof.Rows L2 LmR
/-! ### flat data: kinds, sizes -/
def tyn : PyData → String
  | .none => "NoneType"
  | .bool _ => "bool"
  | .int _ => "int"
  | .str _ => "str"
  | .list _ => "list"
  | .tuple _ => "tuple"
  | .dict _ => "dict"
theorem tyx_tup {K : PySem.W.Frag} {H : Hp} {a : Addr} {xs : List V} (q : SqT K H a xs) : TyX K H (.ref a) (.type "tuple") := by
  rcases q with (q | ⟨o, q⟩) | ⟨o, its, n, hk, hc, _⟩
  · exact .base (.tup q)
  · exact .fTuple q
  · exact .kTuple hk hc
theorem Fd.ty {K : PySem.W.Frag} {H : Hp} {v : V} {d : PyData} (h : Fd K H v d) : TyX K H v (.type (tyn d)) := by
  obtain ⟨f, h⟩ := h
  cases h with
  | non => exact .base .non
  | bl b => exact .base (.bl b)
  | int i => exact .base (.int i)
  | str x => exact .base (.str x)
  | lst q r => simp [flat] at f
  | tup q r => exact tyx_tup q
def isTup : PyData → Bool
  | .tuple _ => true
  | _ => false
def isBl : PyData → Bool
  | .bool _ => true
  | _ => false
def isStr : PyData → Bool
  | .str _ => true
  | _ => false
def isInt : PyData → Bool
  | .bool _ => true
  | .int _ => true
  | _ => false
theorem kit_tup {K : PySem.W.Frag} (d : PyData) (h : flat d = true) : PySem.W.kitOne K (.type (tyn d)) (.type "tuple") = some (isTup d) := by
  cases d <;> first | (simp [flat] at h; done) | exact kit_ty (a := "NoneType") (r := true) (by decide +kernel) | exact kit_ty (a := "NoneType") (r := false) (by decide +kernel) | exact kit_ty (a := "bool") (r := true) (by decide +kernel) | exact kit_ty (a := "bool") (r := false) (by decide +kernel) | exact kit_ty (a := "int") (r := true) (by decide +kernel) | exact kit_ty (a := "int") (r := false) (by decide +kernel) | exact kit_ty (a := "str") (r := true) (by decide +kernel) | exact kit_ty (a := "str") (r := false) (by decide +kernel) | exact kit_ty (a := "tuple") (r := true) (by decide +kernel) | exact kit_ty (a := "tuple") (r := false) (by decide +kernel)
theorem kit_bl {K : PySem.W.Frag} (d : PyData) (h : flat d = true) : PySem.W.kitOne K (.type (tyn d)) (.type "bool") = some (isBl d) := by
  cases d <;> first | (simp [flat] at h; done) | exact kit_ty (a := "NoneType") (r := true) (by decide +kernel) | exact kit_ty (a := "NoneType") (r := false) (by decide +kernel) | exact kit_ty (a := "bool") (r := true) (by decide +kernel) | exact kit_ty (a := "bool") (r := false) (by decide +kernel) | exact kit_ty (a := "int") (r := true) (by decide +kernel) | exact kit_ty (a := "int") (r := false) (by decide +kernel) | exact kit_ty (a := "str") (r := true) (by decide +kernel) | exact kit_ty (a := "str") (r := false) (by decide +kernel) | exact kit_ty (a := "tuple") (r := true) (by decide +kernel) | exact kit_ty (a := "tuple") (r := false) (by decide +kernel)
theorem kit_str {K : PySem.W.Frag} (d : PyData) (h : flat d = true) : PySem.W.kitOne K (.type (tyn d)) (.type "str") = some (isStr d) := by
  cases d <;> first | (simp [flat] at h; done) | exact kit_ty (a := "NoneType") (r := true) (by decide +kernel) | exact kit_ty (a := "NoneType") (r := false) (by decide +kernel) | exact kit_ty (a := "bool") (r := true) (by decide +kernel) | exact kit_ty (a := "bool") (r := false) (by decide +kernel) | exact kit_ty (a := "int") (r := true) (by decide +kernel) | exact kit_ty (a := "int") (r := false) (by decide +kernel) | exact kit_ty (a := "str") (r := true) (by decide +kernel) | exact kit_ty (a := "str") (r := false) (by decide +kernel) | exact kit_ty (a := "tuple") (r := true) (by decide +kernel) | exact kit_ty (a := "tuple") (r := false) (by decide +kernel)
theorem kit_int {K : PySem.W.Frag} (d : PyData) (h : flat d = true) : PySem.W.kitOne K (.type (tyn d)) (.type "int") = some (isInt d) := by
  cases d <;> first | (simp [flat] at h; done) | exact kit_ty (a := "NoneType") (r := true) (by decide +kernel) | exact kit_ty (a := "NoneType") (r := false) (by decide +kernel) | exact kit_ty (a := "bool") (r := true) (by decide +kernel) | exact kit_ty (a := "bool") (r := false) (by decide +kernel) | exact kit_ty (a := "int") (r := true) (by decide +kernel) | exact kit_ty (a := "int") (r := false) (by decide +kernel) | exact kit_ty (a := "str") (r := true) (by decide +kernel) | exact kit_ty (a := "str") (r := false) (by decide +kernel) | exact kit_ty (a := "tuple") (r := true) (by decide +kernel) | exact kit_ty (a := "tuple") (r := false) (by decide +kernel)
/-- how many things are in it -/
def dsz : PyData → Nat
  | .tuple xs => 1 + dszs xs
  | _ => 1
where dszs : List PyData → Nat
  | [] => 0
  | d :: ds => dsz d + dszs ds
theorem dsz_pos (d : PyData) : 1 ≤ dsz d := by cases d <;> simp [dsz]
theorem dszs_len : ∀ ds : List PyData, ds.length ≤ dsz.dszs ds
  | [] => Nat.le_refl _
  | d :: ds => by
    have h1 := dsz_pos d
    have h2 := dszs_len ds
    simp only [dsz.dszs, List.length_cons]
    omega
theorem dszs_app : ∀ ds es : List PyData, dsz.dszs (ds ++ es) = dsz.dszs ds + dsz.dszs es
  | [], es => by simp [dsz.dszs]
  | d :: ds, es => by
    have h := dszs_app ds es
    simp only [List.cons_append, dsz.dszs]
    omega
/-- a pair of two things alike -/
def Pr (K : PySem.W.Frag) (H : Hp) (t : Addr) (d : PyData) : Prop := ∃ x y, H t = some (.tup [x, y]) ∧ Fd K H x d ∧ Fd K H y d
theorem Pr.keep {K : PySem.W.Frag} {H H' : Hp} {t : Addr} {d : PyData} (h : Pr K H t d) (s : ∀ xs, H t = some (.tup xs) → H' t = some (.tup xs)) (t' : Tp K H H') : Pr K H' t d := by
  obtain ⟨x, y, e, a, b⟩ := h
  exact ⟨x, y, s _ e, a.keep t', b.keep t'⟩
theorem while_m {c : TT} {tb : TS} {D : Ends} {σ : L2.St} {H : Hp} (W : Nat → L2.St → Hp → Prop) (h0 : ∃ m, W m σ H)
    (hs : ∀ m σ H, W m σ H → c σ H fun b H1 => if b = true then ∃ N : L2.St → Hp → Prop, (∀ σ' H', N σ' H' → ∃ m', m' < m ∧ W m' σ' H') ∧ tb { D with nx := N, ct := N, bk := D.nx } σ H1 else D.nx σ H1) : tWhile c tb D σ H := ⟨W, h0, hs⟩
theorem dpall_get {K : PySem.W.Frag} {H : Hp} : ∀ {vs : List V} {ds : List PyData}, DpAll K H vs ds → ∀ (j : Nat) (v : V), vs[j]? = some v → ∃ d, ds[j]? = some d ∧ Dp K H v d
  | _, _, .nil, j, v, h => by simp at h
  | _, _, .cons a b, 0, v, h => by
    have e := Option.some.inj h
    subst e
    exact ⟨_, rfl, a⟩
  | _, _, .cons a b, j + 1, v, h => dpall_get b j v h
theorem dpall_len {K : PySem.W.Frag} {H : Hp} : ∀ {vs : List V} {ds : List PyData}, DpAll K H vs ds → vs.length = ds.length
  | _, _, .nil => rfl
  | _, _, .cons a b => by rw [List.length_cons, List.length_cons, dpall_len b]
theorem flats_get : ∀ {ds : List PyData}, flat.flats ds = true → ∀ (j : Nat) (d : PyData), ds[j]? = some d → flat d = true
  | [], _, j, d, h => by simp at h
  | e :: ds, f, 0, d, h => by
    rw [flat.flats, Bool.and_eq_true] at f
    have e := Option.some.inj h
    subst e
    exact f.1
  | e :: ds, f, j + 1, d, h => by
    rw [flat.flats, Bool.and_eq_true] at f
    exact flats_get f.2 j d h
section
variable {P : Program} {w : World} {K : PySem.W.Frag} {mg : Str → Option Value} {base : Heap}
abbrev s_l_alike : Stmt := topS 31
theorem sc_l_alike : FnScope ["_law_found", "_law_due", "_law_left", "_law_one", "_law_other"] ["_law_found", "_law_due"] (defScope s_l_alike) := ⟨rfl, rfl, rfl, by decide +kernel, rfl, by decide +kernel, by decide +kernel⟩
def spAlike (K : PySem.W.Frag) : Sp := fun vs H Q _ => ∃ (x y : V) (d : PyData), vs = [x, y] ∧ Fd K H x d ∧ Fd K H y d ∧ dsz d ≤ 90000 ∧ ∀ H', Same H H' → Q (.bl true) H'
theorem ok_l_alike (B : Bt mg) (D : DefAt K mg "_law_alike" s_l_alike ["_law_found", "_law_due"]) : Cal P w K mg base 1 "_law_alike" ["_law_found", "_law_due"] (spAlike K) := by
  refine cal_of D sc_l_alike (fun vs H Q E h => ?_) (fun f cdv A outer s H vs Q E hr h => ?_)
  · obtain ⟨x, y, d, rfl, _⟩ := h
    rfl
  obtain ⟨x, y, d, rfl, hx, hy, hd, q⟩ := h
  refine ⟨_, (pss_cons (ps_set (i := 2) sc_l_alike.nd rfl (.inl rfl) (pe_lst (pa_cons (pe_tup (pa_cons (pv 0) (pa_cons (pv 1) pa_nil))) pa_nil)))
      (pss_cons (ps_while PassesOwn.never (pt_cmpR op_gt (pe_callB call_len_seq (by rfl) B.len PySem.boot_len (pa_cons (pv 2) pa_nil)) pe_int (nomark _))
        (pss_cons (ps_asg (pe_bm0 PySem.F.plainAttrs_list PySem.F.slot_list_pop PySem.F.type_list_pop mt_pop (pv 2)) (pg_tup rfl (pgs_cons (pg_name (i := 3) sc_l_alike.nd rfl (.inl rfl)) (pgs_cons (pg_name (i := 4) sc_l_alike.nd rfl (.inl rfl)) pgs_nil))))
      (pss_cons (ps_if (pt_cmpR op_ne (pe_callB call_isi (by rfl) B.isinstance (by decide +kernel) (pa_cons (pv 3) (pa_cons (pe_bltn (v := .ty "tuple") (by rfl) B.tuple PyProof.Rows.boot_tuple rfl) pa_nil))) (pe_callB call_isi (by rfl) B.isinstance (by decide +kernel) (pa_cons (pv 4) (pa_cons (pe_bltn (v := .ty "tuple") (by rfl) B.tuple PyProof.Rows.boot_tuple rfl) pa_nil))) (nomark _))
        (pss_one (ps_ret pe_bl))
        pss_nil)
      (pss_cons (ps_if (pt_cmpR op_ne (pe_callB call_isi (by rfl) B.isinstance (by decide +kernel) (pa_cons (pv 3) (pa_cons (pe_bltn (v := .ty "bool") (by rfl) B.bool PyProof.Rows.boot_bool rfl) pa_nil))) (pe_callB call_isi (by rfl) B.isinstance (by decide +kernel) (pa_cons (pv 4) (pa_cons (pe_bltn (v := .ty "bool") (by rfl) B.bool PyProof.Rows.boot_bool rfl) pa_nil))) (nomark _))
        (pss_one (ps_ret pe_bl))
        pss_nil)
      (pss_one (ps_if (pt_val (pe_callB call_isi (by rfl) B.isinstance (by decide +kernel) (pa_cons (pv 4) (pa_cons (pe_bltn (v := .ty "tuple") (by rfl) B.tuple PyProof.Rows.boot_tuple rfl) pa_nil))))
        (pss_cons (ps_if (pt_cmpR op_ne (pe_callB call_len_seq (by rfl) B.len PySem.boot_len (pa_cons (pv 3) pa_nil)) (pe_callB call_len_seq (by rfl) B.len PySem.boot_len (pa_cons (pv 4) pa_nil)) (nomark _))
        (pss_one (ps_ret pe_bl))
        pss_nil)
      (pss_one (ps_expr (pe_bm PySem.F.plainAttrs_list PySem.F.slot_list_extend PySem.F.type_list_extend mt_extend (pv 2) (pa_cons (pe_listZip rfl (by rfl) B.list (by rfl) B.zip (pa_cons (pv 3) (pa_cons (pv 4) pa_nil))) pa_nil)))))
        (pss_one (ps_if (PW.pt (pw_or (pt_cmpR op_ne (pe_callB call_isi (by rfl) B.isinstance (by decide +kernel) (pa_cons (pv 3) (pa_cons (pe_bltn (v := .ty "str") (by rfl) B.str PyProof.Rows.boot_str rfl) pa_nil))) (pe_callB call_isi (by rfl) B.isinstance (by decide +kernel) (pa_cons (pv 4) (pa_cons (pe_bltn (v := .ty "str") (by rfl) B.str PyProof.Rows.boot_str rfl) pa_nil))) (nomark _)) (pw_or1 (pt_cmpR op_ne (pv 3) (pv 4) (nomark _)))))
        (pss_one (ps_ret pe_bl))
        pss_nil))))))))
      (pss_one (ps_ret pe_bl)))), ?_⟩
  refine ⟨_, rfl, _, rfl, (by show 2 ≤ sizeLine; decide), fun t ht => ⟨(by show 1 ≤ sizeLine; decide), fun l hl => ?_⟩⟩
  have s1 : Same H (upd H t (.tup [x, y])) := same_new ht
  have s2 : Same (upd H t (.tup [x, y])) (upd (upd H t (.tup [x, y])) l (.lst [.ref t])) := same_new hl
  have hlH : H l = none := s1.free hl
  refine while_m (fun m σ H' => ∃ (ps : List (Addr × PyData)) (y3 y4 : Option V), σ = [some x, some y, some (.ref l), y3, y4] ∧ m = dsz.dszs (ps.map (·.2)) ∧ m ≤ 90000 ∧ Same H H' ∧ H' l = some (.lst (ps.map fun p => V.ref p.1)) ∧ ∀ p ∈ ps, Pr K H' p.1 p.2) ?_ ?_
  · refine ⟨_, [(t, d)], none, none, rfl, rfl, ?_, s1.trans s2, upd_same, fun p hp => ?_⟩
    · show dsz d + 0 ≤ 90000
      omega
    · rw [List.mem_singleton.mp hp]
      exact ⟨x, y, s2 _ _ upd_same, hx.keep (Tp.same (s1.trans s2)), hy.keep (Tp.same (s1.trans s2))⟩
  · rintro m σ H' ⟨ps, y3, y4, rfl, rfl, hm, sm, hL, hP⟩
    refine ⟨_, rfl, l, _, rfl, .inl (SqL.of hL), _, _, rfl, rfl, _, rfl, ite2 (fun c => ?_) (fun c => ?_)⟩
    · have c' : (((ps.map fun p => V.ref p.1).length : Nat) : Int) > 0 := of_decide_eq_true c
      rw [List.length_map] at c'
      obtain ⟨qs, ⟨u, e⟩, rfl⟩ : ∃ qs p, ps = qs ++ [p] := by
        rcases List.eq_nil_or_concat ps with h | ⟨qs, p, h⟩
        · rw [h] at c'
          simp at c'
        · exact ⟨qs, p, by rw [h, List.concat_eq_append]⟩
      have hm2 : dsz.dszs ((qs ++ [(u, e)]).map (·.2)) = dsz.dszs (qs.map (·.2)) + dsz e := by
        rw [List.map_append, dszs_app]
        simp [dsz.dszs]
      obtain ⟨a, b, hu, ha, hb⟩ := hP (u, e) (by simp)
      have hLm : H' l = some (.lst ((qs.map fun p => V.ref p.1) ++ [V.ref u])) := by
        rw [hL, List.map_append]
        rfl
      have nu : u ≠ l := fun z => by
        have hu' : H' u = some (.tup [a, b]) := hu
        rw [z, hLm] at hu'
        cases hu'
      -- what was popped
      refine ⟨fun σ' H2 => ∃ m', m' < dsz.dszs ((qs ++ [(u, e)]).map (·.2)) ∧ ∃ (ps : List (Addr × PyData)) (y3 y4 : Option V), σ' = [some x, some y, some (.ref l), y3, y4] ∧ m' = dsz.dszs (ps.map (·.2)) ∧ m' ≤ 90000 ∧ Same H H2 ∧ H2 l = some (.lst (ps.map fun p => V.ref p.1)) ∧ ∀ p ∈ ps, Pr K H2 p.1 p.2, fun σ' H2 h => h, ?_⟩
      refine ⟨_, rfl, .inl ⟨rfl, _, SqL.of hLm⟩, l, _, .ref u, rfl, rfl, hLm, ?_, ?_⟩
      · rw [List.length_append, List.length_singleton, Nat.add_sub_cancel, List.getElem?_append_right (Nat.le_refl _), Nat.sub_self]
        rfl
      rw [List.dropLast_concat]
      have hl2 : (upd H' l (.lst (qs.map fun p => V.ref p.1))) l = some (.lst (qs.map fun p => V.ref p.1)) := upd_same
      have o2 : ∀ b, b ≠ l → (upd H' l (.lst (qs.map fun p => V.ref p.1))) b = H' b := fun b n => upd_ne n
      have t2 : Tp K H' (upd H' l (.lst (qs.map fun p => V.ref p.1))) := Tp.lst hLm
      have sm2 : Same H (upd H' l (.lst (qs.map fun p => V.ref p.1))) := fun c o z => by
        rw [o2 c (ne_of_none z hlH)]
        exact sm c o z
      generalize upd H' l (.lst (qs.map fun p => V.ref p.1)) = H2 at hl2 o2 t2 sm2
      have hP2 : ∀ p ∈ qs, Pr K H2 p.1 p.2 := fun p hp => by
        have z := hP p (List.mem_append_left _ hp)
        refine z.keep (fun xs h => ?_) t2
        have np : p.1 ≠ l := fun z => by
          rw [z, hLm] at h
          cases h
        rw [o2 _ np]
        exact h
      have ha2 := ha.keep t2
      have hb2 := hb.keep t2
      have hu2 : H2 u = some (.tup [a, b]) := by
        rw [o2 u nu]
        exact hu
      refine ⟨u, [a, b], rfl, .inl (.inl hu2), rfl, a, [b], rfl, b, [], rfl, rfl, ?_⟩
      have fe := ha2.1
      refine ⟨_, rfl, a, _, _, _, _, rfl, .ty _, ha2.ty, kit_tup e fe, _, rfl, b, _, _, _, _, rfl, .ty _, hb2.ty, kit_tup e fe, rfl, _, rfl, iteNS rfl ?_⟩
      refine ⟨_, rfl, a, _, _, _, _, rfl, .ty _, ha2.ty, kit_bl e fe, _, rfl, b, _, _, _, _, rfl, .ty _, hb2.ty, kit_bl e fe, rfl, _, rfl, iteNS rfl ?_⟩
      refine ⟨_, rfl, b, _, _, _, _, rfl, .ty _, hb2.ty, kit_tup e fe, _, rfl, ?_⟩
      cases e with
      | list ds => simp [flat] at fe
      | dict ds => simp [flat] at fe
      | tuple ds =>
        refine iteT ?_
        obtain ⟨_, da⟩ := ha2
        obtain ⟨_, db⟩ := hb2
        cases da with
        | @tup ta xs _ qa ra =>
          cases db with
          | @tup tb ys _ qb rb =>
            have la := dpall_len ra
            have lb := dpall_len rb
            have lab : xs.length = ys.length := by omega
            refine ⟨_, rfl, ta, xs, rfl, .inr qa, _, rfl, tb, ys, rfl, .inr qb, rfl, _, rfl, iteNS (by rw [lab]) ?_⟩
            refine ⟨_, rfl, .inl ⟨rfl, _, SqL.of hl2⟩, _, rfl, _, rfl, ta, tb, xs, ys, rfl, qa, qb, lab, fun H3 p ts s3 pn tn hp3 lt pr => ?_⟩
            have hl3 : H3 l = some (.lst (qs.map fun p => V.ref p.1)) := s3 _ _ hl2
            have hle : ds.length ≤ dsz.dszs ds := dszs_len ds
            have hm3 : dsz (.tuple ds) = 1 + dsz.dszs ds := rfl
            have hq : qs.length ≤ dsz.dszs (qs.map (·.2)) := by
              have z := dszs_len (qs.map (·.2))
              rw [List.length_map] at z
              exact z
            refine ⟨l, p, _, _, rfl, rfl, hl3, hp3, ?_, ?_⟩
            · rw [List.length_map, List.length_map]
              exact small (by omega)
            · have t3 : Tp K H2 (upd H3 l (.lst ((qs.map fun p => V.ref p.1) ++ ts.map V.ref))) := (Tp.same s3).trans (Tp.lst hl3)
              have o3 : ∀ b o, b ≠ l → H2 b = some o → (upd H3 l (.lst ((qs.map fun p => V.ref p.1) ++ ts.map V.ref))) b = some o := fun b o n z => by
                rw [upd_ne n]
                exact s3 _ _ z
              have ltd : ts.length = ds.length := by omega
              have ez : (ts.zip ds).map (·.2) = ds := by
                rw [List.map_snd_zip]
                omega
              have ef : (ts.zip ds).map (·.1) = ts := by
                rw [List.map_fst_zip]
                omega
              refine ⟨dsz.dszs ((qs ++ ts.zip ds).map (·.2)), ?_, qs ++ ts.zip ds, some (.ref ta), some (.ref tb), rfl, rfl, ?_, fun c o z => ?_, ?_, fun p' hp' => ?_⟩
              · rw [List.map_append, dszs_app, ez, hm2, hm3]
                omega
              · rw [List.map_append, dszs_app, ez]
                rw [hm2, hm3] at hm
                omega
              · exact o3 c o (ne_of_none z hlH) (sm2 c o z)
              · rw [upd_same, List.map_append]
                have ev : (ts.zip ds).map (fun p => V.ref p.1) = ts.map V.ref := by
                  rw [← congrArg (List.map V.ref) ef, List.map_map]
                  rfl
                rw [ev]
              · rcases List.mem_append.mp hp' with z | z
                · have zz := hP2 p' z
                  refine zz.keep (fun xs h => ?_) t3
                  have np : p'.1 ≠ l := fun z => by
                    rw [z, hl2] at h
                    cases h
                  exact o3 _ _ np h
                · obtain ⟨j, hj⟩ := List.mem_iff_getElem?.mp z
                  rw [List.getElem?_zip_eq_some] at hj
                  obtain ⟨j1, j2⟩ := hj
                  obtain ⟨x', y', e1, e2, e3⟩ := pr j p'.1 j1
                  obtain ⟨d1, f1, g1⟩ := dpall_get ra j x' e1
                  obtain ⟨d2, f2, g2⟩ := dpall_get rb j y' e2
                  rw [j2] at f1 f2
                  have h1 := Option.some.inj f1
                  have h2 := Option.some.inj f2
                  have np : p'.1 ≠ l := fun z => by
                    rw [z, hl3] at e3
                    cases e3
                  have fj := flats_get fe j _ j2
                  refine ⟨x', y', by rw [upd_ne np]; exact e3, ?_, ?_⟩
                  · exact Fd.keep ⟨fj, by rw [h1]; exact g1⟩ t3
                  · exact Fd.keep ⟨fj, by rw [h2]; exact g2⟩ t3
      | none =>
        refine iteF ?_
        obtain ⟨_, da⟩ := ha2
        obtain ⟨_, db⟩ := hb2
        cases da
        cases db
        refine ⟨_, rfl, _, _, _, _, _, rfl, .ty _, .base .non, kit_str .none rfl, _, rfl, _, _, _, _, _, rfl, .ty _, .base .non, kit_str .none rfl, rfl, _, rfl, ?_⟩
        refine iteF ⟨_, rfl, _, rfl, rfl, _, rfl, iteF ?_⟩
        refine ⟨dsz.dszs (qs.map (·.2)), by rw [hm2]; show _ < _ + 1; omega, qs, some .non, some .non, rfl, rfl, by rw [hm2] at hm; omega, sm2, hl2, hP2⟩
      | bool v =>
        refine iteF ?_
        obtain ⟨_, da⟩ := ha2
        obtain ⟨_, db⟩ := hb2
        cases da
        cases db
        refine ⟨_, rfl, _, _, _, _, _, rfl, .ty _, .base (.bl v), kit_str (.bool v) rfl, _, rfl, _, _, _, _, _, rfl, .ty _, .base (.bl v), kit_str (.bool v) rfl, rfl, _, rfl, ?_⟩
        refine iteF ⟨_, rfl, _, rfl, rfl, _, rfl, iteNS rfl ?_⟩
        refine ⟨dsz.dszs (qs.map (·.2)), by rw [hm2]; show _ < _ + 1; omega, qs, some (.bl v), some (.bl v), rfl, rfl, by rw [hm2] at hm; omega, sm2, hl2, hP2⟩
      | int v =>
        refine iteF ?_
        obtain ⟨_, da⟩ := ha2
        obtain ⟨_, db⟩ := hb2
        cases da
        cases db
        refine ⟨_, rfl, _, _, _, _, _, rfl, .ty _, .base (.int v), kit_str (.int v) rfl, _, rfl, _, _, _, _, _, rfl, .ty _, .base (.int v), kit_str (.int v) rfl, rfl, _, rfl, ?_⟩
        refine iteF ⟨_, rfl, _, rfl, rfl, _, rfl, iteNS rfl ?_⟩
        refine ⟨dsz.dszs (qs.map (·.2)), by rw [hm2]; show _ < _ + 1; omega, qs, some (.int v), some (.int v), rfl, rfl, by rw [hm2] at hm; omega, sm2, hl2, hP2⟩
      | str v =>
        refine iteF ?_
        obtain ⟨_, da⟩ := ha2
        obtain ⟨_, db⟩ := hb2
        cases da
        cases db
        refine ⟨_, rfl, _, _, _, _, _, rfl, .ty _, .base (.str v), kit_str (.str v) rfl, _, rfl, _, _, _, _, _, rfl, .ty _, .base (.str v), kit_str (.str v) rfl, rfl, _, rfl, ?_⟩
        refine iteF ⟨_, rfl, _, rfl, rfl, _, rfl, iteNS rfl ?_⟩
        refine ⟨dsz.dszs (qs.map (·.2)), by rw [hm2]; show _ < _ + 1; omega, qs, some (.str v), some (.str v), rfl, rfl, by rw [hm2] at hm; omega, sm2, hl2, hP2⟩
    · exact q _ sm
end
end Lm

set_option Elab.async false
set_option linter.all false
set_option maxRecDepth 100000
set_option maxHeartbeats 2000000
namespace Lm
open PySem PySem.Spec PyProof.Rows L2 LmR
theorem iteY {c : Prop} [Decidable c] {A B : Prop} (h : c) (a : A) : if c then A else B := by rw [if_pos h]; exact a
/-! ### stocks, as any data -/
def wholeD (d : PyData) : Bool := isInt d && !isBl d
/-- a thing with its weight, of a part's form -/
def pairD (word : Bool) : PyData → Bool
  | .tuple [a, b] => wholeD b && (if word then isStr a else wholeD a)
  | _ => false
section
variable {P : Program} {w : World} {K : PySem.W.Frag} {mg : Str → Option Value} {base : Heap}
abbrev s_is_whole : Stmt := topS 15
theorem sc_is_whole : FnScope ["thing"] ["thing"] (defScope s_is_whole) := ⟨rfl, rfl, rfl, by decide +kernel, rfl, by decide +kernel, by decide +kernel⟩
def spWhole (K : PySem.W.Frag) : Sp := fun vs H Q _ => ∃ (v : V) (d : PyData), vs = [v] ∧ Fd K H v d ∧ Q (.bl (wholeD d)) H
theorem ok_is_whole (B : Bt mg) (D : DefAt K mg "is_whole" s_is_whole ["thing"]) : Cal P w K mg base 1 "is_whole" ["thing"] (spWhole K) := by
  refine cal_of D sc_is_whole (fun vs H Q E h => ?_) (fun f cdv A outer s H vs Q E hr h => ?_)
  · obtain ⟨v, d, rfl, _⟩ := h
    rfl
  obtain ⟨v, d, rfl, hv, q⟩ := h
  refine ⟨_, (pss_one (ps_ret (pe_and (pe_callB call_isi (by rfl) B.isinstance (by decide +kernel) (pa_cons (pv 0) (pa_cons (pe_bltn (v := .ty "int") (by rfl) B.int PyProof.Rows.boot_int rfl) pa_nil))) (pe_one (pe_not (pe_callB call_isi (by rfl) B.isinstance (by decide +kernel) (pa_cons (pv 0) (pa_cons (pe_bltn (v := .ty "bool") (by rfl) B.bool PyProof.Rows.boot_bool rfl) pa_nil)))))))), ?_⟩
  unfold wholeD at q
  refine ⟨_, rfl, v, _, _, _, _, rfl, .ty _, hv.ty, kit_int d hv.1, _, rfl, ite2 (fun c => ?_) (fun c => ?_)⟩
  · rw [c] at q
    exact ⟨_, rfl, v, _, _, _, _, rfl, .ty _, hv.ty, kit_bl d hv.1, _, rfl, q⟩
  · rw [Bool.eq_false_iff.mpr c] at q
    exact q
abbrev s_is_pair : Stmt := topS 23
theorem sc_is_pair : FnScope ["part", "pair"] ["part", "pair"] (defScope s_is_pair) := ⟨rfl, rfl, rfl, by decide +kernel, rfl, by decide +kernel, by decide +kernel⟩
def partS (k : Nat) : Str := if k = 0 then "number" else if k = 1 then "step" else "word"
def spPair (K : PySem.W.Frag) : Sp := fun vs H Q _ => ∃ (k : Nat) (v : V) (d : PyData), vs = [.str (partS k), v] ∧ k ≤ 2 ∧ Fd K H v d ∧ Q (.bl (pairD (k == 2) d)) H
theorem ok_is_pair (B : Bt mg) (C_is_whole : Cal P w K mg base 1 "is_whole" ["thing"] (spWhole K)) (D : DefAt K mg "is_pair" s_is_pair ["part", "pair"]) : Cal P w K mg base 2 "is_pair" ["part", "pair"] (spPair K) := by
  refine cal_of D sc_is_pair (fun vs H Q E h => ?_) (fun f cdv A outer s H vs Q E hr h => ?_)
  · obtain ⟨k, v, d, rfl, _⟩ := h
    rfl
  obtain ⟨k, v, d, rfl, hk, hv, q⟩ := h
  have hr' : Room 1 _ := hr
  refine ⟨_, (pss_cons (ps_if (PW.pt (pw_or (pt_not (pt_val (pe_callB call_isi (by rfl) B.isinstance (by decide +kernel) (pa_cons (pv 1) (pa_cons (pe_bltn (v := .ty "tuple") (by rfl) B.tuple PyProof.Rows.boot_tuple rfl) pa_nil))))) (pw_or (pt_cmpR op_ne (pe_callB call_len_seq (by rfl) B.len PySem.boot_len (pa_cons (pv 1) pa_nil)) pe_int (nomark _)) (pw_or1 (pt_not (pt_val (pe_cal C_is_whole hr' (by rfl) (pa_cons (pe_ix ix_tup (pv 1) pe_int (fun _ _ => rfl)) pa_nil))))))))
        (pss_one (ps_ret pe_bl))
        pss_nil)
      (pss_cons (ps_if (pt_cmpR op_eq (pv 0) pe_str (nomark _))
        (pss_one (ps_ret (pe_callB call_isi (by rfl) B.isinstance (by decide +kernel) (pa_cons (pe_ix ix_tup (pv 1) pe_int (fun _ _ => rfl)) (pa_cons (pe_bltn (v := .ty "str") (by rfl) B.str PyProof.Rows.boot_str rfl) pa_nil)))))
        pss_nil)
      (pss_one (ps_ret (pe_cal C_is_whole hr' (by rfl) (pa_cons (pe_ix ix_tup (pv 1) pe_int (fun _ _ => rfl)) pa_nil)))))), ?_⟩
  refine ⟨_, rfl, v, _, _, _, _, rfl, .ty _, hv.ty, kit_tup d hv.1, _, rfl, ite2 (fun c => ?_) (fun c => ?_)⟩
  · have e : pairD (k == 2) d = false := by cases d <;> first | rfl | (simp [isTup] at c; done)
    rw [e] at q
    exact iteY rfl q
  have it : isTup d = true := by simpa using c
  obtain ⟨ds, rfl⟩ : ∃ ds, d = .tuple ds := by cases d <;> first | exact ⟨_, rfl⟩ | (simp [isTup] at it; done)
  obtain ⟨a, xs, rfl, qa, r⟩ : ∃ a xs, v = .ref a ∧ SqT K H a xs ∧ DpAll K H xs ds := by
    cases hv.2 with
    | tup qa r => exact ⟨_, _, rfl, qa, r⟩
  have hl := dpall_len r
  refine ⟨_, rfl, a, xs, rfl, .inr qa, rfl, _, rfl, ite2 (fun c2 => ?_) (fun c2 => ?_)⟩
  · have n2 : ds.length ≠ 2 := fun z => by
      rw [hl, z] at c2
      simp at c2
    have e : pairD (k == 2) (.tuple ds) = false := by
      match ds, n2 with
      | [], _ => rfl
      | [k], _ => rfl
      | [k, l], z => exact absurd rfl z
      | k :: l :: m :: n, _ => rfl
    rw [e] at q
    exact iteY rfl q
  obtain ⟨k1, k2, rfl⟩ : ∃ k1 k2, ds = [k1, k2] := by
    have n2 : ds.length = 2 := by
      have z : ((xs.length : Nat) : Int) = 2 := by simpa using c2
      omega
    match ds, n2 with
    | [k, l], _ => exact ⟨_, _, rfl⟩
  obtain ⟨v1, v2, rfl, r1, r2⟩ : ∃ v1 v2, xs = [v1, v2] ∧ Dp K H v1 k1 ∧ Dp K H v2 k2 := by
    cases r with
    | cons r1 r => cases r with
      | cons r2 r => cases r; exact ⟨_, _, rfl, r1, r2⟩
  have f12 : flat k1 = true ∧ flat k2 = true := by
    have fd := hv.1
    simpa [flat, flat.flats] using fd
  have h1 : Fd K H v1 k1 := ⟨f12.1, r1⟩
  have h2 : Fd K H v2 k2 := ⟨f12.2, r2⟩
  have ep : pairD (k == 2) (.tuple [k1, k2]) = (wholeD k2 && (if (k == 2) = true then isStr k1 else wholeD k1)) := rfl
  rw [ep] at q
  refine ⟨_, rfl, a, _, 1, v2, rfl, rfl, qa, rfl, v2, k2, rfl, h2, _, rfl, ite2 (fun c3 => ?_) (fun c3 => ?_)⟩
  · have e : wholeD k2 = false := by simpa using c3
    rw [e] at q
    exact q
  have e : wholeD k2 = true := by simpa using c3
  rw [e, Bool.true_and] at q
  have part : ∀ b : Bool, decide (V.str (partS k) = V.str "word") = b → b = (k == 2) := fun b hb => by
    rw [← hb]
    match k, hk with
    | 0, _ => decide +kernel
    | 1, _ => decide +kernel
    | 2, _ => decide +kernel
  refine ⟨_, rfl, rfl, _, rfl, ite2 (fun c4 => ?_) (fun c4 => ?_)⟩
  · have e4 := part _ c4
    rw [← e4, if_pos rfl] at q
    exact ⟨_, rfl, a, _, 0, v1, rfl, rfl, qa, rfl, v1, _, _, _, _, rfl, .ty _, h1.ty, kit_str k1 f12.1, q⟩
  · have e4 := part _ (Bool.eq_false_iff.mpr c4)
    rw [← e4, if_neg Bool.false_ne_true] at q
    exact ⟨_, rfl, a, _, 0, v1, rfl, rfl, qa, rfl, v1, k1, rfl, h1, q⟩
/-- the words that a stock may have -/
def stockW : List Str := ["yes", "no", "least", "most", "atmost", "not", "both", "either", "if"]
structure WordsG (K : PySem.W.Frag) (mg : Str → Option Value) (a : Addr) : Prop where
  g : mg "WORDS" = some (.ref a)
  t : ∀ H, SqT K H a (stockW.map V.str)
/-- what a key is: a number, or a text where words stand -/
def KeyOf (k : Nat) (v : V) : Prop := (k < 2 ∧ ∃ i : Int, v = .int i) ∨ (k = 2 ∧ ∃ s : Str, v = .str s)
def mayV (k : Nat) (v : V) : Bool := if k = 1 then !decide (v = .int 0) else (k == 0 || inV v (stockW.map V.str))
abbrev s_may_stand : Stmt := topS 25
theorem sc_may_stand : FnScope ["part", "key"] ["part", "key"] (defScope s_may_stand) := ⟨rfl, rfl, rfl, by decide +kernel, rfl, by decide +kernel, by decide +kernel⟩
def spMay : Sp := fun vs H Q _ => ∃ (k : Nat) (v : V), vs = [.str (partS k), v] ∧ k ≤ 2 ∧ KeyOf k v ∧ Q (.bl (mayV k v)) H
theorem ok_may_stand {aW : Addr} (B : Bt mg) (W : WordsG K mg aW) (D : DefAt K mg "may_stand" s_may_stand ["part", "key"]) : Cal P w K mg base 1 "may_stand" ["part", "key"] (spMay) := by
  refine cal_of D sc_may_stand (fun vs H Q E h => ?_) (fun f cdv A outer s H vs Q E hr h => ?_)
  · obtain ⟨k, v, rfl, _⟩ := h
    rfl
  obtain ⟨k, v, rfl, hk, hv, q⟩ := h
  have hWORDS := W.g
  refine ⟨_, (pss_cons (ps_if (pt_cmpR op_eq (pv 0) pe_str (nomark _))
        (pss_one (ps_ret (pe_cmpR op_ne (pv 1) pe_int (nomark _))))
        pss_nil)
      (pss_one (ps_ret (pe_or (pe_cmpR op_eq (pv 0) pe_str (nomark _)) (pe_one (pe_cmpR op_in_seq (pv 1) (pe_glob (v := .ref _) (by rfl) hWORDS rfl) rfl)))))), ?_⟩
  rcases hv with ⟨k2, i, rfl⟩ | ⟨rfl, z, rfl⟩
  · rcases (show k = 0 ∨ k = 1 by omega) with rfl | rfl
    · have e : mayV 0 (.int i) = true := by simp [mayV]
      rw [e] at q
      refine ⟨_, rfl, rfl, _, rfl, ite2 (fun c => absurd c (by decide +kernel)) (fun _ => ⟨_, rfl, rfl, _, rfl, ite2 (fun _ => q) (fun c => absurd (by decide +kernel) c)⟩)⟩
    · refine ⟨_, rfl, rfl, _, rfl, ite2 (fun _ => ⟨_, rfl, rfl, ?_⟩) (fun c => absurd (by decide +kernel) c)⟩
      have e : mayV 1 (.int i) = !decide (V.int i = V.int 0) := by simp [mayV]
      rw [e] at q
      exact q
  · have e : mayV 2 (.str z) = inV (.str z) (stockW.map V.str) := by simp [mayV]
    rw [e] at q
    refine ⟨_, rfl, rfl, _, rfl, ite2 (fun c => absurd c (by decide +kernel)) (fun _ => ⟨_, rfl, rfl, _, rfl, ite2 (fun c => absurd c (by decide +kernel)) (fun _ => ?_)⟩)⟩
    exact ⟨_, rfl, aW, _, rfl, .inr (W.t H), rfl, rfl, q⟩
end
end Lm

set_option Elab.async false
set_option linter.all false
set_option maxRecDepth 100000
set_option maxHeartbeats 2000000
namespace Lm
open PySem PySem.Spec PyProof.Rows L2 LmR
def pairsD (word : Bool) : PyData → Bool
  | .tuple ds => ds.all (pairD word)
  | _ => false
theorem sqT_same {K : PySem.W.Frag} {H H' : Hp} {a : Addr} {xs : List V} (s : Same H H') (h : SqT K H a xs) : SqT K H' a xs := by
  rcases h with (h | ⟨o, h⟩) | h
  · exact .inl (.inl (s _ _ h))
  · exact .inl (.inr ⟨o, s _ _ h⟩)
  · exact .inr h
theorem flats_nthD : ∀ ds : List PyData, flat.flats ds = true → ∀ (i : Nat) (d : PyData), ds[i]? = some d → flat d = true
  | [], _, _, _, h => by simp at h
  | d :: ds, a, i, e, h => by
    rw [flat.flats, Bool.and_eq_true] at a
    cases i with
    | zero => simp at h; rw [← h]; exact a.1
    | succ i => exact flats_nthD ds a.2 i e (by simpa using h)
section
variable {P : Program} {w : World} {K : PySem.W.Frag} {mg : Str → Option Value} {base : Heap}
abbrev s_are_pairs : Stmt := topS 22
theorem sc_are_pairs : FnScope ["part", "pairs", "pair"] ["part", "pairs"] (defScope s_are_pairs) := ⟨rfl, rfl, rfl, by decide +kernel, rfl, by decide +kernel, by decide +kernel⟩
def spPairs (K : PySem.W.Frag) : Sp := fun vs H Q _ => ∃ (k : Nat) (v : V) (d : PyData), vs = [.str (partS k), v] ∧ k ≤ 2 ∧ Fd K H v d ∧ dsz d ≤ 1000 ∧ ∀ H', Same H H' → Q (.bl (pairsD (k == 2) d)) H'
theorem ok_are_pairs (B : Bt mg) (C_is_pair : Cal P w K mg base 2 "is_pair" ["part", "pair"] (spPair K)) (D : DefAt K mg "are_pairs" s_are_pairs ["part", "pairs"]) : Cal P w K mg base 3 "are_pairs" ["part", "pairs"] (spPairs K) := by
  refine cal_of D sc_are_pairs (fun vs H Q E h => ?_) (fun f cdv A outer s H vs Q E hr h => ?_)
  · obtain ⟨k, v, d, rfl, _⟩ := h
    rfl
  obtain ⟨k, v, d, rfl, hk, hv, hz, q⟩ := h
  have hr' : Room 2 _ := hr
  refine ⟨_, (pss_one (ps_ret (pe_and (pe_callB call_isi (by rfl) B.isinstance (by decide +kernel) (pa_cons (pv 1) (pa_cons (pe_bltn (v := .ty "tuple") (by rfl) B.tuple PyProof.Rows.boot_tuple rfl) pa_nil))) (pe_one (pe_callB (cr_all rfl) (by rfl) B.all PyProof.Rows.boot_all (pa_cons (pe_lc (own := [("pair", 2)]) (g := gName 2) rfl sc_are_pairs.nd (pi_tup (pv 1)) (blkOk_by (own := [("pair", 2)]) (N := ["part", "pairs", "pair"]) (sc := defScope s_are_pairs) (by decide +kernel)) (fun _ _ _ _ _ => (pg_name (i := 2) sc_are_pairs.nd rfl (.inl rfl))) (fun _ _ _ _ _ => pts_nil) (fun _ _ _ _ _ => (pe_cal C_is_pair hr' (by rfl) (pa_cons (pv 0) (pa_cons (pv 2) pa_nil))))) pa_nil)))))), ?_⟩
  refine ⟨_, rfl, v, _, _, _, _, rfl, .ty _, hv.ty, kit_tup d hv.1, _, rfl, ite2 (fun c => ?_) (fun c => ?_)⟩
  · obtain ⟨ds, rfl⟩ : ∃ ds, d = .tuple ds := by cases d <;> first | exact ⟨_, rfl⟩ | (simp [isTup] at c; done)
    obtain ⟨a, xs, rfl, qa, r⟩ : ∃ a xs, v = .ref a ∧ SqT K H a xs ∧ DpAll K H xs ds := by
      cases hv.2 with
      | tup qa r => exact ⟨_, _, rfl, qa, r⟩
    have hl := dpall_len r
    have hkz : ds.length ≤ 1000 := by
      have z := dszs_len ds
      simp [dsz] at hz
      omega
    have fd : flat.flats ds = true := by
      have := hv.1
      simpa [flat] using this
    refine ⟨_, rfl, a, rfl, ⟨_, qa⟩, fun D hD => lc_tup (K := K) (a := a) (xs := xs) (fun j H' => Same H H' ∧ H' D = some (.lst (((ds.take j).map (pairD (k == 2))).map V.bl))) ?_ ?_ ?_ ?_⟩
    · exact ⟨same_new hD, upd_same⟩
    · rintro j H' _ ⟨s', _⟩
      exact sqT_same s' qa
    · rintro j x H' hx ⟨s', hD'⟩
      obtain ⟨e, he, re⟩ := dpall_get r j x hx
      have fe : Fd K H' x e := Fd.keep ⟨flats_nthD ds fd j e he, re⟩ (fun _ _ h => sqT_same s' h)
      have jl : j < ds.length := (List.getElem?_eq_some_iff.mp he).1
      refine ⟨rfl, _, rfl, _, rfl, k, x, e, rfl, hk, fe, _, hD', by rw [List.length_map, List.length_map, List.length_take]; exact smallL (by omega), fun b o z => ?_, ?_⟩
      · rw [upd_ne (ne_of_none z hD)]
        exact s' _ _ z
      · rw [upd_same, List.take_add_one, he, List.map_append, List.map_append]
        rfl
    · rintro H' ⟨s', hD'⟩
      refine ⟨D, (ds.take xs.length).map (pairD (k == 2)), rfl, SqL.of hD', ?_⟩
      rw [hl, List.take_length, List.all_map]
      exact q H' s'
  · have e : pairsD (k == 2) d = false := by cases d <;> first | rfl | (simp [isTup] at c; done)
    have q' := q H (Same.refl _)
    rw [e] at q'
    exact q'
end
end Lm

set_option Elab.async false
set_option linter.all false
set_option maxRecDepth 100000
set_option maxHeartbeats 2000000
namespace Lm
open PySem PySem.Spec PyProof.Rows L2 LmR RZ
theorem pg_tupK {X : Cx} {K : PySem.W.Frag} {es : List Expr} {k : Nat} {t : TGs} {n : Nat} {pos : Pos} (hK : X.K = K) (hc : X.calm = true) (h : PGs X es t)
    (hn : (assignEach es X.env).length = n := by rfl) (hst : (assignEach es X.env).findIdx? (·.1) = none := by rfl) : PG X (.Tuple es k pos) (gTup K n t) := hK ▸ pg_tup hc h hn hst
/-- a stock's form -/
def tripleD : PyData → Bool
  | .tuple [a, b, c] => pairsD false a && (pairsD false b && pairsD true c)
  | _ => false
theorem walk_zipT {K : PySem.W.Frag} {a b : Addr} {xs ys : List V} {n : Nat} (hn : n = min xs.length ys.length) : Walk (ItzT K a b) n (fun H => SqT K H a xs ∧ SqT K H b ys) (YPair (fun i => xs[i]?) (fun i => ys[i]?)) := by
  subst hn
  refine ⟨fun i _ hi q => ?_, fun _ q => ⟨xs, ys, q.1, q.2, by omega⟩, fun i H v H' _ q y => ?_⟩
  · have h1 : i < xs.length := by omega
    have h2 : i < ys.length := by omega
    exact ⟨xs, ys, xs[i], ys[i], q.1, q.2, by simp [h1], by simp [h2]⟩
  · obtain ⟨T, x, z, h1, h2, h3, h4, h5⟩ := y
    exact ⟨T, x, z, h1, h2, h3, h4 xs q.1, h5 ys q.2⟩
structure PartsG (K : PySem.W.Frag) (mg : Str → Option Value) (a : Addr) : Prop where
  g : mg "PARTS" = some (.ref a)
  t : ∀ H, SqT K H a [.str "number", .str "step", .str "word"]
section
variable {P : Program} {w : World} {K : PySem.W.Frag} {mg : Str → Option Value} {base : Heap}
abbrev s_is_triple : Stmt := topS 21
theorem sc_is_triple : FnScope ["thing", "part", "pairs"] ["thing"] (defScope s_is_triple) := ⟨rfl, rfl, rfl, by decide +kernel, rfl, by decide +kernel, by decide +kernel⟩
def spTriple (K : PySem.W.Frag) : Sp := fun vs H Q _ => ∃ (v : V) (d : PyData), vs = [v] ∧ Fd K H v d ∧ dsz d ≤ 1000 ∧ ∀ H', Same H H' → Q (.bl (tripleD d)) H'
theorem ok_is_triple {aP : Addr} (B : Bt mg) (PG : PartsG K mg aP) (C_are_pairs : Cal P w K mg base 3 "are_pairs" ["part", "pairs"] (spPairs K)) (D : DefAt K mg "is_triple" s_is_triple ["thing"]) : Cal P w K mg base 4 "is_triple" ["thing"] (spTriple K) := by
  refine cal_of D sc_is_triple (fun vs H Q E h => ?_) (fun f cdv A outer s H vs Q E hr h => ?_)
  · obtain ⟨v, d, rfl, _⟩ := h
    rfl
  obtain ⟨v, d, rfl, hv, hz, q⟩ := h
  have hr' : Room 3 _ := hr
  have hPARTS := PG.g
  refine ⟨_, (pss_cons (ps_if (PW.pt (pw_or (pt_not (pt_val (pe_callB call_isi (by rfl) B.isinstance (by decide +kernel) (pa_cons (pv 0) (pa_cons (pe_bltn (v := .ty "tuple") (by rfl) B.tuple PyProof.Rows.boot_tuple rfl) pa_nil))))) (pw_or1 (pt_cmpR op_ne (pe_callB call_len_seq (by rfl) B.len PySem.boot_len (pa_cons (pv 0) pa_nil)) pe_int (nomark _)))))
        (pss_one (ps_ret pe_bl))
        pss_nil)
      (pss_one (ps_ret (pe_callB (cr_all rfl) (by rfl) B.all PyProof.Rows.boot_all (pa_cons (pe_lc (own := [("part", 1), ("pairs", 2)]) (g := gTup K 2 (gCons (gName 1) (gCons (gName 2) gNil))) rfl sc_is_triple.nd (pi_zipA (by rfl) B.zip (pa_cons (pe_glob (v := .ref _) (by rfl) hPARTS rfl) (pa_cons (pv 0) pa_nil))) (blkOk_by (own := [("part", 1), ("pairs", 2)]) (N := ["thing", "part", "pairs"]) (sc := defScope s_is_triple) (by decide +kernel)) (fun _ _ _ _ _ => (pg_tupK (K := K) rfl rfl (pgs_cons (pg_name (i := 1) sc_is_triple.nd rfl (.inl rfl)) (pgs_cons (pg_name (i := 2) sc_is_triple.nd rfl (.inl rfl)) pgs_nil)))) (fun _ _ _ _ _ => pts_nil) (fun _ _ _ _ _ => (pe_cal C_are_pairs hr' (by rfl) (pa_cons (pv 1) (pa_cons (pv 2) pa_nil))))) pa_nil))))), ?_⟩
  have no : tripleD d = false → Q (.bl false) H := fun e => by
    have q' := q H (Same.refl _)
    rw [e] at q'
    exact q'
  refine ⟨_, rfl, v, _, _, _, _, rfl, .ty _, hv.ty, kit_tup d hv.1, _, rfl, ite2 (fun c => ?_) (fun c => ?_)⟩
  · exact iteY rfl (no (by cases d <;> first | rfl | (simp [isTup] at c; done)))
  have it : isTup d = true := by simpa using c
  obtain ⟨ds, rfl⟩ : ∃ ds, d = .tuple ds := by cases d <;> first | exact ⟨_, rfl⟩ | (simp [isTup] at it; done)
  obtain ⟨a, xs, rfl, qa, r⟩ : ∃ a xs, v = .ref a ∧ SqT K H a xs ∧ DpAll K H xs ds := by
    cases hv.2 with
    | tup qa r => exact ⟨_, _, rfl, qa, r⟩
  have hl := dpall_len r
  refine ⟨_, rfl, a, xs, rfl, .inr qa, rfl, _, rfl, ite2 (fun c2 => ?_) (fun c2 => ?_)⟩
  · have n3 : ds.length ≠ 3 := fun z => by
      rw [hl, z] at c2
      simp at c2
    refine no ?_
    match ds, n3 with
    | [], _ => rfl
    | [_], _ => rfl
    | [_, _], _ => rfl
    | [_, _, _], z => exact absurd rfl z
    | _ :: _ :: _ :: _ :: _, _ => rfl
  obtain ⟨k1, k2, k3, rfl⟩ : ∃ k1 k2 k3, ds = [k1, k2, k3] := by
    have n3 : ds.length = 3 := by
      have z : ((xs.length : Nat) : Int) = 3 := by simpa using c2
      omega
    match ds, n3 with
    | [k, l, m], _ => exact ⟨_, _, _, rfl⟩
  obtain ⟨v1, v2, v3, rfl, r1, r2, r3⟩ : ∃ v1 v2 v3, xs = [v1, v2, v3] ∧ Dp K H v1 k1 ∧ Dp K H v2 k2 ∧ Dp K H v3 k3 := by
    cases r with
    | cons r1 r => cases r with
      | cons r2 r => cases r with
        | cons r3 r => cases r; exact ⟨_, _, _, rfl, r1, r2, r3⟩
  have ff : flat k1 = true ∧ flat k2 = true ∧ flat k3 = true := by
    have fd := hv.1
    simpa [flat, flat.flats] using fd
  have zz : dsz k1 ≤ 1000 ∧ dsz k2 ≤ 1000 ∧ dsz k3 ≤ 1000 := by
    simp [dsz, dsz.dszs] at hz
    omega
  refine ⟨_, rfl, aP, a, _, _, rfl, .inr ⟨PG.t H, qa, fun D hD => lc_it (walk_zipT (K := K) (a := aP) (b := a) (xs := [.str "number", .str "step", .str "word"]) (ys := [v1, v2, v3]) (n := 3) rfl) (fun j H' => Same H H' ∧ H' D = some (.lst ((([pairsD false k1, pairsD false k2, pairsD true k3] : List Bool).take j).map V.bl))) ?_ ?_ ?_ ?_⟩⟩
  · exact ⟨same_new hD, upd_same⟩
  · rintro j H' _ ⟨s', _⟩
    exact ⟨PG.t H', sqT_same s' qa⟩
  · rintro j x H1 H2 hj ⟨s', hD'⟩ ⟨T, p, y, rfl, hT, rfl, hp, hy⟩
    have sm2 : Same H1 (upd H1 T (.tup [p, y])) := same_new hT
    refine ⟨T, _, rfl, .inl (.inl upd_same), rfl, _, _, rfl, _, _, rfl, rfl, ?_⟩
    have go : ∀ (k : Nat) (d : PyData), k ≤ 2 → j = k → p = .str (partS k) → Dp K H y d → flat d = true → dsz d ≤ 1000 → ([pairsD false k1, pairsD false k2, pairsD true k3] : List Bool)[k]? = some (pairsD (k == 2) d) → spPairs K [p, y] (upd H1 T (.tup [p, y])) (fun v H4 => ∃ acc, H4 D = some (.lst acc) ∧ acc.length < sizeLine ∧ (Same H (upd H4 D (.lst (acc ++ [v]))) ∧ (upd H4 D (.lst (acc ++ [v]))) D = some (.lst ((([pairsD false k1, pairsD false k2, pairsD true k3] : List Bool).take (j + 1)).map V.bl)))) (fun _ _ _ => False) := fun k d hk ej ep hd fd hz hb => by
      subst ej ep
      refine ⟨j, y, d, rfl, hk, Fd.keep ⟨fd, hd⟩ (Tp.same (s'.trans sm2)), hz, fun H4 s4 => ?_⟩
      have hD4 := s4 _ _ (sm2 _ _ hD')
      refine ⟨_, hD4, by rw [List.length_map, List.length_take]; exact smallL (by show min j 3 ≤ 100000; omega), fun b o z => ?_, ?_⟩
      · rw [upd_ne (ne_of_none z hD)]
        exact s4 _ _ (sm2 _ _ (s' _ _ z))
      · rw [upd_same, List.take_add_one, hb, List.map_append]
        rfl
    rcases (show j = 0 ∨ j = 1 ∨ j = 2 by omega) with e | e | e
    · subst e
      simp only [List.getElem?_cons_zero, Option.some.injEq] at hp hy
      subst hp hy
      exact ⟨rfl, _, rfl, _, rfl, go 0 k1 (by decide) rfl rfl r1 ff.1 zz.1 rfl⟩
    · subst e
      simp only [List.getElem?_cons_zero, List.getElem?_cons_succ, Option.some.injEq] at hp hy
      subst hp hy
      exact ⟨rfl, _, rfl, _, rfl, go 1 k2 (by decide) rfl rfl r2 ff.2.1 zz.2.1 rfl⟩
    · subst e
      simp only [List.getElem?_cons_zero, List.getElem?_cons_succ, Option.some.injEq] at hp hy
      subst hp hy
      exact ⟨rfl, _, rfl, _, rfl, go 2 k3 (by decide) rfl rfl r3 ff.2.2 zz.2.2 rfl⟩
  · rintro H' ⟨s', hD'⟩
    refine ⟨D, [pairsD false k1, pairsD false k2, pairsD true k3], rfl, SqL.of hD', ?_⟩
    have e : ([pairsD false k1, pairsD false k2, pairsD true k3] : List Bool).all id = tripleD (.tuple [k1, k2, k3]) := by simp [tripleD]
    rw [e]
    exact q H' s'
end
end Lm

set_option Elab.async false
set_option linter.all false
set_option maxRecDepth 100000
set_option maxHeartbeats 2000000
namespace Lm
open PySem PySem.Spec PyProof.Rows L2 LmR RZ
/-- a key's value -/
def keyV : PyData → V
  | .int i => .int i
  | .str s => .str s
  | _ => .non
/-- the first pair that may not stand, from the n-th on, these keys ahead -/
def amissD (k : Nat) : List PyData → List V → Nat → Option Nat
  | [], _, _ => none
  | .tuple [kd, .int load] :: ds, ah, n => if (inV (keyV kd) ah || (decide (load < 1) || !mayV k (keyV kd))) = true then some n else amissD k ds (ah ++ [keyV kd]) (n + 1)
  | _ :: _, _, n => some n
def optV : Option Nat → V
  | none => .non
  | some n => .int (n : Nat)
/-- a pair of the form, read -/
theorem pair_of {k : Nat} {d : PyData} (hk : k ≤ 2) (h : pairD (k == 2) d = true) : ∃ kd load, d = .tuple [kd, .int load] ∧ KeyOf k (keyV kd) ∧ flatV (keyV kd) = true ∧ ∀ {K : PySem.W.Frag} {H : Hp} {x : V}, Dp K H x kd → x = keyV kd := by
  obtain ⟨a, b, rfl⟩ : ∃ a b, d = .tuple [a, b] := by
    unfold pairD at h
    split at h
    · exact ⟨_, _, rfl⟩
    · cases h
  have hb : wholeD b = true ∧ (if (k == 2) = true then isStr a else wholeD a) = true := by
    have : (wholeD b && (if (k == 2) = true then isStr a else wholeD a)) = true := h
    simpa using this
  obtain ⟨load, rfl⟩ : ∃ load, b = .int load := by
    cases b <;> first | exact ⟨_, rfl⟩ | (exfalso; revert hb; simp [wholeD, isInt, isBl])
  by_cases e : k = 2
  · subst e
    obtain ⟨s, rfl⟩ : ∃ s, a = .str s := by
      cases a <;> first | exact ⟨_, rfl⟩ | (exfalso; revert hb; simp [isStr])
    exact ⟨_, _, rfl, .inr ⟨rfl, s, rfl⟩, rfl, fun h => by cases h; rfl⟩
  · have e2 : (k == 2) = false := by simpa using e
    rw [e2] at hb
    obtain ⟨i, rfl⟩ : ∃ i, a = .int i := by
      cases a <;> first | exact ⟨_, rfl⟩ | (exfalso; revert hb; simp [wholeD, isInt, isBl])
    exact ⟨_, _, rfl, .inl ⟨by omega, i, rfl⟩, rfl, fun h => by cases h; rfl⟩
section
variable {P : Program} {w : World} {K : PySem.W.Frag} {mg : Str → Option Value} {base : Heap}
abbrev s_first_amiss : Stmt := topS 24
theorem sc_first_amiss : FnScope ["part", "pairs", "ahead", "at", "key", "load"] ["part", "pairs"] (defScope s_first_amiss) := ⟨rfl, rfl, rfl, by decide +kernel, rfl, by decide +kernel, by decide +kernel⟩
def spAmiss (K : PySem.W.Frag) : Sp := fun vs H Q _ => ∃ (k : Nat) (v : V) (ds : List PyData), vs = [.str (partS k), v] ∧ k ≤ 2 ∧ Fd K H v (.tuple ds) ∧ ds.length ≤ 1000 ∧ ds.all (pairD (k == 2)) = true ∧ ∀ H', Same H H' → Q (optV (amissD k ds [] 0)) H'
theorem ok_first_amiss (B : Bt mg) (C_may_stand : Cal P w K mg base 1 "may_stand" ["part", "key"] (spMay)) (D : DefAt K mg "first_amiss" s_first_amiss ["part", "pairs"]) : Cal P w K mg base 2 "first_amiss" ["part", "pairs"] (spAmiss K) := by
  refine cal_of D sc_first_amiss (fun vs H Q E h => ?_) (fun f cdv A outer s H vs Q E hr h => ?_)
  · obtain ⟨k, v, ds, rfl, _⟩ := h
    rfl
  obtain ⟨k, v, ds, rfl, hk, hv, hz, hp, q⟩ := h
  have hr' : Room 1 _ := hr
  refine ⟨_, (pss_cons (ps_set (i := 2) sc_first_amiss.nd rfl (.inl rfl) (pe_lst pa_nil))
      (pss_cons (ps_for PassesOwn.never rfl (pi_enumT (by rfl) B.enumerate (pa_cons (pv 1) pa_nil)) (pg_tup rfl (pgs_cons (pg_name (i := 3) sc_first_amiss.nd rfl (.inl rfl)) (pgs_cons (pg_tup rfl (pgs_cons (pg_name (i := 4) sc_first_amiss.nd rfl (.inl rfl)) (pgs_cons (pg_name (i := 5) sc_first_amiss.nd rfl (.inl rfl)) pgs_nil))) pgs_nil)))
        (pss_cons (ps_if (PW.pt (pw_or (pt_cmpR op_in_seq (pv 4) (pv 2) rfl) (pw_or (pt_cmpR op_lt (pv 5) pe_int (nomark _)) (pw_or1 (pt_not (pt_val (pe_cal C_may_stand hr' (by rfl) (pa_cons (pv 0) (pa_cons (pv 4) pa_nil)))))))))
        (pss_one (ps_ret (pv 3)))
        pss_nil)
      (pss_one (ps_expr (pe_bm PySem.F.plainAttrs_list PySem.F.slot_list_append PySem.F.type_list_append mt_append (pv 2) (pa_cons (pv 4) pa_nil))))))
      (pss_one (ps_ret pe_non)))), ?_⟩
  obtain ⟨a, xs, rfl, qa, r⟩ : ∃ a xs, v = .ref a ∧ SqT K H a xs ∧ DpAll K H xs ds := by
    cases hv.2 with
    | tup qa r => exact ⟨_, _, rfl, qa, r⟩
  have hl := dpall_len r
  refine ⟨(by show 0 ≤ sizeLine; decide), fun L hL => ?_⟩
  have s1 := same_new (o := .lst []) hL
  have e1 : (upd H L (.lst [])) L = some (.lst []) := upd_same
  generalize upd H L (.lst []) = H1 at s1 e1
  refine ⟨_, rfl, a, xs, rfl, sqT_same s1 qa, for_enumT (K := K) (xs := xs) (fun i σ H' => (∃ y3 y4 y5 : Option V, σ = [some (.str (partS k)), some (.ref a), some (.ref L), y3, y4, y5]) ∧ Same H H' ∧ ∃ ah : List V, H' L = some (.lst ah) ∧ ah.length = i ∧ ah.all flatV = true ∧ amissD k ds [] 0 = amissD k (ds.drop i) ah i) ?_ ?_ ?_ ?_⟩
  · exact ⟨⟨_, _, _, rfl⟩, s1, [], e1, rfl, rfl, by rw [List.drop_zero]⟩
  · rintro i σ H' ⟨_, s', _⟩
    exact sqT_same s' qa
  · rintro i x σ H' T hx ⟨⟨y3, y4, y5, rfl⟩, s', ah, eL, la, fa, ea⟩ hT
    have sm2 := same_new (o := .tup [.int (i : Nat), x]) hT
    obtain ⟨dx, hdx, hDx⟩ := dpall_get r i x hx
    have px := List.all_eq_true.mp hp dx (List.mem_of_getElem? hdx)
    obtain ⟨kd, load, rfl, kk, fk, rd⟩ := pair_of hk px
    obtain ⟨b, ys, rfl, qb, rb⟩ : ∃ b ys, x = .ref b ∧ SqT K H b ys ∧ DpAll K H ys [kd, .int load] := by
      cases hDx with
      | tup qa r => exact ⟨_, _, rfl, qa, r⟩
    obtain ⟨v1, v2, rfl, r1, r2⟩ : ∃ v1 v2, ys = [v1, v2] ∧ Dp K H v1 kd ∧ Dp K H v2 (.int load) := by
      cases rb with
      | cons r1 r => cases r with
        | cons r2 r => cases r; exact ⟨_, _, rfl, r1, r2⟩
    have ev1 := rd r1
    subst ev1
    have ev2 : v2 = .int load := by cases r2; rfl
    subst ev2
    have hst : ds.drop i = .tuple [kd, .int load] :: ds.drop (i + 1) := by
      obtain ⟨hi, e⟩ := List.getElem?_eq_some_iff.mp hdx
      rw [List.drop_eq_getElem_cons hi, e]
    rw [hst] at ea
    have il : i < ds.length := (List.getElem?_eq_some_iff.mp hdx).1
    have ea' : amissD k ds [] 0 = if (inV (keyV kd) ah || (decide (load < 1) || !mayV k (keyV kd))) = true then some i else amissD k (ds.drop (i + 1)) (ah ++ [keyV kd]) (i + 1) := ea
    have qb2 := sqT_same (s'.trans sm2) qb
    have eL2 := sm2 _ _ eL
    have eT : (upd H' T (.tup [.int (i : Nat), .ref b])) T = some (.tup [.int (i : Nat), .ref b]) := upd_same
    have s2 := s'.trans sm2
    generalize upd H' T (.tup [.int (i : Nat), .ref b]) = H2 at qb2 eL2 eT s2
    refine ⟨T, _, rfl, .inl (.inl eT), rfl, _, _, rfl, _, _, rfl, b, _, rfl, qb2, rfl, _, _, rfl, _, _, rfl, rfl, rfl, ?_⟩
    have yes : (inV (keyV kd) ah || (decide (load < 1) || !mayV k (keyV kd))) = true → Q (.int (i : Nat)) H2 := fun c => by
      have q' := q H2 s2
      rw [ea', if_pos c] at q'
      exact q'
    refine ⟨_, rfl, _, rfl, L, ah, rfl, .inl (SqL.of eL2), fk, fa, _, rfl, ite2 (fun c1 => ?_) (fun c1 => ?_)⟩
    · exact iteY rfl ⟨_, rfl, yes (by rw [show inV (keyV kd) ah = true from c1]; rfl)⟩
    have d1 : inV (keyV kd) ah = false := Bool.eq_false_iff.mpr c1
    refine ⟨_, rfl, _, _, rfl, rfl, _, rfl, ite2 (fun c2 => ?_) (fun c2 => ?_)⟩
    · exact iteY rfl ⟨_, rfl, yes (by rw [d1, show decide (load < 1) = true from c2]; rfl)⟩
    have d2 : decide (load < 1) = false := Bool.eq_false_iff.mpr c2
    refine ⟨_, rfl, _, rfl, k, keyV kd, rfl, hk, kk, _, rfl, ite2 (fun c3 => ?_) (fun c3 => ?_)⟩
    · exact ⟨_, rfl, yes (by rw [d1, d2, show (!mayV k (keyV kd)) = true from c3]; rfl)⟩
    have d3 : (!mayV k (keyV kd)) = false := Bool.eq_false_iff.mpr c3
    refine ⟨_, rfl, .inl ⟨rfl, _, SqL.of eL2⟩, _, rfl, L, _, _, rfl, rfl, eL2, by rw [la]; exact smallL (by omega), ?_⟩
    refine ⟨⟨_, _, _, rfl⟩, fun b' o z => ?_, ah ++ [keyV kd], upd_same, by rw [List.length_append, la]; rfl, by rw [List.all_append, fa]; simp [fk], ?_⟩
    · rw [upd_ne (ne_of_none z hL)]
      exact s2 _ _ z
    · rw [ea', d1, d2, d3]
      rfl
  · rintro σ H' ⟨⟨y3, y4, y5, rfl⟩, s', ah, eL, la, fa, ea⟩
    have q' := q H' s'
    rw [ea, hl, List.drop_length] at q'
    exact q'
end
end Lm

set_option Elab.async false
set_option linter.all false
set_option maxRecDepth 100000
set_option maxHeartbeats 2000000
namespace Lm
open PySem PySem.Spec PyProof.Rows L2 LmR RZ
/-- the first thing amiss in the parts from the k-th on -/
def stFrom : List (List PyData) → Nat → Option (Str × Nat)
  | [], _ => none
  | ds :: r, k => match amissD k ds [] 0 with
    | some n => some (partS k, n)
    | none => stFrom r (k + 1)
theorem stF_none {ds : List PyData} {r : List (List PyData)} {k : Nat} (h : amissD k ds [] 0 = none) : stFrom (ds :: r) k = stFrom r (k + 1) := by
  show (match amissD k ds [] 0 with | some n => some (partS k, n) | none => stFrom r (k + 1)) = _
  rw [h]
theorem stF_some {ds : List PyData} {r : List (List PyData)} {k n : Nat} (h : amissD k ds [] 0 = some n) : stFrom (ds :: r) k = some (partS k, n) := by
  show (match amissD k ds [] 0 with | some n => some (partS k, n) | none => stFrom r (k + 1)) = _
  rw [h]
def stockD (d : PyData) : Option (Str × Nat) := if tripleD d = true then
    (match d with
    | .tuple [.tuple a, .tuple b, .tuple c] => stFrom [a, b, c] 0
    | _ => none)
  else some ("form", 0)
theorem triple_of {d : PyData} (h : tripleD d = true) : ∃ k1 k2 k3, d = .tuple [.tuple k1, .tuple k2, .tuple k3] ∧ k1.all (pairD false) = true ∧ k2.all (pairD false) = true ∧ k3.all (pairD true) = true := by
  unfold tripleD at h
  split at h
  · rename_i a b c
    have z : pairsD false a = true ∧ pairsD false b = true ∧ pairsD true c = true := by simpa using h
    cases a with
    | tuple k1 => cases b with
      | tuple k2 => cases c with
        | tuple k3 => exact ⟨_, _, _, rfl, z.1, z.2.1, z.2.2⟩
        | _ => cases z.2.2
      | _ => cases z.2.1
    | _ => cases z.1
  · cases h
section
variable {P : Program} {w : World} {K : PySem.W.Frag} {mg : Str → Option Value} {base : Heap}
abbrev s_NoStock : Stmt := (clsBody (topS 5)).getD 0 (.Pass ⟨0, 0, 0, 0⟩)
theorem sc_NoStock : FnScope ["self", "word", "at"] ["self", "word", "at"] (defScope s_NoStock) := ⟨rfl, rfl, rfl, by decide +kernel, rfl, by decide +kernel, by decide +kernel⟩
variable {c_NoStock i_NoStock : Addr} {f_NoStock : FuncData}
theorem ini_NoStock {P : Program} {w : World} {base : Heap} (R : Rf K mg "NoStock" "NoStock.__init__" c_NoStock i_NoStock f_NoStock s_NoStock ["word", "at"]) : FnOk P w K mg base (L2.CX P w) 1 i_NoStock f_NoStock ["self", "word", "at"] (spIni2 c_NoStock "word" "at") := by
  refine R.F.okX sc_NoStock (fun vs H Q E h => ?_) (fun cdv A outer s H vs Q E hr h => ?_)
  · obtain ⟨a, x, y, rfl, _⟩ := h
    rfl
  obtain ⟨a, x, y, rfl, ha, q⟩ := h
  refine ⟨_, pss_cons (ps_ost (pv 0) (pv 1)) (pss_one (ps_ost (pv 0) (pv 2))), ?_⟩
  refine ⟨_, rfl, _, rfl, a, _, rfl, R.o, R.fld _ (by simp), .inl ⟨ha, fun d hd nd => ⟨_, rfl, _, rfl, a, _, rfl, R.o, R.fld _ (by simp), .inr ⟨d, _, upd_same, ?_, by show 1 ≤ 900; decide, q d _ hd ?_ upd_same fun b h1 h2 => ?_⟩⟩⟩⟩
  · rw [upd_ne nd, upd_same]
  · rw [upd_ne (Ne.symm nd), upd_same]
  · rw [upd_ne h2, upd_ne h1, upd_ne h2]
def spLookS (K : PySem.W.Frag) (C : Addr) : Sp := fun vs H Q E => ∃ (v : V) (d : PyData), vs = [v] ∧ Fd K H v d ∧ dsz d ≤ 1000 ∧ (stockD d = none → ∀ H', Same H H' → Q (.bl true) H') ∧
  ∀ x n, stockD d = some (x, n) → ∀ a H', Same H H' → H' a = some (.xd [("at", .int (n : Nat)), ("word", .str x)]) → E (.ref C) (some a) H'
abbrev s_look_stock : Stmt := topS 20
theorem sc_look_stock : FnScope ["stock", "part", "pairs", "at"] ["stock"] (defScope s_look_stock) := ⟨rfl, rfl, rfl, by decide +kernel, rfl, by decide +kernel, by decide +kernel⟩
theorem ok_look_stock {aP : Addr} (B : Bt mg) (PG : PartsG K mg aP) (R_NoStock : Rf K mg "NoStock" "NoStock.__init__" c_NoStock i_NoStock f_NoStock s_NoStock ["word", "at"]) (C_is_triple : Cal P w K mg base 4 "is_triple" ["thing"] (spTriple K)) (C_first_amiss : Cal P w K mg base 2 "first_amiss" ["part", "pairs"] (spAmiss K)) (D : DefAt K mg "look_stock" s_look_stock ["stock"]) : CalX P w K mg base 5 "look_stock" ["stock"] (spLookS K c_NoStock) := by
  refine calx_of D sc_look_stock (fun vs H Q E h => ?_) (fun f cdv A outer s H vs Q E hr h => ?_)
  · obtain ⟨v, d, rfl, _⟩ := h
    rfl
  obtain ⟨v, d, rfl, hv, hz, q, qe⟩ := h
  have hr' : Room 4 _ := hr
  have C_first_amiss := C_first_amiss.mono (k := 4) (by decide)
  have hPARTS := PG.g
  have hr := hr'.mono (j := 2) (by decide)
  refine ⟨_, (pss_cons (ps_if (pt_not (pt_val (pe_cal C_is_triple hr' (by rfl) (pa_cons (pv 0) pa_nil))))
        (pss_one (ps_ref R_NoStock (ini_NoStock R_NoStock) hr rfl (takes_of rfl rfl rfl rfl) (by rfl) (pa_cons pe_str (pa_cons pe_int pa_nil))))
        pss_nil)
      (pss_cons (ps_for (passes_of rfl) rfl (pi_zipA (by rfl) B.zip (pa_cons (pe_glob (v := .ref _) (by rfl) hPARTS rfl) (pa_cons (pv 0) pa_nil))) (pg_tup rfl (pgs_cons (pg_name (i := 1) sc_look_stock.nd rfl (.inl rfl)) (pgs_cons (pg_name (i := 2) sc_look_stock.nd rfl (.inl rfl)) pgs_nil)))
        (pss_cons (ps_set (i := 3) sc_look_stock.nd rfl (.inl rfl) (pe_cal C_first_amiss hr' (by rfl) (pa_cons (pv 1) (pa_cons (pv 2) pa_nil))))
      (pss_one (ps_if (pt_cmpR op_notN (pv 3) pe_non (nomark _))
        (pss_one (ps_ref R_NoStock (ini_NoStock R_NoStock) hr rfl (takes_of rfl rfl rfl rfl) (by rfl) (pa_cons (pv 1) (pa_cons (pv 3) pa_nil))))
        pss_nil))))
      (pss_one (ps_ret pe_bl)))), ?_⟩
  refine ⟨_, rfl, v, d, rfl, hv, hz, fun H1 s1 => ⟨_, rfl, ite2 (fun c => ?_) (fun c => ?_)⟩⟩
  · have e : tripleD d = false := by
      have z : (!tripleD d) = true := c
      simpa using z
    have e2 : stockD d = some (("form" : Str), 0) := by unfold stockD; rw [e]; rfl
    exact mk_two fun a H' r => qe _ _ e2 a H' (s1.trans r.same) r.2.1
  have tr : tripleD d = true := by
    have z : ¬ (!tripleD d) = true := c
    simpa using z
  obtain ⟨k1, k2, k3, rfl, p1, p2, p3⟩ := triple_of tr
  have es : stockD (.tuple [.tuple k1, .tuple k2, .tuple k3]) = stFrom [k1, k2, k3] 0 := by unfold stockD; rw [tr]; rfl
  obtain ⟨a, xs, rfl, qa, r⟩ : ∃ a xs, v = .ref a ∧ SqT K H a xs ∧ DpAll K H xs [.tuple k1, .tuple k2, .tuple k3] := by
    cases hv.2 with
    | tup qa r => exact ⟨_, _, rfl, qa, r⟩
  obtain ⟨v1, v2, v3, rfl, r1, r2, r3⟩ : ∃ v1 v2 v3, xs = [v1, v2, v3] ∧ Dp K H v1 (.tuple k1) ∧ Dp K H v2 (.tuple k2) ∧ Dp K H v3 (.tuple k3) := by
    cases r with
    | cons r1 r => cases r with
      | cons r2 r => cases r with
        | cons r3 r => cases r; exact ⟨_, _, _, rfl, r1, r2, r3⟩
  have ff : flat (.tuple k1) = true ∧ flat (.tuple k2) = true ∧ flat (.tuple k3) = true := by
    have fd := hv.1
    simpa [flat, flat.flats] using fd
  have zz : k1.length ≤ 1000 ∧ k2.length ≤ 1000 ∧ k3.length ≤ 1000 := by
    have z1 := dszs_len k1
    have z2 := dszs_len k2
    have z3 := dszs_len k3
    simp [dsz, dsz.dszs] at hz
    omega
  refine ⟨_, rfl, aP, a, _, _, rfl, .inr ⟨PG.t H1, sqT_same s1 qa, for_zipT (K := K) (a := aP) (b := a) (xs := [.str "number", .str "step", .str "word"]) (ys := [v1, v2, v3]) rfl (fun i σ H' => (∃ y1 y2 y3 : Option V, σ = [some (.ref a), y1, y2, y3]) ∧ Same H H' ∧ stockD (.tuple [.tuple k1, .tuple k2, .tuple k3]) = stFrom ([k1, k2, k3].drop i) i) ?_ ?_ ?_ ?_⟩⟩
  · exact ⟨⟨_, _, _, rfl⟩, s1, es⟩
  · rintro i σ H' ⟨_, s', _⟩
    exact ⟨PG.t H', sqT_same s' qa⟩
  · rintro i x y T σ H' hx hy ⟨⟨y1, y2, y3, rfl⟩, s', ei⟩ hT
    have sm2 := same_new (o := .tup [x, y]) hT
    refine ⟨T, _, rfl, .inl (.inl upd_same), rfl, _, _, rfl, _, _, rfl, rfl, ?_⟩
    have sT := s'.trans sm2
    generalize upd H' T (.tup [x, y]) = H2 at sT
    obtain ⟨ds, hi, ex, fy, hz', hp', ed⟩ : ∃ ds, i ≤ 2 ∧ x = .str (partS i) ∧ Fd K H y (.tuple ds) ∧ ds.length ≤ 1000 ∧ ds.all (pairD (i == 2)) = true ∧ [k1, k2, k3].drop i = ds :: [k1, k2, k3].drop (i + 1) := by
      have hi : i < 3 := by
        have := (List.getElem?_eq_some_iff.mp hy).1
        simpa using this
      rcases (show i = 0 ∨ i = 1 ∨ i = 2 by omega) with e | e | e
      · subst e
        simp only [List.getElem?_cons_zero, Option.some.injEq] at hx hy
        subst hx hy
        exact ⟨k1, by decide, rfl, ⟨ff.1, r1⟩, zz.1, p1, rfl⟩
      · subst e
        simp only [List.getElem?_cons_zero, List.getElem?_cons_succ, Option.some.injEq] at hx hy
        subst hx hy
        exact ⟨k2, by decide, rfl, ⟨ff.2.1, r2⟩, zz.2.1, p2, rfl⟩
      · subst e
        simp only [List.getElem?_cons_zero, List.getElem?_cons_succ, Option.some.injEq] at hx hy
        subst hx hy
        exact ⟨k3, by decide, rfl, ⟨ff.2.2, r3⟩, zz.2.2, p3, rfl⟩
    subst ex
    rw [ed] at ei
    refine ⟨_, rfl, _, rfl, i, y, ds, rfl, hi, fy.keep (Tp.same sT), hz', hp', fun H3 s3 => ?_⟩
    cases ha : amissD i ds [] 0 with
    | none =>
      have ei' : stockD (.tuple [.tuple k1, .tuple k2, .tuple k3]) = stFrom ([k1, k2, k3].drop (i + 1)) (i + 1) := ei.trans (stF_none ha)
      exact ⟨_, rfl, rfl, _, rfl, iteF ⟨⟨_, _, _, rfl⟩, sT.trans s3, ei'⟩⟩
    | some n =>
      have ei' : stockD (.tuple [.tuple k1, .tuple k2, .tuple k3]) = some (partS i, n) := ei.trans (stF_some ha)
      exact ⟨_, rfl, rfl, _, rfl, iteY rfl ⟨_, rfl, _, rfl, mk_two fun a' H4 r => qe _ _ ei' a' H4 ((sT.trans s3).trans r.same) r.2.1⟩⟩
  · rintro σ H' ⟨⟨y1, y2, y3, rfl⟩, s', ei⟩
    exact q (by rw [ei]; rfl) H' s'
end
end Lm

set_option Elab.async false
set_option linter.all false
set_option maxRecDepth 100000
set_option maxHeartbeats 2000000
namespace Lm
open PySem PySem.Spec PyProof.Rows L2 LmR RZ
/-- a tuple of two -/
def is2 : PyData → Bool
  | .tuple [_, _] => true
  | _ => false
theorem is2_cases (d : PyData) : (∃ a b, d = .tuple [a, b]) ∨ (is2 d = false ∧ ∀ w, pairD w d = false) := by
  cases d with
  | tuple ds =>
    match ds with
    | [] => exact .inr ⟨rfl, fun _ => rfl⟩
    | [_] => exact .inr ⟨rfl, fun _ => rfl⟩
    | [a, b] => exact .inl ⟨a, b, rfl⟩
    | _ :: _ :: _ :: _ => exact .inr ⟨rfl, fun _ => rfl⟩
  | _ => exact .inr ⟨rfl, fun _ => rfl⟩
theorem all_no {α : Type} {p : α → Bool} {l : List α} {i : Nat} {x : α} (h : l[i]? = some x) (hp : p x = false) : l.all p = false := by
  cases e : l.all p with
  | false => rfl
  | true =>
    have := List.all_eq_true.mp e x (List.mem_of_getElem? h)
    rw [hp] at this
    cases this
theorem all_not2 {ds : List PyData} (h : ds.all is2 = false) (w : Bool) : ds.all (pairD w) = false := by
  cases e : ds.all (pairD w) with
  | false => rfl
  | true =>
    have z : ds.all is2 = true := List.all_eq_true.mpr fun x hx => by
      have y := List.all_eq_true.mp e x hx
      rcases is2_cases x with ⟨a, b, rfl⟩ | ⟨_, n⟩
      · rfl
      · rw [n w] at y; cases y
    rw [h] at z
    cases z
section
variable {P : Program} {w : World} {K : PySem.W.Frag} {mg : Str → Option Value} {base : Heap}
abbrev s_l_is_pairs : Stmt := topS 36
theorem sc_l_is_pairs : FnScope ["_law_some", "_law_is_word", "_law_thing", "_law_heavy", "_law_pair"] ["_law_some", "_law_is_word"] (defScope s_l_is_pairs) := ⟨rfl, rfl, rfl, by decide +kernel, rfl, by decide +kernel, by decide +kernel⟩
def spLIP (K : PySem.W.Frag) : Sp := fun vs H Q _ => ∃ (v : V) (d : PyData) (b : Bool), vs = [v, .bl b] ∧ Fd K H v d ∧ dsz d ≤ 1000 ∧ ∀ H', Same H H' → Q (.bl (pairsD b d)) H'
theorem ok_l_is_pairs (B : Bt mg) (D : DefAt K mg "_law_is_pairs" s_l_is_pairs ["_law_some", "_law_is_word"]) : Cal P w K mg base 1 "_law_is_pairs" ["_law_some", "_law_is_word"] (spLIP K) := by
  refine cal_of D sc_l_is_pairs (fun vs H Q E h => ?_) (fun f cdv A outer s H vs Q E hr h => ?_)
  · obtain ⟨v, d, b, rfl, _⟩ := h
    rfl
  obtain ⟨v, d, b, rfl, hv, hz, q⟩ := h
  refine ⟨_, (pss_cons (ps_if (pt_not (pt_val (pe_callB call_isi (by rfl) B.isinstance (by decide +kernel) (pa_cons (pv 0) (pa_cons (pe_bltn (v := .ty "tuple") (by rfl) B.tuple PyProof.Rows.boot_tuple rfl) pa_nil)))))
        (pss_one (ps_ret pe_bl))
        pss_nil)
      (pss_cons (ps_if (pt_not (pt_val (pe_callB (cr_all rfl) (by rfl) B.all PyProof.Rows.boot_all (pa_cons (pe_lc (own := [("_law_pair", 4)]) (g := gName 4) rfl sc_l_is_pairs.nd (pi_tup (pv 0)) (blkOk_by (own := [("_law_pair", 4)]) (N := ["_law_some", "_law_is_word", "_law_thing", "_law_heavy", "_law_pair"]) (sc := defScope s_l_is_pairs) (by decide +kernel)) (fun _ _ _ _ _ => (pg_name (i := 4) sc_l_is_pairs.nd rfl (.inl rfl))) (fun _ _ _ _ _ => pts_nil) (fun _ _ _ _ _ => (pe_and (pe_callB (call_isiK (K := K) rfl) (by rfl) B.isinstance (by decide +kernel) (pa_cons (pv 4) (pa_cons (pe_bltn (v := .ty "tuple") (by rfl) B.tuple PyProof.Rows.boot_tuple rfl) pa_nil))) (pe_one (pe_cmpR op_eq (pe_callB (call_len_seqK (K := K) rfl) (by rfl) B.len PySem.boot_len (pa_cons (pv 4) pa_nil)) pe_int (nomark _)))))) pa_nil))))
        (pss_one (ps_ret pe_bl))
        pss_nil)
      (pss_cons (ps_for PassesOwn.never rfl (pi_tup (pv 0)) (pg_tup rfl (pgs_cons (pg_name (i := 2) sc_l_is_pairs.nd rfl (.inl rfl)) (pgs_cons (pg_name (i := 3) sc_l_is_pairs.nd rfl (.inl rfl)) pgs_nil)))
        (pss_cons (ps_if (PW.pt (pw_or (pt_val (pe_callB call_isi (by rfl) B.isinstance (by decide +kernel) (pa_cons (pv 3) (pa_cons (pe_bltn (v := .ty "bool") (by rfl) B.bool PyProof.Rows.boot_bool rfl) pa_nil)))) (pw_or (pt_not (pt_val (pe_callB call_isi (by rfl) B.isinstance (by decide +kernel) (pa_cons (pv 3) (pa_cons (pe_bltn (v := .ty "int") (by rfl) B.int PyProof.Rows.boot_int rfl) pa_nil))))) (pw_or1 (pt_cmpR op_ne (pe_callB call_isi (by rfl) B.isinstance (by decide +kernel) (pa_cons (pv 2) (pa_cons (pe_bltn (v := .ty "str") (by rfl) B.str PyProof.Rows.boot_str rfl) pa_nil))) (pv 1) (nomark _))))))
        (pss_one (ps_ret pe_bl))
        pss_nil)
      (pss_one (ps_if (PW.pt (pw_and (pt_not (pt_val (pv 1))) (pw_and1 (PW.pt (pw_or (pt_val (pe_callB call_isi (by rfl) B.isinstance (by decide +kernel) (pa_cons (pv 2) (pa_cons (pe_bltn (v := .ty "bool") (by rfl) B.bool PyProof.Rows.boot_bool rfl) pa_nil)))) (pw_or1 (pt_not (pt_val (pe_callB call_isi (by rfl) B.isinstance (by decide +kernel) (pa_cons (pv 2) (pa_cons (pe_bltn (v := .ty "int") (by rfl) B.int PyProof.Rows.boot_int rfl) pa_nil)))))))))))
        (pss_one (ps_ret pe_bl))
        pss_nil))))
      (pss_one (ps_ret pe_bl))))), ?_⟩
  refine ⟨_, rfl, v, _, _, _, _, rfl, .ty _, hv.ty, kit_tup d hv.1, _, rfl, ite2 (fun c => ?_) (fun c => ?_)⟩
  · have e : pairsD b d = false := by cases d <;> first | rfl | (simp [isTup] at c; done)
    have q' := q H (Same.refl _)
    rw [e] at q'
    exact q'
  have it : isTup d = true := by simpa using c
  obtain ⟨ds, rfl⟩ : ∃ ds, d = .tuple ds := by cases d <;> first | exact ⟨_, rfl⟩ | (simp [isTup] at it; done)
  obtain ⟨a, xs, rfl, qa, r⟩ : ∃ a xs, v = .ref a ∧ SqT K H a xs ∧ DpAll K H xs ds := by
    cases hv.2 with
    | tup qa r => exact ⟨_, _, rfl, qa, r⟩
  have hl := dpall_len r
  have hkz : ds.length ≤ 1000 := by
    have z := dszs_len ds
    simp [dsz] at hz
    omega
  have fd : flat.flats ds = true := by
    have := hv.1
    simpa [flat] using this
  have no : ds.all (pairD b) = false → ∀ H', Same H H' → Q (.bl false) H' := fun e H' s' => by
    have q' := q H' s'
    rw [show pairsD b (.tuple ds) = ds.all (pairD b) from rfl, e] at q'
    exact q'
  refine ⟨_, rfl, a, rfl, ⟨_, qa⟩, fun D hD => lc_tup (K := K) (a := a) (xs := xs) (fun j H' => Same H H' ∧ H' D = some (.lst (((ds.take j).map is2).map V.bl))) ?_ ?_ ?_ ?_⟩
  · exact ⟨same_new hD, upd_same⟩
  · rintro j H' _ ⟨s', _⟩
    exact sqT_same s' qa
  · rintro j x H' hx ⟨s', hD'⟩
    obtain ⟨e, he, re⟩ := dpall_get r j x hx
    have fe : Fd K H' x e := Fd.keep ⟨flats_nthD ds fd j e he, re⟩ (fun _ _ h => sqT_same s' h)
    have jl : j < ds.length := (List.getElem?_eq_some_iff.mp he).1
    have fin : ∀ bb : Bool, bb = is2 e → ∃ acc, H' D = some (.lst acc) ∧ acc.length < sizeLine ∧ (Same H (upd H' D (.lst (acc ++ [.bl bb]))) ∧ (upd H' D (.lst (acc ++ [.bl bb]))) D = some (.lst (((ds.take (j + 1)).map is2).map V.bl))) := fun bb hb => by
      subst hb
      refine ⟨_, hD', by rw [List.length_map, List.length_map, List.length_take]; exact smallL (by omega), fun b o z => ?_, ?_⟩
      · rw [upd_ne (ne_of_none z hD)]
        exact s' _ _ z
      · rw [upd_same, List.take_add_one, he, List.map_append, List.map_append]
        rfl
    refine ⟨rfl, _, rfl, x, _, _, _, _, rfl, .ty _, fe.ty, kit_tup e fe.1, _, rfl, ite2 (fun c => ?_) (fun c => ?_)⟩
    · obtain ⟨es, rfl⟩ : ∃ ds, e = .tuple ds := by cases e <;> first | exact ⟨_, rfl⟩ | (simp [isTup] at c; done)
      obtain ⟨b', ys, rfl, qb, rb⟩ : ∃ a xs, x = .ref a ∧ SqT K H' a xs ∧ DpAll K H' xs es := by
        cases fe.2 with
        | tup qa r => exact ⟨_, _, rfl, qa, r⟩
      have hyl := dpall_len rb
      refine ⟨_, rfl, b', ys, rfl, .inr qb, rfl, fin _ ?_⟩
      rw [hyl]
      match es with
      | [] => rfl
      | [_] => rfl
      | [_, _] => rfl
      | _ :: _ :: _ :: es' =>
        refine decide_eq_false fun z => ?_
        have := V.int.inj z
        simp only [List.length_cons] at this
        omega
    · refine fin _ ?_
      have c' : isTup e = false := by simpa using c
      cases e <;> first | rfl | (simp [isTup] at c'; done)
  rintro H1 ⟨s1, hD1⟩
  rw [hl, List.take_length] at hD1
  refine ⟨D, ds.map is2, rfl, SqL.of hD1, _, rfl, ite2 (fun c2 => ?_) (fun c2 => ?_)⟩
  · have e : ds.all is2 = false := by
      have z : (!(ds.map is2).all id) = true := c2
      rw [List.all_map] at z
      simpa using z
    exact no (all_not2 e b) H1 s1
  have e2 : ds.all is2 = true := by
    have z : ¬ (!(ds.map is2).all id) = true := c2
    rw [List.all_map] at z
    simpa using z
  refine ⟨_, rfl, a, rfl, ⟨_, sqT_same s1 qa⟩, for_tup (K := K) (a := a) (xs := xs) (fun i σ H' => (∃ y2 y3 y4 : Option V, σ = [some (.ref a), some (.bl b), y2, y3, y4]) ∧ Same H H' ∧ (ds.take i).all (pairD b) = true) ?_ ?_ ?_ ?_⟩
  · exact ⟨⟨_, _, _, rfl⟩, s1, rfl⟩
  · rintro i σ H' _ ⟨_, s', _⟩
    exact sqT_same s' qa
  · rintro i x σ H' hx ⟨⟨y2, y3, y4, rfl⟩, s', hi⟩
    obtain ⟨e, he, re⟩ := dpall_get r i x hx
    have p2 := List.all_eq_true.mp e2 e (List.mem_of_getElem? he)
    obtain ⟨k1, k2, rfl⟩ : ∃ a b, e = .tuple [a, b] := by
      rcases is2_cases e with h | ⟨h, _⟩
      · exact h
      · rw [h] at p2; cases p2
    have fe := flats_nthD ds fd i _ he
    obtain ⟨b', v1, v2, rfl, qb, r1, r2⟩ : ∃ b' v1 v2, x = .ref b' ∧ SqT K H b' [v1, v2] ∧ Dp K H v1 k1 ∧ Dp K H v2 k2 := by
      cases re with
      | tup qb rb => cases rb with
        | cons r1 r => cases r with
          | cons r2 r => cases r; exact ⟨_, _, _, rfl, qb, r1, r2⟩
    have f12 : flat k1 = true ∧ flat k2 = true := by
      simpa [flat, flat.flats] using fe
    have h1 : Fd K H' v1 k1 := Fd.keep ⟨f12.1, r1⟩ (fun _ _ h => sqT_same s' h)
    have h2 : Fd K H' v2 k2 := Fd.keep ⟨f12.2, r2⟩ (fun _ _ h => sqT_same s' h)
    have ep : pairD b (.tuple [k1, k2]) = ((isInt k2 && !isBl k2) && (if b = true then isStr k1 else (isInt k1 && !isBl k1))) := rfl
    have ret : pairD b (.tuple [k1, k2]) = false → Q (.bl false) H' := fun e => no (all_no he e) H' s'
    have yes : pairD b (.tuple [k1, k2]) = true → (ds.take (i + 1)).all (pairD b) = true := fun e => by
      rw [List.take_add_one, he, List.all_append, hi]
      simp [e]
    refine ⟨b', _, rfl, sqT_same s' qb, rfl, _, _, rfl, _, _, rfl, rfl, ?_⟩
    refine ⟨_, rfl, v2, _, _, _, _, rfl, .ty _, h2.ty, kit_bl k2 f12.2, _, rfl, ite2 (fun c => ?_) (fun c => ?_)⟩
    · exact iteY rfl (ret (by rw [ep, c]; simp))
    have b2 : isBl k2 = false := by simpa using c
    refine ⟨_, rfl, v2, _, _, _, _, rfl, .ty _, h2.ty, kit_int k2 f12.2, _, rfl, ite2 (fun c => ?_) (fun c => ?_)⟩
    · have i2 : isInt k2 = false := by simpa using c
      exact iteY rfl (ret (by rw [ep, i2]; simp))
    have i2 : isInt k2 = true := by simpa using c
    refine ⟨_, rfl, v1, _, _, _, _, rfl, .ty _, h1.ty, kit_str k1 f12.1, _, rfl, rfl, _, rfl, ite2 (fun c => ?_) (fun c => ?_)⟩
    · refine ret ?_
      have c' : isStr k1 ≠ b := by
        have z : (!decide (V.bl (isStr k1) = V.bl b)) = true := c
        intro y
        rw [y] at z
        simp at z
      rw [ep, i2, b2]
      cases b with
      | true => simpa using c'
      | false =>
        have c2 : isStr k1 = true := by simpa using c'
        cases k1 <;> first | rfl | (simp [isStr] at c2; done)
    have eb : isStr k1 = b := by
      have z : ¬ (!decide (V.bl (isStr k1) = V.bl b)) = true := c
      have z2 : decide (V.bl (isStr k1) = V.bl b) = true := by simpa using z
      exact V.bl.inj (of_decide_eq_true z2)
    cases b with
    | true =>
      refine ⟨_, rfl, _, rfl, iteF (iteF ⟨⟨_, _, _, rfl⟩, s', yes ?_⟩)⟩
      rw [ep, i2, b2, eb]
      rfl
    | false =>
      refine ⟨_, rfl, _, rfl, iteT ?_⟩
      refine ⟨_, rfl, v1, _, _, _, _, rfl, .ty _, h1.ty, kit_bl k1 f12.1, _, rfl, ite2 (fun c => ?_) (fun c => ?_)⟩
      · exact iteY rfl (ret (by rw [ep, c, i2, b2]; simp))
      have b1 : isBl k1 = false := by simpa using c
      refine ⟨_, rfl, v1, _, _, _, _, rfl, .ty _, h1.ty, kit_int k1 f12.1, _, rfl, ite2 (fun c => ?_) (fun c => ?_)⟩
      · have i1 : isInt k1 = false := by simpa using c
        exact ret (by rw [ep, i1, i2, b2]; simp)
      have i1 : isInt k1 = true := by simpa using c
      refine ⟨⟨_, _, _, rfl⟩, s', yes ?_⟩
      rw [ep, i2, b2, i1, b1]
      rfl
  · rintro σ H' ⟨⟨y2, y3, y4, rfl⟩, s', hi⟩
    rw [hl, List.take_length] at hi
    have q' := q H' s'
    rw [show pairsD b (.tuple ds) = ds.all (pairD b) from rfl, hi] at q'
    exact q'
end
end Lm

set_option Elab.async false
set_option linter.all false
set_option maxRecDepth 100000
set_option maxHeartbeats 2000000
namespace Lm
open PySem PySem.Spec PyProof.Rows L2 LmR
theorem dpall_app {K : PySem.W.Frag} {H : Hp} : ∀ {xs ys : List V} {ds es : List PyData}, DpAll K H xs ds → DpAll K H ys es → DpAll K H (xs ++ ys) (ds ++ es)
  | [], _, _, _, .nil, b => b
  | _ :: _, _, _, _, .cons a r, b => .cons a (dpall_app r b)
theorem flats_app : ∀ ds es : List PyData, flat.flats ds = true → flat.flats es = true → flat.flats (ds ++ es) = true
  | [], _, _, b => b
  | d :: ds, es, a, b => by
    rw [flat.flats, Bool.and_eq_true] at a
    rw [List.cons_append, flat.flats, a.1, flats_app ds es a.2 b]
    rfl
theorem flats_get2 : ∀ ds : List PyData, flat.flats ds = true → ∀ (i : Nat) (d : PyData), ds[i]? = some d → flat d = true
  | [], _, _, _, h => by simp at h
  | d :: ds, a, i, e, h => by
    rw [flat.flats, Bool.and_eq_true] at a
    cases i with
    | zero => simp at h; rw [← h]; exact a.1
    | succ i => exact flats_get2 ds a.2 i e (by simpa using h)
theorem fd_tup {K : PySem.W.Frag} {H : Hp} {t : Addr} {vs : List V} {ds : List PyData} (h : H t = some (.tup vs)) (r : DpAll K H vs ds) (f : flat.flats ds = true) : Fd K H (.ref t) (.tuple ds) := ⟨f, .tup (.inl (.inl h)) r⟩
theorem cut_take {xs : List V} {j : Nat} (h : j ≤ xs.length) : cutV xs none (some (j : Int)) = xs.take j := by
  unfold cutV
  rw [HT.sIx_none, show HT.sIx xs.length xs.length (some (j : Int)) = min j xs.length from HT.sIx_nat _ _ j]
  rw [Nat.min_eq_left h, List.drop_zero, Nat.sub_zero]
theorem cut_from {xs : List V} {j : Nat} (h : j ≤ xs.length) : cutV xs (some (j : Int)) none = xs.drop j := by
  unfold cutV
  rw [HT.sIx_none, show HT.sIx xs.length 0 (some (j : Int)) = min j xs.length from HT.sIx_nat _ _ j]
  rw [Nat.min_eq_left h]
  apply List.take_of_length_le
  rw [List.length_drop]
  omega
section
variable {K : PySem.W.Frag}
theorem cutV_all {xs : List V} {lo hi : Option Int} (h : HT.sIx xs.length 0 lo = 0 ∧ HT.sIx xs.length xs.length hi = xs.length) : cutV xs lo hi = xs := by
  unfold cutV
  rw [h.1, h.2, List.drop_zero, Nat.sub_zero, List.take_length]
theorem slA_any {a : Addr} {xs : List V} {lo hi : Option Int} {H : Hp} {Q : VK} (ha : SqT K H a xs) (q : ∀ p H', Same H H' → SqT K H' p (cutV xs lo hi) → Q (.ref p) H') : rSlA K (.ref a) lo hi H Q :=
  ⟨a, xs, rfl, ha, fun h => q a H (fun _ _ z => z) (by rw [cutV_all h]; exact ha), fun _ p hp => q p _ (same_new hp) (.inl (.inl upd_same))⟩
theorem catA_any {a b : Addr} {xs ys : List V} {H : Hp} {Q : VK} (ha : SqT K H a xs) (hb : SqT K H b ys) (hz : xs.length + ys.length ≤ sizeLine) (q : ∀ p H', Same H H' → SqT K H' p (xs ++ ys) → Q (.ref p) H') : rCatA K (.ref a) (.ref b) H Q :=
  ⟨a, b, xs, ys, rfl, rfl, ha, hb, hz, fun e => q b H (fun _ _ z => z) (by rw [e]; exact hb), fun _ e => q a H (fun _ _ z => z) (by rw [e, List.append_nil]; exact ha), fun _ _ p hp => q p _ (same_new hp) (.inl (.inl upd_same))⟩
theorem dpall_drop {H : Hp} : ∀ (n : Nat) {xs : List V} {ds : List PyData}, DpAll K H xs ds → DpAll K H (xs.drop n) (ds.drop n)
  | 0, _, _, r => r
  | n + 1, [], [], .nil => .nil
  | n + 1, _ :: _, _ :: _, .cons a r => dpall_drop n r
theorem dpall_take {H : Hp} : ∀ (n : Nat) {xs : List V} {ds : List PyData}, DpAll K H xs ds → DpAll K H (xs.take n) (ds.take n)
  | 0, _, _, _ => .nil
  | n + 1, [], [], .nil => .nil
  | n + 1, _ :: _, _ :: _, .cons a r => .cons a (dpall_take n r)
theorem dszs_drop : ∀ (n : Nat) (ds : List PyData), dsz.dszs (ds.drop n) ≤ dsz.dszs ds
  | 0, _ => Nat.le_refl _
  | n + 1, [] => Nat.le_refl _
  | n + 1, d :: ds => by
    have := dszs_drop n ds
    simp only [List.drop_succ_cons, dsz.dszs]
    omega
theorem dszs_take : ∀ (n : Nat) (ds : List PyData), dsz.dszs (ds.take n) ≤ dsz.dszs ds
  | 0, _ => Nat.zero_le _
  | n + 1, [] => Nat.le_refl _
  | n + 1, d :: ds => by
    have := dszs_take n ds
    simp only [List.take_succ_cons, dsz.dszs]
    omega
theorem flats_drop : ∀ (n : Nat) (ds : List PyData), flat.flats ds = true → flat.flats (ds.drop n) = true
  | 0, _, h => h
  | n + 1, [], h => h
  | n + 1, d :: ds, h => by
    rw [flat.flats, Bool.and_eq_true] at h
    exact flats_drop n ds h.2
theorem flats_take : ∀ (n : Nat) (ds : List PyData), flat.flats ds = true → flat.flats (ds.take n) = true
  | 0, _, _ => rfl
  | n + 1, [], h => h
  | n + 1, d :: ds, h => by
    rw [flat.flats, Bool.and_eq_true] at h
    rw [List.take_succ_cons, flat.flats, h.1, flats_take n ds h.2]
    rfl
/-- what is picked out of a list of data -/
theorem pick {H : Hp} {xs : List V} {ds : List PyData} (r : DpAll K H xs ds) (f : flat.flats ds = true) {i : Int} (h0 : 0 ≤ i) (h1 : i < (ds.length : Nat)) : ∃ v d, atI xs i = some v ∧ Fd K H v d ∧ d ∈ ds := by
  have hl := dpall_len r
  have hlt : i.toNat < xs.length := by omega
  obtain ⟨d, hd, hD⟩ := dpall_get r i.toNat xs[i.toNat] (List.getElem?_eq_getElem hlt)
  refine ⟨xs[i.toNat], d, at_of (j := i.toNat) (by omega) (List.getElem?_eq_getElem hlt), ⟨flats_get2 ds f _ d hd, hD⟩, List.mem_of_getElem? hd⟩
theorem cut_dp {H : Hp} {xs : List V} {ds : List PyData} (r : DpAll K H xs ds) (lo hi : Option Int) : ∃ es, DpAll K H (cutV xs lo hi) es ∧ (flat.flats ds = true → flat.flats es = true) ∧ dsz.dszs es ≤ dsz.dszs ds ∧ es.length ≤ ds.length := by
  unfold cutV
  refine ⟨_, dpall_take _ (dpall_drop _ r), fun f => flats_take _ _ (flats_drop _ _ f), Nat.le_trans (dszs_take _ _) (dszs_drop _ _), ?_⟩
  rw [List.length_take, List.length_drop]
  omega
end
end Lm

set_option Elab.async false
set_option linter.all false
set_option maxRecDepth 100000
set_option maxHeartbeats 2000000
namespace Lm
open PySem PySem.Spec PyProof.Rows L2 LmR RZ
def keyP : PyData → V
  | .tuple (kd :: _) => keyV kd
  | _ => .non
/-- what is told of a stock -/
def dueD (d : PyData) : PyData := match stockD d with
  | none => .tuple [.str "by", .bool true]
  | some (x, n) => .tuple [.str "no stock", .str x, .int (n : Nat)]
theorem due_none {d : PyData} (h : stockD d = none) : dueD d = .tuple [.str "by", .bool true] := by unfold dueD; rw [h]
theorem due_some {d : PyData} {x : Str} {n : Nat} (h : stockD d = some (x, n)) : dueD d = .tuple [.str "no stock", .str x, .int (n : Nat)] := by unfold dueD; rw [h]
/-- pairs, read: their keys stand first -/
theorem keys_of {K : PySem.W.Frag} {H : Hp} {k : Nat} (hk : k ≤ 2) : ∀ {xs : List V} {ds : List PyData}, DpAll K H xs ds → ds.all (pairD (k == 2)) = true → ∀ (j : Nat) (x : V), xs[j]? = some x → ∃ (b : Addr) (kd : PyData) (load : Int), ds[j]? = some (.tuple [kd, .int load]) ∧ x = .ref b ∧ SqT K H b [keyV kd, .int load] ∧ KeyOf k (keyV kd) ∧ flatV (keyV kd) = true := fun {xs ds} r hp j x hx => by
  obtain ⟨dx, hdx, hDx⟩ := dpall_get r j x hx
  have px := List.all_eq_true.mp hp dx (List.mem_of_getElem? hdx)
  obtain ⟨kd, load, rfl, kk, fk, rd⟩ := pair_of hk px
  cases hDx with
  | tup qb rb => cases rb with
    | cons r1 r => cases r with
      | cons r2 r =>
        cases r
        have e1 := rd r1
        subst e1
        cases r2
        exact ⟨_, kd, load, hdx, rfl, qb, kk, fk⟩
theorem keys_flat {k : Nat} (hk : k ≤ 2) : ∀ ds : List PyData, ds.all (pairD (k == 2)) = true → (ds.map keyP).all flatV = true
  | [], _ => rfl
  | d :: ds, h => by
    rw [List.all_cons, Bool.and_eq_true] at h
    obtain ⟨kd, load, rfl, _, fk, _⟩ := pair_of hk h.1
    rw [List.map_cons, List.all_cons, keys_flat hk ds h.2, Bool.and_true]
    exact fk
section
variable {P : Program} {w : World} {K : PySem.W.Frag} {mg : Str → Option Value} {base : Heap}
abbrev s_l_stock_due : Stmt := topS 37
theorem sc_l_stock_due : FnScope ["_law_stock_here", "_law_words", "_law_k", "_law_some", "_law_at", "_law_thing", "_law_heavy", "_law_ahead", "_law_wrong", "_law_one", "_law_own"] ["_law_stock_here"] (defScope s_l_stock_due) := ⟨rfl, rfl, rfl, by decide +kernel, rfl, by decide +kernel, by decide +kernel⟩
def spLD (K : PySem.W.Frag) : Sp := fun vs H Q _ => ∃ (v : V) (d : PyData), vs = [v] ∧ Fd K H v d ∧ dsz d ≤ 1000 ∧ ∀ u H', Same H H' → Fd K H' u (dueD d) → Q u H'
theorem ok_l_stock_due (B : Bt mg) (C_l_is_pairs : Cal P w K mg base 1 "_law_is_pairs" ["_law_some", "_law_is_word"] (spLIP K)) (D : DefAt K mg "_law_stock_due" s_l_stock_due ["_law_stock_here"]) : Cal P w K mg base 2 "_law_stock_due" ["_law_stock_here"] (spLD K) := by
  refine cal_of D sc_l_stock_due (fun vs H Q E h => ?_) (fun f cdv A outer s H vs Q E hr h => ?_)
  · obtain ⟨v, d, rfl, _⟩ := h
    rfl
  obtain ⟨v, d, rfl, hv, hz, q⟩ := h
  have hr' : Room 1 _ := hr
  refine ⟨_, (pss_cons (ps_if (PW.pt (pw_or (pt_not (pt_val (pe_callB call_isi (by rfl) B.isinstance (by decide +kernel) (pa_cons (pv 0) (pa_cons (pe_bltn (v := .ty "tuple") (by rfl) B.tuple PyProof.Rows.boot_tuple rfl) pa_nil))))) (pw_or1 (pt_cmpR op_ne (pe_callB call_len_seq (by rfl) B.len PySem.boot_len (pa_cons (pv 0) pa_nil)) pe_int (nomark _)))))
        (pss_one (ps_ret (pe_tup (pa_cons pe_str (pa_cons pe_str (pa_cons pe_int pa_nil))))))
        pss_nil)
      (pss_cons (ps_if (pt_not (pt_val (pe_callB (cr_all rfl) (by rfl) B.all PyProof.Rows.boot_all (pa_cons (pe_lc (own := [("_law_k", 2), ("_law_some", 3)]) (g := gTup K 2 (gCons (gName 2) (gCons (gName 3) gNil))) rfl sc_l_stock_due.nd (pi_enumT (by rfl) B.enumerate (pa_cons (pv 0) pa_nil)) (blkOk_by (own := [("_law_k", 2), ("_law_some", 3)]) (N := ["_law_stock_here", "_law_words", "_law_k", "_law_some", "_law_at", "_law_thing", "_law_heavy", "_law_ahead", "_law_wrong", "_law_one", "_law_own"]) (sc := defScope s_l_stock_due) (by decide +kernel)) (fun _ _ _ _ _ => (pg_tupK (K := K) rfl rfl (pgs_cons (pg_name (i := 2) sc_l_stock_due.nd rfl (.inl rfl)) (pgs_cons (pg_name (i := 3) sc_l_stock_due.nd rfl (.inl rfl)) pgs_nil)))) (fun _ _ _ _ _ => pts_nil) (fun _ _ _ _ _ => (pe_cal C_l_is_pairs hr' (by rfl) (pa_cons (pv 3) (pa_cons (pe_cmpR op_eq (pv 2) pe_int (nomark _)) pa_nil))))) pa_nil))))
        (pss_one (ps_ret (pe_tup (pa_cons pe_str (pa_cons pe_str (pa_cons pe_int pa_nil))))))
        pss_nil)
      (pss_cons (ps_set (i := 1) sc_l_stock_due.nd rfl (.inl rfl) (pe_tup (pa_cons pe_str (pa_cons pe_str (pa_cons pe_str (pa_cons pe_str (pa_cons pe_str (pa_cons pe_str (pa_cons pe_str (pa_cons pe_str (pa_cons pe_str pa_nil)))))))))))
      (pss_cons (ps_for PassesOwn.never rfl (pi_enumT (by rfl) B.enumerate (pa_cons (pv 0) pa_nil)) (pg_tup rfl (pgs_cons (pg_name (i := 2) sc_l_stock_due.nd rfl (.inl rfl)) (pgs_cons (pg_name (i := 3) sc_l_stock_due.nd rfl (.inl rfl)) pgs_nil)))
        (pss_one (ps_for PassesOwn.never rfl (pi_enumT (by rfl) B.enumerate (pa_cons (pv 3) pa_nil)) (pg_tup rfl (pgs_cons (pg_name (i := 4) sc_l_stock_due.nd rfl (.inl rfl)) (pgs_cons (pg_tup rfl (pgs_cons (pg_name (i := 5) sc_l_stock_due.nd rfl (.inl rfl)) (pgs_cons (pg_name (i := 6) sc_l_stock_due.nd rfl (.inl rfl)) pgs_nil))) pgs_nil)))
        (pss_cons (ps_setLc (i := 7) (own := [("_law_one", 9), ("_law_own", 10)]) (g := gTup K 2 (gCons (gName 9) (gCons (gName 10) gNil))) rfl sc_l_stock_due.nd rfl rfl (sw_true rfl rfl rfl (by decide +kernel)) (pi_tup (pe_slice sl_tupA (pv 3) po_none (po_some (pv 4)))) (blkOk_by (own := [("_law_one", 9), ("_law_own", 10)]) (N := ["_law_stock_here", "_law_words", "_law_k", "_law_some", "_law_at", "_law_thing", "_law_heavy", "_law_ahead", "_law_wrong", "_law_one", "_law_own"]) (sc := defScope s_l_stock_due) (by decide +kernel)) (fun _ _ _ _ _ => (pg_tupK (K := K) rfl rfl (pgs_cons (pg_name (i := 9) sc_l_stock_due.nd rfl (.inl rfl)) (pgs_cons (pg_name (i := 10) sc_l_stock_due.nd rfl (.inl rfl)) pgs_nil)))) (fun _ _ _ _ _ => pts_nil) (fun _ _ _ _ _ => (pv 9)))
      (C8.pss_cut (ps_set (i := 8) sc_l_stock_due.nd rfl (.inl rfl) (pe_or (pe_cmpR op_in_seq (pv 5) (pv 7) rfl) (pe_one (pe_cmpR op_lt (pv 6) pe_int (nomark _)))))
      (pss_one (ps_if (PW.pt (pw_or (pt_val (pv 8)) (pw_or (PW.pt (pw_and (pt_cmpR op_eq (pv 2) pe_int (nomark _)) (pw_and1 (pt_cmpR op_eq (pv 5) pe_int (nomark _))))) (pw_or1 (PW.pt (pw_and (pt_cmpR op_eq (pv 2) pe_int (nomark _)) (pw_and1 (pt_cmpR op_notIn_seq (pv 5) (pv 1) rfl))))))))
        (pss_one (ps_ret (pe_tup (pa_cons pe_str (pa_cons (pe_ix ix_list (pe_lst (pa_cons pe_str (pa_cons pe_str (pa_cons pe_str pa_nil)))) (pv 2) (fun _ _ => rfl)) (pa_cons (pv 4) pa_nil))))))
        pss_nil)))))))
      (pss_one (ps_ret (pe_tup (pa_cons pe_str (pa_cons pe_bl pa_nil))))))))), ?_⟩
  have form : stockD d = some (("form" : Str), 0) → ∀ H', Same H H' → [V.str "no stock", .str "form", .int 0].length ≤ sizeLine ∧ ∀ t, H' t = none → Q (.ref t) (upd H' t (.tup [.str "no stock", .str "form", .int 0])) := fun e H' s' => by
    refine ⟨(by show 3 ≤ sizeLine; decide), fun t ht => q _ _ (s'.trans (same_new ht)) ?_⟩
    rw [due_some e]
    exact fd_tup upd_same (.cons (.str _) (.cons (.str _) (.cons (.int _) .nil))) rfl
  have nf : tripleD d = false → stockD d = some (("form" : Str), 0) := fun e => by unfold stockD; rw [e]; rfl
  refine ⟨_, rfl, v, _, _, _, _, rfl, .ty _, hv.ty, kit_tup d hv.1, _, rfl, ite2 (fun c => ?_) (fun c => ?_)⟩
  · exact iteY rfl (form (nf (by cases d <;> first | rfl | (simp [isTup] at c; done))) H (Same.refl _))
  have it : isTup d = true := by simpa using c
  obtain ⟨ds, rfl⟩ : ∃ ds, d = .tuple ds := by cases d <;> first | exact ⟨_, rfl⟩ | (simp [isTup] at it; done)
  obtain ⟨a, xs, rfl, qa, r⟩ : ∃ a xs, v = .ref a ∧ SqT K H a xs ∧ DpAll K H xs ds := by
    cases hv.2 with
    | tup qa r => exact ⟨_, _, rfl, qa, r⟩
  have hl := dpall_len r
  refine ⟨_, rfl, a, xs, rfl, .inr qa, rfl, _, rfl, ite2 (fun c2 => ?_) (fun c2 => ?_)⟩
  · have n3 : ds.length ≠ 3 := fun z => by
      rw [hl, z] at c2
      simp at c2
    refine form (nf ?_) H (Same.refl _)
    match ds, n3 with
    | [], _ => rfl
    | [_], _ => rfl
    | [_, _], _ => rfl
    | [_, _, _], z => exact absurd rfl z
    | _ :: _ :: _ :: _ :: _, _ => rfl
  obtain ⟨k1, k2, k3, rfl⟩ : ∃ k1 k2 k3, ds = [k1, k2, k3] := by
    have n3 : ds.length = 3 := by
      have z : ((xs.length : Nat) : Int) = 3 := by simpa using c2
      omega
    match ds, n3 with
    | [k, l, m], _ => exact ⟨_, _, _, rfl⟩
  obtain ⟨v1, v2, v3, rfl, r1, r2, r3⟩ : ∃ v1 v2 v3, xs = [v1, v2, v3] ∧ Dp K H v1 k1 ∧ Dp K H v2 k2 ∧ Dp K H v3 k3 := by
    cases r with
    | cons r1 r => cases r with
      | cons r2 r => cases r with
        | cons r3 r => cases r; exact ⟨_, _, _, rfl, r1, r2, r3⟩
  have ff : flat k1 = true ∧ flat k2 = true ∧ flat k3 = true := by
    have fd := hv.1
    simpa [flat, flat.flats] using fd
  have zz : dsz k1 ≤ 1000 ∧ dsz k2 ≤ 1000 ∧ dsz k3 ≤ 1000 := by
    simp [dsz, dsz.dszs] at hz
    omega
  refine ⟨_, rfl, a, _, rfl, qa, fun D hD => lc_it (walk_enumT (K := K) (a := a) (xs := [v1, v2, v3])) (fun j H' => Same H H' ∧ H' D = some (.lst ((([pairsD false k1, pairsD false k2, pairsD true k3] : List Bool).take j).map V.bl))) ?_ ?_ ?_ ?_⟩
  · exact ⟨same_new hD, upd_same⟩
  · rintro j H' _ ⟨s', _⟩
    exact sqT_same s' qa
  · rintro j x H' H2 hj ⟨s', hD'⟩ ⟨T, p, y, rfl, hT, rfl, hp, hy⟩
    have hp' := Option.some.inj hp
    subst hp'
    have sm2 := same_new (o := .tup [.int (j : Nat), y]) hT
    have eT : (upd H' T (.tup [.int (j : Nat), y])) T = some (.tup [.int (j : Nat), y]) := upd_same
    generalize upd H' T (.tup [.int (j : Nat), y]) = H2 at sm2 eT
    refine ⟨T, _, rfl, .inl (.inl eT), rfl, _, _, rfl, _, _, rfl, rfl, ?_⟩
    have go : ∀ (d : PyData) (b : Bool), decide (V.int (j : Nat) = V.int 2) = b → Dp K H y d → flat d = true → dsz d ≤ 1000 → ([pairsD false k1, pairsD false k2, pairsD true k3] : List Bool)[j]? = some (pairsD b d) → spLIP K [y, .bl (decide (V.int (j : Nat) = V.int 2))] H2 (fun v H4 => ∃ acc, H4 D = some (.lst acc) ∧ acc.length < sizeLine ∧ (Same H (upd H4 D (.lst (acc ++ [v]))) ∧ (upd H4 D (.lst (acc ++ [v]))) D = some (.lst ((([pairsD false k1, pairsD false k2, pairsD true k3] : List Bool).take (j + 1)).map V.bl)))) (fun _ _ _ => False) := fun d b eb hd fd hz hb => by
      refine ⟨y, d, b, by rw [eb], Fd.keep ⟨fd, hd⟩ (Tp.same (s'.trans sm2)), hz, fun H4 s4 => ?_⟩
      have hD4 := s4 _ _ (sm2 _ _ hD')
      have j3 : j < 3 := hj
      refine ⟨_, hD4, by rw [List.length_map, List.length_take]; exact smallL (by show min j 3 ≤ 100000; omega), fun b o z => ?_, ?_⟩
      · rw [upd_ne (ne_of_none z hD)]
        exact s4 _ _ (sm2 _ _ (s' _ _ z))
      · rw [upd_same, List.take_add_one, hb, List.map_append]
        rfl
    have j3 : j < 3 := hj
    rcases (show j = 0 ∨ j = 1 ∨ j = 2 by omega) with e | e | e
    · subst e
      simp only [List.getElem?_cons_zero, Option.some.injEq] at hy
      subst hy
      exact ⟨rfl, _, rfl, _, rfl, rfl, go k1 false (by decide +kernel) r1 ff.1 zz.1 rfl⟩
    · subst e
      simp only [List.getElem?_cons_zero, List.getElem?_cons_succ, Option.some.injEq] at hy
      subst hy
      exact ⟨rfl, _, rfl, _, rfl, rfl, go k2 false (by decide +kernel) r2 ff.2.1 zz.2.1 rfl⟩
    · subst e
      simp only [List.getElem?_cons_zero, List.getElem?_cons_succ, Option.some.injEq] at hy
      subst hy
      exact ⟨rfl, _, rfl, _, rfl, rfl, go k3 true (by decide +kernel) r3 ff.2.2 zz.2.2 rfl⟩
  rintro H1 ⟨s1, hD1⟩
  have e3 : ([pairsD false k1, pairsD false k2, pairsD true k3] : List Bool).all id = tripleD (.tuple [k1, k2, k3]) := by simp [tripleD]
  refine ⟨D, [pairsD false k1, pairsD false k2, pairsD true k3], rfl, SqL.of hD1, _, rfl, ite2 (fun c3 => ?_) (fun c3 => ?_)⟩
  · have z : (!([pairsD false k1, pairsD false k2, pairsD true k3] : List Bool).all id) = true := c3
    rw [e3] at z
    exact form (nf (by simpa using z)) H1 s1
  have tr : tripleD (.tuple [k1, k2, k3]) = true := by
    have z : ¬ (!([pairsD false k1, pairsD false k2, pairsD true k3] : List Bool).all id) = true := c3
    rw [e3] at z
    simpa using z
  obtain ⟨ds1, ds2, ds3, e, p1, p2, p3⟩ := triple_of tr
  injection e with e
  injection e with e1' e
  injection e with e2' e
  injection e with e3' e
  subst e1' e2' e3'
  have es : stockD (.tuple [.tuple ds1, .tuple ds2, .tuple ds3]) = stFrom [ds1, ds2, ds3] 0 := by unfold stockD; rw [tr]; rfl
  have zl : ds1.length ≤ 1000 ∧ ds2.length ≤ 1000 ∧ ds3.length ≤ 1000 := by
    have z1 := dszs_len ds1
    have z2 := dszs_len ds2
    have z3 := dszs_len ds3
    simp [dsz, dsz.dszs] at hz
    omega
  -- the words
  refine ⟨(by show 9 ≤ sizeLine; decide), fun tw htw => ?_⟩
  have s2 : Same H (upd H1 tw (.tup [.str "yes", .str "no", .str "least", .str "most", .str "atmost", .str "not", .str "both", .str "either", .str "if"])) := s1.trans (same_new htw)
  have ew : (upd H1 tw (.tup [.str "yes", .str "no", .str "least", .str "most", .str "atmost", .str "not", .str "both", .str "either", .str "if"])) tw = some (.tup (stockW.map V.str)) := upd_same
  generalize upd H1 tw (.tup [.str "yes", .str "no", .str "least", .str "most", .str "atmost", .str "not", .str "both", .str "either", .str "if"]) = H2 at s2 ew
  refine ⟨_, rfl, a, _, rfl, sqT_same s2 qa, for_enumT (K := K) (xs := [v1, v2, v3]) (fun i σ H' => (∃ y2 y3 y4 y5 y6 y7 y8 y9 y10 : Option V, σ = [some (.ref a), some (.ref tw), y2, y3, y4, y5, y6, y7, y8, y9, y10]) ∧ Same H2 H' ∧ stockD (.tuple [.tuple ds1, .tuple ds2, .tuple ds3]) = stFrom ([ds1, ds2, ds3].drop i) i) ?_ ?_ ?_ ?_⟩
  · exact ⟨⟨_, _, _, _, _, _, _, _, _, rfl⟩, Same.refl _, es⟩
  · rintro i σ H' ⟨_, s', _⟩
    exact sqT_same (s2.trans s') qa
  · rintro i y σ H' T hy ⟨⟨y2, y3, y4, y5, y6, y7, y8, y9, y10, rfl⟩, s', ei⟩ hT
    have sm2 := same_new (o := .tup [.int (i : Nat), y]) hT
    have eT : (upd H' T (.tup [.int (i : Nat), y])) T = some (.tup [.int (i : Nat), y]) := upd_same
    have sT := s'.trans sm2
    generalize upd H' T (.tup [.int (i : Nat), y]) = H3 at sT eT
    obtain ⟨ds, hi, fy, hz', hp', ed⟩ : ∃ ds, i ≤ 2 ∧ Fd K H y (.tuple ds) ∧ ds.length ≤ 1000 ∧ ds.all (pairD (i == 2)) = true ∧ [ds1, ds2, ds3].drop i = ds :: [ds1, ds2, ds3].drop (i + 1) := by
      have hi : i < 3 := by
        have := (List.getElem?_eq_some_iff.mp hy).1
        simpa using this
      rcases (show i = 0 ∨ i = 1 ∨ i = 2 by omega) with e | e | e
      · subst e
        simp only [List.getElem?_cons_zero, Option.some.injEq] at hy
        subst hy
        exact ⟨ds1, by decide, ⟨ff.1, r1⟩, zl.1, p1, rfl⟩
      · subst e
        simp only [List.getElem?_cons_zero, List.getElem?_cons_succ, Option.some.injEq] at hy
        subst hy
        exact ⟨ds2, by decide, ⟨ff.2.1, r2⟩, zl.2.1, p2, rfl⟩
      · subst e
        simp only [List.getElem?_cons_zero, List.getElem?_cons_succ, Option.some.injEq] at hy
        subst hy
        exact ⟨ds3, by decide, ⟨ff.2.2, r3⟩, zl.2.2, p3, rfl⟩
    rw [ed] at ei
    obtain ⟨b, ys, rfl, qb, rb⟩ : ∃ b ys, y = .ref b ∧ SqT K H b ys ∧ DpAll K H ys ds := by
      cases fy.2 with
      | tup qa r => exact ⟨_, _, rfl, qa, r⟩
    have s3 := s2.trans sT
    have hyl := dpall_len rb
    have at3 : atI [V.str "number", .str "step", .str "word"] ((i : Nat) : Int) = some (.str (partS i)) := by
      rcases (show i = 0 ∨ i = 1 ∨ i = 2 by omega) with e | e | e <;> subst e <;> rfl
    refine ⟨T, _, rfl, .inl (.inl eT), rfl, _, _, rfl, _, _, rfl, rfl, ?_⟩
    refine ⟨_, rfl, b, ys, rfl, sqT_same s3 qb, for_enumT (K := K) (xs := ys) (fun j σ H' => (∃ z4 z5 z6 z7 z8 : Option V, σ = [some (.ref a), some (.ref tw), some (.int (i : Nat)), some (.ref b), z4, z5, z6, z7, z8, y9, y10]) ∧ Same H3 H' ∧ amissD i ds [] 0 = amissD i (ds.drop j) ((ds.take j).map keyP) j) ?_ ?_ ?_ ?_⟩
    · exact ⟨⟨_, _, _, _, _, rfl⟩, Same.refl _, by rw [List.drop_zero]; rfl⟩
    · rintro j σ H' ⟨_, s', _⟩
      exact sqT_same (s3.trans s') qb
    · rintro j x σ H4 T2 hx ⟨⟨z4, z5, z6, z7, z8, rfl⟩, s4, ea⟩ hT2
      obtain ⟨c, kd, load, hdx, rfl, qc, kk, fk⟩ := keys_of hi rb hp' j x hx
      have sm := same_new (o := .tup [.int (j : Nat), .ref c]) hT2
      have eT2 : (upd H4 T2 (.tup [.int (j : Nat), .ref c])) T2 = some (.tup [.int (j : Nat), .ref c]) := upd_same
      have s5 := s4.trans sm
      generalize upd H4 T2 (.tup [.int (j : Nat), .ref c]) = H5 at s5 eT2
      have s05 := s3.trans s5
      have jl : j < ds.length := (List.getElem?_eq_some_iff.mp hdx).1
      have hst : ds.drop j = .tuple [kd, .int load] :: ds.drop (j + 1) := by
        obtain ⟨hj, e⟩ := List.getElem?_eq_some_iff.mp hdx
        rw [List.drop_eq_getElem_cons hj, e]
      rw [hst] at ea
      have fa := keys_flat hi (ds.take j) (List.all_eq_true.mpr fun x hx => List.all_eq_true.mp hp' x (List.mem_of_mem_take hx))
      have etk : (ds.take (j + 1)).map keyP = (ds.take j).map keyP ++ [keyV kd] := by
        rw [List.take_add_one, hdx, List.map_append]
        rfl
      have ael : ((ds.take j).map keyP).length = j := by rw [List.length_map, List.length_take]; omega
      generalize hah : (ds.take j).map keyP = ah at ea fa ael
      have ea' : amissD i ds [] 0 = if (inV (keyV kd) ah || (decide (load < 1) || !mayV i (keyV kd))) = true then some j else amissD i (ds.drop (j + 1)) (ah ++ [keyV kd]) (j + 1) := ea
      refine ⟨T2, _, rfl, .inl (.inl eT2), rfl, _, _, rfl, _, _, rfl, c, _, rfl, sqT_same s05 qc, rfl, _, _, rfl, _, _, rfl, rfl, rfl, ?_⟩
      -- ahead
      refine ⟨_, rfl, _, rfl, _, rfl, slA_any (sqT_same s05 qb) fun p1 J1 sj1 q1 => ?_⟩
      rw [cut_take (by omega)] at q1
      have s0j := s05.trans sj1
      refine ⟨p1, rfl, ⟨_, q1⟩, fun D hD => lc_tup (K := K) (a := p1) (xs := ys.take j) (fun m H' => Same J1 H' ∧ m ≤ j ∧ H' D = some (.lst ((ds.take m).map keyP))) ?_ ?_ ?_ ?_⟩
      · exact ⟨same_new hD, Nat.zero_le _, upd_same⟩
      · rintro m H' _ ⟨sm', _⟩
        exact sqT_same sm' q1
      · rintro m x' H6 hx' ⟨s6, _, hD6⟩
        have mj : m < j := by
          have := (List.getElem?_eq_some_iff.mp hx').1
          rw [List.length_take] at this
          omega
        have hx2 : ys[m]? = some x' := by
          rw [List.getElem?_take] at hx'
          rw [if_pos mj] at hx'
          exact hx'
        obtain ⟨c', kd', load', hd', rfl, qc', _, _⟩ := keys_of hi rb hp' m x' hx2
        refine ⟨c', _, rfl, sqT_same (s0j.trans s6) qc', rfl, _, _, rfl, _, _, rfl, rfl, ?_⟩
        refine ⟨rfl, _, rfl, _, hD6, by rw [List.length_map, List.length_take]; exact smallL (by omega), fun b o z => ?_, mj, ?_⟩
        · rw [upd_ne (ne_of_none z hD)]
          exact s6 _ _ z
        · rw [upd_same, List.take_add_one, hd', List.map_append]
          rfl
      rintro H7 ⟨s7, _, hD7⟩
      rw [List.length_take, hyl, Nat.min_eq_left (by omega), hah] at hD7
      have s07 := s0j.trans s7
      have s37 : Same H3 H7 := s5.trans (sj1.trans s7)
      have s27 : Same H2 H7 := sT.trans s37
      -- wrong
      refine ⟨fun σ' H8 => ∃ bb : Bool, bb = (inV (keyV kd) ah || decide (load < 1)) ∧ σ' = [some (.ref a), some (.ref tw), some (.int (i : Nat)), some (.ref b), some (.int (j : Nat)), some (keyV kd), some (.int load), some (.ref D), some (.bl bb), y9, y10] ∧ H8 = H7, ?_, ?_⟩
      · refine ⟨_, rfl, _, rfl, D, ah, rfl, .inl (SqL.of hD7), fk, fa, _, rfl, ite2 (fun c1 => ?_) (fun c1 => ?_)⟩
        · have c1' : inV (keyV kd) ah = true := c1
          exact ⟨_, by rw [c1']; rfl, rfl, rfl⟩
        · have c1' : inV (keyV kd) ah = false := Bool.eq_false_iff.mpr c1
          exact ⟨_, rfl, _, _, rfl, rfl, _, by rw [c1']; rfl, rfl, rfl⟩
      rintro _ H8 ⟨bb, hbb, rfl, e8⟩
      subst e8
      have ea2 : amissD i ds [] 0 = if (bb || !mayV i (keyV kd)) = true then some j else amissD i (ds.drop (j + 1)) (ah ++ [keyV kd]) (j + 1) := by
        rw [ea', hbb, Bool.or_assoc]
      have fin : ∀ t (H9 : Hp), amissD i ds [] 0 = some j → Same H8 H9 → H9 t = none → Q (.ref t) (upd H9 t (.tup [.str "no stock", .str (partS i), .int (j : Nat)])) := fun t H9 e s9 ht => by
        refine q _ _ ((s07.trans s9).trans (same_new ht)) ?_
        rw [due_some (ei.trans (stF_some e))]
        exact fd_tup upd_same (.cons (.str _) (.cons (.str _) (.cons (.int _) .nil))) rfl
      cases bb with
      | true =>
        have e : amissD i ds [] 0 = some j := by rw [ea2]; rfl
        refine ⟨_, rfl, _, rfl, iteY rfl (iteY rfl ⟨(by show 3 ≤ sizeLine; decide), fun l hl => ⟨_, rfl, l, _, _, _, rfl, rfl, SqL.of upd_same, at3, _, rfl, (by show 3 ≤ sizeLine; decide), fun t ht => fin t _ e (same_new hl) ht⟩⟩)⟩
      | false =>
        have nx : mayV i (keyV kd) = true → amissD i ds [] 0 = amissD i (ds.drop (j + 1)) ((ds.take (j + 1)).map keyP) (j + 1) := fun e => by
          rw [etk, hah, ea2, e]
          rfl
        have am : mayV i (keyV kd) = false → amissD i ds [] 0 = some j := fun e => by
          rw [ea2, e]
          rfl
        rcases (show i = 0 ∨ i = 1 ∨ i = 2 by omega) with e | e | e
        · subst e
          have m0 : mayV 0 (keyV kd) = true := by simp [mayV]
          exact ⟨_, rfl, _, rfl, iteF ⟨_, rfl, rfl, _, rfl, ite2 (fun c => absurd c (by decide +kernel)) (fun _ => iteF ⟨_, rfl, rfl, _, rfl, ite2 (fun c => absurd c (by decide +kernel)) (fun _ => iteF ⟨⟨_, _, _, _, _, rfl⟩, s37, nx m0⟩)⟩)⟩⟩
        · subst e
          have m1 : mayV 1 (keyV kd) = !decide (keyV kd = V.int 0) := by simp [mayV]
          refine ⟨_, rfl, _, rfl, iteF ⟨_, rfl, rfl, _, rfl, ite2 (fun _ => ⟨_, rfl, ?_⟩) (fun c => absurd (by decide +kernel) c)⟩⟩
          obtain ⟨kz, hkz⟩ : ∃ kz : Int, keyV kd = .int kz := by
            rcases kk with ⟨_, h⟩ | ⟨h, _⟩
            · exact h
            · omega
          refine ⟨by rw [hkz]; rfl, _, rfl, ite2 (fun c => iteY rfl ?_) (fun c => ⟨_, rfl, rfl, _, rfl, ite2 (fun c => absurd c (by decide +kernel)) (fun _ => iteF ⟨⟨_, _, _, _, _, rfl⟩, s37, nx ?_⟩)⟩)⟩
          · have c' : decide (keyV kd = V.int 0) = true := c
            exact ⟨(by show 3 ≤ sizeLine; decide), fun l hl => ⟨_, rfl, l, _, _, _, rfl, rfl, SqL.of upd_same, at3, _, rfl, (by show 3 ≤ sizeLine; decide), fun t ht => fin t _ (am (by rw [m1, c']; rfl)) (same_new hl) ht⟩⟩
          · have c' : decide (keyV kd = V.int 0) = false := Bool.eq_false_iff.mpr c
            rw [m1, c']
            rfl
        · subst e
          have m2 : mayV 2 (keyV kd) = inV (keyV kd) (stockW.map V.str) := by simp [mayV]
          refine ⟨_, rfl, _, rfl, iteF ⟨_, rfl, rfl, _, rfl, ite2 (fun c => absurd c (by decide +kernel)) (fun _ => iteF ⟨_, rfl, rfl, _, rfl, ite2 (fun _ => ⟨_, rfl, _, rfl, tw, _, rfl, .inr (.inl (.inl (s27 _ _ ew))), fk, rfl, _, rfl, ite2 (fun c => ?_) (fun c => ⟨⟨_, _, _, _, _, rfl⟩, s37, nx ?_⟩)⟩) (fun c => absurd (by decide +kernel) c)⟩)⟩⟩
          · have c' : (!inV (keyV kd) (stockW.map V.str)) = true := c
            exact ⟨(by show 3 ≤ sizeLine; decide), fun l hl => ⟨_, rfl, l, _, _, _, rfl, rfl, SqL.of upd_same, at3, _, rfl, (by show 3 ≤ sizeLine; decide), fun t ht => fin t _ (am (by rw [m2]; simpa using c')) (same_new hl) ht⟩⟩
          · have c' : ¬ (!inV (keyV kd) (stockW.map V.str)) = true := c
            rw [m2]
            simpa using c'
    · rintro σ H' ⟨⟨z4, z5, z6, z7, z8, rfl⟩, s', ea⟩
      rw [hyl, List.drop_length] at ea
      exact ⟨⟨_, _, _, _, _, _, _, _, _, rfl⟩, sT.trans s', ei.trans (stF_none ea)⟩
  · rintro σ H' ⟨⟨y2, y3, y4, y5, y6, y7, y8, y9, y10, rfl⟩, s', ei⟩
    refine ⟨(by show 2 ≤ sizeLine; decide), fun t ht => q _ _ ((s2.trans s').trans (same_new ht)) ?_⟩
    rw [due_none (ei.trans rfl)]
    exact fd_tup upd_same (.cons (.str _) (.cons (.bl _) .nil)) rfl
end
end Lm

set_option Elab.async false
set_option linter.all false
set_option maxRecDepth 100000
set_option maxHeartbeats 2000000
namespace Lm
open PySem PySem.Spec PyProof.Rows L2 LmR
section
variable {P : Program} {w : World} {K : PySem.W.Frag} {mg : Str → Option Value} {base : Heap}
abbrev s_l_sorts : Stmt := topS 32
theorem sc_l_sorts : FnScope ["_law_e", "_law_found"] ["_law_e"] (defScope s_l_sorts) := ⟨rfl, rfl, rfl, by decide +kernel, rfl, by decide +kernel, by decide +kernel⟩
theorem ok_l_sorts (B : Bt mg) {C : Addr} {bs : List Bool} (S : Sorts K mg C bs) (k : ExK K C) {f : Addr} {fd : FuncData} (F : Fun K "_law_sorts" "_law_sorts" s_l_sorts f fd) (a : Addr) (oe : Obj) (cls : Value) (d : Option Addr) (hz : Zc cls d oe) (hf : ∃ vs, oe.data = .fields vs) :
    FnP P w K mg base (a, oe) 1 f fd ["_law_e"] (spSorts C a cls d bs) := by
  refine fn_ofP F sc_l_sorts (fun vs H Q E h => ?_) (fun cdv A outer s H vs Q E hr h => ?_)
  · obtain ⟨rfl, _⟩ := h
    rfl
  obtain ⟨rfl, rfl, dd, fs, rfl, hx, q⟩ := h
  obtain ⟨c1, c2, c3, c4, c5, c6, c7, c8, c9, c10, c11, c12, b1, b2, b3, b4, b5, b6, b7, b8, b9, b10, b11, b12, S, rfl⟩ := S
  have hNoHead := S.g1
  have hNoProgram := S.g2
  have hNoText := S.g3
  have hNoStock := S.g4
  have hNoAnswer := S.g5
  have hNoInputs := S.g6
  have hClash := S.g7
  have hNoRow := S.g8
  have hNoQuestion := S.g9
  have hNoDoer := S.g10
  have hNotKept := S.g11
  have hNoName := S.g12
  refine ⟨_, (pss_cons (ps_set (i := 1) sc_l_sorts.nd rfl (.inl rfl) (pe_lst (pa_cons (pe_callB (call_isX k hz hf (List.mem_singleton.mpr rfl)) (by rfl) B.isinstance (by decide +kernel) (pa_cons (pv 0) (pa_cons (pe_glob (v := .ref _) (by rfl) hNoHead rfl) pa_nil))) (pa_cons (pe_callB (call_isX k hz hf (List.mem_singleton.mpr rfl)) (by rfl) B.isinstance (by decide +kernel) (pa_cons (pv 0) (pa_cons (pe_glob (v := .ref _) (by rfl) hNoProgram rfl) pa_nil))) (pa_cons (pe_callB (call_isX k hz hf (List.mem_singleton.mpr rfl)) (by rfl) B.isinstance (by decide +kernel) (pa_cons (pv 0) (pa_cons (pe_glob (v := .ref _) (by rfl) hNoText rfl) pa_nil))) (pa_cons (pe_callB (call_isX k hz hf (List.mem_singleton.mpr rfl)) (by rfl) B.isinstance (by decide +kernel) (pa_cons (pv 0) (pa_cons (pe_glob (v := .ref _) (by rfl) hNoStock rfl) pa_nil))) pa_nil))))))
      (pss_cons (ps_set (i := 1) sc_l_sorts.nd rfl (.inl rfl) (pe_op op_cat (pv 1) (pe_lst (pa_cons (pe_callB (call_isX k hz hf (List.mem_singleton.mpr rfl)) (by rfl) B.isinstance (by decide +kernel) (pa_cons (pv 0) (pa_cons (pe_glob (v := .ref _) (by rfl) hNoAnswer rfl) pa_nil))) (pa_cons (pe_callB (call_isX k hz hf (List.mem_singleton.mpr rfl)) (by rfl) B.isinstance (by decide +kernel) (pa_cons (pv 0) (pa_cons (pe_glob (v := .ref _) (by rfl) hNoInputs rfl) pa_nil))) (pa_cons (pe_callB (call_isX k hz hf (List.mem_singleton.mpr rfl)) (by rfl) B.isinstance (by decide +kernel) (pa_cons (pv 0) (pa_cons (pe_glob (v := .ref _) (by rfl) hClash rfl) pa_nil))) (pa_cons (pe_callB (call_isX k hz hf (List.mem_singleton.mpr rfl)) (by rfl) B.isinstance (by decide +kernel) (pa_cons (pv 0) (pa_cons (pe_glob (v := .ref _) (by rfl) hNoRow rfl) pa_nil))) pa_nil)))))))
      (pss_one (ps_ret (pe_op op_cat (pv 1) (pe_lst (pa_cons (pe_callB (call_isX k hz hf (List.mem_singleton.mpr rfl)) (by rfl) B.isinstance (by decide +kernel) (pa_cons (pv 0) (pa_cons (pe_glob (v := .ref _) (by rfl) hNoQuestion rfl) pa_nil))) (pa_cons (pe_callB (call_isX k hz hf (List.mem_singleton.mpr rfl)) (by rfl) B.isinstance (by decide +kernel) (pa_cons (pv 0) (pa_cons (pe_glob (v := .ref _) (by rfl) hNoDoer rfl) pa_nil))) (pa_cons (pe_callB (call_isX k hz hf (List.mem_singleton.mpr rfl)) (by rfl) B.isinstance (by decide +kernel) (pa_cons (pv 0) (pa_cons (pe_glob (v := .ref _) (by rfl) hNotKept rfl) pa_nil))) (pa_cons (pe_callB (call_isX k hz hf (List.mem_singleton.mpr rfl)) (by rfl) B.isinstance (by decide +kernel) (pa_cons (pv 0) (pa_cons (pe_glob (v := .ref _) (by rfl) hNoName rfl) pa_nil))) pa_nil)))))))))), ?_⟩
  refine ⟨_, rfl, _, _, rfl, S.k1, ⟨_, hx⟩, _, rfl, _, _, rfl, S.k2, ⟨_, hx⟩, _, rfl, _, _, rfl, S.k3, ⟨_, hx⟩, _, rfl, _, _, rfl, S.k4, ⟨_, hx⟩, (by show 4 ≤ sizeLine; decide), fun l1 h1 => ?_⟩
  have s1 : Same H (upd H l1 (.lst [.bl b1, .bl b2, .bl b3, .bl b4])) := same_new h1
  have e1 : upd H l1 (.lst [.bl b1, .bl b2, .bl b3, .bl b4]) l1 = some (.lst [.bl b1, .bl b2, .bl b3, .bl b4]) := upd_same
  have x1 := s1 _ _ hx
  refine ⟨_, rfl, _, rfl, _, _, rfl, S.k5, ⟨_, x1⟩, _, rfl, _, _, rfl, S.k6, ⟨_, x1⟩, _, rfl, _, _, rfl, S.k7, ⟨_, x1⟩, _, rfl, _, _, rfl, S.k8, ⟨_, x1⟩, (by show 4 ≤ sizeLine; decide), fun l2 h2 => ?_⟩
  have s2 := same_new (o := .lst [.bl b5, .bl b6, .bl b7, .bl b8]) h2
  refine ⟨l1, l2, _, _, rfl, rfl, s2 _ _ e1, upd_same, (by show 8 ≤ sizeLine; decide), fun l3 h3 => ?_⟩
  have s3 := same_new (o := .lst ([.bl b1, .bl b2, .bl b3, .bl b4] ++ [.bl b5, .bl b6, .bl b7, .bl b8])) h3
  have x3 := s3 _ _ (s2 _ _ x1)
  refine ⟨_, rfl, _, rfl, _, _, rfl, S.k9, ⟨_, x3⟩, _, rfl, _, _, rfl, S.k10, ⟨_, x3⟩, _, rfl, _, _, rfl, S.k11, ⟨_, x3⟩, _, rfl, _, _, rfl, S.k12, ⟨_, x3⟩, (by show 4 ≤ sizeLine; decide), fun l4 h4 => ?_⟩
  have s4 := same_new (o := .lst [.bl b9, .bl b10, .bl b11, .bl b12]) h4
  refine ⟨l3, l4, _, _, rfl, rfl, s4 _ _ upd_same, upd_same, (by show 12 ≤ sizeLine; decide), fun l5 h5 => ?_⟩
  exact q _ l5 ((((s1.trans s2).trans s3).trans s4).trans (same_new h5)) upd_same
theorem roomH_mark {A : Around} (r : Room 5 A) (m : Option Value) : L2H.RoomH 1 (A.mark m) := by
  have h1 := r.dp
  have h2 := r.un
  refine ⟨?_, ?_⟩
  · show A.depth + 3 * 1 + 5 < recursionLimit
    omega
  · show A.units + 16 * 1 + 200 < cLine
    omega
def rCountB (K : PySem.W.Frag) : V → List V → Hp → VK → Prop := fun x xs H Q => ∃ (p : Addr) (bs : List Bool), x = .ref p ∧ xs = [.bl true] ∧ SqL K H p (bs.map V.bl) ∧ Q (.int (bs.count true : Nat)) H
def tSuite (K : PySem.W.Frag) (C : Addr) (bs : List Bool) (a : Addr) (cls : Value) (d : Option Addr) : TS :=
  tIfS (tTest (tOp rEq (tBM K "list" (rCountB K) (tCall (spSorts C a cls d bs) [] (fun _ _ _ => False) (tCons (tVar 2) tNil)) (tCons (tC (.bl true)) tNil)) (tC (.int 1))))
    (tAsg (tTup (tCons (tC (.str "no stock")) (tCons (tXf a cls d C "word" (tVar 2)) (tCons (tXf a cls d C "at" (tVar 2)) tNil)))) (gName 1)) tNext
abbrev s_l_stock_told : Stmt := topS 38
theorem sc_l_stock_told : FnScope ["_law_stock_here", "_law_found", "_law_e"] ["_law_stock_here"] (defScope s_l_stock_told) := ⟨rfl, rfl, rfl, by decide +kernel, rfl, by decide +kernel, by decide +kernel⟩
theorem ok_l_stock_told (B : Bt mg) {bs : List Bool} (S : Sorts K mg c_NoStock bs) (hone : bs.count true = 1) (R_NoStock : Rf K mg "NoStock" "NoStock.__init__" c_NoStock i_NoStock f_NoStock s_NoStock ["word", "at"]) (C_look_stock : CalX P w K mg base 5 "look_stock" ["stock"] (spLookS K c_NoStock)) (D_sorts : DefAt K mg "_law_sorts" s_l_sorts ["_law_e"]) (D : DefAt K mg "_law_stock_told" s_l_stock_told ["_law_stock_here"]) : Cal P w K mg base 6 "_law_stock_told" ["_law_stock_here"] (spLD K) := by
  refine cal_of D sc_l_stock_told (fun vs H Q E h => ?_) (fun f cdv A outer s H vs Q E hr h => ?_)
  · obtain ⟨v, d, rfl, _⟩ := h
    rfl
  obtain ⟨v, d, rfl, hv, hz, q⟩ := h
  obtain ⟨fs, fds, Fs, bs_, gs⟩ := D_sorts
  have hr' : Room 5 _ := hr
  refine ⟨_, pss_cons (ps_set (i := 1) sc_l_stock_told.nd rfl (.inl rfl) (pe_tup (pa_cons pe_str pa_nil)))
    (pss_cons (ps_try_as (tb := fun W => tAsg (tTup (tCons (tC (.str "by")) (tCons (tCallS (spLookS K c_NoStock) (WE W) (tCons (tVar 0) tNil)) tNil))) (gName 1)) (ts := tSuite K c_NoStock bs) (Wout := fun _ _ _ _ => False) rfl rfl sc_l_stock_told.nd (i := 2) rfl rfl (c := .ref c_NoStock) ⟨rfl, by decide, .inl R_NoStock.g⟩ takes0
      (fun W pn xe tk _ => pss_one (ps_set (i := 1) sc_l_stock_told.nd rfl (.inl rfl) (pe_tup (pa_cons pe_str (pa_cons (pe_calX C_look_stock tk hr' (by rfl) (pa_cons (pv 0) pa_nil)) pa_nil)))))
      (fun a oe cls d pn hz hf => pss_one (ps_if
        (pt_cmpR op_eq (pe_bm PySem.F.plainAttrs_list PySem.F.slot_list_count PySem.F.type_list_count mt_countB (pe_callP (ok_l_sorts B S R_NoStock.k Fs a oe cls d hz hf) (roomH_mark hr' _) (List.mem_cons_self ..) (by rfl) gs Fs.kp bs_ (pa_cons (pv 2) pa_nil)) (pa_cons pe_bl pa_nil)) pe_int (nomark _))
        (pss_one (ps_set (i := 1) sc_l_stock_told.nd rfl (.inl rfl) (pe_tup (pa_cons pe_str (pa_cons (pe_xf R_NoStock.f (R_NoStock.fld _ (by simp)) hz hf (pv 2)) (pa_cons (pe_xf R_NoStock.f (R_NoStock.fld _ (by simp)) hz hf (pv 2)) pa_nil))))))
        pss_nil)))
      (pss_one (ps_ret (pv 1)))), ?_⟩
  refine ⟨(by show 1 ≤ sizeLine; decide), fun t0 h0 => ?_⟩
  have s0 : Same H (upd H t0 (.tup [.str "other"])) := same_new h0
  generalize upd H t0 (.tup [.str "other"]) = H0 at s0
  refine ⟨_, rfl, v, d, rfl, hv.keep (Tp.same s0), hz, fun e H' sm => ⟨(by show 2 ≤ sizeLine; decide), fun t ht => ⟨_, rfl, ?_⟩⟩, fun x n e a' H' sm hx => ⟨true, R_NoStock.te, fun _ ea hea => ?_, fun z => nomatch z⟩⟩
  · refine q _ _ ((s0.trans sm).trans (same_new ht)) ?_
    have z : dueD d = .tuple [.str "by", .bool true] := due_none e
    rw [z]
    exact fd_tup upd_same (.cons (.str _) (.cons (.bl _) .nil)) rfl
  refine ⟨_, rfl, rfl, rfl, a', _, rfl, hx, fun H2 l sm2 hl => ⟨.inl ⟨rfl, _, SqL.of hl⟩, l, bs, rfl, rfl, SqL.of hl, rfl, _, rfl, ite2 (fun _ => ?_) (fun c => ?_)⟩⟩
  · have hx2 := sm2 _ _ hx
    refine ⟨_, rfl, rfl, rfl, a', _, _, rfl, hx2, rfl, _, rfl, rfl, rfl, a', _, _, rfl, hx2, rfl, (by show 3 ≤ sizeLine; decide), fun t ht => ⟨_, rfl, ?_⟩⟩
    refine q _ _ (((s0.trans sm).trans sm2).trans (same_new ht)) ?_
    have z : dueD d = .tuple [.str "no stock", .str x, .int (n : Nat)] := due_some e
    rw [z]
    exact fd_tup upd_same (.cons (.str _) (.cons (.str _) (.cons (.int _) .nil))) rfl
  · exact absurd (by rw [hone]; rfl) c
end
end Lm

set_option Elab.async false
set_option linter.all false
set_option maxRecDepth 100000
set_option maxHeartbeats 2000000
namespace Lm
open PySem PySem.Spec PyProof.Rows L2 LmR
section
variable {P : Program} {w : World} {K : PySem.W.Frag} {mg : Str → Option Value} {base : Heap}
/-- the flow was drawn from, what else stands at ws may have changed, things were made -/
structure Gr (ws : List Addr) (f : Addr) (H H' : Hp) : Prop where
  ex : Ex (f :: ws) H H'
  fl : Flow H' f
theorem Dr.gr {f : Addr} {H H' : Hp} {ws : List Addr} (d : Dr f H H') : Gr ws f H H' := ⟨d.ex.mono fun b hb => by rw [List.mem_singleton.mp hb]; exact List.mem_cons_self, d.fl⟩
theorem Gr.trans {ws : List Addr} {f : Addr} {H H1 H2 : Hp} (a : Gr ws f H H1) (b : Gr ws f H1 H2) : Gr ws f H H2 := ⟨a.ex.trans b.ex, b.fl⟩
theorem Gr.mono {ws us : List Addr} {f : Addr} {H H' : Hp} (a : Gr ws f H H') (h : ∀ b ∈ ws, b ∈ us) : Gr us f H H' := ⟨a.ex.mono fun b hb => by
  rcases List.mem_cons.mp hb with z | z
  · rw [z]; exact List.mem_cons_self
  · exact List.mem_cons_of_mem _ (h b z), a.fl⟩
theorem Gr.new {ws : List Addr} {f : Addr} {H : Hp} {p : Addr} {o : HO} (fl : Flow H f) (h : H p = none) : Gr ws f H (upd H p o) := by
  refine ⟨Ex.new h, ?_⟩
  obtain ⟨a, b, c, e, r⟩ := fl
  exact ⟨a, b, c, by rw [upd_ne (ne_of_none e h)]; exact e, r⟩
theorem Gr.tp {f : Addr} {H H' : Hp} (a : Gr [] f H H') (h : Flow H f) : Tp K H H' := by
  obtain ⟨xs, e⟩ := h.lst
  refine a.ex.tp fun b hb ys q => ?_
  rw [List.mem_singleton.mp hb] at q
  rcases q with q | ⟨o, q⟩
  · rw [e] at q; cases q
  · rw [e] at q; cases q
def kVs (ks : List Bool) : List V := ks.map fun b => V.str (kS b)
def wKV (ka : Addr) (c i n : Int) : List (Key × V) := [(Sum.inr "kinds", .ref ka), (Sum.inr "cmp", .int c), (Sum.inr "if", .int i), (Sum.inr "any", .int n)]
def Wld (H : Hp) (wd ka : Addr) : Prop := ∃ c i n : Int, H wd = some (.dK (wKV ka c i n))
theorem wv_kinds (ka : Addr) (c i n : Int) : valV (wKV ka c i n) (Sum.inr "kinds") = some (.ref ka) := rfl
theorem wv_cmp (ka : Addr) (c i n : Int) : valV (wKV ka c i n) (Sum.inr "cmp") = some (.int c) := rfl
theorem wv_if (ka : Addr) (c i n : Int) : valV (wKV ka c i n) (Sum.inr "if") = some (.int i) := rfl
theorem wv_any (ka : Addr) (c i n : Int) : valV (wKV ka c i n) (Sum.inr "any") = some (.int n) := rfl
theorem wp_cmp (ka : Addr) (c i n z : Int) : putK (wKV ka c i n) (Sum.inr "cmp") (.int z) = wKV ka z i n := rfl
theorem wp_if (ka : Addr) (c i n z : Int) : putK (wKV ka c i n) (Sum.inr "if") (.int z) = wKV ka c z n := rfl
theorem wp_any (ka : Addr) (c i n z : Int) : putK (wKV ka c i n) (Sum.inr "any") (.int z) = wKV ka c i z := rfl
/-- a dict with the kinds -/
def Kin (H : Hp) (wd ka : Addr) : Prop := ∃ kvs, H wd = some (.dK kvs) ∧ valV kvs (Sum.inr "kinds") = some (.ref ka)
theorem Wld.kin {H : Hp} {wd ka : Addr} (h : Wld H wd ka) : Kin H wd ka := by
  obtain ⟨c, i, n, e⟩ := h
  exact ⟨_, e, rfl⟩
/-- its numbers are from -1000 to 1000 -/
def Nb : Pg → Prop
  | .inp _ => True
  | .num c => -1000 ≤ c ∧ c ≤ 1000
  | .tr _ => True
  | .plus c a => (-1000 ≤ c ∧ c ≤ 1000) ∧ Nb a
  | .bin _ a b => Nb a ∧ Nb b
  | .neg a => Nb a
  | .ite p a b => Nb p ∧ Nb a ∧ Nb b
def Wn (ks : List Bool) (p : Pg) : Prop := Wk ks p ∧ Nb p
abbrev s_l_numeral : Stmt := topS 30
theorem sc_l_numeral : FnScope ["_law_flow_here"] ["_law_flow_here"] (defScope s_l_numeral) := ⟨rfl, rfl, rfl, by decide +kernel, rfl, by decide +kernel, by decide +kernel⟩
def spNumeral : Sp := fun vs H Q _ => ∃ f : Addr, vs = [.ref f] ∧ Flow H f ∧ ∀ (i : Int) (H' : Hp), -1000 ≤ i → i ≤ 1000 → Gr [] f H H' → Q (.int i) H'
theorem ok_l_numeral (C_l_draw : Cal P w K mg base 1 "_law_draw" ["_law_flow_here", "_law_many"] (spDraw)) (D : DefAt K mg "_law_numeral" s_l_numeral ["_law_flow_here"]) : Cal P w K mg base 2 "_law_numeral" ["_law_flow_here"] (spNumeral) := by
  refine cal_of D sc_l_numeral (fun vs H Q E h => ?_) (fun f cdv A outer s H vs Q E hr h => ?_)
  · obtain ⟨a, rfl, _⟩ := h
    rfl
  obtain ⟨a, rfl, fl, q⟩ := h
  have hr' : Room 1 _ := hr
  refine ⟨_, (pss_one (ps_ret (pe_ix ix_list (pe_lst (pa_cons (pe_cal C_l_draw hr' (by rfl) (pa_cons (pv 0) (pa_cons pe_int pa_nil))) (pa_cons (pe_op op_sub pe_int (pe_cal C_l_draw hr' (by rfl) (pa_cons (pv 0) (pa_cons pe_int pa_nil)))) (pa_cons (pe_op op_sub (pe_cal C_l_draw hr' (by rfl) (pa_cons (pv 0) (pa_cons pe_int pa_nil))) pe_int) pa_nil)))) (pe_cal C_l_draw hr' (by rfl) (pa_cons (pv 0) (pa_cons pe_int pa_nil))) (fun _ _ => rfl)))), ?_⟩
  refine ⟨_, rfl, a, 4, rfl, fl, by decide, by decide, fun d1 H1 x1 y1 r1 => ?_⟩
  refine ⟨_, rfl, a, 4, rfl, r1.fl, by decide, by decide, fun d2 H2 x2 y2 r2 => ⟨_, _, rfl, rfl, ?_⟩⟩
  refine ⟨_, rfl, a, 2001, rfl, r2.fl, by decide, by decide, fun d3 H3 x3 y3 r3 => ⟨_, _, rfl, rfl, ?_⟩⟩
  refine ⟨(by show 3 ≤ sizeLine; decide), fun p hp => ?_⟩
  have g3 : Gr [] a H (upd H3 p (.lst [.int d1, .int (0 - d2), .int (d3 - 1000)])) := (((r1.trans r2).trans r3).gr).trans (Gr.new r3.fl hp)
  refine ⟨_, rfl, a, 3, rfl, g3.fl, by decide, by decide, fun d4 H4 x4 y4 r4 => ?_⟩
  have npa : p ≠ a := fun z => by
    obtain ⟨xs, e⟩ := r3.fl.lst
    rw [z, e] at hp
    cases hp
  have e4 : H4 p = some (.lst [.int d1, .int (0 - d2), .int (d3 - 1000)]) := by
    rw [r4.off p npa]
    exact upd_same
  have g4 := g3.trans r4.gr
  rcases (show d4 = 0 ∨ d4 = 1 ∨ d4 = 2 by omega) with z | z | z
  · subst z
    exact ⟨p, _, 0, .int d1, rfl, rfl, SqL.of e4, rfl, q _ _ (by omega) (by omega) g4⟩
  · subst z
    exact ⟨p, _, 1, .int (0 - d2), rfl, rfl, SqL.of e4, rfl, q _ _ (by omega) (by omega) g4⟩
  · subst z
    exact ⟨p, _, 2, .int (d3 - 1000), rfl, rfl, SqL.of e4, rfl, q _ _ (by omega) (by omega) g4⟩
/-! ### the world: the kinds of the inputs and what may still be used -/
end
end Lm

set_option Elab.async false
set_option linter.all false
set_option maxRecDepth 100000
set_option maxHeartbeats 2000000
namespace Lm
open PySem PySem.Spec PyProof.Rows L2 LmR
theorem gr_same {ws : List Addr} {f : Addr} {H H' : Hp} (fl : Flow H f) (s : Same H H') : Gr ws f H H' := ⟨Ex.of_same s, by
  obtain ⟨x, y, z, e, r⟩ := fl
  exact ⟨x, y, z, s _ _ e, r⟩⟩
theorem fl_nf {f : Addr} {H : Hp} (g : Flow H f) {D : Addr} (h : H D = none) : D ≠ f := fun z => by
  obtain ⟨xs, e⟩ := g.lst
  rw [z, e] at h
  cases h
theorem gr_put {ws : List Addr} {f : Addr} {H H' : Hp} {p : Addr} {o : HO} (g : Gr ws f H H') (h : H p = none) (n : p ≠ f) : Gr ws f H (upd H' p o) := by
  refine ⟨fun b u hb nb => ?_, ?_⟩
  · rw [upd_ne (ne_of_none hb h)]
    exact g.ex b u hb nb
  · obtain ⟨x, y, z, e, r⟩ := g.fl
    exact ⟨x, y, z, by rw [upd_ne n.symm]; exact e, r⟩
theorem iteY3 {c : Prop} [Decidable c] {A B : Prop} (h : c) (a : A) : if c then A else B := by rw [if_pos h]; exact a
/-- a key's data -/
def vK : V → PyData
  | .int i => .int i
  | .str s => .str s
  | _ => .none
def isKey (v : V) : Prop := (∃ i, v = .int i) ∨ ∃ s, v = .str s
theorem key_dp {K : PySem.W.Frag} {H : Hp} {v : V} (h : isKey v) : Dp K H v (vK v) := by
  rcases h with ⟨i, rfl⟩ | ⟨s, rfl⟩
  · exact .int i
  · exact .str s
theorem vK_flat (v : V) : flat (vK v) = true := by cases v <;> rfl
theorem vK_sz (v : V) : dsz (vK v) = 1 := by cases v <;> rfl
def pdat (ps : List (PyData × Int)) : List PyData := ps.map fun p => .tuple [p.1, .int p.2]
theorem pdat_flat : ∀ ps : List (PyData × Int), (∀ p ∈ ps, flat p.1 = true) → flat.flats (pdat ps) = true
  | [], _ => rfl
  | p :: ps, h => by
    have h1 := h p List.mem_cons_self
    have h2 := pdat_flat ps fun q hq => h q (List.mem_cons_of_mem _ hq)
    show (flat (.tuple [p.1, .int p.2]) && flat.flats (pdat ps)) = true
    rw [h2, Bool.and_true]
    simp [flat, flat.flats, h1]
/-- the words that a stock may have -/
def stockWs : List Str := ["yes", "no", "least", "most", "atmost", "not", "both", "either", "if"]
theorem map_erase {α β : Type} (f : α → β) : ∀ (l : List α) (k : Nat), (l.map f).eraseIdx k = (l.eraseIdx k).map f
  | [], k => by simp
  | x :: l, 0 => rfl
  | x :: l, k + 1 => by
    show f x :: (l.map f).eraseIdx k = f x :: (l.eraseIdx k).map f
    rw [map_erase f l k]
theorem six_nat {d : Int} {n : Nat} (h0 : 0 ≤ d) (h1 : d < (n : Int)) : seqIndex? d n = some d.toNat := by
  unfold seqIndex?
  simp
  omega
section
variable {P : Program} {w : World} {K : PySem.W.Frag} {mg : Str → Option Value} {base : Heap}
abbrev s_l_pairs : Stmt := topS 33
theorem sc_l_pairs : FnScope ["_law_flow_here", "_law_some", "_law_thing"] ["_law_flow_here", "_law_some"] (defScope s_l_pairs) := ⟨rfl, rfl, rfl, by decide +kernel, rfl, by decide +kernel, by decide +kernel⟩
def spLPairs (K : PySem.W.Frag) : Sp := fun vs H Q _ => ∃ (f l : Addr) (ks : List V), vs = [.ref f, .ref l] ∧ Flow H f ∧ H l = some (.lst ks) ∧ l ≠ f ∧ ks.length ≤ 10 ∧ (∀ v ∈ ks, isKey v) ∧
  ∀ (t : Addr) (ps : List (PyData × Int)) (H' : Hp), Gr [] f H H' → Fd K H' (.ref t) (.tuple (pdat ps)) → ps.map (·.1) = ks.map vK → (∀ p ∈ ps, 1 ≤ p.2 ∧ p.2 ≤ 9) → Q (.ref t) H'
theorem ok_l_pairs (B : Bt mg) (C_l_draw : Cal P w K mg base 1 "_law_draw" ["_law_flow_here", "_law_many"] (spDraw)) (D : DefAt K mg "_law_pairs" s_l_pairs ["_law_flow_here", "_law_some"]) : Cal P w K mg base 2 "_law_pairs" ["_law_flow_here", "_law_some"] (spLPairs K) := by
  refine cal_of D sc_l_pairs (fun vs H Q E h => ?_) (fun f cdv A outer s H vs Q E hr h => ?_)
  · obtain ⟨f, l, ks, rfl, _⟩ := h
    rfl
  obtain ⟨f, l, ks, rfl, fl, hl, nlf, hk, hkey, q⟩ := h
  have hr' : Room 1 _ := hr
  refine ⟨_, (pss_one (ps_ret (pe_callTy call_tuple_of (by rfl) B.tuple PyProof.Rows.boot_tuple (pa_cons (pe_lc (own := [("_law_thing", 2)]) (g := gName 2) rfl sc_l_pairs.nd (pi_list (pv 1)) (blkOk_by (own := [("_law_thing", 2)]) (N := ["_law_flow_here", "_law_some", "_law_thing"]) (sc := defScope s_l_pairs) (by decide +kernel)) (fun _ _ _ _ _ => (pg_name (i := 2) sc_l_pairs.nd rfl (.inl rfl))) (fun _ _ _ _ _ => pts_nil) (fun _ _ _ _ _ => (pe_tup (pa_cons (pv 2) (pa_cons (pe_op op_add pe_int (pe_cal C_l_draw hr' (by rfl) (pa_cons (pv 0) (pa_cons (pe_ix (ix_listK (K := K) rfl) (pe_lst (pa_cons pe_int (pa_cons pe_int (pa_cons pe_int (pa_cons pe_int pa_nil))))) (pe_cal C_l_draw hr' (by rfl) (pa_cons (pv 0) (pa_cons pe_int pa_nil))) (fun _ _ => rfl)) pa_nil)))) pa_nil))))) pa_nil)))), ?_⟩
  refine ⟨_, rfl, l, rfl, ⟨_, SqL.of hl⟩, fun D hD => lc_list (K := K) (a := l) (xs := ks) (fun j H' => Gr [] f H H' ∧ ∃ (ts : List V) (ps : List (PyData × Int)), H' D = some (.lst ts) ∧ DpAll K H' ts (pdat ps) ∧ ps.map (·.1) = (ks.take j).map vK ∧ ∀ p ∈ ps, 1 ≤ p.2 ∧ p.2 ≤ 9) ?_ ?_ ?_ ?_⟩
  · exact ⟨Gr.new fl hD, [], [], upd_same, .nil, rfl, fun p hp => absurd hp (by simp)⟩
  · rintro j H' _ ⟨g, _⟩
    exact SqL.of (g.ex _ _ hl (by simp [nlf]))
  · rintro j x H' hx ⟨g, ts, ps, hD', hts, hps, hw⟩
    have nDf := fl_nf fl hD
    have hi : j < ks.length := (List.getElem?_eq_some_iff.mp hx).1
    have kx := hkey x (List.mem_of_getElem? hx)
    have pfl : flat.flats (pdat ps) = true := pdat_flat ps fun p hp => by
      have z : p.1 ∈ ps.map (·.1) := List.mem_map.mpr ⟨p, hp, rfl⟩
      rw [hps] at z
      obtain ⟨y, _, e⟩ := List.mem_map.mp z
      rw [← e]
      exact vK_flat y
    have tl : ts.length ≤ 10 := by
      have z := dpall_len hts
      have y := congrArg List.length hps
      rw [List.length_map, List.length_map, List.length_take] at y
      have x : (pdat ps).length = ps.length := List.length_map _
      omega
    refine ⟨rfl, _, rfl, _, rfl, (by show 4 ≤ sizeLine; decide), fun p hp => ?_⟩
    have npf := fl_nf g.fl hp
    have gp : Gr [] f H (upd H' p (.lst [.int 1, .int 2, .int 3, .int 9])) := g.trans (Gr.new g.fl hp)
    have tp0 : Tp K H' (upd H' p (.lst [.int 1, .int 2, .int 3, .int 9])) := Tp.new hp
    have hp0 : (upd H' p (.lst [.int 1, .int 2, .int 3, .int 9])) p = some (.lst [.int 1, .int 2, .int 3, .int 9]) := upd_same
    have hD0 : (upd H' p (.lst [.int 1, .int 2, .int 3, .int 9])) D = some (.lst ts) := by rw [upd_ne (ne_of_none hD' hp)]; exact hD'
    generalize upd H' p (.lst [.int 1, .int 2, .int 3, .int 9]) = H0 at gp tp0 hp0 hD0
    refine ⟨_, rfl, f, 4, rfl, gp.fl, by decide, by decide, fun i H2 i0 i1 dr2 => ?_⟩
    have hp2 : H2 p = _ := (dr2.off p npf).trans hp0
    have hD2 : H2 D = _ := (dr2.off D nDf).trans hD0
    have g2 := gp.trans dr2.gr
    have tp2 := tp0.trans (dr2.tp gp.fl)
    obtain ⟨wd, ewd, w0, w1⟩ : ∃ wd : Int, atI [V.int 1, V.int 2, V.int 3, V.int 9] i = some (V.int wd) ∧ 1 ≤ wd ∧ wd ≤ 9 := by
      rcases (show i = 0 ∨ i = 1 ∨ i = 2 ∨ i = 3 by omega) with z | z | z | z
      · subst z; exact ⟨1, rfl, by decide, by decide⟩
      · subst z; exact ⟨2, rfl, by decide, by decide⟩
      · subst z; exact ⟨3, rfl, by decide, by decide⟩
      · subst z; exact ⟨9, rfl, by decide, by decide⟩
    refine ⟨p, _, i, _, rfl, rfl, SqL.of hp2, ewd, f, wd, rfl, g2.fl, by omega, by omega, fun d H3 d0 d1 dr3 => ⟨_, _, rfl, rfl, (by show 2 ≤ sizeLine; decide), fun t ht => ?_⟩⟩
    have g3 := g2.trans dr3.gr
    have tp3 := tp2.trans (dr3.tp g2.fl)
    have hD3 : H3 D = _ := (dr3.off D nDf).trans hD2
    have g4 : Gr [] f H (upd H3 t (.tup [x, .int (1 + d)])) := g3.trans (Gr.new g3.fl ht)
    have tp4 : Tp K H' (upd H3 t (.tup [x, .int (1 + d)])) := tp3.trans (Tp.new ht)
    have et : (upd H3 t (.tup [x, .int (1 + d)])) t = some (.tup [x, .int (1 + d)]) := upd_same
    have hD4 : (upd H3 t (.tup [x, .int (1 + d)])) D = some (.lst ts) := by rw [upd_ne (ne_of_none hD3 ht)]; exact hD3
    generalize upd H3 t (.tup [x, .int (1 + d)]) = H4 at g4 tp4 et hD4
    have t5 : Tp K H4 (upd H4 D (.lst (ts ++ [.ref t]))) := Tp.lst hD4
    refine ⟨ts, hD4, smallL (by omega), gr_put g4 hD nDf, ts ++ [.ref t], ps ++ [(vK x, 1 + d)], upd_same, ?_, ?_, fun p hp => ?_⟩
    · rw [show pdat (ps ++ [(vK x, 1 + d)]) = pdat ps ++ [.tuple [vK x, .int (1 + d)]] by unfold pdat; rw [List.map_append]; rfl]
      exact dpall_app (dps_keep (tp4.trans t5) _ _ pfl hts) (.cons (.tup (t5 _ _ (.inl (.inl et))) (.cons (key_dp kx) (.cons (.int _) .nil))) .nil)
    · rw [List.map_append, hps, List.take_add_one, hx, List.map_append]
      rfl
    · rcases List.mem_append.mp hp with z | z
      · exact hw p z
      · rw [List.mem_singleton.mp z]
        exact ⟨by show 1 ≤ 1 + d; omega, by show 1 + d ≤ 9; omega⟩
  rintro H1 ⟨g1, ts, ps, hD1, hts, hps, hw⟩
  rw [List.take_length] at hps
  have pfl : flat.flats (pdat ps) = true := pdat_flat ps fun p hp => by
    have z : p.1 ∈ ps.map (·.1) := List.mem_map.mpr ⟨p, hp, rfl⟩
    rw [hps] at z
    obtain ⟨y, _, e⟩ := List.mem_map.mp z
    rw [← e]
    exact vK_flat y
  refine ⟨D, ts, rfl, .inl ⟨SqL.of hD1, fun t ht => ?_⟩⟩
  exact q t ps _ (g1.trans (Gr.new g1.fl ht)) ⟨pfl, .tup (.inl (.inl upd_same)) (dps_keep (Tp.new ht) _ _ pfl hts)⟩ hps hw
abbrev s_l_unlike : Stmt := topS 34
theorem sc_l_unlike : FnScope ["_law_flow_here", "_law_many", "_law_least", "_law_found", "_law_k", "_law_number", "_law_turn"] ["_law_flow_here", "_law_many", "_law_least"] (defScope s_l_unlike) := ⟨rfl, rfl, rfl, by decide +kernel, rfl, by decide +kernel, by decide +kernel⟩
def spUnl (K : PySem.W.Frag) : Sp := fun vs H Q _ => ∃ (f : Addr) (m least : Int), vs = [.ref f, .int m, .int least] ∧ Flow H f ∧ 0 ≤ m ∧ m ≤ 10 ∧
  ∀ (L : Addr) (ns : List Int) (H' : Hp), Gr [] f H H' → H L = none → H' L = some (.lst (ns.map V.int)) → (ns.length : Int) = m → (∀ n ∈ ns, -1010 ≤ n ∧ n ≤ 1010) → Q (.ref L) H'
theorem ints_flat : ∀ ns : List Int, (ns.map V.int).all flatV = true
  | [] => rfl
  | n :: ns => by rw [List.map_cons, List.all_cons, ints_flat ns]; rfl
theorem ok_l_unlike (B : Bt mg) (C_l_numeral : Cal P w K mg base 2 "_law_numeral" ["_law_flow_here"] (spNumeral)) (D : DefAt K mg "_law_unlike" s_l_unlike ["_law_flow_here", "_law_many", "_law_least"]) : Cal P w K mg base 3 "_law_unlike" ["_law_flow_here", "_law_many", "_law_least"] (spUnl K) := by
  refine cal_of D sc_l_unlike (fun vs H Q E h => ?_) (fun f cdv A outer s H vs Q E hr h => ?_)
  · obtain ⟨f, m, least, rfl, _⟩ := h
    rfl
  obtain ⟨f, m, least, rfl, fl, m0, m10, q⟩ := h
  have hr' : Room 2 _ := hr
  refine ⟨_, (pss_cons (ps_set (i := 3) sc_l_unlike.nd rfl (.inl rfl) (pe_lst pa_nil))
      (pss_cons (ps_for PassesOwn.never rfl (pi_range1 (by rfl) B.range (pa_cons (pv 1) pa_nil)) (pg_name (i := 4) sc_l_unlike.nd rfl (.inl rfl))
        (pss_cons (ps_set (i := 5) sc_l_unlike.nd rfl (.inl rfl) (pe_cal C_l_numeral hr' (by rfl) (pa_cons (pv 0) pa_nil)))
      (pss_cons (ps_for PassesOwn.never rfl (pi_range1 (by rfl) B.range (pa_cons pe_int pa_nil)) (pg_name (i := 6) sc_l_unlike.nd rfl (.inl rfl))
        (pss_one (ps_if (PW.pt (pw_or (pt_cmpR op_in_seq (pv 5) (pv 3) rfl) (pw_or1 (pt_cmpR op_lt (pe_callB call_abs (by rfl) B.abs (by decide +kernel) (pa_cons (pv 5) pa_nil)) (pv 2) (nomark _)))))
        (pss_one (ps_set (i := 5) sc_l_unlike.nd rfl (.inl rfl) (pe_ix ix_list (pe_lst (pa_cons (pe_op op_add (pv 5) pe_int) (pa_cons (pe_op op_sub (pe_op op_sub pe_int pe_int) (pv 6)) pa_nil))) (pe_callTy call_int1 (by rfl) B.int PyProof.Rows.boot_int (pa_cons (pe_cmpR op_gt (pv 5) pe_int (nomark _)) pa_nil)) (fun _ _ => rfl))))
        pss_nil)))
      (pss_one (ps_expr (pe_bm PySem.F.plainAttrs_list PySem.F.slot_list_append PySem.F.type_list_append mt_append (pv 3) (pa_cons (pv 5) pa_nil)))))))
      (pss_one (ps_ret (pv 3))))), ?_⟩
  refine ⟨(by show 0 ≤ sizeLine; decide), fun L hL => ?_⟩
  have nLf := fl_nf fl hL
  have g1 : Gr [] f H (upd H L (.lst [])) := Gr.new fl hL
  have hL1 : (upd H L (.lst [])) L = some (.lst []) := upd_same
  generalize upd H L (.lst []) = H1 at g1 hL1
  refine ⟨_, rfl, m, rfl, by omega, by omega, for_range (lo := 0) (n := m.toNat) (fun i σ' H' => (∃ y4 y5 y6 : Option V, σ' = [some (.ref f), some (.int m), some (.int least), some (.ref L), y4, y5, y6]) ∧ Gr [] f H H' ∧ ∃ ns : List Int, H' L = some (.lst (ns.map V.int)) ∧ ns.length = i ∧ ∀ n ∈ ns, -1010 ≤ n ∧ n ≤ 1010) ⟨⟨_, _, _, rfl⟩, g1, [], hL1, rfl, fun n hn => absurd hn (by simp)⟩ ?_ ?_⟩
  · rintro i σ' H' hi ⟨⟨y4, y5, y6, rfl⟩, g, ns, hL', hl, hb⟩
    refine ⟨_, rfl, f, rfl, g.fl, fun n0 H2 b0 b1 g2 => ?_⟩
    have hL2 : H2 L = some (.lst (ns.map V.int)) := g2.ex _ _ hL' (by simp [nLf])
    have gg := g.trans g2
    refine ⟨4, rfl, by decide, by decide, for_range (lo := 0) (n := 4) (fun t σ' H' => (∃ (n : Int) (y6 : Option V), -1010 ≤ n ∧ n ≤ 1000 + (t : Int) ∧ σ' = [some (.ref f), some (.int m), some (.int least), some (.ref L), some (.int (0 + (i : Int))), some (.int n), y6]) ∧ Gr [] f H H' ∧ H' L = some (.lst (ns.map V.int))) ⟨⟨_, _, by omega, by omega, rfl⟩, gg, hL2⟩ ?_ ?_⟩
    · rintro t σ' H6 ht ⟨⟨n, z6, c0, c1, rfl⟩, g6, hL6⟩
      have t4 : t < 4 := ht
      refine ⟨_, rfl, _, rfl, L, _, rfl, .inl (SqL.of hL6), rfl, ints_flat ns, _, rfl, ite2 (fun c => ?_) (fun c => ?_)⟩
      · refine iteY3 rfl ?_
        refine ⟨_, rfl, _, _, rfl, rfl, _, _, rfl, rfl, _, rfl, _, _, rfl, rfl, (by show 2 ≤ sizeLine; decide), fun p hp => ?_⟩
        have nLp : L ≠ p := ne_of_none hL6 hp
        have g7 : Gr [] f H (upd H6 p (.lst [.int (n + 1), .int (0 - 3 - (0 + (t : Int)))])) := g6.trans (Gr.new g6.fl hp)
        have hL7 : (upd H6 p (.lst [.int (n + 1), .int (0 - 3 - (0 + (t : Int)))])) L = some (.lst (ns.map V.int)) := by rw [upd_ne nLp]; exact hL6
        refine ⟨_, rfl, _, _, rfl, rfl, .inr ⟨_, rfl, ?_⟩⟩
        by_cases c9 : n > 990
        · have e9 : decide (n > 990) = true := decide_eq_true c9
          refine ⟨p, _, 1, _, rfl, ?_, SqL.of upd_same, rfl, ⟨_, _, by omega, by omega, rfl⟩, g7, hL7⟩
          show V.int (if decide (n > 990) = true then 1 else 0) = V.int 1
          rw [e9]; rfl
        · have e9 : decide (n > 990) = false := decide_eq_false c9
          refine ⟨p, _, 0, _, rfl, ?_, SqL.of upd_same, rfl, ⟨_, _, by omega, by omega, rfl⟩, g7, hL7⟩
          show V.int (if decide (n > 990) = true then 1 else 0) = V.int 0
          rw [e9]; rfl
      · refine ⟨_, rfl, n, rfl, _, rfl, _, _, rfl, rfl, _, rfl, ite2 (fun c2 => ?_) (fun c2 => ?_)⟩
        · refine ⟨_, rfl, _, _, rfl, rfl, _, _, rfl, rfl, _, rfl, _, _, rfl, rfl, (by show 2 ≤ sizeLine; decide), fun p hp => ?_⟩
          have nLp : L ≠ p := ne_of_none hL6 hp
          have g7 : Gr [] f H (upd H6 p (.lst [.int (n + 1), .int (0 - 3 - (0 + (t : Int)))])) := g6.trans (Gr.new g6.fl hp)
          have hL7 : (upd H6 p (.lst [.int (n + 1), .int (0 - 3 - (0 + (t : Int)))])) L = some (.lst (ns.map V.int)) := by rw [upd_ne nLp]; exact hL6
          refine ⟨_, rfl, _, _, rfl, rfl, .inr ⟨_, rfl, ?_⟩⟩
          by_cases c9 : n > 990
          · have e9 : decide (n > 990) = true := decide_eq_true c9
            refine ⟨p, _, 1, _, rfl, ?_, SqL.of upd_same, rfl, ⟨_, _, by omega, by omega, rfl⟩, g7, hL7⟩
            show V.int (if decide (n > 990) = true then 1 else 0) = V.int 1
            rw [e9]; rfl
          · have e9 : decide (n > 990) = false := decide_eq_false c9
            refine ⟨p, _, 0, _, rfl, ?_, SqL.of upd_same, rfl, ⟨_, _, by omega, by omega, rfl⟩, g7, hL7⟩
            show V.int (if decide (n > 990) = true then 1 else 0) = V.int 0
            rw [e9]; rfl
        · exact ⟨⟨_, _, by omega, by omega, rfl⟩, g6, hL6⟩
    · rintro σ' H6 ⟨⟨n, z6, c0, c1, rfl⟩, g6, hL6⟩
      refine ⟨_, rfl, .inl ⟨rfl, _, SqL.of hL6⟩, _, rfl, L, _, _, rfl, rfl, hL6, by rw [List.length_map]; exact smallL (by omega), ?_⟩
      refine ⟨⟨_, _, _, rfl⟩, gr_put g6 hL nLf, ns ++ [n], by rw [upd_same, List.map_append]; rfl, by rw [List.length_append, hl]; rfl, fun x hx => ?_⟩
      rcases List.mem_append.mp hx with z | z
      · exact hb x z
      · rw [List.mem_singleton.mp z]
        have : n ≤ 1000 + 4 := c1
        omega
  · rintro σ' H' ⟨⟨y4, y5, y6, rfl⟩, g, ns, hL', hl, hb⟩
    exact ⟨_, rfl, q L ns H' g hL hL' (by omega) hb⟩
abbrev s_l_stock : Stmt := topS 35
theorem sc_l_stock : FnScope ["_law_flow_here", "_law_words", "_law_some", "_law_k", "_law_numbers", "_law_steps"] ["_law_flow_here"] (defScope s_l_stock) := ⟨rfl, rfl, rfl, by decide +kernel, rfl, by decide +kernel, by decide +kernel⟩
/-- a stock, drawn -/
def stkD (ps1 ps2 ps3 : List (PyData × Int)) : PyData := .tuple [.tuple (pdat ps1), .tuple (pdat ps2), .tuple (pdat ps3)]
structure StkOk (ps1 ps2 ps3 : List (PyData × Int)) : Prop where
  k1 : ∃ ns : List Int, ps1.map (·.1) = ns.map PyData.int ∧ ns.length ≤ 3 ∧ ∀ n ∈ ns, -1010 ≤ n ∧ n ≤ 1010
  k2 : ∃ ns : List Int, ps2.map (·.1) = ns.map PyData.int ∧ ns.length ≤ 2 ∧ ∀ n ∈ ns, -1010 ≤ n ∧ n ≤ 1010
  k3 : ∃ ws : List Str, ps3.map (·.1) = ws.map PyData.str ∧ ws.length ≤ 6 ∧ ∀ x ∈ ws, x ∈ stockWs
  w1 : ∀ p ∈ ps1, 1 ≤ p.2 ∧ p.2 ≤ 9
  w2 : ∀ p ∈ ps2, 1 ≤ p.2 ∧ p.2 ≤ 9
  w3 : ∀ p ∈ ps3, 1 ≤ p.2 ∧ p.2 ≤ 9
def spStock (K : PySem.W.Frag) : Sp := fun vs H Q _ => ∃ f : Addr, vs = [.ref f] ∧ Flow H f ∧ ∀ (t : Addr) (ps1 ps2 ps3 : List (PyData × Int)) (H' : Hp), Gr [] f H H' → Fd K H' (.ref t) (stkD ps1 ps2 ps3) → StkOk ps1 ps2 ps3 → Q (.ref t) H'
theorem words_split : Txt.split "yes no least most atmost not both either if" " " = stockWs := by decide +kernel
theorem erase_mem {α : Type} {l : List α} {k : Nat} {x : α} (h : x ∈ l.eraseIdx k) : x ∈ l := List.mem_of_mem_eraseIdx h
theorem map_vK_int (ns : List Int) : (ns.map V.int).map vK = ns.map PyData.int := by rw [List.map_map]; rfl
theorem map_vK_str (ns : List Str) : (ns.map V.str).map vK = ns.map PyData.str := by rw [List.map_map]; rfl
theorem ok_l_stock (B : Bt mg) (C_l_draw : Cal P w K mg base 1 "_law_draw" ["_law_flow_here", "_law_many"] (spDraw)) (C_l_unlike : Cal P w K mg base 3 "_law_unlike" ["_law_flow_here", "_law_many", "_law_least"] (spUnl K)) (C_l_pairs : Cal P w K mg base 2 "_law_pairs" ["_law_flow_here", "_law_some"] (spLPairs K)) (D : DefAt K mg "_law_stock" s_l_stock ["_law_flow_here"]) : Cal P w K mg base 4 "_law_stock" ["_law_flow_here"] (spStock K) := by
  refine cal_of D sc_l_stock (fun vs H Q E h => ?_) (fun f cdv A outer s H vs Q E hr h => ?_)
  · obtain ⟨f, rfl, _⟩ := h
    rfl
  obtain ⟨f, rfl, fl, q⟩ := h
  have C_l_draw := C_l_draw.mono (k := 3) (by decide)
  have C_l_pairs := C_l_pairs.mono (k := 3) (by decide)
  have hr' : Room 3 _ := hr
  refine ⟨_, (pss_cons (ps_set (i := 1) sc_l_stock.nd rfl (.inl rfl) (pe_bm PySem.F.plainAttrs_str PySem.F.slot_str_split PySem.F.type_str_split mt_split pe_str (pa_cons pe_str pa_nil)))
      (pss_cons (ps_set (i := 2) sc_l_stock.nd rfl (.inl rfl) (pe_lst pa_nil))
      (pss_cons (ps_for PassesOwn.never rfl (pi_range1 (by rfl) B.range (pa_cons (pe_cal C_l_draw hr' (by rfl) (pa_cons (pv 0) (pa_cons pe_int pa_nil))) pa_nil)) (pg_name (i := 3) sc_l_stock.nd rfl (.inl rfl))
        (pss_one (ps_expr (pe_bm PySem.F.plainAttrs_list PySem.F.slot_list_append PySem.F.type_list_append mt_append (pv 2) (pa_cons (pe_bm PySem.F.plainAttrs_list PySem.F.slot_list_pop PySem.F.type_list_pop mt_popAt (pv 1) (pa_cons (pe_cal C_l_draw hr' (by rfl) (pa_cons (pv 0) (pa_cons (pe_callB call_len_seq (by rfl) B.len PySem.boot_len (pa_cons (pv 1) pa_nil)) pa_nil))) pa_nil)) pa_nil)))))
      (pss_cons (ps_set (i := 4) sc_l_stock.nd rfl (.inl rfl) (pe_cal C_l_unlike hr' (by rfl) (pa_cons (pv 0) (pa_cons (pe_cal C_l_draw hr' (by rfl) (pa_cons (pv 0) (pa_cons pe_int pa_nil))) (pa_cons pe_int pa_nil)))))
      (pss_cons (ps_set (i := 5) sc_l_stock.nd rfl (.inl rfl) (pe_cal C_l_unlike hr' (by rfl) (pa_cons (pv 0) (pa_cons (pe_cal C_l_draw hr' (by rfl) (pa_cons (pv 0) (pa_cons pe_int pa_nil))) (pa_cons pe_int pa_nil)))))
      (pss_one (ps_ret (pe_tup (pa_cons (pe_cal C_l_pairs hr' (by rfl) (pa_cons (pv 0) (pa_cons (pv 4) pa_nil))) (pa_cons (pe_cal C_l_pairs hr' (by rfl) (pa_cons (pv 0) (pa_cons (pv 5) pa_nil))) (pa_cons (pe_cal C_l_pairs hr' (by rfl) (pa_cons (pv 0) (pa_cons (pv 2) pa_nil))) pa_nil))))))))))), ?_⟩
  refine ⟨rfl, "yes no least most atmost not both either if", " ", rfl, rfl, by decide +kernel, by decide +kernel, fun lw hlw => ?_⟩
  rw [words_split]
  have nwf := fl_nf fl hlw
  have g1 : Gr [] f H (upd H lw (.lst (stockWs.map V.str))) := Gr.new fl hlw
  have e1 : (upd H lw (.lst (stockWs.map V.str))) lw = some (.lst (stockWs.map V.str)) := upd_same
  generalize upd H lw (.lst (stockWs.map V.str)) = H1 at g1 e1
  refine ⟨(by show 0 ≤ sizeLine; decide), fun ls hls => ?_⟩
  have nsf := fl_nf g1.fl hls
  have nws : lw ≠ ls := ne_of_none e1 hls
  have ls0 : H ls = none := g1.ex.free hls (by simp [nsf])
  have g2 : Gr [] f H (upd H1 ls (.lst [])) := g1.trans (Gr.new g1.fl hls)
  have e2 : (upd H1 ls (.lst [])) ls = some (.lst []) := upd_same
  have ew2 : (upd H1 ls (.lst [])) lw = some (.lst (stockWs.map V.str)) := by rw [upd_ne nws]; exact e1
  generalize upd H1 ls (.lst []) = H2 at g2 e2 ew2
  refine ⟨_, rfl, f, 7, rfl, g2.fl, by decide, by decide, fun m H3 m0 m1 dr3 => ?_⟩
  have g3 := g2.trans dr3.gr
  have e3 : H3 ls = _ := (dr3.off ls nsf).trans e2
  have ew3 : H3 lw = _ := (dr3.off lw nwf).trans ew2
  refine ⟨m, rfl, by omega, by omega, for_range (lo := 0) (n := m.toNat) (fun i σ' H' => (∃ y3 y4 y5 : Option V, σ' = [some (.ref f), some (.ref lw), some (.ref ls), y3, y4, y5]) ∧ Gr [] f H H' ∧ ∃ ws us : List Str, H' lw = some (.lst (ws.map V.str)) ∧ H' ls = some (.lst (us.map V.str)) ∧ ws.length + i = 9 ∧ us.length = i ∧ (∀ x ∈ ws, x ∈ stockWs) ∧ ∀ x ∈ us, x ∈ stockWs) ⟨⟨_, _, _, rfl⟩, g3, stockWs, [], ew3, e3, rfl, rfl, fun x hx => hx, fun x hx => absurd hx (by simp)⟩ ?_ ?_⟩
  · rintro i σ' H' hi ⟨⟨y3, y4, y5, rfl⟩, g, ws, us, hw, hs, wl, ul, hws, hus⟩
    have i7 : i < 7 := by omega
    refine ⟨_, rfl, .inl ⟨rfl, _, SqL.of hs⟩, _, rfl, .inl ⟨rfl, _, SqL.of hw⟩, _, rfl, _, rfl, lw, _, rfl, .inl (SqL.of hw), ?_⟩
    refine ⟨f, _, rfl, g.fl, by rw [List.length_map]; omega, by rw [List.length_map]; omega, fun d H4 d0 d1 dr4 => ?_⟩
    have g4 := g.trans dr4.gr
    have hw4 : H4 lw = _ := (dr4.off lw nwf).trans hw
    have hs4 : H4 ls = _ := (dr4.off ls nsf).trans hs
    rw [List.length_map] at d1
    have dl : d.toNat < ws.length := by omega
    have e5 : (ws.map V.str)[d.toNat]? = some (.str ws[d.toNat]) := by rw [List.getElem?_map, List.getElem?_eq_getElem dl]; rfl
    have si : seqIndex? d (ws.map V.str).length = some d.toNat := by
      rw [List.length_map]
      exact six_nat d0 (by omega)
    refine ⟨lw, _, d, d.toNat, _, rfl, rfl, hw4, by omega, by omega, si, e5, ?_⟩
    have g5 : Gr [] f H (upd H4 lw (.lst ((ws.map V.str).eraseIdx d.toNat))) := gr_put g4 hlw nwf
    have hw5 : (upd H4 lw (.lst ((ws.map V.str).eraseIdx d.toNat))) lw = some (.lst ((ws.eraseIdx d.toNat).map V.str)) := by rw [upd_same, map_erase]
    have hs5 : (upd H4 lw (.lst ((ws.map V.str).eraseIdx d.toNat))) ls = some (.lst (us.map V.str)) := by rw [upd_ne nws.symm]; exact hs4
    generalize upd H4 lw (.lst ((ws.map V.str).eraseIdx d.toNat)) = H5 at g5 hw5 hs5
    refine ⟨ls, _, _, rfl, rfl, hs5, by rw [List.length_map]; exact smallL (by omega), ?_⟩
    refine ⟨⟨_, _, _, rfl⟩, gr_put g5 ls0 nsf, ws.eraseIdx d.toNat, us ++ [ws[d.toNat]], by rw [upd_ne nws]; exact hw5, by rw [upd_same, List.map_append]; rfl, by rw [List.length_eraseIdx_of_lt dl]; omega, by rw [List.length_append, ul]; rfl, fun x hx => hws x (erase_mem hx), fun x hx => ?_⟩
    rcases List.mem_append.mp hx with z | z
    · exact hus x z
    · rw [List.mem_singleton.mp z]
      exact hws _ (List.getElem_mem dl)
  · rintro σ' H4 ⟨⟨y3, y4, y5, rfl⟩, g4, ws, us, hw4, hs4, wl, ul, hws, hus⟩
    refine ⟨_, rfl, _, rfl, f, 4, rfl, g4.fl, by decide, by decide, fun m1' H5 a0 a1 dr5 => ?_⟩
    have g5 := g4.trans dr5.gr
    have hs5 : H5 ls = _ := (dr5.off ls nsf).trans hs4
    refine ⟨f, m1', 0, rfl, g5.fl, a0, by omega, fun L1 ns1 H6 g6 L10 hL1 l1 b1 => ?_⟩
    have g06 := g5.trans g6
    have n1f := fl_nf g5.fl L10
    have hs6 : H6 ls = _ := g6.ex _ _ hs5 (by simp [nsf])
    refine ⟨_, rfl, _, rfl, f, 3, rfl, g06.fl, by decide, by decide, fun m2' H7 c0 c1 dr7 => ?_⟩
    have g07 := g06.trans dr7.gr
    have hL7 : H7 L1 = _ := (dr7.off L1 n1f).trans hL1
    have hs7 : H7 ls = _ := (dr7.off ls nsf).trans hs6
    refine ⟨f, m2', 1, rfl, g07.fl, c0, by omega, fun L2 ns2 H8 g8 L20 hL2 l2 b2 => ?_⟩
    have g08 := g07.trans g8
    have n2f := fl_nf g07.fl L20
    have hL8 : H8 L1 = _ := g8.ex _ _ hL7 (by simp [n1f])
    have hs8 : H8 ls = _ := g8.ex _ _ hs7 (by simp [nsf])
    -- three tuples
    refine ⟨_, rfl, _, rfl, f, L1, _, rfl, g08.fl, hL8, n1f, by rw [List.length_map]; omega, fun v hv => ?_, fun t1 ps1 H9 g9 h1 k1 w1 => ?_⟩
    · obtain ⟨n, _, rfl⟩ := List.mem_map.mp hv
      exact .inl ⟨n, rfl⟩
    have g09 := g08.trans g9
    have hL9 : H9 L2 = _ := g9.ex _ _ hL2 (by simp [n2f])
    have hs9 : H9 ls = _ := g9.ex _ _ hs8 (by simp [nsf])
    refine ⟨_, rfl, _, rfl, f, L2, _, rfl, g09.fl, hL9, n2f, by rw [List.length_map]; omega, fun v hv => ?_, fun t2 ps2 Ha ga h2 k2 w2 => ?_⟩
    · obtain ⟨n, _, rfl⟩ := List.mem_map.mp hv
      exact .inl ⟨n, rfl⟩
    have g0a := g09.trans ga
    have hsa : Ha ls = _ := ga.ex _ _ hs9 (by simp [nsf])
    refine ⟨_, rfl, _, rfl, f, ls, _, rfl, g0a.fl, hsa, nsf, by rw [List.length_map]; omega, fun v hv => ?_, fun t3 ps3 Hb gb h3 k3 w3 => ⟨(by show 3 ≤ sizeLine; decide), fun t ht => ?_⟩⟩
    · obtain ⟨n, _, rfl⟩ := List.mem_map.mp hv
      exact .inr ⟨n, rfl⟩
    have sn := same_new (o := .tup [.ref t1, .ref t2, .ref t3]) ht
    have h1' := (h1.keep (ga.tp g09.fl)).keep (gb.tp g0a.fl) |>.keep (Tp.same sn)
    have h2' := (h2.keep (gb.tp g0a.fl)).keep (Tp.same sn)
    have h3' := h3.keep (Tp.same sn)
    rw [map_vK_int] at k1 k2
    rw [map_vK_str] at k3
    refine q t ps1 ps2 ps3 _ ((g0a.trans gb).trans (Gr.new gb.fl ht)) ?_ ⟨⟨ns1, k1, by omega, b1⟩, ⟨ns2, k2, by omega, b2⟩, ⟨us, k3, by omega, hus⟩, w1, w2, w3⟩
    exact fd_tup upd_same (.cons h1'.2 (.cons h2'.2 (.cons h3'.2 .nil))) (by simp [flat.flats, h1'.1, h2'.1, h3'.1])
end
end Lm

set_option Elab.async false
set_option linter.all false
set_option maxRecDepth 100000
set_option maxHeartbeats 2000000
namespace Lm
open PySem PySem.Spec PyProof.Rows L2 LmR RZ
theorem cut_fromA {xs : List V} {j : Nat} : cutV xs (some (j : Int)) none = xs.drop j := by
  unfold cutV
  rw [HT.sIx_none, show HT.sIx xs.length 0 (some (j : Int)) = min j xs.length from HT.sIx_nat _ _ j]
  by_cases h : j ≤ xs.length
  · rw [Nat.min_eq_left h]
    apply List.take_of_length_le
    rw [List.length_drop]
    omega
  · rw [Nat.min_eq_right (by omega), Nat.sub_self, List.take_zero, List.drop_eq_nil_of_le (by omega)]
theorem dszs_two : ∀ (ds : List PyData) (i j : Nat), i ≤ j → dsz.dszs (ds.take i) + dsz.dszs (ds.drop j) ≤ dsz.dszs ds
  | [], i, j, _ => by simp [dsz.dszs]
  | d :: ds, 0, j, _ => by
    have := dszs_drop j (d :: ds)
    simp only [List.take_zero, dsz.dszs] at this ⊢
    omega
  | d :: ds, i + 1, 0, h => by omega
  | d :: ds, i + 1, j + 1, h => by
    have := dszs_two ds i j (by omega)
    simp only [List.take_succ_cons, List.drop_succ_cons, dsz.dszs]
    omega
/-- so many things in a list, none too great -/
def BagZ (K : PySem.W.Frag) (m : Nat) (H : Hp) (l : Addr) (n : Nat) : Prop := ∃ us ds, H l = some (.lst us) ∧ FdL K H us ds ∧ ds.length = n ∧ ∀ x ∈ ds, dsz x ≤ m
section
variable {P : Program} {w : World} {K : PySem.W.Frag} {mg : Str → Option Value} {base : Heap}
theorem BagZ.len {m : Nat} {H : Hp} {l : Addr} {n : Nat} {us : List V} (h : BagZ K m H l n) (e : H l = some (.lst us)) : us.length = n := by
  obtain ⟨us', ds, e', h, hl, _⟩ := h
  rw [e] at e'
  cases e'
  rw [dpall_len h.2, hl]
theorem bagz_cat {k : Nat} {H : Hp} {l1 l2 : Addr} {n m : Nat} {Q : VK} (h1 : BagZ K k H l1 n) (h2 : BagZ K k H l2 m) (hz : n + m ≤ 1000) (q : ∀ p H', Same H H' → BagZ K k H' p (n + m) → Q (.ref p) H') :
    rCat (.ref l1) (.ref l2) H Q := by
  have k1 := h1
  have k2 := h2
  obtain ⟨us, ds, e1, f1, hl1, g1⟩ := h1
  obtain ⟨vs, es, e2, f2, hl2, g2⟩ := h2
  refine ⟨l1, l2, us, vs, rfl, rfl, e1, e2, by rw [k1.len e1, k2.len e2]; exact small (by omega), fun p hp => q p _ (same_new hp) ⟨us ++ vs, ds ++ es, upd_same, ?_, by rw [List.length_append]; omega, fun x hx => ?_⟩⟩
  · have f1' := f1.keep (Tp.new (K := K) (o := .lst (us ++ vs)) hp)
    have f2' := f2.keep (Tp.new (K := K) (o := .lst (us ++ vs)) hp)
    exact ⟨flats_app ds es f1'.1 f2'.1, dpall_app f1'.2 f2'.2⟩
  · rcases List.mem_append.mp hx with z | z
    · exact g1 x z
    · exact g2 x z
theorem BagZ.same {m : Nat} {H H' : Hp} {l : Addr} {n : Nat} (h : BagZ K m H l n) (s : Same H H') : BagZ K m H' l n := by
  obtain ⟨us, ds, e, f, hl, g⟩ := h
  exact ⟨us, ds, s _ _ e, f.keep (Tp.same s), hl, g⟩
theorem bagz_get {m : Nat} {H : Hp} {l : Addr} {n : Nat} {i : Int} (h : BagZ K m H l n) (h0 : 0 ≤ i) (h1 : i < n) : ∃ us u d, H l = some (.lst us) ∧ atI us i = some u ∧ Fd K H u d ∧ dsz d ≤ m := by
  have k := h
  obtain ⟨us, ds, e, f, hl, g⟩ := h
  have ul := k.len e
  have hi : i.toNat < us.length := by omega
  obtain ⟨d, hd, hD⟩ := dpall_get f.2 i.toNat _ (List.getElem?_eq_getElem hi)
  exact ⟨us, us[i.toNat], d, e, at_of (j := i.toNat) (by omega) (List.getElem?_eq_getElem hi), ⟨flats_get2 ds f.1 _ d hd, hD⟩, g d (List.mem_of_getElem? hd)⟩
abbrev s_l_bad_pair : Stmt := topS 39
theorem sc_l_bad_pair : FnScope ["_law_flow_here", "_law_some", "_law_thing", "_law_found"] ["_law_flow_here", "_law_some"] (defScope s_l_bad_pair) := ⟨rfl, rfl, rfl, by decide +kernel, rfl, by decide +kernel, by decide +kernel⟩
def spBP (K : PySem.W.Frag) : Sp := fun vs H Q _ => ∃ (f l : Addr) (us : List V) (ds : List PyData), vs = [.ref f, .ref l] ∧ Flow H f ∧ H l = some (.lst us) ∧ l ≠ f ∧ FdL K H us ds ∧ ds.length ≤ 1000 ∧ (∀ d ∈ ds, ∃ x xs, d = .tuple (x :: xs)) ∧
  ∀ (v : V) (d : PyData) (H' : Hp), Gr [] f H H' → Fd K H' v d → dsz d ≤ dsz.dszs ds + 5 → Q v H'
theorem dszs_mem : ∀ (ds : List PyData) (d : PyData), d ∈ ds → dsz d ≤ dsz.dszs ds
  | e :: ds, d, h => by
    rcases List.mem_cons.mp h with z | z
    · rw [z]; simp only [dsz.dszs]; omega
    · have := dszs_mem ds d z
      simp only [dsz.dszs]
      omega
theorem ok_l_bad_pair (B : Bt mg) (C_l_draw : Cal P w K mg base 1 "_law_draw" ["_law_flow_here", "_law_many"] (spDraw)) (D : DefAt K mg "_law_bad_pair" s_l_bad_pair ["_law_flow_here", "_law_some"]) : Cal P w K mg base 2 "_law_bad_pair" ["_law_flow_here", "_law_some"] (spBP K) := by
  refine cal_of D sc_l_bad_pair (fun vs H Q E h => ?_) (fun f cdv A outer s H vs Q E hr h => ?_)
  · obtain ⟨f, l, us, ds, rfl, _⟩ := h
    rfl
  obtain ⟨f, l, us, ds, rfl, fl, hl, nlf, fd, hn, ht, q⟩ := h
  have hr' : Room 1 _ := hr
  refine ⟨_, (C8.pss_cut (ps_set (i := 2) sc_l_bad_pair.nd rfl (.inl rfl) (pe_ifExp (pt_cmpR op_gt (pe_callB call_len_seq (by rfl) B.len PySem.boot_len (pa_cons (pv 1) pa_nil)) pe_int (nomark _)) (pe_ix ix_tup (pe_ix ix_list (pv 1) (pe_cal C_l_draw hr' (by rfl) (pa_cons (pv 0) (pa_cons (pe_callB call_len_seq (by rfl) B.len PySem.boot_len (pa_cons (pv 1) pa_nil)) pa_nil))) (fun _ _ => rfl)) pe_int (fun _ _ => rfl)) pe_int))
      (pss_cons (ps_set (i := 3) sc_l_bad_pair.nd rfl (.inl rfl) (fd_lst (fd_cons (fd_tupE (fd_cons (fd_var 2) (fd_cons fd_int fd_nil))) (fd_cons (fd_tupE (fd_cons (fd_var 2) (fd_cons fd_int fd_nil))) (fd_cons (fd_tupE (fd_cons (fd_var 2) (fd_cons fd_int fd_nil))) (fd_cons (fd_tupE (fd_cons fd_int (fd_cons (fd_num (pe_op op_sub pe_int pe_int) (fun _ _ i => i = 0 - 2) (fun σ H Q i hf k => by subst hf; exact ⟨_, _, rfl, rfl, k⟩) (fun _ _ _ _ _ h => h)) fd_nil))) (fd_cons (fd_tupE (fd_cons fd_int (fd_cons fd_int fd_nil))) (fd_cons (fd_tupE (fd_cons fd_str (fd_cons fd_int fd_nil))) (fd_cons (fd_tupE (fd_cons fd_str (fd_cons fd_int fd_nil))) (fd_cons (fd_tupE (fd_cons fd_str (fd_cons fd_int fd_nil))) (fd_cons (fd_tupE (fd_cons fd_str (fd_cons fd_int fd_nil))) fd_nil)))))))))))
      (pss_cons (ps_set (i := 3) sc_l_bad_pair.nd rfl (.inl rfl) (pe_op op_cat (pv 3) (fd_lst (fd_cons (fd_tupE (fd_cons fd_int (fd_cons fd_bl fd_nil))) (fd_cons (fd_tupE (fd_cons fd_bl (fd_cons fd_int fd_nil))) (fd_cons (fd_tupE (fd_cons fd_non (fd_cons fd_int fd_nil))) (fd_cons (fd_tupE (fd_cons fd_str (fd_cons fd_str fd_nil))) (fd_cons (fd_tupE (fd_cons fd_int fd_nil)) (fd_cons (fd_tupE (fd_cons fd_int (fd_cons fd_int (fd_cons fd_int fd_nil)))) (fd_cons fd_int (fd_cons fd_str (fd_cons fd_non (fd_cons (fd_tupE (fd_cons (fd_tupE (fd_cons fd_int (fd_cons fd_int fd_nil))) fd_nil)) fd_nil)))))))))))))
      (pss_cons (ps_set (i := 3) sc_l_bad_pair.nd rfl (.inl rfl) (pe_op op_cat (pv 3) (fd_lst (fd_cons (fd_tupE (fd_cons fd_str (fd_cons fd_int fd_nil))) (fd_cons (fd_tupE (fd_cons fd_int (fd_cons fd_int fd_nil))) fd_nil)))))
      (pss_one (ps_ret (pe_ix ix_list (pv 3) (pe_cal C_l_draw hr' (by rfl) (pa_cons (pv 0) (pa_cons pe_int pa_nil))) (fun _ _ => rfl)))))))), ?_⟩
  have ul := dpall_len fd.2
  refine ⟨fun σ' H1 => ∃ (v : V) (d : PyData), σ' = [some (.ref f), some (.ref l), some v, none] ∧ Fd K H1 v d ∧ dsz d ≤ dsz.dszs ds + 1 ∧ Gr [] f H H1, ?_, ?_⟩
  · refine ⟨_, rfl, l, us, rfl, .inl (SqL.of hl), _, _, rfl, rfl, _, rfl, ite2 (fun c => ?_) (fun c => ?_)⟩
    · have c' : ((us.length : Nat) : Int) > 0 := of_decide_eq_true c
      refine ⟨_, rfl, _, rfl, _, rfl, l, us, rfl, .inl (SqL.of hl), f, _, rfl, fl, by omega, by omega, fun j H2 j0 j1 dr => ?_⟩
      have hl2 : H2 l = _ := (dr.off l nlf).trans hl
      have tp := dr.tp (K := K) fl
      have hj : j.toNat < us.length := by omega
      obtain ⟨d, hd, hD⟩ := dpall_get (fd.keep tp).2 j.toNat _ (List.getElem?_eq_getElem hj)
      have dm := List.mem_of_getElem? hd
      obtain ⟨x, xs, rfl⟩ := ht d dm
      have fx := flats_get2 ds fd.1 _ _ hd
      obtain ⟨b, y, ys, e, qb, r1⟩ : ∃ b y ys, us[j.toNat] = .ref b ∧ SqT K H2 b (y :: ys) ∧ Dp K H2 y x := by
        generalize us[j.toNat] = u at hD
        cases hD with
        | tup qb r => cases r with
          | cons r1 r => exact ⟨_, _, _, rfl, qb, r1⟩
      have zm := dszs_mem ds _ dm
      have fxx : flat x = true := by
        have : (flat x && flat.flats xs) = true := fx
        rw [Bool.and_eq_true] at this
        exact this.1
      refine ⟨l, us, j, _, rfl, rfl, SqL.of hl2, at_of (j := j.toNat) (by omega) (List.getElem?_eq_getElem hj), b, _, 0, y, e, rfl, qb, at_of (j := 0) rfl rfl, y, x, rfl, ⟨fxx, r1⟩, ?_, dr.gr⟩
      simp only [dsz, dsz.dszs] at zm
      omega
    · exact ⟨_, _, rfl, ⟨rfl, .int 0⟩, by show 1 ≤ _; omega, gr_same fl (Same.refl _)⟩
  rintro _ H1 ⟨v, d, rfl, fv, zv, g1⟩
  refine ⟨_, (by show 9 ≤ 1000; decide), ⟨_, _, rfl, ⟨_, rfl, (by show 2 ≤ 1000; decide), ⟨_, _, rfl, ⟨_, rfl, fv⟩, ⟨_, _, rfl, rfl, rfl⟩⟩⟩, ⟨_, _, rfl, ⟨_, rfl, (by show 2 ≤ 1000; decide), ⟨_, _, rfl, ⟨_, rfl, fv⟩, ⟨_, _, rfl, rfl, rfl⟩⟩⟩, ⟨_, _, rfl, ⟨_, rfl, (by show 2 ≤ 1000; decide), ⟨_, _, rfl, ⟨_, rfl, fv⟩, ⟨_, _, rfl, rfl, rfl⟩⟩⟩, ⟨_, _, rfl, ⟨_, rfl, (by show 2 ≤ 1000; decide), ⟨_, _, rfl, rfl, ⟨_, _, rfl, ⟨_, rfl, rfl⟩, rfl⟩⟩⟩, ⟨_, _, rfl, ⟨_, rfl, (by show 2 ≤ 1000; decide), ⟨_, _, rfl, rfl, ⟨_, _, rfl, rfl, rfl⟩⟩⟩, ⟨_, _, rfl, ⟨_, rfl, (by show 2 ≤ 1000; decide), ⟨_, _, rfl, rfl, ⟨_, _, rfl, rfl, rfl⟩⟩⟩, ⟨_, _, rfl, ⟨_, rfl, (by show 2 ≤ 1000; decide), ⟨_, _, rfl, rfl, ⟨_, _, rfl, rfl, rfl⟩⟩⟩, ⟨_, _, rfl, ⟨_, rfl, (by show 2 ≤ 1000; decide), ⟨_, _, rfl, rfl, ⟨_, _, rfl, rfl, rfl⟩⟩⟩, ⟨_, _, rfl, ⟨_, rfl, (by show 2 ≤ 1000; decide), ⟨_, _, rfl, rfl, ⟨_, _, rfl, rfl, rfl⟩⟩⟩, rfl⟩⟩⟩⟩⟩⟩⟩⟩⟩, fun l1 us1 J1 t1 l10 hl1 hus1 => ?_⟩
  have b1 : BagZ K (dsz.dszs ds + 5) J1 l1 9 := ⟨us1, _, hl1, hus1, rfl, fun x hx => by
    simp only [List.mem_cons, List.not_mem_nil, or_false] at hx
    rcases hx with h | h | h | h | h | h | h | h | h <;> subst h <;> simp only [dsz, dsz.dszs] <;> omega⟩
  clear hus1 hl1
  refine ⟨_, rfl, _, (by show 10 ≤ 1000; decide), ⟨_, _, rfl, ⟨_, rfl, (by show 2 ≤ 1000; decide), ⟨_, _, rfl, rfl, ⟨_, _, rfl, rfl, rfl⟩⟩⟩, ⟨_, _, rfl, ⟨_, rfl, (by show 2 ≤ 1000; decide), ⟨_, _, rfl, rfl, ⟨_, _, rfl, rfl, rfl⟩⟩⟩, ⟨_, _, rfl, ⟨_, rfl, (by show 2 ≤ 1000; decide), ⟨_, _, rfl, rfl, ⟨_, _, rfl, rfl, rfl⟩⟩⟩, ⟨_, _, rfl, ⟨_, rfl, (by show 2 ≤ 1000; decide), ⟨_, _, rfl, rfl, ⟨_, _, rfl, rfl, rfl⟩⟩⟩, ⟨_, _, rfl, ⟨_, rfl, (by show 1 ≤ 1000; decide), ⟨_, _, rfl, rfl, rfl⟩⟩, ⟨_, _, rfl, ⟨_, rfl, (by show 3 ≤ 1000; decide), ⟨_, _, rfl, rfl, ⟨_, _, rfl, rfl, ⟨_, _, rfl, rfl, rfl⟩⟩⟩⟩, ⟨_, _, rfl, rfl, ⟨_, _, rfl, rfl, ⟨_, _, rfl, rfl, ⟨_, _, rfl, ⟨_, rfl, (by show 1 ≤ 1000; decide), ⟨_, _, rfl, ⟨_, rfl, (by show 2 ≤ 1000; decide), ⟨_, _, rfl, rfl, ⟨_, _, rfl, rfl, rfl⟩⟩⟩, rfl⟩⟩, rfl⟩⟩⟩⟩⟩⟩⟩⟩⟩⟩, fun l2 us2 J2 t2 l20 hl2 hus2 => ?_⟩
  have b2 : BagZ K (dsz.dszs ds + 5) J2 l2 10 := ⟨us2, _, hl2, hus2, rfl, fun x hx => by
    simp only [List.mem_cons, List.not_mem_nil, or_false] at hx
    rcases hx with h | h | h | h | h | h | h | h | h | h <;> subst h <;> simp only [dsz, dsz.dszs] <;> omega⟩
  clear hus2 hl2
  refine bagz_cat (b1.same t2) b2 (by decide) fun l3 J3 t3 b3 => ?_
  refine ⟨_, rfl, _, (by show 2 ≤ 1000; decide), ⟨_, _, rfl, ⟨_, rfl, (by show 2 ≤ 1000; decide), ⟨_, _, rfl, rfl, ⟨_, _, rfl, rfl, rfl⟩⟩⟩, ⟨_, _, rfl, ⟨_, rfl, (by show 2 ≤ 1000; decide), ⟨_, _, rfl, rfl, ⟨_, _, rfl, rfl, rfl⟩⟩⟩, rfl⟩⟩, fun l4 us4 J4 t4 l40 hl4 hus4 => ?_⟩
  have b4 : BagZ K (dsz.dszs ds + 5) J4 l4 2 := ⟨us4, _, hl4, hus4, rfl, fun x hx => by
    simp only [List.mem_cons, List.not_mem_nil, or_false] at hx
    rcases hx with h | h <;> subst h <;> simp only [dsz, dsz.dszs] <;> omega⟩
  clear hus4 hl4
  refine bagz_cat (b3.same t4) b4 (by decide) fun l5 J5 t5 b5 => ?_
  have s15 : Same H1 J5 := t1.trans (t2.trans (t3.trans (t4.trans t5)))
  have g5 := g1.trans (gr_same g1.fl s15)
  refine ⟨_, rfl, _, rfl, f, 21, rfl, g5.fl, by decide, by decide, fun i H6 i0 i1 dr6 => ?_⟩
  obtain ⟨us6, u, d6, e6, at6, fd6, z6⟩ := bagz_get b5 i0 i1
  have n5 : l5 ≠ f := fun z => by
    obtain ⟨x, y, zz, e, _⟩ := g5.fl
    rw [z, e] at e6
    have := b5.len (z ▸ e)
    simp at this
  refine ⟨l5, us6, i, u, rfl, rfl, SqL.of ((dr6.off l5 n5).trans e6), at6, q u d6 _ (g5.trans dr6.gr) (fd6.keep (dr6.tp g5.fl)) z6⟩
abbrev s_l_spoilt : Stmt := topS 40
theorem sc_l_spoilt : FnScope ["_law_flow_here", "_law_stock_here", "_law_k", "_law_form", "_law_at", "_law_pairs_here", "_law_own", "_law_gone", "_law_new", "_law_some", "_law_pair"] ["_law_flow_here", "_law_stock_here"] (defScope s_l_spoilt) := ⟨rfl, rfl, rfl, by decide +kernel, rfl, by decide +kernel, by decide +kernel⟩
def spSp (K : PySem.W.Frag) : Sp := fun vs H Q _ => ∃ (f : Addr) (u : V) (d : PyData), vs = [.ref f, u] ∧ Flow H f ∧ Fd K H u d ∧ dsz d ≤ 490 ∧ ∀ (u' : V) (d' : PyData) (H' : Hp), Gr [] f H H' → Fd K H' u' d' → dsz d' ≤ 2 * dsz d + 10 → Q u' H'
theorem ok_l_spoilt (B : Bt mg) (C_l_draw : Cal P w K mg base 1 "_law_draw" ["_law_flow_here", "_law_many"] (spDraw)) (C_l_bad_pair : Cal P w K mg base 2 "_law_bad_pair" ["_law_flow_here", "_law_some"] (spBP K)) (D : DefAt K mg "_law_spoilt" s_l_spoilt ["_law_flow_here", "_law_stock_here"]) : Cal P w K mg base 3 "_law_spoilt" ["_law_flow_here", "_law_stock_here"] (spSp K) := by
  refine cal_of D sc_l_spoilt (fun vs H Q E h => ?_) (fun f cdv A outer s H vs Q E hr h => ?_)
  · obtain ⟨f, u, d, rfl, _⟩ := h
    rfl
  obtain ⟨f, u, d, rfl, fl, hu, hz, q⟩ := h
  have C_l_draw := C_l_draw.mono (k := 2) (by decide)
  have hr' : Room 2 _ := hr
  refine ⟨_, (pss_cons (ps_if (PW.pt (pw_or (pt_not (pt_val (pe_callB call_isi (by rfl) B.isinstance (by decide +kernel) (pa_cons (pv 1) (pa_cons (pe_bltn (v := .ty "tuple") (by rfl) B.tuple PyProof.Rows.boot_tuple rfl) pa_nil))))) (pw_or1 (pt_cmpR op_ne (pe_callB call_len_seq (by rfl) B.len PySem.boot_len (pa_cons (pv 1) pa_nil)) pe_int (nomark _)))))
        (pss_one (ps_ret (pv 1)))
        pss_nil)
      (pss_cons (ps_par (i := 2) (j := 3) rfl sc_l_spoilt.nd rfl rfl (by decide) rfl rfl (pa_cons (pe_cal C_l_draw hr' (by rfl) (pa_cons (pv 0) (pa_cons pe_int pa_nil))) (pa_cons (pe_cal C_l_draw hr' (by rfl) (pa_cons (pv 0) (pa_cons pe_int pa_nil))) pa_nil)) rfl)
      (pss_cons (ps_if (pt_cmpR op_eq (pv 3) pe_int (nomark _))
        (pss_cons (ps_set (i := 9) sc_l_spoilt.nd rfl (.inl rfl) (pe_lst (pa_cons (pe_slice sl_tupA (pv 1) po_none (po_some pe_int)) (pa_cons (pe_op op_catA (pv 1) (pe_tup (pa_cons (pe_tup pa_nil) pa_nil))) (pa_cons (pe_tup (pa_cons (pe_ix ix_tup (pv 1) pe_int (fun _ _ => rfl)) (pa_cons (pe_ix ix_tup (pv 1) pe_int (fun _ _ => rfl)) (pa_cons (pe_ix ix_tup (pv 1) pe_int (fun _ _ => rfl)) pa_nil)))) (pa_cons (pe_revT (pv 1)) (pa_cons (pe_tup pa_nil) (pa_cons pe_non (pa_cons pe_str (pa_cons pe_int (pa_cons (pe_tup (pa_cons (pv 1) pa_nil)) pa_nil)))))))))))
      (pss_one (ps_ret (pe_ix ix_list (pv 9) (pe_cal C_l_draw hr' (by rfl) (pa_cons (pv 0) (pa_cons pe_int pa_nil))) (fun _ _ => rfl)))))
        pss_nil)
      (pss_cons (ps_if (pt_not (pt_val (pe_callB call_isi (by rfl) B.isinstance (by decide +kernel) (pa_cons (pe_ix ix_tup (pv 1) (pv 2) (fun _ _ => rfl)) (pa_cons (pe_bltn (v := .ty "tuple") (by rfl) B.tuple PyProof.Rows.boot_tuple rfl) pa_nil)))))
        (pss_one (ps_ret (pv 1)))
        pss_nil)
      (pss_cons (ps_set (i := 4) sc_l_spoilt.nd rfl (.inl rfl) (pe_cal C_l_draw hr' (by rfl) (pa_cons (pv 0) (pa_cons (pe_op op_add (pe_callB call_len_seq (by rfl) B.len PySem.boot_len (pa_cons (pe_ix ix_tup (pv 1) (pv 2) (fun _ _ => rfl)) pa_nil)) pe_int) pa_nil))))
      (pss_cons (ps_setLc (i := 5) (own := [("_law_pair", 10)]) (g := gName 10) rfl sc_l_spoilt.nd rfl rfl (sw_true rfl rfl rfl (by decide +kernel)) (pi_tup (pe_ix ix_tup (pv 1) (pv 2) (fun _ _ => rfl))) (blkOk_by (own := [("_law_pair", 10)]) (N := ["_law_flow_here", "_law_stock_here", "_law_k", "_law_form", "_law_at", "_law_pairs_here", "_law_own", "_law_gone", "_law_new", "_law_some", "_law_pair"]) (sc := defScope s_l_spoilt) (by decide +kernel)) (fun _ _ _ _ _ => (pg_name (i := 10) sc_l_spoilt.nd rfl (.inl rfl))) (fun _ _ _ _ _ => (pts_one (PW.pt (pw_and (pt_val (pe_callB (call_isiK (K := K) rfl) (by rfl) B.isinstance (by decide +kernel) (pa_cons (pv 10) (pa_cons (pe_bltn (v := .ty "tuple") (by rfl) B.tuple PyProof.Rows.boot_tuple rfl) pa_nil)))) (pw_and1 (pt_cmpR op_gt (pe_callB (call_len_seqK (K := K) rfl) (by rfl) B.len PySem.boot_len (pa_cons (pv 10) pa_nil)) pe_int (nomark _))))))) (fun _ _ _ _ _ => (pv 10)))
      (pss_cons (ps_par (i := 6) (j := 7) rfl sc_l_spoilt.nd rfl rfl (by decide) rfl rfl (pa_cons (pe_ix ix_tup (pv 1) (pv 2) (fun _ _ => rfl)) (pa_cons (pe_cal C_l_draw hr' (by rfl) (pa_cons (pv 0) (pa_cons pe_int pa_nil))) pa_nil)) rfl)
      (pss_cons (ps_set (i := 8) sc_l_spoilt.nd rfl (.inl rfl) (pe_op op_catA (pe_op op_catA (pe_slice sl_tupA (pv 6) po_none (po_some (pv 4))) (pe_tup (pa_cons (pe_cal C_l_bad_pair hr' (by rfl) (pa_cons (pv 0) (pa_cons (pv 5) pa_nil))) pa_nil))) (pe_slice sl_tupA (pv 6) (po_some (pe_op op_add (pv 4) (pv 7))) po_none)))
      (C8.pss_cut (ps_if (pt_cmpR op_eq (pv 3) pe_int (nomark _))
        (pss_one (ps_set (i := 8) sc_l_spoilt.nd rfl (.inl rfl) (pe_ix ix_list (pe_lst (pa_cons pe_non (pa_cons pe_int (pa_cons pe_str (pa_cons pe_bl pa_nil))))) (pe_cal C_l_draw hr' (by rfl) (pa_cons (pv 0) (pa_cons pe_int pa_nil))) (fun _ _ => rfl))))
        pss_nil)
      (pss_one (ps_ret (pe_op op_catA (pe_op op_catA (pe_slice sl_tupA (pv 1) po_none (po_some (pv 2))) (pe_tup (pa_cons (pv 8) pa_nil))) (pe_slice sl_tupA (pv 1) (po_some (pe_op op_add (pv 2) pe_int)) po_none))))))))))))), ?_⟩
  have same : ∀ H', Gr [] f H H' → Q u H' := fun H' g => q u d H' g (hu.keep (g.tp fl)) (by omega)
  refine ⟨_, rfl, u, _, _, _, _, rfl, .ty _, hu.ty, kit_tup d hu.1, _, rfl, ite2 (fun c => ?_) (fun c => ?_)⟩
  · exact iteY rfl ⟨_, rfl, same H (gr_same fl (Same.refl _))⟩
  have it : isTup d = true := by simpa using c
  obtain ⟨ds, rfl⟩ : ∃ ds, d = .tuple ds := by cases d <;> first | exact ⟨_, rfl⟩ | (simp [isTup] at it; done)
  obtain ⟨a, xs, rfl, qa, r⟩ : ∃ a xs, u = .ref a ∧ SqT K H a xs ∧ DpAll K H xs ds := by
    cases hu.2 with
    | tup qa r => exact ⟨_, _, rfl, qa, r⟩
  have hl := dpall_len r
  refine ⟨_, rfl, a, xs, rfl, .inr qa, rfl, _, rfl, ite2 (fun c2 => ?_) (fun c2 => ?_)⟩
  · exact ⟨_, rfl, same H (gr_same fl (Same.refl _))⟩
  obtain ⟨k1, k2, k3, rfl⟩ : ∃ k1 k2 k3, ds = [k1, k2, k3] := by
    have n3 : ds.length = 3 := by
      have z : ((xs.length : Nat) : Int) = 3 := by simpa using c2
      omega
    match ds, n3 with
    | [k, l, m], _ => exact ⟨_, _, _, rfl⟩
  obtain ⟨v1, v2, v3, rfl, r1, r2, r3⟩ : ∃ v1 v2 v3, xs = [v1, v2, v3] ∧ Dp K H v1 k1 ∧ Dp K H v2 k2 ∧ Dp K H v3 k3 := by
    cases r with
    | cons r1 r => cases r with
      | cons r2 r => cases r with
        | cons r3 r => cases r; exact ⟨_, _, _, rfl, r1, r2, r3⟩
  have ff : flat k1 = true ∧ flat k2 = true ∧ flat k3 = true := by
    have fd := hu.1
    simpa [flat, flat.flats] using fd
  have dz : dsz (.tuple [k1, k2, k3]) = 1 + (dsz k1 + (dsz k2 + (dsz k3 + 0))) := rfl
  -- k, form
  refine ⟨_, rfl, f, 3, rfl, fl, by decide, by decide, fun kz H1 kz0 kz1 dr1 => ⟨_, rfl, f, 10, rfl, dr1.fl, by decide, by decide, fun fm H2 fm0 fm1 dr2 => ⟨_, _, rfl, ?_⟩⟩⟩
  have g2 : Gr [] f H H2 := dr1.gr.trans dr2.gr
  have t2 : Tp K H H2 := g2.tp fl
  have qa2 := t2 _ _ qa
  have h1 : Fd K H2 v1 k1 := (show Fd K H v1 k1 from ⟨ff.1, r1⟩).keep t2
  have h2 : Fd K H2 v2 k2 := (show Fd K H v2 k2 from ⟨ff.2.1, r2⟩).keep t2
  have h3 : Fd K H2 v3 k3 := (show Fd K H v3 k3 from ⟨ff.2.2, r3⟩).keep t2
  have fl2 := g2.fl
  clear r1 r2 r3 qa
  refine ⟨_, rfl, rfl, _, rfl, ite2 (fun c3 => ?_) (fun c3 => ?_)⟩
  · -- whole things
    refine ⟨_, rfl, 2, rfl, slA_any qa2 fun p1 J1 s1 q1 => ?_⟩
    have q1' : SqT K J1 p1 [v1, v2] := q1
    refine ⟨_, rfl, (by show 0 ≤ sizeLine; decide), fun p2 hp2 => ⟨(by show 1 ≤ sizeLine; decide), fun p3 hp3 => ?_⟩⟩
    have s2 := same_new (o := .tup []) hp2
    have e2 : (upd J1 p2 (.tup [])) p2 = some (.tup []) := upd_same
    have s3 := same_new (o := .tup [.ref p2]) hp3
    have e3 : (upd (upd J1 p2 (.tup [])) p3 (.tup [.ref p2])) p3 = some (.tup [.ref p2]) := upd_same
    have e23 := s3 _ _ e2
    have s13 : Same J1 (upd (upd J1 p2 (.tup [])) p3 (.tup [.ref p2])) := s2.trans s3
    generalize upd (upd J1 p2 (.tup [])) p3 (.tup [.ref p2]) = J3 at e3 e23 s13
    refine catA_any (Tp.same (s1.trans s13) _ _ qa2) (.inl (.inl e3)) (by show 4 ≤ sizeLine; decide) fun p4 J4 s4 q4 => ?_
    have s04 := s1.trans (s13.trans s4)
    have qa4 := Tp.same s04 _ _ qa2
    refine ⟨_, rfl, a, _, 1, v2, rfl, rfl, qa4, rfl, _, rfl, a, _, 0, v1, rfl, rfl, qa4, rfl, _, rfl, a, _, 2, v3, rfl, rfl, qa4, rfl, (by show 3 ≤ sizeLine; decide), fun p5 hp5 => ?_⟩
    have s5 := same_new (o := .tup [v2, v1, v3]) hp5
    have e5 : (upd J4 p5 (.tup [v2, v1, v3])) p5 = some (.tup [v2, v1, v3]) := upd_same
    generalize upd J4 p5 (.tup [v2, v1, v3]) = J5 at s5 e5
    refine ⟨_, rfl, a, _, rfl, Tp.same (s04.trans s5) _ _ qa2, fun p6 hp6 => ?_⟩
    have s6 := same_new (o := .tup [v1, v2, v3].reverse) hp6
    have e6 : (upd J5 p6 (.tup [v1, v2, v3].reverse)) p6 = some (.tup [v3, v2, v1]) := upd_same
    generalize upd J5 p6 (.tup [v1, v2, v3].reverse) = J6 at s6 e6
    refine ⟨(by show 0 ≤ sizeLine; decide), fun p7 hp7 => ?_⟩
    have s7 := same_new (o := .tup []) hp7
    have e7 : (upd J6 p7 (.tup [])) p7 = some (.tup []) := upd_same
    generalize upd J6 p7 (.tup []) = J7 at s7 e7
    refine ⟨_, rfl, (by show 1 ≤ sizeLine; decide), fun p8 hp8 => ?_⟩
    have s8 := same_new (o := .tup [.ref a]) hp8
    have e8 : (upd J7 p8 (.tup [.ref a])) p8 = some (.tup [.ref a]) := upd_same
    generalize upd J7 p8 (.tup [.ref a]) = J8 at s8 e8
    refine ⟨(by show 9 ≤ sizeLine; decide), fun L hL => ?_⟩
    have s9 := same_new (o := .lst [.ref p1, .ref p4, .ref p5, .ref p6, .ref p7, .non, .str "stock", .int 3, .ref p8]) hL
    have e9 : (upd J8 L (.lst [.ref p1, .ref p4, .ref p5, .ref p6, .ref p7, .non, .str "stock", .int 3, .ref p8])) L = some (.lst [.ref p1, .ref p4, .ref p5, .ref p6, .ref p7, .non, .str "stock", .int 3, .ref p8]) := upd_same
    have gL8 := gr_same (ws := []) fl2 (s04.trans (s5.trans (s6.trans (s7.trans s8))))
    have nLf := fl_nf gL8.fl hL
    generalize upd J8 L (.lst [.ref p1, .ref p4, .ref p5, .ref p6, .ref p7, .non, .str "stock", .int 3, .ref p8]) = J9 at s9 e9
    have s89 := s8.trans s9
    have s79 := s7.trans s89
    have s69 := s6.trans s79
    have s59 := s5.trans s69
    have s49 := s4.trans s59
    have s09 := s1.trans (s13.trans s49)
    have k1' := (h1.keep (Tp.same s09)).2
    have k2' := (h2.keep (Tp.same s09)).2
    have k3' := (h3.keep (Tp.same s09)).2
    have g9 := gr_same (ws := []) fl2 s09
    have r9 : DpAll K J9 [.ref p1, .ref p4, .ref p5, .ref p6, .ref p7, .non, .str "stock", .int 3, .ref p8] [.tuple [k1, k2], .tuple [k1, k2, k3, .tuple []], .tuple [k2, k1, k3], .tuple [k3, k2, k1], .tuple [], .none, .str "stock", .int 3, .tuple [.tuple [k1, k2, k3]]] :=
      .cons (.tup (Tp.same (s13.trans s49) _ _ q1') (.cons k1' (.cons k2' .nil))) (.cons (.tup (Tp.same s59 _ _ q4) (.cons k1' (.cons k2' (.cons k3' (.cons (.tup (.inl (.inl (s49 _ _ e23))) .nil) .nil))))) (.cons (.tup (.inl (.inl (s69 _ _ e5))) (.cons k2' (.cons k1' (.cons k3' .nil)))) (.cons (.tup (.inl (.inl (s79 _ _ e6))) (.cons k3' (.cons k2' (.cons k1' .nil)))) (.cons (.tup (.inl (.inl (s89 _ _ e7))) .nil) (.cons .non (.cons (.str _) (.cons (.int _) (.cons (.tup (.inl (.inl (s9 _ _ e8))) (.cons (.tup (Tp.same s09 _ _ qa2) (.cons k1' (.cons k2' (.cons k3' .nil)))) .nil)) .nil))))))))
    refine ⟨_, rfl, _, rfl, f, 9, rfl, g9.fl, by decide, by decide, fun j Ja j0 j1 dra => ?_⟩
    have fl9 : flat.flats [.tuple [k1, k2], .tuple [k1, k2, k3, .tuple []], .tuple [k2, k1, k3], .tuple [k3, k2, k1], .tuple [], .none, .str "stock", .int 3, .tuple [.tuple [k1, k2, k3]]] = true := by simp [flat, flat.flats, ff.1, ff.2.1, ff.2.2]
    obtain ⟨v, d, hv, hd, hm⟩ := pick (dps_keep (dra.tp g9.fl) _ _ fl9 r9) fl9 j0 (by show j < 9; exact j1)
    refine ⟨L, _, j, v, rfl, rfl, SqL.of ((dra.off L nLf).trans e9), hv, q v d _ (g2.trans (g9.trans dra.gr)) hd ?_⟩
    simp only [List.mem_cons, List.not_mem_nil, or_false] at hm
    rcases hm with h | h | h | h | h | h | h | h | h <;> subst h <;> simp only [dsz, dsz.dszs] <;> omega
  -- one of the three
  obtain ⟨kn, rfl, kn2, vk, dk, ek, hk, edk⟩ : ∃ kn : Nat, kz = (kn : Int) ∧ kn ≤ 2 ∧ ∃ vk dk, atI [v1, v2, v3] (kn : Int) = some vk ∧ Fd K H2 vk dk ∧ [k1, k2, k3][kn]? = some dk := by
    rcases (show kz = 0 ∨ kz = 1 ∨ kz = 2 by omega) with z | z | z
    · exact ⟨0, z, by decide, v1, k1, rfl, h1, rfl⟩
    · exact ⟨1, z, by decide, v2, k2, rfl, h2, rfl⟩
    · exact ⟨2, z, by decide, v3, k3, rfl, h3, rfl⟩
  refine ⟨_, rfl, _, rfl, a, _, _, vk, rfl, rfl, qa2, ek, vk, _, _, _, _, rfl, .ty _, hk.ty, kit_tup dk hk.1, _, rfl, ite2 (fun c4 => ⟨_, rfl, same H2 g2⟩) (fun c4 => ?_)⟩
  have it4 : isTup dk = true := by simpa using c4
  obtain ⟨es, rfl⟩ : ∃ ds, dk = .tuple ds := by cases dk <;> first | exact ⟨_, rfl⟩ | (simp [isTup] at it4; done)
  obtain ⟨b, ys, rfl, qb, rb⟩ : ∃ b ys, vk = .ref b ∧ SqT K H2 b ys ∧ DpAll K H2 ys es := by
    cases hk.2 with
    | tup qa r => exact ⟨_, _, rfl, qa, r⟩
  have fe : flat.flats es = true := hk.1
  have yl := dpall_len rb
  have ez : dsz (.tuple es) ≤ dsz (.tuple [k1, k2, k3]) := by
    have := dszs_mem [k1, k2, k3] _ (List.mem_of_getElem? edk)
    simp only [dsz] at this ⊢
    omega
  have el : es.length ≤ 490 := by
    have := dszs_len es
    simp only [dsz] at ez hz
    omega
  refine ⟨_, rfl, _, rfl, _, rfl, a, _, _, _, rfl, rfl, qa2, ek, b, ys, rfl, .inr qb, _, _, rfl, rfl, f, _, rfl, fl2, by omega, by omega, fun at_ H3 a0 a1 dr3 => ?_⟩
  obtain ⟨an, rfl⟩ : ∃ an : Nat, at_ = (an : Int) := ⟨at_.toNat, by omega⟩
  have anl : an ≤ ys.length := by omega
  have t23 : Tp K H2 H3 := dr3.tp fl2
  have qa3 := t23 _ _ qa2
  have qb3 := t23 _ _ qb
  have rb3 := dps_keep t23 es _ fe rb
  have g23 : Gr [] f H2 H3 := dr3.gr
  -- pairs
  refine ⟨_, rfl, _, rfl, a, _, _, _, rfl, rfl, qa3, ek, b, rfl, ⟨_, qb3⟩, fun D hD => lc_tup (K := K) (a := b) (xs := ys) (fun j H' => Same H3 H' ∧ ∃ us fs, H' D = some (.lst us) ∧ FdL K H' us fs ∧ dsz.dszs fs ≤ dsz.dszs (es.take j) ∧ fs.length ≤ j ∧ ∀ d ∈ fs, ∃ x xs, d = .tuple (x :: xs)) ?_ ?_ ?_ ?_⟩
  · exact ⟨same_new hD, [], [], upd_same, ⟨rfl, .nil⟩, Nat.zero_le _, Nat.le_refl _, fun d hd => absurd hd (by simp)⟩
  · rintro j H' _ ⟨s', _⟩
    exact sqT_same s' qb3
  · rintro j x H' hx ⟨s', us, fs, hD', hfs, hz', hlen, hne⟩
    obtain ⟨e, he, re⟩ := dpall_get rb3 j x hx
    have fe' : Fd K H' x e := Fd.keep ⟨flats_get2 es fe j e he, re⟩ (Tp.same s')
    have jl : j < es.length := (List.getElem?_eq_some_iff.mp he).1
    have zt : dsz.dszs (es.take (j + 1)) = dsz.dszs (es.take j) + dsz e := by
      rw [List.take_add_one, he, dszs_app]
      simp [dsz.dszs]
    have skip : Same H3 H' ∧ ∃ us fs, H' D = some (.lst us) ∧ FdL K H' us fs ∧ dsz.dszs fs ≤ dsz.dszs (es.take (j + 1)) ∧ fs.length ≤ j + 1 ∧ ∀ d ∈ fs, ∃ x xs, d = .tuple (x :: xs) := ⟨s', us, fs, hD', hfs, by omega, by omega, hne⟩
    refine ⟨rfl, _, rfl, x, _, _, _, _, rfl, .ty _, fe'.ty, kit_tup e fe'.1, _, rfl, ite2 (fun c => ?_) (fun c => iteF skip)⟩
    obtain ⟨gs, rfl⟩ : ∃ ds, e = .tuple ds := by cases e <;> first | exact ⟨_, rfl⟩ | (simp [isTup] at c; done)
    obtain ⟨b', ys', rfl, qb', rb'⟩ : ∃ a xs, x = .ref a ∧ SqT K H' a xs ∧ DpAll K H' xs gs := by
      cases fe'.2 with
      | tup qa r => exact ⟨_, _, rfl, qa, r⟩
    refine ⟨_, rfl, b', ys', rfl, .inr qb', _, _, rfl, rfl, _, rfl, ite2 (fun c => ?_) (fun c => skip)⟩
    have ne : gs ≠ [] := fun z => by
      have c' : ((ys'.length : Nat) : Int) > 0 := of_decide_eq_true c
      rw [dpall_len rb', z] at c'
      simp at c'
    have ul : us.length = fs.length := dpall_len hfs.2
    have t5 : Tp K H' (upd H' D (.lst (us ++ [.ref b']))) := Tp.lst hD'
    have hfs5 := hfs.keep t5
    refine ⟨_, rfl, us, hD', smallL (by omega), fun b o z => ?_, us ++ [.ref b'], fs ++ [.tuple gs], upd_same, ⟨flats_app _ _ hfs5.1 (by simp [flat.flats, fe'.1]), dpall_app hfs5.2 (.cons (fe'.keep t5).2 .nil)⟩, ?_, by rw [List.length_append]; show fs.length + 1 ≤ _; omega, fun d hd => ?_⟩
    · rw [upd_ne (ne_of_none z hD)]
      exact s' _ _ z
    · rw [dszs_app, zt]
      simp only [dsz.dszs]
      omega
    · rcases List.mem_append.mp hd with z | z
      · exact hne d z
      · rw [List.mem_singleton.mp z]
        cases gs with
        | nil => exact absurd rfl ne
        | cons x xs => exact ⟨x, xs, rfl⟩
  rintro H4 ⟨s4, us, fs, hD4, hfs, hz4, hlen4, hne⟩
  rw [yl, List.take_length] at hz4
  rw [yl] at hlen4
  have nDf := fl_nf dr3.fl hD
  have g24 := g23.trans (gr_same dr3.fl s4)
  have qa4 := Tp.same s4 _ _ qa3
  refine ⟨_, rfl, _, rfl, a, _, _, _, rfl, rfl, qa4, ek, _, rfl, f, 2, rfl, g24.fl, by decide, by decide, fun gn_ H5 gn0 gn1 dr5 => ⟨_, _, rfl, ?_⟩⟩
  obtain ⟨gn, rfl⟩ : ∃ gn : Nat, gn_ = (gn : Int) := ⟨gn_.toNat, by omega⟩
  have g25 : Gr [] f H2 H5 := g24.trans dr5.gr
  have hD5 : H5 D = _ := (dr5.off D nDf).trans hD4
  have hfs5 := hfs.keep (dr5.tp (K := K) g24.fl)
  have t25 : Tp K H2 H5 := g25.tp fl2
  have qb5 := t25 _ _ qb
  have rb5 := dps_keep t25 es _ fe rb
  -- new
  refine ⟨_, rfl, _, rfl, _, rfl, slA_any qb5 fun p1 J1 s1 q1 => ?_⟩
  rw [cut_take anl] at q1
  have gJ1 := gr_same (ws := []) g25.fl s1
  refine ⟨_, rfl, _, rfl, f, D, us, fs, rfl, gJ1.fl, s1 _ _ hD5, nDf, hfs5.keep (Tp.same s1), by omega, hne, fun vb db J2 gJ2 hub szb => ⟨(by show 1 ≤ sizeLine; decide), fun t ht => ?_⟩⟩
  have s3' := same_new (o := .tup [vb]) ht
  have e3' : (upd J2 t (.tup [vb])) t = some (.tup [vb]) := upd_same
  generalize upd J2 t (.tup [vb]) = J3 at s3' e3'
  have t13 : Tp K J1 J3 := (gJ2.tp gJ1.fl).trans (Tp.same s3')
  refine catA_any (t13 _ _ q1) (.inl (.inl e3')) (by rw [List.length_take]; show _ + 1 ≤ sizeLine; exact small (by omega)) fun p2 J4 s4' q4 => ?_
  have t54 : Tp K H5 J4 := (Tp.same s1).trans (t13.trans (Tp.same s4'))
  have gJ4 : Gr [] f H2 J4 := (g25.trans gJ1).trans (gJ2.trans (gr_same gJ2.fl (s3'.trans s4')))
  refine ⟨_, rfl, _, rfl, _, rfl, _, _, rfl, rfl, _, rfl, ?_⟩
  delta tNoPart
  refine slA_any (lo := some ((an : Int) + (gn : Int))) (hi := none) (t54 _ _ qb5) fun p3 J5 s5' q5 => ?_
  rw [show (an : Int) + (gn : Int) = ((an + gn : Nat) : Int) by omega, cut_fromA] at q5
  refine catA_any (Tp.same s5' _ _ q4) q5 (by rw [List.length_append, List.length_take, List.length_drop]; show _ + 1 + _ ≤ sizeLine; exact small (by omega)) fun p4 J6 s6' q6 => ?_
  have gJ6 := gJ4.trans (gr_same gJ4.fl (s5'.trans s6'))
  have t56 : Tp K H5 J6 := (t54.trans (Tp.same s5')).trans (Tp.same s6')
  have fdn : Fd K J6 (.ref p4) (.tuple ((es.take an ++ [db]) ++ es.drop (an + gn))) := by
    have fe1 := flats_take an es fe
    have fe2 := flats_drop (an + gn) es fe
    have tb : Tp K J2 J6 := ((Tp.same s3').trans (Tp.same s4')).trans ((Tp.same s5').trans (Tp.same s6'))
    refine ⟨flats_app _ _ (flats_app _ _ fe1 (by simp [flat.flats, hub.1])) fe2, .tup q6 (dpall_app (dpall_app (dps_keep t56 _ _ fe1 (dpall_take an rb5)) (.cons (hub.keep tb).2 .nil)) (dps_keep t56 _ _ fe2 (dpall_drop (an + gn) rb5)))⟩
  have szn : dsz (.tuple ((es.take an ++ [db]) ++ es.drop (an + gn))) ≤ 2 * dsz (.tuple es) + 5 := by
    have := dszs_two es an (an + gn) (by omega)
    simp only [dsz, dsz.dszs, dszs_app]
    omega
  generalize PyData.tuple ((es.take an ++ [db]) ++ es.drop (an + gn)) = nd0 at fdn szn
  -- form 1
  refine ⟨fun σ' H' => ∃ (nv : V) (nd : PyData) (y9 y10 : Option V), σ' = [some (.ref f), some (.ref a), some (.int (kn : Int)), some (.int fm), some (.int (an : Int)), some (.ref D), some (.ref b), some (.int (gn : Int)), some nv, y9, y10] ∧ Fd K H' nv nd ∧ dsz nd ≤ 2 * dsz (.tuple es) + 5 ∧ Gr [] f H2 H', ?_, ?_⟩
  · refine ⟨_, rfl, rfl, _, rfl, ite2 (fun c5 => ?_) (fun c5 => ⟨_, _, _, _, rfl, fdn, szn, gJ6⟩)⟩
    refine ⟨(by show 4 ≤ sizeLine; decide), fun p hp => ?_⟩
    have sp := same_new (o := .lst [.non, .int 4, .str "if", .bl true]) hp
    have ep : (upd J6 p (.lst [.non, .int 4, .str "if", .bl true])) p = some (.lst [.non, .int 4, .str "if", .bl true]) := upd_same
    have npf := fl_nf gJ6.fl hp
    generalize upd J6 p (.lst [.non, .int 4, .str "if", .bl true]) = J7 at sp ep
    have g7 := gJ6.trans (gr_same gJ6.fl sp)
    refine ⟨_, rfl, f, 4, rfl, g7.fl, by decide, by decide, fun j J8 j0 j1 dr8 => ?_⟩
    have ep8 := (dr8.off p npf).trans ep
    have g8 := g7.trans dr8.gr
    rcases (show j = 0 ∨ j = 1 ∨ j = 2 ∨ j = 3 by omega) with z | z | z | z <;> subst z
    · exact ⟨p, _, 0, .non, rfl, rfl, SqL.of ep8, rfl, _, .none, _, _, rfl, ⟨rfl, .non⟩, by show 1 ≤ _; omega, g8⟩
    · exact ⟨p, _, 1, .int 4, rfl, rfl, SqL.of ep8, rfl, _, .int 4, _, _, rfl, ⟨rfl, .int _⟩, by show 1 ≤ _; omega, g8⟩
    · exact ⟨p, _, 2, .str "if", rfl, rfl, SqL.of ep8, rfl, _, .str "if", _, _, rfl, ⟨rfl, .str _⟩, by show 1 ≤ _; omega, g8⟩
    · exact ⟨p, _, 3, .bl true, rfl, rfl, SqL.of ep8, rfl, _, .bool true, _, _, rfl, ⟨rfl, .bl _⟩, by show 1 ≤ _; omega, g8⟩
  rintro _ H6 ⟨nv, nd, y9, y10, rfl, fnv, znv, g6⟩
  have qa6 := g6.tp fl2 _ _ qa2
  refine ⟨_, rfl, _, rfl, _, rfl, slA_any qa6 fun p1 J1 s1 q1 => ?_⟩
  rw [cut_take (by show kn ≤ 3; omega)] at q1
  refine ⟨_, rfl, (by show 1 ≤ sizeLine; decide), fun t ht => ?_⟩
  have s2' := same_new (o := .tup [nv]) ht
  have e2' : (upd J1 t (.tup [nv])) t = some (.tup [nv]) := upd_same
  generalize upd J1 t (.tup [nv]) = J2 at s2' e2'
  refine catA_any (Tp.same s2' _ _ q1) (.inl (.inl e2')) (by rw [List.length_take]; show min kn 3 + 1 ≤ sizeLine; exact small (by omega)) fun p2 J3 s3' q3 => ?_
  have s63 := s1.trans (s2'.trans s3')
  refine ⟨_, rfl, _, rfl, _, _, rfl, rfl, _, rfl, ?_⟩
  refine slA_any (lo := some ((kn : Int) + 1)) (hi := none) (Tp.same s63 _ _ qa6) fun p3 J4 s4' q4 => ?_
  rw [show (kn : Int) + 1 = ((kn + 1 : Nat) : Int) by omega, cut_fromA] at q4
  refine catA_any (Tp.same s4' _ _ q3) q4 (by rw [List.length_append, List.length_take, List.length_drop]; show min kn 3 + 1 + (3 - (kn + 1)) ≤ sizeLine; exact small (by omega)) fun p4 J5 s5' q5 => ?_
  have s65 := s63.trans (s4'.trans s5')
  have g5 := g6.trans (gr_same g6.fl s65)
  have t25' : Tp K H2 J5 := g5.tp fl2
  have fnv5 := fnv.keep (Tp.same s65)
  have h1' := h1.keep t25'
  have h2' := h2.keep t25'
  have h3' := h3.keep t25'
  have r5 : DpAll K J5 [v1, v2, v3] [k1, k2, k3] := .cons h1'.2 (.cons h2'.2 (.cons h3'.2 .nil))
  have f5 : flat.flats [k1, k2, k3] = true := by simp [flat.flats, ff.1, ff.2.1, ff.2.2]
  refine q (.ref p4) (.tuple (([k1, k2, k3].take kn ++ [nd]) ++ [k1, k2, k3].drop (kn + 1))) J5 (g2.trans g5) ⟨flats_app _ _ (flats_app _ _ (flats_take kn _ f5) (by simp [flat.flats, fnv5.1])) (flats_drop (kn + 1) _ f5), .tup q5 (dpall_app (dpall_app (dpall_take kn r5) (.cons fnv5.2 .nil)) (dpall_drop (kn + 1) r5))⟩ ?_
  have zt : dsz.dszs ([k1, k2, k3].take kn) + (dsz (.tuple es) + dsz.dszs ([k1, k2, k3].drop (kn + 1))) = dsz.dszs [k1, k2, k3] := by
    rcases (show kn = 0 ∨ kn = 1 ∨ kn = 2 by omega) with z | z | z <;> subst z
    · have e := Option.some.inj edk
      subst e
      simp [dsz.dszs]
    · have e := Option.some.inj edk
      subst e
      simp [dsz.dszs]
    · have e := Option.some.inj edk
      subst e
      simp [dsz.dszs]
      omega
  simp only [dsz, dsz.dszs, dszs_app] at zt znv ⊢
  omega
end
end Lm

set_option Elab.async false
set_option linter.all false
set_option maxRecDepth 100000
set_option maxHeartbeats 2000000
namespace Lm
open PySem PySem.Spec PyProof.Rows L2 LmR RZ
theorem CalX.calm {P : Program} {w : World} {K : PySem.W.Frag} {mg : Str → Option Value} {base : Heap} {k : Nat} {x : Str} {ps : List Str} {sp : Sp} (c : CalX P w K mg base k x ps sp) : Cal P w K mg base k x ps (fun vs H Q _ => sp vs H Q fun _ _ _ => False) := by
  obtain ⟨f, fd, F, g, kp, b⟩ := c
  refine ⟨f, fd, ⟨fun vs H Q E z => F.len _ _ _ _ z, fun A outer s H args us vs Q E r e bb v z => codeAny_mono (F.run A outer s H args us vs Q _ r e bb v z) fun res s' h => ?_⟩, g, kp, b⟩
  cases res with
  | ok c => cases c <;> exact h
  | error e =>
    obtain ⟨_, _, _, _, _, _, _, _, _, _, _, _, hE⟩ := h
    exact hE.elim
def toldStock : PyData := .tuple [.tuple [.tuple [.int 0, .int 1], .tuple [.int 1, .int 1]], .tuple [.tuple [.int 1, .int 1], .tuple [.int (-1), .int 1]], .tuple [.tuple [.str "least", .int 1], .tuple [.str "most", .int 1], .tuple [.str "atmost", .int 1], .tuple [.str "if", .int 1]]]
structure StockG (K : PySem.W.Frag) (mg : Str → Option Value) (a : Addr) : Prop where
  g : mg "STOCK" = some (.ref a)
  t : ∀ H, Dp K H (.ref a) toldStock
def zb : Nat → Nat
  | 0 => 40
  | n + 1 => 2 * zb n + 10
theorem pdat_sz : ∀ ps : List (PyData × Int), (∀ p ∈ ps, dsz p.1 = 1) → dsz.dszs (pdat ps) = 3 * ps.length
  | [], _ => rfl
  | p :: ps, h => by
    have h1 := h p List.mem_cons_self
    have h2 := pdat_sz ps fun q hq => h q (List.mem_cons_of_mem _ hq)
    show dsz (.tuple [p.1, .int p.2]) + dsz.dszs (pdat ps) = _
    rw [h2, List.length_cons]
    simp only [dsz, dsz.dszs, h1]
    omega
theorem one_sz {α : Type} {f : α → PyData} {ps : List (PyData × Int)} {ns : List α} (e : ps.map (·.1) = ns.map f) (hf : ∀ x, dsz (f x) = 1) : ∀ p ∈ ps, dsz p.1 = 1 := fun p hp => by
  have z : p.1 ∈ ps.map (·.1) := List.mem_map.mpr ⟨p, hp, rfl⟩
  rw [e] at z
  obtain ⟨x, _, y⟩ := List.mem_map.mp z
  rw [← y]
  exact hf x
theorem stk_sz {ps1 ps2 ps3 : List (PyData × Int)} (h : StkOk ps1 ps2 ps3) : dsz (stkD ps1 ps2 ps3) ≤ 40 := by
  obtain ⟨n1, e1, l1, _⟩ := h.k1
  obtain ⟨n2, e2, l2, _⟩ := h.k2
  obtain ⟨n3, e3, l3, _⟩ := h.k3
  have z1 := pdat_sz ps1 (one_sz e1 fun _ => rfl)
  have z2 := pdat_sz ps2 (one_sz e2 fun _ => rfl)
  have z3 := pdat_sz ps3 (one_sz e3 fun _ => rfl)
  have y1 := congrArg List.length e1
  have y2 := congrArg List.length e2
  have y3 := congrArg List.length e3
  rw [List.length_map, List.length_map] at y1 y2 y3
  unfold stkD
  simp only [dsz, dsz.dszs, z1, z2, z3]
  omega
theorem due_sz (d : PyData) : dsz (dueD d) ≤ 90000 := by
  unfold dueD
  cases stockD d with
  | none => decide
  | some x => show 4 ≤ 90000; decide
theorem told_stock : stockD toldStock = none := by decide +kernel
theorem told_flat : flat toldStock = true := by decide +kernel
theorem ex_seq {K : PySem.W.Frag} {H H' : Hp} {f a : Addr} {xs : List V} (hf : H f = none) (ex : Ex [f] H H') (h : SqL K H a xs) : SqL K H' a xs := by
  rcases h with (h | ⟨o, h⟩) | h
  · exact .inl (.inl (ex _ _ h (by simp [ne_of_none h hf])))
  · exact .inl (.inr ⟨o, ex _ _ h (by simp [ne_of_none h hf])⟩)
  · exact .inr h
section
variable {P : Program} {w : World} {K : PySem.W.Frag} {mg : Str → Option Value} {base : Heap}
abbrev s_law : Stmt := topS 41
theorem sc_law : FnScope ["_law_script", "_law_k", "_law_flow_here", "_law_stock_here", "_law_turn", "_law_other", "_law_spoil", "_law_one"] ["_law_script"] (defScope s_law) := ⟨rfl, rfl, rfl, by decide +kernel, rfl, by decide +kernel, by decide +kernel⟩
def spLaw (K : PySem.W.Frag) : Sp := fun vs H Q _ => ∃ (a : Addr) (ns : List Int), vs = [.ref a] ∧ SqL K H a (ns.map V.int) ∧ ns.length ≤ 63 ∧ ∀ H', Q (.bl true) H'
theorem ok_law {CS aS : Addr} (B : Bt mg) (SG : StockG K mg aS) (C_l_flow : Cal P w K mg base 2 "_law_flow" ["_law_script", "_law_k"] (spFlow K)) (C_l_draw : Cal P w K mg base 1 "_law_draw" ["_law_flow_here", "_law_many"] (spDraw)) (C_l_stock : Cal P w K mg base 4 "_law_stock" ["_law_flow_here"] (spStock K)) (C_l_spoilt : Cal P w K mg base 3 "_law_spoilt" ["_law_flow_here", "_law_stock_here"] (spSp K)) (C_l_stock_told : Cal P w K mg base 6 "_law_stock_told" ["_law_stock_here"] (spLD K)) (C_l_stock_due : Cal P w K mg base 2 "_law_stock_due" ["_law_stock_here"] (spLD K)) (C_l_alike : Cal P w K mg base 1 "_law_alike" ["_law_found", "_law_due"] (spAlike K)) (CX_look : CalX P w K mg base 5 "look_stock" ["stock"] (spLookS K CS)) {f : Addr} {fd : FuncData} (F : Fun K "law" "law" s_law f fd) : FnOk P w K mg base CX0 10 f fd ["_law_script"] (spLaw K) := by
  refine F.ok sc_law (fun vs H Q E h => ?_) (fun cdv A outer s H vs Q E hr h => ?_)
  · obtain ⟨a, ns, rfl, _⟩ := h
    rfl
  obtain ⟨a, ns, rfl, hS, h63, q⟩ := h
  have C_l_flow := C_l_flow.mono (k := 9) (by decide)
  have C_l_draw := C_l_draw.mono (k := 9) (by decide)
  have C_l_stock := C_l_stock.mono (k := 9) (by decide)
  have C_l_spoilt := C_l_spoilt.mono (k := 9) (by decide)
  have C_l_stock_told := C_l_stock_told.mono (k := 9) (by decide)
  have C_l_stock_due := C_l_stock_due.mono (k := 9) (by decide)
  have C_l_alike := C_l_alike.mono (k := 9) (by decide)
  have C_look_stock := CX_look.calm.mono (k := 9) (by decide)
  have hSTOCK := SG.g
  have hr' : Room 9 _ := hr
  refine ⟨_, (pss_cons (ps_if (pt_cmpR op_notBl (pe_cal C_look_stock hr' (by rfl) (pa_cons (pe_glob (v := .ref _) (by rfl) hSTOCK rfl) pa_nil)) pe_bl (nomark _))
        (pss_one (ps_ret pe_bl))
        pss_nil)
      (pss_cons (ps_for PassesOwn.never rfl (pi_range1 (by rfl) B.range (pa_cons (pe_callB (call_max2 rfl) (by rfl) B.max PyProof.Rows.boot_max (pa_cons pe_int (pa_cons (pe_callB call_len_seq (by rfl) B.len PySem.boot_len (pa_cons (pe_slice sl_list (pv 0) po_none (po_some pe_int)) pa_nil)) pa_nil))) pa_nil)) (pg_name (i := 1) sc_law.nd rfl (.inl rfl))
        (pss_cons (ps_set (i := 2) sc_law.nd rfl (.inl rfl) (pe_cal C_l_flow hr' (by rfl) (pa_cons (pv 0) (pa_cons (pv 1) pa_nil))))
      (pss_cons (ps_set (i := 3) sc_law.nd rfl (.inl rfl) (pe_cal C_l_stock hr' (by rfl) (pa_cons (pv 2) pa_nil)))
      (pss_one (ps_for PassesOwn.never rfl (pi_range1 (by rfl) B.range (pa_cons pe_int pa_nil)) (pg_name (i := 4) sc_law.nd rfl (.inl rfl))
        (pss_cons (ps_set (i := 5) sc_law.nd rfl (.inl rfl) (pv 3))
      (pss_cons (ps_for PassesOwn.never rfl (pi_range1 (by rfl) B.range (pa_cons (pe_op op_add pe_int (pe_cal C_l_draw hr' (by rfl) (pa_cons (pv 2) (pa_cons pe_int pa_nil)))) pa_nil)) (pg_name (i := 6) sc_law.nd rfl (.inl rfl))
        (pss_one (ps_set (i := 5) sc_law.nd rfl (.inl rfl) (pe_cal C_l_spoilt hr' (by rfl) (pa_cons (pv 2) (pa_cons (pv 5) pa_nil))))))
      (pss_one (ps_for PassesOwn.never rfl (pi_tup (pe_tup (pa_cons (pv 3) (pa_cons (pv 5) pa_nil)))) (pg_name (i := 7) sc_law.nd rfl (.inl rfl))
        (pss_one (ps_if (pt_not (pt_val (pe_cal C_l_alike hr' (by rfl) (pa_cons (pe_cal C_l_stock_told hr' (by rfl) (pa_cons (pv 7) pa_nil)) (pa_cons (pe_cal C_l_stock_due hr' (by rfl) (pa_cons (pv 7) pa_nil)) pa_nil)))))
        (pss_one (ps_ret pe_bl))
        pss_nil)))))))))))
      (pss_one (ps_ret pe_bl)))), ?_⟩
  refine ⟨.ref aS, toldStock, rfl, ⟨told_flat, SG.t H⟩, by decide +kernel, fun _ H0 s0 => ?_, fun x n e => absurd (told_stock.symm.trans e) (fun z => nomatch z)⟩
  refine ⟨_, _, rfl, rfl, _, rfl, ?_⟩
  refine ⟨_, rfl, 6, rfl, a, _, rfl, s0.seq hS, fun p0 hp0 => ?_⟩
  have sA : Same H (upd H0 p0 (.lst (cutV (ns.map V.int) none (some 6)))) := s0.trans (same_new hp0)
  have lc : (cutV (ns.map V.int) none (some 6)).length ≤ 63 := by
    unfold cutV
    rw [List.length_take, List.length_drop, List.length_map]
    omega
  have hS1 := sA.seq hS
  generalize cutV (ns.map V.int) none (some 6) = cs at lc sA hS1
  refine ⟨p0, cs, rfl, .inl (SqL.of upd_same), 2, _, rfl, ?_⟩
  obtain ⟨m, em, m0, m63⟩ : ∃ m : Int, (if ((cs.length : Nat) : Int) > 2 then ((cs.length : Nat) : Int) else 2) = m ∧ 0 ≤ m ∧ m ≤ 63 := by
    refine ⟨_, rfl, ?_, ?_⟩
    · split <;> omega
    · split <;> omega
  show ∃ n : Int, [V.int (if ((cs.length : Nat) : Int) > 2 then ((cs.length : Nat) : Int) else 2)] = [V.int n] ∧ _
  rw [em]
  generalize upd H0 p0 (.lst cs) = H1 at sA hS1
  refine ⟨m, rfl, by omega, by omega, for_range (lo := 0) (n := m.toNat) (fun i σ' H' => (∃ y1 y2 y3 y4 y5 y6 y7 : Option V, σ' = [some (.ref a), y1, y2, y3, y4, y5, y6, y7]) ∧ SqL K H' a (ns.map V.int)) ⟨⟨_, _, _, _, _, _, _, rfl⟩, hS1⟩ ?_ ?_⟩
  · rintro i σ' H' hi ⟨⟨y1, y2, y3, y4, y5, y6, y7, rfl⟩, hS'⟩
    refine ⟨_, rfl, _, rfl, a, ns, _, rfl, hS', by omega, by omega, fun f o hf fl => ?_⟩
    have s1 : Same H' (upd H' f o) := same_new hf
    generalize upd H' f o = H2 at s1 fl
    refine ⟨_, rfl, f, rfl, fl, fun t ps1 ps2 ps3 H3 g3 ht hok => ?_⟩
    have ex3 : Ex [f] H' H3 := fun b o z nb => g3.ex b o (s1 _ _ z) nb
    have fl3 := g3.fl
    have sz := stk_sz hok
    generalize stkD ps1 ps2 ps3 = dS at ht sz
    clear g3 s1 fl hok
    refine ⟨5, rfl, by decide, by decide, for_range (lo := 0) (n := 5) (fun i' σ' H' => (∃ z4 z5 z6 z7 : Option V, σ' = [some (.ref a), some (.int (0 + (i : Int))), some (.ref f), some (.ref t), z4, z5, z6, z7]) ∧ Gr [] f H3 H') ⟨⟨_, _, _, _, rfl⟩, gr_same fl3 (Same.refl _)⟩ ?_ ?_⟩
    · rintro i' σ' H4 hi' ⟨⟨z4, z5, z6, z7, rfl⟩, g4⟩
      refine ⟨_, rfl, ?_⟩
      refine ⟨_, rfl, f, 3, rfl, g4.fl, by decide, by decide, fun n H5 n0 n1 dr5 => ⟨_, _, rfl, rfl, 1 + n, rfl, by omega, by omega, ?_⟩⟩
      have g5 := g4.trans dr5.gr
      refine for_range (lo := 0) (n := (1 + n).toNat) (fun j σ' H' => (∃ (u : V) (d : PyData) (z6 : Option V), σ' = [some (.ref a), some (.int (0 + (i : Int))), some (.ref f), some (.ref t), some (.int (0 + (i' : Int))), some u, z6, z7] ∧ Fd K H' u d ∧ dsz d ≤ zb j) ∧ Gr [] f H3 H') ⟨⟨_, dS, _, rfl, ht.keep (g5.tp fl3), sz⟩, g5⟩ ?_ ?_
      · rintro j σ' H6 hj ⟨⟨u, d, z6, rfl, fu, zu⟩, g6⟩
        have j3 : j < 3 := by omega
        have zj : zb j ≤ 490 := by
          rcases (show j = 0 ∨ j = 1 ∨ j = 2 by omega) with z | z | z <;> subst z <;> decide
        refine ⟨_, rfl, _, rfl, f, u, d, rfl, g6.fl, fu, by omega, fun u' d' H7 g7 fu' zu' => ?_⟩
        exact ⟨⟨u', d', _, rfl, fu', by show dsz d' ≤ 2 * zb j + 10; omega⟩, g6.trans g7⟩
      rintro σ' H6 ⟨⟨u, d, z6, rfl, fu, zu⟩, g6⟩
      have zd : dsz d ≤ 1000 := by
        have : zb (1 + n).toNat ≤ 1000 := by
          rcases (show n = 0 ∨ n = 1 ∨ n = 2 by omega) with z | z | z <;> subst z <;> decide
        omega
      refine ⟨_, rfl, _, rfl, (by show 2 ≤ sizeLine; decide), fun tt htt => ?_⟩
      have s7 := same_new (o := .tup [.ref t, u]) htt
      have e7 : (upd H6 tt (.tup [.ref t, u])) tt = some (.tup [.ref t, u]) := upd_same
      generalize upd H6 tt (.tup [.ref t, u]) = H7 at s7 e7
      have both : ∀ x ∈ [V.ref t, u], ∃ d, Fd K H7 x d ∧ dsz d ≤ 1000 := fun x hx => by
        simp only [List.mem_cons, List.not_mem_nil, or_false] at hx
        rcases hx with h | h
        · subst h
          exact ⟨dS, (ht.keep (g6.tp fl3)).keep (Tp.same s7), by omega⟩
        · subst h
          exact ⟨d, fu.keep (Tp.same s7), zd⟩
      refine ⟨tt, rfl, ⟨_, .inl (.inl e7)⟩, for_tup (K := K) (a := tt) (xs := [V.ref t, u]) (fun j σ' H' => (∃ x7 : Option V, σ' = [some (.ref a), some (.int (0 + (i : Int))), some (.ref f), some (.ref t), some (.int (0 + (i' : Int))), some u, z6, x7]) ∧ Same H7 H') ?_ ?_ ?_ ?_⟩
      · exact ⟨⟨_, rfl⟩, Same.refl _⟩
      · rintro j σ' H' _ ⟨_, s'⟩
        exact .inl (.inl (s' _ _ e7))
      · rintro j x σ' H8 hx ⟨⟨x7, rfl⟩, s8⟩
        obtain ⟨dx, fx, zx⟩ := both x (List.mem_of_getElem? hx)
        have fx8 := fx.keep (Tp.same s8)
        refine ⟨_, rfl, x, dx, rfl, fx8, zx, fun u1 H9 s9 h9 => ⟨_, rfl, x, dx, rfl, fx8.keep (Tp.same s9), zx, fun u2 Ha sa ha => ?_⟩⟩
        refine ⟨u1, u2, dueD dx, rfl, h9.keep (Tp.same sa), ha, due_sz dx, fun Hb sb => ⟨_, rfl, ⟨_, rfl⟩, ?_⟩⟩
        exact s8.trans (s9.trans (sa.trans sb))
      · rintro σ' H8 ⟨⟨x7, rfl⟩, s8⟩
        exact ⟨⟨_, _, _, _, rfl⟩, g6.trans (gr_same g6.fl (s7.trans s8))⟩
    · rintro σ' H4 ⟨⟨z4, z5, z6, z7, rfl⟩, g4⟩
      exact ⟨⟨_, _, _, _, _, _, _, rfl⟩, ex_seq hf (fun b o z nb => g4.ex b o (ex3 b o z nb) nb) hS'⟩
  · rintro σ' H' _
    exact q _
end
end Lm

set_option Elab.async false
set_option linter.all false
set_option maxRecDepth 100000
set_option maxHeartbeats 2000000
namespace Lm
open PySem PySem.Spec PyProof.Rows L2 LmR
theorem defAt_mk {K : PySem.W.Frag} {h : Heap} {mg : Str → Option Value} {x : Str} {st : Stmt} {ps : List Str} {f : Addr} {oc : Value} {od an : Option Addr} {osl : Array (Option Value)} {kV doc pm cdv ct : Value} (X : K.In h) (G : h.Ns mainGlobals mg)
    (a : PySem.W.nsIn K mainGlobals x = some (some (.ref f))) (l : K.lookup f = some ⟨oc, od, .func (PySem.W.fnOf x x (defArgs st) (defBody st) (defScope st) .none kV doc pm an cdv ct), osl⟩) (c : PySem.W.codeIn K cdv x = true) (k : PySem.W.keepIn K (.ref f) = true)
    (hb : ∀ (kV doc pm : Value) (an : Option Addr) (cdv ct : Value) (us : List Value), us.length = ps.length → bindArgs (PySem.W.fnOf x x (defArgs st) (defBody st) (defScope st) .none kV doc pm an cdv ct) ⟨us, []⟩ = pure (ps.zip us)) : DefAt K mg x st ps :=
  ⟨f, _, fun_mk l c k, (fun_mk l c k).binds hb, PySem.W.mg_of X G a⟩
theorem all_mk {l : PySem.W.OpenLaw} {w : World} {K : PySem.W.Frag} {h : Heap} {mg : Str → Option Value} {fa : Addr} (X : K.In h) (G : h.Ns mainGlobals mg) (hfa : mg "law" = some (.ref fa))
    {f0 : Addr} {od0 an0 : Option Addr} {sl0 : Array (Option Value)} {oc0 kV0 dc0 pm0 cd0 ct0 : Value} {f1 : Addr} {od1 an1 : Option Addr} {sl1 : Array (Option Value)} {oc1 kV1 dc1 pm1 cd1 ct1 : Value} {f2 : Addr} {od2 an2 : Option Addr} {sl2 : Array (Option Value)} {oc2 kV2 dc2 pm2 cd2 ct2 : Value} {f3 : Addr} {od3 an3 : Option Addr} {sl3 : Array (Option Value)} {oc3 kV3 dc3 pm3 cd3 ct3 : Value} {f4 : Addr} {od4 an4 : Option Addr} {sl4 : Array (Option Value)} {oc4 kV4 dc4 pm4 cd4 ct4 : Value} {f5 : Addr} {od5 an5 : Option Addr} {sl5 : Array (Option Value)} {oc5 kV5 dc5 pm5 cd5 ct5 : Value} {f6 : Addr} {od6 an6 : Option Addr} {sl6 : Array (Option Value)} {oc6 kV6 dc6 pm6 cd6 ct6 : Value} {f7 : Addr} {od7 an7 : Option Addr} {sl7 : Array (Option Value)} {oc7 kV7 dc7 pm7 cd7 ct7 : Value} {f8 : Addr} {od8 an8 : Option Addr} {sl8 : Array (Option Value)} {oc8 kV8 dc8 pm8 cd8 ct8 : Value} {f9 : Addr} {od9 an9 : Option Addr} {sl9 : Array (Option Value)} {oc9 kV9 dc9 pm9 cd9 ct9 : Value} {f10 : Addr} {od10 an10 : Option Addr} {sl10 : Array (Option Value)} {oc10 kV10 dc10 pm10 cd10 ct10 : Value} {f11 : Addr} {od11 an11 : Option Addr} {sl11 : Array (Option Value)} {oc11 kV11 dc11 pm11 cd11 ct11 : Value} {f12 : Addr} {od12 an12 : Option Addr} {sl12 : Array (Option Value)} {oc12 kV12 dc12 pm12 cd12 ct12 : Value} {f13 : Addr} {od13 an13 : Option Addr} {sl13 : Array (Option Value)} {oc13 kV13 dc13 pm13 cd13 ct13 : Value} {f14 : Addr} {od14 an14 : Option Addr} {sl14 : Array (Option Value)} {oc14 kV14 dc14 pm14 cd14 ct14 : Value} {f15 : Addr} {od15 an15 : Option Addr} {sl15 : Array (Option Value)} {oc15 kV15 dc15 pm15 cd15 ct15 : Value} {f16 : Addr} {od16 an16 : Option Addr} {sl16 : Array (Option Value)} {oc16 kV16 dc16 pm16 cd16 ct16 : Value} {f17 : Addr} {od17 an17 : Option Addr} {sl17 : Array (Option Value)} {oc17 kV17 dc17 pm17 cd17 ct17 : Value} {f18 : Addr} {od18 an18 : Option Addr} {sl18 : Array (Option Value)} {oc18 kV18 dc18 pm18 cd18 ct18 : Value} {f19 : Addr} {od19 an19 : Option Addr} {sl19 : Array (Option Value)} {oc19 kV19 dc19 pm19 cd19 ct19 : Value} {f20 : Addr} {od20 an20 : Option Addr} {sl20 : Array (Option Value)} {oc20 kV20 dc20 pm20 cd20 ct20 : Value} {f21 : Addr} {od21 an21 : Option Addr} {sl21 : Array (Option Value)} {oc21 kV21 dc21 pm21 cd21 ct21 : Value} {c_NoStock i_NoStock u_NoStock N_NoStock : Addr} {nm_NoStock qn_NoStock : Str} {bs_NoStock sub_NoStock : List Value} {sn_NoStock : List Str} {ab_NoStock : Bool} {col_NoStock : Option Bool} {dd_NoStock od_NoStock an_NoStock : Option Addr} {m0_NoStock m1_NoStock m2_NoStock m3_NoStock m5_NoStock : Option Value} {osl_NoStock : Array (Option Value)} {oc_NoStock kV_NoStock doc_NoStock pm_NoStock cdv_NoStock ct_NoStock : Value} {w0 w1 w2 w3 w4 w5 w6 w7 w8 w9 w10 w11 : Addr} {aPT0 : Addr} {aPTd0 : Option Addr} {aPTn0 : Nat} {aPTs0 : Array (Option Value)} {aPTt0_0 aPTt0_1 aPTt0_2 : Tok} {aWD0 : Addr} {aWDd0 : Option Addr} {aWDn0 : Nat} {aWDs0 : Array (Option Value)} {aWDt0_0 aWDt0_1 aWDt0_2 aWDt0_3 aWDt0_4 aWDt0_5 aWDt0_6 aWDt0_7 aWDt0_8 : Tok} {aSK2 : Addr} {aSKd2 : Option Addr} {aSKn2 : Nat} {aSKs2 : Array (Option Value)} {aSKt2_0 aSKt2_1 : Tok} {aSK3 : Addr} {aSKd3 : Option Addr} {aSKn3 : Nat} {aSKs3 : Array (Option Value)} {aSKt3_0 aSKt3_1 : Tok} {aSK1 : Addr} {aSKd1 : Option Addr} {aSKn1 : Nat} {aSKs1 : Array (Option Value)} {aSK5 : Addr} {aSKd5 : Option Addr} {aSKn5 : Nat} {aSKs5 : Array (Option Value)} {aSKt5_0 aSKt5_1 : Tok} {aSK6 : Addr} {aSKd6 : Option Addr} {aSKn6 : Nat} {aSKs6 : Array (Option Value)} {aSKt6_0 aSKt6_1 : Tok} {aSK4 : Addr} {aSKd4 : Option Addr} {aSKn4 : Nat} {aSKs4 : Array (Option Value)} {aSK8 : Addr} {aSKd8 : Option Addr} {aSKn8 : Nat} {aSKs8 : Array (Option Value)} {aSKt8_0 aSKt8_1 : Tok} {aSK9 : Addr} {aSKd9 : Option Addr} {aSKn9 : Nat} {aSKs9 : Array (Option Value)} {aSKt9_0 aSKt9_1 : Tok} {aSK10 : Addr} {aSKd10 : Option Addr} {aSKn10 : Nat} {aSKs10 : Array (Option Value)} {aSKt10_0 aSKt10_1 : Tok} {aSK11 : Addr} {aSKd11 : Option Addr} {aSKn11 : Nat} {aSKs11 : Array (Option Value)} {aSKt11_0 aSKt11_1 : Tok} {aSK7 : Addr} {aSKd7 : Option Addr} {aSKn7 : Nat} {aSKs7 : Array (Option Value)} {aSK0 : Addr} {aSKd0 : Option Addr} {aSKn0 : Nat} {aSKs0 : Array (Option Value)}
    (a0 : PySem.W.nsIn K mainGlobals "is_whole" = some (some (.ref f0))) (l0 : K.lookup f0 = some ⟨oc0, od0, .func (PySem.W.fnOf "is_whole" "is_whole" (defArgs s_is_whole) (defBody s_is_whole) (defScope s_is_whole) .none kV0 dc0 pm0 an0 cd0 ct0), sl0⟩) (c0 : PySem.W.codeIn K cd0 "is_whole" = true) (k0 : PySem.W.keepIn K (.ref f0) = true)
    (a1 : PySem.W.nsIn K mainGlobals "look_stock" = some (some (.ref f1))) (l1 : K.lookup f1 = some ⟨oc1, od1, .func (PySem.W.fnOf "look_stock" "look_stock" (defArgs s_look_stock) (defBody s_look_stock) (defScope s_look_stock) .none kV1 dc1 pm1 an1 cd1 ct1), sl1⟩) (c1 : PySem.W.codeIn K cd1 "look_stock" = true) (k1 : PySem.W.keepIn K (.ref f1) = true)
    (a2 : PySem.W.nsIn K mainGlobals "is_triple" = some (some (.ref f2))) (l2 : K.lookup f2 = some ⟨oc2, od2, .func (PySem.W.fnOf "is_triple" "is_triple" (defArgs s_is_triple) (defBody s_is_triple) (defScope s_is_triple) .none kV2 dc2 pm2 an2 cd2 ct2), sl2⟩) (c2 : PySem.W.codeIn K cd2 "is_triple" = true) (k2 : PySem.W.keepIn K (.ref f2) = true)
    (a3 : PySem.W.nsIn K mainGlobals "are_pairs" = some (some (.ref f3))) (l3 : K.lookup f3 = some ⟨oc3, od3, .func (PySem.W.fnOf "are_pairs" "are_pairs" (defArgs s_are_pairs) (defBody s_are_pairs) (defScope s_are_pairs) .none kV3 dc3 pm3 an3 cd3 ct3), sl3⟩) (c3 : PySem.W.codeIn K cd3 "are_pairs" = true) (k3 : PySem.W.keepIn K (.ref f3) = true)
    (a4 : PySem.W.nsIn K mainGlobals "is_pair" = some (some (.ref f4))) (l4 : K.lookup f4 = some ⟨oc4, od4, .func (PySem.W.fnOf "is_pair" "is_pair" (defArgs s_is_pair) (defBody s_is_pair) (defScope s_is_pair) .none kV4 dc4 pm4 an4 cd4 ct4), sl4⟩) (c4 : PySem.W.codeIn K cd4 "is_pair" = true) (k4 : PySem.W.keepIn K (.ref f4) = true)
    (a5 : PySem.W.nsIn K mainGlobals "first_amiss" = some (some (.ref f5))) (l5 : K.lookup f5 = some ⟨oc5, od5, .func (PySem.W.fnOf "first_amiss" "first_amiss" (defArgs s_first_amiss) (defBody s_first_amiss) (defScope s_first_amiss) .none kV5 dc5 pm5 an5 cd5 ct5), sl5⟩) (c5 : PySem.W.codeIn K cd5 "first_amiss" = true) (k5 : PySem.W.keepIn K (.ref f5) = true)
    (a6 : PySem.W.nsIn K mainGlobals "may_stand" = some (some (.ref f6))) (l6 : K.lookup f6 = some ⟨oc6, od6, .func (PySem.W.fnOf "may_stand" "may_stand" (defArgs s_may_stand) (defBody s_may_stand) (defScope s_may_stand) .none kV6 dc6 pm6 an6 cd6 ct6), sl6⟩) (c6 : PySem.W.codeIn K cd6 "may_stand" = true) (k6 : PySem.W.keepIn K (.ref f6) = true)
    (a7 : PySem.W.nsIn K mainGlobals "_law_cell" = some (some (.ref f7))) (l7 : K.lookup f7 = some ⟨oc7, od7, .func (PySem.W.fnOf "_law_cell" "_law_cell" (defArgs s_l_cell) (defBody s_l_cell) (defScope s_l_cell) .none kV7 dc7 pm7 an7 cd7 ct7), sl7⟩) (c7 : PySem.W.codeIn K cd7 "_law_cell" = true) (k7 : PySem.W.keepIn K (.ref f7) = true)
    (a8 : PySem.W.nsIn K mainGlobals "_law_flow" = some (some (.ref f8))) (l8 : K.lookup f8 = some ⟨oc8, od8, .func (PySem.W.fnOf "_law_flow" "_law_flow" (defArgs s_l_flow) (defBody s_l_flow) (defScope s_l_flow) .none kV8 dc8 pm8 an8 cd8 ct8), sl8⟩) (c8 : PySem.W.codeIn K cd8 "_law_flow" = true) (k8 : PySem.W.keepIn K (.ref f8) = true)
    (a9 : PySem.W.nsIn K mainGlobals "_law_draw" = some (some (.ref f9))) (l9 : K.lookup f9 = some ⟨oc9, od9, .func (PySem.W.fnOf "_law_draw" "_law_draw" (defArgs s_l_draw) (defBody s_l_draw) (defScope s_l_draw) .none kV9 dc9 pm9 an9 cd9 ct9), sl9⟩) (c9 : PySem.W.codeIn K cd9 "_law_draw" = true) (k9 : PySem.W.keepIn K (.ref f9) = true)
    (a10 : PySem.W.nsIn K mainGlobals "_law_numeral" = some (some (.ref f10))) (l10 : K.lookup f10 = some ⟨oc10, od10, .func (PySem.W.fnOf "_law_numeral" "_law_numeral" (defArgs s_l_numeral) (defBody s_l_numeral) (defScope s_l_numeral) .none kV10 dc10 pm10 an10 cd10 ct10), sl10⟩) (c10 : PySem.W.codeIn K cd10 "_law_numeral" = true) (k10 : PySem.W.keepIn K (.ref f10) = true)
    (a11 : PySem.W.nsIn K mainGlobals "_law_alike" = some (some (.ref f11))) (l11 : K.lookup f11 = some ⟨oc11, od11, .func (PySem.W.fnOf "_law_alike" "_law_alike" (defArgs s_l_alike) (defBody s_l_alike) (defScope s_l_alike) .none kV11 dc11 pm11 an11 cd11 ct11), sl11⟩) (c11 : PySem.W.codeIn K cd11 "_law_alike" = true) (k11 : PySem.W.keepIn K (.ref f11) = true)
    (a12 : PySem.W.nsIn K mainGlobals "_law_sorts" = some (some (.ref f12))) (l12 : K.lookup f12 = some ⟨oc12, od12, .func (PySem.W.fnOf "_law_sorts" "_law_sorts" (defArgs s_l_sorts) (defBody s_l_sorts) (defScope s_l_sorts) .none kV12 dc12 pm12 an12 cd12 ct12), sl12⟩) (c12 : PySem.W.codeIn K cd12 "_law_sorts" = true) (k12 : PySem.W.keepIn K (.ref f12) = true)
    (a13 : PySem.W.nsIn K mainGlobals "_law_pairs" = some (some (.ref f13))) (l13 : K.lookup f13 = some ⟨oc13, od13, .func (PySem.W.fnOf "_law_pairs" "_law_pairs" (defArgs s_l_pairs) (defBody s_l_pairs) (defScope s_l_pairs) .none kV13 dc13 pm13 an13 cd13 ct13), sl13⟩) (c13 : PySem.W.codeIn K cd13 "_law_pairs" = true) (k13 : PySem.W.keepIn K (.ref f13) = true)
    (a14 : PySem.W.nsIn K mainGlobals "_law_unlike" = some (some (.ref f14))) (l14 : K.lookup f14 = some ⟨oc14, od14, .func (PySem.W.fnOf "_law_unlike" "_law_unlike" (defArgs s_l_unlike) (defBody s_l_unlike) (defScope s_l_unlike) .none kV14 dc14 pm14 an14 cd14 ct14), sl14⟩) (c14 : PySem.W.codeIn K cd14 "_law_unlike" = true) (k14 : PySem.W.keepIn K (.ref f14) = true)
    (a15 : PySem.W.nsIn K mainGlobals "_law_stock" = some (some (.ref f15))) (l15 : K.lookup f15 = some ⟨oc15, od15, .func (PySem.W.fnOf "_law_stock" "_law_stock" (defArgs s_l_stock) (defBody s_l_stock) (defScope s_l_stock) .none kV15 dc15 pm15 an15 cd15 ct15), sl15⟩) (c15 : PySem.W.codeIn K cd15 "_law_stock" = true) (k15 : PySem.W.keepIn K (.ref f15) = true)
    (a16 : PySem.W.nsIn K mainGlobals "_law_is_pairs" = some (some (.ref f16))) (l16 : K.lookup f16 = some ⟨oc16, od16, .func (PySem.W.fnOf "_law_is_pairs" "_law_is_pairs" (defArgs s_l_is_pairs) (defBody s_l_is_pairs) (defScope s_l_is_pairs) .none kV16 dc16 pm16 an16 cd16 ct16), sl16⟩) (c16 : PySem.W.codeIn K cd16 "_law_is_pairs" = true) (k16 : PySem.W.keepIn K (.ref f16) = true)
    (a17 : PySem.W.nsIn K mainGlobals "_law_stock_due" = some (some (.ref f17))) (l17 : K.lookup f17 = some ⟨oc17, od17, .func (PySem.W.fnOf "_law_stock_due" "_law_stock_due" (defArgs s_l_stock_due) (defBody s_l_stock_due) (defScope s_l_stock_due) .none kV17 dc17 pm17 an17 cd17 ct17), sl17⟩) (c17 : PySem.W.codeIn K cd17 "_law_stock_due" = true) (k17 : PySem.W.keepIn K (.ref f17) = true)
    (a18 : PySem.W.nsIn K mainGlobals "_law_stock_told" = some (some (.ref f18))) (l18 : K.lookup f18 = some ⟨oc18, od18, .func (PySem.W.fnOf "_law_stock_told" "_law_stock_told" (defArgs s_l_stock_told) (defBody s_l_stock_told) (defScope s_l_stock_told) .none kV18 dc18 pm18 an18 cd18 ct18), sl18⟩) (c18 : PySem.W.codeIn K cd18 "_law_stock_told" = true) (k18 : PySem.W.keepIn K (.ref f18) = true)
    (a19 : PySem.W.nsIn K mainGlobals "_law_bad_pair" = some (some (.ref f19))) (l19 : K.lookup f19 = some ⟨oc19, od19, .func (PySem.W.fnOf "_law_bad_pair" "_law_bad_pair" (defArgs s_l_bad_pair) (defBody s_l_bad_pair) (defScope s_l_bad_pair) .none kV19 dc19 pm19 an19 cd19 ct19), sl19⟩) (c19 : PySem.W.codeIn K cd19 "_law_bad_pair" = true) (k19 : PySem.W.keepIn K (.ref f19) = true)
    (a20 : PySem.W.nsIn K mainGlobals "_law_spoilt" = some (some (.ref f20))) (l20 : K.lookup f20 = some ⟨oc20, od20, .func (PySem.W.fnOf "_law_spoilt" "_law_spoilt" (defArgs s_l_spoilt) (defBody s_l_spoilt) (defScope s_l_spoilt) .none kV20 dc20 pm20 an20 cd20 ct20), sl20⟩) (c20 : PySem.W.codeIn K cd20 "_law_spoilt" = true) (k20 : PySem.W.keepIn K (.ref f20) = true)
    (a21 : PySem.W.nsIn K mainGlobals "law" = some (some (.ref f21))) (l21 : K.lookup f21 = some ⟨oc21, od21, .func (PySem.W.fnOf "law" "law" (defArgs s_law) (defBody s_law) (defScope s_law) .none kV21 dc21 pm21 an21 cd21 ct21), sl21⟩) (c21 : PySem.W.codeIn K cd21 "law" = true) (k21 : PySem.W.keepIn K (.ref f21) = true)
    (z0 : PySem.W.nsIn K mainGlobals "len" = some none)
    (z1 : PySem.W.nsIn K mainGlobals "isinstance" = some none)
    (z2 : PySem.W.nsIn K mainGlobals "tuple" = some none)
    (z3 : PySem.W.nsIn K mainGlobals "list" = some none)
    (z4 : PySem.W.nsIn K mainGlobals "str" = some none)
    (z5 : PySem.W.nsIn K mainGlobals "int" = some none)
    (z6 : PySem.W.nsIn K mainGlobals "bool" = some none)
    (z7 : PySem.W.nsIn K mainGlobals "range" = some none)
    (z8 : PySem.W.nsIn K mainGlobals "zip" = some none)
    (z9 : PySem.W.nsIn K mainGlobals "enumerate" = some none)
    (z10 : PySem.W.nsIn K mainGlobals "reversed" = some none)
    (z11 : PySem.W.nsIn K mainGlobals "max" = some none)
    (z12 : PySem.W.nsIn K mainGlobals "all" = some none)
    (z13 : PySem.W.nsIn K mainGlobals "min" = some none)
    (z14 : PySem.W.nsIn K mainGlobals "sum" = some none)
    (z15 : PySem.W.nsIn K mainGlobals "any" = some none)
    (z16 : PySem.W.nsIn K mainGlobals "sorted" = some none)
    (z17 : PySem.W.nsIn K mainGlobals "set" = some none)
    (z18 : PySem.W.nsIn K mainGlobals "repr" = some none)
    (z19 : PySem.W.nsIn K mainGlobals "abs" = some none)
    (a_NoStock : PySem.W.nsIn K mainGlobals "NoStock" = some (some (.ref c_NoStock)))
    (x_NoStock : K.lookup c_NoStock = some (excClassObj nm_NoStock qn_NoStock c_NoStock N_NoStock bs_NoStock [.ref u_NoStock, .type "ValueError", .type "Exception", .type "BaseException", .type "object"] true sn_NoStock sub_NoStock ab_NoStock col_NoStock dd_NoStock m0_NoStock m1_NoStock m2_NoStock m3_NoStock m5_NoStock "ValueError.__new__"))
    (sa_NoStock : PySem.W.findIn K (.ref c_NoStock) "__setattr__" = some (some (.builtin "object.__setattr__")))
    (ga_NoStock : PySem.W.findIn K (.ref c_NoStock) "__getattribute__" = some (some (.builtin "BaseException.__getattribute__")))
    (gg_NoStock : PySem.W.findIn K (.ref c_NoStock) "__getattr__" = some none)
    (i_NoStock' : PySem.W.findIn K (.ref c_NoStock) "__init__" = some (some (.ref i_NoStock)))
    (ca_NoStock : PySem.W.findIn K (.ref c_NoStock) "__class__" = some (some (.builtin "object.__class__")))
    (t_NoStock : PySem.W.typeIn K (.ref i_NoStock) = some (.type "function"))
    (l_NoStock : K.lookup i_NoStock = some ⟨oc_NoStock, od_NoStock, .func (PySem.W.fnOf "__init__" "NoStock.__init__" (defArgs s_NoStock) (defBody s_NoStock) (defScope s_NoStock) .none kV_NoStock doc_NoStock pm_NoStock an_NoStock cdv_NoStock ct_NoStock), osl_NoStock⟩)
    (c_NoStock' : PySem.W.codeIn K cdv_NoStock "NoStock.__init__" = true)
    (kf_NoStock : PySem.W.keepIn K (.ref i_NoStock) = true)
    (kc_NoStock : PySem.W.keepIn K (.ref c_NoStock) = true)
    (ex_NoStock : PySem.W.subIn K (.ref c_NoStock) (.type "BaseException") = some true)
    (ty_NoStock : PySem.W.typeIn K (.ref c_NoStock) = some (.type "type"))
    (hd_NoStock : PySem.W.hasDictIn K c_NoStock = true)
    (is_NoStock : PySem.W.isClsIn K c_NoStock = true)
    (te_NoStock : PySem.W.exmOne K (.ref c_NoStock) (.ref c_NoStock) = some true)
    (ob_NoStock : PySem.W.mroIn K c_NoStock (.type "object") = some true)
    (gn_NoStock : PySem.W.specialIn K (.builtin "object.__class__") "__get__" = some (some (.builtin "getset_descriptor.__get__")))
    (tk_NoStock : PySem.W.takesIn K (.builtin "object.__class__") = some true)
    (f0_NoStock : PySem.W.findIn K (.ref c_NoStock) "word" = some none)
    (f1_NoStock : PySem.W.findIn K (.ref c_NoStock) "at" = some none)
    (ys0 : PySem.W.nsIn K mainGlobals "NoHead" = some (some (.ref w0))) (vs0 : PySem.W.kitOne K (.ref c_NoStock) (.ref w0) = some false)
    (ys1 : PySem.W.nsIn K mainGlobals "NoProgram" = some (some (.ref w1))) (vs1 : PySem.W.kitOne K (.ref c_NoStock) (.ref w1) = some false)
    (ys2 : PySem.W.nsIn K mainGlobals "NoText" = some (some (.ref w2))) (vs2 : PySem.W.kitOne K (.ref c_NoStock) (.ref w2) = some false)
    (ys3 : PySem.W.nsIn K mainGlobals "NoStock" = some (some (.ref w3))) (vs3 : PySem.W.kitOne K (.ref c_NoStock) (.ref w3) = some true)
    (ys4 : PySem.W.nsIn K mainGlobals "NoAnswer" = some (some (.ref w4))) (vs4 : PySem.W.kitOne K (.ref c_NoStock) (.ref w4) = some false)
    (ys5 : PySem.W.nsIn K mainGlobals "NoInputs" = some (some (.ref w5))) (vs5 : PySem.W.kitOne K (.ref c_NoStock) (.ref w5) = some false)
    (ys6 : PySem.W.nsIn K mainGlobals "Clash" = some (some (.ref w6))) (vs6 : PySem.W.kitOne K (.ref c_NoStock) (.ref w6) = some false)
    (ys7 : PySem.W.nsIn K mainGlobals "NoRow" = some (some (.ref w7))) (vs7 : PySem.W.kitOne K (.ref c_NoStock) (.ref w7) = some false)
    (ys8 : PySem.W.nsIn K mainGlobals "NoQuestion" = some (some (.ref w8))) (vs8 : PySem.W.kitOne K (.ref c_NoStock) (.ref w8) = some false)
    (ys9 : PySem.W.nsIn K mainGlobals "NoDoer" = some (some (.ref w9))) (vs9 : PySem.W.kitOne K (.ref c_NoStock) (.ref w9) = some false)
    (ys10 : PySem.W.nsIn K mainGlobals "NotKept" = some (some (.ref w10))) (vs10 : PySem.W.kitOne K (.ref c_NoStock) (.ref w10) = some false)
    (ys11 : PySem.W.nsIn K mainGlobals "NoName" = some (some (.ref w11))) (vs11 : PySem.W.kitOne K (.ref c_NoStock) (.ref w11) = some false)
    (aPTa : PySem.W.nsIn K mainGlobals "PARTS" = some (some (.ref aPT0)))
    (aPTl0 : K.lookup aPT0 = some ⟨.type "tuple", aPTd0, .seq #[.str "number" aPTt0_0, .str "step" aPTt0_1, .str "word" aPTt0_2] aPTn0, aPTs0⟩)
    (aWDa : PySem.W.nsIn K mainGlobals "WORDS" = some (some (.ref aWD0)))
    (aWDl0 : K.lookup aWD0 = some ⟨.type "tuple", aWDd0, .seq #[.str "yes" aWDt0_0, .str "no" aWDt0_1, .str "least" aWDt0_2, .str "most" aWDt0_3, .str "atmost" aWDt0_4, .str "not" aWDt0_5, .str "both" aWDt0_6, .str "either" aWDt0_7, .str "if" aWDt0_8] aWDn0, aWDs0⟩)
    (aSKa : PySem.W.nsIn K mainGlobals "STOCK" = some (some (.ref aSK0)))
    (aSKl0 : K.lookup aSK0 = some ⟨.type "tuple", aSKd0, .seq #[.ref aSK1, .ref aSK4, .ref aSK7] aSKn0, aSKs0⟩)
    (aSKl1 : K.lookup aSK1 = some ⟨.type "tuple", aSKd1, .seq #[.ref aSK2, .ref aSK3] aSKn1, aSKs1⟩)
    (aSKl2 : K.lookup aSK2 = some ⟨.type "tuple", aSKd2, .seq #[.int (0) aSKt2_0, .int (1) aSKt2_1] aSKn2, aSKs2⟩)
    (aSKl3 : K.lookup aSK3 = some ⟨.type "tuple", aSKd3, .seq #[.int (1) aSKt3_0, .int (1) aSKt3_1] aSKn3, aSKs3⟩)
    (aSKl4 : K.lookup aSK4 = some ⟨.type "tuple", aSKd4, .seq #[.ref aSK5, .ref aSK6] aSKn4, aSKs4⟩)
    (aSKl5 : K.lookup aSK5 = some ⟨.type "tuple", aSKd5, .seq #[.int (1) aSKt5_0, .int (1) aSKt5_1] aSKn5, aSKs5⟩)
    (aSKl6 : K.lookup aSK6 = some ⟨.type "tuple", aSKd6, .seq #[.int (-1) aSKt6_0, .int (1) aSKt6_1] aSKn6, aSKs6⟩)
    (aSKl7 : K.lookup aSK7 = some ⟨.type "tuple", aSKd7, .seq #[.ref aSK8, .ref aSK9, .ref aSK10, .ref aSK11] aSKn7, aSKs7⟩)
    (aSKl8 : K.lookup aSK8 = some ⟨.type "tuple", aSKd8, .seq #[.str "least" aSKt8_0, .int (1) aSKt8_1] aSKn8, aSKs8⟩)
    (aSKl9 : K.lookup aSK9 = some ⟨.type "tuple", aSKd9, .seq #[.str "most" aSKt9_0, .int (1) aSKt9_1] aSKn9, aSKs9⟩)
    (aSKl10 : K.lookup aSK10 = some ⟨.type "tuple", aSKd10, .seq #[.str "atmost" aSKt10_0, .int (1) aSKt10_1] aSKn10, aSKs10⟩)
    (aSKl11 : K.lookup aSK11 = some ⟨.type "tuple", aSKd11, .seq #[.str "if" aSKt11_0, .int (1) aSKt11_1] aSKn11, aSKs11⟩)
    : ∃ fd : FuncData, (∀ (s : Shared) (v : Value), BindsTo s fd ⟨[v], []⟩ [("_law_script", v)]) ∧ ∀ base : Heap, K.In base → base.Ns mainGlobals mg → FnOk l.prog w K mg base CX0 10 fa fd ["_law_script"] (spLaw K) := by
  have e := hfa.symm.trans (PySem.W.mg_of X G a21)
  cases e
  have D_is_whole : DefAt K mg "is_whole" s_is_whole ["thing"] := defAt_mk X G a0 l0 c0 k0 fun _ _ _ _ _ _ us hl => match us, hl with | [_], _ => rfl
  have D_look_stock : DefAt K mg "look_stock" s_look_stock ["stock"] := defAt_mk X G a1 l1 c1 k1 fun _ _ _ _ _ _ us hl => match us, hl with | [_], _ => rfl
  have D_is_triple : DefAt K mg "is_triple" s_is_triple ["thing"] := defAt_mk X G a2 l2 c2 k2 fun _ _ _ _ _ _ us hl => match us, hl with | [_], _ => rfl
  have D_are_pairs : DefAt K mg "are_pairs" s_are_pairs ["part", "pairs"] := defAt_mk X G a3 l3 c3 k3 fun _ _ _ _ _ _ us hl => match us, hl with | [_, _], _ => rfl
  have D_is_pair : DefAt K mg "is_pair" s_is_pair ["part", "pair"] := defAt_mk X G a4 l4 c4 k4 fun _ _ _ _ _ _ us hl => match us, hl with | [_, _], _ => rfl
  have D_first_amiss : DefAt K mg "first_amiss" s_first_amiss ["part", "pairs"] := defAt_mk X G a5 l5 c5 k5 fun _ _ _ _ _ _ us hl => match us, hl with | [_, _], _ => rfl
  have D_may_stand : DefAt K mg "may_stand" s_may_stand ["part", "key"] := defAt_mk X G a6 l6 c6 k6 fun _ _ _ _ _ _ us hl => match us, hl with | [_, _], _ => rfl
  have D_l_cell : DefAt K mg "_law_cell" s_l_cell ["_law_script", "_law_k"] := defAt_mk X G a7 l7 c7 k7 fun _ _ _ _ _ _ us hl => match us, hl with | [_, _], _ => rfl
  have D_l_flow : DefAt K mg "_law_flow" s_l_flow ["_law_script", "_law_k"] := defAt_mk X G a8 l8 c8 k8 fun _ _ _ _ _ _ us hl => match us, hl with | [_, _], _ => rfl
  have D_l_draw : DefAt K mg "_law_draw" s_l_draw ["_law_flow_here", "_law_many"] := defAt_mk X G a9 l9 c9 k9 fun _ _ _ _ _ _ us hl => match us, hl with | [_, _], _ => rfl
  have D_l_numeral : DefAt K mg "_law_numeral" s_l_numeral ["_law_flow_here"] := defAt_mk X G a10 l10 c10 k10 fun _ _ _ _ _ _ us hl => match us, hl with | [_], _ => rfl
  have D_l_alike : DefAt K mg "_law_alike" s_l_alike ["_law_found", "_law_due"] := defAt_mk X G a11 l11 c11 k11 fun _ _ _ _ _ _ us hl => match us, hl with | [_, _], _ => rfl
  have D_l_sorts : DefAt K mg "_law_sorts" s_l_sorts ["_law_e"] := defAt_mk X G a12 l12 c12 k12 fun _ _ _ _ _ _ us hl => match us, hl with | [_], _ => rfl
  have D_l_pairs : DefAt K mg "_law_pairs" s_l_pairs ["_law_flow_here", "_law_some"] := defAt_mk X G a13 l13 c13 k13 fun _ _ _ _ _ _ us hl => match us, hl with | [_, _], _ => rfl
  have D_l_unlike : DefAt K mg "_law_unlike" s_l_unlike ["_law_flow_here", "_law_many", "_law_least"] := defAt_mk X G a14 l14 c14 k14 fun _ _ _ _ _ _ us hl => match us, hl with | [_, _, _], _ => rfl
  have D_l_stock : DefAt K mg "_law_stock" s_l_stock ["_law_flow_here"] := defAt_mk X G a15 l15 c15 k15 fun _ _ _ _ _ _ us hl => match us, hl with | [_], _ => rfl
  have D_l_is_pairs : DefAt K mg "_law_is_pairs" s_l_is_pairs ["_law_some", "_law_is_word"] := defAt_mk X G a16 l16 c16 k16 fun _ _ _ _ _ _ us hl => match us, hl with | [_, _], _ => rfl
  have D_l_stock_due : DefAt K mg "_law_stock_due" s_l_stock_due ["_law_stock_here"] := defAt_mk X G a17 l17 c17 k17 fun _ _ _ _ _ _ us hl => match us, hl with | [_], _ => rfl
  have D_l_stock_told : DefAt K mg "_law_stock_told" s_l_stock_told ["_law_stock_here"] := defAt_mk X G a18 l18 c18 k18 fun _ _ _ _ _ _ us hl => match us, hl with | [_], _ => rfl
  have D_l_bad_pair : DefAt K mg "_law_bad_pair" s_l_bad_pair ["_law_flow_here", "_law_some"] := defAt_mk X G a19 l19 c19 k19 fun _ _ _ _ _ _ us hl => match us, hl with | [_, _], _ => rfl
  have D_l_spoilt : DefAt K mg "_law_spoilt" s_l_spoilt ["_law_flow_here", "_law_stock_here"] := defAt_mk X G a20 l20 c20 k20 fun _ _ _ _ _ _ us hl => match us, hl with | [_, _], _ => rfl
  have D_law : DefAt K mg "law" s_law ["_law_script"] := defAt_mk X G a21 l21 c21 k21 fun _ _ _ _ _ _ us hl => match us, hl with | [_], _ => rfl
  have R_NoStock : Rf K mg "NoStock" "NoStock.__init__" c_NoStock i_NoStock _ s_NoStock ["word", "at"] := { g := PySem.W.mg_of X G a_NoStock, o := ⟨⟨_, _, _, _, _, _, _, _, _, _, _, _, _, _, _, x_NoStock, rfl⟩, sa_NoStock, ex_NoStock, ty_NoStock, kc_NoStock⟩, f := ⟨ga_NoStock, gg_NoStock, ex_NoStock, hd_NoStock⟩, k := ⟨is_NoStock, ga_NoStock, gg_NoStock, ex_NoStock, ca_NoStock, gn_NoStock, tk_NoStock, ob_NoStock⟩, te := te_NoStock, fld := fun n hn => by simp only [List.mem_cons, List.not_mem_nil, or_false] at hn; rcases hn with h | h <;> subst h <;> assumption, iC := i_NoStock', tI := t_NoStock, F := fun_mk l_NoStock c_NoStock' kf_NoStock, b := (fun_mk l_NoStock c_NoStock' kf_NoStock).binds fun _ _ _ _ _ _ us hl => match us, hl with | [_, _, _], _ => rfl }
  have S_sorts : Sorts K mg c_NoStock [false, false, false, true, false, false, false, false, false, false, false, false] := ⟨_, _, _, _, _, _, _, _, _, _, _, _, _, _, _, _, _, _, _, _, _, _, _, _, ⟨PySem.W.mg_of X G ys0, PySem.W.mg_of X G ys1, PySem.W.mg_of X G ys2, PySem.W.mg_of X G ys3, PySem.W.mg_of X G ys4, PySem.W.mg_of X G ys5, PySem.W.mg_of X G ys6, PySem.W.mg_of X G ys7, PySem.W.mg_of X G ys8, PySem.W.mg_of X G ys9, PySem.W.mg_of X G ys10, PySem.W.mg_of X G ys11, vs0, vs1, vs2, vs3, vs4, vs5, vs6, vs7, vs8, vs9, vs10, vs11⟩, rfl⟩
  have PG_ : PartsG K mg aPT0 := ⟨PySem.W.mg_of X G aPTa, fun H => (show L2.SqT K H aPT0 [.str "number", .str "step", .str "word"] from .inr ⟨_, _, _, aPTl0, rfl, rfl, (by show 3 ≤ sizeLine; decide), (.cons ⟨_, rfl⟩ (.cons ⟨_, rfl⟩ (.cons ⟨_, rfl⟩ .nil)))⟩)⟩
  have WG_ : WordsG K mg aWD0 := ⟨PySem.W.mg_of X G aWDa, fun H => (show L2.SqT K H aWD0 [.str "yes", .str "no", .str "least", .str "most", .str "atmost", .str "not", .str "both", .str "either", .str "if"] from .inr ⟨_, _, _, aWDl0, rfl, rfl, (by show 9 ≤ sizeLine; decide), (.cons ⟨_, rfl⟩ (.cons ⟨_, rfl⟩ (.cons ⟨_, rfl⟩ (.cons ⟨_, rfl⟩ (.cons ⟨_, rfl⟩ (.cons ⟨_, rfl⟩ (.cons ⟨_, rfl⟩ (.cons ⟨_, rfl⟩ (.cons ⟨_, rfl⟩ .nil)))))))))⟩)⟩
  have SG_ : StockG K mg aSK0 := ⟨PySem.W.mg_of X G aSKa, fun H => (.tup (show L2.SqT K H aSK0 [.ref aSK1, .ref aSK4, .ref aSK7] from .inr ⟨_, _, _, aSKl0, rfl, rfl, (by show 3 ≤ sizeLine; decide), (.cons rfl (.cons rfl (.cons rfl .nil)))⟩) (.cons (.tup (show L2.SqT K H aSK1 [.ref aSK2, .ref aSK3] from .inr ⟨_, _, _, aSKl1, rfl, rfl, (by show 2 ≤ sizeLine; decide), (.cons rfl (.cons rfl .nil))⟩) (.cons (.tup (show L2.SqT K H aSK2 [.int (0), .int (1)] from .inr ⟨_, _, _, aSKl2, rfl, rfl, (by show 2 ≤ sizeLine; decide), (.cons ⟨_, rfl⟩ (.cons ⟨_, rfl⟩ .nil))⟩) (.cons (.int _) (.cons (.int _) .nil))) (.cons (.tup (show L2.SqT K H aSK3 [.int (1), .int (1)] from .inr ⟨_, _, _, aSKl3, rfl, rfl, (by show 2 ≤ sizeLine; decide), (.cons ⟨_, rfl⟩ (.cons ⟨_, rfl⟩ .nil))⟩) (.cons (.int _) (.cons (.int _) .nil))) .nil))) (.cons (.tup (show L2.SqT K H aSK4 [.ref aSK5, .ref aSK6] from .inr ⟨_, _, _, aSKl4, rfl, rfl, (by show 2 ≤ sizeLine; decide), (.cons rfl (.cons rfl .nil))⟩) (.cons (.tup (show L2.SqT K H aSK5 [.int (1), .int (1)] from .inr ⟨_, _, _, aSKl5, rfl, rfl, (by show 2 ≤ sizeLine; decide), (.cons ⟨_, rfl⟩ (.cons ⟨_, rfl⟩ .nil))⟩) (.cons (.int _) (.cons (.int _) .nil))) (.cons (.tup (show L2.SqT K H aSK6 [.int (-1), .int (1)] from .inr ⟨_, _, _, aSKl6, rfl, rfl, (by show 2 ≤ sizeLine; decide), (.cons ⟨_, rfl⟩ (.cons ⟨_, rfl⟩ .nil))⟩) (.cons (.int _) (.cons (.int _) .nil))) .nil))) (.cons (.tup (show L2.SqT K H aSK7 [.ref aSK8, .ref aSK9, .ref aSK10, .ref aSK11] from .inr ⟨_, _, _, aSKl7, rfl, rfl, (by show 4 ≤ sizeLine; decide), (.cons rfl (.cons rfl (.cons rfl (.cons rfl .nil))))⟩) (.cons (.tup (show L2.SqT K H aSK8 [.str "least", .int (1)] from .inr ⟨_, _, _, aSKl8, rfl, rfl, (by show 2 ≤ sizeLine; decide), (.cons ⟨_, rfl⟩ (.cons ⟨_, rfl⟩ .nil))⟩) (.cons (.str _) (.cons (.int _) .nil))) (.cons (.tup (show L2.SqT K H aSK9 [.str "most", .int (1)] from .inr ⟨_, _, _, aSKl9, rfl, rfl, (by show 2 ≤ sizeLine; decide), (.cons ⟨_, rfl⟩ (.cons ⟨_, rfl⟩ .nil))⟩) (.cons (.str _) (.cons (.int _) .nil))) (.cons (.tup (show L2.SqT K H aSK10 [.str "atmost", .int (1)] from .inr ⟨_, _, _, aSKl10, rfl, rfl, (by show 2 ≤ sizeLine; decide), (.cons ⟨_, rfl⟩ (.cons ⟨_, rfl⟩ .nil))⟩) (.cons (.str _) (.cons (.int _) .nil))) (.cons (.tup (show L2.SqT K H aSK11 [.str "if", .int (1)] from .inr ⟨_, _, _, aSKl11, rfl, rfl, (by show 2 ≤ sizeLine; decide), (.cons ⟨_, rfl⟩ (.cons ⟨_, rfl⟩ .nil))⟩) (.cons (.str _) (.cons (.int _) .nil))) .nil))))) .nil))))⟩
  have B : Bt mg := ⟨PySem.W.mg_none_of X G z0, PySem.W.mg_none_of X G z1, PySem.W.mg_none_of X G z2, PySem.W.mg_none_of X G z3, PySem.W.mg_none_of X G z4, PySem.W.mg_none_of X G z5, PySem.W.mg_none_of X G z6, PySem.W.mg_none_of X G z7, PySem.W.mg_none_of X G z8, PySem.W.mg_none_of X G z9, PySem.W.mg_none_of X G z10, PySem.W.mg_none_of X G z11, PySem.W.mg_none_of X G z12, PySem.W.mg_none_of X G z13, PySem.W.mg_none_of X G z14, PySem.W.mg_none_of X G z15, PySem.W.mg_none_of X G z16, PySem.W.mg_none_of X G z17, PySem.W.mg_none_of X G z18, PySem.W.mg_none_of X G z19⟩
  refine ⟨PySem.W.fnOf "law" "law" (defArgs s_law) (defBody s_law) (defScope s_law) .none kV21 dc21 pm21 an21 cd21 ct21, fun s v => .of_eq rfl, fun base _ _ => ?_⟩
  have C_cell := ok_l_cell (P := l.prog) (w := w) (base := base) B D_l_cell
  have C_flow := ok_l_flow C_cell D_l_flow
  have C_draw := ok_l_draw (P := l.prog) (w := w) (base := base) D_l_draw
  have C_numeral := ok_l_numeral C_draw D_l_numeral
  have C_al := ok_l_alike (P := l.prog) (w := w) (base := base) (K := K) B D_l_alike
  have C_whole := ok_is_whole (P := l.prog) (w := w) (base := base) (K := K) B D_is_whole
  have C_pair := ok_is_pair B C_whole D_is_pair
  have C_pairs := ok_are_pairs B C_pair D_are_pairs
  have C_triple := ok_is_triple B PG_ C_pairs D_is_triple
  have C_may := ok_may_stand (P := l.prog) (w := w) (base := base) B WG_ D_may_stand
  have C_amiss := ok_first_amiss (K := K) B C_may D_first_amiss
  have C_look := ok_look_stock B PG_ R_NoStock C_triple C_amiss D_look_stock
  have C_lip := ok_l_is_pairs (P := l.prog) (w := w) (base := base) (K := K) B D_l_is_pairs
  have C_due := ok_l_stock_due B C_lip D_l_stock_due
  have C_told := ok_l_stock_told B S_sorts rfl R_NoStock C_look D_l_sorts D_l_stock_told
  have C_lpairs := ok_l_pairs (K := K) B C_draw D_l_pairs
  have C_unl := ok_l_unlike (K := K) B C_numeral D_l_unlike
  have C_stock := ok_l_stock B C_draw C_unl C_lpairs D_l_stock
  have C_bp := ok_l_bad_pair (K := K) B C_draw D_l_bad_pair
  have C_sp := ok_l_spoilt B C_draw C_bp D_l_spoilt
  exact ok_law B SG_ C_flow C_draw C_stock C_sp C_told C_due C_al C_look (fun_mk l21 c21 k21)

end Lm
open PySem PySem.W PyProof.Rows
set_option maxRecDepth 100000 in
set_option maxHeartbeats 0 in
theorem PySem.Challenge.cw_leastmaker_k13_stocks_looked_at_holds : PySem.Challenge.rw_leastmaker_k13_stocks_looked_at.Holds := by
  w_on; o_law; k_head; (case hw => w_witness2)
  k_fill
  refine L2.walk_of (l := PySem.Challenge.rw_leastmaker_k13_stocks_looked_at) (n := 63) (k := 10) (x := "_law_script") (CX := fun _ => L2.CX0) (sp := fun w => Lm.spLaw _) rfl (by decide) rfl ⟨rfl, by decide, by decide⟩ (fun w h Y => PySem.W.kIn_of Y) ?F (fun _ _ a ns hl _ hS => ⟨a, ns, rfl, hS, hl, fun _ => rfl⟩) (fun _ _ _ _ _ h => h)
  case F =>
    intro w mg fa h KX G hmg
    refine' Lm.all_mk KX G hmg ?a0 ?l0 ?c0 ?k0 ?a1 ?l1 ?c1 ?k1 ?a2 ?l2 ?c2 ?k2 ?a3 ?l3 ?c3 ?k3 ?a4 ?l4 ?c4 ?k4 ?a5 ?l5 ?c5 ?k5 ?a6 ?l6 ?c6 ?k6 ?a7 ?l7 ?c7 ?k7 ?a8 ?l8 ?c8 ?k8 ?a9 ?l9 ?c9 ?k9 ?a10 ?l10 ?c10 ?k10 ?a11 ?l11 ?c11 ?k11 ?a12 ?l12 ?c12 ?k12 ?a13 ?l13 ?c13 ?k13 ?a14 ?l14 ?c14 ?k14 ?a15 ?l15 ?c15 ?k15 ?a16 ?l16 ?c16 ?k16 ?a17 ?l17 ?c17 ?k17 ?a18 ?l18 ?c18 ?k18 ?a19 ?l19 ?c19 ?k19 ?a20 ?l20 ?c20 ?k20 ?a21 ?l21 ?c21 ?k21 ?z0 ?z1 ?z2 ?z3 ?z4 ?z5 ?z6 ?z7 ?z8 ?z9 ?z10 ?z11 ?z12 ?z13 ?z14 ?z15 ?z16 ?z17 ?z18 ?z19 ?a_NoStock ?x_NoStock ?sa_NoStock ?ga_NoStock ?gg_NoStock ?i_NoStock' ?ca_NoStock ?t_NoStock ?l_NoStock ?c_NoStock' ?kf_NoStock ?kc_NoStock ?ex_NoStock ?ty_NoStock ?hd_NoStock ?is_NoStock ?te_NoStock ?ob_NoStock ?gn_NoStock ?tk_NoStock ?f0_NoStock ?f1_NoStock ?ys0 ?vs0 ?ys1 ?vs1 ?ys2 ?vs2 ?ys3 ?vs3 ?ys4 ?vs4 ?ys5 ?vs5 ?ys6 ?vs6 ?ys7 ?vs7 ?ys8 ?vs8 ?ys9 ?vs9 ?ys10 ?vs10 ?ys11 ?vs11 ?aPTa ?aPTl0 ?aWDa ?aWDl0 ?aSKa ?aSKl0 ?aSKl1 ?aSKl2 ?aSKl3 ?aSKl4 ?aSKl5 ?aSKl6 ?aSKl7 ?aSKl8 ?aSKl9 ?aSKl10 ?aSKl11
    (case a0 => k_is)
    (case l0 => k_is)
    (case c0 => k_is)
    (case k0 => k_is)
    (case a1 => k_is)
    (case l1 => k_is)
    (case c1 => k_is)
    (case k1 => k_is)
    (case a2 => k_is)
    (case l2 => k_is)
    (case c2 => k_is)
    (case k2 => k_is)
    (case a3 => k_is)
    (case l3 => k_is)
    (case c3 => k_is)
    (case k3 => k_is)
    (case a4 => k_is)
    (case l4 => k_is)
    (case c4 => k_is)
    (case k4 => k_is)
    (case a5 => k_is)
    (case l5 => k_is)
    (case c5 => k_is)
    (case k5 => k_is)
    (case a6 => k_is)
    (case l6 => k_is)
    (case c6 => k_is)
    (case k6 => k_is)
    (case a7 => k_is)
    (case l7 => k_is)
    (case c7 => k_is)
    (case k7 => k_is)
    (case a8 => k_is)
    (case l8 => k_is)
    (case c8 => k_is)
    (case k8 => k_is)
    (case a9 => k_is)
    (case l9 => k_is)
    (case c9 => k_is)
    (case k9 => k_is)
    (case a10 => k_is)
    (case l10 => k_is)
    (case c10 => k_is)
    (case k10 => k_is)
    (case a11 => k_is)
    (case l11 => k_is)
    (case c11 => k_is)
    (case k11 => k_is)
    (case a12 => k_is)
    (case l12 => k_is)
    (case c12 => k_is)
    (case k12 => k_is)
    (case a13 => k_is)
    (case l13 => k_is)
    (case c13 => k_is)
    (case k13 => k_is)
    (case a14 => k_is)
    (case l14 => k_is)
    (case c14 => k_is)
    (case k14 => k_is)
    (case a15 => k_is)
    (case l15 => k_is)
    (case c15 => k_is)
    (case k15 => k_is)
    (case a16 => k_is)
    (case l16 => k_is)
    (case c16 => k_is)
    (case k16 => k_is)
    (case a17 => k_is)
    (case l17 => k_is)
    (case c17 => k_is)
    (case k17 => k_is)
    (case a18 => k_is)
    (case l18 => k_is)
    (case c18 => k_is)
    (case k18 => k_is)
    (case a19 => k_is)
    (case l19 => k_is)
    (case c19 => k_is)
    (case k19 => k_is)
    (case a20 => k_is)
    (case l20 => k_is)
    (case c20 => k_is)
    (case k20 => k_is)
    (case a21 => k_is)
    (case l21 => k_is)
    (case c21 => k_is)
    (case k21 => k_is)
    (case z0 => k_is)
    (case z1 => k_is)
    (case z2 => k_is)
    (case z3 => k_is)
    (case z4 => k_is)
    (case z5 => k_is)
    (case z6 => k_is)
    (case z7 => k_is)
    (case z8 => k_is)
    (case z9 => k_is)
    (case z10 => k_is)
    (case z11 => k_is)
    (case z12 => k_is)
    (case z13 => k_is)
    (case z14 => k_is)
    (case z15 => k_is)
    (case z16 => k_is)
    (case z17 => k_is)
    (case z18 => k_is)
    (case z19 => k_is)
    (case a_NoStock => k_is)
    (case x_NoStock => k_is)
    (case sa_NoStock => k_is)
    (case ga_NoStock => k_is)
    (case gg_NoStock => k_is)
    (case i_NoStock' => k_is)
    (case ca_NoStock => k_is)
    (case t_NoStock => k_is)
    (case l_NoStock => k_is)
    (case c_NoStock' => k_is)
    (case kf_NoStock => k_is)
    (case kc_NoStock => k_is)
    (case ex_NoStock => k_is)
    (case ty_NoStock => k_is)
    (case hd_NoStock => k_is)
    (case is_NoStock => k_is)
    (case te_NoStock => first | rfl | k_is)
    (case ob_NoStock => first | rfl | k_is)
    (case gn_NoStock => first | rfl | k_is)
    (case tk_NoStock => first | rfl | k_is)
    (case f0_NoStock => k_is)
    (case f1_NoStock => k_is)
    (case ys0 => k_is)
    (case vs0 => first | rfl | k_is)
    (case ys1 => k_is)
    (case vs1 => first | rfl | k_is)
    (case ys2 => k_is)
    (case vs2 => first | rfl | k_is)
    (case ys3 => k_is)
    (case vs3 => first | rfl | k_is)
    (case ys4 => k_is)
    (case vs4 => first | rfl | k_is)
    (case ys5 => k_is)
    (case vs5 => first | rfl | k_is)
    (case ys6 => k_is)
    (case vs6 => first | rfl | k_is)
    (case ys7 => k_is)
    (case vs7 => first | rfl | k_is)
    (case ys8 => k_is)
    (case vs8 => first | rfl | k_is)
    (case ys9 => k_is)
    (case vs9 => first | rfl | k_is)
    (case ys10 => k_is)
    (case vs10 => first | rfl | k_is)
    (case ys11 => k_is)
    (case vs11 => first | rfl | k_is)
    (case aPTa => k_is)
    (case aPTl0 => k_is)
    (case aWDa => k_is)
    (case aWDl0 => k_is)
    (case aSKa => k_is)
    (case aSKl0 => k_is)
    (case aSKl1 => k_is)
    (case aSKl2 => k_is)
    (case aSKl3 => k_is)
    (case aSKl4 => k_is)
    (case aSKl5 => k_is)
    (case aSKl6 => k_is)
    (case aSKl7 => k_is)
    (case aSKl8 => k_is)
    (case aSKl9 => k_is)
    (case aSKl10 => k_is)
    (case aSKl11 => k_is)

