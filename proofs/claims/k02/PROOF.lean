import PyProof.Rows.All
import Wide.All
import OpenK.AllK
import Wide.FinOn
import HandS.ForMost
import HandS.IsInst
import HandS.TupAny
import HandS.Flow
import HandS.Style
import HandS.RevRange
import HandS.Conv
import HandS.More
import HandS.Zip
import KE.KDictZip
import KE.KDictList
import KE.KRevSl
import HandS.ForExc
import HandS.ExcInit
import HandS.ExcField
import HandS.HotCalls
import HandS.SetFor
import KE.KExcIs
import KE.GoesEnum
import KE.GoesMore
import HandS.Star
import HandS.ExcOwn
import HandS.WordsExc
import PySem.Challenge.RW_leastmaker_k02_heads_looked_at
set_option Elab.async false
set_option linter.all false
set_option maxRecDepth 100000
set_option maxHeartbeats 2000000
namespace LmR
open PySem PySem.Spec PyProof.Rows L2
/-! ### t[::-1] of a tuple -/
section
variable {prog : Program} {w : World} {A : Around} {E : Value → Shared → Prop} {s : Shared}
theorem pick_rev (xs : Array Value) : ((List.range xs.size).filterMap fun (m : Nat) => xs[(((xs.size : Int) - 1) + (m : Int) * (-1)).toNat]?).toArray = xs.toList.reverse.toArray := by
  congr 1
  have e : ∀ n, n ≤ xs.size → ((List.range n).filterMap fun (m : Nat) => xs[(((xs.size : Int) - 1) + (m : Int) * (-1)).toNat]?) = (xs.toList.reverse).take n := by
    intro n
    induction n with
    | zero => intro _; rfl
    | succ n ih =>
      intro h
      rw [List.range_succ, List.filterMap_append, ih (by omega), List.take_add_one]
      congr 1
      have e1 : (((xs.size : Int) - 1) + (n : Int) * (-1)).toNat = xs.size - 1 - n := by omega
      have e2 : xs.toList.reverse[n]? = xs[xs.size - 1 - n]? := by
        rw [List.getElem?_reverse (by rw [Array.length_toList]; omega), Array.length_toList, Array.getElem?_toList]
      rw [e2]
      have hlt : xs.size - 1 - n < xs.size := by omega
      simp only [List.filterMap_cons, List.filterMap_nil]
      rw [e1, Array.getElem?_eq_getElem hlt]
      rfl
  rw [e xs.size (Nat.le_refl _)]
  exact List.take_of_length_le (by rw [List.length_reverse, Array.length_toList]; exact Nat.le_refl _)
theorem rev_applied {sl : Addr} {vl vu vs : Value} {n : Nat} {Q : Int × Int × Nat → Shared → Prop} (hs : s.heap.IsSliceOf sl vl vu vs) (pl : IsPart vl none) (pu : IsPart vu none) (ps : IsPart vs (some (-1)))
    (h : Q ((n : Int) - 1, -1, n) s) : wpAny (model prog w) A (Builtin.Slice.sliceApplied (.ref sl) (pure (n : Int))) Q E s := by
  obtain ⟨os, hos, hcs, hds⟩ := id hs
  unfold Builtin.Slice.sliceApplied Builtin.Slice.sliceFields
  refine wpAny_bind (wpAny_bind (wpAny_field hos hds (x := vl) rfl (wpAny_bind (wpAny_field hos hds (x := vu) rfl (wpAny_bind (wpAny_field hos hds (x := vs) rfl (wpAny_pure ?_)))))))
  refine wpAny_bind (HT.slicePart_ ps ?_)
  show wpAny _ _ (if ((-1 : Int) == 0) = true then _ else _) _ _ s
  rw [if_neg (by decide)]
  refine wpAny_bind (HT.slicePart_ pl (wpAny_bind (HT.slicePart_ pu (wpAny_bind (wpAny_pure ?_)))))
  have e : Builtin.Slice.sliceAdjust none none (-1) (n : Int) = ((n : Int) - 1, -1) := by
    simp [Builtin.Slice.sliceAdjust]
  have e2 : Builtin.Slice.slicePlaces ((n : Int) - 1) (-1) (-1) = n := by
    unfold Builtin.Slice.slicePlaces
    simp
    omega
  show wpAny _ _ (match Builtin.Slice.sliceAdjust none none (-1) (n : Int) with | (lo, hi) => pure (lo, (-1 : Int), Builtin.Slice.slicePlaces lo hi (-1))) _ _ s
  rw [e]
  show wpAny _ _ (pure ((n : Int) - 1, (-1 : Int), Builtin.Slice.slicePlaces ((n : Int) - 1) (-1) (-1))) _ _ s
  rw [e2]
  exact wpAny_pure h
theorem getItem_tuple_rev {t sl : Addr} {items : Array Value} {vl vu vs : Value} {Q : Value → Shared → Prop} (ht : IsTup s.heap t items) (hs : s.heap.IsSliceOf sl vl vu vs) (pl : IsPart vl none) (pu : IsPart vu none) (ps : IsPart vs (some (-1)))
    (h : Q (.ref s.heap.objs.size) { s with heap := s.heap.push { cls := .type "tuple", data := .seq items.toList.reverse.toArray } })
    (hsz : items.size ≤ sizeLine) : wpAny (model prog w) A (getItem (.ref t) (.ref sl)) Q E s := by
  have htake : sizeOk (.seq items.toList.reverse.toArray) := by
    show (items.toList.reverse).toArray.size ≤ sizeLine
    rw [List.size_toArray, List.length_reverse, Array.length_toList]
    omega
  obtain ⟨os, hos, hcs, hds⟩ := id hs
  have hTs : s.TypeIs (.ref sl) "slice" := ⟨os, hos, hcs⟩
  unfold getItem
  try with_reducible refine wpAny_holding ?_
  first | refine wpAny_bind (wpAny_pure ?_) | skip
  refine wpAny_bind (wpAny_sequenceKey ht.typeIs (by decide) ?_)
  refine wpAny_bind (wpAny_callSpecial?_slot (name := Str.ofString "__getitem__") ht.typeIs PyProof.Rows.slot_tuple_getitem
    (wpAny_call_entry PyProof.Rows.slot_tuple_getitem ht.typeIs PyProof.Rows.entry_tuple_getitem ?_ (PyProof.Rows.args_tuple_getitem _ _)))
  show wpAny _ _ (Builtin.Tuple.tupleItemsOf (.ref t) >>= _) _ _ s
  refine wpAny_bind (PyProof.Rows.tupleItemsOf_ ht ?_)
  refine wpAny_bind (wpAny_typeOf hTs ?_)
  rw [if_pos (by decide)]
  refine wpAny_bind (rev_applied hs pl pu ps ?_)
  have hno : ¬ (((items.size : Int) - 1 == 0 && (-1 : Int) == 1 && items.size == items.size) = true) := by
    intro q
    rw [Bool.and_eq_true, Bool.and_eq_true] at q
    exact absurd q.1.2 (by decide)
  show wpAny _ _ (if ((items.size : Int) - 1 == 0 && (-1 : Int) == 1 && items.size == items.size) = true then _ else _) _ _ s
  rw [if_neg hno, pick_rev]
  first
    | exact wpAny_bind (m := Builtin.Tuple.tupleExact _) (wpAny_newObj_type (wpAny_pure ⟨_, rfl, wpAny_pure h⟩) htake)
    | exact wpAny_bind (m := Builtin.Tuple.tupleExact _) (wpAny_newObj_type (wpAny_bind (wpAny_pure (wpAny_pure ⟨_, rfl, wpAny_pure h⟩))) htake)
    | exact wpAny_bind (wpAny_bind (m := Builtin.Tuple.tupleExact _) (wpAny_newObj_type (wpAny_pure (wpAny_pure ⟨_, rfl, wpAny_pure h⟩)) htake))
    | exact wpAny_bind (wpAny_bind (m := Builtin.Tuple.tupleExact _) (wpAny_newObj_type (wpAny_pure ⟨_, rfl, wpAny_pure h⟩) htake))
end
def tRevT (K : PySem.W.Frag) (te : TE) : TE := fun σ H Q => te σ H fun x H1 => ∃ a xs, x = .ref a ∧ SqT K H1 a xs ∧ ∀ p, H1 p = none → Q (.ref p) (upd H1 p (.tup xs.reverse))
section
variable {X : Cx}
theorem pe_revT {e : Expr} {te : TE} {k : Nat} {p1 p2 p3 pos : Pos} (he : PE X e te) : PE X (.Subscript e (.Slice none none (some (.UnaryOp .USub (.Constant (.int 1) k p1) p2)) p3) pos) (tRevT X.K te) := by
  refine ⟨fun pins s σ H Q I h => ?_⟩
  refine Subscript_ (thn (he.run pins s σ H _ I h) fun v s1 ⟨x, H1, I1, r1, q1⟩ => ?_)
  obtain ⟨a, xs, ex, hx, q⟩ := q1
  subst ex
  cases r1
  have hst : PO X (some (.UnaryOp .USub (.Constant (.int 1) k p1) p2)) (tPart (tUn (rU fun i => .int (-i)) (tC (.int 1)))) := po_some (pe_un un_neg pe_int)
  refine wpAny_Slice (thn (po_none.run pins s1 σ H1 (fun o H2 => o = none ∧ H2 = H1) I1 ⟨rfl, rfl⟩) fun vl s2 ⟨l, H2, I2, pl, el, e2⟩ => ?_)
  subst el e2
  refine thn (po_none.run pins s2 σ H2 (fun o H3 => o = none ∧ H3 = H2) I2 ⟨rfl, rfl⟩) fun vu s3 ⟨u, H3, I3, pu, eu, e3⟩ => ?_
  subst eu e3
  refine thn (hst.run pins s3 σ H3 (fun o H4 => o = some (-1) ∧ H4 = H3) I3 ⟨1, rfl, -1, rfl, rfl, rfl⟩) fun vs s4 ⟨o, H4, I4, ps, eo, e4⟩ => ?_
  subst eo e4
  have I5 : Inv X pins σ H4 { s4 with heap := s4.heap.push { cls := .type "slice", data := .fields #[vl, vu, vs] } } := I4.kept (t' := s4.toks) fun b ob q => Heap.get?_push_of_some _ q
  obtain ⟨its, r, ht, hz⟩ := I5.tuple hx
  have hlen := r.length
  show wpAny (model X.prog X.w) X.A (subscriptTail e (.Slice none none (some (.UnaryOp .USub (.Constant (.int 1) k p1) p2)) p3) (.ref a) (.ref s4.heap.objs.size)) (EP X pins σ Q) X.xe { s4 with heap := s4.heap.push { cls := .type "slice", data := .fields #[vl, vu, vs] } }
  refine tail_any (ops := [.ref a, .ref s4.heap.objs.size]) ht.typeIs (PyProof.Rows.slot_tuple_getitem.lookup) ?_ (by with_unfolding_all rfl)
  refine getItem_tuple_rev ht (Heap.IsSliceOf.new _ vl vu vs) pl pu ps ?_ (by rw [List.size_toArray]; omega)
  refine ⟨.ref _, _, I5.laid (t' := s4.toks) (o := .tup xs.reverse) (fun b ob q => Heap.get?_push_of_some _ q) (Nat.le_refl _) ?_, rfl, q _ (I5.hok.fresh (Nat.le_refl _))⟩
  exact ⟨by rw [List.length_reverse]; exact hz, its.reverse, r.reverse, ⟨_, Heap.get?_push_size _ rfl, rfl, _, rfl⟩⟩
end
/-! ### l.extend(t), t a tuple -/
theorem extend_tuple (l : Addr) (items : Array Value) (n : Nat) (b : Addr) (items2 : Array Value) (n2 : Nat) (dd : Option Addr) (sl : Array (Option Value)) (hs0 : ¬(!items.isEmpty && Builtin.List.listTooLong (items.size + items2.size)) = true) (hs1 : items.size ≤ sizeLine) (hs2 : items.size + items2.size ≤ sizeLine + 1 := by seq_fits) :
    Meets (Builtin.«list.extend» ⟨[.ref l, .ref b], []⟩) (fun _ R s => s.heap.get? l = some { cls := .type "list", dict := none, data := .seq items n, slots := #[] } ∧ s.heap.get? b = some { cls := .type "tuple", dict := dd, data := .seq items2 n2, slots := sl } ∧ R (.ok (.ret Value.none)) { s with heap := s.heap.update l (Obj.mapSeq fun x => x ++ items2), toks := s.toks }) :=
  .of_wp fun prog w A R s h => by
    obtain ⟨hp, g, d, tk, os⟩ := s; obtain ⟨hl, hb, h⟩ := h; have f1 := AutoSeq1.idx_int; have f2 := AutoSeq1.sub_tuple_tuple; have f3 := AutoSeq1.sub_list_list; have f4 := AutoSeq1.sub_tuple_list; have f5 := AutoSeq1.sub_list_tuple;
    have hz' : (items ++ items2).size ≤ sizeLine + 1 := by rw [Array.size_append]; exact hs2
    wp_walk using (wpAny_updateSeq hl rfl (hz := hs1) (_hz' := hz')), wpAny_loadPart' hl, wpAny_loadPart' hb; exact ⟨_, rfl, h⟩
def rExtT (K : PySem.W.Frag) : V → List V → Hp → VK → Prop := fun x vs H Q => ∃ l b xs zs, x = .ref l ∧ vs = [.ref b] ∧ H l = some (.lst xs) ∧ SqT K H b zs ∧ xs.length + zs.length ≤ sizeLine ∧ Q .non (upd H l (.lst (xs ++ zs)))
theorem mt_extendT {X : Cx} : MtM X "list.extend" (rExtT X.K) := by
  intro pins s σ H x vs v us Q I rx rv h
  obtain ⟨l, b, xs, zs, rfl, rfl, hH, hB, hz, q⟩ := h
  cases rx
  obtain ⟨u, rfl, ru⟩ := rv.one
  cases ru
  obtain ⟨z, its, n, r, hl, e⟩ := I.lstM hH
  obtain ⟨its2, r2, ⟨⟨cls, dd, dt, sl⟩, ho, hc, n2, hd⟩, _⟩ := I.tuple hB
  simp only at hc hd
  subst hc hd
  have hl2 := r2.length
  have hsz : its.toArray.size + its2.toArray.size ≤ sizeLine := by rw [List.size_toArray, List.size_toArray]; omega
  have hlong : ¬ (!its.toArray.isEmpty && Builtin.List.listTooLong (its.toArray.size + its2.toArray.size)) = true := by
    rw [notLongL hsz, Bool.and_false]
    exact Bool.false_ne_true
  refine call_meets F.slot_list_extend ⟨_, e, rfl⟩ F.entry_list_extend (F.args_list_extend_2 _ _)
    (extend_tuple l its.toArray n b its2.toArray n2 dd sl hlong (by rw [List.size_toArray]; omega) (by omega)) ⟨e, ho, ?_⟩
  refine ⟨.non, _, I.lset (its' := its ++ its2) hH e (by simp) (r.append r2) ?_, rfl, q⟩
  rw [List.length_append]
  omega
end LmR

set_option Elab.async false
set_option linter.all false
set_option maxRecDepth 100000
set_option maxHeartbeats 2000000
namespace LmR
open PySem PySem.Spec PyProof.Rows L2 RZ
theorem zip_no_len : typeLookup (.type "zip") "__len__" = pure none := by rw [typeLookup_type, builtinLookup_eq_fast]; kernel_rfl
theorem zip_no_hint : typeLookup (.type "zip") "__length_hint__" = pure none := by rw [typeLookup_type, builtinLookup_eq_fast]; kernel_rfl
section
variable {prog : Program} {w : World} {A : Around} {E : Value → Shared → Prop} {s : Shared}
theorem zipT_item_held {z TI TO T i1 i2 l1 l2 : Addr} {f : Bool} {oT : Obj} {k1 k2 : Nat} {xs ys : Array Value} {x y : Value} {Q : Value → Shared → Prop} (D : ZipApart z TI TO i1 i2 l1 l2)
    (hz : IsZipHeld s.heap z TI TO T f) (hT : s.heap.get? T = some oT) (hTI : IsPair s.heap TI (.ref i1) (.ref i2))
    (h1 : s.heap.IsTupleIter i1 l1 k1) (h2 : s.heap.IsTupleIter i2 l2 k2) (hl1 : s.heap.IsTuple l1 xs) (hl2 : s.heap.IsTuple l2 ys) (hx : xs[k1]? = some x) (hy : ys[k2]? = some y)
    (hQ : ∀ h', IsZipHeld h' z TI TO T true → h'.IsTupleIter i1 l1 (k1 + 1) → h'.IsTupleIter i2 l2 (k2 + 1) → IsPair h' s.heap.objs.size x y → h'.objs.size = s.heap.objs.size + 1 →
      (∀ c o, c ≠ z → c ≠ i1 → c ≠ i2 → s.heap.get? c = some o → h'.get? c = some o) → Q (.ref s.heap.objs.size) { s with heap := h' }) :
    wpAny (model prog w) A (Builtin.«zip.__next__» ⟨[.ref z], []⟩) (fun fin s' => ∃ v, fin = .done (.ret v) ∧ Q v s') E s := by
  show wpAny _ _ (field (.ref z) 2 >>= _) _ _ _
  refine wpAny_bind (wpAny_field hz rfl (x := .bool false) rfl ?_)
  show wpAny _ _ (field (.ref z) 3 >>= _) _ _ _
  refine wpAny_bind (wpAny_field hz rfl (x := .ref TI) rfl ?_)
  refine wpAny_bind (wpAny_seqItems hTI rfl ?_)
  show wpAny _ _ (Builtin.SmallTypes.ownedTupleIsFree (.ref z) >>= _) _ _ _
  refine wpAny_bind (wpAny_tupleHeld_zip hz hT fun h₁ hz₁ hs₁ => ?_)
  simp only [Bool.false_eq_true, if_false]
  refine wpAny_bind ?_
  rw [← Array.forIn_toList]
  simp only [List.forIn_cons, List.forIn_nil]
  refine wpAny_bind (wpAny_bind (wpAny_holding ?_))
  show wpAny _ _ (Builtin.SmallTypes.nextOf (.ref i1) >>= _) _ _ _
  refine wpAny_bind (nextOf_tuple_item (s := { s with heap := h₁ }) (h1.extBut hs₁.extBut D.i1z) (hl1.extBut hs₁.extBut D.l1z) hx fun h₂ h1₂ hs₂ => wpAny_pure ?_)
  refine wpAny_pure ?_
  refine wpAny_bind (wpAny_bind (wpAny_holding ?_))
  show wpAny _ _ (Builtin.SmallTypes.nextOf (.ref i2) >>= _) _ _ _
  refine wpAny_bind (nextOf_tuple_item (s := { s with heap := h₂ }) ((h2.extBut hs₁.extBut D.i2z).extBut hs₂.extBut D.i12.symm) ((hl2.extBut hs₁.extBut D.l2z).extBut hs₂.extBut D.l2i1) hy fun h₃ h2₃ hs₃ => wpAny_pure ?_)
  refine wpAny_pure (wpAny_pure ?_)
  show wpAny _ _ (newTuple [x, y] >>= _) _ _ _
  refine wpAny_bind (wpAny_newTuple ?_)
  have hsz : h₃.objs.size = s.heap.objs.size := by rw [hs₃.1, hs₂.1, hs₁.1]
  have hz₃ : IsZipHeld h₃ z TI TO T true := hs₃.extBut _ _ D.i2z.symm (hs₂.extBut _ _ D.i1z.symm hz₁)
  have hk : ∀ c o, c ≠ z → c ≠ i1 → c ≠ i2 → s.heap.get? c = some o → h₃.get? c = some o := fun c o c1 c2 c3 e => hs₃.extBut _ _ c3 (hs₂.extBut _ _ c2 (hs₁.extBut _ _ c1 e))
  have h1₃ : h₃.IsTupleIter i1 l1 (k1 + 1) := h1₂.extBut hs₃.extBut D.i12
  refine wpAny_pure ⟨_, rfl, ?_⟩
  show Q (.ref h₃.objs.size) _
  have hp : IsPair (h₃.push { cls := .type "tuple", data := .seq #[x, y] }) h₃.objs.size x y := Heap.get?_push_size _ rfl
  have hz4 : (h₃.push { cls := .type "tuple", data := .seq #[x, y] }).objs.size = h₃.objs.size + 1 := Heap.size_push ..
  rw [hsz] at hp hz4 ⊢
  exact hQ _ (Heap.get?_push_of_some _ hz₃) (h1₃.at fun o e => Heap.get?_push_of_some _ e) (h2₃.at fun o e => Heap.get?_push_of_some _ e) hp hz4 fun c o c1 c2 c3 e => Heap.get?_push_of_some _ (hk c o c1 c2 c3 e)
theorem zipT_end_held {z TI TO T i1 i2 l1 l2 : Addr} {f : Bool} {oT : Obj} {k1 k2 : Nat} {xs ys : Array Value} {Q : Fin → Shared → Prop} (hh : A.handled = none) (D : ZipApart z TI TO i1 i2 l1 l2)
    (hz : IsZipHeld s.heap z TI TO T f) (hT : s.heap.get? T = some oT) (hTI : IsPair s.heap TI (.ref i1) (.ref i2))
    (h1 : s.heap.IsTupleIter i1 l1 k1) (h2 : s.heap.IsTupleIter i2 l2 k2) (hl1 : s.heap.IsTuple l1 xs) (hl2 : s.heap.IsTuple l2 ys) (hx : xs[k1]? = none)
    (hE : ∀ h' e, (∀ c o, c ≠ z → c ≠ i1 → c ≠ i2 → s.heap.get? c = some o → h'.get? c = some o) → (∃ o, h'.get? e = some o ∧ o.cls = .type "StopIteration") → E (.ref e) { s with heap := h' }) :
    wpAny (model prog w) A (Builtin.«zip.__next__» ⟨[.ref z], []⟩) Q E s := by
  show wpAny _ _ (field (.ref z) 2 >>= _) _ _ _
  refine wpAny_bind (wpAny_field hz rfl (x := .bool false) rfl ?_)
  show wpAny _ _ (field (.ref z) 3 >>= _) _ _ _
  refine wpAny_bind (wpAny_field hz rfl (x := .ref TI) rfl ?_)
  refine wpAny_bind (wpAny_seqItems hTI rfl ?_)
  show wpAny _ _ (Builtin.SmallTypes.ownedTupleIsFree (.ref z) >>= _) _ _ _
  refine wpAny_bind (wpAny_tupleHeld_zip hz hT fun h₁ hz₁ hs₁ => ?_)
  simp only [Bool.false_eq_true, if_false]
  refine wpAny_bind ?_
  rw [← Array.forIn_toList]
  simp only [List.forIn_cons, List.forIn_nil]
  refine wpAny_bind (wpAny_bind (wpAny_holding ?_))
  show wpAny _ _ (Builtin.SmallTypes.nextOf (.ref i1) >>= _) _ _ _
  refine wpAny_bind (nextOf_tuple_end (s := { s with heap := h₁ }) hh (h1.extBut hs₁.extBut D.i1z) (hl1.extBut hs₁.extBut D.l1z) hx fun h₂ e hs₂ he => ?_)
  exact hE h₂ e (fun c o c1 c2 _ x => hs₂ _ _ c2 (hs₁.extBut _ _ c1 x)) he
/-- a zip of two tuples between two turns of list(..) -/
structure ZSt (h : Heap) (z TI TO i1 i2 l1 l2 S lo : Addr) (xs ys : Array Value) (i : Nat) : Prop where
  zip : (i = 0 ∧ IsZip h z TI TO .none ∧ ∃ a b, IsPair h TO a b) ∨ ∃ T f oT, IsZipHeld h z TI TO T f ∧ h.get? T = some oT ∧ lo ≤ T
  ti : IsPair h TI (.ref i1) (.ref i2)
  h1 : h.IsTupleIter i1 l1 i
  h2 : h.IsTupleIter i2 l2 i
  l1' : h.IsTuple l1 xs
  l2' : h.IsTuple l2 ys
/-- the addresses that are there ahead of the pairs -/
structure ZLo (z TI TO i1 i2 l1 l2 S lo : Addr) : Prop where
  z' : z < lo
  TI' : TI < lo
  TO' : TO < lo
  i1' : i1 < lo
  i2' : i2 < lo
  l1' : l1 < lo
  l2' : l2 < lo
  S' : S < lo
  Sz : S ≠ z
  STI : S ≠ TI
  STO : S ≠ TO
  Si1 : S ≠ i1
  Si2 : S ≠ i2
  Sl1 : S ≠ l1
  Sl2 : S ≠ l2
variable {z TI TO i1 i2 l1 l2 S lo : Addr} {xs ys : Array Value}
theorem ZSt.upd {h h' : Heap} {i : Nat} (L : ZLo z TI TO i1 i2 l1 l2 S lo) (st : ZSt h z TI TO i1 i2 l1 l2 S lo xs ys i) (k : ∀ b o, b ≠ S → h.get? b = some o → h'.get? b = some o) : ZSt h' z TI TO i1 i2 l1 l2 S lo xs ys i where
  zip := by
    rcases st.zip with ⟨e, hz, a, b, ht⟩ | ⟨T, f, oT, hz, hT, hl⟩
    · exact .inl ⟨e, k _ _ L.Sz.symm hz, a, b, k _ _ L.STO.symm ht⟩
    · exact .inr ⟨T, f, oT, k _ _ L.Sz.symm hz, k _ _ (fun e => by have := L.S'; rw [e] at hl; exact absurd hl (Nat.not_le.mpr this)) hT, hl⟩
  ti := k _ _ L.STI.symm st.ti
  h1 := st.h1.at fun o e => k _ _ L.Si1.symm e
  h2 := st.h2.at fun o e => k _ _ L.Si2.symm e
  l1' := by
    obtain ⟨o, ho, r⟩ := st.l1'
    exact ⟨o, k _ _ L.Sl1.symm ho, r⟩
  l2' := by
    obtain ⟨o, ho, r⟩ := st.l2'
    exact ⟨o, k _ _ L.Sl2.symm ho, r⟩
theorem tup_keep {h h' : Heap} {l : Addr} {its : Array Value} (t : h.IsTuple l its) (k : ∀ o, h.get? l = some o → h'.get? l = some o) : h'.IsTuple l its := by
  obtain ⟨o, ho, r⟩ := t
  exact ⟨o, k o ho, r⟩
theorem zst_item {i : Nat} {x y : Value} {Q : Option Value → Shared → Prop} (D : ZipApart z TI TO i1 i2 l1 l2) (L : ZLo z TI TO i1 i2 l1 l2 S lo) (hlo : lo ≤ s.heap.objs.size) (st : ZSt s.heap z TI TO i1 i2 l1 l2 S lo xs ys i) (hx : xs[i]? = some x) (hy : ys[i]? = some y)
    (hQ : ∀ h', ZSt h' z TI TO i1 i2 l1 l2 S lo xs ys (i + 1) → IsPair h' s.heap.objs.size x y → h'.objs.size = s.heap.objs.size + 1 →
      (∀ c o, c ≠ z → c ≠ TO → c ≠ i1 → c ≠ i2 → s.heap.get? c = some o → h'.get? c = some o) → Q (some (.ref s.heap.objs.size)) { s with heap := h' }) :
    wpAny (model prog w) A (pyNext (.ref z)) Q E s := by
  rcases st.zip with ⟨e, hz, a, b, ht⟩ | ⟨T, f, oT, hz, hT, hl⟩
  · refine pyNext_zipT_item D hz st.ti ht st.h1 st.h2 st.l1' st.l2' hx hy fun h' z' to' a1 a2 pr sz k => hQ h' ⟨.inr ⟨s.heap.objs.size, false, _, z', pr, hlo⟩, ?_, a1, a2, ?_, ?_⟩ pr sz k
    · exact k _ _ D.TIz D.TITO D.TIi1 D.TIi2 st.ti
    · exact tup_keep st.l1' fun o q => k _ _ D.l1z D.l1TO D.l1i1 D.l1i2 q
    · exact tup_keep st.l2' fun o q => k _ _ D.l2z D.l2TO D.l2i1 D.l2i2 q
  · have hTy : s.TypeIs (.ref z) "zip" := ⟨_, hz, rfl⟩
    unfold pyNext
    refine wpAny_bind (wpAny_attempt (wpAny_callSpecial?_slot (name := Str.ofString "__next__") hTy F.slot_zip_next
      (wpAny_call_entry F.slot_zip_next hTy F.entry_zip_next
        (zipT_item_held D hz hT st.ti st.h1 st.h2 st.l1' st.l2' hx hy fun h' z' a1 a2 pr sz k => wpAny_pure (hQ h' ⟨.inr ⟨T, true, oT, z', ?_, hl⟩, ?_, a1, a2, ?_, ?_⟩ pr sz fun c o c1 _ c3 c4 q => k c o c1 c3 c4 q)) (F.args_zip_next_1 _))))
    · exact k _ _ (fun e => by rw [e] at hl; exact absurd hl (Nat.not_le.mpr L.z')) (fun e => by rw [e] at hl; exact absurd hl (Nat.not_le.mpr L.i1')) (fun e => by rw [e] at hl; exact absurd hl (Nat.not_le.mpr L.i2')) hT
    · exact k _ _ D.TIz D.TIi1 D.TIi2 st.ti
    · exact tup_keep st.l1' fun o q => k _ _ D.l1z D.l1i1 D.l1i2 q
    · exact tup_keep st.l2' fun o q => k _ _ D.l2z D.l2i1 D.l2i2 q
theorem zst_done {i : Nat} {Q : Option Value → Shared → Prop} (hh : A.handled = none) (D : ZipApart z TI TO i1 i2 l1 l2) (st : ZSt s.heap z TI TO i1 i2 l1 l2 S lo xs ys i) (hx : xs[i]? = none)
    (hQ : ∀ h', (∀ c o, c ≠ z → c ≠ TO → c ≠ i1 → c ≠ i2 → s.heap.get? c = some o → h'.get? c = some o) → Q none { s with heap := h' }) : wpAny (model prog w) A (pyNext (.ref z)) Q E s := by
  rcases st.zip with ⟨e, hz, a, b, ht⟩ | ⟨T, f, oT, hz, hT, hl⟩
  · exact pyNext_zipT_end hh D hz st.ti ht st.h1 st.h2 st.l1' st.l2' (.inl hx) hQ
  · have hTy : s.TypeIs (.ref z) "zip" := ⟨_, hz, rfl⟩
    unfold pyNext
    refine wpAny_bind (wpAny_attempt (wpAny_callSpecial?_slot (name := Str.ofString "__next__") hTy F.slot_zip_next
      (wpAny_call_entry F.slot_zip_next hTy F.entry_zip_next (zipT_end_held hh D hz hT st.ti st.h1 st.h2 st.l1' st.l2' hx fun h' e hk he => ?_) (F.args_zip_next_1 _))))
    obtain ⟨o, ho, hc⟩ := he
    refine wpAny_bind (wpAny_isInstance (T := "StopIteration") (b := true) ⟨o, ho, hc⟩ isSubtype_stop ?_)
    exact wpAny_pure (hQ _ fun c o c1 _ c3 c4 q => hk c o c1 c3 c4 q)
/-- the pairs made so far -/
structure ZG (xs ys : Array Value) (lo : Addr) (h : Heap) (as : List Addr) : Prop where
  rise : as.Pairwise (· < ·)
  above : ∀ a ∈ as, lo ≤ a
  pairs : ∀ (j : Nat) (a : Addr), as[j]? = some a → ∃ x y, xs[j]? = some x ∧ ys[j]? = some y ∧ IsPair h a x y
theorem ZG.there {h : Heap} {as : List Addr} (g : ZG xs ys lo h as) {a : Addr} (ha : a ∈ as) : a < h.objs.size := by
  obtain ⟨j, hj⟩ := List.mem_iff_getElem?.mp ha
  obtain ⟨_, _, _, _, e⟩ := g.pairs j a hj
  exact Heap.lt_size e
theorem zl_loop {R : Result → Shared → Prop} (hh : A.handled = none) (D : ZipApart z TI TO i1 i2 l1 l2) (L : ZLo z TI TO i1 i2 l1 l2 S lo) (hl : xs.size = ys.size) (hn : xs.size ≤ sizeLine) (res : Value) {h₁ : Heap}
    (hR : ∀ h' tk acc c as, (∀ b o, b ≠ S → b ≠ z → b ≠ TO → b ≠ i1 → b ≠ i2 → h₁.get? b = some o → h'.get? b = some o) → h'.get? S = some { cls := .type "list", dict := none, data := .seq acc c, slots := #[] } → as.length = xs.size → ZG xs ys lo h' as →
      acc.toList = as.map Value.ref → R (.ok (.ret res)) { s with heap := h', toks := tk }) :
    ∀ (k i : Nat) (h : Heap) (tk c : Nat) (acc : Array Value) (as : List Addr), xs.size - i = k → i ≤ xs.size → ZSt h z TI TO i1 i2 l1 l2 S lo xs ys i → (∀ b o, b ≠ S → b ≠ z → b ≠ TO → b ≠ i1 → b ≠ i2 → h₁.get? b = some o → h.get? b = some o) →
      h.get? S = some { cls := .type "list", dict := none, data := .seq acc c, slots := #[] } → acc.toList = as.map Value.ref → as.length = i → ZG xs ys lo h as → lo ≤ h.objs.size →
      codeAny (model prog w) A (.builtin "list.extend.loop" ⟨[.ref S, .ref z, res], []⟩) R { s with heap := h, toks := tk } := by
  intro k
  induction k with
  | zero =>
    intro i h tk c acc as hk hi st hkeep hS hacc hal hG hlo
    have hin : i = xs.size := by omega
    refine codeAny_builtin PySem.F.entry_extend_loop ?_
    rw [Around.under_plainId PySem.F.plain_extend_loop _]
    show wpAny _ A.in1 (pyNext (.ref z) >>= _) _ _ _
    refine wpAny_bind (zst_done (s := { s with heap := h, toks := tk }) (A := A.in1) hh D st (Array.getElem?_eq_none (by omega)) fun h' he => ?_)
    refine wpAny_pure (hR h' tk acc c as (fun b o h1 h2 h3 h4 h5 e => he b o h2 h3 h4 h5 (hkeep b o h1 h2 h3 h4 h5 e)) (he S _ L.Sz L.STO L.Si1 L.Si2 hS) (by omega) ⟨hG.rise, hG.above, fun j a hj => ?_⟩ hacc)
    obtain ⟨x, y, e1, e2, e3⟩ := hG.pairs j a hj
    have ha := hG.above a (List.mem_of_getElem? hj)
    exact ⟨x, y, e1, e2, he a _ (Nat.ne_of_gt (Nat.lt_of_lt_of_le L.z' ha)) (Nat.ne_of_gt (Nat.lt_of_lt_of_le L.TO' ha)) (Nat.ne_of_gt (Nat.lt_of_lt_of_le L.i1' ha)) (Nat.ne_of_gt (Nat.lt_of_lt_of_le L.i2' ha)) e3⟩
  | succ k ih =>
    intro i h tk c acc as hk hi st hkeep hS hacc hal hG hlo
    have hlt : i < xs.size := by omega
    have hx : xs[i]? = some xs[i] := Array.getElem?_eq_getElem hlt
    have hlt2 : i < ys.size := by omega
    have hy : ys[i]? = some ys[i] := Array.getElem?_eq_getElem hlt2
    have hsz : acc.size = i := by rw [← Array.length_toList, hacc, List.length_map, hal]
    refine codeAny_builtin PySem.F.entry_extend_loop ?_
    rw [Around.under_plainId PySem.F.plain_extend_loop _]
    show wpAny _ A.in1 (pyNext (.ref z) >>= _) _ _ _
    refine wpAny_bind (zst_item (s := { s with heap := h, toks := tk }) (A := A.in1) D L hlo st hx hy fun h' st' ht hz hkp => ?_)
    dsimp only at ht hz hkp ⊢
    have hS' := hkp S _ L.Sz L.STO L.Si1 L.Si2 hS
    have up : ∀ b o, b ≠ S → h'.get? b = some o → (h'.update S (Obj.mapSeq (·.push (Value.ref h.objs.size)))).get? b = some o := fun b o hb e => (Heap.get?_update_other _ _ (Ne.symm hb)).trans e
    have hSl : S < h.objs.size := Heap.lt_size hS
    show wpAny _ A.in1 (updateSeq S (·.push (Value.ref h.objs.size)) >>= _) _ _ _
    refine wpAny_bind ?_
    refine wpAny_updateSeq hS' rfl (wpAny_pure ⟨plainId_quiet PySem.F.plain_extend_loop _, ih (i + 1) _ tk _ (acc.push (Value.ref h.objs.size)) (as ++ [h.objs.size]) (by omega) hlt (st'.upd L up)
      (fun b o h1 h2 h3 h4 h5 e => up b o h1 (hkp b o h2 h3 h4 h5 (hkeep b o h1 h2 h3 h4 h5 e))) (Heap.get?_update_self _ hS' rfl) (by rw [Array.toList_push, hacc, List.map_append]; rfl) (by rw [List.length_append, hal]; rfl) ⟨?_, ?_, ?_⟩ ?_⟩) (by rw [hsz]; omega) (by show (acc.push (Value.ref h.objs.size)).size ≤ sizeLine + 1; rw [Array.size_push, hsz]; omega)
    · refine List.pairwise_append.mpr ⟨hG.rise, List.pairwise_singleton _ _, fun a ha b hb => ?_⟩
      rw [List.mem_singleton.mp hb]
      exact hG.there ha
    · intro a ha
      rcases List.mem_append.mp ha with ha | ha
      · exact hG.above a ha
      · rw [List.mem_singleton.mp ha]; exact hlo
    · intro j b hj
      rcases Nat.lt_trichotomy j as.length with h1 | h1 | h1
      · rw [List.getElem?_append_left h1] at hj
        obtain ⟨x', y', e1, e2, e3⟩ := hG.pairs j b hj
        have hb := hG.above b (List.mem_of_getElem? hj)
        exact ⟨x', y', e1, e2, up b _ (Nat.ne_of_gt (Nat.lt_of_lt_of_le L.S' hb)) (hkp b _ (Nat.ne_of_gt (Nat.lt_of_lt_of_le L.z' hb)) (Nat.ne_of_gt (Nat.lt_of_lt_of_le L.TO' hb)) (Nat.ne_of_gt (Nat.lt_of_lt_of_le L.i1' hb)) (Nat.ne_of_gt (Nat.lt_of_lt_of_le L.i2' hb)) e3)⟩
      · subst h1
        have hb : h.objs.size = b := by simpa using hj
        subst hb
        exact ⟨xs[i], ys[i], by rw [hal]; exact hx, by rw [hal]; exact hy, up _ _ (Nat.ne_of_gt hSl) ht⟩
      · have hnone : (as ++ [h.objs.size])[j]? = none := List.getElem?_eq_none (by rw [List.length_append, List.length_singleton]; omega)
        rw [hnone] at hj; cases hj
    · have e : (h'.update S (Obj.mapSeq (·.push (Value.ref h.objs.size)))).get? h.objs.size = _ := up _ _ (Nat.ne_of_gt hSl) ht
      exact Nat.le_trans hlo (Nat.le_of_lt (Heap.lt_size e))
end
end LmR

set_option Elab.async false
set_option linter.all false
set_option maxRecDepth 100000
set_option maxHeartbeats 2000000
namespace LmR
open PySem PySem.Spec PyProof.Rows L2 RZ
section
variable {prog : Program} {w : World} {A : Around} {E : Value → Shared → Prop} {s : Shared}
variable {z TI TO i1 i2 l1 l2 S lo : Addr} {xs ys : Array Value}
theorem zl_extend {R : Result → Shared → Prop} (hh : A.handled = none) (D : ZipApart z TI TO i1 i2 l1 l2) (L : ZLo z TI TO i1 i2 l1 l2 S lo) (hl : xs.size = ys.size) (hn : xs.size ≤ sizeLine) (res : Value) (c₀ : Nat) (hlo : lo ≤ s.heap.objs.size)
    (st : ZSt s.heap z TI TO i1 i2 l1 l2 S lo xs ys 0) (hz : IsZip s.heap z TI TO .none) (hS : s.heap.get? S = some { cls := .type "list", data := .seq #[] c₀ })
    (hR : ∀ h' tk acc c as, (∀ b o, b ≠ S → b ≠ z → b ≠ TO → b ≠ i1 → b ≠ i2 → s.heap.get? b = some o → h'.get? b = some o) → h'.get? S = some { cls := .type "list", dict := none, data := .seq acc c, slots := #[] } → as.length = xs.size → ZG xs ys lo h' as →
      acc.toList = as.map Value.ref → R (.ok (.ret res)) { s with heap := h', toks := tk }) :
    wpAny (model prog w) A.in1 (Builtin.List.listExtendWith (.ref S) (.ref z) res)
      (fun fin s' => match fin with | .done f => R (.ok f) s' | .again c' => c'.quiet = true ∧ codeAny (model prog w) A c' R s') (fun e s' => R (.error e) s') s := by
  have hT : s.TypeIs (.ref z) "zip" := ⟨_, hz, rfl⟩
  unfold Builtin.List.listExtendWith
  refine wpAny_bind (wpAny_typeOf hT ?_)
  have h1 : Builtin.List.listSameRef (.ref S) (.ref z) = false := by simp [Builtin.List.listSameRef, L.Sz]
  have h2 : (Value.type "zip" == Value.type "list") = false := by decide
  have h3 : (Value.type "zip" == Value.type "tuple") = false := by decide
  simp only [h1, h2, h3, Bool.or_false, Bool.false_eq_true, if_false]
  refine wpAny_bind (wpAny_pyIter_zip hz ?_)
  refine wpAny_bind (wpAny_holding ?_)
  unfold Builtin.List.listLengthHint
  refine wpAny_bind (wpAny_specialOf hT zip_no_len ?_)
  show wpAny _ A.in1 (specialOf (Value.ref z) (Str.ofString "__length_hint__") >>= _) _ _ _
  refine wpAny_bind (wpAny_specialOf hT zip_no_hint ?_)
  refine wpAny_pure ?_
  show wpAny _ A.in1 (rule "list.extend.makes-room" >>= fun _ => Builtin.List.listTouch (.ref S) >>= fun _ =>
    again (.builtin "list.extend.loop" ⟨[.ref S, .ref z, res], []⟩)) _ _ _
  refine wpAny_bind (wpAny_rule ?_)
  refine wpAny_bind ?_
  show wpAny _ A.in1 (updateSeq S (·.push .none) >>= fun _ => updateSeq S (·.pop)) _ _ _
  refine wpAny_bind (wpAny_updateSeq hS rfl ?_)
  have hS₂ := Heap.get?_update_self (Obj.mapSeq (·.push Value.none)) hS rfl
  refine wpAny_updateSeq (hz := by seq_fits) hS₂ rfl ?_
  have hS₃ := Heap.get?_update_self (Obj.mapSeq (·.pop)) hS₂ rfl
  have oth : ∀ b o, b ≠ S → s.heap.get? b = some o → ((s.heap.update S (Obj.mapSeq (·.push Value.none))).update S (Obj.mapSeq (·.pop))).get? b = some o :=
    fun b o hb e => (Heap.get?_update_other _ _ (Ne.symm hb)).trans ((Heap.get?_update_other _ _ (Ne.symm hb)).trans e)
  refine wpAny_pure ⟨plainId_quiet PySem.F.plain_extend_loop _, zl_loop (s := s) (h₁ := s.heap) hh D L hl hn res hR xs.size 0 _ s.toks _ #[] [] (Nat.sub_zero _) (Nat.zero_le _) (st.upd L oth) (fun b o h1 _ _ _ _ e => oth b o h1 e) hS₃ rfl rfl ⟨List.Pairwise.nil, (fun _ ha => nomatch ha), (fun j a hj => by simp at hj)⟩ ?_⟩
  have zz := oth z _ L.Sz.symm hz
  have e1 : ((s.heap.update S (Obj.mapSeq (·.push Value.none))).update S (Obj.mapSeq (·.pop))).objs.size = s.heap.objs.size := by
    first
      | (rw [Heap.size_update, Heap.size_update])
      | (simp [Heap.update])
  rw [e1]
  exact hlo
theorem zl_init {R : Result → Shared → Prop} (hh : A.handled = none) (D : ZipApart z TI TO i1 i2 l1 l2) (L : ZLo z TI TO i1 i2 l1 l2 S lo) (hl : xs.size = ys.size) (hn : xs.size ≤ sizeLine) (hlo : lo ≤ s.heap.objs.size)
    (st : ZSt s.heap z TI TO i1 i2 l1 l2 S lo xs ys 0) (hz : IsZip s.heap z TI TO .none) (hS : s.heap.get? S = some { cls := .type "list", data := .seq #[] })
    (hR : ∀ h' tk acc c as, (∀ b o, b ≠ S → b ≠ z → b ≠ TO → b ≠ i1 → b ≠ i2 → s.heap.get? b = some o → h'.get? b = some o) → h'.get? S = some { cls := .type "list", dict := none, data := .seq acc c, slots := #[] } → as.length = xs.size → ZG xs ys lo h' as →
      acc.toList = as.map Value.ref → R (.ok (.ret .none)) { s with heap := h', toks := tk }) :
    wpAny (model prog w) A.in1 (Builtin.«list.__init__» ⟨[.ref S, .ref z], []⟩)
      (fun fin s' => match fin with | .done f => R (.ok f) s' | .again c' => c'.quiet = true ∧ codeAny (model prog w) A c' R s') (fun e s' => R (.error e) s') s := by
  show wpAny _ _ (do let old ← Builtin.List.listItems (.ref S); Builtin.List.listUpdate (.ref S) (fun _ => #[]); letGo old.toList.reverse; Builtin.List.listExtendWith (.ref S) (.ref z) .none) _ _ s
  refine wpAny_bind ?_
  unfold Builtin.List.listItems
  refine wpAny_bind (wpAny_seqItems hS rfl (wpAny_pure ?_))
  show wpAny _ _ (updateSeq S (fun _ => #[]) >>= fun _ => letGo (#[] : Array Value).toList.reverse >>= fun _ => Builtin.List.listExtendWith (.ref S) (.ref z) .none) _ _ s
  refine wpAny_bind (wpAny_updateSeq hS rfl ?_)
  have hS₂ := Heap.get?_update_self (Obj.mapSeq (fun _ => (#[] : Array Value))) hS rfl
  have oth : ∀ b o, b ≠ S → s.heap.get? b = some o → (s.heap.update S (Obj.mapSeq (fun _ => (#[] : Array Value)))).get? b = some o :=
    fun b o hb e => (Heap.get?_update_other _ _ (Ne.symm hb)).trans e
  refine wpAny_bind (wpAny_letGo ?_)
  have e1 : (s.heap.update S (Obj.mapSeq (fun _ => (#[] : Array Value)))).objs.size = s.heap.objs.size := by
    first
      | (rw [Heap.size_update])
      | (simp [Heap.update])
  refine zl_extend hh D L hl hn .none _ (by show lo ≤ (s.heap.update S _).objs.size; rw [e1]; exact hlo) (st.upd L oth) (oth z _ L.Sz.symm hz) hS₂ (fun h' tk acc c as hk hS' hl' hG hacc => ?_)
  exact hR h' tk acc c as (fun b o h1 h2 h3 h4 h5 e => hk b o h1 h2 h3 h4 h5 (oth b o h1 e)) hS' hl' hG hacc
theorem zl_call {Q : Value → Shared → Prop} (hh : A.handled = none) (D : ZipApart z TI TO i1 i2 l1 l2) (hl : xs.size = ys.size) (hn : xs.size ≤ sizeLine)
    (hz : IsZip s.heap z TI TO .none) (hTI : IsPair s.heap TI (.ref i1) (.ref i2)) (hTO : ∃ a b, IsPair s.heap TO a b) (h1 : s.heap.IsTupleIter i1 l1 0) (h2 : s.heap.IsTupleIter i2 l2 0) (hl1 : s.heap.IsTuple l1 xs) (hl2 : s.heap.IsTuple l2 ys)
    (hQ : ∀ h' tk acc c as, (∀ b o, b ≠ z → b ≠ TO → b ≠ i1 → b ≠ i2 → s.heap.get? b = some o → h'.get? b = some o) → h'.get? s.heap.objs.size = some { cls := .type "list", dict := none, data := .seq acc c, slots := #[] } → as.length = xs.size → ZG xs ys (s.heap.objs.size + 1) h' as →
      acc.toList = as.map Value.ref → Q (.ref s.heap.objs.size) { s with heap := h', toks := tk }) :
    wpAny (model prog w) A (call (.type "list") [.ref z]) Q E s := by
  refine callType_codes (Q₁ := fun obj s₁ => obj = .ref s.heap.objs.size ∧ s₁ = { s with heap := s.heap.push { cls := .type "list", data := .seq #[] } }) PySem.F.called_list (PySem.F.typeCall_list_1 _) PySem.F.entry_list_init
    (code_list_new _ ⟨rfl, rfl⟩) fun obj s₁ h₁ => ?_
  obtain ⟨rfl, rfl⟩ := h₁
  have hS : (s.heap.push { cls := .type "list", data := .seq #[] }).get? s.heap.objs.size = some { cls := .type "list", data := .seq #[] } := Heap.get?_push_size _ rfl
  have kp : ∀ b o, s.heap.get? b = some o → (s.heap.push { cls := .type "list", data := .seq #[] }).get? b = some o := fun b o e => Heap.get?_push_of_some _ e
  have lz := Heap.lt_size hz
  have lTI := Heap.lt_size hTI
  obtain ⟨ta, tb, hTO'⟩ := hTO
  have lTO := Heap.lt_size hTO'
  have li1 : i1 < s.heap.objs.size := let ⟨_, e, _⟩ := h1; Heap.lt_size e
  have li2 : i2 < s.heap.objs.size := let ⟨_, e, _⟩ := h2; Heap.lt_size e
  have ll1 : l1 < s.heap.objs.size := let ⟨_, e, _⟩ := hl1; Heap.lt_size e
  have ll2 : l2 < s.heap.objs.size := let ⟨_, e, _⟩ := hl2; Heap.lt_size e
  have L : ZLo z TI TO i1 i2 l1 l2 s.heap.objs.size (s.heap.objs.size + 1) := ⟨Nat.lt_succ_of_lt lz, Nat.lt_succ_of_lt lTI, Nat.lt_succ_of_lt lTO, Nat.lt_succ_of_lt li1, Nat.lt_succ_of_lt li2, Nat.lt_succ_of_lt ll1, Nat.lt_succ_of_lt ll2, Nat.lt_succ_self _,
    Nat.ne_of_gt lz, Nat.ne_of_gt lTI, Nat.ne_of_gt lTO, Nat.ne_of_gt li1, Nat.ne_of_gt li2, Nat.ne_of_gt ll1, Nat.ne_of_gt ll2⟩
  have st : ZSt (s.heap.push { cls := .type "list", data := .seq #[] }) z TI TO i1 i2 l1 l2 s.heap.objs.size (s.heap.objs.size + 1) xs ys 0 :=
    ⟨.inl ⟨rfl, kp _ _ hz, ta, tb, kp _ _ hTO'⟩, kp _ _ hTI, h1.at fun o e => kp _ _ e, h2.at fun o e => kp _ _ e, tup_keep hl1 fun o e => kp _ _ e, tup_keep hl2 fun o e => kp _ _ e⟩
  refine ⟨⟨_, hS, rfl⟩, PySem.F.args_list_init_2 _ _, zl_init (A := A.in1) hh D L hl hn (by show s.heap.objs.size + 1 ≤ (s.heap.push _).objs.size; rw [Heap.size_push]; exact Nat.le_refl _) st (kp _ _ hz) hS (fun h' tk acc c as hk hS' hl' hG hacc => ?_)⟩
  exact ⟨rfl, hQ h' tk acc c as (fun b o c1 c2 c3 c4 e => hk b o (Nat.ne_of_lt (Heap.lt_size e)) c1 c2 c3 c4 (kp b o e)) hS' hl' hG hacc⟩
end
/-! ### the rule -/
/-- pairs tracked at their addresses -/
def putZ : Hp → List Addr → List (V × V) → Hp
  | H, a :: as, p :: ps => putZ (upd H a (.tup [p.1, p.2])) as ps
  | H, _, _ => H
theorem putZ_off {b : Addr} : ∀ (as : List Addr) (ps : List (V × V)) (H : Hp), b ∉ as → putZ H as ps b = H b
  | [], _, _, _ => rfl
  | _ :: _, [], _, _ => rfl
  | a :: as, p :: ps, H, h => by
    show putZ (upd H a (.tup [p.1, p.2])) as ps b = H b
    rw [putZ_off as ps _ (fun z => h (List.mem_cons_of_mem _ z)), upd_ne (fun z => h (by rw [z]; exact List.mem_cons_self))]
theorem putZ_at : ∀ (as : List Addr) (ps : List (V × V)) (H : Hp) (j : Nat) (a : Addr) (p : V × V), as.Nodup → as[j]? = some a → ps[j]? = some p → putZ H as ps a = some (.tup [p.1, p.2])
  | [], _, _, j, _, _, _, h, _ => by simp at h
  | _ :: _, [], _, j, _, _, _, _, h => by simp at h
  | a :: as, p :: ps, H, 0, b, q, nd, h1, h2 => by
    have e1 : a = b := Option.some.inj h1
    have e2 : p = q := Option.some.inj h2
    subst e1 e2
    show putZ (upd H a (.tup [p.1, p.2])) as ps a = some (.tup [p.1, p.2])
    rw [putZ_off as ps _ (List.nodup_cons.mp nd).1, upd_same]
  | a :: as, p :: ps, H, j + 1, b, q, nd, h1, h2 => putZ_at as ps _ j b q (List.nodup_cons.mp nd).2 h1 h2
/-- list(zip(t, u)) of two tuples of one length -/
def tListZip (K : PySem.W.Frag) (ta : TA) : TE := fun σ H Q => ta σ H fun vs H1 => ∃ (a b : Addr) (xs ys : List V), vs = [.ref a, .ref b] ∧ SqT K H1 a xs ∧ SqT K H1 b ys ∧ xs.length = ys.length ∧
  ∀ (H' : Hp) (p : Addr) (ts : List Addr), Same H1 H' → H1 p = none → (∀ t ∈ ts, H1 t = none) → H' p = some (.lst (ts.map V.ref)) → ts.length = xs.length →
    (∀ (j : Nat) (t : Addr), ts[j]? = some t → ∃ x y, xs[j]? = some x ∧ ys[j]? = some y ∧ H' t = some (.tup [x, y])) → Q (.ref p) H'
section
variable {X : Cx}
theorem pe_listZip {e e2 : Expr} {ta : TA} {p p2 pos pos2 : Pos} (hc : X.calm = true) (hgl : Gl X "list") (hml : X.mg "list" = none) (hgz : Gl X "zip") (hmz : X.mg "zip" = none) (ha : PA X [e, e2] ta)
    (hs : starEach [e, e2] X.env = (false, eval e X.env) :: starEach [e2] X.env := by rfl) (hpl : (backTo pos2 (starEach [e2] X.env)).any (·.1) = false := by rfl)
    (hs2 : starEach [.Call (.Name "zip" p2) [e, e2] [] pos2] X.env = (false, eval (.Call (.Name "zip" p2) [e, e2] [] pos2) X.env) :: starEach [] X.env := by rfl) :
    PE X (.Call (.Name "list" p) [.Call (.Name "zip" p2) [e, e2] [] pos2] [] pos) (tListZip X.K ta) := by
  refine ⟨fun pins s σ H Q I h => ?_⟩
  refine wpAny_Call_Name_kw (ld_blt I hgl hml PyProof.Rows.boot_list ?_)
  refine PyProof.Rows.callWith_type1 ?_ hs2 rfl
  rw [hs2]
  show wpAny _ _ (spliced ((false, eval (.Call (.Name "zip" p2) [e, e2] [] pos2) X.env) :: backTo pos (starEach [] X.env))) _ _ s
  refine Calls.spliced_cons ?_
  refine Call_ (ld_blt I hgz hmz PyProof.Rows.boot_zip (PyProof.Rows.callWith_type1 (thn (ha.run pos2 pins s σ H _ I h) fun us s1 ⟨vs, H1, I1, r1, q1⟩ => ?_) hs hpl))
  obtain ⟨a, b, xs, ys, ex, hqx, hqy, hxy, q⟩ := q1
  subst ex
  cases r1 with
  | cons r rr =>
    cases rr with
    | cons r' rr =>
      cases rr
      cases r
      cases r'
      obtain ⟨its, rv, p1, hz1⟩ := I1.tuple hqx
      obtain ⟨its2, rv2, p2', _⟩ := I1.tuple hqy
      obtain ⟨o1, ho1, _⟩ := id p1
      obtain ⟨o2, ho2, _⟩ := id p2'
      have e1 := rv.length
      have e2 := rv2.length
      refine call_zipT (show s1.heap.IsTuple a its.toArray from p1) (show s1.heap.IsTuple b its2.toArray from p2') fun h' hz hTI hTO h1 h2 hsz hk => ?_
      refine Calls.spliced_nil ?_
      have D := PySem.W.ktu_apart s1.heap.objs.size a b (Heap.lt_size ho1) (Heap.lt_size ho2)
      refine zl_call (s := { s1 with heap := h' }) (xs := its.toArray) (ys := its2.toArray) (I1.ok.hd hc) D (by rw [List.size_toArray, List.size_toArray]; omega) (by rw [List.size_toArray]; omega) hz hTI ⟨_, _, hTO⟩ h1 h2 (tup_keep p1 fun o q => hk _ _ q) (tup_keep p2' fun o q => hk _ _ q) fun h2' tk acc c as hkk hS hl hG hacc => ?_
      have lo : ∀ b o, s1.heap.get? b = some o → h2'.get? b = some o := fun b o q => by
        have lb := Heap.lt_size q
        exact hkk b o (fun z => by rw [z] at lb; exact absurd lb (Nat.not_lt.mpr (Nat.le_add_right _ _))) (fun z => by rw [z] at lb; exact absurd lb (Nat.not_lt.mpr (Nat.le_add_right _ _))) (fun z => by rw [z] at lb; exact absurd lb (Nat.lt_irrefl _)) (fun z => by rw [z] at lb; exact absurd lb (Nat.not_lt.mpr (Nat.le_add_right _ _))) (hk b o q)
      have hsz' : h'.objs.size = s1.heap.objs.size + 5 := hsz
      have hal : as.length = xs.length := by
        rw [hl, List.size_toArray]
        omega
      have nd : as.Nodup := List.Pairwise.imp (fun {a b} (h : a < b) => Nat.ne_of_lt h) hG.rise
      have big : ∀ t ∈ as, h'.objs.size < t := fun t ht => hG.above t ht
      have hSn : h'.objs.size ∉ as := fun z => Nat.lt_irrefl _ (big _ z)
      have new : ∀ t ∈ as, H1 t = none := fun t ht => I1.hok.fresh (by have := big t ht; rw [hsz'] at this; exact Nat.le_of_lt (Nat.lt_of_le_of_lt (Nat.le_add_right _ _) this))
      have newS : H1 h'.objs.size = none := I1.hok.fresh (by rw [hsz']; exact Nat.le_add_right _ _)
      have lk : ∀ b o, s1.heap.get? b = some o → b ∉ as ∧ b ≠ h'.objs.size := fun b o q => by
        have lb := Heap.lt_size q
        refine ⟨fun z => ?_, fun z => ?_⟩
        · have := big b z
          rw [hsz'] at this
          exact absurd lb (Nat.not_lt.mpr (Nat.le_trans (Nat.le_add_right _ 5) (Nat.le_of_lt this)))
        · rw [z, hsz'] at lb
          exact absurd lb (Nat.not_lt.mpr (Nat.le_add_right _ _))
      have off : ∀ b, b ∉ as → b ≠ h'.objs.size → putZ (upd H1 h'.objs.size (.lst (as.map V.ref))) as (xs.zip ys) b = H1 b := fun b h1 h2 => by rw [putZ_off as _ _ h1, upd_ne h2]
      have kp : ∀ b u, H1 b = some u → putZ (upd H1 h'.objs.size (.lst (as.map V.ref))) as (xs.zip ys) b = some u := fun b u e => by
        rw [off b (fun z => by rw [new b z] at e; cases e) (fun z => by rw [z, newS] at e; cases e)]
        exact e
      have eS : putZ (upd H1 h'.objs.size (.lst (as.map V.ref))) as (xs.zip ys) h'.objs.size = some (.lst (as.map V.ref)) := by rw [putZ_off as _ _ hSn, upd_same]
      have prs : ∀ (j : Nat) (t : Addr), as[j]? = some t → ∃ x y u1 u2, xs[j]? = some x ∧ ys[j]? = some y ∧ RelV x u1 ∧ RelV y u2 ∧ IsPair h2' t u1 u2 ∧ putZ (upd H1 h'.objs.size (.lst (as.map V.ref))) as (xs.zip ys) t = some (.tup [x, y]) := fun j t ht => by
        obtain ⟨u1, u2, f1, f2, f3⟩ := hG.pairs j t ht
        have hj : j < xs.length := by
          have := (List.getElem?_eq_some_iff.mp ht).1
          omega
        have hj2 : j < ys.length := by omega
        have g1 : xs[j]? = some xs[j] := List.getElem?_eq_getElem hj
        have g2 : ys[j]? = some ys[j] := List.getElem?_eq_getElem hj2
        obtain ⟨w1, k1, r1⟩ := rv.get g1
        obtain ⟨w2, k2, r2⟩ := rv2.get g2
        have m1 : u1 = w1 := by
          rw [List.getElem?_toArray, k1] at f1
          exact (Option.some.inj f1).symm
        have m2 : u2 = w2 := by
          rw [List.getElem?_toArray, k2] at f2
          exact (Option.some.inj f2).symm
        subst m1 m2
        refine ⟨xs[j], ys[j], u1, u2, g1, g2, r1, r2, f3, ?_⟩
        exact putZ_at as (xs.zip ys) _ j t (xs[j], ys[j]) nd ht (by rw [List.getElem?_zip_eq_some]; exact ⟨g1, g2⟩)
      refine ⟨.ref _, putZ (upd H1 h'.objs.size (.lst (as.map V.ref))) as (xs.zip ys), ?_, rfl, q _ _ as kp newS new eS hal fun j t ht => ?_⟩
      · have Ik : Inv X pins σ H1 { s1 with heap := h2', toks := tk } := I1.kept (t' := tk) lo
        refine I1.call' (ch := []) rfl ⟨fun b o q _ _ _ => lo b o q, fun b o q _ _ _ => ⟨o.slots, lo b o q⟩, fun b o q n _ => ?_, fun b o q _ => ⟨o, lo b o q⟩, fun b zs q => kp b _ q, fun b o u q => kp b _ q, fun b ps q => ⟨#[], by rw [kp b _ q]; simp⟩⟩ (fun b u q => ?_) I1.bare fun b z => by simp at z
        · obtain ⟨z1, z2⟩ := lk b o q
          rw [off b z1 z2]
          exact n
        · by_cases hb : b ∈ as
          · obtain ⟨j, hj⟩ := List.mem_iff_getElem?.mp hb
            obtain ⟨x, y, u1, u2, _, _, r1, r2, f3, e⟩ := prs j b hj
            rw [e] at q
            cases q
            exact ⟨by show 2 ≤ sizeLine; decide, [u1, u2], .cons r1 (.cons r2 .nil), ⟨_, f3, rfl, _, rfl⟩⟩
          · by_cases hb2 : b = h'.objs.size
            · rw [hb2] at q ⊢
              rw [eS] at q
              cases q
              refine ⟨by rw [List.length_map]; omega, acc.toList, c, by rw [hacc]; exact (let rec go : ∀ as : List Addr, Vals (as.map V.ref) (as.map Value.ref) | [] => .nil | _ :: as => .cons rfl (go as); go as), ?_⟩
              rw [Array.toArray_toList]
              exact hS
            · rw [off b hb hb2] at q
              exact (I1.hok b u q).stay (fun d v _ y => lo d v y) (fun d y => kp d _ y) fun d xs y => kp d _ y
      · obtain ⟨x, y, _, _, g1, g2, _, _, _, e⟩ := prs j t ht
        exact ⟨x, y, g1, g2, e⟩
end
end LmR

set_option Elab.async false
set_option linter.all false
set_option maxRecDepth 100000
set_option maxHeartbeats 2000000
namespace Lm
open PySem PySem.Spec PyProof.Rows L2 LmR
/-! ### defs of the text, callable -/
/-- the def st stands in the text under the name x -/
def DefAt (K : PySem.W.Frag) (mg : Str → Option Value) (x : Str) (st : Stmt) (ps : List Str) : Prop := ∃ f fd, Fun K x x st f fd ∧ Binds K fd ps [] ∧ mg x = some (.ref f)
/-- what stands under the name x keeps sp, by at most level k -/
def Cal (P : Program) (w : World) (K : PySem.W.Frag) (mg : Str → Option Value) (base : Heap) (k : Nat) (x : Str) (ps : List Str) (sp : Sp) : Prop :=
  ∃ f fd, FnOk P w K mg base CX0 k f fd ps sp ∧ mg x = some (.ref f) ∧ PySem.W.keepIn K (.ref f) = true ∧ Binds K fd ps []
section
variable {P : Program} {w : World} {K : PySem.W.Frag} {mg : Str → Option Value} {base : Heap}
theorem Cal.mono {j k : Nat} {x : Str} {ps : List Str} {sp : Sp} (c : Cal P w K mg base j x ps sp) (h : j ≤ k) : Cal P w K mg base k x ps sp := by
  obtain ⟨f, fd, F, g, kp, b⟩ := c
  exact ⟨f, fd, F.mono h, g, kp, b⟩
theorem cal_of {x : Str} {st : Stmt} {N ps : List Str} {k : Nat} {sp : Sp} (D : DefAt K mg x st ps) (S : FnScope N ps (defScope st)) (len : ∀ vs H Q E, sp vs H Q E → vs.length = ps.length)
    (hbody : ∀ (f : Addr) (cdv : Value) (A : Around) (outer : List Env) (s : Shared) (H : Hp) (vs : List V) (Q : VK) (E : XK), Room k (A.deeper (envOfC x (defScope st) s.heap.objs.size f cdv)) → sp vs H Q E →
      ∃ t, PSs (cxOf CX0 P w K mg base N x (defScope st) f cdv A outer s H E).nox (defBody st) t ∧ t { nx := fun _ H' => Q .non H', rt := Q } (start N vs) H) : Cal P w K mg base (k + 1) x ps sp := by
  obtain ⟨f, fd, F, b, g⟩ := D
  exact ⟨f, fd, F.ok S len (hbody f), g, F.kp, b⟩
/-- nothing is asked: no call is allowed -/
theorem cal_no {x : Str} {st : Stmt} {ps : List Str} {sp : Sp} (D : DefAt K mg x st ps) (no : ∀ vs H Q E, ¬ sp vs H Q E) {k : Nat} : Cal P w K mg base k x ps sp := by
  obtain ⟨f, fd, F, b, g⟩ := D
  exact ⟨f, fd, ⟨fun vs H Q E h => absurd h (no vs H Q E), fun A outer s H args us vs Q E _ _ _ _ h => absurd h (no vs H Q E)⟩, g, F.kp, b⟩
end
/-- f(e, ..) -/
theorem pe_cal {X : Cx} {k : Nat} {x : Str} {ps : List Str} {sp : Sp} {e : Expr} {es : List Expr} {t : TA} {p pos : Pos} (C : Cal X.prog X.w X.K X.mg X.base k x ps sp) (hr : Room k X.A) (hg : Gl X x) (ha : PA X (e :: es) t)
    (hdb : (x == ("__debug__" : Str)) = false := by decide) (he : starEach (e :: es) X.env = (false, eval e X.env) :: starEach es X.env := by rfl) (hpl : (backTo pos (starEach es X.env)).any (·.1) = false := by rfl) :
    PE X (.Call (.Name x p) (e :: es) [] pos) (tCall sp [] (fun _ _ _ => False) t) := by
  obtain ⟨f, fd, F, g, kp, b⟩ := C
  exact pe_call F hr hg g kp b .nil pass0 ha hdb he hpl
/-- the built-ins that the text names and no one has rebound -/
structure Bt (mg : Str → Option Value) : Prop where
  len : mg "len" = none
  isinstance : mg "isinstance" = none
  tuple : mg "tuple" = none
  list : mg "list" = none
  str : mg "str" = none
  int : mg "int" = none
  bool : mg "bool" = none
  range : mg "range" = none
  zip : mg "zip" = none
  enumerate : mg "enumerate" = none
  reversed : mg "reversed" = none
  max : mg "max" = none
  all : mg "all" = none
/-! ### heaps -/
/-- all that was tracked is as it was, but what stands at ws -/
def Ex (ws : List Addr) (H H' : Hp) : Prop := ∀ b o, H b = some o → b ∉ ws → H' b = some o
theorem Ex.refl (ws : List Addr) (H : Hp) : Ex ws H H := fun _ _ h _ => h
theorem Ex.trans {ws : List Addr} {H H1 H2 : Hp} (a : Ex ws H H1) (b : Ex ws H1 H2) : Ex ws H H2 := fun c o h n => b c o (a c o h n) n
theorem Ex.mono {ws us : List Addr} {H H' : Hp} (a : Ex ws H H') (h : ∀ b ∈ ws, b ∈ us) : Ex us H H' := fun c o e n => a c o e fun m => n (h c m)
theorem Ex.of_same {ws : List Addr} {H H' : Hp} (a : Same H H') : Ex ws H H' := fun c o e _ => a c o e
theorem Ex.same {H H' : Hp} (a : Ex [] H H') : Same H H' := fun c o e => a c o e (by simp)
theorem Ex.new {ws : List Addr} {H : Hp} {p : Addr} {o : HO} (h : H p = none) : Ex ws H (upd H p o) := fun b u q _ => by rw [upd_ne (ne_of_none q h)]; exact q
theorem Ex.at {ws : List Addr} {H : Hp} {p : Addr} {o : HO} (h : p ∈ ws) : Ex ws H (upd H p o) := fun b u q n => by rw [upd_ne (fun z => n (by rw [z]; exact h))]; exact q
theorem same_new {H : Hp} {p : Addr} {o : HO} (h : H p = none) : Same H (upd H p o) := fun b u q => by rw [upd_ne (ne_of_none q h)]; exact q
theorem Ex.free {ws : List Addr} {H H' : Hp} (a : Ex ws H H') {p : Addr} (h : H' p = none) (n : p ∉ ws) : H p = none := by
  cases q : H p with
  | none => rfl
  | some o =>
    rw [a p o q n] at h
    cases h
theorem Ex.ne {ws : List Addr} {H H' : Hp} (a : Ex ws H H') {p q : Addr} {o : HO} (h : H q = some o) (hq : q ∉ ws) (hp : H' p = none) : q ≠ p := fun z => by
  rw [← z, a q o h hq] at hp
  cases hp
theorem small {n : Nat} (h : n ≤ 100000) : n ≤ sizeLine := Nat.le_trans h (by decide)
theorem smallL {n : Nat} (h : n ≤ 100000) : n < sizeLine := Nat.lt_of_le_of_lt h (by decide)
/-! ### data: None, truths, ints, texts, tuples of these -/
/-- without lists and dicts -/
def flat : PyData → Bool
  | .none => true
  | .bool _ => true
  | .int _ => true
  | .str _ => true
  | .list _ => false
  | .tuple xs => flats xs
  | .dict _ => false
where flats : List PyData → Bool
  | [] => true
  | d :: ds => flat d && flats ds
/-- the tuples that were there are there -/
def Tp (K : PySem.W.Frag) (H H' : Hp) : Prop := ∀ a xs, SqT K H a xs → SqT K H' a xs
theorem Ex.tp {K : PySem.W.Frag} {ws : List Addr} {H H' : Hp} (a : Ex ws H H') (h : ∀ b ∈ ws, ∀ xs, ¬ Rd H b (.tup xs)) : Tp K H H' := fun b xs q => by
  rcases q with (q | ⟨o, q⟩) | q
  · exact .inl (.inl (a b _ q fun m => h b m xs (.inl q)))
  · exact .inl (.inr ⟨o, a b _ q fun m => h b m xs (.inr ⟨o, q⟩)⟩)
  · exact .inr q
theorem Tp.refl (K : PySem.W.Frag) (H : Hp) : Tp K H H := fun _ _ h => h
theorem Tp.trans {K : PySem.W.Frag} {H H1 H2 : Hp} (a : Tp K H H1) (b : Tp K H1 H2) : Tp K H H2 := fun c xs h => b c xs (a c xs h)
theorem Tp.same {K : PySem.W.Frag} {H H' : Hp} (a : Same H H') : Tp K H H' := fun b xs q => by
  rcases q with (q | ⟨o, q⟩) | q
  · exact .inl (.inl (a b _ q))
  · exact .inl (.inr ⟨o, a b _ q⟩)
  · exact .inr q
/-- a list (or dict) that is written -/
theorem Tp.put {K : PySem.W.Frag} {H : Hp} {p : Addr} {o o' : HO} (h : H p = some o) (n1 : ∀ xs, o ≠ .tup xs) (n2 : ∀ u v, o ≠ .frz u v) : Tp K H (upd H p o') := fun b xs q => by
  rcases q with (q | ⟨u, q⟩) | q
  · have nb : b ≠ p := fun z => by
      rw [z, h] at q
      exact n1 xs (Option.some.inj q)
    exact .inl (.inl (by rw [upd_ne nb]; exact q))
  · have nb : b ≠ p := fun z => by
      rw [z, h] at q
      exact n2 _ _ (Option.some.inj q)
    exact .inl (.inr ⟨u, by rw [upd_ne nb]; exact q⟩)
  · exact .inr q
theorem Tp.lst {K : PySem.W.Frag} {H : Hp} {p : Addr} {xs : List V} {o' : HO} (h : H p = some (.lst xs)) : Tp K H (upd H p o') := Tp.put h (fun _ z => nomatch z) (fun _ _ z => nomatch z)
theorem Tp.dct {K : PySem.W.Frag} {H : Hp} {p : Addr} {xs : List (Key × V)} {o' : HO} (h : H p = some (.dK xs)) : Tp K H (upd H p o') := Tp.put h (fun _ z => nomatch z) (fun _ _ z => nomatch z)
theorem Tp.new {K : PySem.W.Frag} {H : Hp} {p : Addr} {o : HO} (h : H p = none) : Tp K H (upd H p o) := Tp.same (same_new h)
mutual
theorem dp_keep {K : PySem.W.Frag} {H H' : Hp} (t : Tp K H H') : ∀ (d : PyData) (v : V), flat d = true → Dp K H v d → Dp K H' v d
  | .none, _, _, h => by cases h; exact .non
  | .bool b, _, _, h => by cases h; exact .bl b
  | .int i, _, _, h => by cases h; exact .int i
  | .str x, _, _, h => by cases h; exact .str x
  | .list ds, _, f, _ => by simp [flat] at f
  | .tuple ds, _, f, h => by
    cases h with
    | tup q r => exact .tup (t _ _ q) (dps_keep t ds _ f r)
  | .dict ds, _, f, _ => by simp [flat] at f
theorem dps_keep {K : PySem.W.Frag} {H H' : Hp} (t : Tp K H H') : ∀ (ds : List PyData) (vs : List V), flat.flats ds = true → DpAll K H vs ds → DpAll K H' vs ds
  | [], _, _, h => by cases h; exact .nil
  | d :: ds, _, f, h => by
    rw [flat.flats, Bool.and_eq_true] at f
    cases h with
    | cons a b => exact .cons (dp_keep t d _ f.1 a) (dps_keep t ds _ f.2 b)
end
/-- flat data at v -/
def Fd (K : PySem.W.Frag) (H : Hp) (v : V) (d : PyData) : Prop := flat d = true ∧ Dp K H v d
theorem Fd.keep {K : PySem.W.Frag} {H H' : Hp} {v : V} {d : PyData} (h : Fd K H v d) (t : Tp K H H') : Fd K H' v d := ⟨h.1, dp_keep t d v h.1 h.2⟩
/-! ### rules within a comprehension: the written part by its name -/
section
variable {X : Cx} {K : PySem.W.Frag}
theorem ix_tupK (h : X.K = K) : IxR X (rIxT K) := h ▸ ix_tup
theorem ix_listK (h : X.K = K) : IxR X (rIxL K) := h ▸ ix_list
def rLenK (K : PySem.W.Frag) : List V → Hp → VK → Prop := fun xs H Q => ∃ p ys, xs = [.ref p] ∧ (SqL K H p ys ∨ SqT K H p ys) ∧ Q (.int ys.length) H
theorem call_len_seqK (h : X.K = K) : CallR X (.builtin "len") (rLenK K) := h ▸ call_len_seq
theorem pe_bm0K {T : String} {name : Str} {id : String} {r : V → List V → Hp → VK → Prop} {o : Expr} {to : TE} {apos cpos : Pos} (h : X.K = K) (pa : PlainAttrs T) (slot : Slot T name id) (hty : typeOf (.builtin id) = pure (.type "method_descriptor")) (hm : MtR X id r) (ho : PE X o to)
    (hbase : attributeBase o name X.env (eval o X.env) = eval o X.env := by rfl) (hline : (apos.endLine == cpos.line) = true := by rfl) : PE X (.Call (.Attribute o name apos) [] [] cpos) (tBM0 K T r to) := h ▸ pe_bm0 pa slot hty hm ho hbase hline
end
end Lm

set_option Elab.async false
set_option linter.all false
set_option maxRecDepth 100000
set_option maxHeartbeats 2000000
namespace Lm
open PySem PySem.Spec PyProof.Rows L2 LmR
/-! ### a def called within an except suite, handed the exception -/
structure FnP (P : Program) (w : World) (K : PySem.W.Frag) (mg : Str → Option Value) (base : Heap) (p : Addr × Obj) (k : Nat) (f : Addr) (fd : FuncData) (ps : List Str) (sp : Sp) : Prop where
  len : ∀ vs H Q E, sp vs H Q E → vs.length = ps.length
  run : ∀ (A : Around) (outer : List Env) (s : Shared) (H : Hp) (args : Args) (us : List Value) (vs : List V) (Q : VK) (E : XK), L2H.RoomH k A → L2H.PinOk outer H s p → Env0 P w K mg base A outer s H → BindsTo s fd args (ps.zip us) → Vals vs us → sp vs H Q E →
    codeAny (model P w) A (.call (.ref f) args) (CR CX0 outer P w H s Q E) s
theorem fn_ofP {P : Program} {w : World} {K : PySem.W.Frag} {mg : Str → Option Value} {base : Heap} {k : Nat} {x : Str} {st : Stmt} {f : Addr} {fd : FuncData} {N ps : List Str} {sp : Sp} {p : Addr × Obj} (F : Fun K x x st f fd) (S : FnScope N ps (defScope st))
    (len : ∀ vs H Q E, sp vs H Q E → vs.length = ps.length)
    (hbody : ∀ (cdv : Value) (A : Around) (outer : List Env) (s : Shared) (H : Hp) (vs : List V) (Q : VK) (E : XK), L2H.RoomH k (A.deeper (envOfC x (defScope st) s.heap.objs.size f cdv)) → sp vs H Q E →
      ∃ t, PSs (L2H.cxH CX0 P w K mg base N x (defScope st) f cdv A outer s H E p) (defBody st) t ∧ t { nx := fun _ H' => Q .non H', rt := Q } (L2.start N vs) H) : FnP P w K mg base p (k + 1) f fd ps sp := by
  obtain ⟨oc, od, kV, doc, pm, an, cdv, ct, osl, rfl, lk, hcd⟩ := F.ex
  refine ⟨len, fun A outer s H args us vs Q E hr hpin e0 hb r hsp => ?_⟩
  have hl := len _ _ _ _ hsp
  have KX : K.In s.heap := e0.mod.kin.keeps fun b o e => (e0.bs b o e).1
  have lim : s.heap.NoLimit := e0.mod.nolimit.keeps fun b o e => (e0.bs b o e).1
  have hkind : ∀ y ∈ ps.zip us, (defScope st).names.lookup y.1 = some .local ∨ ((defScope st).names.lookup y.1 = some .cell ∧ ((cellsFrom (s.heap.objs.size + 1) (defScope st).names []).lookup y.1).isSome = true) := fun ⟨n, v⟩ hy => by
    rcases S.par n (List.of_mem_zip hy).1 with q | q
    · exact .inl q
    · exact .inr ⟨q, PySem.W.cellsFrom_some _ _ _ (.inl q)⟩
  refine codeAny_call_function hr.depth (KX _ _ lk) rfl S.co S.gen rfl (PySem.W.codeRec_of KX hcd) (hb _ _ _ _ ?_)
  refine wpAny_newFunctionEnv_cells S.kind hkind fun env he s1 y => ?_
  subst he
  refine ⟨lim.keeps y.toInCall.keep, codeAny_func ?_⟩
  obtain ⟨t, ht, hq⟩ := hbody cdv A outer s H vs Q E (hr.deeper _) hsp
  have I : Inv (L2H.cxH CX0 P w K mg base N x (defScope st) f cdv A outer s H E p) [] (L2.start N vs) H s1 := L2H.inv_startH S hpin e0 hl r y
  refine wpAny_mono (ht.run [] s1 (L2.start N vs) H _ I hq) (fun fl s' hs => ?_) fun e s' hs => hs
  have fin : ∀ {σ' : L2.St} {H' : Hp} {v : V} {u : Value}, Inv (L2H.cxH CX0 P w K mg base N x (defScope st) f cdv A outer s H E p) [] σ' H' s' → RelV v u → Q v H' → CE outer P w H s Q u s' :=
    fun {σ' H' v u} J rv q => ⟨v, H', J.os, J.bare, J.base, J.hok, rv, q⟩
  cases fl with
  | ret u =>
    obtain ⟨v, σ', H', J, rv, q⟩ := hs
    exact fin J rv q
  | next =>
    obtain ⟨σ', H', J, q⟩ := hs
    exact fin (v := V.non) (u := Value.none) J rfl q
  | brk =>
    obtain ⟨_, _, _, q⟩ := hs
    exact False.elim q
  | cont =>
    obtain ⟨_, _, _, q⟩ := hs
    exact False.elim q
theorem pe_callP {X : Cx} {k : Nat} {f : Addr} {fd : FuncData} {ps : List Str} {sp : Sp} {x : Str} {q pos : Pos} {e : Expr} {es : List Expr} {t : TA} {p : Addr × Obj} (F : FnP X.prog X.w X.K X.mg X.base p k f fd ps sp) (hr : L2H.RoomH k X.A) (hp : p ∈ X.pn) (hg : Gl X x) (hm : X.mg x = some (.ref f)) (hk : PySem.W.keepIn X.K (.ref f) = true) (hb : Binds X.K fd ps [])
    (ha : PA X (e :: es) t) (hdb : (x == ("__debug__" : Str)) = false := by decide) (he : starEach (e :: es) X.env = (false, eval e X.env) :: starEach es X.env := by rfl) (hpl : (backTo pos (starEach es X.env)).any (·.1) = false := by rfl) :
    PE X (.Call (.Name x q) (e :: es) [] pos) (tCall sp [] (fun _ _ _ => False) t) := by
  refine ⟨fun pins s σ H Q I h => ?_⟩
  refine wpAny_Call_Name_kw (ld_glob I hg hm ?_ hdb)
  refine PySem.W.callWith_K (h₀ := X.base) I.ok.mod.kin hk (thn (ha.run pos pins s σ H _ I h) fun us s1 ⟨vs, H1, I1, r, q⟩ => ⟨I1.kIn, ?_⟩) he hpl
  have q : sp vs H1 Q (fun _ _ _ => False) := by
    have z : sp (vs ++ []) H1 Q (fun _ _ _ => False) := q
    rw [List.append_nil] at z
    exact z
  have hl : us.length = ps.length := by rw [← r.length]; exact F.len _ _ _ _ q
  have b := hb s1 us I1.kIn (by rw [List.append_nil]; exact hl)
  rw [List.append_nil] at b
  have P1 := I1.pin p (List.mem_append_left _ hp)
  have hpin : L2H.PinOk X.stack H1 s1 p := ⟨P1.1, P1.2.1, fun hm => (List.mem_cons.mp (I1.stkSub p.1 hm)).elim P1.2.2.1 P1.2.2.2.1, P1.2.2.2.2⟩
  refine wpAny_call (codeAny_mono (F.run X.A X.stack s1 H1 ⟨us, []⟩ us vs Q (fun _ _ _ => False) hr hpin I1.env0 b r q) fun r s' hq => ?_)
  cases r with
  | error e => exact hq.elim
  | ok fl =>
    cases fl with
    | ret u => exact I1.after hq
    | next => exact False.elim hq
    | brk => exact False.elim hq
    | cont => exact False.elim hq
/-! ### isinstance of an exception that is pinned -/
structure ExK (K : PySem.W.Frag) (C : Addr) : Prop where
  cl : (PySem.W.clsIn K C).isSome = true
  ga : PySem.W.findIn K (.ref C) "__getattribute__" = some (some (.builtin "BaseException.__getattribute__"))
  gg : PySem.W.findIn K (.ref C) "__getattr__" = some none
  ex : PySem.W.subIn K (.ref C) (.type "BaseException") = some true
  ca : PySem.W.findIn K (.ref C) "__class__" = some (some (.builtin "object.__class__"))
  gn : PySem.W.specialIn K (.builtin "object.__class__") "__get__" = some (some (.builtin "getset_descriptor.__get__"))
  tk : PySem.W.takesIn K (.builtin "object.__class__") = some true
  ob : PySem.W.mroIn K C (.type "object") = some true
/-- isinstance(e, c), e the exception at a of the class at C -/
def rIsP (K : PySem.W.Frag) (C a : Addr) : List V → Hp → VK → Prop := fun xs H Q => ∃ (D : Addr) (b : Bool), xs = [.ref a, .ref D] ∧ PySem.W.kitOne K (.ref C) (.ref D) = some b ∧ Q (.bl b) H
theorem call_isP {X : Cx} {a C : Addr} {oe : Obj} {dct : Option Addr} (k : ExK X.K C) (hz : Zc (.ref C) dct oe) (hf : ∃ vs, oe.data = .fields vs) (hp : (a, oe) ∈ X.pn) (hd : ∀ pins σ H s, Inv X pins σ H s → ∃ od : Option Obj, PySem.W.InstAt s.heap a oe C od) : CallR X (.builtin "isinstance") (rIsP X.K C a) := by
  intro pins s σ H xs us Q I r h
  obtain ⟨D, b, rfl, e, q⟩ := h
  obtain ⟨u1, u2, rfl, r1, r2⟩ := vals2 r
  cases (show u1 = Value.ref a from r1)
  cases (show u2 = Value.ref D from r2)
  obtain ⟨od, J⟩ := hd pins σ H s I
  exact PySem.W.kia_one (PySem.W.kitx_exc k.cl k.ga k.gg k.ex k.ca k.gn k.tk k.ob) I.kIn J e (fun z => nomatch z) fun tk => ⟨.bl b, H, I.tok tk, rfl, q⟩
/-! ### xs.count(True) of truths -/
theorem mt_countB {X : Cx} : MtR X "list.count" (fun x xs H Q => ∃ (p : Addr) (bs : List Bool), x = .ref p ∧ xs = [.bl true] ∧ SqL X.K H p (bs.map V.bl) ∧ Q (.int (bs.count true : Nat)) H) := by
  intro pins s σ H x xs v us Q I rx rxs h
  obtain ⟨p, bs, rfl, rfl, hs, q⟩ := h
  cases rx
  obtain ⟨u, rfl, ru⟩ := rxs.one
  cases (show u = Value.bool true from ru)
  obtain ⟨its, rv, ⟨⟨cls, dd, data, sl⟩, n, ho, hc, hdn, hd⟩, hlen⟩ := I.list hs
  simp only at hc hd
  subst hc hd
  have key : ∀ (bs : List Bool) (its : List Value), Vals (bs.map V.bl) its → its = bs.map Value.bool := by
    intro bs
    induction bs with
    | nil => intro its r; cases r; rfl
    | cons b bs ih =>
      intro its r
      cases r with
      | cons a r =>
        rename_i u us'
        rw [List.map_cons, ih us' r]
        congr 1
  have ei := key bs its rv
  subst ei
  let g : Value → Bool := fun y => y == .bool true
  refine call_meets PySem.F.slot_list_count ⟨_, ho, rfl⟩ PySem.F.entry_list_count (PySem.F.args_list_count_2 _ _)
    (SeqAt.list_countAt p (bs.map Value.bool).toArray n dd sl (.bool true) g) ⟨ho, fun y hy => ?_, ?_⟩
  · have hy' : y ∈ bs.map Value.bool := by simpa using hy
    obtain ⟨b, _, rfl⟩ := List.mem_map.mp hy'
    have eg : g (.bool b) = eqV (.bl b) (.bl true) := by cases b <;> rfl
    rw [eg]
    exact eqAt_V (y := .bl b) (x := .bl true) rfl rfl rfl rfl
  · have ec : ((bs.map Value.bool).toArray.toList.countP g) = bs.count true := by
      show (bs.map Value.bool).countP g = _
      rw [List.countP_map]
      unfold List.count
      congr 1
      funext b
      cases b <;> rfl
    refine ⟨.int (bs.count true : Nat), H, I.tok _, ⟨s.toks, ?_⟩, q⟩
    show Value.int (((bs.map Value.bool).toArray.toList.countP g : Nat) : Int) s.toks = Value.int ((bs.count true : Nat) : Int) s.toks
    rw [ec]
end Lm

set_option Elab.async false
set_option linter.all false
set_option maxRecDepth 100000
set_option maxHeartbeats 2000000
namespace Lm
open PySem PySem.Spec PyProof.Rows L2 LmR
abbrev oEnum (a : Addr) : Obj := { cls := .type "enumerate", data := .fields #[.none, .bool false, .ref a, rawInt 0, .none, .none] }
/-- enumerate(v): two new cells -/
theorem enum_new1 {v : Value} {o : Obj} {G : Heap → Prop} (B : Begins v o G) :
    Meets (Builtin.«enumerate.__new__» ⟨[.type "enumerate", v], []⟩) (fun _ R s => G s.heap ∧ R (.ok (.ret (.ref (s.heap.push o).objs.size))) { s with heap := (s.heap.push o).push (oEnum s.heap.objs.size) }) :=
  .of_wp fun prog w A R s hh => by
    obtain ⟨hp, g, d, tk, os⟩ := s
    obtain ⟨hG, hR⟩ := hh
    have hsub := sub_enumerate
    have go : ∀ {A' : Around} {E : Value → Shared → Prop} {Q : Value → Shared → Prop}, Q (.ref hp.objs.size) ⟨hp.push o, g, d, tk, os⟩ → wpAny (model prog w) A' (pyIter v) Q E ⟨hp, g, d, tk, os⟩ :=
      fun q => B.iter prog w _ _ _ _ hG q
    wp_walk using go
    refine wpAny_stack_any fun st => wpAny_pure ?_
    split
    · rename_i c _ _ _ _ _
      cases (c == Value.type "enumerate") <;> (wp_walk using go; exact ⟨_, rfl, hR⟩)
    · wp_walk using go
      exact ⟨_, rfl, hR⟩
theorem enum_call1 {prog : Program} {w : World} {A : Around} {E : Value → Shared → Prop} {s : Shared} {v : Value} {o : Obj} {G : Heap → Prop} {Q : Value → Shared → Prop} (B : Begins v o G) (hG : G s.heap)
    (hQ : ∀ h2, IsEnum h2 (s.heap.objs.size + 1) s.heap.objs.size 0 .none → h2.get? s.heap.objs.size = some o → (∀ b ob, s.heap.get? b = some ob → h2.get? b = some ob) → Q (.ref (s.heap.objs.size + 1)) { s with heap := h2 }) :
    wpAny (model prog w) A (call (.type "enumerate") [v]) Q E s := by
  refine callType_new F.called_enumerate (by decide) (F.typeCall_enumerate_1 _) (F.newCall_enumerate_1 _) (fun obj => F.args_object_init_2 obj _) F.entry_enumerate_new (enum_new1 B) ⟨hG, ?_⟩
  have z : (s.heap.push o).objs.size = s.heap.objs.size + 1 := Heap.size_push ..
  show _ ∧ _
  rw [z]
  have he : IsEnum ((s.heap.push o).push (oEnum s.heap.objs.size)) (s.heap.objs.size + 1) s.heap.objs.size 0 .none := by
    have y := Heap.get?_push_size (s.heap.push o) (o := oEnum s.heap.objs.size) rfl
    rw [z] at y
    exact y
  exact ⟨⟨_, he, rfl⟩, hQ _ he (Heap.get?_push_of_some _ (Heap.get?_push_size _ B.free)) fun b ob x => Heap.get?_push_of_some _ (Heap.get?_push_of_some _ x)⟩
theorem enum_over {prog : Program} {w : World} {A : Around} {E : Value → Shared → Prop} {s : Shared} {e it a : Addr} {i : Nat} {items : Array Value} {c : Int} {old : Value} {Q : Option Value → Shared → Prop} (hd : A.handled = none)
    (he : IsEnum s.heap e it c old) (hit : s.heap.IsTupleIter it a i) (ht : s.heap.IsTuple a items) (hx : items[i]? = none) (hQ : ∀ h2, Heap.ExtBut it s.heap h2 → Q none { s with heap := h2 }) : wpAny (model prog w) A (pyNext (.ref e)) Q E s := by
  have D : Draws prog w A.in1 it [it, a] i (fun _ _ => True) (fun j h => j = i ∧ h.IsTupleIter it a i ∧ h.IsTuple a items) :=
    { live := fun _ _ st => by obtain ⟨_, ⟨o, ho, _⟩, _⟩ := st; exact ⟨o, ho⟩
      frame := fun _ _ _ st hk => ⟨st.1, st.2.1.at fun o q => hk it (by simp) o q, st.2.2.at fun o q => hk a (by simp) o q⟩
      item := fun j s Q E hj st _ => absurd st.1 (Nat.ne_of_lt hj)
      done := fun s Q E st hE => wpAny_nextOf_tuple_end (by first | exact hd | (show A.in1.handled = none; exact hd)) st.2.1 st.2.2 hx hE }
  exact wpAny_pyNext_enum_endD D he ⟨rfl, hit, ht⟩ hQ
/-- the tuple at a: each item, its number ahead of it, in a new pair -/
def IteT (K : PySem.W.Frag) (a : Addr) : It :=
  ⟨fun i H => ∃ (xs : List V) (x : V), SqT K H a xs ∧ xs[i]? = some x,
    fun i H v H' => ∃ T x, v = .ref T ∧ H T = none ∧ H' = upd H T (.tup [.int (i : Nat), x]) ∧ ∀ xs, SqT K H a xs → xs[i]? = some x,
    fun i H => ∃ xs : List V, SqT K H a xs ∧ xs.length ≤ i⟩
theorem turn_enumT {P : Program} {w : World} {K : PySem.W.Frag} {elts : List Expr} {kk : Nat} {tpos : Pos} (a e it : Addr) :
    Turn P w K (.Tuple elts kk tpos) (IteT K a) [e, it] e (fun i h => (∃ old, IsEnum h e it ((i : Nat) : Int) old) ∧ h.IsTupleIter it a i ∧ e ≠ it ∧ a ≠ e ∧ a ≠ it) where
  mem := by simp
  obj := fun i h st b hb => by
    obtain ⟨⟨old, he⟩, ⟨o, ho, hc, hd⟩, _⟩ := st
    have e' : b = e ∨ b = it := by simpa using hb
    rcases e' with z | z
    · rw [z]; exact ⟨_, he, fun v q => nomatch q⟩
    · rw [z]; exact ⟨o, ho, fun v q => by rw [hd] at q; cases q⟩
  keep := fun i h h' st k => by
    obtain ⟨⟨old, he⟩, hi, r⟩ := st
    exact ⟨⟨old, k e (by simp) _ he⟩, hi.at fun o q => k it (by simp) o q, r⟩
  item := by
    intro X hP hw hK hc i pins s σ H E I hf st hg
    subst hP hw hK
    obtain ⟨⟨old, he⟩, hit, hne, hae, hai⟩ := st
    obtain ⟨xs, x, hq, hx⟩ := hg
    obtain ⟨its, rv, p, hz⟩ := I.tuple hq
    obtain ⟨u, hu, ru⟩ := rv.get hx
    have ht : s.heap.IsTuple a its.toArray := p
    have hel : e < s.heap.objs.size := Heap.lt_size he
    have hil : it < s.heap.objs.size := by obtain ⟨_, q, _⟩ := hit; exact Heap.lt_size q
    have D := Draws.tuple (prog := X.prog) (w := X.w) (A := X.A.in1) (I.ok.hd hc) it a hai its.toArray
    have hlt : i < its.toArray.size := by
      have z : i < its.length := (List.getElem?_eq_some_iff.mp hu).1
      simpa using z
    refine wpAny_pyNext_enum_itemD D he ⟨hit, ht⟩ hlt hne (by simp [hne, Ne.symm hae]) fun y h' tk hy ho hst hT hsz hk => ?_
    have ey : y = u := by
      have z : its[i]? = some y := by simpa using hy
      rw [hu] at z
      exact (Option.some.inj z).symm
    subst ey
    refine ⟨_, rfl, wpAny_letOwnedTupleGo_enum (s := { s with heap := h', toks := tk + 1 }) ho fun h'' he' sb => ?_⟩
    have hT2 : h''.get? s.heap.objs.size = some { cls := .type "tuple", data := .seq #[.int i tk, y] } := (sb.2 _ (Nat.ne_of_gt hel)).trans hT
    have new : ObjOk X.prog X.w (upd H s.heap.objs.size (.tup [.int (i : Nat), x])) h'' s.heap.objs.size (.tup [.int (i : Nat), x]) :=
      ⟨by show 2 ≤ sizeLine; decide, [.int i tk, y], .cons ⟨_, rfl⟩ (.cons ru .nil), ⟨_, hT2, rfl, _, rfl⟩⟩
    have I1 : Inv X pins σ (upd H s.heap.objs.size (.tup [.int (i : Nat), x])) { s with heap := h'', toks := tk + 1 } :=
      I.turnedNew (ch := [e, it]) (fun b ob hb q => (sb.2 b (fun z => hb (by simp [z]))).trans (hk b ob (fun z => hb (by simp [z])) (fun z => hb (by simp [z])) q)) hf (Nat.le_refl _) new
    have fr : H s.heap.objs.size = none := I.hok.fresh (Nat.le_refl _)
    refine ⟨.ref s.heap.objs.size, _, I1, rfl, ⟨_, x, rfl, fr, rfl, fun ys hy => by rw [I.tuple_inj hy hq]; exact hx⟩, ⟨⟨y, ?_⟩, hst.1.at fun o q => (sb.2 it (Ne.symm hne)).trans q, hne, hae, hai⟩, fun b hb => ?_⟩
    · have e1 : ((i + 1 : Nat) : Int) = (i : Int) + 1 := by omega
      rw [e1]; exact he'
    · have e' : b = e ∨ b = it := by simpa using hb
      have hb' : b < s.heap.objs.size := by rcases e' with z | z <;> rw [z] <;> assumption
      rw [upd_ne (Nat.ne_of_lt hb')]
      exact (hf b hb).1
  done := by
    intro X hP hw hK hc i pins s σ H E I hf st hg
    subst hP hw hK
    obtain ⟨⟨old, he⟩, hit, hne, hae, hai⟩ := st
    obtain ⟨xs, hq, hx⟩ := hg
    obtain ⟨its, rv, p, hz⟩ := I.tuple hq
    have ht : s.heap.IsTuple a its.toArray := p
    obtain ⟨f0, f1, f2, f3, f4, f5⟩ := hf it (by simp)
    have hl := rv.length
    have hT : s.TypeIs (.ref e) "enumerate" := ⟨_, he, rfl⟩
    refine enum_over (I.ok.hd hc) he hit ht (by simp; omega) fun h' eb => ⟨rfl, I.turned (t' := s.toks) (fun b o hb q => eb b o hb q) f0 f1 f3 f4 f5⟩
  self := fun A i s Q E st h => by
    obtain ⟨⟨_, he⟩, _⟩ := st
    exact wpAny_pyIter_enum he h
def iEnumT (K : PySem.W.Frag) (ta : TA) : TI := fun σ H R => ta σ H fun vs H1 => ∃ a xs, vs = [.ref a] ∧ SqT K H1 a xs ∧ R (IteT K a) H1
theorem pi_enumT {X : Cx} {e : Expr} {ta : TA} {p pos tpos : Pos} {elts : List Expr} {kk : Nat} (hg : Gl X "enumerate") (hm : X.mg "enumerate" = none) (ha : PA X [e] ta) (hs : starEach [e] X.env = [(false, eval e X.env)] := by rfl) :
    PI X (.Tuple elts kk tpos) (.Call (.Name "enumerate" p) [e] [] pos) (iEnumT X.K ta) := by
  refine ⟨fun pins s σ H R I h => ?_⟩
  refine Call_ (ld_blt I hg hm boot_enumerate (PyProof.Rows.callWith_type1 (thn (ha.run pos pins s σ H _ I h) fun us s1 ⟨vs, H1, I1, r1, q1⟩ => ?_) hs rfl))
  obtain ⟨a, xs, ex, hq, q⟩ := q1
  subst ex
  cases r1 with
  | cons r rr =>
    cases rr
    cases r
    obtain ⟨its, rv, pt, hz⟩ := I1.tuple hq
    have ht : s1.heap.IsTuple a its.toArray := pt
    have hal : a < s1.heap.objs.size := by obtain ⟨_, q, _⟩ := ht; exact Heap.lt_size q
    refine enum_call1 (begins_tuple a its.toArray) ht fun h2 he hit hk => wpAny_pyIter_enum he ?_
    have I2 : Inv X pins σ H1 { s1 with heap := h2 } := I1.kept (t' := s1.toks) hk
    refine ⟨s1.heap.objs.size + 1, [s1.heap.objs.size + 1, s1.heap.objs.size], _, _, H1, rfl, I2, turn_enumT a (s1.heap.objs.size + 1) s1.heap.objs.size, ⟨⟨.none, he⟩, ⟨_, hit, rfl, rfl⟩, Nat.succ_ne_self _, Nat.ne_of_lt (Nat.lt_succ_of_lt hal), Nat.ne_of_lt hal⟩, fun b hb => ?_, q⟩
    have e' : b = s1.heap.objs.size + 1 ∨ b = s1.heap.objs.size := by simpa using hb
    have hle : s1.heap.objs.size ≤ b := by rcases e' with z | z <;> rw [z] <;> first | exact Nat.le_succ _ | exact Nat.le_refl _
    exact I1.fpOk hle (I1.hok.fresh hle)
end Lm

set_option Elab.async false
set_option linter.all false
set_option maxRecDepth 100000
set_option maxHeartbeats 2000000
namespace Lm
open PySem PySem.Spec PyProof.Rows L2 LmR
/-! ### defs that may refuse -/
def CalX (P : Program) (w : World) (K : PySem.W.Frag) (mg : Str → Option Value) (base : Heap) (k : Nat) (x : Str) (ps : List Str) (sp : Sp) : Prop :=
  ∃ f fd, FnOk P w K mg base (L2.CX P w) k f fd ps sp ∧ mg x = some (.ref f) ∧ PySem.W.keepIn K (.ref f) = true ∧ Binds K fd ps []
section
variable {P : Program} {w : World} {K : PySem.W.Frag} {mg : Str → Option Value} {base : Heap}
theorem calx_of {x : Str} {st : Stmt} {N ps : List Str} {k : Nat} {sp : Sp} (D : DefAt K mg x st ps) (S : FnScope N ps (defScope st)) (len : ∀ vs H Q E, sp vs H Q E → vs.length = ps.length)
    (hbody : ∀ (f : Addr) (cdv : Value) (A : Around) (outer : List Env) (s : Shared) (H : Hp) (vs : List V) (Q : VK) (E : XK), Room k (A.deeper (envOfC x (defScope st) s.heap.objs.size f cdv)) → sp vs H Q E →
      ∃ t, PSs (cxOf (L2.CX P w) P w K mg base N x (defScope st) f cdv A outer s H E) (defBody st) t ∧ t { nx := fun _ H' => Q .non H', rt := Q } (start N vs) H) : CalX P w K mg base (k + 1) x ps sp := by
  obtain ⟨f, fd, F, b, g⟩ := D
  exact ⟨f, fd, F.okX S len (hbody f), g, F.kp, b⟩
end
theorem pe_calX {X : Cx} {W : WX} {k : Nat} {x : Str} {ps : List Str} {sp : Sp} {e : Expr} {es : List Expr} {t : TA} {p pos : Pos} (C : CalX X.prog X.w X.K X.mg X.base k x ps sp) (tk : Takes X W) (hr : Room k X.A) (hg : Gl X x) (ha : PA X (e :: es) t)
    (hdb : (x == ("__debug__" : Str)) = false := by decide) (he : starEach (e :: es) X.env = (false, eval e X.env) :: starEach es X.env := by rfl) (hpl : (backTo pos (starEach es X.env)).any (·.1) = false := by rfl) :
    PE X (.Call (.Name x p) (e :: es) [] pos) (tCallS sp (WE W) t) := by
  obtain ⟨f, fd, F, g, kp, b⟩ := C
  exact pe_callS F hr hg g kp b (fun σ => passAt tk σ) ha hdb he hpl
/-! ### classes of refusals -/
/-- the class x at C, its __init__ (st) keeps the fields fs -/
structure Rf (K : PySem.W.Frag) (mg : Str → Option Value) (x q : Str) (C fI : Addr) (fd : FuncData) (st : Stmt) (fs : List Str) : Prop where
  g : mg x = some (.ref C)
  o : OexC K C
  f : XfC K C
  k : ExK K C
  te : PySem.W.exmOne K (.ref C) (.ref C) = some true
  fld : ∀ n ∈ fs, PySem.W.findIn K (.ref C) n = some none
  iC : PySem.W.findIn K (.ref C) "__init__" = some (some (.ref fI))
  tI : PySem.W.typeIn K (.ref fI) = some (.type "function")
  F : Fun K "__init__" q st fI fd
  b : Binds K fd ("self" :: fs) []
/-- __init__(self, f, g) -/
def spIni2 (C : Addr) (f g : Str) : Sp := fun vs H Q E => ∃ a x y, vs = [.ref a, x, y] ∧ H a = some (exo a C none) ∧
  ∀ (d : Addr) (H' : Hp), H d = none → H' a = some (exo a C (some d)) → H' d = some (exd d [(g, y), (f, x)]) → (∀ b, b ≠ a → b ≠ d → H' b = H b) → Q .non H'
def spIni1 (C : Addr) (f : Str) : Sp := fun vs H Q E => ∃ a x, vs = [.ref a, x] ∧ H a = some (exo a C none) ∧
  ∀ (d : Addr) (H' : Hp), H d = none → H' a = some (exo a C (some d)) → H' d = some (exd d [(f, x)]) → (∀ b, b ≠ a → b ≠ d → H' b = H b) → Q .non H'
/-- what refusing leaves: the fields at d, all else as it was -/
def Raised (H H' : Hp) (d : Addr) (fs : List (Str × V)) : Prop := H d = none ∧ H' d = some (.xd fs) ∧ ∀ b, b ≠ d → H' b = H b
theorem Raised.same {H H' : Hp} {d : Addr} {fs : List (Str × V)} (r : Raised H H' d fs) : Same H H' := fun b o e => by
  have n : b ≠ d := fun z => by rw [z, r.1] at e; cases e
  rw [r.2.2 b n]; exact e
theorem mk_two {C : Addr} {f g : Str} {x y : V} {H : Hp} {Q : XK} (hq : ∀ d H', Raised H H' d [(g, y), (f, x)] → Q (.ref C) (some d) H') :
    [x, y].length ≤ 1000 ∧ ∀ a, H a = none → spIni2 C f g (.ref a :: ([x, y] ++ [])) (upd H a (exo a C none))
      (fun v H2 => v = .non ∧ ∃ (d : Addr) (fs : List (Str × V)), H2 a = some (exo a C (some d)) ∧ H2 d = some (exd d fs) ∧ H d = none ∧ Q (.ref C) (some d) (upd (del H2 a) d (.xd fs))) (fun _ _ _ => False) := by
  refine ⟨by show 2 ≤ 1000; decide, fun a ha => ⟨a, x, y, rfl, upd_same, fun d H' hd h1 h2 h3 => ⟨rfl, d, _, h1, h2, ?_, hq d _ ⟨?_, upd_same, fun b hb => ?_⟩⟩⟩⟩
  all_goals
    have nd : d ≠ a := fun z => by rw [z, upd_same] at hd; cases hd
  · rw [upd_ne nd] at hd; exact hd
  · rw [upd_ne nd] at hd; exact hd
  · rw [upd_ne hb]
    by_cases z : b = a
    · rw [z, del_same, ha]
    · rw [del_ne z, h3 b z hb, upd_ne z]
theorem mk_one {C : Addr} {f : Str} {x : V} {H : Hp} {Q : XK} (hq : ∀ d H', Raised H H' d [(f, x)] → Q (.ref C) (some d) H') :
    [x].length ≤ 1000 ∧ ∀ a, H a = none → spIni1 C f (.ref a :: ([x] ++ [])) (upd H a (exo a C none))
      (fun v H2 => v = .non ∧ ∃ (d : Addr) (fs : List (Str × V)), H2 a = some (exo a C (some d)) ∧ H2 d = some (exd d fs) ∧ H d = none ∧ Q (.ref C) (some d) (upd (del H2 a) d (.xd fs))) (fun _ _ _ => False) := by
  refine ⟨by show 1 ≤ 1000; decide, fun a ha => ⟨a, x, rfl, upd_same, fun d H' hd h1 h2 h3 => ⟨rfl, d, _, h1, h2, ?_, hq d _ ⟨?_, upd_same, fun b hb => ?_⟩⟩⟩⟩
  all_goals
    have nd : d ≠ a := fun z => by rw [z, upd_same] at hd; cases hd
  · rw [upd_ne nd] at hd; exact hd
  · rw [upd_ne nd] at hd; exact hd
  · rw [upd_ne hb]
    by_cases z : b = a
    · rw [z, del_same, ha]
    · rw [del_ne z, h3 b z hb, upd_ne z]
theorem pass_no {X : Cx} : Passes (L2.CX X.prog X.w) X (fun _ _ _ => False) := fun _ _ _ _ _ _ _ c => by
  obtain ⟨_, _, _, _, _, _, _, _, _, _, _, _, z⟩ := c
  exact z.elim
/-- raise x(e, ..) -/
theorem ps_ref {X : Cx} {W : WX} {x q : Str} {C fI : Addr} {fd : FuncData} {st : Stmt} {fs : List Str} {sp : Sp} {k : Nat} {e : Expr} {es : List Expr} {ta : TA} {p pos pos' : Pos} (R : Rf X.K X.mg x q C fI fd st fs) (F : FnOk X.prog X.w X.K X.mg X.base (L2.CX X.prog X.w) k fI fd ("self" :: fs) sp) (hr : Room (k + 1) X.A)
    (hc : X.calm = true) (tk : Takes X W) (hg : Gl X x) (ha : PA X (e :: es) ta)
    (hdb : (x == ("__debug__" : Str)) = false := by decide) (he : starEach (e :: es) X.env = (false, eval e X.env) :: starEach es X.env := by rfl) (hpl : (backTo pos (starEach es X.env)).any (·.1) = false := by rfl) :
    PS X (.Raise (some (.Call (.Name x p) (e :: es) [] pos)) none pos') (fun _ σ H => tMkO C sp [] ta σ H fun cls d H' => W cls d σ H') :=
  ps_raise hc tk (pmk_oex R.o R.iC R.tI F hr R.b .nil pass_no hg R.g ha hdb he hpl)
end Lm
namespace Lm
open PySem PySem.Spec PyProof.Rows L2 LmR
/-! ### x not in a tuple of texts, x any flat data -/
def strIn (ss : List Str) : PyData → Bool
  | .str s => ss.any fun y => y == s
  | _ => false
def rNotInD (K : PySem.W.Frag) : R2 := fun x y H Q => ∃ (p : Addr) (ss : List Str) (d : PyData), y = .ref p ∧ SqT K H p (ss.map V.str) ∧ Fd K H x d ∧ Q (.bl (!strIn ss d)) H
theorem all_str : ∀ ss : List Str, (ss.map V.str).all flatV = true
  | [] => rfl
  | _ :: ss => by rw [List.map_cons, List.all_cons, all_str ss]; rfl
theorem inV_str (ss : List Str) (x : V) (d : PyData) (h : ∀ y : Str, eqV (.str y) x = strIn [y] d) : inV x (ss.map V.str) = strIn ss d := by
  unfold inV
  induction ss with
  | nil => cases d <;> rfl
  | cons s ss ih =>
    rw [List.map_cons, List.any_cons, ih, h s]
    cases d with
    | str z => simp [strIn]
    | _ => rfl
theorem op_notInD {X : Cx} {K : PySem.W.Frag} (hK : X.K = K) (hu : X.A.units + 1 < cLine) : OpR X (compareOp .NotIn) (rNotInD K) := by
  subst hK
  intro pins s σ H x y v u Q I rx ry h
  obtain ⟨p, ss, d, rfl, hq, ⟨fd, hd⟩, q⟩ := h
  by_cases ht : ∃ ds, d = .tuple ds
  · obtain ⟨ds, rfl⟩ := ht
    cases hd with
    | tup qa r =>
      rename_i a vs
      cases rx
      cases ry
      obtain ⟨its, rv, pl, hz⟩ := I.tuple hq
      obtain ⟨itz, rz, plz, hzz⟩ := I.tuple qa
      refine SeqAt.notIn_tupleAt (fun _ => false) pl (fun w hw => ?_) ⟨.bl _, H, I, rfl, ?_⟩
      · have hw' : w ∈ its := by simpa using hw
        have st : ∀ (ss : List Str) (its : List Value), Vals (ss.map V.str) its → ∀ w ∈ its, ∃ b t, w = .str b t := by
          intro ss
          induction ss with
          | nil => intro its r w hw; cases r; cases hw
          | cons z ss ih =>
            intro its r w hw
            cases r with
            | cons ra rb =>
              rcases List.mem_cons.mp hw with e | e
              · obtain ⟨t, et⟩ := ra
                exact ⟨z, t, e.trans et⟩
              · exact ih _ rb w e
        obtain ⟨b, t, rfl⟩ := st ss its rv w hw'
        exact SeqAt.EqAt.str_tuple b t plz (by first | exact hu | (show X.A.units + 1 < cLine; exact hu) | (have := hu; omega))
      · have e : (!(its.toArray.any fun _ => false)) = !strIn ss (.tuple ds) := by simp [strIn]
        rw [e]
        exact q
  · have fx : flatV x = true ∧ ∀ y : Str, eqV (.str y) x = strIn [y] d := by
      cases hd with
      | non => exact ⟨rfl, fun _ => rfl⟩
      | bl b => exact ⟨rfl, fun _ => rfl⟩
      | int i => exact ⟨rfl, fun _ => rfl⟩
      | str z => exact ⟨rfl, fun y => by simp [strIn, eqV]⟩
      | lst q r => simp [flat] at fd
      | tup q r => exact absurd ⟨_, rfl⟩ ht
    refine op_notIn_seq pins s σ H x _ v u Q I rx ry ⟨p, _, rfl, .inr hq, fx.1, all_str ss, ?_⟩
    rw [if_pos rfl, inV_str ss x d fx.2]
    exact q
/-! ### for i, x in enumerate(tuple) -/
theorem for_enumT {K : PySem.W.Frag} {a : Addr} {xs : List V} {g : TG} {tb : TS} {D : Ends} {σ : L2.St} {H : Hp} (Pv : Nat → L2.St → Hp → Prop) (h0 : Pv 0 σ H) (hq : ∀ i σ H, Pv i σ H → SqT K H a xs)
    (hstep : ∀ i x σ H T, xs[i]? = some x → Pv i σ H → H T = none → g (.ref T) σ (upd H T (.tup [.int (i : Nat), x])) fun σ2 H2 => tb { D with nx := Pv (i + 1), ct := Pv (i + 1), bk := D.nx } σ2 H2)
    (hend : ∀ σ H, Pv xs.length σ H → D.nx σ H) :
    ∃ W : Nat → Nat → L2.St → Hp → Prop, (∃ m, W 0 m σ H) ∧ ∀ i m σ H, W i m σ H →
      ((IteT K a).stop i H ∧ D.nx σ H) ∨ ((IteT K a).go i H ∧ ∃ N : L2.St → Hp → Prop, (∀ σ' H', N σ' H' → ∃ m', m' < m ∧ W (i + 1) m' σ' H') ∧ ∀ x H', (IteT K a).yld i H x H' → g x σ H' fun σ2 H2 => tb { D with nx := N, ct := N, bk := D.nx } σ2 H2) := by
  refine ⟨fun i m σ H => i ≤ xs.length ∧ m = xs.length - i ∧ Pv i σ H, ⟨_, Nat.zero_le _, rfl, h0⟩, fun i m σ H ⟨hi, hm, hp⟩ => ?_⟩
  have hs := hq i σ H hp
  rcases Nat.lt_or_ge i xs.length with hlt | hge
  · obtain ⟨x, hx⟩ : ∃ x, xs[i]? = some x := ⟨xs[i], List.getElem?_eq_getElem hlt⟩
    refine .inr ⟨⟨xs, x, hs, hx⟩, Pv (i + 1), fun σ' H' h' => ⟨xs.length - (i + 1), by omega, hlt, rfl, h'⟩, ?_⟩
    rintro y H' ⟨T, z, rfl, hT, rfl, hz⟩
    have e := hz xs hs
    rw [hx] at e
    cases e
    exact hstep i x σ H T hx hp hT
  · have e : i = xs.length := Nat.le_antisymm hi hge
    refine .inl ⟨⟨xs, hs, hge⟩, hend σ H (e ▸ hp)⟩
/-- the defs within a class -/
def clsBody : Stmt → List Stmt
  | .ClassDef _ _ _ b _ _ _ _ _ _ _ => b
  | _ => []
end Lm
namespace Lm
open PySem PySem.Spec PyProof.Rows L2 LmR
/-- isinstance(e, c), e the exception at a, of the class at C, its fields at dd -/
def rIsX (K : PySem.W.Frag) (C a dd : Addr) : List V → Hp → VK → Prop := fun xs H Q => ∃ (D : Addr) (b : Bool), xs = [.ref a, .ref D] ∧ PySem.W.kitOne K (.ref C) (.ref D) = some b ∧ (∃ fs, H dd = some (.xd fs)) ∧ Q (.bl b) H
theorem call_isX {X : Cx} {a C dd : Addr} {oe : Obj} (k : ExK X.K C) (hz : Zc (.ref C) (some dd) oe) (hf : ∃ vs, oe.data = .fields vs) (hp : (a, oe) ∈ X.pn) : CallR X (.builtin "isinstance") (rIsX X.K C a dd) := by
  intro pins s σ H xs us Q I r h
  obtain ⟨D, b, rfl, e, ⟨fs, ea⟩, q⟩ := h
  obtain ⟨u1, u2, rfl, r1, r2⟩ := vals2 r
  cases (show u1 = Value.ref a from r1)
  cases (show u2 = Value.ref D from r2)
  obtain ⟨ha, _⟩ := I.pin (a, oe) (List.mem_append_left _ hp)
  obtain ⟨vs, hd⟩ := hf
  have hx : ObjOk X.prog X.w H s.heap dd (.xd fs) := I.hok dd _ ea
  obtain ⟨mA, hns, hr⟩ := hx
  obtain ⟨od, ho, hl⟩ := lookIn_ns hns
  have J : PySem.W.InstAt s.heap a oe C (some od) := ⟨ha, hz.1, by unfold PySem.W.notCls; rw [hd] <;> rfl, by rw [hz.2]; exact ho⟩
  exact PySem.W.kia_one (PySem.W.kitx_exc k.cl k.ga k.gg k.ex k.ca k.gn k.tk k.ob) I.kIn J e (fun z => nomatch z) fun tk => ⟨.bl b, H, I.tok tk, rfl, q⟩
/-- the twelve classes, and of which of them the class at C is -/
structure Srt (K : PySem.W.Frag) (mg : Str → Option Value) (C : Addr) (c1 c2 c3 c4 c5 c6 c7 c8 c9 c10 c11 c12 : Addr) (b1 b2 b3 b4 b5 b6 b7 b8 b9 b10 b11 b12 : Bool) : Prop where
  g1 : mg "NoHead" = some (.ref c1)
  g2 : mg "NoProgram" = some (.ref c2)
  g3 : mg "NoText" = some (.ref c3)
  g4 : mg "NoStock" = some (.ref c4)
  g5 : mg "NoAnswer" = some (.ref c5)
  g6 : mg "NoInputs" = some (.ref c6)
  g7 : mg "Clash" = some (.ref c7)
  g8 : mg "NoRow" = some (.ref c8)
  g9 : mg "NoQuestion" = some (.ref c9)
  g10 : mg "NoDoer" = some (.ref c10)
  g11 : mg "NotKept" = some (.ref c11)
  g12 : mg "NoName" = some (.ref c12)
  k1 : PySem.W.kitOne K (.ref C) (.ref c1) = some b1
  k2 : PySem.W.kitOne K (.ref C) (.ref c2) = some b2
  k3 : PySem.W.kitOne K (.ref C) (.ref c3) = some b3
  k4 : PySem.W.kitOne K (.ref C) (.ref c4) = some b4
  k5 : PySem.W.kitOne K (.ref C) (.ref c5) = some b5
  k6 : PySem.W.kitOne K (.ref C) (.ref c6) = some b6
  k7 : PySem.W.kitOne K (.ref C) (.ref c7) = some b7
  k8 : PySem.W.kitOne K (.ref C) (.ref c8) = some b8
  k9 : PySem.W.kitOne K (.ref C) (.ref c9) = some b9
  k10 : PySem.W.kitOne K (.ref C) (.ref c10) = some b10
  k11 : PySem.W.kitOne K (.ref C) (.ref c11) = some b11
  k12 : PySem.W.kitOne K (.ref C) (.ref c12) = some b12
def Sorts (K : PySem.W.Frag) (mg : Str → Option Value) (C : Addr) (bs : List Bool) : Prop := ∃ c1 c2 c3 c4 c5 c6 c7 c8 c9 c10 c11 c12 b1 b2 b3 b4 b5 b6 b7 b8 b9 b10 b11 b12,
  Srt K mg C c1 c2 c3 c4 c5 c6 c7 c8 c9 c10 c11 c12 b1 b2 b3 b4 b5 b6 b7 b8 b9 b10 b11 b12 ∧ bs = [b1, b2, b3, b4, b5, b6, b7, b8, b9, b10, b11, b12]
def spSorts (C a : Addr) (cls : Value) (d : Option Addr) (bs : List Bool) : Sp := fun vs H Q _ => vs = [.ref a] ∧ cls = .ref C ∧ ∃ dd fs, d = some dd ∧ H dd = some (.xd fs) ∧ ∀ H' l, Same H H' → H' l = some (.lst (bs.map V.bl)) → Q (.ref l) H'
end Lm

set_option Elab.async false
set_option linter.all false
set_option maxRecDepth 100000
set_option maxHeartbeats 2000000
namespace Lm
open PySem PySem.Spec PyProof.Rows L2 LmR
def topS (i : Nat) : Stmt := PySem.Challenge.pw_leastmaker_k02_heads_looked_at.main.body.getD i (.Pass ⟨0, 0, 0, 0⟩)
section
variable {P : Program} {w : World} {K : PySem.W.Frag} {mg : Str → Option Value} {base : Heap}
/-! ### cell, flow, draw -/
abbrev s_l_cell : Stmt := topS 18
theorem sc_l_cell : FnScope ["_law_script", "_law_k", "_law_number"] ["_law_script", "_law_k"] (defScope s_l_cell) := ⟨rfl, rfl, rfl, by decide +kernel, rfl, by decide +kernel, by decide +kernel⟩
def spCell (K : PySem.W.Frag) : Sp := fun vs H Q _ => ∃ (a : Addr) (ns : List Int) (k : Int), vs = [.ref a, .int k] ∧ SqL K H a (ns.map V.int) ∧ 0 ≤ k ∧ ∀ i, Q (.int i) H
theorem ok_l_cell (B : Bt mg) (D : DefAt K mg "_law_cell" s_l_cell ["_law_script", "_law_k"]) : Cal P w K mg base 1 "_law_cell" ["_law_script", "_law_k"] (spCell K) := by
  refine cal_of D sc_l_cell (fun vs H Q E h => ?_) (fun f cdv A outer s H vs Q E hr h => ?_)
  · obtain ⟨a, ns, k, rfl, _⟩ := h
    rfl
  obtain ⟨a, ns, k, rfl, hS, h0, q⟩ := h
  refine ⟨_, (pss_cons (ps_if (pt_cmpR op_lt (pv 1) (pe_callB call_len_seq (by rfl) B.len PySem.boot_len (pa_cons (pv 0) pa_nil)) (nomark _))
        (pss_one (ps_ret (pe_ix ix_list (pv 0) (pv 1) (fun _ _ => rfl))))
        pss_nil)
      (pss_cons (ps_set (i := 2) sc_l_cell.nd rfl (.inl rfl) (pe_op op_add (pe_op op_mul (pv 1) pe_int) pe_int))
      (pss_cons (ps_if (pt_cmpR op_gt (pe_callB call_len_seq (by rfl) B.len PySem.boot_len (pa_cons (pv 0) pa_nil)) pe_int (nomark _))
        (pss_one (ps_set (i := 2) sc_l_cell.nd rfl (.inl rfl) (pe_op op_add (pe_op op_mul (pe_op op_mod (pe_ix ix_list (pv 0) (pe_op op_mod (pe_op op_mul (pv 1) pe_int) (pe_callB call_len_seq (by rfl) B.len PySem.boot_len (pa_cons (pv 0) pa_nil))) (fun _ _ => rfl)) pe_int) pe_int) (pe_op op_mul (pv 1) pe_int))))
        pss_nil)
      (pss_one (ps_ret (pe_op op_mul (pe_op op_mod (pv 2) pe_int) pe_int)))))), ?_⟩
  have hl : (ns.map V.int).length = ns.length := List.length_map _
  refine ⟨_, rfl, _, rfl, a, _, rfl, .inl hS, _, _, rfl, rfl, _, rfl, ite2 (fun c => ?_) (fun c => ?_)⟩
  · have c' : k < (((ns.map V.int).length : Nat) : Int) := of_decide_eq_true c
    rw [hl] at c'
    have e : (ns.map V.int)[k.toNat]? = some (.int ns[k.toNat]) := by
      rw [List.getElem?_map, List.getElem?_eq_getElem (by omega)]
      rfl
    exact ⟨_, rfl, _, rfl, a, _, _, _, rfl, rfl, hS, at_of (j := k.toNat) (by omega) e, q _⟩
  · refine ⟨_, rfl, _, _, rfl, rfl, .inr ⟨by decide, by decide⟩, _, _, rfl, rfl, ?_⟩
    refine ⟨_, rfl, a, _, rfl, .inl hS, _, _, rfl, rfl, _, rfl, ite2 (fun c2 => ?_) (fun c2 => ?_)⟩
    · have c2' : (((ns.map V.int).length : Nat) : Int) > 0 := of_decide_eq_true c2
      rw [hl] at c2'
      have hp : (0 : Int) < (((ns.map V.int).length : Nat) : Int) := by rw [hl]; omega
      have b1 : 0 ≤ (k * 7) % (((ns.map V.int).length : Nat) : Int) := Int.emod_nonneg _ (by omega)
      have b2 : (k * 7) % (((ns.map V.int).length : Nat) : Int) < (((ns.map V.int).length : Nat) : Int) := Int.emod_lt_of_pos _ hp
      generalize hj : (k * 7) % (((ns.map V.int).length : Nat) : Int) = j at b1 b2
      rw [hl] at b2
      have e : (ns.map V.int)[j.toNat]? = some (.int ns[j.toNat]) := by
        rw [List.getElem?_map, List.getElem?_eq_getElem (by omega)]
        rfl
      have m1 : 0 ≤ ns[j.toNat] % 2147483629 := Int.emod_nonneg _ (by decide)
      have m2 : ns[j.toNat] % 2147483629 < 2147483629 := Int.emod_lt_of_pos _ (by decide)
      refine ⟨_, rfl, _, rfl, _, _, rfl, rfl, .inr ⟨by decide, by decide⟩, _, rfl, a, _, rfl, .inl hS, _, _, rfl, rfl, hp, a, _, _, V.int ns[j.toNat], rfl, rfl, hS, ?_, _, _, rfl, rfl, (by show (0 : Int) < 2147483629; decide), _, _, rfl, rfl, .inl ⟨by omega, by omega⟩, _, rfl, _, _, rfl, rfl, .inr ⟨by decide, by decide⟩, _, _, rfl, rfl, ?_⟩
      · rw [hj]
        exact at_of (j := j.toNat) (by omega) e
      · have n1 := Int.emod_nonneg (ns[j.toNat] % 2147483629 * 48271 + k * 7919) (show (2147483647 : Int) ≠ 0 by decide)
        have n2 := Int.emod_lt_of_pos (ns[j.toNat] % 2147483629 * 48271 + k * 7919) (show (0 : Int) < 2147483647 by decide)
        exact ⟨_, rfl, _, _, rfl, rfl, (by show (0 : Int) < 2147483647; decide), _, _, rfl, rfl, .inr ⟨by decide, by decide⟩, q _⟩
    · exact ⟨_, rfl, _, _, rfl, rfl, (by show (0 : Int) < 2147483647; decide), _, _, rfl, rfl, .inr ⟨by decide, by decide⟩, q _⟩
/-! the flow that is drawn from -/
def Flow (H : Hp) (f : Addr) : Prop := ∃ own cnt seed : Int, H f = some (.lst [.int own, .int cnt, .int seed]) ∧ 0 ≤ seed ∧ seed < 2 ^ 40
abbrev s_l_flow : Stmt := topS 19
theorem sc_l_flow : FnScope ["_law_script", "_law_k", "_law_cell_here", "_law_own"] ["_law_script", "_law_k"] (defScope s_l_flow) := ⟨rfl, rfl, rfl, by decide +kernel, rfl, by decide +kernel, by decide +kernel⟩
def spFlow (K : PySem.W.Frag) : Sp := fun vs H Q _ => ∃ (a : Addr) (ns : List Int) (k : Int), vs = [.ref a, .int k] ∧ SqL K H a (ns.map V.int) ∧ 0 ≤ k ∧ k ≤ 63 ∧ ∀ (p : Addr) (o : HO), H p = none → Flow (upd H p o) p → Q (.ref p) (upd H p o)
theorem ok_l_flow (C_l_cell : Cal P w K mg base 1 "_law_cell" ["_law_script", "_law_k"] (spCell K)) (D : DefAt K mg "_law_flow" s_l_flow ["_law_script", "_law_k"]) : Cal P w K mg base 2 "_law_flow" ["_law_script", "_law_k"] (spFlow K) := by
  refine cal_of D sc_l_flow (fun vs H Q E h => ?_) (fun f cdv A outer s H vs Q E hr h => ?_)
  · obtain ⟨a, ns, k, rfl, _⟩ := h
    rfl
  obtain ⟨a, ns, k, rfl, hS, h0, h1, q⟩ := h
  have hr' : Room 1 _ := hr
  refine ⟨_, (pss_cons (ps_set (i := 2) sc_l_flow.nd rfl (.inl rfl) (pe_cal C_l_cell hr' (by rfl) (pa_cons (pv 0) (pa_cons (pv 1) pa_nil))))
      (pss_cons (ps_set (i := 3) sc_l_flow.nd rfl (.inl rfl) pe_int)
      (pss_cons (ps_if (pt_cmpR op_ge (pv 2) (pe_op op_pow pe_int pe_int) (nomark _))
        (pss_one (ps_set (i := 3) sc_l_flow.nd rfl (.inl rfl) (pv 2)))
        pss_nil)
      (pss_one (ps_ret (pe_lst (pa_cons (pv 3) (pa_cons pe_int (pa_cons (pe_op op_add (pe_op op_mod (pv 2) pe_int) (pe_op op_mul pe_int (pv 1))) pa_nil))))))))), ?_⟩
  refine ⟨_, rfl, _, rfl, a, ns, k, rfl, hS, h0, fun i => ?_⟩
  have m1 : 0 ≤ i % 2147483629 := Int.emod_nonneg _ (by decide)
  have m2 : i % 2147483629 < 2147483629 := Int.emod_lt_of_pos _ (by decide)
  have pw : CPow 10 18 := ⟨by decide, by decide, by decide⟩
  refine ⟨_, rfl, _, _, rfl, rfl, pw, _, _, rfl, rfl, _, rfl, ite2 (fun c => ?_) (fun c => ?_)⟩
  · refine ⟨_, rfl, _, rfl, _, rfl, _, _, rfl, rfl, (by show (0 : Int) < 2147483629; decide), _, rfl, _, _, rfl, rfl, .inl ⟨by decide, by decide⟩, _, _, rfl, rfl, (by show 3 ≤ sizeLine; decide), fun p hp => q p _ hp ⟨_, _, _, upd_same, by omega, by omega⟩⟩
  · refine ⟨_, rfl, _, rfl, _, _, rfl, rfl, (by show (0 : Int) < 2147483629; decide), _, rfl, _, _, rfl, rfl, .inl ⟨by decide, by decide⟩, _, _, rfl, rfl, (by show 3 ≤ sizeLine; decide), fun p hp => q p _ hp ⟨_, _, _, upd_same, by omega, by omega⟩⟩
/-- the flow at f was drawn from, nothing else changed -/
structure Dr (f : Addr) (H H' : Hp) : Prop where
  off : ∀ b, b ≠ f → H' b = H b
  fl : Flow H' f
theorem Flow.lst {H : Hp} {f : Addr} (h : Flow H f) : ∃ xs, H f = some (.lst xs) := by
  obtain ⟨a, b, c, e, _⟩ := h
  exact ⟨_, e⟩
theorem Dr.ex {f : Addr} {H H' : Hp} (d : Dr f H H') : Ex [f] H H' := fun b o h n => by
  rw [d.off b (fun z => n (by rw [z]; simp))]
  exact h
theorem Dr.trans {f : Addr} {H H1 H2 : Hp} (a : Dr f H H1) (b : Dr f H1 H2) : Dr f H H2 := ⟨fun c n => (b.off c n).trans (a.off c n), b.fl⟩
theorem Dr.tp {f : Addr} {H H' : Hp} (d : Dr f H H') (h : Flow H f) : Tp K H H' := by
  obtain ⟨xs, e⟩ := h.lst
  refine d.ex.tp fun b hb ys q => ?_
  rw [List.mem_singleton.mp hb] at q
  rcases q with q | ⟨o, q⟩
  · rw [e] at q; cases q
  · rw [e] at q; cases q
abbrev s_l_draw : Stmt := topS 20
theorem sc_l_draw : FnScope ["_law_flow_here", "_law_many", "_law_number", "_law_digit"] ["_law_flow_here", "_law_many"] (defScope s_l_draw) := ⟨rfl, rfl, rfl, by decide +kernel, rfl, by decide +kernel, by decide +kernel⟩
def spDraw : Sp := fun vs H Q _ => ∃ (f : Addr) (m : Int), vs = [.ref f, .int m] ∧ Flow H f ∧ 0 < m ∧ m < 1073741824 ∧ ∀ (d : Int) (H' : Hp), 0 ≤ d → d < m → Dr f H H' → Q (.int d) H'
theorem dr_put {f : Addr} {H H0 : Hp} {xs : List V} (o : ∀ b, b ≠ f → H0 b = H b) (fl : Flow (upd H0 f (.lst xs)) f) : Dr f H (upd H0 f (.lst xs)) := ⟨fun b n => by rw [upd_ne n]; exact o b n, fl⟩
theorem ok_l_draw (D : DefAt K mg "_law_draw" s_l_draw ["_law_flow_here", "_law_many"]) : Cal P w K mg base 1 "_law_draw" ["_law_flow_here", "_law_many"] (spDraw) := by
  refine cal_of D sc_l_draw (fun vs H Q E h => ?_) (fun f cdv A outer s H vs Q E hr h => ?_)
  · obtain ⟨a, m, rfl, _⟩ := h
    rfl
  obtain ⟨a, m, rfl, ⟨own, cnt, seed, hf, s0, s1⟩, m0, m1, q⟩ := h
  refine ⟨_, (pss_cons (ps_if (pt_cmpR op_gt (pe_ix ix_list (pv 0) pe_int (fun _ _ => rfl)) pe_int (nomark _))
        (pss_cons (ps_set (i := 3) sc_l_draw.nd rfl (.inl rfl) (pe_op op_mod (pe_ix ix_list (pv 0) pe_int (fun _ _ => rfl)) (pv 1)))
      (pss_cons (ps_asg (pe_op op_fdiv (pe_ix ix_list (pv 0) pe_int (fun _ _ => rfl)) (pv 1)) (pg_sub (pv 0) pe_int set_list))
      (pss_one (ps_ret (pv 3)))))
        pss_nil)
      (pss_cons (ps_asg (pe_op op_add (pe_ix ix_list (pv 0) pe_int (fun _ _ => rfl)) pe_int) (pg_sub (pv 0) pe_int set_list))
      (pss_cons (ps_set (i := 2) sc_l_draw.nd rfl (.inl rfl) (pe_op op_mod (pe_op op_add (pe_op op_add (pe_op op_mul (pe_ix ix_list (pv 0) pe_int (fun _ _ => rfl)) (pe_op op_add pe_int (pe_op op_mul pe_int (pe_ix ix_list (pv 0) pe_int (fun _ _ => rfl))))) (pe_op op_mul pe_int (pe_ix ix_list (pv 0) pe_int (fun _ _ => rfl)))) pe_int) pe_int))
      (pss_cons (ps_set (i := 2) sc_l_draw.nd rfl (.inl rfl) (pe_op op_mod (pe_op op_mul (pv 2) (pv 2)) pe_int))
      (pss_one (ps_ret (pe_op op_mod (pe_op op_fdiv (pe_op op_mod (pe_op op_mul (pe_op op_add (pv 2) pe_int) (pe_op op_add (pv 2) pe_int)) pe_int) pe_int) (pv 1)))))))), ?_⟩
  have L : SqL K H a [.int own, .int cnt, .int seed] := SqL.of hf
  refine ⟨_, rfl, a, _, 0, .int own, rfl, rfl, L, rfl, _, _, rfl, rfl, _, rfl, ite2 (fun c => ?_) (fun c => ?_)⟩
  · have b1 : 0 ≤ own % m := Int.emod_nonneg _ (by omega)
    have b2 : own % m < m := Int.emod_lt_of_pos _ m0
    refine ⟨_, rfl, a, _, 0, .int own, rfl, rfl, L, rfl, _, rfl, _, _, rfl, rfl, m0, ?_⟩
    refine ⟨_, rfl, a, _, 0, .int own, rfl, rfl, L, rfl, _, rfl, _, _, rfl, rfl, ⟨m0, m1⟩, ?_⟩
    refine ⟨_, rfl, a, _, 0, 0, rfl, rfl, hf, rfl, ?_⟩
    exact ⟨_, rfl, q _ _ b1 b2 (dr_put (fun _ _ => rfl) ⟨_, _, _, upd_same, s0, s1⟩)⟩
  · refine ⟨_, rfl, a, _, 1, .int cnt, rfl, rfl, L, rfl, _, _, rfl, rfl, ?_⟩
    refine ⟨_, rfl, a, _, 1, 1, rfl, rfl, hf, rfl, ?_⟩
    have hf2 : (upd H a (.lst (List.set [.int own, .int cnt, .int seed] 1 (.int (cnt + 1))))) a = some (.lst [.int own, .int (cnt + 1), .int seed]) := upd_same
    generalize hH : upd H a (.lst (List.set [.int own, .int cnt, .int seed] 1 (.int (cnt + 1)))) = H2 at hf2
    have off : ∀ b, b ≠ a → H2 b = H b := fun b n => by
      rw [← hH, upd_ne n]
    have L2' : SqL K H2 a [.int own, .int (cnt + 1), .int seed] := SqL.of hf2
    refine ⟨_, rfl, a, _, 2, .int seed, rfl, rfl, L2', rfl, _, rfl, a, _, 1, .int (cnt + 1), rfl, rfl, L2', rfl, _, _, rfl, rfl, .inl ⟨by decide, by decide⟩, _, _, rfl, rfl, _, _, rfl, rfl, .inl ⟨by omega, by omega⟩, ?_⟩
    refine ⟨_, rfl, a, _, 1, .int (cnt + 1), rfl, rfl, L2', rfl, _, _, rfl, rfl, .inl ⟨by decide, by decide⟩, _, _, rfl, rfl, _, _, rfl, rfl, _, _, rfl, rfl, (by show (0 : Int) < 2147483629; decide), ?_⟩
    have n1 := Int.emod_nonneg (seed * (48271 + 2 * (cnt + 1)) + 7919 * (cnt + 1) + 1) (show (2147483629 : Int) ≠ 0 by decide)
    have n2 := Int.emod_lt_of_pos (seed * (48271 + 2 * (cnt + 1)) + 7919 * (cnt + 1) + 1) (show (0 : Int) < 2147483629 by decide)
    generalize (seed * (48271 + 2 * (cnt + 1)) + 7919 * (cnt + 1) + 1) % 2147483629 = n at n1 n2
    refine ⟨_, rfl, _, rfl, _, _, rfl, rfl, .inl ⟨by omega, by omega⟩, _, _, rfl, rfl, (by show (0 : Int) < 2147483587; decide), ?_⟩
    have k1 := Int.emod_nonneg (n * n) (show (2147483587 : Int) ≠ 0 by decide)
    have k2 := Int.emod_lt_of_pos (n * n) (show (0 : Int) < 2147483587 by decide)
    generalize n * n % 2147483587 = k at k1 k2
    refine ⟨_, rfl, _, _, rfl, rfl, _, rfl, _, _, rfl, rfl, _, _, rfl, rfl, .inl ⟨by omega, by omega⟩, _, _, rfl, rfl, (by show (0 : Int) < 2147483579; decide), _, _, rfl, rfl, ⟨by decide, by decide⟩, _, rfl, _, _, rfl, rfl, m0, ?_⟩
    exact q _ _ (Int.emod_nonneg _ (by omega)) (Int.emod_lt_of_pos _ m0) ⟨off, ⟨_, _, _, hf2, s0, s1⟩⟩
end
end Lm

set_option Elab.async false
set_option linter.all false
set_option maxRecDepth 100000
set_option maxHeartbeats 2000000
namespace Lm
open PySem PySem.Spec PyProof.Rows L2 LmR
/-! ### flat data: kinds, sizes -/
def tyn : PyData → String
  | .none => "NoneType"
  | .bool _ => "bool"
  | .int _ => "int"
  | .str _ => "str"
  | .list _ => "list"
  | .tuple _ => "tuple"
  | .dict _ => "dict"
theorem tyx_tup {K : PySem.W.Frag} {H : Hp} {a : Addr} {xs : List V} (q : SqT K H a xs) : TyX K H (.ref a) (.type "tuple") := by
  rcases q with (q | ⟨o, q⟩) | ⟨o, its, n, hk, hc, _⟩
  · exact .base (.tup q)
  · exact .fTuple q
  · exact .kTuple hk hc
theorem Fd.ty {K : PySem.W.Frag} {H : Hp} {v : V} {d : PyData} (h : Fd K H v d) : TyX K H v (.type (tyn d)) := by
  obtain ⟨f, h⟩ := h
  cases h with
  | non => exact .base .non
  | bl b => exact .base (.bl b)
  | int i => exact .base (.int i)
  | str x => exact .base (.str x)
  | lst q r => simp [flat] at f
  | tup q r => exact tyx_tup q
def isTup : PyData → Bool
  | .tuple _ => true
  | _ => false
def isBl : PyData → Bool
  | .bool _ => true
  | _ => false
def isStr : PyData → Bool
  | .str _ => true
  | _ => false
def isInt : PyData → Bool
  | .bool _ => true
  | .int _ => true
  | _ => false
theorem kit_tup {K : PySem.W.Frag} (d : PyData) (h : flat d = true) : PySem.W.kitOne K (.type (tyn d)) (.type "tuple") = some (isTup d) := by
  cases d <;> first | (simp [flat] at h; done) | exact kit_ty (a := "NoneType") (r := true) (by decide +kernel) | exact kit_ty (a := "NoneType") (r := false) (by decide +kernel) | exact kit_ty (a := "bool") (r := true) (by decide +kernel) | exact kit_ty (a := "bool") (r := false) (by decide +kernel) | exact kit_ty (a := "int") (r := true) (by decide +kernel) | exact kit_ty (a := "int") (r := false) (by decide +kernel) | exact kit_ty (a := "str") (r := true) (by decide +kernel) | exact kit_ty (a := "str") (r := false) (by decide +kernel) | exact kit_ty (a := "tuple") (r := true) (by decide +kernel) | exact kit_ty (a := "tuple") (r := false) (by decide +kernel)
theorem kit_bl {K : PySem.W.Frag} (d : PyData) (h : flat d = true) : PySem.W.kitOne K (.type (tyn d)) (.type "bool") = some (isBl d) := by
  cases d <;> first | (simp [flat] at h; done) | exact kit_ty (a := "NoneType") (r := true) (by decide +kernel) | exact kit_ty (a := "NoneType") (r := false) (by decide +kernel) | exact kit_ty (a := "bool") (r := true) (by decide +kernel) | exact kit_ty (a := "bool") (r := false) (by decide +kernel) | exact kit_ty (a := "int") (r := true) (by decide +kernel) | exact kit_ty (a := "int") (r := false) (by decide +kernel) | exact kit_ty (a := "str") (r := true) (by decide +kernel) | exact kit_ty (a := "str") (r := false) (by decide +kernel) | exact kit_ty (a := "tuple") (r := true) (by decide +kernel) | exact kit_ty (a := "tuple") (r := false) (by decide +kernel)
theorem kit_str {K : PySem.W.Frag} (d : PyData) (h : flat d = true) : PySem.W.kitOne K (.type (tyn d)) (.type "str") = some (isStr d) := by
  cases d <;> first | (simp [flat] at h; done) | exact kit_ty (a := "NoneType") (r := true) (by decide +kernel) | exact kit_ty (a := "NoneType") (r := false) (by decide +kernel) | exact kit_ty (a := "bool") (r := true) (by decide +kernel) | exact kit_ty (a := "bool") (r := false) (by decide +kernel) | exact kit_ty (a := "int") (r := true) (by decide +kernel) | exact kit_ty (a := "int") (r := false) (by decide +kernel) | exact kit_ty (a := "str") (r := true) (by decide +kernel) | exact kit_ty (a := "str") (r := false) (by decide +kernel) | exact kit_ty (a := "tuple") (r := true) (by decide +kernel) | exact kit_ty (a := "tuple") (r := false) (by decide +kernel)
theorem kit_int {K : PySem.W.Frag} (d : PyData) (h : flat d = true) : PySem.W.kitOne K (.type (tyn d)) (.type "int") = some (isInt d) := by
  cases d <;> first | (simp [flat] at h; done) | exact kit_ty (a := "NoneType") (r := true) (by decide +kernel) | exact kit_ty (a := "NoneType") (r := false) (by decide +kernel) | exact kit_ty (a := "bool") (r := true) (by decide +kernel) | exact kit_ty (a := "bool") (r := false) (by decide +kernel) | exact kit_ty (a := "int") (r := true) (by decide +kernel) | exact kit_ty (a := "int") (r := false) (by decide +kernel) | exact kit_ty (a := "str") (r := true) (by decide +kernel) | exact kit_ty (a := "str") (r := false) (by decide +kernel) | exact kit_ty (a := "tuple") (r := true) (by decide +kernel) | exact kit_ty (a := "tuple") (r := false) (by decide +kernel)
/-- how many things are in it -/
def dsz : PyData → Nat
  | .tuple xs => 1 + dszs xs
  | _ => 1
where dszs : List PyData → Nat
  | [] => 0
  | d :: ds => dsz d + dszs ds
theorem dsz_pos (d : PyData) : 1 ≤ dsz d := by cases d <;> simp [dsz]
theorem dszs_len : ∀ ds : List PyData, ds.length ≤ dsz.dszs ds
  | [] => Nat.le_refl _
  | d :: ds => by
    have h1 := dsz_pos d
    have h2 := dszs_len ds
    simp only [dsz.dszs, List.length_cons]
    omega
theorem dszs_app : ∀ ds es : List PyData, dsz.dszs (ds ++ es) = dsz.dszs ds + dsz.dszs es
  | [], es => by simp [dsz.dszs]
  | d :: ds, es => by
    have h := dszs_app ds es
    simp only [List.cons_append, dsz.dszs]
    omega
/-- a pair of two things alike -/
def Pr (K : PySem.W.Frag) (H : Hp) (t : Addr) (d : PyData) : Prop := ∃ x y, H t = some (.tup [x, y]) ∧ Fd K H x d ∧ Fd K H y d
theorem Pr.keep {K : PySem.W.Frag} {H H' : Hp} {t : Addr} {d : PyData} (h : Pr K H t d) (s : ∀ xs, H t = some (.tup xs) → H' t = some (.tup xs)) (t' : Tp K H H') : Pr K H' t d := by
  obtain ⟨x, y, e, a, b⟩ := h
  exact ⟨x, y, s _ e, a.keep t', b.keep t'⟩
theorem while_m {c : TT} {tb : TS} {D : Ends} {σ : L2.St} {H : Hp} (W : Nat → L2.St → Hp → Prop) (h0 : ∃ m, W m σ H)
    (hs : ∀ m σ H, W m σ H → c σ H fun b H1 => if b = true then ∃ N : L2.St → Hp → Prop, (∀ σ' H', N σ' H' → ∃ m', m' < m ∧ W m' σ' H') ∧ tb { D with nx := N, ct := N, bk := D.nx } σ H1 else D.nx σ H1) : tWhile c tb D σ H := ⟨W, h0, hs⟩
theorem dpall_get {K : PySem.W.Frag} {H : Hp} : ∀ {vs : List V} {ds : List PyData}, DpAll K H vs ds → ∀ (j : Nat) (v : V), vs[j]? = some v → ∃ d, ds[j]? = some d ∧ Dp K H v d
  | _, _, .nil, j, v, h => by simp at h
  | _, _, .cons a b, 0, v, h => by
    have e := Option.some.inj h
    subst e
    exact ⟨_, rfl, a⟩
  | _, _, .cons a b, j + 1, v, h => dpall_get b j v h
theorem dpall_len {K : PySem.W.Frag} {H : Hp} : ∀ {vs : List V} {ds : List PyData}, DpAll K H vs ds → vs.length = ds.length
  | _, _, .nil => rfl
  | _, _, .cons a b => by rw [List.length_cons, List.length_cons, dpall_len b]
theorem flats_get : ∀ {ds : List PyData}, flat.flats ds = true → ∀ (j : Nat) (d : PyData), ds[j]? = some d → flat d = true
  | [], _, j, d, h => by simp at h
  | e :: ds, f, 0, d, h => by
    rw [flat.flats, Bool.and_eq_true] at f
    have e := Option.some.inj h
    subst e
    exact f.1
  | e :: ds, f, j + 1, d, h => by
    rw [flat.flats, Bool.and_eq_true] at f
    exact flats_get f.2 j d h
section
variable {P : Program} {w : World} {K : PySem.W.Frag} {mg : Str → Option Value} {base : Heap}
abbrev s_l_alike : Stmt := topS 21
theorem sc_l_alike : FnScope ["_law_found", "_law_due_here", "_law_left", "_law_one", "_law_other"] ["_law_found", "_law_due_here"] (defScope s_l_alike) := ⟨rfl, rfl, rfl, by decide +kernel, rfl, by decide +kernel, by decide +kernel⟩
def spAlike (K : PySem.W.Frag) : Sp := fun vs H Q _ => ∃ (x y : V) (d : PyData), vs = [x, y] ∧ Fd K H x d ∧ Fd K H y d ∧ dsz d ≤ 90000 ∧ ∀ H', Same H H' → Q (.bl true) H'
theorem ok_l_alike (B : Bt mg) (D : DefAt K mg "_law_alike" s_l_alike ["_law_found", "_law_due_here"]) : Cal P w K mg base 1 "_law_alike" ["_law_found", "_law_due_here"] (spAlike K) := by
  refine cal_of D sc_l_alike (fun vs H Q E h => ?_) (fun f cdv A outer s H vs Q E hr h => ?_)
  · obtain ⟨x, y, d, rfl, _⟩ := h
    rfl
  obtain ⟨x, y, d, rfl, hx, hy, hd, q⟩ := h
  refine ⟨_, (pss_cons (ps_set (i := 2) sc_l_alike.nd rfl (.inl rfl) (pe_lst (pa_cons (pe_tup (pa_cons (pv 0) (pa_cons (pv 1) pa_nil))) pa_nil)))
      (pss_cons (ps_while PassesOwn.never (pt_cmpR op_gt (pe_callB call_len_seq (by rfl) B.len PySem.boot_len (pa_cons (pv 2) pa_nil)) pe_int (nomark _))
        (pss_cons (ps_asg (pe_bm0 PySem.F.plainAttrs_list PySem.F.slot_list_pop PySem.F.type_list_pop mt_pop (pv 2)) (pg_tup rfl (pgs_cons (pg_name (i := 3) sc_l_alike.nd rfl (.inl rfl)) (pgs_cons (pg_name (i := 4) sc_l_alike.nd rfl (.inl rfl)) pgs_nil))))
      (pss_cons (ps_if (pt_cmpR op_ne (pe_callB call_isi (by rfl) B.isinstance (by decide +kernel) (pa_cons (pv 3) (pa_cons (pe_bltn (v := .ty "tuple") (by rfl) B.tuple PyProof.Rows.boot_tuple rfl) pa_nil))) (pe_callB call_isi (by rfl) B.isinstance (by decide +kernel) (pa_cons (pv 4) (pa_cons (pe_bltn (v := .ty "tuple") (by rfl) B.tuple PyProof.Rows.boot_tuple rfl) pa_nil))) (nomark _))
        (pss_one (ps_ret pe_bl))
        pss_nil)
      (pss_cons (ps_if (pt_cmpR op_ne (pe_callB call_isi (by rfl) B.isinstance (by decide +kernel) (pa_cons (pv 3) (pa_cons (pe_bltn (v := .ty "bool") (by rfl) B.bool PyProof.Rows.boot_bool rfl) pa_nil))) (pe_callB call_isi (by rfl) B.isinstance (by decide +kernel) (pa_cons (pv 4) (pa_cons (pe_bltn (v := .ty "bool") (by rfl) B.bool PyProof.Rows.boot_bool rfl) pa_nil))) (nomark _))
        (pss_one (ps_ret pe_bl))
        pss_nil)
      (pss_one (ps_if (pt_val (pe_callB call_isi (by rfl) B.isinstance (by decide +kernel) (pa_cons (pv 4) (pa_cons (pe_bltn (v := .ty "tuple") (by rfl) B.tuple PyProof.Rows.boot_tuple rfl) pa_nil))))
        (pss_cons (ps_if (pt_cmpR op_ne (pe_callB call_len_seq (by rfl) B.len PySem.boot_len (pa_cons (pv 3) pa_nil)) (pe_callB call_len_seq (by rfl) B.len PySem.boot_len (pa_cons (pv 4) pa_nil)) (nomark _))
        (pss_one (ps_ret pe_bl))
        pss_nil)
      (pss_one (ps_expr (pe_bm PySem.F.plainAttrs_list PySem.F.slot_list_extend PySem.F.type_list_extend mt_extend (pv 2) (pa_cons (pe_listZip rfl (by rfl) B.list (by rfl) B.zip (pa_cons (pv 3) (pa_cons (pv 4) pa_nil))) pa_nil)))))
        (pss_one (ps_if (PW.pt (pw_or (pt_cmpR op_ne (pe_callB call_isi (by rfl) B.isinstance (by decide +kernel) (pa_cons (pv 3) (pa_cons (pe_bltn (v := .ty "str") (by rfl) B.str PyProof.Rows.boot_str rfl) pa_nil))) (pe_callB call_isi (by rfl) B.isinstance (by decide +kernel) (pa_cons (pv 4) (pa_cons (pe_bltn (v := .ty "str") (by rfl) B.str PyProof.Rows.boot_str rfl) pa_nil))) (nomark _)) (pw_or1 (pt_cmpR op_ne (pv 3) (pv 4) (nomark _)))))
        (pss_one (ps_ret pe_bl))
        pss_nil))))))))
      (pss_one (ps_ret pe_bl)))), ?_⟩
  refine ⟨_, rfl, _, rfl, (by show 2 ≤ sizeLine; decide), fun t ht => ⟨(by show 1 ≤ sizeLine; decide), fun l hl => ?_⟩⟩
  have s1 : Same H (upd H t (.tup [x, y])) := same_new ht
  have s2 : Same (upd H t (.tup [x, y])) (upd (upd H t (.tup [x, y])) l (.lst [.ref t])) := same_new hl
  have hlH : H l = none := s1.free hl
  refine while_m (fun m σ H' => ∃ (ps : List (Addr × PyData)) (y3 y4 : Option V), σ = [some x, some y, some (.ref l), y3, y4] ∧ m = dsz.dszs (ps.map (·.2)) ∧ m ≤ 90000 ∧ Same H H' ∧ H' l = some (.lst (ps.map fun p => V.ref p.1)) ∧ ∀ p ∈ ps, Pr K H' p.1 p.2) ?_ ?_
  · refine ⟨_, [(t, d)], none, none, rfl, rfl, ?_, s1.trans s2, upd_same, fun p hp => ?_⟩
    · show dsz d + 0 ≤ 90000
      omega
    · rw [List.mem_singleton.mp hp]
      exact ⟨x, y, s2 _ _ upd_same, hx.keep (Tp.same (s1.trans s2)), hy.keep (Tp.same (s1.trans s2))⟩
  · rintro m σ H' ⟨ps, y3, y4, rfl, rfl, hm, sm, hL, hP⟩
    refine ⟨_, rfl, l, _, rfl, .inl (SqL.of hL), _, _, rfl, rfl, _, rfl, ite2 (fun c => ?_) (fun c => ?_)⟩
    · have c' : (((ps.map fun p => V.ref p.1).length : Nat) : Int) > 0 := of_decide_eq_true c
      rw [List.length_map] at c'
      obtain ⟨qs, ⟨u, e⟩, rfl⟩ : ∃ qs p, ps = qs ++ [p] := by
        rcases List.eq_nil_or_concat ps with h | ⟨qs, p, h⟩
        · rw [h] at c'
          simp at c'
        · exact ⟨qs, p, by rw [h, List.concat_eq_append]⟩
      have hm2 : dsz.dszs ((qs ++ [(u, e)]).map (·.2)) = dsz.dszs (qs.map (·.2)) + dsz e := by
        rw [List.map_append, dszs_app]
        simp [dsz.dszs]
      obtain ⟨a, b, hu, ha, hb⟩ := hP (u, e) (by simp)
      have hLm : H' l = some (.lst ((qs.map fun p => V.ref p.1) ++ [V.ref u])) := by
        rw [hL, List.map_append]
        rfl
      have nu : u ≠ l := fun z => by
        have hu' : H' u = some (.tup [a, b]) := hu
        rw [z, hLm] at hu'
        cases hu'
      -- what was popped
      refine ⟨fun σ' H2 => ∃ m', m' < dsz.dszs ((qs ++ [(u, e)]).map (·.2)) ∧ ∃ (ps : List (Addr × PyData)) (y3 y4 : Option V), σ' = [some x, some y, some (.ref l), y3, y4] ∧ m' = dsz.dszs (ps.map (·.2)) ∧ m' ≤ 90000 ∧ Same H H2 ∧ H2 l = some (.lst (ps.map fun p => V.ref p.1)) ∧ ∀ p ∈ ps, Pr K H2 p.1 p.2, fun σ' H2 h => h, ?_⟩
      refine ⟨_, rfl, .inl ⟨rfl, _, SqL.of hLm⟩, l, _, .ref u, rfl, rfl, hLm, ?_, ?_⟩
      · rw [List.length_append, List.length_singleton, Nat.add_sub_cancel, List.getElem?_append_right (Nat.le_refl _), Nat.sub_self]
        rfl
      rw [List.dropLast_concat]
      have hl2 : (upd H' l (.lst (qs.map fun p => V.ref p.1))) l = some (.lst (qs.map fun p => V.ref p.1)) := upd_same
      have o2 : ∀ b, b ≠ l → (upd H' l (.lst (qs.map fun p => V.ref p.1))) b = H' b := fun b n => upd_ne n
      have t2 : Tp K H' (upd H' l (.lst (qs.map fun p => V.ref p.1))) := Tp.lst hLm
      have sm2 : Same H (upd H' l (.lst (qs.map fun p => V.ref p.1))) := fun c o z => by
        rw [o2 c (ne_of_none z hlH)]
        exact sm c o z
      generalize upd H' l (.lst (qs.map fun p => V.ref p.1)) = H2 at hl2 o2 t2 sm2
      have hP2 : ∀ p ∈ qs, Pr K H2 p.1 p.2 := fun p hp => by
        have z := hP p (List.mem_append_left _ hp)
        refine z.keep (fun xs h => ?_) t2
        have np : p.1 ≠ l := fun z => by
          rw [z, hLm] at h
          cases h
        rw [o2 _ np]
        exact h
      have ha2 := ha.keep t2
      have hb2 := hb.keep t2
      have hu2 : H2 u = some (.tup [a, b]) := by
        rw [o2 u nu]
        exact hu
      refine ⟨u, [a, b], rfl, .inl (.inl hu2), rfl, a, [b], rfl, b, [], rfl, rfl, ?_⟩
      have fe := ha2.1
      refine ⟨_, rfl, a, _, _, _, _, rfl, .ty _, ha2.ty, kit_tup e fe, _, rfl, b, _, _, _, _, rfl, .ty _, hb2.ty, kit_tup e fe, rfl, _, rfl, iteNS rfl ?_⟩
      refine ⟨_, rfl, a, _, _, _, _, rfl, .ty _, ha2.ty, kit_bl e fe, _, rfl, b, _, _, _, _, rfl, .ty _, hb2.ty, kit_bl e fe, rfl, _, rfl, iteNS rfl ?_⟩
      refine ⟨_, rfl, b, _, _, _, _, rfl, .ty _, hb2.ty, kit_tup e fe, _, rfl, ?_⟩
      cases e with
      | list ds => simp [flat] at fe
      | dict ds => simp [flat] at fe
      | tuple ds =>
        refine iteT ?_
        obtain ⟨_, da⟩ := ha2
        obtain ⟨_, db⟩ := hb2
        cases da with
        | @tup ta xs _ qa ra =>
          cases db with
          | @tup tb ys _ qb rb =>
            have la := dpall_len ra
            have lb := dpall_len rb
            have lab : xs.length = ys.length := by omega
            refine ⟨_, rfl, ta, xs, rfl, .inr qa, _, rfl, tb, ys, rfl, .inr qb, rfl, _, rfl, iteNS (by rw [lab]) ?_⟩
            refine ⟨_, rfl, .inl ⟨rfl, _, SqL.of hl2⟩, _, rfl, _, rfl, ta, tb, xs, ys, rfl, qa, qb, lab, fun H3 p ts s3 pn tn hp3 lt pr => ?_⟩
            have hl3 : H3 l = some (.lst (qs.map fun p => V.ref p.1)) := s3 _ _ hl2
            have hle : ds.length ≤ dsz.dszs ds := dszs_len ds
            have hm3 : dsz (.tuple ds) = 1 + dsz.dszs ds := rfl
            have hq : qs.length ≤ dsz.dszs (qs.map (·.2)) := by
              have z := dszs_len (qs.map (·.2))
              rw [List.length_map] at z
              exact z
            refine ⟨l, p, _, _, rfl, rfl, hl3, hp3, ?_, ?_⟩
            · rw [List.length_map, List.length_map]
              exact small (by omega)
            · have t3 : Tp K H2 (upd H3 l (.lst ((qs.map fun p => V.ref p.1) ++ ts.map V.ref))) := (Tp.same s3).trans (Tp.lst hl3)
              have o3 : ∀ b o, b ≠ l → H2 b = some o → (upd H3 l (.lst ((qs.map fun p => V.ref p.1) ++ ts.map V.ref))) b = some o := fun b o n z => by
                rw [upd_ne n]
                exact s3 _ _ z
              have ltd : ts.length = ds.length := by omega
              have ez : (ts.zip ds).map (·.2) = ds := by
                rw [List.map_snd_zip]
                omega
              have ef : (ts.zip ds).map (·.1) = ts := by
                rw [List.map_fst_zip]
                omega
              refine ⟨dsz.dszs ((qs ++ ts.zip ds).map (·.2)), ?_, qs ++ ts.zip ds, some (.ref ta), some (.ref tb), rfl, rfl, ?_, fun c o z => ?_, ?_, fun p' hp' => ?_⟩
              · rw [List.map_append, dszs_app, ez, hm2, hm3]
                omega
              · rw [List.map_append, dszs_app, ez]
                rw [hm2, hm3] at hm
                omega
              · exact o3 c o (ne_of_none z hlH) (sm2 c o z)
              · rw [upd_same, List.map_append]
                have ev : (ts.zip ds).map (fun p => V.ref p.1) = ts.map V.ref := by
                  rw [← congrArg (List.map V.ref) ef, List.map_map]
                  rfl
                rw [ev]
              · rcases List.mem_append.mp hp' with z | z
                · have zz := hP2 p' z
                  refine zz.keep (fun xs h => ?_) t3
                  have np : p'.1 ≠ l := fun z => by
                    rw [z, hl2] at h
                    cases h
                  exact o3 _ _ np h
                · obtain ⟨j, hj⟩ := List.mem_iff_getElem?.mp z
                  rw [List.getElem?_zip_eq_some] at hj
                  obtain ⟨j1, j2⟩ := hj
                  obtain ⟨x', y', e1, e2, e3⟩ := pr j p'.1 j1
                  obtain ⟨d1, f1, g1⟩ := dpall_get ra j x' e1
                  obtain ⟨d2, f2, g2⟩ := dpall_get rb j y' e2
                  rw [j2] at f1 f2
                  have h1 := Option.some.inj f1
                  have h2 := Option.some.inj f2
                  have np : p'.1 ≠ l := fun z => by
                    rw [z, hl3] at e3
                    cases e3
                  have fj := flats_get fe j _ j2
                  refine ⟨x', y', by rw [upd_ne np]; exact e3, ?_, ?_⟩
                  · exact Fd.keep ⟨fj, by rw [h1]; exact g1⟩ t3
                  · exact Fd.keep ⟨fj, by rw [h2]; exact g2⟩ t3
      | none =>
        refine iteF ?_
        obtain ⟨_, da⟩ := ha2
        obtain ⟨_, db⟩ := hb2
        cases da
        cases db
        refine ⟨_, rfl, _, _, _, _, _, rfl, .ty _, .base .non, kit_str .none rfl, _, rfl, _, _, _, _, _, rfl, .ty _, .base .non, kit_str .none rfl, rfl, _, rfl, ?_⟩
        refine iteF ⟨_, rfl, _, rfl, rfl, _, rfl, iteF ?_⟩
        refine ⟨dsz.dszs (qs.map (·.2)), by rw [hm2]; show _ < _ + 1; omega, qs, some .non, some .non, rfl, rfl, by rw [hm2] at hm; omega, sm2, hl2, hP2⟩
      | bool v =>
        refine iteF ?_
        obtain ⟨_, da⟩ := ha2
        obtain ⟨_, db⟩ := hb2
        cases da
        cases db
        refine ⟨_, rfl, _, _, _, _, _, rfl, .ty _, .base (.bl v), kit_str (.bool v) rfl, _, rfl, _, _, _, _, _, rfl, .ty _, .base (.bl v), kit_str (.bool v) rfl, rfl, _, rfl, ?_⟩
        refine iteF ⟨_, rfl, _, rfl, rfl, _, rfl, iteNS rfl ?_⟩
        refine ⟨dsz.dszs (qs.map (·.2)), by rw [hm2]; show _ < _ + 1; omega, qs, some (.bl v), some (.bl v), rfl, rfl, by rw [hm2] at hm; omega, sm2, hl2, hP2⟩
      | int v =>
        refine iteF ?_
        obtain ⟨_, da⟩ := ha2
        obtain ⟨_, db⟩ := hb2
        cases da
        cases db
        refine ⟨_, rfl, _, _, _, _, _, rfl, .ty _, .base (.int v), kit_str (.int v) rfl, _, rfl, _, _, _, _, _, rfl, .ty _, .base (.int v), kit_str (.int v) rfl, rfl, _, rfl, ?_⟩
        refine iteF ⟨_, rfl, _, rfl, rfl, _, rfl, iteNS rfl ?_⟩
        refine ⟨dsz.dszs (qs.map (·.2)), by rw [hm2]; show _ < _ + 1; omega, qs, some (.int v), some (.int v), rfl, rfl, by rw [hm2] at hm; omega, sm2, hl2, hP2⟩
      | str v =>
        refine iteF ?_
        obtain ⟨_, da⟩ := ha2
        obtain ⟨_, db⟩ := hb2
        cases da
        cases db
        refine ⟨_, rfl, _, _, _, _, _, rfl, .ty _, .base (.str v), kit_str (.str v) rfl, _, rfl, _, _, _, _, _, rfl, .ty _, .base (.str v), kit_str (.str v) rfl, rfl, _, rfl, ?_⟩
        refine iteF ⟨_, rfl, _, rfl, rfl, _, rfl, iteNS rfl ?_⟩
        refine ⟨dsz.dszs (qs.map (·.2)), by rw [hm2]; show _ < _ + 1; omega, qs, some (.str v), some (.str v), rfl, rfl, by rw [hm2] at hm; omega, sm2, hl2, hP2⟩
    · exact q _ sm
end
end Lm

set_option Elab.async false
set_option linter.all false
set_option maxRecDepth 100000
set_option maxHeartbeats 2000000
namespace Lm
open PySem PySem.Spec PyProof.Rows L2 LmR
section
variable {P : Program} {w : World} {K : PySem.W.Frag} {mg : Str → Option Value} {base : Heap}
abbrev s_NoHead : Stmt := (clsBody (topS 2)).getD 0 (.Pass ⟨0, 0, 0, 0⟩)
theorem sc_NoHead : FnScope ["self", "word", "at"] ["self", "word", "at"] (defScope s_NoHead) := ⟨rfl, rfl, rfl, by decide +kernel, rfl, by decide +kernel, by decide +kernel⟩
variable {c_NoHead i_NoHead : Addr} {f_NoHead : FuncData}
theorem ini_NoHead {P : Program} {w : World} {base : Heap} (R : Rf K mg "NoHead" "NoHead.__init__" c_NoHead i_NoHead f_NoHead s_NoHead ["word", "at"]) : FnOk P w K mg base (L2.CX P w) 1 i_NoHead f_NoHead ["self", "word", "at"] (spIni2 c_NoHead "word" "at") := by
  refine R.F.okX sc_NoHead (fun vs H Q E h => ?_) (fun cdv A outer s H vs Q E hr h => ?_)
  · obtain ⟨a, x, y, rfl, _⟩ := h
    rfl
  obtain ⟨a, x, y, rfl, ha, q⟩ := h
  refine ⟨_, pss_cons (ps_ost (pv 0) (pv 1)) (pss_one (ps_ost (pv 0) (pv 2))), ?_⟩
  refine ⟨_, rfl, _, rfl, a, _, rfl, R.o, R.fld _ (by simp), .inl ⟨ha, fun d hd nd => ⟨_, rfl, _, rfl, a, _, rfl, R.o, R.fld _ (by simp), .inr ⟨d, _, upd_same, ?_, by show 1 ≤ 900; decide, q d _ hd ?_ upd_same fun b h1 h2 => ?_⟩⟩⟩⟩
  · rw [upd_ne nd, upd_same]
  · rw [upd_ne (Ne.symm nd), upd_same]
  · rw [upd_ne h2, upd_ne h1, upd_ne h2]
theorem iteY {c : Prop} [Decidable c] {A B : Prop} (h : c) (a : A) : if c then A else B := by rw [if_pos h]; exact a
theorem dpall_app {K : PySem.W.Frag} {H : Hp} : ∀ {xs ys : List V} {ds es : List PyData}, DpAll K H xs ds → DpAll K H ys es → DpAll K H (xs ++ ys) (ds ++ es)
  | [], _, _, _, .nil, b => b
  | _ :: _, _, _, _, .cons a r, b => .cons a (dpall_app r b)
theorem flats_app : ∀ ds es : List PyData, flat.flats ds = true → flat.flats es = true → flat.flats (ds ++ es) = true
  | [], _, _, b => b
  | d :: ds, es, a, b => by
    rw [flat.flats, Bool.and_eq_true] at a
    rw [List.cons_append, flat.flats, a.1, flats_app ds es a.2 b]
    rfl
theorem flats_nth : ∀ ds : List PyData, flat.flats ds = true → ∀ (i : Nat) (d : PyData), ds[i]? = some d → flat d = true
  | [], _, _, _, h => by simp at h
  | d :: ds, a, i, e, h => by
    rw [flat.flats, Bool.and_eq_true] at a
    cases i with
    | zero => simp at h; rw [← h]; exact a.1
    | succ i => exact flats_nth ds a.2 i e (by simpa using h)
/-! ### look_head -/
def isKd (d : PyData) : Bool := strIn ["num", "truth"] d
/-- the first one that is no kind, from the n-th on -/
def badAt : List PyData → Nat → Option Nat
  | [], _ => none
  | d :: ds, n => if isKd d then badAt ds (n + 1) else some n
abbrev badF : Option (Str × Nat) := some ("form", 0)
/-- what is amiss with a head -/
def lookD : PyData → Option (Str × Nat)
  | .tuple [.tuple ks, k] => (badAt (ks ++ [k]) 0).map fun n => ("kind", n)
  | _ => some ("form", 0)
structure Kinds (K : PySem.W.Frag) (mg : Str → Option Value) (a : Addr) : Prop where
  g : mg "KINDS" = some (.ref a)
  t : ∀ H, SqT K H a [.str "num", .str "truth"]
def spLook (K : PySem.W.Frag) (C : Addr) : Sp := fun vs H Q E => ∃ (v : V) (d : PyData), vs = [v] ∧ Fd K H v d ∧ dsz d ≤ 1000 ∧ (lookD d = none → ∀ H', Same H H' → Q (.bl true) H') ∧
  ∀ x n, lookD d = some (x, n) → ∀ a H', Same H H' → H' a = some (.xd [("at", .int (n : Nat)), ("word", .str x)]) → E (.ref C) (some a) H'
abbrev s_look_head : Stmt := topS 16
theorem sc_look_head : FnScope ["head", "at", "kind"] ["head"] (defScope s_look_head) := ⟨rfl, rfl, rfl, by decide +kernel, rfl, by decide +kernel, by decide +kernel⟩
theorem ok_look_head {aK : Addr} (B : Bt mg) (KK : Kinds K mg aK) (R_NoHead : Rf K mg "NoHead" "NoHead.__init__" c_NoHead i_NoHead f_NoHead s_NoHead ["word", "at"]) (D : DefAt K mg "look_head" s_look_head ["head"]) : CalX P w K mg base 3 "look_head" ["head"] (spLook K c_NoHead) := by
  refine calx_of D sc_look_head (fun vs H Q E h => ?_) (fun f cdv A outer s H vs Q E hr h => ?_)
  · obtain ⟨v, d, rfl, _⟩ := h
    rfl
  obtain ⟨v, d, rfl, hv, hz, q, qe⟩ := h
  have hKINDS := KK.g
  refine ⟨_, (pss_cons (ps_if (PW.pt (pw_or (pt_not (pt_val (pe_callB call_isi (by rfl) B.isinstance (by decide +kernel) (pa_cons (pv 0) (pa_cons (pe_bltn (v := .ty "tuple") (by rfl) B.tuple PyProof.Rows.boot_tuple rfl) pa_nil))))) (pw_or (pt_cmpR op_ne (pe_callB call_len_seq (by rfl) B.len PySem.boot_len (pa_cons (pv 0) pa_nil)) pe_int (nomark _)) (pw_or1 (pt_not (pt_val (pe_callB call_isi (by rfl) B.isinstance (by decide +kernel) (pa_cons (pe_ix ix_tup (pv 0) pe_int (fun _ _ => rfl)) (pa_cons (pe_bltn (v := .ty "tuple") (by rfl) B.tuple PyProof.Rows.boot_tuple rfl) pa_nil)))))))))
        (pss_one (ps_ref R_NoHead (ini_NoHead R_NoHead) hr rfl (takes_of rfl rfl rfl rfl) (by rfl) (pa_cons pe_str (pa_cons pe_int pa_nil))))
        pss_nil)
      (pss_cons (ps_for (passes_of rfl) rfl (pi_enumT (by rfl) B.enumerate (pa_cons (pe_tup (StX.pa_star (pe_ix ix_tup (pv 0) pe_int (fun _ _ => rfl)) (pa_cons (pe_ix ix_tup (pv 0) pe_int (fun _ _ => rfl)) pa_nil))) pa_nil)) (pg_tup rfl (pgs_cons (pg_name (i := 1) sc_look_head.nd rfl (.inl rfl)) (pgs_cons (pg_name (i := 2) sc_look_head.nd rfl (.inl rfl)) pgs_nil)))
        (pss_one (ps_if (pt_cmpR (op_notInD rfl (hu_of hr)) (pv 2) (pe_glob (v := .ref _) (by rfl) hKINDS rfl) rfl)
        (pss_one (ps_ref R_NoHead (ini_NoHead R_NoHead) hr rfl (takes_of rfl rfl rfl rfl) (by rfl) (pa_cons pe_str (pa_cons (pv 1) pa_nil))))
        pss_nil)))
      (pss_one (ps_ret pe_bl)))), ?_⟩
  have form : lookD d = badF → ∀ σ : L2.St, tMkO c_NoHead (spIni2 c_NoHead "word" "at") [] (tCons (tC (V.str "form")) (tCons (tC (V.int 0)) tNil)) σ H fun cls d H' => E cls d H' := fun e σ =>
    mk_two fun a H' r => qe _ _ e a H' r.same r.2.1
  have fd := hv.1
  refine ⟨_, rfl, v, _, _, _, _, rfl, .ty _, hv.ty, kit_tup d hv.1, _, rfl, ite2 (fun c => ?_) (fun c => ?_)⟩
  · have e : lookD d = badF := by
      cases d <;> first | rfl | (simp [isTup] at c; done)
    exact iteY rfl (form e _)
  have it : isTup d = true := by simpa using c
  obtain ⟨ds, rfl⟩ : ∃ ds, d = .tuple ds := by cases d <;> first | exact ⟨_, rfl⟩ | (simp [isTup] at it; done)
  obtain ⟨a, xs, rfl, qa, r⟩ : ∃ a xs, v = .ref a ∧ SqT K H a xs ∧ DpAll K H xs ds := by
    cases hv.2 with
    | tup qa r => exact ⟨_, _, rfl, qa, r⟩
  have hl := dpall_len r
  refine ⟨_, rfl, a, xs, rfl, .inr qa, rfl, _, rfl, ite2 (fun c2 => ?_) (fun c2 => ?_)⟩
  · have e : lookD (.tuple ds) = badF := by
      have n2 : ds.length ≠ 2 := fun z => by
        rw [hl, z] at c2
        simp at c2
      match ds, n2 with
      | [], _ => rfl
      | [k], _ => cases k <;> rfl
      | [k, l], z => exact absurd rfl z
      | k :: l :: m :: n, _ => cases k <;> rfl
    exact iteY rfl (form e _)
  obtain ⟨k1, k2, rfl⟩ : ∃ k1 k2, ds = [k1, k2] := by
    have n2 : ds.length = 2 := by
      have z : ((xs.length : Nat) : Int) = 2 := by simpa using c2
      omega
    match ds, n2 with
    | [k, l], _ => exact ⟨_, _, rfl⟩
  obtain ⟨v1, v2, rfl, r1, r2⟩ : ∃ v1 v2, xs = [v1, v2] ∧ Dp K H v1 k1 ∧ Dp K H v2 k2 := by
    cases r with
    | cons r1 r => cases r with
      | cons r2 r => cases r; exact ⟨_, _, rfl, r1, r2⟩
  have f12 : flat k1 = true ∧ flat k2 = true := by
    simpa [flat, flat.flats] using fd
  have h1 : Fd K H v1 k1 := ⟨f12.1, r1⟩
  have h2 : Fd K H v2 k2 := ⟨f12.2, r2⟩
  refine ⟨_, rfl, a, _, 0, _, rfl, rfl, qa, rfl, _, _, _, _, _, rfl, .ty _, h1.ty, kit_tup k1 f12.1, _, rfl, ite2 (fun c3 => ?_) (fun c3 => ?_)⟩
  · have e : lookD (.tuple [k1, k2]) = badF := by
      cases k1 <;> first | rfl | (simp [isTup] at c3; done)
    exact form e _
  have it1 : isTup k1 = true := by simpa using c3
  obtain ⟨ks, rfl⟩ : ∃ ds, k1 = .tuple ds := by cases k1 <;> first | exact ⟨_, rfl⟩ | (simp [isTup] at it1; done)
  obtain ⟨b, ys, rfl, qb, rb⟩ : ∃ a xs, v1 = .ref a ∧ SqT K H a xs ∧ DpAll K H xs ks := by
    have z := h1.2
    clear h1 r1
    cases z with
    | tup q4 r4 => exact ⟨_, _, rfl, q4, r4⟩
  have hyl := dpall_len rb
  have hkz : ks.length + 2 ≤ 1000 := by
    have z := dszs_len ks
    simp [dsz, dsz.dszs] at hz
    omega
  -- the loop
  refine ⟨_, rfl, a, _, 0, _, rfl, rfl, qa, rfl, b, ys, rfl, .inl qb, _, rfl, a, _, 1, _, rfl, rfl, qa, rfl, ?_, fun t ht => ⟨t, _, rfl, .inl (.inl upd_same), ?_⟩⟩
  · show (ys ++ [v2]).length ≤ sizeLine
    rw [List.length_append, hyl]
    exact small (by show ks.length + 1 ≤ 100000; omega)
  have s1 : Same H (upd H t (.tup (ys ++ [v2]))) := same_new ht
  have ra : DpAll K H (ys ++ [v2]) (ks ++ [k2]) := dpall_app rb (.cons r2 .nil)
  have fa : ∀ i d, (ks ++ [k2])[i]? = some d → flat d = true := flats_nth _ (flats_app ks [k2] f12.1 (by simp [flat.flats, f12.2]))
  refine for_enumT (K := K) (xs := ys ++ [v2]) (fun i σ H' => (∃ y1 y2 : Option V, σ = [some (V.ref a), y1, y2]) ∧ Same (upd H t (.tup (ys ++ [v2]))) H' ∧ badAt (ks ++ [k2]) 0 = badAt ((ks ++ [k2]).drop i) i) ?_ ?_ ?_ ?_
  · exact ⟨⟨_, _, rfl⟩, fun _ _ h => h, by rw [List.drop_zero]⟩
  · rintro i σ H' ⟨_, sm, _⟩
    exact .inl (.inl (sm _ _ upd_same))
  · rintro i x σ H' T hx ⟨⟨y1, y2, rfl⟩, sm, hbd⟩ hT
    have sm2 : Same H' (upd H' T (.tup [.int (i : Nat), x])) := same_new hT
    refine ⟨T, _, rfl, .inl (.inl upd_same), rfl, _, _, rfl, _, _, rfl, rfl, ?_⟩
    obtain ⟨dx, hdx, hDx⟩ := dpall_get ra i x hx
    have fx : Fd K (upd H' T (.tup [.int (i : Nat), x])) x dx := (show Fd K H x dx from ⟨fa i dx hdx, hDx⟩).keep (Tp.same ((s1.trans sm).trans sm2))
    have hst : (ks ++ [k2]).drop i = dx :: (ks ++ [k2]).drop (i + 1) := by
      obtain ⟨hi, e⟩ := List.getElem?_eq_some_iff.mp hdx
      rw [List.drop_eq_getElem_cons hi, e]
    rw [hst] at hbd
    have hbd2 : badAt (ks ++ [k2]) 0 = if isKd dx then badAt ((ks ++ [k2]).drop (i + 1)) (i + 1) else some i := hbd
    refine ⟨_, rfl, aK, ["num", "truth"], dx, rfl, KK.t _, fx, _, rfl, ite2 (fun c => ?_) (fun c => ?_)⟩
    · have nk : isKd dx = false := by
        have z : (!isKd dx) = true := c
        simpa using z
      rw [nk] at hbd2
      have e : lookD (.tuple [.tuple ks, k2]) = some (("kind" : Str), i) := by
        show (badAt (ks ++ [k2]) 0).map _ = _
        rw [hbd2]
        rfl
      exact ⟨_, rfl, mk_two fun a' H2 r => qe _ _ e a' H2 (((s1.trans sm).trans sm2).trans r.same) r.2.1⟩
    · have nk : isKd dx = true := by
        have z : ¬ (!isKd dx) = true := c
        simpa using z
      rw [nk] at hbd2
      exact ⟨⟨_, _, rfl⟩, sm.trans sm2, hbd2⟩
  · rintro σ H' ⟨_, sm, hbd⟩
    have e : lookD (.tuple [.tuple ks, k2]) = none := by
      show (badAt (ks ++ [k2]) 0).map _ = _
      rw [hbd, List.drop_eq_nil_of_le (by rw [List.length_append, List.length_append, hyl]; exact Nat.le_refl _)]
      rfl
    exact q e H' (s1.trans sm)
end
end Lm

set_option Elab.async false
set_option linter.all false
set_option maxRecDepth 100000
set_option maxHeartbeats 2000000
namespace Lm
open PySem PySem.Spec PyProof.Rows L2 LmR
section
variable {P : Program} {w : World} {K : PySem.W.Frag} {mg : Str → Option Value} {base : Heap}
abbrev s_l_sorts : Stmt := topS 22
theorem sc_l_sorts : FnScope ["_law_e", "_law_found"] ["_law_e"] (defScope s_l_sorts) := ⟨rfl, rfl, rfl, by decide +kernel, rfl, by decide +kernel, by decide +kernel⟩
theorem ok_l_sorts (B : Bt mg) {C : Addr} {bs : List Bool} (S : Sorts K mg C bs) (k : ExK K C) {f : Addr} {fd : FuncData} (F : Fun K "_law_sorts" "_law_sorts" s_l_sorts f fd) (a : Addr) (oe : Obj) (cls : Value) (d : Option Addr) (hz : Zc cls d oe) (hf : ∃ vs, oe.data = .fields vs) :
    FnP P w K mg base (a, oe) 1 f fd ["_law_e"] (spSorts C a cls d bs) := by
  refine fn_ofP F sc_l_sorts (fun vs H Q E h => ?_) (fun cdv A outer s H vs Q E hr h => ?_)
  · obtain ⟨rfl, _⟩ := h
    rfl
  obtain ⟨rfl, rfl, dd, fs, rfl, hx, q⟩ := h
  obtain ⟨c1, c2, c3, c4, c5, c6, c7, c8, c9, c10, c11, c12, b1, b2, b3, b4, b5, b6, b7, b8, b9, b10, b11, b12, S, rfl⟩ := S
  have hNoHead := S.g1
  have hNoProgram := S.g2
  have hNoText := S.g3
  have hNoStock := S.g4
  have hNoAnswer := S.g5
  have hNoInputs := S.g6
  have hClash := S.g7
  have hNoRow := S.g8
  have hNoQuestion := S.g9
  have hNoDoer := S.g10
  have hNotKept := S.g11
  have hNoName := S.g12
  refine ⟨_, (pss_cons (ps_set (i := 1) sc_l_sorts.nd rfl (.inl rfl) (pe_lst (pa_cons (pe_callB (call_isX k hz hf (List.mem_singleton.mpr rfl)) (by rfl) B.isinstance (by decide +kernel) (pa_cons (pv 0) (pa_cons (pe_glob (v := .ref _) (by rfl) hNoHead rfl) pa_nil))) (pa_cons (pe_callB (call_isX k hz hf (List.mem_singleton.mpr rfl)) (by rfl) B.isinstance (by decide +kernel) (pa_cons (pv 0) (pa_cons (pe_glob (v := .ref _) (by rfl) hNoProgram rfl) pa_nil))) (pa_cons (pe_callB (call_isX k hz hf (List.mem_singleton.mpr rfl)) (by rfl) B.isinstance (by decide +kernel) (pa_cons (pv 0) (pa_cons (pe_glob (v := .ref _) (by rfl) hNoText rfl) pa_nil))) (pa_cons (pe_callB (call_isX k hz hf (List.mem_singleton.mpr rfl)) (by rfl) B.isinstance (by decide +kernel) (pa_cons (pv 0) (pa_cons (pe_glob (v := .ref _) (by rfl) hNoStock rfl) pa_nil))) pa_nil))))))
      (pss_cons (ps_set (i := 1) sc_l_sorts.nd rfl (.inl rfl) (pe_op op_cat (pv 1) (pe_lst (pa_cons (pe_callB (call_isX k hz hf (List.mem_singleton.mpr rfl)) (by rfl) B.isinstance (by decide +kernel) (pa_cons (pv 0) (pa_cons (pe_glob (v := .ref _) (by rfl) hNoAnswer rfl) pa_nil))) (pa_cons (pe_callB (call_isX k hz hf (List.mem_singleton.mpr rfl)) (by rfl) B.isinstance (by decide +kernel) (pa_cons (pv 0) (pa_cons (pe_glob (v := .ref _) (by rfl) hNoInputs rfl) pa_nil))) (pa_cons (pe_callB (call_isX k hz hf (List.mem_singleton.mpr rfl)) (by rfl) B.isinstance (by decide +kernel) (pa_cons (pv 0) (pa_cons (pe_glob (v := .ref _) (by rfl) hClash rfl) pa_nil))) (pa_cons (pe_callB (call_isX k hz hf (List.mem_singleton.mpr rfl)) (by rfl) B.isinstance (by decide +kernel) (pa_cons (pv 0) (pa_cons (pe_glob (v := .ref _) (by rfl) hNoRow rfl) pa_nil))) pa_nil)))))))
      (pss_one (ps_ret (pe_op op_cat (pv 1) (pe_lst (pa_cons (pe_callB (call_isX k hz hf (List.mem_singleton.mpr rfl)) (by rfl) B.isinstance (by decide +kernel) (pa_cons (pv 0) (pa_cons (pe_glob (v := .ref _) (by rfl) hNoQuestion rfl) pa_nil))) (pa_cons (pe_callB (call_isX k hz hf (List.mem_singleton.mpr rfl)) (by rfl) B.isinstance (by decide +kernel) (pa_cons (pv 0) (pa_cons (pe_glob (v := .ref _) (by rfl) hNoDoer rfl) pa_nil))) (pa_cons (pe_callB (call_isX k hz hf (List.mem_singleton.mpr rfl)) (by rfl) B.isinstance (by decide +kernel) (pa_cons (pv 0) (pa_cons (pe_glob (v := .ref _) (by rfl) hNotKept rfl) pa_nil))) (pa_cons (pe_callB (call_isX k hz hf (List.mem_singleton.mpr rfl)) (by rfl) B.isinstance (by decide +kernel) (pa_cons (pv 0) (pa_cons (pe_glob (v := .ref _) (by rfl) hNoName rfl) pa_nil))) pa_nil)))))))))), ?_⟩
  refine ⟨_, rfl, _, _, rfl, S.k1, ⟨_, hx⟩, _, rfl, _, _, rfl, S.k2, ⟨_, hx⟩, _, rfl, _, _, rfl, S.k3, ⟨_, hx⟩, _, rfl, _, _, rfl, S.k4, ⟨_, hx⟩, (by show 4 ≤ sizeLine; decide), fun l1 h1 => ?_⟩
  have s1 : Same H (upd H l1 (.lst [.bl b1, .bl b2, .bl b3, .bl b4])) := same_new h1
  have e1 : upd H l1 (.lst [.bl b1, .bl b2, .bl b3, .bl b4]) l1 = some (.lst [.bl b1, .bl b2, .bl b3, .bl b4]) := upd_same
  have x1 := s1 _ _ hx
  refine ⟨_, rfl, _, rfl, _, _, rfl, S.k5, ⟨_, x1⟩, _, rfl, _, _, rfl, S.k6, ⟨_, x1⟩, _, rfl, _, _, rfl, S.k7, ⟨_, x1⟩, _, rfl, _, _, rfl, S.k8, ⟨_, x1⟩, (by show 4 ≤ sizeLine; decide), fun l2 h2 => ?_⟩
  have s2 := same_new (o := .lst [.bl b5, .bl b6, .bl b7, .bl b8]) h2
  refine ⟨l1, l2, _, _, rfl, rfl, s2 _ _ e1, upd_same, (by show 8 ≤ sizeLine; decide), fun l3 h3 => ?_⟩
  have s3 := same_new (o := .lst ([.bl b1, .bl b2, .bl b3, .bl b4] ++ [.bl b5, .bl b6, .bl b7, .bl b8])) h3
  have x3 := s3 _ _ (s2 _ _ x1)
  refine ⟨_, rfl, _, rfl, _, _, rfl, S.k9, ⟨_, x3⟩, _, rfl, _, _, rfl, S.k10, ⟨_, x3⟩, _, rfl, _, _, rfl, S.k11, ⟨_, x3⟩, _, rfl, _, _, rfl, S.k12, ⟨_, x3⟩, (by show 4 ≤ sizeLine; decide), fun l4 h4 => ?_⟩
  have s4 := same_new (o := .lst [.bl b9, .bl b10, .bl b11, .bl b12]) h4
  refine ⟨l3, l4, _, _, rfl, rfl, s4 _ _ upd_same, upd_same, (by show 12 ≤ sizeLine; decide), fun l5 h5 => ?_⟩
  exact q _ l5 ((((s1.trans s2).trans s3).trans s4).trans (same_new h5)) upd_same
theorem roomH_mark {A : Around} (r : Room 3 A) (m : Option Value) : L2H.RoomH 1 (A.mark m) := by
  have h1 := r.dp
  have h2 := r.un
  refine ⟨?_, ?_⟩
  · show A.depth + 3 * 1 + 5 < recursionLimit
    omega
  · show A.units + 16 * 1 + 200 < cLine
    omega
/-! ### told -/
def toldD (d : PyData) : PyData := match lookD d with
  | none => .tuple [.str "by", .bool true]
  | some (x, n) => .tuple [.str "no head", .str x, .int (n : Nat)]
def spTold (K : PySem.W.Frag) : Sp := fun vs H Q _ => ∃ (v : V) (d : PyData), vs = [v] ∧ Fd K H v d ∧ dsz d ≤ 1000 ∧ ∀ u H', Same H H' → Fd K H' u (toldD d) → Q u H'
theorem fd_tup {K : PySem.W.Frag} {H : Hp} {t : Addr} {vs : List V} {ds : List PyData} (h : H t = some (.tup vs)) (r : DpAll K H vs ds) (f : flat.flats ds = true) : Fd K H (.ref t) (.tuple ds) := ⟨f, .tup (.inl (.inl h)) r⟩
def rCountB (K : PySem.W.Frag) : V → List V → Hp → VK → Prop := fun x xs H Q => ∃ (p : Addr) (bs : List Bool), x = .ref p ∧ xs = [.bl true] ∧ SqL K H p (bs.map V.bl) ∧ Q (.int (bs.count true : Nat)) H
def tSuite (K : PySem.W.Frag) (C : Addr) (bs : List Bool) (a : Addr) (cls : Value) (d : Option Addr) : TS :=
  tIfS (tTest (tOp rEq (tBM K "list" (rCountB K) (tCall (spSorts C a cls d bs) [] (fun _ _ _ => False) (tCons (tVar 2) tNil)) (tCons (tC (.bl true)) tNil)) (tC (.int 1))))
    (tAsg (tTup (tCons (tC (.str "no head")) (tCons (tXf a cls d C "word" (tVar 2)) (tCons (tXf a cls d C "at" (tVar 2)) tNil)))) (gName 1)) tNext
abbrev s_l_told : Stmt := topS 27
theorem sc_l_told : FnScope ["_law_head_here", "_law_found", "_law_e"] ["_law_head_here"] (defScope s_l_told) := ⟨rfl, rfl, rfl, by decide +kernel, rfl, by decide +kernel, by decide +kernel⟩
theorem ok_l_told (B : Bt mg) {bs : List Bool} (S : Sorts K mg c_NoHead bs) (hone : bs.count true = 1) (R_NoHead : Rf K mg "NoHead" "NoHead.__init__" c_NoHead i_NoHead f_NoHead s_NoHead ["word", "at"]) (C_look_head : CalX P w K mg base 3 "look_head" ["head"] (spLook K c_NoHead)) (D_sorts : DefAt K mg "_law_sorts" s_l_sorts ["_law_e"]) (D : DefAt K mg "_law_told" s_l_told ["_law_head_here"]) : Cal P w K mg base 4 "_law_told" ["_law_head_here"] (spTold K) := by
  refine cal_of D sc_l_told (fun vs H Q E h => ?_) (fun f cdv A outer s H vs Q E hr h => ?_)
  · obtain ⟨v, d, rfl, _⟩ := h
    rfl
  obtain ⟨v, d, rfl, hv, hz, q⟩ := h
  obtain ⟨fs, fds, Fs, bs_, gs⟩ := D_sorts
  have hr' : Room 3 _ := hr
  refine ⟨_, pss_cons (ps_set (i := 1) sc_l_told.nd rfl (.inl rfl) (pe_tup (pa_cons pe_str pa_nil)))
    (pss_cons (ps_try_as (tb := fun W => tAsg (tTup (tCons (tC (.str "by")) (tCons (tCallS (spLook K c_NoHead) (WE W) (tCons (tVar 0) tNil)) tNil))) (gName 1)) (ts := tSuite K c_NoHead bs) (Wout := fun _ _ _ _ => False) rfl rfl sc_l_told.nd (i := 2) rfl rfl (c := .ref c_NoHead) ⟨rfl, by decide, .inl R_NoHead.g⟩ takes0
      (fun W pn xe tk _ => pss_one (ps_set (i := 1) sc_l_told.nd rfl (.inl rfl) (pe_tup (pa_cons pe_str (pa_cons (pe_calX C_look_head tk hr' (by rfl) (pa_cons (pv 0) pa_nil)) pa_nil)))))
      (fun a oe cls d pn hz hf => pss_one (ps_if
        (pt_cmpR op_eq (pe_bm PySem.F.plainAttrs_list PySem.F.slot_list_count PySem.F.type_list_count mt_countB (pe_callP (ok_l_sorts B S R_NoHead.k Fs a oe cls d hz hf) (roomH_mark hr' _) (List.mem_cons_self ..) (by rfl) gs Fs.kp bs_ (pa_cons (pv 2) pa_nil)) (pa_cons pe_bl pa_nil)) pe_int (nomark _))
        (pss_one (ps_set (i := 1) sc_l_told.nd rfl (.inl rfl) (pe_tup (pa_cons pe_str (pa_cons (pe_xf R_NoHead.f (R_NoHead.fld _ (by simp)) hz hf (pv 2)) (pa_cons (pe_xf R_NoHead.f (R_NoHead.fld _ (by simp)) hz hf (pv 2)) pa_nil))))))
        pss_nil)))
      (pss_one (ps_ret (pv 1)))), ?_⟩
  refine ⟨(by show 1 ≤ sizeLine; decide), fun t0 h0 => ?_⟩
  have s0 : Same H (upd H t0 (.tup [.str "other"])) := same_new h0
  generalize upd H t0 (.tup [.str "other"]) = H0 at s0
  refine ⟨_, rfl, v, d, rfl, hv.keep (Tp.same s0), hz, fun e H' sm => ⟨(by show 2 ≤ sizeLine; decide), fun t ht => ⟨_, rfl, ?_⟩⟩, fun x n e a' H' sm hx => ⟨true, R_NoHead.te, fun _ ea hea => ?_, fun z => nomatch z⟩⟩
  · refine q _ _ ((s0.trans sm).trans (same_new ht)) ?_
    have z : toldD d = .tuple [.str "by", .bool true] := by
      unfold toldD
      rw [e]
    rw [z]
    exact fd_tup upd_same (.cons (.str _) (.cons (.bl _) .nil)) rfl
  refine ⟨_, rfl, rfl, rfl, a', _, rfl, hx, fun H2 l sm2 hl => ⟨.inl ⟨rfl, _, SqL.of hl⟩, l, bs, rfl, rfl, SqL.of hl, rfl, _, rfl, ite2 (fun _ => ?_) (fun c => ?_)⟩⟩
  · have hx2 := sm2 _ _ hx
    refine ⟨_, rfl, rfl, rfl, a', _, _, rfl, hx2, rfl, _, rfl, rfl, rfl, a', _, _, rfl, hx2, rfl, (by show 3 ≤ sizeLine; decide), fun t ht => ⟨_, rfl, ?_⟩⟩
    refine q _ _ (((s0.trans sm).trans sm2).trans (same_new ht)) ?_
    have z : toldD d = .tuple [.str "no head", .str x, .int (n : Nat)] := by
      unfold toldD
      rw [e]
    rw [z]
    exact fd_tup upd_same (.cons (.str _) (.cons (.str _) (.cons (.int _) .nil))) rfl
  · exact absurd (by rw [hone]; rfl) c
end
end Lm

set_option Elab.async false
set_option linter.all false
set_option maxRecDepth 100000
set_option maxHeartbeats 2000000
namespace Lm
open PySem PySem.Spec PyProof.Rows L2 LmR
theorem for_enumL {K : PySem.W.Frag} {a : Addr} {xs : List V} {g : TG} {tb : TS} {D : Ends} {σ : L2.St} {H : Hp} (Pv : Nat → L2.St → Hp → Prop) (h0 : Pv 0 σ H) (hq : ∀ i σ H, Pv i σ H → SqL K H a xs)
    (hstep : ∀ i x σ H T, xs[i]? = some x → Pv i σ H → H T = none → g (.ref T) σ (upd H T (.tup [.int (i : Nat), x])) fun σ2 H2 => tb { D with nx := Pv (i + 1), ct := Pv (i + 1), bk := D.nx } σ2 H2)
    (hend : ∀ σ H, Pv xs.length σ H → D.nx σ H) :
    ∃ W : Nat → Nat → L2.St → Hp → Prop, (∃ m, W 0 m σ H) ∧ ∀ i m σ H, W i m σ H →
      ((Ite K a).stop i H ∧ D.nx σ H) ∨ ((Ite K a).go i H ∧ ∃ N : L2.St → Hp → Prop, (∀ σ' H', N σ' H' → ∃ m', m' < m ∧ W (i + 1) m' σ' H') ∧ ∀ x H', (Ite K a).yld i H x H' → g x σ H' fun σ2 H2 => tb { D with nx := N, ct := N, bk := D.nx } σ2 H2) := by
  refine ⟨fun i m σ H => i ≤ xs.length ∧ m = xs.length - i ∧ Pv i σ H, ⟨_, Nat.zero_le _, rfl, h0⟩, fun i m σ H ⟨hi, hm, hp⟩ => ?_⟩
  have hs := hq i σ H hp
  rcases Nat.lt_or_ge i xs.length with hlt | hge
  · obtain ⟨x, hx⟩ : ∃ x, xs[i]? = some x := ⟨xs[i], List.getElem?_eq_getElem hlt⟩
    refine .inr ⟨⟨xs, x, hs, hx⟩, Pv (i + 1), fun σ' H' h' => ⟨xs.length - (i + 1), by omega, hlt, rfl, h'⟩, ?_⟩
    rintro y H' ⟨T, z, rfl, hT, rfl, hz⟩
    have e := hz xs hs
    rw [hx] at e
    cases e
    exact hstep i x σ H T hx hp hT
  · have e : i = xs.length := Nat.le_antisymm hi hge
    refine .inl ⟨⟨xs, hs, hge⟩, hend σ H (e ▸ hp)⟩
section
variable {P : Program} {w : World} {K : PySem.W.Frag} {mg : Str → Option Value} {base : Heap}
abbrev s_l_due : Stmt := topS 26
theorem sc_l_due : FnScope ["_law_head_here", "_law_at", "_law_kind"] ["_law_head_here"] (defScope s_l_due) := ⟨rfl, rfl, rfl, by decide +kernel, rfl, by decide +kernel, by decide +kernel⟩
theorem ok_l_due (B : Bt mg) (D : DefAt K mg "_law_due" s_l_due ["_law_head_here"]) : Cal P w K mg base 3 "_law_due" ["_law_head_here"] (spTold K) := by
  refine cal_of D sc_l_due (fun vs H Q E h => ?_) (fun f cdv A outer s H vs Q E hr h => ?_)
  · obtain ⟨v, d, rfl, _⟩ := h
    rfl
  obtain ⟨v, d, rfl, hv, hz, q⟩ := h
  refine ⟨_, (pss_cons (ps_if (PW.pt (pw_or (pt_not (pt_val (pe_callB call_isi (by rfl) B.isinstance (by decide +kernel) (pa_cons (pv 0) (pa_cons (pe_bltn (v := .ty "tuple") (by rfl) B.tuple PyProof.Rows.boot_tuple rfl) pa_nil))))) (pw_or (pt_cmpR op_ne (pe_callB call_len_seq (by rfl) B.len PySem.boot_len (pa_cons (pv 0) pa_nil)) pe_int (nomark _)) (pw_or1 (pt_not (pt_val (pe_callB call_isi (by rfl) B.isinstance (by decide +kernel) (pa_cons (pe_ix ix_tup (pv 0) pe_int (fun _ _ => rfl)) (pa_cons (pe_bltn (v := .ty "tuple") (by rfl) B.tuple PyProof.Rows.boot_tuple rfl) pa_nil)))))))))
        (pss_one (ps_ret (pe_tup (pa_cons pe_str (pa_cons pe_str (pa_cons pe_int pa_nil))))))
        pss_nil)
      (pss_cons (ps_for PassesOwn.never rfl (pi_enum (by rfl) B.enumerate (pa_cons (pe_op op_cat (pe_callTy call_list_of (by rfl) B.list PyProof.Rows.boot_list (pa_cons (pe_ix ix_tup (pv 0) pe_int (fun _ _ => rfl)) pa_nil)) (pe_lst (pa_cons (pe_ix ix_tup (pv 0) pe_int (fun _ _ => rfl)) pa_nil))) pa_nil)) (pg_tup rfl (pgs_cons (pg_name (i := 1) sc_l_due.nd rfl (.inl rfl)) (pgs_cons (pg_name (i := 2) sc_l_due.nd rfl (.inl rfl)) pgs_nil)))
        (pss_one (ps_if (PW.pt (pw_or (pt_not (pt_val (pe_callB call_isi (by rfl) B.isinstance (by decide +kernel) (pa_cons (pv 2) (pa_cons (pe_bltn (v := .ty "str") (by rfl) B.str PyProof.Rows.boot_str rfl) pa_nil))))) (pw_or1 (pt_cmpR (op_notInD rfl (hu_of hr)) (pv 2) (pe_tup (pa_cons pe_str (pa_cons pe_str pa_nil))) rfl))))
        (pss_one (ps_ret (pe_tup (pa_cons pe_str (pa_cons pe_str (pa_cons (pv 1) pa_nil))))))
        pss_nil)))
      (pss_one (ps_ret (pe_tup (pa_cons pe_str (pa_cons pe_bl pa_nil))))))), ?_⟩
  have form : lookD d = badF → [V.str "no head", V.str "form", V.int 0].length ≤ sizeLine ∧ ∀ p, H p = none → Q (.ref p) (upd H p (.tup [V.str "no head", V.str "form", V.int 0])) := fun e =>
    ⟨by show 3 ≤ sizeLine; decide, fun p hp => q _ _ (same_new hp) (by
      have z : toldD d = .tuple [.str "no head", .str "form", .int ((0 : Nat) : Int)] := by
        unfold toldD
        rw [e]
      rw [z]
      exact fd_tup upd_same (.cons (.str _) (.cons (.str _) (.cons (.int _) .nil))) rfl)⟩
  have fd := hv.1
  refine ⟨_, rfl, v, _, _, _, _, rfl, .ty _, hv.ty, kit_tup d hv.1, _, rfl, ite2 (fun c => ?_) (fun c => ?_)⟩
  · have e : lookD d = badF := by
      cases d <;> first | rfl | (simp [isTup] at c; done)
    exact iteY rfl (form e)
  have it : isTup d = true := by simpa using c
  obtain ⟨ds, rfl⟩ : ∃ ds, d = .tuple ds := by cases d <;> first | exact ⟨_, rfl⟩ | (simp [isTup] at it; done)
  obtain ⟨a, xs, rfl, qa, r⟩ : ∃ a xs, v = .ref a ∧ SqT K H a xs ∧ DpAll K H xs ds := by
    cases hv.2 with
    | tup qa r => exact ⟨_, _, rfl, qa, r⟩
  have hl := dpall_len r
  refine ⟨_, rfl, a, xs, rfl, .inr qa, rfl, _, rfl, ite2 (fun c2 => ?_) (fun c2 => ?_)⟩
  · have e : lookD (.tuple ds) = badF := by
      have n2 : ds.length ≠ 2 := fun z => by
        rw [hl, z] at c2
        simp at c2
      match ds, n2 with
      | [], _ => rfl
      | [k], _ => cases k <;> rfl
      | [k, l], z => exact absurd rfl z
      | k :: l :: m :: n, _ => cases k <;> rfl
    exact iteY rfl (form e)
  obtain ⟨k1, k2, rfl⟩ : ∃ k1 k2, ds = [k1, k2] := by
    have n2 : ds.length = 2 := by
      have z : ((xs.length : Nat) : Int) = 2 := by simpa using c2
      omega
    match ds, n2 with
    | [k, l], _ => exact ⟨_, _, rfl⟩
  obtain ⟨v1, v2, rfl, r1, r2⟩ : ∃ v1 v2, xs = [v1, v2] ∧ Dp K H v1 k1 ∧ Dp K H v2 k2 := by
    cases r with
    | cons r1 r => cases r with
      | cons r2 r => cases r; exact ⟨_, _, rfl, r1, r2⟩
  have f12 : flat k1 = true ∧ flat k2 = true := by
    simpa [flat, flat.flats] using fd
  have h1 : Fd K H v1 k1 := ⟨f12.1, r1⟩
  have h2 : Fd K H v2 k2 := ⟨f12.2, r2⟩
  refine ⟨_, rfl, a, _, 0, _, rfl, rfl, qa, rfl, _, _, _, _, _, rfl, .ty _, h1.ty, kit_tup k1 f12.1, _, rfl, ite2 (fun c3 => ?_) (fun c3 => ?_)⟩
  · have e : lookD (.tuple [k1, k2]) = badF := by
      cases k1 <;> first | rfl | (simp [isTup] at c3; done)
    exact form e
  have it1 : isTup k1 = true := by simpa using c3
  obtain ⟨ks, rfl⟩ : ∃ ds, k1 = .tuple ds := by cases k1 <;> first | exact ⟨_, rfl⟩ | (simp [isTup] at it1; done)
  obtain ⟨b, ys, rfl, qb, rb⟩ : ∃ a xs, v1 = .ref a ∧ SqT K H a xs ∧ DpAll K H xs ks := by
    have z := h1.2
    clear h1 r1
    cases z with
    | tup q4 r4 => exact ⟨_, _, rfl, q4, r4⟩
  have hyl := dpall_len rb
  have hkz : ks.length + 2 ≤ 1000 := by
    have z := dszs_len ks
    simp [dsz, dsz.dszs] at hz
    omega
  refine ⟨_, rfl, a, _, 0, _, rfl, rfl, qa, rfl, b, ys, rfl, .inr qb, fun l1 hl1 => ?_⟩
  have sa : Same H (upd H l1 (.lst ys)) := same_new hl1
  refine ⟨_, rfl, a, _, 1, _, rfl, rfl, Tp.same sa _ _ qa, rfl, (by show 1 ≤ sizeLine; decide), fun l2 hl2 => ?_⟩
  have sb : Same (upd H l1 (.lst ys)) (upd (upd H l1 (.lst ys)) l2 (.lst [v2])) := same_new hl2
  refine ⟨l1, l2, ys, [v2], rfl, rfl, sb _ _ upd_same, upd_same, ?_, fun t ht => ⟨t, _, rfl, SqL.of upd_same, ?_⟩⟩
  · show ys.length + 1 ≤ sizeLine
    rw [hyl]
    exact small (by omega)
  have s1 : Same H (upd (upd (upd H l1 (.lst ys)) l2 (.lst [v2])) t (.lst (ys ++ [v2]))) := (sa.trans sb).trans (same_new ht)
  have e1 : (upd (upd (upd H l1 (.lst ys)) l2 (.lst [v2])) t (.lst (ys ++ [v2]))) t = some (.lst (ys ++ [v2])) := upd_same
  generalize upd (upd (upd H l1 (.lst ys)) l2 (.lst [v2])) t (.lst (ys ++ [v2])) = H1 at s1 e1
  have ra : DpAll K H (ys ++ [v2]) (ks ++ [k2]) := dpall_app rb (.cons r2 .nil)
  have fa : ∀ i d, (ks ++ [k2])[i]? = some d → flat d = true := flats_nth _ (flats_app ks [k2] f12.1 (by simp [flat.flats, f12.2]))
  refine for_enumL (K := K) (xs := ys ++ [v2]) (fun i σ H' => (∃ y1 y2 : Option V, σ = [some (V.ref a), y1, y2]) ∧ Same H1 H' ∧ badAt (ks ++ [k2]) 0 = badAt ((ks ++ [k2]).drop i) i) ?_ ?_ ?_ ?_
  · exact ⟨⟨_, _, rfl⟩, fun _ _ h => h, by rw [List.drop_zero]⟩
  · rintro i σ H' ⟨_, sm, _⟩
    exact SqL.of (sm _ _ e1)
  · rintro i x σ H' T hx ⟨⟨y1, y2, rfl⟩, sm, hbd⟩ hT
    have sm2 : Same H' (upd H' T (.tup [.int (i : Nat), x])) := same_new hT
    refine ⟨T, _, rfl, .inl (.inl upd_same), rfl, _, _, rfl, _, _, rfl, rfl, ?_⟩
    obtain ⟨dx, hdx, hDx⟩ := dpall_get ra i x hx
    have sH := (s1.trans sm).trans sm2
    have fx0 : Fd K H x dx := ⟨fa i dx hdx, hDx⟩
    have fx := fx0.keep (Tp.same sH)
    generalize upd H' T (.tup [.int (i : Nat), x]) = H2 at sm2 sH fx
    have hst : (ks ++ [k2]).drop i = dx :: (ks ++ [k2]).drop (i + 1) := by
      obtain ⟨hi, e⟩ := List.getElem?_eq_some_iff.mp hdx
      rw [List.drop_eq_getElem_cons hi, e]
    rw [hst] at hbd
    have hbd2 : badAt (ks ++ [k2]) 0 = if isKd dx then badAt ((ks ++ [k2]).drop (i + 1)) (i + 1) else some i := hbd
    have bad : isKd dx = false → ∀ H3, Same H H3 → [V.str "no head", V.str "kind", V.int (i : Nat)].length ≤ sizeLine ∧ ∀ p, H3 p = none → Q (.ref p) (upd H3 p (.tup [V.str "no head", V.str "kind", V.int (i : Nat)])) := fun nk H3 s3 => by
      rw [nk] at hbd2
      have e : lookD (.tuple [.tuple ks, k2]) = some (("kind" : Str), i) := by
        show (badAt (ks ++ [k2]) 0).map _ = _
        rw [hbd2]
        rfl
      refine ⟨by show 3 ≤ sizeLine; decide, fun p hp => q _ _ (s3.trans (same_new hp)) ?_⟩
      have z : toldD (.tuple [.tuple ks, k2]) = .tuple [.str "no head", .str "kind", .int ((i : Nat) : Int)] := by
        unfold toldD
        rw [e]
      rw [z]
      exact fd_tup upd_same (.cons (.str _) (.cons (.str _) (.cons (.int _) .nil))) rfl
    refine ⟨_, rfl, _, _, _, _, _, rfl, .ty _, fx.ty, kit_str dx fx.1, _, rfl, ite2 (fun c => ?_) (fun c => ?_)⟩
    · have nk : isKd dx = false := by
        cases dx <;> first | rfl | (simp [isStr] at c; done)
      refine iteY rfl ?_
      exact ⟨_, rfl, bad nk _ sH⟩
    refine ⟨_, rfl, (by show 2 ≤ sizeLine; decide), fun p hp => ?_⟩
    have sp : Same H2 (upd H2 p (.tup [.str "num", .str "truth"])) := same_new hp
    refine ⟨p, ["num", "truth"], dx, rfl, .inl (.inl upd_same), fx.keep (Tp.same sp), _, rfl, ite2 (fun c => ?_) (fun c => ?_)⟩
    · have nk : isKd dx = false := by
        have z : (!isKd dx) = true := c
        simpa using z
      exact ⟨_, rfl, bad nk _ (sH.trans sp)⟩
    · have nk : isKd dx = true := by
        have z : ¬ (!isKd dx) = true := c
        simpa using z
      rw [nk] at hbd2
      exact ⟨⟨_, _, rfl⟩, (sm.trans sm2).trans sp, hbd2⟩
  · rintro σ H' ⟨_, sm, hbd⟩
    have e : lookD (.tuple [.tuple ks, k2]) = none := by
      show (badAt (ks ++ [k2]) 0).map _ = _
      rw [hbd, List.drop_eq_nil_of_le (by rw [List.length_append, List.length_append, hyl]; exact Nat.le_refl _)]
      rfl
    refine ⟨by show 2 ≤ sizeLine; decide, fun p hp => q _ _ ((s1.trans sm).trans (same_new hp)) ?_⟩
    have z : toldD (.tuple [.tuple ks, k2]) = .tuple [.str "by", .bool true] := by
      unfold toldD
      rw [e]
    rw [z]
    exact fd_tup upd_same (.cons (.str _) (.cons (.bl _) .nil)) rfl
end
end Lm

set_option Elab.async false
set_option linter.all false
set_option maxRecDepth 100000
set_option maxHeartbeats 2000000
namespace Lm
open PySem PySem.Spec PyProof.Rows L2 LmR
section
variable {P : Program} {w : World} {K : PySem.W.Frag} {mg : Str → Option Value} {base : Heap}
/-- the flow was drawn from, things were made -/
structure Gr (f : Addr) (H H' : Hp) : Prop where
  ex : Ex [f] H H'
  fl : Flow H' f
theorem Dr.gr {f : Addr} {H H' : Hp} (d : Dr f H H') : Gr f H H' := ⟨d.ex, d.fl⟩
theorem Gr.trans {f : Addr} {H H1 H2 : Hp} (a : Gr f H H1) (b : Gr f H1 H2) : Gr f H H2 := ⟨a.ex.trans b.ex, b.fl⟩
theorem Gr.same {f : Addr} {H H' : Hp} (fl : Flow H f) (h : Same H H') : Gr f H H' := by
  refine ⟨Ex.of_same h, ?_⟩
  obtain ⟨a, b, c, e, r⟩ := fl
  exact ⟨a, b, c, h _ _ e, r⟩
theorem Gr.tp {f : Addr} {H H' : Hp} (a : Gr f H H') (h : Flow H f) : Tp K H H' := by
  obtain ⟨xs, e⟩ := h.lst
  refine a.ex.tp fun b hb ys q => ?_
  rw [List.mem_singleton.mp hb] at q
  rcases q with q | ⟨o, q⟩
  · rw [e] at q; cases q
  · rw [e] at q; cases q
theorem Gr.put {f : Addr} {H H' : Hp} {p : Addr} {o : HO} (g : Gr f H H') (h : H p = none) (n : p ≠ f) : Gr f H (upd H' p o) := by
  refine ⟨fun b u hb nb => ?_, ?_⟩
  · rw [upd_ne (ne_of_none hb h)]
    exact g.ex b u hb nb
  · obtain ⟨x, y, z, e, r⟩ := g.fl
    exact ⟨x, y, z, by rw [upd_ne n.symm]; exact e, r⟩
/-! ### slices and sums of tuples, whichever object they are -/
theorem cutV_all {xs : List V} {lo hi : Option Int} (h : HT.sIx xs.length 0 lo = 0 ∧ HT.sIx xs.length xs.length hi = xs.length) : cutV xs lo hi = xs := by
  unfold cutV
  rw [h.1, h.2, List.drop_zero, Nat.sub_zero, List.take_length]
theorem slA_any {a : Addr} {xs : List V} {lo hi : Option Int} {H : Hp} {Q : VK} (ha : SqT K H a xs) (q : ∀ p H', Same H H' → SqT K H' p (cutV xs lo hi) → Q (.ref p) H') : rSlA K (.ref a) lo hi H Q :=
  ⟨a, xs, rfl, ha, fun h => q a H (fun _ _ z => z) (by rw [cutV_all h]; exact ha), fun _ p hp => q p _ (same_new hp) (.inl (.inl upd_same))⟩
theorem catA_any {a b : Addr} {xs ys : List V} {H : Hp} {Q : VK} (ha : SqT K H a xs) (hb : SqT K H b ys) (hz : xs.length + ys.length ≤ sizeLine) (q : ∀ p H', Same H H' → SqT K H' p (xs ++ ys) → Q (.ref p) H') : rCatA K (.ref a) (.ref b) H Q :=
  ⟨a, b, xs, ys, rfl, rfl, ha, hb, hz, fun e => q b H (fun _ _ z => z) (by rw [e]; exact hb), fun _ e => q a H (fun _ _ z => z) (by rw [e, List.append_nil]; exact ha), fun _ _ p hp => q p _ (same_new hp) (.inl (.inl upd_same))⟩
theorem dpall_drop {H : Hp} : ∀ (n : Nat) {xs : List V} {ds : List PyData}, DpAll K H xs ds → DpAll K H (xs.drop n) (ds.drop n)
  | 0, _, _, r => r
  | n + 1, [], [], .nil => .nil
  | n + 1, _ :: _, _ :: _, .cons a r => dpall_drop n r
theorem dpall_take {H : Hp} : ∀ (n : Nat) {xs : List V} {ds : List PyData}, DpAll K H xs ds → DpAll K H (xs.take n) (ds.take n)
  | 0, _, _, _ => .nil
  | n + 1, [], [], .nil => .nil
  | n + 1, _ :: _, _ :: _, .cons a r => .cons a (dpall_take n r)
theorem dszs_drop : ∀ (n : Nat) (ds : List PyData), dsz.dszs (ds.drop n) ≤ dsz.dszs ds
  | 0, _ => Nat.le_refl _
  | n + 1, [] => Nat.le_refl _
  | n + 1, d :: ds => by
    have := dszs_drop n ds
    simp only [List.drop_succ_cons, dsz.dszs]
    omega
theorem dszs_take : ∀ (n : Nat) (ds : List PyData), dsz.dszs (ds.take n) ≤ dsz.dszs ds
  | 0, _ => Nat.zero_le _
  | n + 1, [] => Nat.le_refl _
  | n + 1, d :: ds => by
    have := dszs_take n ds
    simp only [List.take_succ_cons, dsz.dszs]
    omega
theorem flats_drop : ∀ (n : Nat) (ds : List PyData), flat.flats ds = true → flat.flats (ds.drop n) = true
  | 0, _, h => h
  | n + 1, [], h => h
  | n + 1, d :: ds, h => by
    rw [flat.flats, Bool.and_eq_true] at h
    exact flats_drop n ds h.2
theorem flats_take : ∀ (n : Nat) (ds : List PyData), flat.flats ds = true → flat.flats (ds.take n) = true
  | 0, _, _ => rfl
  | n + 1, [], h => h
  | n + 1, d :: ds, h => by
    rw [flat.flats, Bool.and_eq_true] at h
    rw [List.take_succ_cons, flat.flats, h.1, flats_take n ds h.2]
    rfl
/-- what is picked out of a list of data -/
theorem pick {H : Hp} {xs : List V} {ds : List PyData} (r : DpAll K H xs ds) (f : flat.flats ds = true) {i : Int} (h0 : 0 ≤ i) (h1 : i < (ds.length : Nat)) : ∃ v d, atI xs i = some v ∧ Fd K H v d ∧ d ∈ ds := by
  have hl := dpall_len r
  have hlt : i.toNat < xs.length := by omega
  obtain ⟨d, hd, hD⟩ := dpall_get r i.toNat xs[i.toNat] (List.getElem?_eq_getElem hlt)
  refine ⟨xs[i.toNat], d, at_of (j := i.toNat) (by omega) (List.getElem?_eq_getElem hlt), ⟨flats_nth ds f _ d hd, hD⟩, List.mem_of_getElem? hd⟩
/-! ### head, bad -/
def kS (b : Bool) : Str := if b then "truth" else "num"
def kDs (ks : List Bool) : List PyData := ks.map fun b => .str (kS b)
def kVs (ks : List Bool) : List V := ks.map fun b => .str (kS b)
theorem kds {H : Hp} : ∀ ks : List Bool, DpAll K H (kVs ks) (kDs ks)
  | [] => .nil
  | b :: ks => .cons (.str _) (kds ks)
theorem kds_flat : ∀ ks : List Bool, flat.flats (kDs ks) = true
  | [] => rfl
  | b :: ks => by
    show (flat (.str (kS b)) && flat.flats (kDs ks)) = true
    rw [kds_flat ks]
    rfl
theorem kds_sz : ∀ ks : List Bool, dsz.dszs (kDs ks) = ks.length
  | [] => rfl
  | b :: ks => by
    show 1 + dsz.dszs (kDs ks) = ks.length + 1
    rw [kds_sz ks]
    omega
abbrev s_l_head : Stmt := topS 23
theorem sc_l_head : FnScope ["_law_flow_here", "_law_kinds", "_law_k"] ["_law_flow_here"] (defScope s_l_head) := ⟨rfl, rfl, rfl, by decide +kernel, rfl, by decide +kernel, by decide +kernel⟩
def spHead (K : PySem.W.Frag) : Sp := fun vs H Q _ => ∃ f : Addr, vs = [.ref f] ∧ Flow H f ∧ ∀ (u : V) (ks : List PyData) (k : PyData) (H' : Hp), Gr f H H' → Fd K H' u (.tuple [.tuple ks, k]) → dsz (.tuple [.tuple ks, k]) ≤ 10 → Q u H'
theorem ok_l_head (B : Bt mg) (C_l_draw : Cal P w K mg base 1 "_law_draw" ["_law_flow_here", "_law_many"] (spDraw)) (D : DefAt K mg "_law_head" s_l_head ["_law_flow_here"]) : Cal P w K mg base 2 "_law_head" ["_law_flow_here"] (spHead K) := by
  refine cal_of D sc_l_head (fun vs H Q E h => ?_) (fun f cdv A outer s H vs Q E hr h => ?_)
  · obtain ⟨a, rfl, _⟩ := h
    rfl
  obtain ⟨f, rfl, fl, q⟩ := h
  have hr' : Room 1 _ := hr
  refine ⟨_, (pss_cons (ps_set (i := 1) sc_l_head.nd rfl (.inl rfl) (pe_callTy call_tuple_of (by rfl) B.tuple PyProof.Rows.boot_tuple (pa_cons (pe_lc (own := [("_law_k", 2)]) (g := gName 2) rfl sc_l_head.nd (pi_range1 (by rfl) B.range (pa_cons (pe_cal C_l_draw hr' (by rfl) (pa_cons (pv 0) (pa_cons pe_int pa_nil))) pa_nil)) (blkOk_by (own := [("_law_k", 2)]) (N := ["_law_flow_here", "_law_kinds", "_law_k"]) (sc := defScope s_l_head) (by decide +kernel)) (fun _ _ _ _ _ => (pg_name (i := 2) sc_l_head.nd rfl (.inl rfl))) (fun _ _ _ _ _ => pts_nil) (fun _ _ _ _ _ => (pe_ix (ix_listK (K := K) rfl) (pe_lst (pa_cons pe_str (pa_cons pe_str pa_nil))) (pe_cal C_l_draw hr' (by rfl) (pa_cons (pv 0) (pa_cons pe_int pa_nil))) (fun _ _ => rfl)))) pa_nil)))
      (pss_one (ps_ret (pe_tup (pa_cons (pv 1) (pa_cons (pe_ix ix_list (pe_lst (pa_cons pe_str (pa_cons pe_str pa_nil))) (pe_cal C_l_draw hr' (by rfl) (pa_cons (pv 0) (pa_cons pe_int pa_nil))) (fun _ _ => rfl)) pa_nil)))))), ?_⟩
  refine ⟨_, rfl, f, 6, rfl, fl, by decide, by decide, fun n H1 n0 n1 dr1 => ⟨n, rfl, by omega, by omega, fun D hD => lc_range (lo := 0) (n := n.toNat) (fun i H' => Gr f H H' ∧ ∃ ks : List Bool, ks.length = i ∧ H' D = some (.lst (kVs ks))) ?_ ?_ ?_⟩⟩
  · exact ⟨dr1.gr.trans (Gr.same dr1.fl (same_new hD)), [], rfl, upd_same⟩
  · rintro i H' hi ⟨g, ks, hl, hA⟩
    refine ⟨rfl, (by show 2 ≤ sizeLine; decide), fun p hp => ?_⟩
    have gp : Gr f H (upd H' p (.lst [.str "num", .str "truth"])) := g.trans (Gr.same g.fl (same_new hp))
    have nDf : D ≠ f := fun z => by
      obtain ⟨xs, e⟩ := dr1.fl.lst
      rw [z, e] at hD
      cases hD
    have npf : p ≠ f := fun z => by
      obtain ⟨xs, e⟩ := g.fl.lst
      rw [z, e] at hp
      cases hp
    have npD : p ≠ D := fun z => by
      rw [z, hA] at hp
      cases hp
    have D0 : H D = none := dr1.ex.free hD (by simp [nDf])
    refine ⟨_, rfl, f, 2, rfl, gp.fl, by decide, by decide, fun j H2 j0 j1 dr2 => ?_⟩
    have hp2 : H2 p = some (.lst [.str "num", .str "truth"]) := by rw [dr2.off p npf]; exact upd_same
    have hA2 : H2 D = some (.lst (kVs ks)) := by rw [dr2.off D nDf, upd_ne npD.symm]; exact hA
    have g2 := gp.trans dr2.gr
    have kl : (kVs ks).length = ks.length := List.length_map _
    have fin : ∀ b : Bool, ∃ acc, H2 D = some (.lst acc) ∧ acc.length < sizeLine ∧ (Gr f H (upd H2 D (.lst (acc ++ [V.str (kS b)]))) ∧ ∃ ks : List Bool, ks.length = i + 1 ∧ (upd H2 D (.lst (acc ++ [V.str (kS b)]))) D = some (.lst (kVs ks))) := fun b =>
      ⟨_, hA2, by rw [kl]; exact smallL (by omega), g2.put D0 nDf, ks ++ [b], by rw [List.length_append, hl]; rfl, by rw [upd_same]; unfold kVs; rw [List.map_append]; rfl⟩
    rcases (show j = 0 ∨ j = 1 by omega) with z | z
    · subst z
      exact ⟨p, _, 0, .str "num", rfl, rfl, SqL.of hp2, rfl, fin false⟩
    · subst z
      exact ⟨p, _, 1, .str "truth", rfl, rfl, SqL.of hp2, rfl, fin true⟩
  · rintro H' ⟨g, ks, hl, hA⟩
    refine ⟨D, _, rfl, .inl ⟨SqL.of hA, fun t ht => ?_⟩⟩
    have g1 := g.trans (Gr.same g.fl (same_new (o := .tup (kVs ks)) ht))
    have e1 : upd H' t (.tup (kVs ks)) t = some (.tup (kVs ks)) := upd_same
    generalize upd H' t (.tup (kVs ks)) = J1 at g1 e1
    refine ⟨_, rfl, (by show 2 ≤ sizeLine; decide), fun p hp => ?_⟩
    have g2 := g1.trans (Gr.same g1.fl (same_new (o := .lst [.str "num", .str "truth"]) hp))
    have e2 : upd J1 p (.lst [.str "num", .str "truth"]) t = some (.tup (kVs ks)) := same_new hp _ _ e1
    have p2 : upd J1 p (.lst [.str "num", .str "truth"]) p = some (.lst [.str "num", .str "truth"]) := upd_same
    generalize upd J1 p (.lst [.str "num", .str "truth"]) = J2 at g2 e2 p2
    refine ⟨_, rfl, f, 2, rfl, g2.fl, by decide, by decide, fun j J3 j0 j1 dr3 => ?_⟩
    have off : ∀ {b : Addr} {xs : List V}, J2 b = some (.tup xs) → J3 b = some (.tup xs) := fun {b xs} z => by
      rw [dr3.off b (fun y => by obtain ⟨zs, e⟩ := g2.fl.lst; rw [y, e] at z; cases z)]
      exact z
    have g3 := g2.trans dr3.gr
    have e3 := off e2
    have npf : p ≠ f := fun z => by
      obtain ⟨xs, e⟩ := g1.fl.lst
      rw [z, e] at hp
      cases hp
    have p3 : J3 p = some (.lst [.str "num", .str "truth"]) := by rw [dr3.off p npf]; exact p2
    have fin : ∀ b : Bool, [V.ref t, V.str (kS b)].length ≤ sizeLine ∧ ∀ r, J3 r = none → Q (.ref r) (upd J3 r (.tup [V.ref t, V.str (kS b)])) := fun b =>
      ⟨by show 2 ≤ sizeLine; decide, fun r hr3 => q _ (kDs ks) (.str (kS b)) _ (g3.trans (Gr.same g3.fl (same_new hr3)))
        (fd_tup upd_same (.cons (.tup (.inl (.inl (same_new hr3 _ _ e3))) (kds ks)) (.cons (.str _) .nil)) (by simp [flat.flats, flat, kds_flat ks])) (by simp [dsz, dsz.dszs, kds_sz]; omega)⟩
    rcases (show j = 0 ∨ j = 1 by omega) with z | z
    · subst z
      exact ⟨p, _, 0, .str "num", rfl, rfl, SqL.of p3, rfl, fin false⟩
    · subst z
      exact ⟨p, _, 1, .str "truth", rfl, rfl, SqL.of p3, rfl, fin true⟩
end
end Lm

set_option Elab.async false
set_option linter.all false
set_option maxRecDepth 100000
set_option maxHeartbeats 2000000
namespace Lm
open PySem PySem.Spec PyProof.Rows L2 LmR
section
variable {P : Program} {w : World} {K : PySem.W.Frag} {mg : Str → Option Value} {base : Heap}
def badDs : List PyData := [.str "", .str "nums", .str "num ", .str "Truth", .str "truth,", .int 0, .int 1, .bool true, .bool false, .none, .tuple [], .tuple [.str "num"], .tuple [.str "truth", .str "num"]]
abbrev s_l_bad : Stmt := topS 24
theorem sc_l_bad : FnScope ["_law_flow_here", "_law_some"] ["_law_flow_here"] (defScope s_l_bad) := ⟨rfl, rfl, rfl, by decide +kernel, rfl, by decide +kernel, by decide +kernel⟩
def spBad (K : PySem.W.Frag) : Sp := fun vs H Q _ => ∃ f : Addr, vs = [.ref f] ∧ Flow H f ∧ ∀ (u : V) (d : PyData) (H' : Hp), Gr f H H' → Fd K H' u d → dsz d ≤ 3 → Q u H'
theorem dp_new {H : Hp} {t : Addr} {vs : List V} {ds : List PyData} (h : H t = some (.tup vs)) (r : DpAll K H vs ds) : Dp K H (.ref t) (.tuple ds) := .tup (.inl (.inl h)) r
theorem ok_l_bad (C_l_draw : Cal P w K mg base 1 "_law_draw" ["_law_flow_here", "_law_many"] (spDraw)) (D : DefAt K mg "_law_bad" s_l_bad ["_law_flow_here"]) : Cal P w K mg base 2 "_law_bad" ["_law_flow_here"] (spBad K) := by
  refine cal_of D sc_l_bad (fun vs H Q E h => ?_) (fun f cdv A outer s H vs Q E hr h => ?_)
  · obtain ⟨a, rfl, _⟩ := h
    rfl
  obtain ⟨f, rfl, fl, q⟩ := h
  have hr' : Room 1 _ := hr
  refine ⟨_, (pss_cons (ps_set (i := 1) sc_l_bad.nd rfl (.inl rfl) (pe_lst (pa_cons pe_str (pa_cons pe_str (pa_cons pe_str (pa_cons pe_str (pa_cons pe_str (pa_cons pe_int (pa_cons pe_int (pa_cons pe_bl (pa_cons pe_bl (pa_cons pe_non (pa_cons (pe_tup pa_nil) (pa_cons (pe_tup (pa_cons pe_str pa_nil)) (pa_cons (pe_tup (pa_cons pe_str (pa_cons pe_str pa_nil))) pa_nil)))))))))))))))
      (pss_one (ps_ret (pe_ix ix_list (pv 1) (pe_cal C_l_draw hr' (by rfl) (pa_cons (pv 0) (pa_cons pe_int pa_nil))) (fun _ _ => rfl))))), ?_⟩
  refine ⟨(by show 0 ≤ sizeLine; decide), fun p1 h1 => ?_⟩
  have s1 := same_new (o := .tup []) h1
  have e1 : upd H p1 (.tup []) p1 = some (.tup []) := upd_same
  generalize upd H p1 (.tup []) = J1 at s1 e1
  refine ⟨(by show 1 ≤ sizeLine; decide), fun p2 h2 => ?_⟩
  have s2 := same_new (o := .tup [.str "num"]) h2
  have e2 : upd J1 p2 (.tup [.str "num"]) p2 = some (.tup [.str "num"]) := upd_same
  generalize upd J1 p2 (.tup [.str "num"]) = J2 at s2 e2
  refine ⟨(by show 2 ≤ sizeLine; decide), fun p3 h3 => ?_⟩
  have s3 := same_new (o := .tup [.str "truth", .str "num"]) h3
  have e3 : upd J2 p3 (.tup [.str "truth", .str "num"]) p3 = some (.tup [.str "truth", .str "num"]) := upd_same
  generalize upd J2 p3 (.tup [.str "truth", .str "num"]) = J3 at s3 e3
  have a1 := s3 _ _ (s2 _ _ e1)
  have a2 := s3 _ _ e2
  have r : DpAll K J3 [.str "", .str "nums", .str "num ", .str "Truth", .str "truth,", .int 0, .int 1, .bl true, .bl false, .non, .ref p1, .ref p2, .ref p3] badDs :=
    .cons (.str _) (.cons (.str _) (.cons (.str _) (.cons (.str _) (.cons (.str _) (.cons (.int _) (.cons (.int _) (.cons (.bl _) (.cons (.bl _) (.cons .non (.cons (dp_new a1 .nil) (.cons (dp_new a2 (.cons (.str _) .nil)) (.cons (dp_new e3 (.cons (.str _) (.cons (.str _) .nil))) .nil))))))))))))
  refine ⟨(by show 13 ≤ sizeLine; decide), fun l hl => ?_⟩
  have s4 := same_new (o := .lst [.str "", .str "nums", .str "num ", .str "Truth", .str "truth,", .int 0, .int 1, .bl true, .bl false, .non, .ref p1, .ref p2, .ref p3]) hl
  have e4 : upd J3 l (.lst [.str "", .str "nums", .str "num ", .str "Truth", .str "truth,", .int 0, .int 1, .bl true, .bl false, .non, .ref p1, .ref p2, .ref p3]) l = some (.lst [.str "", .str "nums", .str "num ", .str "Truth", .str "truth,", .int 0, .int 1, .bl true, .bl false, .non, .ref p1, .ref p2, .ref p3]) := upd_same
  generalize upd J3 l (.lst [.str "", .str "nums", .str "num ", .str "Truth", .str "truth,", .int 0, .int 1, .bl true, .bl false, .non, .ref p1, .ref p2, .ref p3]) = J4 at s4 e4
  have g4 : Gr f H J4 := Gr.same fl (((s1.trans s2).trans s3).trans s4)
  refine ⟨_, rfl, _, rfl, f, 13, rfl, g4.fl, by decide, by decide, fun j J5 j0 j1 dr5 => ?_⟩
  have nlf : l ≠ f := fun z => by
    obtain ⟨xs, e⟩ := (Gr.same fl ((s1.trans s2).trans s3)).fl.lst
    rw [z, e] at hl
    cases hl
  have e5 := (dr5.off l nlf).trans e4
  have r5 := dps_keep ((Tp.same s4).trans (dr5.tp g4.fl)) badDs _ (by decide) r
  obtain ⟨v, d, hv, hd, hm⟩ := pick r5 (by decide) j0 (by show j < 13; exact j1)
  refine ⟨l, _, j, v, rfl, rfl, SqL.of e5, hv, q v d _ (g4.trans dr5.gr) hd ?_⟩
  have all : ∀ x ∈ badDs, dsz x ≤ 3 := by
    intro x hx
    simp only [badDs, List.mem_cons, List.not_mem_nil, or_false] at hx
    rcases hx with h | h | h | h | h | h | h | h | h | h | h | h | h <;> (subst h; decide)
  exact all d hm
theorem cut_dp {H : Hp} {xs : List V} {ds : List PyData} (r : DpAll K H xs ds) (lo hi : Option Int) : ∃ es, DpAll K H (cutV xs lo hi) es ∧ (flat.flats ds = true → flat.flats es = true) ∧ dsz.dszs es ≤ dsz.dszs ds ∧ es.length ≤ ds.length := by
  unfold cutV
  refine ⟨_, dpall_take _ (dpall_drop _ r), fun f => flats_take _ _ (flats_drop _ _ f), Nat.le_trans (dszs_take _ _) (dszs_drop _ _), ?_⟩
  rw [List.length_take, List.length_drop]
  omega
/-! ### spoilt -/
abbrev s_l_spoilt : Stmt := topS 25
theorem sc_l_spoilt : FnScope ["_law_flow_here", "_law_head_here", "_law_kinds", "_law_kind", "_law_form", "_law_at", "_law_some"] ["_law_flow_here", "_law_head_here"] (defScope s_l_spoilt) := ⟨rfl, rfl, rfl, by decide +kernel, rfl, by decide +kernel, by decide +kernel⟩
def spSpoilt (K : PySem.W.Frag) : Sp := fun vs H Q _ => ∃ (f : Addr) (u : V) (ks : List PyData) (k : PyData), vs = [.ref f, u] ∧ Flow H f ∧ Fd K H u (.tuple [.tuple ks, k]) ∧ dsz (.tuple [.tuple ks, k]) ≤ 150 ∧
  ∀ (u' : V) (d' : PyData) (H' : Hp), Gr f H H' → Fd K H' u' d' → dsz d' ≤ 3 * dsz (.tuple [.tuple ks, k]) + 10 → Q u' H'
def someDs (ks : List PyData) (k : PyData) : List PyData := [.tuple ks, .tuple [.tuple ks], .tuple [k, .tuple ks], .tuple [.tuple ks, k, k], .str "num", .int 3, .none, .bool true, .tuple [], .tuple [.str "num", .str "num"]]
def moreDs (ks : List PyData) (k : PyData) : List PyData := [.tuple [.str "", k], .tuple [.none, k], .tuple [.tuple [.tuple ks], k], .tuple [.tuple ks, k]]
theorem some_flat {ks : List PyData} {k : PyData} (h1 : flat.flats ks = true) (h2 : flat k = true) : flat.flats (someDs ks k ++ moreDs ks k) = true := by
  simp [someDs, moreDs, flat.flats, flat, h1, h2]
theorem some_sz {ks : List PyData} {k : PyData} : ∀ x ∈ someDs ks k ++ moreDs ks k, dsz x ≤ 3 * dsz (.tuple [.tuple ks, k]) + 10 := by
  intro x hx
  simp only [someDs, moreDs, List.cons_append, List.nil_append, List.mem_cons, List.not_mem_nil, or_false] at hx
  rcases hx with h | h | h | h | h | h | h | h | h | h | h | h | h | h <;> (subst h; simp only [dsz, dsz.dszs]; omega)
theorem ok_l_spoilt (B : Bt mg) (C_l_draw : Cal P w K mg base 1 "_law_draw" ["_law_flow_here", "_law_many"] (spDraw)) (C_l_bad : Cal P w K mg base 2 "_law_bad" ["_law_flow_here"] (spBad K)) (D : DefAt K mg "_law_spoilt" s_l_spoilt ["_law_flow_here", "_law_head_here"]) : Cal P w K mg base 3 "_law_spoilt" ["_law_flow_here", "_law_head_here"] (spSpoilt K) := by
  refine cal_of D sc_l_spoilt (fun vs H Q E h => ?_) (fun f cdv A outer s H vs Q E hr h => ?_)
  · obtain ⟨f, u, ks, k, rfl, _⟩ := h
    rfl
  obtain ⟨f, u, ks, k, rfl, fl, hu, hz, q⟩ := h
  have C_l_draw := C_l_draw.mono (k := 2) (by decide)
  have hr' : Room 2 _ := hr
  refine ⟨_, (pss_cons (ps_asg (pv 1) (pg_tup rfl (pgs_cons (pg_name (i := 2) sc_l_spoilt.nd rfl (.inl rfl)) (pgs_cons (pg_name (i := 3) sc_l_spoilt.nd rfl (.inl rfl)) pgs_nil))))
      (pss_cons (ps_set (i := 4) sc_l_spoilt.nd rfl (.inl rfl) (pe_cal C_l_draw hr' (by rfl) (pa_cons (pv 0) (pa_cons pe_int pa_nil))))
      (pss_cons (ps_set (i := 5) sc_l_spoilt.nd rfl (.inl rfl) (pe_cal C_l_draw hr' (by rfl) (pa_cons (pv 0) (pa_cons (pe_op op_add (pe_callB call_len_seq (by rfl) B.len PySem.boot_len (pa_cons (pv 2) pa_nil)) pe_int) pa_nil))))
      (pss_cons (ps_if (pt_cmpR op_lt (pv 4) pe_int (nomark _))
        (pss_one (ps_ret (pe_tup (pa_cons (pe_op op_catA (pe_op op_catA (pe_slice sl_tupA (pv 2) po_none (po_some (pv 5))) (pe_tup (pa_cons (pe_cal C_l_bad hr' (by rfl) (pa_cons (pv 0) pa_nil)) pa_nil))) (pe_slice sl_tupA (pv 2) (po_some (pe_op op_add (pv 5) (pe_cal C_l_draw hr' (by rfl) (pa_cons (pv 0) (pa_cons pe_int pa_nil))))) po_none)) (pa_cons (pv 3) pa_nil)))))
        pss_nil)
      (pss_cons (ps_if (pt_cmpR op_eq (pv 4) pe_int (nomark _))
        (pss_one (ps_ret (pe_tup (pa_cons (pv 2) (pa_cons (pe_cal C_l_bad hr' (by rfl) (pa_cons (pv 0) pa_nil)) pa_nil)))))
        pss_nil)
      (pss_cons (ps_set (i := 6) sc_l_spoilt.nd rfl (.inl rfl) (pe_lst (pa_cons (pv 2) (pa_cons (pe_tup (pa_cons (pv 2) pa_nil)) (pa_cons (pe_tup (pa_cons (pv 3) (pa_cons (pv 2) pa_nil))) (pa_cons (pe_tup (pa_cons (pv 2) (pa_cons (pv 3) (pa_cons (pv 3) pa_nil)))) (pa_cons pe_str (pa_cons pe_int (pa_cons pe_non (pa_cons pe_bl (pa_cons (pe_tup pa_nil) (pa_cons (pe_tup (pa_cons pe_str (pa_cons pe_str pa_nil))) pa_nil))))))))))))
      (pss_cons (ps_set (i := 6) sc_l_spoilt.nd rfl (.inl rfl) (pe_op op_cat (pv 6) (pe_lst (pa_cons (pe_tup (pa_cons pe_str (pa_cons (pv 3) pa_nil))) (pa_cons (pe_tup (pa_cons pe_non (pa_cons (pv 3) pa_nil))) (pa_cons (pe_tup (pa_cons (pe_tup (pa_cons (pv 2) pa_nil)) (pa_cons (pv 3) pa_nil))) (pa_cons (pv 1) pa_nil)))))))
      (pss_one (ps_ret (pe_ix ix_list (pv 6) (pe_cal C_l_draw hr' (by rfl) (pa_cons (pv 0) (pa_cons pe_int pa_nil))) (fun _ _ => rfl))))))))))), ?_⟩
  obtain ⟨a, v1, v2, rfl, qa, r1, r2⟩ : ∃ a v1 v2, u = .ref a ∧ SqT K H a [v1, v2] ∧ Dp K H v1 (.tuple ks) ∧ Dp K H v2 k := by
    cases hu.2 with
    | tup qa r => cases r with
      | cons r1 r => cases r with
        | cons r2 r => cases r; exact ⟨_, _, _, rfl, qa, r1, r2⟩
  have f12 : flat.flats ks = true ∧ flat k = true := by
    simpa [flat, flat.flats] using hu.1
  obtain ⟨b, ys, rfl, qb, rb⟩ : ∃ b ys, v1 = .ref b ∧ SqT K H b ys ∧ DpAll K H ys ks := by
    cases r1 with
    | tup q4 r4 => exact ⟨_, _, rfl, q4, r4⟩
  have hyl := dpall_len rb
  have hkz : ks.length ≤ 150 := by
    have z := dszs_len ks
    simp [dsz, dsz.dszs] at hz
    omega
  refine ⟨_, rfl, a, _, rfl, qa, rfl, _, _, rfl, _, _, rfl, rfl, ?_⟩
  refine ⟨_, rfl, f, 6, rfl, fl, by decide, by decide, fun form H1 fo0 fo1 dr1 => ?_⟩
  have t1 : Tp K H H1 := dr1.tp fl
  refine ⟨_, rfl, _, rfl, b, _, rfl, .inr (t1 _ _ qb), _, _, rfl, rfl, f, _, rfl, dr1.fl, by omega, by omega, fun at_ H2 a0 a1 dr2 => ?_⟩
  have g2 := dr1.gr.trans dr2.gr
  have t2 : Tp K H H2 := g2.tp fl
  have qb2 := t2 _ _ qb
  have rb2 := dps_keep t2 ks _ f12.1 rb
  have k2 : Fd K H2 v2 k := (show Fd K H v2 k from ⟨f12.2, r2⟩).keep t2
  have hu2 : Fd K H2 (.ref a) (.tuple [.tuple ks, k]) := hu.keep t2
  have fl2 := g2.fl
  clear qa rb r2 dr1 dr2 t1 qb
  refine ⟨_, rfl, _, _, rfl, rfl, _, rfl, ite2 (fun c => ?_) (fun c => ?_)⟩
  · refine ⟨_, rfl, _, rfl, _, rfl, slA_any qb2 fun p1 J1 s1 q1 => ?_⟩
    obtain ⟨es1, d1, e1, z1, l1⟩ := cut_dp rb2 none (some at_)
    have fJ1 := (Gr.same fl2 s1).fl
    refine ⟨_, rfl, f, rfl, fJ1, fun ub db J2 g3 hub szb => ⟨(by show 1 ≤ sizeLine; decide), fun t ht => ?_⟩⟩
    have s3 := same_new (o := .tup [ub]) ht
    have e3 : upd J2 t (.tup [ub]) t = some (.tup [ub]) := upd_same
    generalize upd J2 t (.tup [ub]) = J3 at s3 e3
    have t13 : Tp K J1 J3 := (g3.tp fJ1).trans (Tp.same s3)
    have lc := cutV_length ys none (some at_)
    refine catA_any (t13 _ _ q1) (.inl (.inl e3)) (by show (cutV ys none (some at_)).length + 1 ≤ sizeLine; exact small (by omega)) fun p2 J4 s4 q4 => ?_
    have t4 : Tp K H2 J4 := ((Tp.same s1).trans t13).trans (Tp.same s4)
    have g4 : Gr f H2 J4 := ((Gr.same fl2 s1).trans g3).trans (Gr.same g3.fl (s3.trans s4))
    refine ⟨_, rfl, _, rfl, _, rfl, f, 2, rfl, g4.fl, by decide, by decide, fun j J5 j0 j1 dr5 => ⟨_, _, rfl, rfl, _, rfl, ?_⟩⟩
    delta tNoPart
    refine slA_any (lo := some (at_ + j)) (hi := none) (dr5.tp g4.fl _ _ (t4 _ _ qb2)) fun p3 J6 s6 q6 => ?_
    have g6 := (g4.trans dr5.gr).trans (Gr.same dr5.fl s6)
    have t46 : Tp K J4 J6 := (dr5.tp g4.fl).trans (Tp.same s6)
    obtain ⟨es2, d2, e2, z2, l2⟩ := cut_dp rb2 (some (at_ + j)) none
    have lc2 := cutV_length ys (some (at_ + j)) none
    refine catA_any (t46 _ _ q4) q6 (by rw [List.length_append]; show _ + 1 + _ ≤ sizeLine; exact small (by omega)) fun p4 J7 s7 q7 => ?_
    have t7 : Tp K H2 J7 := (t4.trans t46).trans (Tp.same s7)
    have g7 := g6.trans (Gr.same g6.fl s7)
    refine ⟨_, rfl, (by show 2 ≤ sizeLine; decide), fun t8 h8 => ?_⟩
    have s8 := same_new (o := .tup [.ref p4, v2]) h8
    have t8' : Tp K H2 (upd J7 t8 (.tup [.ref p4, v2])) := t7.trans (Tp.same s8)
    have tb : Tp K J2 (upd J7 t8 (.tup [.ref p4, v2])) := ((((Tp.same s3).trans (Tp.same s4)).trans t46).trans (Tp.same s7)).trans (Tp.same s8)
    have fe1 := e1 f12.1
    have fe2 := e2 f12.1
    refine q _ (.tuple [.tuple ((es1 ++ [db]) ++ es2), k]) _ (g2.trans (g7.trans (Gr.same g7.fl s8))) (fd_tup upd_same (.cons (.tup (Tp.same s8 _ _ q7) (dpall_app (dpall_app (dps_keep t8' es1 _ fe1 d1) (.cons (hub.keep tb).2 .nil)) (dps_keep t8' es2 _ fe2 d2))) (.cons (k2.keep t8').2 .nil)) ?_) ?_
    · have x1 := flats_app (es1 ++ [db]) es2 (flats_app es1 [db] fe1 (by simp [flat.flats, hub.1])) fe2
      simp only [flat.flats, flat, x1, f12.2, Bool.and_true]
    · simp only [dsz, dsz.dszs, dszs_app]
      omega
  refine ⟨_, rfl, rfl, _, rfl, ite2 (fun c2 => ?_) (fun c2 => ?_)⟩
  · refine ⟨_, rfl, _, rfl, f, rfl, fl2, fun ub db J2 g3 hub szb => ⟨(by show 2 ≤ sizeLine; decide), fun t ht => ?_⟩⟩
    have s3 := same_new (o := .tup [.ref b, ub]) ht
    have t3 : Tp K H2 (upd J2 t (.tup [.ref b, ub])) := (g3.tp fl2).trans (Tp.same s3)
    refine q _ (.tuple [.tuple ks, db]) _ (g2.trans (g3.trans (Gr.same g3.fl s3))) (fd_tup upd_same (.cons (.tup (t3 _ _ qb2) (dps_keep t3 ks _ f12.1 rb2)) (.cons (hub.keep (Tp.same s3)).2 .nil)) ?_) ?_
    · simp only [flat.flats, flat, f12.1, hub.1, Bool.and_true]
    · simp only [dsz, dsz.dszs]
      omega
  refine ⟨_, rfl, _, rfl, (by show 1 ≤ sizeLine; decide), fun p1 h1 => ?_⟩
  have s1 := same_new (o := .tup [.ref b]) h1
  have e1 : upd H2 p1 (.tup [.ref b]) p1 = some (.tup [.ref b]) := upd_same
  generalize upd H2 p1 (.tup [.ref b]) = J1 at s1 e1
  refine ⟨_, rfl, _, rfl, (by show 2 ≤ sizeLine; decide), fun p2 h2 => ?_⟩
  have s2 := same_new (o := .tup [v2, .ref b]) h2
  have e2 : upd J1 p2 (.tup [v2, .ref b]) p2 = some (.tup [v2, .ref b]) := upd_same
  generalize upd J1 p2 (.tup [v2, .ref b]) = J2 at s2 e2
  refine ⟨_, rfl, _, rfl, _, rfl, (by show 3 ≤ sizeLine; decide), fun p3 h3 => ?_⟩
  have s3 := same_new (o := .tup [.ref b, v2, v2]) h3
  have e3 : upd J2 p3 (.tup [.ref b, v2, v2]) p3 = some (.tup [.ref b, v2, v2]) := upd_same
  generalize upd J2 p3 (.tup [.ref b, v2, v2]) = J3 at s3 e3
  refine ⟨(by show 0 ≤ sizeLine; decide), fun p4 h4 => ?_⟩
  have s4 := same_new (o := .tup []) h4
  have e4 : upd J3 p4 (.tup []) p4 = some (.tup []) := upd_same
  generalize upd J3 p4 (.tup []) = J4 at s4 e4
  refine ⟨(by show 2 ≤ sizeLine; decide), fun p5 h5 => ?_⟩
  have s5 := same_new (o := .tup [.str "num", .str "num"]) h5
  have e5 : upd J4 p5 (.tup [.str "num", .str "num"]) p5 = some (.tup [.str "num", .str "num"]) := upd_same
  generalize upd J4 p5 (.tup [.str "num", .str "num"]) = J5 at s5 e5
  refine ⟨(by show 10 ≤ sizeLine; decide), fun l1 hl1 => ?_⟩
  have sl1 := same_new (o := .lst [.ref b, .ref p1, .ref p2, .ref p3, .str "num", .int 3, .non, .bl true, .ref p4, .ref p5]) hl1
  have el1 : upd J5 l1 (.lst [.ref b, .ref p1, .ref p2, .ref p3, .str "num", .int 3, .non, .bl true, .ref p4, .ref p5]) l1 = some (.lst [.ref b, .ref p1, .ref p2, .ref p3, .str "num", .int 3, .non, .bl true, .ref p4, .ref p5]) := upd_same
  generalize upd J5 l1 (.lst [.ref b, .ref p1, .ref p2, .ref p3, .str "num", .int 3, .non, .bl true, .ref p4, .ref p5]) = J6 at sl1 el1
  refine ⟨_, rfl, _, rfl, (by show 2 ≤ sizeLine; decide), fun p6 h6 => ?_⟩
  have s6 := same_new (o := .tup [.str "", v2]) h6
  have e6 : upd J6 p6 (.tup [.str "", v2]) p6 = some (.tup [.str "", v2]) := upd_same
  generalize upd J6 p6 (.tup [.str "", v2]) = J7 at s6 e6
  refine ⟨_, rfl, (by show 2 ≤ sizeLine; decide), fun p7 h7 => ?_⟩
  have s7 := same_new (o := .tup [.non, v2]) h7
  have e7 : upd J7 p7 (.tup [.non, v2]) p7 = some (.tup [.non, v2]) := upd_same
  generalize upd J7 p7 (.tup [.non, v2]) = J8 at s7 e7
  refine ⟨_, rfl, (by show 1 ≤ sizeLine; decide), fun p8 h8 => ?_⟩
  have s8 := same_new (o := .tup [.ref b]) h8
  have e8 : upd J8 p8 (.tup [.ref b]) p8 = some (.tup [.ref b]) := upd_same
  generalize upd J8 p8 (.tup [.ref b]) = J9 at s8 e8
  refine ⟨_, rfl, (by show 2 ≤ sizeLine; decide), fun p9 h9 => ?_⟩
  have s9 := same_new (o := .tup [.ref p8, v2]) h9
  have e9 : upd J9 p9 (.tup [.ref p8, v2]) p9 = some (.tup [.ref p8, v2]) := upd_same
  generalize upd J9 p9 (.tup [.ref p8, v2]) = J10 at s9 e9
  refine ⟨_, rfl, (by show 4 ≤ sizeLine; decide), fun l2 hl2 => ?_⟩
  have sl2 := same_new (o := .lst [.ref p6, .ref p7, .ref p9, .ref a]) hl2
  have el2 : upd J10 l2 (.lst [.ref p6, .ref p7, .ref p9, .ref a]) l2 = some (.lst [.ref p6, .ref p7, .ref p9, .ref a]) := upd_same
  generalize upd J10 l2 (.lst [.ref p6, .ref p7, .ref p9, .ref a]) = J11 at sl2 el2
  have sA := ((s6.trans s7).trans s8).trans s9
  refine ⟨l1, l2, _, _, rfl, rfl, sl2 _ _ (sA _ _ el1), el2, (by show 14 ≤ sizeLine; decide), fun l3 hl3 => ?_⟩
  have sl3 := same_new (o := .lst ([.ref b, .ref p1, .ref p2, .ref p3, .str "num", .int 3, .non, .bl true, .ref p4, .ref p5] ++ [.ref p6, .ref p7, .ref p9, .ref a])) hl3
  have el3 : upd J11 l3 (.lst ([.ref b, .ref p1, .ref p2, .ref p3, .str "num", .int 3, .non, .bl true, .ref p4, .ref p5] ++ [.ref p6, .ref p7, .ref p9, .ref a])) l3 = some (.lst ([.ref b, .ref p1, .ref p2, .ref p3, .str "num", .int 3, .non, .bl true, .ref p4, .ref p5] ++ [.ref p6, .ref p7, .ref p9, .ref a])) := upd_same
  generalize upd J11 l3 (.lst ([.ref b, .ref p1, .ref p2, .ref p3, .str "num", .int 3, .non, .bl true, .ref p4, .ref p5] ++ [.ref p6, .ref p7, .ref p9, .ref a])) = J12 at sl3 el3
  have sB := (((s1.trans s2).trans s3).trans s4).trans s5
  have sC := (sB.trans sl1).trans ((sA.trans sl2).trans sl3)
  have g12 : Gr f H2 J12 := Gr.same fl2 sC
  have tC := Tp.same (K := K) sC
  have hb : Dp K J12 (.ref b) (.tuple ks) := .tup (tC _ _ qb2) (dps_keep tC ks _ f12.1 rb2)
  have hk := (k2.keep tC).2
  have s5' := (sl1.trans ((sA.trans sl2).trans sl3))
  have x1 := s5' _ _ (s5 _ _ (s4 _ _ (s3 _ _ (s2 _ _ e1))))
  have x2 := s5' _ _ (s5 _ _ (s4 _ _ (s3 _ _ e2)))
  have x3 := s5' _ _ (s5 _ _ (s4 _ _ e3))
  have x4 := s5' _ _ (s5 _ _ e4)
  have x5 := s5' _ _ e5
  have s9' := sl2.trans sl3
  have x6 := s9' _ _ (s9 _ _ (s8 _ _ (s7 _ _ e6)))
  have x7 := s9' _ _ (s9 _ _ (s8 _ _ e7))
  have x8 := s9' _ _ (s9 _ _ e8)
  have x9 := s9' _ _ e9
  have r : DpAll K J12 ([.ref b, .ref p1, .ref p2, .ref p3, .str "num", .int 3, .non, .bl true, .ref p4, .ref p5] ++ [.ref p6, .ref p7, .ref p9, .ref a]) (someDs ks k ++ moreDs ks k) :=
    .cons hb (.cons (dp_new x1 (.cons hb .nil)) (.cons (dp_new x2 (.cons hk (.cons hb .nil))) (.cons (dp_new x3 (.cons hb (.cons hk (.cons hk .nil)))) (.cons (.str _) (.cons (.int _) (.cons .non (.cons (.bl _) (.cons (dp_new x4 .nil) (.cons (dp_new x5 (.cons (.str _) (.cons (.str _) .nil)))
      (.cons (dp_new x6 (.cons (.str _) (.cons hk .nil))) (.cons (dp_new x7 (.cons .non (.cons hk .nil))) (.cons (dp_new x9 (.cons (dp_new x8 (.cons hb .nil)) (.cons hk .nil))) (.cons (hu2.keep tC).2 .nil)))))))))))))
  refine ⟨_, rfl, _, rfl, f, 14, rfl, g12.fl, by decide, by decide, fun j J13 j0 j1 dr13 => ?_⟩
  have nlf : l3 ≠ f := fun z => by
    obtain ⟨xs, e⟩ := (Gr.same fl2 ((sB.trans sl1).trans (sA.trans sl2))).fl.lst
    rw [z, e] at hl3
    cases hl3
  have e13 := (dr13.off l3 nlf).trans el3
  have r13 := dps_keep (dr13.tp g12.fl) _ _ (some_flat f12.1 f12.2) r
  obtain ⟨v, d, hv, hd, hm⟩ := pick r13 (some_flat f12.1 f12.2) j0 (by show j < 14; exact j1)
  exact ⟨l3, _, j, v, rfl, rfl, SqL.of e13, hv, q v d _ (g2.trans (g12.trans dr13.gr)) hd (some_sz d hm)⟩
end
end Lm

set_option Elab.async false
set_option linter.all false
set_option maxRecDepth 100000
set_option maxHeartbeats 2000000
namespace Lm
open PySem PySem.Spec PyProof.Rows L2 LmR
section
variable {P : Program} {w : World} {K : PySem.W.Frag} {mg : Str → Option Value} {base : Heap}
abbrev s_law : Stmt := topS 28
theorem sc_law : FnScope ["_law_script", "_law_some", "_law_k", "_law_flow_here", "_law_head_here", "_law_other"] ["_law_script"] (defScope s_law) := ⟨rfl, rfl, rfl, by decide +kernel, rfl, by decide +kernel, by decide +kernel⟩
def spLaw (K : PySem.W.Frag) : Sp := fun vs H Q _ => ∃ (a : Addr) (ns : List Int), vs = [.ref a] ∧ SqL K H a (ns.map V.int) ∧ ns.length ≤ 63 ∧ ∀ H', Q (.bl true) H'
/-- small data -/
def Sd (K : PySem.W.Frag) (H : Hp) (v : V) : Prop := ∃ d, Fd K H v d ∧ dsz d ≤ 1000
theorem Sd.keep {H H' : Hp} {v : V} (h : Sd K H v) (t : Tp K H H') : Sd K H' v := by
  obtain ⟨d, a, b⟩ := h
  exact ⟨d, a.keep t, b⟩
theorem told_sz (d : PyData) : dsz (toldD d) ≤ 90000 := by
  unfold toldD
  cases lookD d with
  | none => decide
  | some x => show 4 ≤ 90000; decide
theorem ok_law (B : Bt mg) (C_l_flow : Cal P w K mg base 2 "_law_flow" ["_law_script", "_law_k"] (spFlow K)) (C_l_head : Cal P w K mg base 2 "_law_head" ["_law_flow_here"] (spHead K)) (C_l_spoilt : Cal P w K mg base 3 "_law_spoilt" ["_law_flow_here", "_law_head_here"] (spSpoilt K)) (C_l_told : Cal P w K mg base 4 "_law_told" ["_law_head_here"] (spTold K)) (C_l_due : Cal P w K mg base 3 "_law_due" ["_law_head_here"] (spTold K)) (C_l_alike : Cal P w K mg base 1 "_law_alike" ["_law_found", "_law_due_here"] (spAlike K)) {f : Addr} {fd : FuncData} (F : Fun K "law" "law" s_law f fd) : FnOk P w K mg base CX0 10 f fd ["_law_script"] (spLaw K) := by
  refine F.ok sc_law (fun vs H Q E h => ?_) (fun cdv A outer s H vs Q E hr h => ?_)
  · obtain ⟨a, ns, rfl, _⟩ := h
    rfl
  obtain ⟨a, ns, rfl, hS, h63, q⟩ := h
  have C_l_flow := C_l_flow.mono (k := 9) (by decide)
  have C_l_head := C_l_head.mono (k := 9) (by decide)
  have C_l_spoilt := C_l_spoilt.mono (k := 9) (by decide)
  have C_l_told := C_l_told.mono (k := 9) (by decide)
  have C_l_due := C_l_due.mono (k := 9) (by decide)
  have C_l_alike := C_l_alike.mono (k := 9) (by decide)
  have hr' : Room 9 _ := hr
  refine ⟨_, (pss_cons (ps_set (i := 1) sc_law.nd rfl (.inl rfl) (pe_lst pa_nil))
      (pss_cons (ps_for PassesOwn.never rfl (pi_range1 (by rfl) B.range (pa_cons (pe_callB (call_max2 rfl) (by rfl) B.max PyProof.Rows.boot_max (pa_cons pe_int (pa_cons (pe_callB call_len_seq (by rfl) B.len PySem.boot_len (pa_cons (pe_slice sl_list (pv 0) po_none (po_some pe_int)) pa_nil)) pa_nil))) pa_nil)) (pg_name (i := 2) sc_law.nd rfl (.inl rfl))
        (pss_cons (ps_set (i := 3) sc_law.nd rfl (.inl rfl) (pe_cal C_l_flow hr' (by rfl) (pa_cons (pv 0) (pa_cons (pv 2) pa_nil))))
      (pss_cons (ps_set (i := 4) sc_law.nd rfl (.inl rfl) (pe_cal C_l_head hr' (by rfl) (pa_cons (pv 3) pa_nil)))
      (pss_cons (ps_set (i := 5) sc_law.nd rfl (.inl rfl) (pe_cal C_l_spoilt hr' (by rfl) (pa_cons (pv 3) (pa_cons (pv 4) pa_nil))))
      (pss_cons (ps_expr (pe_bm PySem.F.plainAttrs_list PySem.F.slot_list_extend PySem.F.type_list_extend mt_extend (pv 1) (pa_cons (pe_lst (pa_cons (pv 4) (pa_cons (pv 5) pa_nil))) pa_nil)))
      (pss_one (ps_if (PW.pt (pw_and (pt_val (pe_callB call_isi (by rfl) B.isinstance (by decide +kernel) (pa_cons (pv 5) (pa_cons (pe_bltn (v := .ty "tuple") (by rfl) B.tuple PyProof.Rows.boot_tuple rfl) pa_nil)))) (pw_and (pt_cmpR op_eq (pe_callB call_len_seq (by rfl) B.len PySem.boot_len (pa_cons (pv 5) pa_nil)) pe_int (nomark _)) (pw_and1 (pt_val (pe_callB call_isi (by rfl) B.isinstance (by decide +kernel) (pa_cons (pe_ix ix_tup (pv 5) pe_int (fun _ _ => rfl)) (pa_cons (pe_bltn (v := .ty "tuple") (by rfl) B.tuple PyProof.Rows.boot_tuple rfl) pa_nil))))))))
        (pss_one (ps_expr (pe_bm PySem.F.plainAttrs_list PySem.F.slot_list_append PySem.F.type_list_append mt_append (pv 1) (pa_cons (pe_cal C_l_spoilt hr' (by rfl) (pa_cons (pv 3) (pa_cons (pv 5) pa_nil))) pa_nil))))
        pss_nil)))))))
      (pss_one (ps_ret (pe_callB (cr_all rfl) (by rfl) B.all PyProof.Rows.boot_all (pa_cons (pe_lc (own := [("_law_head_here", 4)]) (g := gName 4) rfl sc_law.nd (pi_list (pe_op op_cat (pv 1) (pe_slice sl_list (pv 1) po_none (po_some pe_int)))) (blkOk_by (own := [("_law_head_here", 4)]) (N := ["_law_script", "_law_some", "_law_k", "_law_flow_here", "_law_head_here", "_law_other"]) (sc := defScope s_law) (by decide +kernel)) (fun _ _ _ _ _ => (pg_name (i := 4) sc_law.nd rfl (.inl rfl))) (fun _ _ _ _ _ => pts_nil) (fun _ _ _ _ _ => (pe_cal C_l_alike hr' (by rfl) (pa_cons (pe_cal C_l_told hr' (by rfl) (pa_cons (pv 4) pa_nil)) (pa_cons (pe_cal C_l_due hr' (by rfl) (pa_cons (pv 4) pa_nil)) pa_nil))))) pa_nil)))))), ?_⟩
  refine ⟨(by show 0 ≤ sizeLine; decide), fun D hD => ?_⟩
  have sD : Same H (upd H D (.lst [])) := same_new hD
  have eD : upd H D (.lst []) D = some (.lst []) := upd_same
  generalize upd H D (.lst []) = H0 at sD eD
  refine ⟨_, rfl, 8, rfl, a, _, rfl, sD.seq hS, fun p0 hp0 => ?_⟩
  have sA : Same H0 (upd H0 p0 (.lst (cutV (ns.map V.int) none (some 8)))) := same_new hp0
  have lc : (cutV (ns.map V.int) none (some 8)).length ≤ 63 := by
    unfold cutV
    rw [List.length_take, List.length_drop, List.length_map]
    omega
  have eA : upd H0 p0 (.lst (cutV (ns.map V.int) none (some 8))) p0 = some (.lst (cutV (ns.map V.int) none (some 8))) := upd_same
  generalize cutV (ns.map V.int) none (some 8) = cs at lc sA eA
  refine ⟨p0, cs, rfl, .inl (SqL.of eA), 2, _, rfl, ?_⟩
  obtain ⟨m, em, m0, m63⟩ : ∃ m : Int, (if ((cs.length : Nat) : Int) > 2 then ((cs.length : Nat) : Int) else 2) = m ∧ 0 ≤ m ∧ m ≤ 63 := by
    refine ⟨_, rfl, ?_, ?_⟩
    · split <;> omega
    · split <;> omega
  show ∃ n : Int, [V.int (if ((cs.length : Nat) : Int) > 2 then ((cs.length : Nat) : Int) else 2)] = [V.int n] ∧ _
  rw [em]
  generalize upd H0 p0 (.lst cs) = H1 at sA
  have s01 := sD.trans sA
  refine ⟨m, rfl, by omega, by omega, for_range (lo := 0) (n := m.toNat) (fun i σ' H' => (∃ y2 y3 y4 y5 : Option V, σ' = [some (.ref a), some (.ref D), y2, y3, y4, y5]) ∧ Same H H' ∧ ∃ vs : List V, vs.length ≤ 3 * i ∧ H' D = some (.lst vs) ∧ ∀ v ∈ vs, Sd K H' v) ⟨⟨_, _, _, _, rfl⟩, s01, [], Nat.le_refl _, sA _ _ eD, fun v hv => absurd hv (by simp)⟩ ?_ ?_⟩
  · rintro i σ' H' hi ⟨⟨y2, y3, y4, y5, rfl⟩, sm, vs, hvl, hD', hP⟩
    have hi63 : i < 63 := by omega
    refine ⟨_, rfl, _, rfl, a, ns, _, rfl, sm.seq hS, by omega, by omega, fun fw o hf fl1 => ?_⟩
    have so : Same H' (upd H' fw o) := same_new hf
    generalize upd H' fw o = J1 at so fl1
    refine ⟨_, rfl, fw, rfl, fl1, fun u ks k J2 g2 hu szu => ?_⟩
    refine ⟨_, rfl, _, rfl, fw, u, ks, k, rfl, g2.fl, hu, by omega, fun u' d' J3 g3 hu' sz' => ?_⟩
    have ex3 : Same H' J3 := fun b o z => (g2.trans g3).ex b o (so _ _ z) (by simp [ne_of_none z hf])
    have hu3 := hu.keep (g3.tp g2.fl)
    have hD3 := ex3 _ _ hD'
    have fl3 := g3.fl
    have nDf : D ≠ fw := ne_of_none hD' hf
    refine ⟨_, rfl, .inl ⟨rfl, _, SqL.of hD3⟩, _, rfl, _, rfl, (by show 2 ≤ sizeLine; decide), fun l hl => ?_⟩
    have s4 := same_new (o := .lst [u, u']) hl
    have e4 : upd J3 l (.lst [u, u']) l = some (.lst [u, u']) := upd_same
    have f4 := (Gr.same fl3 s4).fl
    generalize upd J3 l (.lst [u, u']) = J4 at s4 e4 f4
    have hD4 := s4 _ _ hD3
    refine ⟨D, l, vs, [u, u'], rfl, rfl, hD4, e4, (by show vs.length + 2 ≤ sizeLine; exact small (by omega)), ?_⟩
    have t5 : Tp K J4 (upd J4 D (.lst (vs ++ [u, u']))) := Tp.lst hD4
    have e5 : upd J4 D (.lst (vs ++ [u, u'])) D = some (.lst (vs ++ [u, u'])) := upd_same
    have ex5 : Same H (upd J4 D (.lst (vs ++ [u, u']))) := fun b o z => by
      rw [upd_ne (ne_of_none z hD)]
      exact s4 _ _ (ex3 _ _ (sm _ _ z))
    have f5 : Flow (upd J4 D (.lst (vs ++ [u, u']))) fw := by
      obtain ⟨x, y, z, e, r⟩ := f4
      exact ⟨x, y, z, by rw [upd_ne nDf.symm]; exact e, r⟩
    generalize upd J4 D (.lst (vs ++ [u, u'])) = J5 at t5 e5 ex5 f5
    have t45 : Tp K J3 J5 := (Tp.same s4).trans t5
    have hP5 : ∀ v ∈ vs ++ [u, u'], Sd K J5 v := fun v hv => by
      rcases List.mem_append.mp hv with z | z
      · exact (hP v z).keep ((Tp.same ex3).trans t45)
      · have z' : v = u ∨ v = u' := by simpa using z
        rcases z' with e | e
        · rw [e]; exact ⟨_, hu3.keep t45, by omega⟩
        · rw [e]; exact ⟨_, hu'.keep t45, by omega⟩
    have done : ∀ H6, Same H H6 → H6 D = some (.lst (vs ++ [u, u'])) → (∀ v ∈ vs ++ [u, u'], Sd K H6 v) → ∀ z2 z3 z4 z5 : Option V, (∃ y2 y3 y4 y5 : Option V, [some (.ref a), some (.ref D), z2, z3, z4, z5] = [some (V.ref a), some (.ref D), y2, y3, y4, y5]) ∧ Same H H6 ∧ ∃ vs : List V, vs.length ≤ 3 * (i + 1) ∧ H6 D = some (.lst vs) ∧ ∀ v ∈ vs, Sd K H6 v :=
      fun H6 x1 x2 x3 z2 z3 z4 z5 => ⟨⟨_, _, _, _, rfl⟩, x1, _, by rw [List.length_append]; show vs.length + 2 ≤ _; omega, x2, x3⟩
    have hu5 := hu'.keep t45
    refine ⟨_, rfl, u', _, _, _, _, rfl, .ty _, hu5.ty, kit_tup d' hu'.1, _, rfl, ite2 (fun c1 => ?_) (fun c1 => iteF (done J5 ex5 e5 hP5 _ _ _ _))⟩
    obtain ⟨ds, rfl⟩ : ∃ ds, d' = .tuple ds := by cases d' <;> first | exact ⟨_, rfl⟩ | (simp [isTup] at c1; done)
    obtain ⟨b, xs, rfl, qa, r⟩ : ∃ b xs, u' = .ref b ∧ SqT K J5 b xs ∧ DpAll K J5 xs ds := by
      cases hu5.2 with
      | tup q4 r4 => exact ⟨_, _, rfl, q4, r4⟩
    have hl5 := dpall_len r
    refine ⟨_, rfl, b, xs, rfl, .inr qa, rfl, _, rfl, ite2 (fun c2 => ?_) (fun c2 => iteF (done J5 ex5 e5 hP5 _ _ _ _))⟩
    obtain ⟨k1, k2, rfl⟩ : ∃ k1 k2, ds = [k1, k2] := by
      have n2 : ds.length = 2 := by
        have z : ((xs.length : Nat) : Int) = 2 := by simpa using c2
        omega
      match ds, n2 with
      | [k, l], _ => exact ⟨_, _, rfl⟩
    obtain ⟨v1, v2, rfl, r1, r2⟩ : ∃ v1 v2, xs = [v1, v2] ∧ Dp K J5 v1 k1 ∧ Dp K J5 v2 k2 := by
      cases r with
      | cons r1 r => cases r with
        | cons r2 r => cases r; exact ⟨_, _, rfl, r1, r2⟩
    have f12 : flat k1 = true ∧ flat k2 = true := by
      simpa [flat, flat.flats] using hu'.1
    have h1 : Fd K J5 v1 k1 := ⟨f12.1, r1⟩
    refine ⟨_, rfl, b, _, 0, _, rfl, rfl, qa, rfl, _, _, _, _, _, rfl, .ty _, h1.ty, kit_tup k1 f12.1, _, rfl, ite2 (fun c3 => ?_) (fun c3 => done J5 ex5 e5 hP5 _ _ _ _)⟩
    obtain ⟨ks1, rfl⟩ : ∃ ds, k1 = .tuple ds := by cases k1 <;> first | exact ⟨_, rfl⟩ | (simp [isTup] at c3; done)
    refine ⟨_, rfl, .inl ⟨rfl, _, SqL.of e5⟩, _, rfl, _, rfl, fw, .ref b, ks1, k2, rfl, f5, hu5, by omega, fun u6 d6 J6 g6 hu6 sz6 => ?_⟩
    have e6 : J6 D = some (.lst (vs ++ [u, .ref b])) := g6.ex D _ e5 (by simp [nDf])
    refine ⟨D, _, u6, rfl, rfl, e6, (by rw [List.length_append]; show vs.length + 2 < sizeLine; exact smallL (by omega)), ?_⟩
    have t7 : Tp K J6 (upd J6 D (.lst ((vs ++ [u, .ref b]) ++ [u6]))) := Tp.lst e6
    refine ⟨⟨_, _, _, _, rfl⟩, fun b' o z => ?_, _, ?_, upd_same, fun v hv => ?_⟩
    · rw [upd_ne (ne_of_none z hD)]
      refine g6.ex b' o (ex5 _ _ z) ?_
      have nf : b' ≠ fw := ne_of_none (sm _ _ z) hf
      simp [nf]
    · rw [List.length_append, List.length_append]
      show vs.length + 2 + 1 ≤ _
      omega
    · rcases List.mem_append.mp hv with z | z
      · exact (hP5 v z).keep ((g6.tp f5).trans t7)
      · rw [List.mem_singleton.mp z]
        exact ⟨d6, hu6.keep t7, by omega⟩
  · rintro σ' H2 ⟨⟨y2, y3, y4, y5, rfl⟩, sm, vs, hvl, hD2, hP⟩
    have vl : vs.length ≤ 189 := by omega
    refine ⟨_, rfl, _, rfl, 2, rfl, D, _, rfl, SqL.of hD2, fun p1 hp1 => ?_⟩
    have s3 : Same H2 (upd H2 p1 (.lst (cutV vs none (some 2)))) := same_new hp1
    have lc2 := cutV_length vs none (some 2)
    have mem2 : ∀ x ∈ cutV vs none (some 2), x ∈ vs := fun x hx => List.mem_of_mem_drop (List.mem_of_mem_take hx)
    generalize cutV vs none (some 2) = cut at s3 lc2 mem2
    refine ⟨D, p1, _, _, rfl, rfl, s3 _ _ hD2, upd_same, small (by omega), fun p2 hp2 => ?_⟩
    have s4 : Same (upd H2 p1 (.lst cut)) (upd (upd H2 p1 (.lst cut)) p2 (.lst (vs ++ cut))) := same_new hp2
    have h4 : (upd (upd H2 p1 (.lst cut)) p2 (.lst (vs ++ cut))) p2 = some (.lst (vs ++ cut)) := upd_same
    have all4 : ∀ x ∈ vs ++ cut, Sd K (upd (upd H2 p1 (.lst cut)) p2 (.lst (vs ++ cut))) x := fun x hx => by
      have z : x ∈ vs := by
        rcases List.mem_append.mp hx with z | z
        · exact z
        · exact mem2 x z
      exact (hP x z).keep (Tp.same (s3.trans s4))
    have len4 : (vs ++ cut).length ≤ 400 := by rw [List.length_append]; omega
    generalize upd (upd H2 p1 (.lst cut)) p2 (.lst (vs ++ cut)) = H4 at h4 all4
    generalize vs ++ cut = xs at h4 all4 len4
    refine ⟨p2, rfl, ⟨_, SqL.of h4⟩, fun D2 hD2' => lc_list (K := K) (a := p2) (xs := xs) (fun i H' => Same H4 H' ∧ ∃ bs : List Bool, bs.length = i ∧ bs.all id = true ∧ H' D2 = some (.lst (bs.map V.bl))) ?_ ?_ ?_ ?_⟩
    · exact ⟨same_new hD2', [], rfl, rfl, upd_same⟩
    · rintro i H' _ ⟨sm', _⟩
      exact SqL.of (sm' _ _ h4)
    · rintro i x H' hx ⟨sm', bs, hbl, hba, hD3⟩
      obtain ⟨d, hd, hdz⟩ := (all4 x (List.mem_of_getElem? hx)).keep (Tp.same sm')
      have hi : i < xs.length := (List.getElem?_eq_some_iff.mp hx).1
      refine ⟨rfl, ?_⟩
      refine ⟨_, rfl, x, d, rfl, hd, hdz, fun u1 H5 s5 h5 => ⟨_, rfl, x, d, rfl, hd.keep (Tp.same s5), hdz, fun u2 H6 s6 h6 => ?_⟩⟩
      refine ⟨u1, u2, toldD d, rfl, h5.keep (Tp.same s6), h6, told_sz d, fun H7 s7 => ?_⟩
      have sx := s5.trans (s6.trans s7)
      refine ⟨_, sx _ _ hD3, by rw [List.length_map]; exact smallL (by omega), fun b o z => ?_, bs ++ [true], by rw [List.length_append, hbl]; rfl, by rw [List.all_append, hba]; rfl, by rw [upd_same, List.map_append]; rfl⟩
      rw [upd_ne (ne_of_none z hD2')]
      exact sx _ _ (sm' _ _ z)
    · rintro H' ⟨sm', bs, hbl, hba, hD3⟩
      refine ⟨D2, bs, rfl, SqL.of hD3, ?_⟩
      rw [hba]
      exact q _
end
end Lm

set_option Elab.async false
set_option linter.all false
set_option maxRecDepth 100000
set_option maxHeartbeats 2000000
namespace Lm
open PySem PySem.Spec PyProof.Rows L2 LmR
theorem defAt_mk {K : PySem.W.Frag} {h : Heap} {mg : Str → Option Value} {x : Str} {st : Stmt} {ps : List Str} {f : Addr} {oc : Value} {od an : Option Addr} {osl : Array (Option Value)} {kV doc pm cdv ct : Value} (X : K.In h) (G : h.Ns mainGlobals mg)
    (a : PySem.W.nsIn K mainGlobals x = some (some (.ref f))) (l : K.lookup f = some ⟨oc, od, .func (PySem.W.fnOf x x (defArgs st) (defBody st) (defScope st) .none kV doc pm an cdv ct), osl⟩) (c : PySem.W.codeIn K cdv x = true) (k : PySem.W.keepIn K (.ref f) = true)
    (hb : ∀ (kV doc pm : Value) (an : Option Addr) (cdv ct : Value) (us : List Value), us.length = ps.length → bindArgs (PySem.W.fnOf x x (defArgs st) (defBody st) (defScope st) .none kV doc pm an cdv ct) ⟨us, []⟩ = pure (ps.zip us)) : DefAt K mg x st ps :=
  ⟨f, _, fun_mk l c k, (fun_mk l c k).binds hb, PySem.W.mg_of X G a⟩
theorem all_mk {l : PySem.W.OpenLaw} {w : World} {K : PySem.W.Frag} {h : Heap} {mg : Str → Option Value} {fa : Addr} (X : K.In h) (G : h.Ns mainGlobals mg) (hfa : mg "law" = some (.ref fa))
    {f0 : Addr} {od0 an0 : Option Addr} {sl0 : Array (Option Value)} {oc0 kV0 dc0 pm0 cd0 ct0 : Value} {f1 : Addr} {od1 an1 : Option Addr} {sl1 : Array (Option Value)} {oc1 kV1 dc1 pm1 cd1 ct1 : Value} {f2 : Addr} {od2 an2 : Option Addr} {sl2 : Array (Option Value)} {oc2 kV2 dc2 pm2 cd2 ct2 : Value} {f3 : Addr} {od3 an3 : Option Addr} {sl3 : Array (Option Value)} {oc3 kV3 dc3 pm3 cd3 ct3 : Value} {f4 : Addr} {od4 an4 : Option Addr} {sl4 : Array (Option Value)} {oc4 kV4 dc4 pm4 cd4 ct4 : Value} {f5 : Addr} {od5 an5 : Option Addr} {sl5 : Array (Option Value)} {oc5 kV5 dc5 pm5 cd5 ct5 : Value} {f6 : Addr} {od6 an6 : Option Addr} {sl6 : Array (Option Value)} {oc6 kV6 dc6 pm6 cd6 ct6 : Value} {f7 : Addr} {od7 an7 : Option Addr} {sl7 : Array (Option Value)} {oc7 kV7 dc7 pm7 cd7 ct7 : Value} {f8 : Addr} {od8 an8 : Option Addr} {sl8 : Array (Option Value)} {oc8 kV8 dc8 pm8 cd8 ct8 : Value} {f9 : Addr} {od9 an9 : Option Addr} {sl9 : Array (Option Value)} {oc9 kV9 dc9 pm9 cd9 ct9 : Value} {f10 : Addr} {od10 an10 : Option Addr} {sl10 : Array (Option Value)} {oc10 kV10 dc10 pm10 cd10 ct10 : Value} {f11 : Addr} {od11 an11 : Option Addr} {sl11 : Array (Option Value)} {oc11 kV11 dc11 pm11 cd11 ct11 : Value} {c_NoHead i_NoHead u_NoHead N_NoHead : Addr} {nm_NoHead qn_NoHead : Str} {bs_NoHead sub_NoHead : List Value} {sn_NoHead : List Str} {ab_NoHead : Bool} {col_NoHead : Option Bool} {dd_NoHead od_NoHead an_NoHead : Option Addr} {m0_NoHead m1_NoHead m2_NoHead m3_NoHead m5_NoHead : Option Value} {osl_NoHead : Array (Option Value)} {oc_NoHead kV_NoHead doc_NoHead pm_NoHead cdv_NoHead ct_NoHead : Value} {w0 w1 w2 w3 w4 w5 w6 w7 w8 w9 w10 w11 : Addr} {aK : Addr} {dK : Option Addr} {nK : Nat} {slK : Array (Option Value)} {tK1 tK2 : Tok}
    (a0 : PySem.W.nsIn K mainGlobals "look_head" = some (some (.ref f0))) (l0 : K.lookup f0 = some ⟨oc0, od0, .func (PySem.W.fnOf "look_head" "look_head" (defArgs s_look_head) (defBody s_look_head) (defScope s_look_head) .none kV0 dc0 pm0 an0 cd0 ct0), sl0⟩) (c0 : PySem.W.codeIn K cd0 "look_head" = true) (k0 : PySem.W.keepIn K (.ref f0) = true)
    (a1 : PySem.W.nsIn K mainGlobals "_law_cell" = some (some (.ref f1))) (l1 : K.lookup f1 = some ⟨oc1, od1, .func (PySem.W.fnOf "_law_cell" "_law_cell" (defArgs s_l_cell) (defBody s_l_cell) (defScope s_l_cell) .none kV1 dc1 pm1 an1 cd1 ct1), sl1⟩) (c1 : PySem.W.codeIn K cd1 "_law_cell" = true) (k1 : PySem.W.keepIn K (.ref f1) = true)
    (a2 : PySem.W.nsIn K mainGlobals "_law_flow" = some (some (.ref f2))) (l2 : K.lookup f2 = some ⟨oc2, od2, .func (PySem.W.fnOf "_law_flow" "_law_flow" (defArgs s_l_flow) (defBody s_l_flow) (defScope s_l_flow) .none kV2 dc2 pm2 an2 cd2 ct2), sl2⟩) (c2 : PySem.W.codeIn K cd2 "_law_flow" = true) (k2 : PySem.W.keepIn K (.ref f2) = true)
    (a3 : PySem.W.nsIn K mainGlobals "_law_draw" = some (some (.ref f3))) (l3 : K.lookup f3 = some ⟨oc3, od3, .func (PySem.W.fnOf "_law_draw" "_law_draw" (defArgs s_l_draw) (defBody s_l_draw) (defScope s_l_draw) .none kV3 dc3 pm3 an3 cd3 ct3), sl3⟩) (c3 : PySem.W.codeIn K cd3 "_law_draw" = true) (k3 : PySem.W.keepIn K (.ref f3) = true)
    (a4 : PySem.W.nsIn K mainGlobals "_law_alike" = some (some (.ref f4))) (l4 : K.lookup f4 = some ⟨oc4, od4, .func (PySem.W.fnOf "_law_alike" "_law_alike" (defArgs s_l_alike) (defBody s_l_alike) (defScope s_l_alike) .none kV4 dc4 pm4 an4 cd4 ct4), sl4⟩) (c4 : PySem.W.codeIn K cd4 "_law_alike" = true) (k4 : PySem.W.keepIn K (.ref f4) = true)
    (a5 : PySem.W.nsIn K mainGlobals "_law_sorts" = some (some (.ref f5))) (l5 : K.lookup f5 = some ⟨oc5, od5, .func (PySem.W.fnOf "_law_sorts" "_law_sorts" (defArgs s_l_sorts) (defBody s_l_sorts) (defScope s_l_sorts) .none kV5 dc5 pm5 an5 cd5 ct5), sl5⟩) (c5 : PySem.W.codeIn K cd5 "_law_sorts" = true) (k5 : PySem.W.keepIn K (.ref f5) = true)
    (a6 : PySem.W.nsIn K mainGlobals "_law_head" = some (some (.ref f6))) (l6 : K.lookup f6 = some ⟨oc6, od6, .func (PySem.W.fnOf "_law_head" "_law_head" (defArgs s_l_head) (defBody s_l_head) (defScope s_l_head) .none kV6 dc6 pm6 an6 cd6 ct6), sl6⟩) (c6 : PySem.W.codeIn K cd6 "_law_head" = true) (k6 : PySem.W.keepIn K (.ref f6) = true)
    (a7 : PySem.W.nsIn K mainGlobals "_law_bad" = some (some (.ref f7))) (l7 : K.lookup f7 = some ⟨oc7, od7, .func (PySem.W.fnOf "_law_bad" "_law_bad" (defArgs s_l_bad) (defBody s_l_bad) (defScope s_l_bad) .none kV7 dc7 pm7 an7 cd7 ct7), sl7⟩) (c7 : PySem.W.codeIn K cd7 "_law_bad" = true) (k7 : PySem.W.keepIn K (.ref f7) = true)
    (a8 : PySem.W.nsIn K mainGlobals "_law_spoilt" = some (some (.ref f8))) (l8 : K.lookup f8 = some ⟨oc8, od8, .func (PySem.W.fnOf "_law_spoilt" "_law_spoilt" (defArgs s_l_spoilt) (defBody s_l_spoilt) (defScope s_l_spoilt) .none kV8 dc8 pm8 an8 cd8 ct8), sl8⟩) (c8 : PySem.W.codeIn K cd8 "_law_spoilt" = true) (k8 : PySem.W.keepIn K (.ref f8) = true)
    (a9 : PySem.W.nsIn K mainGlobals "_law_due" = some (some (.ref f9))) (l9 : K.lookup f9 = some ⟨oc9, od9, .func (PySem.W.fnOf "_law_due" "_law_due" (defArgs s_l_due) (defBody s_l_due) (defScope s_l_due) .none kV9 dc9 pm9 an9 cd9 ct9), sl9⟩) (c9 : PySem.W.codeIn K cd9 "_law_due" = true) (k9 : PySem.W.keepIn K (.ref f9) = true)
    (a10 : PySem.W.nsIn K mainGlobals "_law_told" = some (some (.ref f10))) (l10 : K.lookup f10 = some ⟨oc10, od10, .func (PySem.W.fnOf "_law_told" "_law_told" (defArgs s_l_told) (defBody s_l_told) (defScope s_l_told) .none kV10 dc10 pm10 an10 cd10 ct10), sl10⟩) (c10 : PySem.W.codeIn K cd10 "_law_told" = true) (k10 : PySem.W.keepIn K (.ref f10) = true)
    (a11 : PySem.W.nsIn K mainGlobals "law" = some (some (.ref f11))) (l11 : K.lookup f11 = some ⟨oc11, od11, .func (PySem.W.fnOf "law" "law" (defArgs s_law) (defBody s_law) (defScope s_law) .none kV11 dc11 pm11 an11 cd11 ct11), sl11⟩) (c11 : PySem.W.codeIn K cd11 "law" = true) (k11 : PySem.W.keepIn K (.ref f11) = true)
    (z0 : PySem.W.nsIn K mainGlobals "len" = some none)
    (z1 : PySem.W.nsIn K mainGlobals "isinstance" = some none)
    (z2 : PySem.W.nsIn K mainGlobals "tuple" = some none)
    (z3 : PySem.W.nsIn K mainGlobals "list" = some none)
    (z4 : PySem.W.nsIn K mainGlobals "str" = some none)
    (z5 : PySem.W.nsIn K mainGlobals "int" = some none)
    (z6 : PySem.W.nsIn K mainGlobals "bool" = some none)
    (z7 : PySem.W.nsIn K mainGlobals "range" = some none)
    (z8 : PySem.W.nsIn K mainGlobals "zip" = some none)
    (z9 : PySem.W.nsIn K mainGlobals "enumerate" = some none)
    (z10 : PySem.W.nsIn K mainGlobals "reversed" = some none)
    (z11 : PySem.W.nsIn K mainGlobals "max" = some none)
    (z12 : PySem.W.nsIn K mainGlobals "all" = some none)
    (a_NoHead : PySem.W.nsIn K mainGlobals "NoHead" = some (some (.ref c_NoHead)))
    (x_NoHead : K.lookup c_NoHead = some (excClassObj nm_NoHead qn_NoHead c_NoHead N_NoHead bs_NoHead [.ref u_NoHead, .type "ValueError", .type "Exception", .type "BaseException", .type "object"] true sn_NoHead sub_NoHead ab_NoHead col_NoHead dd_NoHead m0_NoHead m1_NoHead m2_NoHead m3_NoHead m5_NoHead "ValueError.__new__"))
    (sa_NoHead : PySem.W.findIn K (.ref c_NoHead) "__setattr__" = some (some (.builtin "object.__setattr__")))
    (ga_NoHead : PySem.W.findIn K (.ref c_NoHead) "__getattribute__" = some (some (.builtin "BaseException.__getattribute__")))
    (gg_NoHead : PySem.W.findIn K (.ref c_NoHead) "__getattr__" = some none)
    (i_NoHead' : PySem.W.findIn K (.ref c_NoHead) "__init__" = some (some (.ref i_NoHead)))
    (ca_NoHead : PySem.W.findIn K (.ref c_NoHead) "__class__" = some (some (.builtin "object.__class__")))
    (t_NoHead : PySem.W.typeIn K (.ref i_NoHead) = some (.type "function"))
    (l_NoHead : K.lookup i_NoHead = some ⟨oc_NoHead, od_NoHead, .func (PySem.W.fnOf "__init__" "NoHead.__init__" (defArgs s_NoHead) (defBody s_NoHead) (defScope s_NoHead) .none kV_NoHead doc_NoHead pm_NoHead an_NoHead cdv_NoHead ct_NoHead), osl_NoHead⟩)
    (c_NoHead' : PySem.W.codeIn K cdv_NoHead "NoHead.__init__" = true)
    (kf_NoHead : PySem.W.keepIn K (.ref i_NoHead) = true)
    (kc_NoHead : PySem.W.keepIn K (.ref c_NoHead) = true)
    (ex_NoHead : PySem.W.subIn K (.ref c_NoHead) (.type "BaseException") = some true)
    (ty_NoHead : PySem.W.typeIn K (.ref c_NoHead) = some (.type "type"))
    (hd_NoHead : PySem.W.hasDictIn K c_NoHead = true)
    (is_NoHead : PySem.W.isClsIn K c_NoHead = true)
    (te_NoHead : PySem.W.exmOne K (.ref c_NoHead) (.ref c_NoHead) = some true)
    (ob_NoHead : PySem.W.mroIn K c_NoHead (.type "object") = some true)
    (gn_NoHead : PySem.W.specialIn K (.builtin "object.__class__") "__get__" = some (some (.builtin "getset_descriptor.__get__")))
    (tk_NoHead : PySem.W.takesIn K (.builtin "object.__class__") = some true)
    (f0_NoHead : PySem.W.findIn K (.ref c_NoHead) "word" = some none)
    (f1_NoHead : PySem.W.findIn K (.ref c_NoHead) "at" = some none)
    (y0 : PySem.W.nsIn K mainGlobals "NoHead" = some (some (.ref w0))) (v0 : PySem.W.kitOne K (.ref c_NoHead) (.ref w0) = some true)
    (y1 : PySem.W.nsIn K mainGlobals "NoProgram" = some (some (.ref w1))) (v1 : PySem.W.kitOne K (.ref c_NoHead) (.ref w1) = some false)
    (y2 : PySem.W.nsIn K mainGlobals "NoText" = some (some (.ref w2))) (v2 : PySem.W.kitOne K (.ref c_NoHead) (.ref w2) = some false)
    (y3 : PySem.W.nsIn K mainGlobals "NoStock" = some (some (.ref w3))) (v3 : PySem.W.kitOne K (.ref c_NoHead) (.ref w3) = some false)
    (y4 : PySem.W.nsIn K mainGlobals "NoAnswer" = some (some (.ref w4))) (v4 : PySem.W.kitOne K (.ref c_NoHead) (.ref w4) = some false)
    (y5 : PySem.W.nsIn K mainGlobals "NoInputs" = some (some (.ref w5))) (v5 : PySem.W.kitOne K (.ref c_NoHead) (.ref w5) = some false)
    (y6 : PySem.W.nsIn K mainGlobals "Clash" = some (some (.ref w6))) (v6 : PySem.W.kitOne K (.ref c_NoHead) (.ref w6) = some false)
    (y7 : PySem.W.nsIn K mainGlobals "NoRow" = some (some (.ref w7))) (v7 : PySem.W.kitOne K (.ref c_NoHead) (.ref w7) = some false)
    (y8 : PySem.W.nsIn K mainGlobals "NoQuestion" = some (some (.ref w8))) (v8 : PySem.W.kitOne K (.ref c_NoHead) (.ref w8) = some false)
    (y9 : PySem.W.nsIn K mainGlobals "NoDoer" = some (some (.ref w9))) (v9 : PySem.W.kitOne K (.ref c_NoHead) (.ref w9) = some false)
    (y10 : PySem.W.nsIn K mainGlobals "NotKept" = some (some (.ref w10))) (v10 : PySem.W.kitOne K (.ref c_NoHead) (.ref w10) = some false)
    (y11 : PySem.W.nsIn K mainGlobals "NoName" = some (some (.ref w11))) (v11 : PySem.W.kitOne K (.ref c_NoHead) (.ref w11) = some false)
    (aKI : PySem.W.nsIn K mainGlobals "KINDS" = some (some (.ref aK))) (lKI : K.lookup aK = some ⟨.type "tuple", dK, .seq #[.str "num" tK1, .str "truth" tK2] nK, slK⟩)
    : ∃ fd : FuncData, (∀ (s : Shared) (v : Value), BindsTo s fd ⟨[v], []⟩ [("_law_script", v)]) ∧ ∀ base : Heap, K.In base → base.Ns mainGlobals mg → FnOk l.prog w K mg base CX0 10 fa fd ["_law_script"] (spLaw K) := by
  have e := hfa.symm.trans (PySem.W.mg_of X G a11)
  cases e
  have D_look_head : DefAt K mg "look_head" s_look_head ["head"] := defAt_mk X G a0 l0 c0 k0 fun _ _ _ _ _ _ us hl => match us, hl with | [_], _ => rfl
  have D_l_cell : DefAt K mg "_law_cell" s_l_cell ["_law_script", "_law_k"] := defAt_mk X G a1 l1 c1 k1 fun _ _ _ _ _ _ us hl => match us, hl with | [_, _], _ => rfl
  have D_l_flow : DefAt K mg "_law_flow" s_l_flow ["_law_script", "_law_k"] := defAt_mk X G a2 l2 c2 k2 fun _ _ _ _ _ _ us hl => match us, hl with | [_, _], _ => rfl
  have D_l_draw : DefAt K mg "_law_draw" s_l_draw ["_law_flow_here", "_law_many"] := defAt_mk X G a3 l3 c3 k3 fun _ _ _ _ _ _ us hl => match us, hl with | [_, _], _ => rfl
  have D_l_alike : DefAt K mg "_law_alike" s_l_alike ["_law_found", "_law_due_here"] := defAt_mk X G a4 l4 c4 k4 fun _ _ _ _ _ _ us hl => match us, hl with | [_, _], _ => rfl
  have D_l_sorts : DefAt K mg "_law_sorts" s_l_sorts ["_law_e"] := defAt_mk X G a5 l5 c5 k5 fun _ _ _ _ _ _ us hl => match us, hl with | [_], _ => rfl
  have D_l_head : DefAt K mg "_law_head" s_l_head ["_law_flow_here"] := defAt_mk X G a6 l6 c6 k6 fun _ _ _ _ _ _ us hl => match us, hl with | [_], _ => rfl
  have D_l_bad : DefAt K mg "_law_bad" s_l_bad ["_law_flow_here"] := defAt_mk X G a7 l7 c7 k7 fun _ _ _ _ _ _ us hl => match us, hl with | [_], _ => rfl
  have D_l_spoilt : DefAt K mg "_law_spoilt" s_l_spoilt ["_law_flow_here", "_law_head_here"] := defAt_mk X G a8 l8 c8 k8 fun _ _ _ _ _ _ us hl => match us, hl with | [_, _], _ => rfl
  have D_l_due : DefAt K mg "_law_due" s_l_due ["_law_head_here"] := defAt_mk X G a9 l9 c9 k9 fun _ _ _ _ _ _ us hl => match us, hl with | [_], _ => rfl
  have D_l_told : DefAt K mg "_law_told" s_l_told ["_law_head_here"] := defAt_mk X G a10 l10 c10 k10 fun _ _ _ _ _ _ us hl => match us, hl with | [_], _ => rfl
  have D_law : DefAt K mg "law" s_law ["_law_script"] := defAt_mk X G a11 l11 c11 k11 fun _ _ _ _ _ _ us hl => match us, hl with | [_], _ => rfl
  have R_NoHead : Rf K mg "NoHead" "NoHead.__init__" c_NoHead i_NoHead _ s_NoHead ["word", "at"] := { g := PySem.W.mg_of X G a_NoHead, o := ⟨⟨_, _, _, _, _, _, _, _, _, _, _, _, _, _, _, x_NoHead, rfl⟩, sa_NoHead, ex_NoHead, ty_NoHead, kc_NoHead⟩, f := ⟨ga_NoHead, gg_NoHead, ex_NoHead, hd_NoHead⟩, k := ⟨is_NoHead, ga_NoHead, gg_NoHead, ex_NoHead, ca_NoHead, gn_NoHead, tk_NoHead, ob_NoHead⟩, te := te_NoHead, fld := fun n hn => by simp only [List.mem_cons, List.not_mem_nil, or_false] at hn; rcases hn with h | h <;> subst h <;> assumption, iC := i_NoHead', tI := t_NoHead, F := fun_mk l_NoHead c_NoHead' kf_NoHead, b := (fun_mk l_NoHead c_NoHead' kf_NoHead).binds fun _ _ _ _ _ _ us hl => match us, hl with | [_, _, _], _ => rfl }
  have S_sorts : Sorts K mg c_NoHead [true, false, false, false, false, false, false, false, false, false, false, false] := ⟨_, _, _, _, _, _, _, _, _, _, _, _, _, _, _, _, _, _, _, _, _, _, _, _, ⟨PySem.W.mg_of X G y0, PySem.W.mg_of X G y1, PySem.W.mg_of X G y2, PySem.W.mg_of X G y3, PySem.W.mg_of X G y4, PySem.W.mg_of X G y5, PySem.W.mg_of X G y6, PySem.W.mg_of X G y7, PySem.W.mg_of X G y8, PySem.W.mg_of X G y9, PySem.W.mg_of X G y10, PySem.W.mg_of X G y11, v0, v1, v2, v3, v4, v5, v6, v7, v8, v9, v10, v11⟩, rfl⟩
  have KK : Kinds K mg aK := ⟨PySem.W.mg_of X G aKI, fun H => .inr ⟨_, _, _, lKI, rfl, rfl, (by show 2 ≤ sizeLine; decide), .cons ⟨_, rfl⟩ (.cons ⟨_, rfl⟩ .nil)⟩⟩
  have B : Bt mg := ⟨PySem.W.mg_none_of X G z0, PySem.W.mg_none_of X G z1, PySem.W.mg_none_of X G z2, PySem.W.mg_none_of X G z3, PySem.W.mg_none_of X G z4, PySem.W.mg_none_of X G z5, PySem.W.mg_none_of X G z6, PySem.W.mg_none_of X G z7, PySem.W.mg_none_of X G z8, PySem.W.mg_none_of X G z9, PySem.W.mg_none_of X G z10, PySem.W.mg_none_of X G z11, PySem.W.mg_none_of X G z12⟩
  refine ⟨PySem.W.fnOf "law" "law" (defArgs s_law) (defBody s_law) (defScope s_law) .none kV11 dc11 pm11 an11 cd11 ct11, fun s v => .of_eq rfl, fun base _ _ => ?_⟩
  have C_cell := ok_l_cell (P := l.prog) (w := w) (base := base) B D_l_cell
  have C_flow := ok_l_flow C_cell D_l_flow
  have C_draw := ok_l_draw (P := l.prog) (w := w) (base := base) D_l_draw
  have C_al := ok_l_alike (P := l.prog) (w := w) (base := base) (K := K) B D_l_alike
  have C_look := ok_look_head (P := l.prog) (w := w) (base := base) B KK R_NoHead D_look_head
  have C_told := ok_l_told B S_sorts rfl R_NoHead C_look D_l_sorts D_l_told
  have C_due := ok_l_due (P := l.prog) (w := w) (base := base) B D_l_due
  have C_head := ok_l_head (K := K) B C_draw D_l_head
  have C_bad := ok_l_bad (K := K) C_draw D_l_bad
  have C_sp := ok_l_spoilt B C_draw C_bad D_l_spoilt
  exact ok_law B C_flow C_head C_sp C_told C_due C_al (fun_mk l11 c11 k11)

end Lm
open PySem PySem.W PyProof.Rows
set_option maxRecDepth 100000 in
set_option maxHeartbeats 0 in
theorem PySem.Challenge.cw_leastmaker_k02_heads_looked_at_holds : PySem.Challenge.rw_leastmaker_k02_heads_looked_at.Holds := by
  w_on; o_law; k_head; (case hw => w_witness2)
  k_fill
  refine L2.walk_of (l := PySem.Challenge.rw_leastmaker_k02_heads_looked_at) (n := 63) (k := 10) (x := "_law_script") (CX := fun _ => L2.CX0) (sp := fun w => Lm.spLaw _) rfl (by decide) rfl ⟨rfl, by decide, by decide⟩ (fun w h Y => PySem.W.kIn_of Y) ?F (fun _ _ a ns hl _ hS => ⟨a, ns, rfl, hS, hl, fun _ => rfl⟩) (fun _ _ _ _ _ h => h)
  case F =>
    intro w mg fa h KX G hmg
    refine' Lm.all_mk KX G hmg ?a0 ?l0 ?c0 ?k0 ?a1 ?l1 ?c1 ?k1 ?a2 ?l2 ?c2 ?k2 ?a3 ?l3 ?c3 ?k3 ?a4 ?l4 ?c4 ?k4 ?a5 ?l5 ?c5 ?k5 ?a6 ?l6 ?c6 ?k6 ?a7 ?l7 ?c7 ?k7 ?a8 ?l8 ?c8 ?k8 ?a9 ?l9 ?c9 ?k9 ?a10 ?l10 ?c10 ?k10 ?a11 ?l11 ?c11 ?k11 ?z0 ?z1 ?z2 ?z3 ?z4 ?z5 ?z6 ?z7 ?z8 ?z9 ?z10 ?z11 ?z12 ?a_NoHead ?x_NoHead ?sa_NoHead ?ga_NoHead ?gg_NoHead ?i_NoHead' ?ca_NoHead ?t_NoHead ?l_NoHead ?c_NoHead' ?kf_NoHead ?kc_NoHead ?ex_NoHead ?ty_NoHead ?hd_NoHead ?is_NoHead ?te_NoHead ?ob_NoHead ?gn_NoHead ?tk_NoHead ?f0_NoHead ?f1_NoHead ?y0 ?v0 ?y1 ?v1 ?y2 ?v2 ?y3 ?v3 ?y4 ?v4 ?y5 ?v5 ?y6 ?v6 ?y7 ?v7 ?y8 ?v8 ?y9 ?v9 ?y10 ?v10 ?y11 ?v11 ?aKI ?lKI
    (case a0 => k_is)
    (case l0 => k_is)
    (case c0 => k_is)
    (case k0 => k_is)
    (case a1 => k_is)
    (case l1 => k_is)
    (case c1 => k_is)
    (case k1 => k_is)
    (case a2 => k_is)
    (case l2 => k_is)
    (case c2 => k_is)
    (case k2 => k_is)
    (case a3 => k_is)
    (case l3 => k_is)
    (case c3 => k_is)
    (case k3 => k_is)
    (case a4 => k_is)
    (case l4 => k_is)
    (case c4 => k_is)
    (case k4 => k_is)
    (case a5 => k_is)
    (case l5 => k_is)
    (case c5 => k_is)
    (case k5 => k_is)
    (case a6 => k_is)
    (case l6 => k_is)
    (case c6 => k_is)
    (case k6 => k_is)
    (case a7 => k_is)
    (case l7 => k_is)
    (case c7 => k_is)
    (case k7 => k_is)
    (case a8 => k_is)
    (case l8 => k_is)
    (case c8 => k_is)
    (case k8 => k_is)
    (case a9 => k_is)
    (case l9 => k_is)
    (case c9 => k_is)
    (case k9 => k_is)
    (case a10 => k_is)
    (case l10 => k_is)
    (case c10 => k_is)
    (case k10 => k_is)
    (case a11 => k_is)
    (case l11 => k_is)
    (case c11 => k_is)
    (case k11 => k_is)
    (case z0 => k_is)
    (case z1 => k_is)
    (case z2 => k_is)
    (case z3 => k_is)
    (case z4 => k_is)
    (case z5 => k_is)
    (case z6 => k_is)
    (case z7 => k_is)
    (case z8 => k_is)
    (case z9 => k_is)
    (case z10 => k_is)
    (case z11 => k_is)
    (case z12 => k_is)
    (case a_NoHead => k_is)
    (case x_NoHead => k_is)
    (case sa_NoHead => k_is)
    (case ga_NoHead => k_is)
    (case gg_NoHead => k_is)
    (case i_NoHead' => k_is)
    (case ca_NoHead => k_is)
    (case t_NoHead => k_is)
    (case l_NoHead => k_is)
    (case c_NoHead' => k_is)
    (case kf_NoHead => k_is)
    (case kc_NoHead => k_is)
    (case ex_NoHead => k_is)
    (case ty_NoHead => k_is)
    (case hd_NoHead => k_is)
    (case is_NoHead => k_is)
    (case te_NoHead => first | rfl | k_is)
    (case ob_NoHead => first | rfl | k_is)
    (case gn_NoHead => first | rfl | k_is)
    (case tk_NoHead => first | rfl | k_is)
    (case f0_NoHead => k_is)
    (case f1_NoHead => k_is)
    (case y0 => k_is)
    (case v0 => first | rfl | k_is)
    (case y1 => k_is)
    (case v1 => first | rfl | k_is)
    (case y2 => k_is)
    (case v2 => first | rfl | k_is)
    (case y3 => k_is)
    (case v3 => first | rfl | k_is)
    (case y4 => k_is)
    (case v4 => first | rfl | k_is)
    (case y5 => k_is)
    (case v5 => first | rfl | k_is)
    (case y6 => k_is)
    (case v6 => first | rfl | k_is)
    (case y7 => k_is)
    (case v7 => first | rfl | k_is)
    (case y8 => k_is)
    (case v8 => first | rfl | k_is)
    (case y9 => k_is)
    (case v9 => first | rfl | k_is)
    (case y10 => k_is)
    (case v10 => first | rfl | k_is)
    (case y11 => k_is)
    (case v11 => first | rfl | k_is)
    (case aKI => k_is)
    (case lKI => k_is)

